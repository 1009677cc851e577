/-
  Best of the code: permutations, by a closure that calls itself.
-/
import Derived.Test.YtfndhddnglcliaaBst2
set_option linter.unusedVariables false
set_option linter.unusedSimpArgs false
namespace Go.Proofs.Ytfndhddnglcliaa
set_option linter.unusedVariables false
set_option linter.unusedSimpArgs false
open Go Go.ChangeShapes Go.WideShapes Go.ChangeAt Go.RowKit Go.Deep

set_option maxRecDepth 100000 in
set_option maxHeartbeats 2000000 in
theorem extend_any (w0 : World) (x : Bx) (A : Option Addr) (c : Nat) (js : List Jb) (q : Nat) (hx : x.ok w0.heap.size) (hj : SlJ w0 A c js) (hwd : wdB js = false) (h0 : joE js = 0) (ht : toN js ≤ 24) (hq : 1 ≤ q ∧ q ≤ 3) :
    ∀ (d : Nat) (pre : List Int) (st : List Int × Nat) (w : World), PX w0 x A c js q pre st w → pre.length + d = js.length → (∀ o ∈ exts js.length d pre, pmB o js.length = true) →
    Calls Try.prog 39 #[pb x.o, pb x.n, pb x.v, pb x.e] w fun e w' => e = .returned (.tuple #[]) ∧ PX w0 x A c js q pre ((exts js.length d pre).foldl (bsF js q) st) w' := by
  have hj4 := joE_len h0
  intro d
  induction d with
  | zero =>
    intro pre st w h hd hp
    have HV := hide (visit_any w0 x A c js q pre st w h hx hj hwd h0 ht hq (hp pre (by simp [exts])))
    have he : ((pre.length : Int) == (js.length : Int)) = true := by rw [beq_iff_eq]; omega
    have x1 := h.co.1
    have x2 := h.cn.1
    have x3 := h.cv.1
    clear h hx hj hwd h0 ht hp hd
    go_enter Try.func39, Try.ntmps39
    go_wp2_with fail
    refine HV.out.mono ?_
    rintro e w1 ⟨rfl, h1⟩
    go_wp2
    first | go_end0 | refine bodyPost_ret (results_none rfl _ _ _) rfl ?_
    exact ⟨rfl, h1⟩
  | succ d ih =>
    intro pre st w h hd hp
    have he : ((pre.length : Int) == (js.length : Int)) = false := by rw [beq_eq_false_iff_ne]; omega
    have x1 := h.co.1
    have x2 := h.cn.1
    obtain ⟨i0, z0, hi0, hz0, hsz0, hby0, hzs0⟩ := elInt.inf
    have HI := hide (fun (k : Nat) (hk : k < js.length) (hn : ¬ (k : Int) ∈ pre) (st : List Int × Nat) (w : World) (h : PX w0 x A c js q (pre ++ [(k : Int)]) st w) => ih (pre ++ [(k : Int)]) st w h (by simp; omega) (fun o ho => hp o (by
      rw [exts_succ]
      unfold extk
      refine List.mem_flatMap.2 ⟨k, List.mem_range.2 hk, ?_⟩
      rw [if_neg hn]
      exact ho)))
    have H := hide h
    have HXK := hide hx
    have HE := hide (show exts js.length (d + 1) pre = extk js.length d pre js.length from exts_succ ..)
    obtain ⟨n, hn⟩ : ∃ n, js.length = n := ⟨_, rfl⟩
    have HN := hide hn
    clear h hx hj hwd h0 ht hp ih
    rw [hn] at he hd x2 x1 hj4
    rw [HE.out]
    clear hn
    have hpl : pre.length < n := by omega
    go_enter Try.func39, Try.ntmps39
    go_wp2
    go_loopw [13] (fun i wr => ∃ k : Nat, k ≤ n ∧ i = iv k ∧ Hid (PX w0 x A c js q pre ((extk js.length d pre k).foldl (bsF js q) st) wr)) (fun i _ => n - (intOf i).toNat)
    case atStart => exact ⟨0, by omega, rfl, H⟩
    case round =>
      clear x1 x2 H
      obtain ⟨k, hk, rfl, H⟩ := hrel
      have x1 := H.out.co.1
      rw [HN.out] at x1
      have lo := H.out.co.lt
      by_cases hkn : k < n
      · have hk0 : (0 : Int) ≤ (k : Int) := by omega
        have hk1 : (k : Int) < (n : Int) := by omega
        have HC := hide (contains_any (some ⟨x.r, 0, none⟩) n pre (k : Int) wr (by have := H.out.sli; rwa [HN.out] at this))
        by_cases hm : (k : Int) ∈ pre
        · have HK := hide (extk_yes (n := js.length) (d := d) hm)
          rw [decide_eq_true hm] at HC
          clear hm
          go_wp2_with (first | (go_at_call 22; refine (HC.out).mono ?_; rintro e w1 ⟨rfl, rfl⟩))
          go_roundw
          case rel => exact ⟨k + 1, by omega, by go_num, by rw [HK.out]; exact H⟩
          case measure => simp only [intOf]; omega
        · have HK := hide (extk_no (n := js.length) (d := d) hm)
          have HI1 := hide (HI.out k (by rw [HN.out]; exact hkn) hm)
          rw [decide_eq_false hm] at HC
          have f1 := H.out.co.2
          have hrow := H.out.row
          rw [HN.out] at hrow
          have HROW := hide hrow
          clear hm hrow
          have ho5 : At1 wr x.o (.slice (some ⟨x.r, 0, none⟩) pre.length n) := by have := H.out.co; rwa [HN.out] at this
          have HO5 := hide ho5
          have hor : ¬ x.o = x.r := by obtain ⟨x1, x2, x3, x4, x5, x6, x7, x8, x9, x10⟩ := HXK.out; omega
          clear ho5
          go_upto_region 7 with (first | (go_at_call 22; refine (HC.out).mono ?_; rintro e w1 ⟨rfl, rfl⟩) | (refine wpList_append_fits _ rfl _ _ _ rfl x.r 3 i0 1 elInt.und hi0 hsz0 x.r pre.length n (pre.map iv) rfl (row_eb HROW.out (Eb.of_gr (x.r + 1) (Gr.alloc (Gr.refl _) _)) (by omega)) _ 1 _ [iv k] rfl rfl (news1 (by simp [go_sem])) (by intro u hu; simp at hu; subst hu; rfl) (by omega) ?_; intro w5 hr5 hg5; have h5 := At1.eb (HO5.out.gr (Gr.alloc (Gr.refl _) _)) (Eb.grown hg5) hor; have x5 := h5.1; have f5 := h5.2; have l5 := h5.lt))
          have H6 := hide (show PX w0 x A c js q (pre ++ [(k : Int)]) ((extk js.length d pre k).foldl (bsF js q) st) (w5.setCell ⟨x.o, 0, none⟩ (.slice (some ⟨x.r, 0, none⟩) (pre.length + 1) n)) from by
            have h6 := PX.push (H.out.keep (Gr.alloc (Gr.refl _) _)) HXK.out (z := (k : Int)) (by rw [HN.out]; exact hr5) hg5
            rw [← HN.out]
            exact h6)
          generalize w5.setCell ⟨x.o, 0, none⟩ (.slice (some ⟨x.r, 0, none⟩) (pre.length + 1) n) = w6 at *
          have y1 := H6.out.ce.1
          have HI2 := hide (HI1.out _ w6 H6.out)
          clear h5 x5 f5 l5 hr5 hg5 HI1 H6 x1 f1
          go_wp2_with fail
          refine HI2.out.mono ?_
          rintro e w7 ⟨rfl, h7⟩
          have H7 := hide h7
          have y1 := h7.co.1
          have y2 := h7.co.2
          have y3 := h7.co.lt
          rw [HN.out, show (pre ++ [(k : Int)]).length = pre.length + 1 by simp] at y1
          have W1 : IntKind.i64.wrap ((pre.length : Int) + 1 - 1) = (pre.length : Int) := by rw [show (pre.length : Int) + 1 - 1 = pre.length by omega]; exact IntWalk.i64_in _ (by omega)
          have W2 : (pre.length : Int) ≤ (n : Int) := by omega
          have W3 : (0 : Int) ≤ (pre.length : Int) := by omega
          have H8 := hide (show PX w0 x A c js q pre ((extk js.length d pre (k + 1)).foldl (bsF js q) st) (w7.setCell ⟨x.o, 0, none⟩ (.slice (some ⟨x.r, 0, none⟩) pre.length n)) from by
            have h8 := h7.pop HXK.out
            rw [← List.foldl_append, ← HK.out] at h8
            rw [← HN.out]
            exact h8)
          clear h7 HI2
          go_wp2
          go_roundw
          case rel => exact ⟨k + 1, by omega, by go_num, H8⟩
          case measure => simp only [intOf]; omega
      · obtain rfl : k = n := by omega
        rw [HN.out] at H
        go_wp2
        first | go_end0 | refine bodyPost_ret (results_none rfl _ _ _) rfl ?_
        exact ⟨rfl, by rw [HN.out]; exact H.out⟩
end Go.Proofs.Ytfndhddnglcliaa
