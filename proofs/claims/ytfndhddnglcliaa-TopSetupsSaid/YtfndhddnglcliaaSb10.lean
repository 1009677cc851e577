/-
  Blocked windows, on both sides; Serves and Blocked.
-/
import Derived.Test.YtfndhddnglcliaaSb9
set_option linter.unusedVariables false
set_option linter.unusedSimpArgs false
namespace Go.Proofs.Ytfndhddnglcliaa
set_option linter.unusedVariables false
set_option linter.unusedSimpArgs false
open Go Go.ChangeShapes Go.WideShapes Go.ChangeAt Go.RowKit Go.Deep

/-- whether a set of at most s pairs does not serve -/
def bkF (ss : List Nat) (s f t m : Nat) : Bool := !(decide (LS.cd m ≤ s) && svB ss f t m)
def bkB (ss : List Nat) (s f t : Nat) : Bool := (List.range 512).all (bkF ss s f t)
theorem bk_stop {ss : List Nat} {s f t m : Nat} (hm : m < 512) (h : LS.cd m ≤ s) (k : svB ss f t m = true) : bkB ss s f t = false := by
  unfold bkB
  rw [List.all_eq_false]
  exact ⟨m, List.mem_range.2 hm, by simp [bkF, h, k]⟩
theorem bk_end {ss : List Nat} {s f t : Nat} (h : ∀ m, m < 512 → bkF ss s f t m = true) : bkB ss s f t = true := by
  unfold bkB
  rw [List.all_eq_true]
  exact fun m hm => h m (List.mem_range.1 hm)
theorem bkF_big {ss : List Nat} {s f t m : Nat} (h : ¬ LS.cd m ≤ s) : bkF ss s f t m = true := by simp [bkF, h]
theorem bkF_no {ss : List Nat} {s f t m : Nat} (h : svB ss f t m = false) : bkF ss s f t m = true := by simp [bkF, h]
theorem below {P : Nat → Prop} {k : Nat} (H : ∀ i, i < k → P i) (h : P k) : ∀ i, i < k + 1 → P i := by
  intro i hi
  rcases Nat.lt_or_ge i k with h1 | h1
  · exact H i h1
  · obtain rfl : i = k := by omega
    exact h
set_option maxRecDepth 100000 in
set_option maxHeartbeats 2000000 in
theorem blocked_any (A : Option Addr) (c : Nat) (ss : List Nat) (s f t : Nat) (w : World) (hl : SlU w A c ss) (hlt : ∀ n ∈ ss, n < 512) (hf : f ≤ t) (ht : t < ss.length) (hss : ss.length ≤ 1000) :
    Calls Try.prog 19 #[.slice A ss.length c, iv s, wdv ⟨f, t⟩] w fun e w' => e = .returned (.bool (bkB ss s f t)) ∧ Gr w w' := by
  have n1 := hl.cap
  have n2 := hl.capB
  have HL := hide hl
  have HT := hide hlt
  have HSV := hide (fun (m : Nat) (hm : m < 512) (w' : World) (g : Gr w w') => serves_any A c ss m f t w' (hl.gr g) hm hlt hf ht hss)
  clear hl hlt
  go_enter Try.func19, Try.ntmps19
  go_wp2
  go_loopw [8] (fun u wr => ∃ M : Nat, M ≤ 512 ∧ u = uv M ∧ Gr (w.alloc (.cells #[iv f, iv t] 59)) wr ∧ Hid (∀ m, m < M → bkF ss s f t m = true)) (fun u _ => 512 - (intOf u).toNat)
  case atStart => exact ⟨0, by omega, rfl, Gr.refl _, hide (fun i hi => absurd hi (Nat.not_lt_zero i))⟩
  case round =>
    obtain ⟨M, hM, rfl, g, HK⟩ := hrel
    obtain ⟨Xr, Yr, cr, fr⟩ := g.use
    have gw : Gr w wr := Gr.trans (by repeat (first | with_reducible exact Gr.refl _ | with_reducible assumption | with_reducible refine Gr.alloc ?_ _ | with_reducible refine Gr.drewN ?_ _ | with_reducible refine Gr.drew ?_ | with_reducible refine Gr.setCell ?_ (by first | (dsimp only; omega) | (simp only [World.size_alloc]; omega) | (with_reducible refine Gr.size ?_; (repeat (first | with_reducible exact Gr.refl _ | with_reducible assumption | with_reducible refine Gr.alloc ?_ _ | with_reducible refine Gr.drewN ?_ _ | with_reducible refine Gr.drew ?_ | with_reducible refine Gr.trans ?_ (by with_reducible assumption))); done)) _ | with_reducible refine Gr.trans ?_ (by with_reducible assumption))) g
    by_cases hMl : M < 512
    · have HZ := hide (fun w => size_any M w hMl)
      have hM1 : (M : Int) < 512 := by omega
      by_cases hc : LS.cd M ≤ s
      · have hc' : decide (LS.cd M ≤ s) = true := by simpa using hc
        have HS := hide (HSV.out M hMl wr gw)
        cases hv : svB ss f t M with
        | true =>
          have HE := hide (bk_stop hMl hc hv)
          rw [hv] at HS
          clear hv hc
          go_wp2_with (first | (go_at_call 31; refine (HZ.out _).mono ?_; rintro e w1 ⟨rfl, rfl⟩) | (go_at_call 35; refine (HS.out).mono ?_; rintro e w1 ⟨rfl, g1⟩; obtain ⟨X1, Y1, c1, f1⟩ := g1.use))
          go_ret
          exact ⟨ret_bool HE.out.symm, (by repeat (first | with_reducible exact Gr.refl _ | with_reducible assumption | with_reducible refine Gr.alloc ?_ _ | with_reducible refine Gr.drewN ?_ _ | with_reducible refine Gr.drew ?_ | with_reducible refine Gr.setCell ?_ (by first | (dsimp only; omega) | (simp only [World.size_alloc]; omega) | (with_reducible refine Gr.size ?_; (repeat (first | with_reducible exact Gr.refl _ | with_reducible assumption | with_reducible refine Gr.alloc ?_ _ | with_reducible refine Gr.drewN ?_ _ | with_reducible refine Gr.drew ?_ | with_reducible refine Gr.trans ?_ (by with_reducible assumption))); done)) _ | with_reducible refine Gr.trans ?_ (by with_reducible assumption)))⟩
        | false =>
          have HE := hide (below HK.out (bkF_no (s := s) hv))
          rw [hv] at HS
          clear hv hc
          go_wp2_with (first | (go_at_call 31; refine (HZ.out _).mono ?_; rintro e w1 ⟨rfl, rfl⟩) | (go_at_call 35; refine (HS.out).mono ?_; rintro e w1 ⟨rfl, g1⟩; obtain ⟨X1, Y1, c1, f1⟩ := g1.use))
          go_roundw
          case rel => exact ⟨M + 1, by omega, by go_num, (by repeat (first | with_reducible exact Gr.refl _ | with_reducible assumption | with_reducible refine Gr.alloc ?_ _ | with_reducible refine Gr.drewN ?_ _ | with_reducible refine Gr.drew ?_ | with_reducible refine Gr.setCell ?_ (by first | (dsimp only; omega) | (simp only [World.size_alloc]; omega) | (with_reducible refine Gr.size ?_; (repeat (first | with_reducible exact Gr.refl _ | with_reducible assumption | with_reducible refine Gr.alloc ?_ _ | with_reducible refine Gr.drewN ?_ _ | with_reducible refine Gr.drew ?_ | with_reducible refine Gr.trans ?_ (by with_reducible assumption))); done)) _ | with_reducible refine Gr.trans ?_ (by with_reducible assumption))), HE⟩
          case measure => simp only [intOf]; omega
      · have hc' : decide (LS.cd M ≤ s) = false := by simpa using hc
        have HE := hide (below HK.out (bkF_big (ss := ss) (f := f) (t := t) hc))
        clear hc
        go_wp2_with (first | (go_at_call 31; refine (HZ.out _).mono ?_; rintro e w1 ⟨rfl, rfl⟩))
        go_roundw
        case rel => exact ⟨M + 1, by omega, by go_num, (by repeat (first | with_reducible exact Gr.refl _ | with_reducible assumption | with_reducible refine Gr.alloc ?_ _ | with_reducible refine Gr.drewN ?_ _ | with_reducible refine Gr.drew ?_ | with_reducible refine Gr.setCell ?_ (by first | (dsimp only; omega) | (simp only [World.size_alloc]; omega) | (with_reducible refine Gr.size ?_; (repeat (first | with_reducible exact Gr.refl _ | with_reducible assumption | with_reducible refine Gr.alloc ?_ _ | with_reducible refine Gr.drewN ?_ _ | with_reducible refine Gr.drew ?_ | with_reducible refine Gr.trans ?_ (by with_reducible assumption))); done)) _ | with_reducible refine Gr.trans ?_ (by with_reducible assumption))), HE⟩
        case measure => simp only [intOf]; omega
    · have hMz : decide ((M : Int) < 512) = false := by rw [decide_eq_false_iff_not]; omega
      have HE := hide (bk_end (ss := ss) (s := s) (f := f) (t := t) fun m hm => HK.out m (by omega))
      go_wp2
      go_ret
      exact ⟨ret_bool HE.out.symm, (by repeat (first | with_reducible exact Gr.refl _ | with_reducible assumption | with_reducible refine Gr.alloc ?_ _ | with_reducible refine Gr.drewN ?_ _ | with_reducible refine Gr.drew ?_ | with_reducible refine Gr.setCell ?_ (by first | (dsimp only; omega) | (simp only [World.size_alloc]; omega) | (with_reducible refine Gr.size ?_; (repeat (first | with_reducible exact Gr.refl _ | with_reducible assumption | with_reducible refine Gr.alloc ?_ _ | with_reducible refine Gr.drewN ?_ _ | with_reducible refine Gr.drew ?_ | with_reducible refine Gr.trans ?_ (by with_reducible assumption))); done)) _ | with_reducible refine Gr.trans ?_ (by with_reducible assumption)))⟩
/-- the bits below k -/
def cdk (m k : Nat) : Nat := (List.range k).countP m.testBit
def dv (m k : Nat) : Nat := m / 2 ^ k
theorem cnt_all : ∀ (m : Fin 512) (k : Fin 10), (dv m.val k.val = 0 → cdk m.val k.val = LS.cd m.val) ∧ cdk m.val (k.val + 1) = cdk m.val k.val + dv m.val k.val % 2 := by decide +kernel
theorem and_one_all : ∀ m : Fin 512, bits .and .i64 ((m.val : Nat) : Int) 1 = ((m.val % 2 : Nat) : Int) := by decide +kernel
end Go.Proofs.Ytfndhddnglcliaa
