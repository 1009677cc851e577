/-
  Outlooks: the smallest number of changes, in the code.
-/
import Derived.Test.YtfndhddnglcliaaSb5
set_option linter.unusedVariables false
set_option linter.unusedSimpArgs false
namespace Go.Proofs.Ytfndhddnglcliaa
set_option linter.unusedVariables false
set_option linter.unusedSimpArgs false
open Go Go.ChangeShapes Go.WideShapes Go.ChangeAt Go.RowKit Go.Deep

/-- a block of the call's own, cell by cell -/
def Blk (w : World) (B : Nat) (f : Nat → Value) (n : Nat) : Prop := B < w.heap.size ∧ ∀ j, j < n → w.cell? ⟨B, j, none⟩ = some (f j) ∧ w.frozen? ⟨B, j, none⟩ = false
theorem Blk.gr {w w' : World} {B n : Nat} {f : Nat → Value} (h : Blk w B f n) (g : Gr w w') : Blk w' B f n :=
  ⟨Nat.lt_of_lt_of_le h.1 g.size, fun j hj => ⟨(g.cell B j h.1).trans (h.2 j hj).1, (g.frozen B j h.1).trans (h.2 j hj).2⟩⟩
theorem Blk.grown {w w' : World} {B lo n : Nat} {f : Nat → Value} {row : Option Nat} (h : Blk w B f n) (hg : w.grownBy w' row) (hr : ∀ k, row = some k → lo ≤ k) (hB : B < lo) : Blk w' B f n := by
  have hne : some B ≠ row := fun e => by have := hr B e.symm; omega
  exact ⟨Nat.lt_of_lt_of_le h.1 hg.size, fun j hj => ⟨(hg.cell_far ⟨B, j, none⟩ h.1 hne).trans (h.2 j hj).1, (hg.frozen_far ⟨B, j, none⟩ h.1 hne).trans (h.2 j hj).2⟩⟩
theorem Blk.set {w : World} {B n k : Nat} {f : Nat → Value} (h : Blk w B f n) (v : Value) (hv : v.oneCell' = true) (hk : k < n) : Blk (w.setCell ⟨B, k, none⟩ v) B (fun j => if j = k then v else f j) n := by
  refine ⟨by simpa using h.1, fun j hj => ?_⟩
  obtain ⟨c1, f1⟩ := h.2 j hj
  obtain ⟨c2, f2⟩ := h.2 k hk
  by_cases hjk : j = k
  · subst hjk
    dsimp only
    rw [if_pos rfl]
    exact ⟨by simp [go_sem, c2], by simp [go_sem, f1]⟩
  · dsimp only
    rw [if_neg hjk]
    exact ⟨by simp [go_sem, c1, c2, hjk], by simp [go_sem, f1]⟩
theorem Blk.seti {w : World} {B n k : Nat} {f : Nat → Nat} (h : Blk w B (fun j => iv (f j)) n) (x : Nat) (hk : k < n) : Blk (w.setCell ⟨B, k, none⟩ (iv x)) B (fun j => iv ((if j = k then x else f j : Nat))) n := by
  have := Blk.set h (iv x) rfl hk
  refine ⟨this.1, fun j hj => ?_⟩
  obtain ⟨a, b⟩ := this.2 j hj
  refine ⟨?_, b⟩
  rw [a]
  dsimp only
  by_cases e : j = k
  · rw [if_pos e, if_pos e]
  · rw [if_neg e, if_neg e]
def zOlk : Value := .agg (Array.replicate 512 (.int .i64 0))
theorem info_olk : ∃ i, Try.prog.info? 44 = some i ∧ i.zero = some zOlk ∧ i.size = 512 ∧ i.bytes = 4096 := by
  have hi : (Try.prog.info? 44).map (fun i => (i.zero, i.size, i.bytes)) = some (some zOlk, 512, 4096) := by kernel_rfl
  cases e1 : Try.prog.info? 44 with
  | none => rw [e1] at hi; cases hi
  | some i =>
    rw [e1] at hi
    simp only [Option.map_some, Option.some.injEq, Prod.mk.injEq] at hi
    exact ⟨i, rfl, hi.1, hi.2.1, hi.2.2⟩
theorem elOlk : ElT Try.prog 45 44 512 4096 := elT_of zOlk Try.underlying45 (by kernel_rfl) (by kernel_rfl)
theorem zOlk_cells : zOlk.cells = Array.replicate 512 (.int .i64 0) := rfl
theorem made_zero (n j : Nat) (h : j < n * 512) : (madeCells zOlk.cells (n * 512)).toList[j]? = some (iv 0) := by
  rw [zOlk_cells]
  unfold madeCells
  simp only [Array.toList_map, Array.toList_range, List.getElem?_map]
  rw [List.getElem?_range h]
  have : j % 512 < 512 := Nat.mod_lt _ (by decide)
  simp only [Array.size_replicate, Option.map_some]
  rw [getElem!_pos _ _ (by simpa using this), Array.getElem_replicate]
theorem own_blk {w : World} {base B n : Nat} {e : TypeId} {d : Nat} {xs : List Value} {v : Value} (h : w.ownsRow base e 512 (.slice (some ⟨B, 0, none⟩) n d) n xs) (hx : ∀ j, j < n * 512 → xs[j]? = some v) : Blk w B (fun _ => v) (n * 512) := by
  refine ⟨(World.ownsRow.lt h B rfl).2, fun j hj => ⟨?_, World.ownsRow.frozenAt h j⟩⟩
  rw [World.ownsRow.cellAt h j hj, hx j hj]
/-- all outlooks from step k on -/
def Olf (s : Nat) (ss : List Nat) (f : Nat → Nat) (k : Nat) : Prop := ∀ j m, k ≤ j → j ≤ ss.length → m < 512 → LS.cd m ≤ s → f (j * 512 + m) = LS.outl s (ss.drop j) m
/-- .. and those of step t for the sets below M -/
def Olp (s : Nat) (ss : List Nat) (f : Nat → Nat) (t M : Nat) : Prop := ∀ m, m < M → LS.cd m ≤ s → f (t * 512 + m) = LS.outl s (ss.drop t) m
def Olks (w : World) (B s : Nat) (ss : List Nat) : Prop := ∀ j, j ≤ ss.length → Olk w B (j * 512) s (LS.outl s (ss.drop j))
theorem olks_of {w : World} {B s : Nat} {ss : List Nat} {f : Nat → Nat} (h : Blk w B (fun j => iv (f j)) ((ss.length + 1) * 512)) (hf : Olf s ss f 0) : Olks w B s ss := by
  intro j hj
  refine ⟨h.1, fun m hm hc => ?_⟩
  rw [(h.2 (j * 512 + m) (by omega)).1]
  dsimp only
  rw [hf j m (Nat.zero_le _) hj hm hc]
theorem olf_set {s : Nat} {ss : List Nat} {f : Nat → Nat} {t M x : Nat} (h : Olf s ss f (t + 1)) (hM : M < 512) : Olf s ss (fun j => if j = t * 512 + M then x else f j) (t + 1) := by
  intro j m hj hl hm hc
  rw [← h j m hj hl hm hc]
  exact if_neg (by omega)
theorem olp_set {s : Nat} {ss : List Nat} {f : Nat → Nat} {t M x : Nat} (h : Olp s ss f t M) (hx : x = LS.outl s (ss.drop t) M) : Olp s ss (fun j => if j = t * 512 + M then x else f j) t (M + 1) := by
  intro m hm hc
  by_cases e : m = M
  · subst e
    rw [← hx]
    exact if_pos rfl
  · rw [← h m (by omega) hc]
    exact if_neg (by omega)
theorem olp_skip {s : Nat} {ss : List Nat} {f : Nat → Nat} {t M : Nat} (h : Olp s ss f t M) (hc : ¬ LS.cd M ≤ s) : Olp s ss f t (M + 1) := by
  intro m hm hcm
  by_cases e : m = M
  · subst e
    exact absurd hcm hc
  · exact h m (by omega) hcm
theorem olf_step {s : Nat} {ss : List Nat} {f : Nat → Nat} {t : Nat} (h : Olf s ss f (t + 1)) (hp : Olp s ss f t 512) : Olf s ss f t := by
  intro j m hj hl hm hc
  by_cases e : j = t
  · subst e
    exact hp m hm hc
  · exact h j m (by omega) hl hm hc
theorem olf_start (s : Nat) (ss : List Nat) : Olf s ss (fun _ => 0) ss.length := by
  intro j m hj hl hm hc
  obtain rfl : j = ss.length := by omega
  rw [List.drop_length]
  rfl
theorem olk_of {w : World} {B s t : Nat} {ss : List Nat} {f : Nat → Nat} (h : Blk w B (fun j => iv (f j)) ((ss.length + 1) * 512)) (hf : Olf s ss f (t + 1)) (ht : t < ss.length) : Olk w B ((t + 1) * 512) s (LS.outl s (ss.drop (t + 1))) := by
  refine ⟨h.1, fun m hm hc => ?_⟩
  rw [(h.2 ((t + 1) * 512 + m) (by omega)).1]
  dsimp only
  rw [hf (t + 1) m (Nat.le_refl _) ht hm hc]
set_option maxRecDepth 100000 in
set_option maxHeartbeats 4000000 in
theorem outlooks_any (A : Option Addr) (c : Nat) (ss : List Nat) (s : Nat) (w : World) (hl : SlU w A c ss) (hn : ss.length ≤ 24) (hlt : ∀ n ∈ ss, n < 512) (hs : s ≤ 3) :
    Calls Try.prog 12 #[.slice A ss.length c, iv s] w fun e w' => ∃ B, e = .returned (.slice (some ⟨B, 0, none⟩) (ss.length + 1) (ss.length + 1)) ∧ Olks w' B s ss ∧ Gr w w' := by
  have n1 := hl.cap
  have n2 := hl.capB
  have HL := hide hl
  have HT := hide hlt
  obtain ⟨i, hi, hz, hsz, hby⟩ := info_olk
  clear hl hlt
  go_enter Try.func12, Try.ntmps12
  go_wp2_with (refine wpList_make_full w rfl _ _ _ rfl w.heap.size 44 i zOlk 512 elOlk.und hi hz hsz .i64 .i64 _ _ (ss.length + 1) rfl rfl (by omega) (by omega) (by rw [hby]; omega) (by unfold maxLen; omega) (Nat.le_refl _) ?_; intro w1 hown1 hg1)
  have g1 : Gr w w1 := Gr.grown (Gr.refl _) hg1 (fun k hk => by cases hk)
  have HB1 := hide (own_blk hown1 (fun j hj => made_zero _ j hj))
  have sB : w.heap.size < w1.heap.size := HB1.out.1
  have uo : Try.prog.underlying 44 = some (.array 512 3) := by kernel_rfl
  clear hown1 hg1 hi hz hsz hby
  obtain ⟨B, hBe⟩ : ∃ B, w.heap.size = B := ⟨_, rfl⟩
  rw [hBe] at HB1 sB
  simp only [hBe]
  have HBE : w.heap.size ≤ B := by omega
  clear hBe
  go_wp2
  go_loopw [6] (fun i wr => ∃ (k : Nat) (f : Nat → Nat), k ≤ ss.length ∧ i = .int .i64 ((k : Int) - 1) ∧ Gr w wr ∧ Hid (Blk wr B (fun j => iv (f j)) ((ss.length + 1) * 512)) ∧ Hid (Olf s ss f k)) (fun i _ => (intOf i + 1).toNat)
  case atStart => exact ⟨ss.length, fun _ => 0, by omega, rfl, g1, HB1, olf_start s ss⟩
  case round =>
    obtain ⟨k, f, hk, rfl, g, HB, HF⟩ := hrel
    by_cases hk0 : k = 0
    · subst hk0
      have HE := hide (olks_of HB.out HF.out)
      go_wp2
      go_ret
      exact ⟨B, rfl, HE.out, g⟩
    · obtain ⟨t, rfl⟩ : ∃ t, k = t + 1 := ⟨k - 1, by omega⟩
      have ht : t < ss.length := by omega
      rw [show ((t + 1 : Nat) : Int) - 1 = (t : Int) by omega]
      obtain ⟨n, hn'⟩ : ∃ n, ss[t]? = some n := ⟨_, List.getElem?_eq_getElem ht⟩
      have HN := hide hn'
      have hnl := HT.out n (List.mem_of_getElem? hn')
      have ht0 : (0 : Int) ≤ (t : Int) := by omega
      obtain ⟨wo, rfl⟩ : ∃ wo, wo = wr := ⟨_, rfl⟩
      clear hk0 hn'
      go_wp2
      go_loopw [7, 19] (fun _ u wr => ∃ (M : Nat) (f' : Nat → Nat), M ≤ 512 ∧ u = uv M ∧ Gr w wr ∧ Hid (Blk wr B (fun j => iv (f' j)) ((ss.length + 1) * 512)) ∧ Hid (Olf s ss f' (t + 1)) ∧ Hid (Olp s ss f' t M)) (fun _ u _ => 512 - (intOf u).toNat)
      case atStart => exact ⟨0, f, by omega, rfl, g, HB, HF, hide (fun m hm => absurd hm (Nat.not_lt_zero m))⟩
      case round =>
        clear HB HF g
        obtain ⟨M, f', hM, rfl, g, HB, HF, HP⟩ := hrel
        by_cases hMl : M < 512
        · have HZ := hide (fun w => size_any M w hMl)
          have hM0 : (0 : Int) ≤ (M : Int) := by omega
          have hM1 : (M : Int) < 512 := by omega
          by_cases hc : LS.cd M ≤ s
          · have hc' : decide (LS.cd M ≤ s) = true := by simpa using hc
            have hOL := olk_of HB.out HF.out ht
            have HBF := hide (fun (w' : World) (g' : Gr wr w') => before_any B ((t + 1) * 512) s M n _ w' (hOL.gr g') hMl hnl hs hc)
            obtain ⟨b, o, rfl, x0⟩ := (HL.out.gr g).rd.uv_ HN.out
            have x1 := (HB.out.2 (t * 512 + M) (by omega)).1
            have x2 := (HB.out.2 (t * 512 + M) (by omega)).2
            have sB' := HB.out.1
            have ht1 : (t : Int) < (ss.length : Int) := by omega
            have ht2 : (t : Int) < (ss.length : Int) + 1 := by omega
            have ht3 : (t : Int) + 1 < (ss.length : Int) + 1 := by omega
            have W1 : IntKind.i64.wrap ((t : Int) + 1) = (t : Int) + 1 := IntWalk.i64_in _ (by omega)
            have hsb : b < wr.heap.size := cell_lt (by rw [x0]; rfl)
            clear hc hOL
            go_upto_region 9 with (first | (go_at_call 31; refine (HZ.out _).mono ?_; rintro e w1 ⟨rfl, rfl⟩))
            have GC := @GrW.cell
            refine wp_region_grw_tail _ 16 (by kernel_rfl) (by kernel_rfl) (Gr.refl _) ?_
            simp only [List.take_succ_cons, List.take_zero, List.drop_succ_cons, List.drop_zero]
            repeat (go_big_quiet_step ((first | (go_at_call 32; exact quiet_grw (HBF.out _ (GrW.gr _))))))
            refine wpQuiet_nil ?_
            intro wq hwq
            obtain ⟨gq, hwq'⟩ := hwq
            subst hwq'
            clear GC
            have gq1 := gq.gr
            generalize gq.w = wq at gq1 ⊢
            obtain ⟨Xq, Yq, cq, fq⟩ := gq1.use
            have sq := gq1.size
            (try simp only [World.size_alloc, World.size_setCell, World.heap_drewN] at sq)
            have HB' := hide (Blk.seti (k := t * 512 + M) (HB.out.gr gq1) (bef s (LS.outl s (ss.drop (t + 1))) n M) (by omega))
            have HF' := hide (olf_set (x := bef s (LS.outl s (ss.drop (t + 1))) n M) HF.out hMl)
            have HP' := hide (olp_set (x := bef s (LS.outl s (ss.drop (t + 1))) n M) HP.out (by rw [bef_outl, drop_at HN.out]))
            clear HB HF HP
            generalize bef s (LS.outl s (ss.drop (t + 1))) n M = X at *
            go_wp2
            go_roundw
            case rel => exact ⟨M + 1, _, by omega, by go_num, (by repeat (first | with_reducible exact Gr.refl _ | with_reducible assumption | with_reducible refine Gr.alloc ?_ _ | with_reducible refine Gr.drewN ?_ _ | with_reducible refine Gr.drew ?_ | with_reducible refine Gr.setCell ?_ (by first | (dsimp only; omega) | (simp only [World.size_alloc]; omega) | (with_reducible refine Gr.size ?_; (repeat (first | with_reducible exact Gr.refl _ | with_reducible assumption | with_reducible refine Gr.alloc ?_ _ | with_reducible refine Gr.drewN ?_ _ | with_reducible refine Gr.drew ?_ | with_reducible refine Gr.trans ?_ (by with_reducible assumption))); done)) _ | with_reducible refine Gr.trans ?_ (by with_reducible assumption))), HB', HF', HP'⟩
            case measure => simp only [intOf]; omega
          · have hc' : decide (LS.cd M ≤ s) = false := by simpa using hc
            have HP' := hide (olp_skip HP.out hc)
            clear hc
            go_wp2_with (first | (go_at_call 31; refine (HZ.out _).mono ?_; rintro e w1 ⟨rfl, rfl⟩))
            go_roundw
            case rel => exact ⟨M + 1, f', by omega, by go_num, (by repeat (first | with_reducible exact Gr.refl _ | with_reducible assumption | with_reducible refine Gr.alloc ?_ _ | with_reducible refine Gr.drewN ?_ _ | with_reducible refine Gr.drew ?_ | with_reducible refine Gr.setCell ?_ (by first | (dsimp only; omega) | (simp only [World.size_alloc]; omega) | (with_reducible refine Gr.size ?_; (repeat (first | with_reducible exact Gr.refl _ | with_reducible assumption | with_reducible refine Gr.alloc ?_ _ | with_reducible refine Gr.drewN ?_ _ | with_reducible refine Gr.drew ?_ | with_reducible refine Gr.trans ?_ (by with_reducible assumption))); done)) _ | with_reducible refine Gr.trans ?_ (by with_reducible assumption))), HB, HF, HP'⟩
            case measure => simp only [intOf]; omega
        · have hMz : decide ((M : Int) < 512) = false := by rw [decide_eq_false_iff_not]; omega
          have HF' := hide (olf_step HF.out (show Olp s ss f' t 512 by have := HP.out; rwa [show M = 512 by omega] at this))
          clear HF HP
          go_wp2
          go_roundw
          case rel => exact ⟨t, f', by omega, rfl, (by repeat (first | with_reducible exact Gr.refl _ | with_reducible assumption | with_reducible refine Gr.alloc ?_ _ | with_reducible refine Gr.drewN ?_ _ | with_reducible refine Gr.drew ?_ | with_reducible refine Gr.setCell ?_ (by first | (dsimp only; omega) | (simp only [World.size_alloc]; omega) | (with_reducible refine Gr.size ?_; (repeat (first | with_reducible exact Gr.refl _ | with_reducible assumption | with_reducible refine Gr.alloc ?_ _ | with_reducible refine Gr.drewN ?_ _ | with_reducible refine Gr.drew ?_ | with_reducible refine Gr.trans ?_ (by with_reducible assumption))); done)) _ | with_reducible refine Gr.trans ?_ (by with_reducible assumption))), HB, HF'⟩
          case measure => simp only [intOf]; omega
end Go.Proofs.Ytfndhddnglcliaa
