/-
  The reference's Clash; PartClashes: the walk.
-/
import Derived.Test.YtdabhnefoigebaaGreatClash8
set_option linter.unusedVariables false
set_option linter.unusedSimpArgs false
namespace Go.Proofs.YtdabhnefoigebaaGreat
set_option linter.unusedVariables false
set_option linter.unusedSimpArgs false
open Go Go.ChangeShapes Go.WideShapes Go.ChangeAt Go.RowKit Go.Deep

theorem rnormal_any (f : Fc) (w : World) :
    Calls Tryz.prog 116 #[fv f] w fun e w' => e = .returned (vc (nx f) (ny f) (nz f)) ∧ Gr w w' := by
  go_enter Tryz.func116, Tryz.ntmps116
  go_wp2
  have GC := fun (g : GrW ((w.alloc (.cells #[iv f.ox, iv f.oy, iv f.oz, iv f.ux, iv f.uy, iv f.uz, iv f.vx, iv f.vy, iv f.vz, iv f.w, iv f.h] 119)).alloc (.cells #[iv 0, iv 0, iv 0] 117))) i o => g.cell i o
  refine wp_region_grw_tail ((w.alloc (.cells #[iv f.ox, iv f.oy, iv f.oz, iv f.ux, iv f.uy, iv f.uz, iv f.vx, iv f.vy, iv f.vz, iv f.w, iv f.h] 119)).alloc (.cells #[iv 0, iv 0, iv 0] 117)) 8 (by kernel_rfl) (by kernel_rfl) (by repeat (first | with_reducible exact Gr.refl _ | with_reducible assumption | with_reducible refine Gr.alloc ?_ _ | with_reducible refine Gr.drewN ?_ _ | with_reducible refine Gr.drew ?_ | with_reducible refine Gr.setCell ?_ (by first | (dsimp only; omega) | (simp only [World.size_alloc]; omega) | (with_reducible refine Gr.size ?_; (repeat (first | with_reducible exact Gr.refl _ | with_reducible assumption | with_reducible refine Gr.alloc ?_ _ | with_reducible refine Gr.drewN ?_ _ | with_reducible refine Gr.drew ?_ | with_reducible refine Gr.trans ?_ (by with_reducible assumption))); done)) _ | with_reducible refine Gr.trans ?_ (by with_reducible assumption))) ?_
  simp only [List.take_succ_cons, List.take_zero, List.drop_succ_cons, List.drop_zero]
  repeat (go_big_quiet_step ((first | (go_at_call 109; exact quiet_grw (three_any _ _ _ _)) | (go_at_call 112; exact quiet_grw (cross_any _ _ _ _ _ _ _)) | (go_at_call 113; exact quiet_grw (rvec_any _ _ _ _)))))
  refine wpQuiet_nil ?_
  intro wq hwq
  obtain ⟨gq, hwq'⟩ := hwq
  subst hwq'
  clear GC
  have gq1 := gq.gr
  generalize gq.w = wq at gq1 ⊢
  obtain ⟨Xq, Yq, cq, fq⟩ := gq1.use
  have sq := gq1.size
  simp only [World.size_alloc] at sq
  go_wp2
  refine bodyPost_ret (v := vc (nx f) (ny f) (nz f)) (by simp [results, Tryz.results116, go_sem, nx, ny, nz, cq, fq]) rfl ⟨rfl, (by repeat (first | with_reducible exact Gr.refl _ | with_reducible assumption | with_reducible refine Gr.alloc ?_ _ | with_reducible refine Gr.drewN ?_ _ | with_reducible refine Gr.drew ?_ | with_reducible refine Gr.setCell ?_ (by first | (dsimp only; omega) | (simp only [World.size_alloc]; omega) | (with_reducible refine Gr.size ?_; (repeat (first | with_reducible exact Gr.refl _ | with_reducible assumption | with_reducible refine Gr.alloc ?_ _ | with_reducible refine Gr.drewN ?_ _ | with_reducible refine Gr.drew ?_ | with_reducible refine Gr.trans ?_ (by with_reducible assumption))); done)) _ | with_reducible refine Gr.trans ?_ (by with_reducible assumption)))⟩
theorem box0 (f : Fc) (w : World) : Calls Tryz.prog 117 #[fv f, iv 0] w fun e w' => e = .returned (.tuple #[iv (boL f 0), iv (boH f 0)]) ∧ Gr w w' := rbox_any f 0 w (by omega) (by omega)
theorem box1 (f : Fc) (w : World) : Calls Tryz.prog 117 #[fv f, iv 1] w fun e w' => e = .returned (.tuple #[iv (boL f 1), iv (boH f 1)]) ∧ Gr w w' := rbox_any f 1 w (by omega) (by omega)
theorem box2 (f : Fc) (w : World) : Calls Tryz.prog 117 #[fv f, iv 2] w fun e w' => e = .returned (.tuple #[iv (boL f 2), iv (boH f 2)]) ∧ Gr w w' := rbox_any f 2 w (by omega) (by omega)
set_option maxRecDepth 100000 in
set_option maxHeartbeats 4000000 in
theorem rclash_no (a b : Fc) (w : World) (h : soB a = false ∨ (soB a = true ∧ soB b = false) ∨ (soB a = true ∧ soB b = true ∧ (axN a == axN b) = true)) :
    Calls Tryz.prog 84 #[fv a, fv b] w fun e w' => e = .returned (.bool false) ∧ Gr w w' := by
  rcases h with h | ⟨h1, h2⟩ | ⟨h1, h2, h3⟩
  · go_enter Tryz.func84, Tryz.ntmps84
    go_upto_region 1 with fail
    have GC := @GrW.cell
    refine wp_region_grw _ (by kernel_rfl) (by kernel_rfl) (Gr.refl _) ?_
    repeat (go_big_quiet_step ((first | (go_at_call 114; exact quiet_grw (sound_any _ _)))))
    refine wpQuiet_nil ?_
    intro wq hwq
    obtain ⟨gq, hwq'⟩ := hwq
    subst hwq'
    clear GC
    have gq1 := gq.gr
    generalize gq.w = wq at gq1 ⊢
    obtain ⟨Xq, Yq, cq, fq⟩ := gq1.use
    have sq := gq1.size
    (try simp only [World.size_alloc, World.size_setCell, World.heap_drewN] at sq)
    go_wp2
    go_ret
    exact ⟨rfl, (by repeat (first | with_reducible exact Gr.refl _ | with_reducible assumption | with_reducible refine Gr.alloc ?_ _ | with_reducible refine Gr.drewN ?_ _ | with_reducible refine Gr.drew ?_ | with_reducible refine Gr.setCell ?_ (by first | (dsimp only; omega) | (simp only [World.size_alloc]; omega) | (with_reducible refine Gr.size ?_; (repeat (first | with_reducible exact Gr.refl _ | with_reducible assumption | with_reducible refine Gr.alloc ?_ _ | with_reducible refine Gr.drewN ?_ _ | with_reducible refine Gr.drew ?_ | with_reducible refine Gr.trans ?_ (by with_reducible assumption))); done)) _ | with_reducible refine Gr.trans ?_ (by with_reducible assumption)))⟩
  · go_enter Tryz.func84, Tryz.ntmps84
    go_upto_region 1 with fail
    have GC := @GrW.cell
    refine wp_region_grw _ (by kernel_rfl) (by kernel_rfl) (Gr.refl _) ?_
    repeat (go_big_quiet_step ((first | (go_at_call 114; exact quiet_grw (sound_any _ _)))))
    refine wpQuiet_nil ?_
    intro wq hwq
    obtain ⟨gq, hwq'⟩ := hwq
    subst hwq'
    clear GC
    have gq1 := gq.gr
    generalize gq.w = wq at gq1 ⊢
    obtain ⟨Xq, Yq, cq, fq⟩ := gq1.use
    have sq := gq1.size
    (try simp only [World.size_alloc, World.size_setCell, World.heap_drewN] at sq)
    go_wp2
    go_ret
    exact ⟨rfl, (by repeat (first | with_reducible exact Gr.refl _ | with_reducible assumption | with_reducible refine Gr.alloc ?_ _ | with_reducible refine Gr.drewN ?_ _ | with_reducible refine Gr.drew ?_ | with_reducible refine Gr.setCell ?_ (by first | (dsimp only; omega) | (simp only [World.size_alloc]; omega) | (with_reducible refine Gr.size ?_; (repeat (first | with_reducible exact Gr.refl _ | with_reducible assumption | with_reducible refine Gr.alloc ?_ _ | with_reducible refine Gr.drewN ?_ _ | with_reducible refine Gr.drew ?_ | with_reducible refine Gr.trans ?_ (by with_reducible assumption))); done)) _ | with_reducible refine Gr.trans ?_ (by with_reducible assumption)))⟩
  · have h4 : (axI (nx a) (ny a) (nz a) == axI (nx b) (ny b) (nz b)) = true := h3
    clear h3
    go_enter Tryz.func84, Tryz.ntmps84
    go_upto_region 1 with fail
    have GC := @GrW.cell
    refine wp_region_grw _ (by kernel_rfl) (by kernel_rfl) (Gr.refl _) ?_
    repeat (go_big_quiet_step ((first | (go_at_call 114; exact quiet_grw (sound_any _ _)) | (go_at_call 116; exact quiet_grw (rnormal_any _ _)) | (go_at_call 109; exact quiet_grw (three_any _ _ _ _)) | (go_at_call 115; exact quiet_grw (raxis_any _ _ _ _)))))
    refine wpQuiet_nil ?_
    intro wq hwq
    obtain ⟨gq, hwq'⟩ := hwq
    subst hwq'
    clear GC
    have gq1 := gq.gr
    generalize gq.w = wq at gq1 ⊢
    obtain ⟨Xq, Yq, cq, fq⟩ := gq1.use
    have sq := gq1.size
    (try simp only [World.size_alloc, World.size_setCell, World.heap_drewN] at sq)
    go_wp2
    go_ret
    exact ⟨rfl, (by repeat (first | with_reducible exact Gr.refl _ | with_reducible assumption | with_reducible refine Gr.alloc ?_ _ | with_reducible refine Gr.drewN ?_ _ | with_reducible refine Gr.drew ?_ | with_reducible refine Gr.setCell ?_ (by first | (dsimp only; omega) | (simp only [World.size_alloc]; omega) | (with_reducible refine Gr.size ?_; (repeat (first | with_reducible exact Gr.refl _ | with_reducible assumption | with_reducible refine Gr.alloc ?_ _ | with_reducible refine Gr.drewN ?_ _ | with_reducible refine Gr.drew ?_ | with_reducible refine Gr.trans ?_ (by with_reducible assumption))); done)) _ | with_reducible refine Gr.trans ?_ (by with_reducible assumption)))⟩
/-- the document's tests, apart -/
def tsA (lo hi fr tt : Int) : Bool := (lo == hi) && !(decide (fr < lo) && decide (lo < tt)) || (fr == tt) && !(decide (lo < fr) && decide (fr < hi))
def tsB (lo hi fr tt : Int) : Bool := decide (lo < hi) && decide (fr < tt) && (decide (hi ≤ fr) || decide (tt ≤ lo))
theorem tst_ab {lo hi fr tt : Int} : tst lo hi fr tt = (!tsA lo hi fr tt && !tsB lo hi fr tt) := rfl
theorem tst_iff {lo hi fr tt : Int} : tst lo hi fr tt = true ↔ (lo = hi → fr < lo ∧ lo < tt) ∧ (fr = tt → lo < fr ∧ fr < hi) ∧ ¬ (lo < hi ∧ fr < tt ∧ (hi ≤ fr ∨ tt ≤ lo)) := by
  unfold tst
  simp
  omega
theorem tst_at0 {x y z : Bool} (h : x = false) : (x && y && z) = false := by rw [h]; rfl
theorem tst_at1 {x y z : Bool} (h : y = false) : (x && y && z) = false := by rw [h]; simp
theorem tst_at2 {x y z : Bool} (h : z = false) : (x && y && z) = false := by rw [h]; simp
set_option maxRecDepth 100000 in
set_option maxHeartbeats 8000000 in
theorem rclash_yes (a b : Fc) (w : World) (h1 : soB a = true) (h2 : soB b = true) (h3 : (axN a == axN b) = false) :
    Calls Tryz.prog 84 #[fv a, fv b] w fun e w' => e = .returned (.bool (tst (boL a 0) (boH a 0) (boL b 0) (boH b 0) && tst (boL a 1) (boH a 1) (boL b 1) (boH b 1) && tst (boL a 2) (boH a 2) (boL b 2) (boH b 2))) ∧ Gr w w' := by
  have h4 : (axI (nx a) (ny a) (nz a) == axI (nx b) (ny b) (nz b)) = false := h3
  clear h3
  go_enter Tryz.func84, Tryz.ntmps84
  go_upto_region 1 with fail
  have GC := @GrW.cell
  refine wp_region_grw _ (by kernel_rfl) (by kernel_rfl) (Gr.refl _) ?_
  repeat (go_big_quiet_step ((first | (go_at_call 114; exact quiet_grw (sound_any _ _)) | (go_at_call 116; exact quiet_grw (rnormal_any _ _)) | (go_at_call 109; exact quiet_grw (three_any _ _ _ _)) | (go_at_call 115; exact quiet_grw (raxis_any _ _ _ _)))))
  refine wpQuiet_nil ?_
  intro wq hwq
  obtain ⟨gq, hwq'⟩ := hwq
  subst hwq'
  clear GC
  have gq1 := gq.gr
  generalize gq.w = wq at gq1 ⊢
  obtain ⟨Xq, Yq, cq, fq⟩ := gq1.use
  have sq := gq1.size
  (try simp only [World.size_alloc, World.size_setCell, World.heap_drewN] at sq)
  go_wp2
  have l0 : w.heap.size < wq.heap.size := by omega
  have g0 : Gr w wq := (by repeat (first | with_reducible exact Gr.refl _ | with_reducible assumption | with_reducible refine Gr.alloc ?_ _ | with_reducible refine Gr.drewN ?_ _ | with_reducible refine Gr.drew ?_ | with_reducible refine Gr.setCell ?_ (by first | (dsimp only; omega) | (simp only [World.size_alloc]; omega) | (with_reducible refine Gr.size ?_; (repeat (first | with_reducible exact Gr.refl _ | with_reducible assumption | with_reducible refine Gr.alloc ?_ _ | with_reducible refine Gr.drewN ?_ _ | with_reducible refine Gr.drew ?_ | with_reducible refine Gr.trans ?_ (by with_reducible assumption))); done)) _ | with_reducible refine Gr.trans ?_ (by with_reducible assumption)))
  clear cq fq
  obtain ⟨wB, rfl⟩ : ∃ wB, wB = wq := ⟨_, rfl⟩
  clear h1 h2 h4
  go_loopw [5] (fun i wr => ∃ k : Int, 0 ≤ k ∧ k ≤ 3 ∧ i = iv k ∧ Gr ((w.alloc (.cells #[iv a.ox, iv a.oy, iv a.oz, iv a.ux, iv a.uy, iv a.uz, iv a.vx, iv a.vy, iv a.vz, iv a.w, iv a.h] 119)).alloc (.cells #[iv b.ox, iv b.oy, iv b.oz, iv b.ux, iv b.uy, iv b.uz, iv b.vx, iv b.vy, iv b.vz, iv b.w, iv b.h] 119)) wr ∧
    Hid (1 ≤ k → tst (boL a 0) (boH a 0) (boL b 0) (boH b 0) = true) ∧ Hid (2 ≤ k → tst (boL a 1) (boH a 1) (boL b 1) (boH b 1) = true) ∧ Hid (3 ≤ k → tst (boL a 2) (boH a 2) (boL b 2) (boH b 2) = true)) (fun i _ => 3 - (intOf i).toNat)
  case atStart => exact ⟨0, by omega, by omega, rfl, gq1, by unfold Hid; omega, by unfold Hid; omega, by unfold Hid; omega⟩
  case round =>
    obtain ⟨k, hk0, hk3, rfl, g, HT0, HT1, HT2⟩ := hrel
    clear gq1 g0 gq
    obtain ⟨Xr, Yr, c1, f1⟩ := g.use
    have z1 := g.size
    simp only [World.size_alloc] at z1
    have l1 : w.heap.size + 1 < wr.heap.size := by omega
    rcases (by omega : k = 0 ∨ k = 1 ∨ k = 2 ∨ k = 3) with rfl | rfl | rfl | rfl
    · have hk := hide (show (0 : Int) ≤ 0 by omega)
      go_wp2_with (go_at_call 117; refine (box0 _ _).mono ?_; rintro e w1 ⟨rfl, g1⟩; obtain ⟨X1, Y1, c1, f1⟩ := g1.use)
      all_goals first
        | (go_ret
           exact ⟨ret_bool (by rw [tst_at0 (by rw [← Bool.not_eq_true, tst_iff]; clear c1 f1 HT0 HT1 HT2; simp at *; omega)]), (by repeat (first | with_reducible exact Gr.refl _ | with_reducible assumption | with_reducible refine Gr.alloc ?_ _ | with_reducible refine Gr.drewN ?_ _ | with_reducible refine Gr.drew ?_ | with_reducible refine Gr.setCell ?_ (by first | (dsimp only; omega) | (simp only [World.size_alloc]; omega) | (with_reducible refine Gr.size ?_; (repeat (first | with_reducible exact Gr.refl _ | with_reducible assumption | with_reducible refine Gr.alloc ?_ _ | with_reducible refine Gr.drewN ?_ _ | with_reducible refine Gr.drew ?_ | with_reducible refine Gr.trans ?_ (by with_reducible assumption))); done)) _ | with_reducible refine Gr.trans ?_ (by with_reducible assumption)))⟩)
        | (go_roundw
           case rel => exact ⟨1, by omega, by omega, rfl, (by repeat (first | with_reducible exact Gr.refl _ | with_reducible assumption | with_reducible refine Gr.alloc ?_ _ | with_reducible refine Gr.drewN ?_ _ | with_reducible refine Gr.drew ?_ | with_reducible refine Gr.setCell ?_ (by first | (dsimp only; omega) | (simp only [World.size_alloc]; omega) | (with_reducible refine Gr.size ?_; (repeat (first | with_reducible exact Gr.refl _ | with_reducible assumption | with_reducible refine Gr.alloc ?_ _ | with_reducible refine Gr.drewN ?_ _ | with_reducible refine Gr.drew ?_ | with_reducible refine Gr.trans ?_ (by with_reducible assumption))); done)) _ | with_reducible refine Gr.trans ?_ (by with_reducible assumption))), fun _ => tst_iff.2 (by clear HT0 HT1 HT2; simp at *; omega), by unfold Hid; omega, by unfold Hid; omega⟩
           case measure => simp [intOf])
    · have hk := hide (show (0 : Int) ≤ 1 by omega)
      go_wp2_with (go_at_call 117; refine (box1 _ _).mono ?_; rintro e w1 ⟨rfl, g1⟩; obtain ⟨X1, Y1, c1, f1⟩ := g1.use)
      all_goals first
        | (go_ret
           exact ⟨ret_bool (by rw [tst_at1 (by rw [← Bool.not_eq_true, tst_iff]; clear c1 f1 HT0 HT1 HT2; simp at *; omega)]), (by repeat (first | with_reducible exact Gr.refl _ | with_reducible assumption | with_reducible refine Gr.alloc ?_ _ | with_reducible refine Gr.drewN ?_ _ | with_reducible refine Gr.drew ?_ | with_reducible refine Gr.setCell ?_ (by first | (dsimp only; omega) | (simp only [World.size_alloc]; omega) | (with_reducible refine Gr.size ?_; (repeat (first | with_reducible exact Gr.refl _ | with_reducible assumption | with_reducible refine Gr.alloc ?_ _ | with_reducible refine Gr.drewN ?_ _ | with_reducible refine Gr.drew ?_ | with_reducible refine Gr.trans ?_ (by with_reducible assumption))); done)) _ | with_reducible refine Gr.trans ?_ (by with_reducible assumption)))⟩)
        | (go_roundw
           case rel => exact ⟨2, by omega, by omega, rfl, (by repeat (first | with_reducible exact Gr.refl _ | with_reducible assumption | with_reducible refine Gr.alloc ?_ _ | with_reducible refine Gr.drewN ?_ _ | with_reducible refine Gr.drew ?_ | with_reducible refine Gr.setCell ?_ (by first | (dsimp only; omega) | (simp only [World.size_alloc]; omega) | (with_reducible refine Gr.size ?_; (repeat (first | with_reducible exact Gr.refl _ | with_reducible assumption | with_reducible refine Gr.alloc ?_ _ | with_reducible refine Gr.drewN ?_ _ | with_reducible refine Gr.drew ?_ | with_reducible refine Gr.trans ?_ (by with_reducible assumption))); done)) _ | with_reducible refine Gr.trans ?_ (by with_reducible assumption))), fun _ => HT0.out (by omega), fun _ => tst_iff.2 (by clear HT0 HT1 HT2; simp at *; omega), by unfold Hid; omega⟩
           case measure => simp [intOf])
    · have hk := hide (show (0 : Int) ≤ 2 by omega)
      go_wp2_with (go_at_call 117; refine (box2 _ _).mono ?_; rintro e w1 ⟨rfl, g1⟩; obtain ⟨X1, Y1, c1, f1⟩ := g1.use)
      all_goals first
        | (go_ret
           exact ⟨ret_bool (by rw [tst_at2 (by rw [← Bool.not_eq_true, tst_iff]; clear c1 f1 HT0 HT1 HT2; simp at *; omega)]), (by repeat (first | with_reducible exact Gr.refl _ | with_reducible assumption | with_reducible refine Gr.alloc ?_ _ | with_reducible refine Gr.drewN ?_ _ | with_reducible refine Gr.drew ?_ | with_reducible refine Gr.setCell ?_ (by first | (dsimp only; omega) | (simp only [World.size_alloc]; omega) | (with_reducible refine Gr.size ?_; (repeat (first | with_reducible exact Gr.refl _ | with_reducible assumption | with_reducible refine Gr.alloc ?_ _ | with_reducible refine Gr.drewN ?_ _ | with_reducible refine Gr.drew ?_ | with_reducible refine Gr.trans ?_ (by with_reducible assumption))); done)) _ | with_reducible refine Gr.trans ?_ (by with_reducible assumption)))⟩)
        | (go_roundw
           case rel => exact ⟨3, by omega, by omega, rfl, (by repeat (first | with_reducible exact Gr.refl _ | with_reducible assumption | with_reducible refine Gr.alloc ?_ _ | with_reducible refine Gr.drewN ?_ _ | with_reducible refine Gr.drew ?_ | with_reducible refine Gr.setCell ?_ (by first | (dsimp only; omega) | (simp only [World.size_alloc]; omega) | (with_reducible refine Gr.size ?_; (repeat (first | with_reducible exact Gr.refl _ | with_reducible assumption | with_reducible refine Gr.alloc ?_ _ | with_reducible refine Gr.drewN ?_ _ | with_reducible refine Gr.drew ?_ | with_reducible refine Gr.trans ?_ (by with_reducible assumption))); done)) _ | with_reducible refine Gr.trans ?_ (by with_reducible assumption))), fun _ => HT0.out (by omega), fun _ => HT1.out (by omega), fun _ => tst_iff.2 (by clear HT0 HT1 HT2; simp at *; omega)⟩
           case measure => simp [intOf])
    · have h0 := HT0.out (by omega)
      have h1 := HT1.out (by omega)
      have h2 := HT2.out (by omega)
      go_wp2
      go_ret
      exact ⟨ret_bool (by rw [h0, h1, h2]; rfl), (by repeat (first | with_reducible exact Gr.refl _ | with_reducible assumption | with_reducible refine Gr.alloc ?_ _ | with_reducible refine Gr.drewN ?_ _ | with_reducible refine Gr.drew ?_ | with_reducible refine Gr.setCell ?_ (by first | (dsimp only; omega) | (simp only [World.size_alloc]; omega) | (with_reducible refine Gr.size ?_; (repeat (first | with_reducible exact Gr.refl _ | with_reducible assumption | with_reducible refine Gr.alloc ?_ _ | with_reducible refine Gr.drewN ?_ _ | with_reducible refine Gr.drew ?_ | with_reducible refine Gr.trans ?_ (by with_reducible assumption))); done)) _ | with_reducible refine Gr.trans ?_ (by with_reducible assumption)))⟩
end Go.Proofs.YtdabhnefoigebaaGreat
