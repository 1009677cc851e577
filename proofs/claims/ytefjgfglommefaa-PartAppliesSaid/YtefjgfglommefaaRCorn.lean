/-
  The reference's corners of any face.
-/
import Derived.Test.YtefjgfglommefaaCorners
import Derived.Test.YtefjgfglommefaaMix
import Derived.Deep.RegionHeld3
import Derived.Deep.DeepCutAuto
import Derived.StillTactics
namespace Go.Proofs.Ytefjgfglommefaa
set_option linter.unusedVariables false
set_option linter.unusedSimpArgs false
open Go Go.ChangeShapes Go.WideShapes Go.ChangeAt Go.RowKit Go.Deep

/-- the numbers of the corners -/
def co1 (o a u : Int) : Int := wrap64 (o + wrap64 (a * u))
def co2 (o a u b v : Int) : Int := wrap64 (wrap64 (o + wrap64 (a * u)) + wrap64 (b * v))
theorem po_1 (o a u v : Int) : po o a u 0 v = co1 o a u := by unfold po co1; rw [Int.zero_mul]; unfold wrap64; omega
theorem po_3 (o u b v : Int) : po o 0 u b v = co1 o b v := by unfold po co1; rw [Int.zero_mul]; unfold wrap64; omega
theorem po_2 (o a u b v : Int) : po o a u b v = co2 o a u b v := by unfold po co2; generalize a * u = x; generalize b * v = y; unfold wrap64; omega
def cornR (f : Fc) : Value := .agg #[iv f.ox, iv f.oy, iv f.oz, iv (co1 f.ox f.w f.ux), iv (co1 f.oy f.w f.uy), iv (co1 f.oz f.w f.uz), iv (co2 f.ox f.w f.ux f.h f.vx), iv (co2 f.oy f.w f.uy f.h f.vy), iv (co2 f.oz f.w f.uz f.h f.vz), iv (co1 f.ox f.h f.vx), iv (co1 f.oy f.h f.vy), iv (co1 f.oz f.h f.vz)]
def cornV (f : Fc) : Value := .agg #[iv f.ox, iv f.oy, iv f.oz, iv (po f.ox f.w f.ux 0 f.vx), iv (po f.oy f.w f.uy 0 f.vy), iv (po f.oz f.w f.uz 0 f.vz), iv (po f.ox f.w f.ux f.h f.vx), iv (po f.oy f.w f.uy f.h f.vy), iv (po f.oz f.w f.uz f.h f.vz), iv (po f.ox 0 f.ux f.h f.vx), iv (po f.oy 0 f.uy f.h f.vy), iv (po f.oz 0 f.uz f.h f.vz)]
theorem corn_eq (f : Fc) : cornV f = cornR f := by
  unfold cornV cornR
  rw [po_1, po_1, po_1, po_3, po_3, po_3, po_2, po_2, po_2]
set_option maxHeartbeats 1000000 in
theorem corn_any (f : Fc) (w : World) :
    Calls Try.prog 92 #[fv f] w fun e w' => e = .returned (cornV f) ∧ Gr w w' := by
  go_enter Try.func92, Try.ntmps92
  go_upto_region 1 with fail
  have GC := @GrW.cell
  refine wp_region_grw_tail _ 17 (by kernel_rfl) (by kernel_rfl) (Gr.refl _) ?_
  simp only [List.take_succ_cons, List.take_zero, List.drop_succ_cons, List.drop_zero]
  repeat (go_big_quiet_step ((first | (go_at_call 88; exact quiet_grw (pointOf_any f _ _ _)))))
  refine wpQuiet_nil ?_
  intro wq hwq
  obtain ⟨gq, hwq'⟩ := hwq
  subst hwq'
  clear GC
  have gq1 := gq.gr
  generalize gq.w = wq at gq1 ⊢
  obtain ⟨Xq, Yq, cq, fq⟩ := gq1.use
  have sq := gq1.size
  (try simp only [World.size_alloc, World.size_setCell, World.heap_drewN] at sq)
  go_wp2
  refine bodyPost_ret (v := cornV f) (by simp [results, Try.results92, go_sem, cornV, cq, fq]) rfl ⟨rfl, (by repeat (first | with_reducible exact Gr.refl _ | with_reducible assumption | with_reducible refine Gr.alloc ?_ _ | with_reducible refine Gr.drewN ?_ _ | with_reducible refine Gr.drew ?_ | with_reducible refine Gr.setCell ?_ (by first | (dsimp only; omega) | (simp only [World.size_alloc]; omega) | (with_reducible refine Gr.size ?_; (repeat (first | with_reducible exact Gr.refl _ | with_reducible assumption | with_reducible refine Gr.alloc ?_ _ | with_reducible refine Gr.drewN ?_ _ | with_reducible refine Gr.drew ?_ | with_reducible refine Gr.trans ?_ (by with_reducible assumption))); done)) _ | with_reducible refine Gr.trans ?_ (by with_reducible assumption)))⟩
set_option maxHeartbeats 2000000 in
set_option maxRecDepth 100000 in
theorem rcorn_any (f : Fc) (w : World) :
    Calls Try.prog 99 #[fv f] w fun e w' => e = .returned (cornV f) ∧ Gr w w' := by
  go_enter Try.func99, Try.ntmps99
  go_upto_region 1 with fail
  refine wp_region_new3 _ 9 (by kernel_rfl) (by kernel_rfl) (Gr.refl _) (z1 := #[iv 0, iv 0, iv 0]) (t1 := 90) (z2 := #[iv 0, iv 0, iv 0]) (t2 := 90) (z3 := #[iv 0, iv 0, iv 0]) (t3 := 90) rfl rfl rfl ⟨rfl, fun _ => rfl, rfl, fun a w => by go_simp⟩ ⟨rfl, fun _ => rfl, rfl, fun a w => by go_simp⟩ ⟨rfl, fun _ => rfl, rfl, fun a w => by go_simp⟩ (fun a u v => (Act.put_comm a u v (by decide))) (fun a u v => (Act.put_comm a u v (by decide))) (fun a u v => (Act.put_comm a u v (by decide))) ?_
  intro s gs
  obtain ⟨Xs, Ys, cs, fs⟩ := gs.use
  have GC := @GrW.cell
  simp only [List.take_succ_cons, List.take_zero]
  repeat (go_big_quiet_step ((first | (go_at_call 76; exact quiet_grw (three_any _ _ _ _)))))
  refine wpQuiet_nil ?_
  clear GC cs fs gs
  intro B1 B2 B3 wq gq1 l1 l2 l3 n12 n13 n23 ⟨b1, c1, f1⟩ ⟨b2, c2, f2⟩ ⟨b3, c3, f3⟩
  obtain ⟨Xq, Yq, cq, fq⟩ := gq1.use
  have sq := gq1.size
  (try simp only [World.size_alloc, World.size_setCell, World.heap_drewN] at sq l1 l2 l3)
  simp only [List.drop_succ_cons, List.drop_zero]
  go_upto_region 2 with fail
  have GC := @GrW.cell
  refine wp_region_grw_tail _ 25 (by kernel_rfl) (by kernel_rfl) (Gr.refl _) ?_
  simp only [List.take_succ_cons, List.take_zero, List.drop_succ_cons, List.drop_zero]
  repeat (go_big_quiet_step ((first | (go_at_call 80; exact quiet_grw (rvec_any _ _ _ _)) | (go_at_call 78; exact quiet_grw (along_any _ _ _ _ _ _ _ _)))))
  refine wpQuiet_nil ?_
  intro wq hwq
  obtain ⟨gq, hwq'⟩ := hwq
  subst hwq'
  clear GC
  have gq1 := gq.gr
  generalize gq.w = wq at gq1 ⊢
  obtain ⟨Xq, Yq, cq, fq⟩ := gq1.use
  have sq := gq1.size
  (try simp only [World.size_alloc, World.size_setCell, World.heap_drewN] at sq)
  go_wp2
  refine bodyPost_ret (v := cornR f) (by simp [results, Try.results99, go_sem, cornR, co1, co2, *]) rfl ⟨congrArg Ending.returned (corn_eq f).symm, ?_⟩
  trace_state
  exact (by repeat (first | with_reducible exact Gr.refl _ | with_reducible assumption | with_reducible refine Gr.alloc ?_ _ | with_reducible refine Gr.drewN ?_ _ | with_reducible refine Gr.drew ?_ | with_reducible refine Gr.setCell ?_ (by first | (dsimp only; omega) | (simp only [World.size_alloc]; omega) | (with_reducible refine Gr.size ?_; (repeat (first | with_reducible exact Gr.refl _ | with_reducible assumption | with_reducible refine Gr.alloc ?_ _ | with_reducible refine Gr.drewN ?_ _ | with_reducible refine Gr.drew ?_ | with_reducible refine Gr.trans ?_ (by with_reducible assumption))); done)) _ | with_reducible refine Gr.trans ?_ (by with_reducible assumption)))
end Go.Proofs.Ytefjgfglommefaa
