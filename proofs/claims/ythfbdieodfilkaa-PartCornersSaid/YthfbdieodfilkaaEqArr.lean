/-
  Four vectors compared with themselves; PartCorners: the walk.
-/
import Derived.Test.YthfbdieodfilkaaRCorn
import Derived.Test.YthfbdieodfilkaaKnown
namespace Go.Proofs.Ythfbdieodfilkaa
set_option linter.unusedVariables false
set_option linter.unusedSimpArgs false
open Go Go.ChangeShapes Go.WideShapes Go.ChangeAt Go.RowKit Go.Deep

theorem uArr : Try.prog.underlying 43 = some (.array 4 39) := by kernel_rfl
theorem gArr : Try.prog.eqGuardType Try.prog.depth 43 = false := by kernel_rfl
theorem eqArr (a b c d e f g h i j k l : Int) (w : World) : (Op.equalIn 10000 43 (.agg #[iv a, iv b, iv c, iv d, iv e, iv f, iv g, iv h, iv i, iv j, iv k, iv l]) (.agg #[iv a, iv b, iv c, iv d, iv e, iv f, iv g, iv h, iv i, iv j, iv k, iv l])).run Try.prog w = .ok true w := by
  have e0 : ∀ (a b c : Int) (w : World), (Op.equalIn 9999 39 (vc a b c) (vc a b c)).run Try.prog w = .ok true w := fun a b c w => by rw [← veB_self a b c]; exact eqInVec 9997 a b c a b c w
  have u3 := Try.underlying39
  have a3 := Try.isAgg39
  have z3 := Try.sizeOf39
  rw [show (10000 : Nat) = 9999 + 1 from rfl, Op.equalIn]
  simp only [Sem.run_bind, run_underlying uArr, Result.andThen_ok]
  simp only [Std.Legacy.Range.forIn_eq_forIn_range', Std.Legacy.Range.size, Nat.sub_zero, Nat.add_sub_cancel, Nat.div_one, List.range'_succ, List.range'_zero, List.forIn_cons, List.forIn_nil]
  go_simp
theorem rnormal_any (f : Fc) (w : World) :
    Calls Try.prog 19 #[fv f] w fun e w' => e = .returned (vc (nx f) (ny f) (nz f)) ∧ Gr w w' := by
  go_enter Try.func19, Try.ntmps19
  go_upto_region 1 with fail
  have GC := @GrW.cell
  refine wp_region_grw_tail _ 8 (by kernel_rfl) (by kernel_rfl) (Gr.refl _) ?_
  simp only [List.take_succ_cons, List.take_zero, List.drop_succ_cons, List.drop_zero]
  repeat (go_big_quiet_step ((first | (go_at_call 48; exact quiet_grw (three_any _ _ _ _)) | (go_at_call 47; exact quiet_grw (cross_any _ _ _ _ _ _ _)) | (go_at_call 46; exact quiet_grw (rvec_any _ _ _ _)))))
  refine wpQuiet_nil ?_
  intro wq hwq
  obtain ⟨gq, hwq'⟩ := hwq
  subst hwq'
  clear GC
  have gq1 := gq.gr
  generalize gq.w = wq at gq1 ⊢
  obtain ⟨Xq, Yq, cq, fq⟩ := gq1.use
  have sq := gq1.size
  (try simp only [World.size_alloc, World.size_setCell, World.heap_drewN] at sq)
  go_wp2
  refine bodyPost_ret (v := vc (nx f) (ny f) (nz f)) (by simp [results, Try.results19, go_sem, nx, ny, nz, cq, fq]) rfl ⟨rfl, (by repeat (first | with_reducible exact Gr.refl _ | with_reducible assumption | with_reducible refine Gr.alloc ?_ _ | with_reducible refine Gr.drewN ?_ _ | with_reducible refine Gr.drew ?_ | with_reducible refine Gr.setCell ?_ (by first | (dsimp only; omega) | (simp only [World.size_alloc]; omega) | (with_reducible refine Gr.size ?_; (repeat (first | with_reducible exact Gr.refl _ | with_reducible assumption | with_reducible refine Gr.alloc ?_ _ | with_reducible refine Gr.drewN ?_ _ | with_reducible refine Gr.drew ?_ | with_reducible refine Gr.trans ?_ (by with_reducible assumption))); done)) _ | with_reducible refine Gr.trans ?_ (by with_reducible assumption)))⟩
theorem corners_walk (f : Fc) (w : World) :
    Calls Try.prog 6 #[fv f] w fun x w' => x = .returned (.bool true) ∧ Gr w w' := by
  have NEV := fun w => eqVec (nx f) (ny f) (nz f) (nx f) (ny f) (nz f) w
  rw [veB_self] at NEV
  have NEA := fun w => eqArr f.ox f.oy f.oz (po f.ox f.w f.ux 0 f.vx) (po f.oy f.w f.uy 0 f.vy) (po f.oz f.w f.uz 0 f.vz) (po f.ox f.w f.ux f.h f.vx) (po f.oy f.w f.uy f.h f.vy) (po f.oz f.w f.uz f.h f.vz) (po f.ox 0 f.ux f.h f.vx) (po f.oy 0 f.uy f.h f.vy) (po f.oz 0 f.uz f.h f.vz) w
  have GV := gVec
  have GA := gArr
  have C1 := fun w => corn_any f w
  have C2 := fun w => rcorn_any f w
  unfold cornV at C1 C2
  have D1 := hide C1
  have D2 := hide C2
  clear C1 C2
  go_enter Try.func6, Try.ntmps6
  go_upto_region 1 with fail
  have GC := @GrW.cell
  refine wp_region_grw _ (by kernel_rfl) (by kernel_rfl) (Gr.refl _) ?_
  repeat (go_big_quiet_step ((first | (go_at_call 18; exact quiet_grw (normal_any f _)) | (go_at_call 19; exact quiet_grw (rnormal_any f _)) | (go_at_call 20; exact quiet_grw (D1.out _)) | (go_at_call 21; exact quiet_grw (D2.out _)) | (go_at_call 7; exact quiet_grw (known_any _)))))
  refine wpQuiet_nil ?_
  intro wq hwq
  obtain ⟨gq, hwq'⟩ := hwq
  subst hwq'
  clear GC
  have gq1 := gq.gr
  generalize gq.w = wq at gq1 ⊢
  obtain ⟨Xq, Yq, cq, fq⟩ := gq1.use
  have sq := gq1.size
  (try simp only [World.size_alloc, World.size_setCell, World.heap_drewN] at sq)
  go_wp2
  go_ret
  exact ⟨rfl, (by repeat (first | with_reducible exact Gr.refl _ | with_reducible assumption | with_reducible refine Gr.alloc ?_ _ | with_reducible refine Gr.drewN ?_ _ | with_reducible refine Gr.drew ?_ | with_reducible refine Gr.setCell ?_ (by first | (dsimp only; omega) | (simp only [World.size_alloc]; omega) | (with_reducible refine Gr.size ?_; (repeat (first | with_reducible exact Gr.refl _ | with_reducible assumption | with_reducible refine Gr.alloc ?_ _ | with_reducible refine Gr.drewN ?_ _ | with_reducible refine Gr.drew ?_ | with_reducible refine Gr.trans ?_ (by with_reducible assumption))); done)) _ | with_reducible refine Gr.trans ?_ (by with_reducible assumption)))⟩
end Go.Proofs.Ythfbdieodfilkaa
