/-
  The corners of any face, on both sides.
-/
import Derived.Test.YtefjgfglommefaaVec
import Derived.Test.YtefjgfglommefaaTail
namespace Go.Proofs.Ytefjgfglommefaa
set_option linter.unusedVariables false
set_option linter.unusedSimpArgs false
open Go Go.ChangeShapes Go.WideShapes Go.ChangeAt Go.RowKit Go.Deep

/-- one number of a point of a face -/
def po (o a u b v : Int) : Int := wrap64 (o + wrap64 (wrap64 (a * u) + wrap64 (b * v)))
theorem pointOf_any (f : Fc) (a b : Int) (w : World) :
    Calls Try.prog 88 #[fv f, iv a, iv b] w fun e w' => e = .returned (vc (po f.ox a f.ux b f.vx) (po f.oy a f.uy b f.vy) (po f.oz a f.uz b f.vz)) ∧ Gr w w' := by
  go_enter Try.func88, Try.ntmps88
  go_wp2
  have GC := fun (g : GrW ((w.alloc (.cells #[iv f.ox, iv f.oy, iv f.oz, iv f.ux, iv f.uy, iv f.uz, iv f.vx, iv f.vy, iv f.vz, iv f.w, iv f.h] 44)).alloc (.cells #[iv 0, iv 0, iv 0] 41))) i o => g.cell i o
  refine wp_region_grw_tail ((w.alloc (.cells #[iv f.ox, iv f.oy, iv f.oz, iv f.ux, iv f.uy, iv f.uz, iv f.vx, iv f.vy, iv f.vz, iv f.w, iv f.h] 44)).alloc (.cells #[iv 0, iv 0, iv 0] 41)) 12 (by kernel_rfl) (by kernel_rfl) (by repeat (first | with_reducible exact Gr.refl _ | with_reducible assumption | with_reducible refine Gr.alloc ?_ _ | with_reducible refine Gr.drewN ?_ _ | with_reducible refine Gr.drew ?_ | with_reducible refine Gr.setCell ?_ (by first | (dsimp only; omega) | (simp only [World.size_alloc]; omega) | (with_reducible refine Gr.size ?_; (repeat (first | with_reducible exact Gr.refl _ | with_reducible assumption | with_reducible refine Gr.alloc ?_ _ | with_reducible refine Gr.drewN ?_ _ | with_reducible refine Gr.drew ?_ | with_reducible refine Gr.trans ?_ (by with_reducible assumption))); done)) _ | with_reducible refine Gr.trans ?_ (by with_reducible assumption))) ?_
  simp only [List.take_succ_cons, List.take_zero, List.drop_succ_cons, List.drop_zero]
  repeat (go_big_quiet_step ((first | (go_at_call 100; exact quiet_grw (times_any _ _ _ _ _)) | (go_at_call 102; exact quiet_grw (plus_any _ _ _ _ _ _ _)))))
  refine wpQuiet_nil ?_
  intro wq hwq
  obtain ⟨gq, hwq'⟩ := hwq
  subst hwq'
  clear GC
  have gq1 := gq.gr
  generalize gq.w = wq at gq1 ⊢
  obtain ⟨Xq, Yq, cq, fq⟩ := gq1.use
  have sq := gq1.size
  simp only [World.size_alloc] at sq
  go_wp2
  refine bodyPost_ret (v := vc (po f.ox a f.ux b f.vx) (po f.oy a f.uy b f.vy) (po f.oz a f.uz b f.vz)) (by simp [results, Try.results88, go_sem, po, cq, fq]) rfl ⟨rfl, (by repeat (first | with_reducible exact Gr.refl _ | with_reducible assumption | with_reducible refine Gr.alloc ?_ _ | with_reducible refine Gr.drewN ?_ _ | with_reducible refine Gr.drew ?_ | with_reducible refine Gr.setCell ?_ (by first | (dsimp only; omega) | (simp only [World.size_alloc]; omega) | (with_reducible refine Gr.size ?_; (repeat (first | with_reducible exact Gr.refl _ | with_reducible assumption | with_reducible refine Gr.alloc ?_ _ | with_reducible refine Gr.drewN ?_ _ | with_reducible refine Gr.drew ?_ | with_reducible refine Gr.trans ?_ (by with_reducible assumption))); done)) _ | with_reducible refine Gr.trans ?_ (by with_reducible assumption)))⟩
end Go.Proofs.Ytefjgfglommefaa
