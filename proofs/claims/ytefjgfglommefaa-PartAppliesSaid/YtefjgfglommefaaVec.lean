/-
  Vectors: the normal and the corners of any face, on both sides; whatever the numbers, sums and products wrap.
-/
import Derived.Test.YtefjgfglommefaaPlain
namespace Go.Proofs.Ytefjgfglommefaa
set_option linter.unusedVariables false
set_option linter.unusedSimpArgs false
open Go Go.ChangeShapes Go.WideShapes Go.ChangeAt Go.RowKit Go.Deep

/-- the normal's numbers -/
def nx (f : Fc) : Int := wrap64 (wrap64 (f.uy * f.vz) - wrap64 (f.uz * f.vy))
def ny (f : Fc) : Int := wrap64 (wrap64 (f.uz * f.vx) - wrap64 (f.ux * f.vz))
def nz (f : Fc) : Int := wrap64 (wrap64 (f.ux * f.vy) - wrap64 (f.uy * f.vx))
theorem normal_any (f : Fc) (w : World) :
    Calls Try.prog 12 #[fv f] w fun e w' => e = .returned (vc (nx f) (ny f) (nz f)) ∧ Gr w w' := by
  go_enter Try.func12, Try.ntmps12
  go_wp2
  refine bodyPost_ret (v := vc (nx f) (ny f) (nz f)) (by simp [results, Try.results12, go_sem, nx, ny, nz]) rfl ⟨rfl, (by repeat (first | with_reducible exact Gr.refl _ | with_reducible assumption | with_reducible refine Gr.alloc ?_ _ | with_reducible refine Gr.drewN ?_ _ | with_reducible refine Gr.drew ?_ | with_reducible refine Gr.setCell ?_ (by first | (dsimp only; omega) | (simp only [World.size_alloc]; omega) | (with_reducible refine Gr.size ?_; (repeat (first | with_reducible exact Gr.refl _ | with_reducible assumption | with_reducible refine Gr.alloc ?_ _ | with_reducible refine Gr.drewN ?_ _ | with_reducible refine Gr.drew ?_ | with_reducible refine Gr.trans ?_ (by with_reducible assumption))); done)) _ | with_reducible refine Gr.trans ?_ (by with_reducible assumption)))⟩
theorem three_any (x y z : Int) (w : World) :
    Calls Try.prog 76 #[vc x y z] w fun e w' => e = .returned (vc x y z) ∧ Gr w w' := by
  go_enter Try.func76, Try.ntmps76
  go_wp2
  refine bodyPost_ret (v := vc x y z) (by simp [results, Try.results76, go_sem]) rfl ⟨rfl, (by repeat (first | with_reducible exact Gr.refl _ | with_reducible assumption | with_reducible refine Gr.alloc ?_ _ | with_reducible refine Gr.drewN ?_ _ | with_reducible refine Gr.drew ?_ | with_reducible refine Gr.setCell ?_ (by first | (dsimp only; omega) | (simp only [World.size_alloc]; omega) | (with_reducible refine Gr.size ?_; (repeat (first | with_reducible exact Gr.refl _ | with_reducible assumption | with_reducible refine Gr.alloc ?_ _ | with_reducible refine Gr.drewN ?_ _ | with_reducible refine Gr.drew ?_ | with_reducible refine Gr.trans ?_ (by with_reducible assumption))); done)) _ | with_reducible refine Gr.trans ?_ (by with_reducible assumption)))⟩
theorem rvec_any (x y z : Int) (w : World) :
    Calls Try.prog 80 #[vc x y z] w fun e w' => e = .returned (vc x y z) ∧ Gr w w' := by
  go_enter Try.func80, Try.ntmps80
  go_wp2
  refine bodyPost_ret (v := vc x y z) (by simp [results, Try.results80, go_sem]) rfl ⟨rfl, (by repeat (first | with_reducible exact Gr.refl _ | with_reducible assumption | with_reducible refine Gr.alloc ?_ _ | with_reducible refine Gr.drewN ?_ _ | with_reducible refine Gr.drew ?_ | with_reducible refine Gr.setCell ?_ (by first | (dsimp only; omega) | (simp only [World.size_alloc]; omega) | (with_reducible refine Gr.size ?_; (repeat (first | with_reducible exact Gr.refl _ | with_reducible assumption | with_reducible refine Gr.alloc ?_ _ | with_reducible refine Gr.drewN ?_ _ | with_reducible refine Gr.drew ?_ | with_reducible refine Gr.trans ?_ (by with_reducible assumption))); done)) _ | with_reducible refine Gr.trans ?_ (by with_reducible assumption)))⟩
theorem cross_any (a b c x y z : Int) (w : World) :
    Calls Try.prog 79 #[vc a b c, vc x y z] w fun e w' => e = .returned (vc (wrap64 (wrap64 (b * z) - wrap64 (c * y))) (wrap64 (wrap64 (c * x) - wrap64 (a * z))) (wrap64 (wrap64 (a * y) - wrap64 (b * x)))) ∧ Gr w w' := by
  go_enter Try.func79, Try.ntmps79
  go_wp2
  refine bodyPost_ret (v := vc (wrap64 (wrap64 (b * z) - wrap64 (c * y))) (wrap64 (wrap64 (c * x) - wrap64 (a * z))) (wrap64 (wrap64 (a * y) - wrap64 (b * x)))) (by simp [results, Try.results79, go_sem]) rfl ⟨rfl, (by repeat (first | with_reducible exact Gr.refl _ | with_reducible assumption | with_reducible refine Gr.alloc ?_ _ | with_reducible refine Gr.drewN ?_ _ | with_reducible refine Gr.drew ?_ | with_reducible refine Gr.setCell ?_ (by first | (dsimp only; omega) | (simp only [World.size_alloc]; omega) | (with_reducible refine Gr.size ?_; (repeat (first | with_reducible exact Gr.refl _ | with_reducible assumption | with_reducible refine Gr.alloc ?_ _ | with_reducible refine Gr.drewN ?_ _ | with_reducible refine Gr.drew ?_ | with_reducible refine Gr.trans ?_ (by with_reducible assumption))); done)) _ | with_reducible refine Gr.trans ?_ (by with_reducible assumption)))⟩
theorem along_any (a b c k x y z : Int) (w : World) :
    Calls Try.prog 78 #[vc a b c, iv k, vc x y z] w fun e w' => e = .returned (vc (wrap64 (a + wrap64 (k * x))) (wrap64 (b + wrap64 (k * y))) (wrap64 (c + wrap64 (k * z)))) ∧ Gr w w' := by
  go_enter Try.func78, Try.ntmps78
  go_wp2
  refine bodyPost_ret (v := vc (wrap64 (a + wrap64 (k * x))) (wrap64 (b + wrap64 (k * y))) (wrap64 (c + wrap64 (k * z)))) (by simp [results, Try.results78, go_sem]) rfl ⟨rfl, (by repeat (first | with_reducible exact Gr.refl _ | with_reducible assumption | with_reducible refine Gr.alloc ?_ _ | with_reducible refine Gr.drewN ?_ _ | with_reducible refine Gr.drew ?_ | with_reducible refine Gr.setCell ?_ (by first | (dsimp only; omega) | (simp only [World.size_alloc]; omega) | (with_reducible refine Gr.size ?_; (repeat (first | with_reducible exact Gr.refl _ | with_reducible assumption | with_reducible refine Gr.alloc ?_ _ | with_reducible refine Gr.drewN ?_ _ | with_reducible refine Gr.drew ?_ | with_reducible refine Gr.trans ?_ (by with_reducible assumption))); done)) _ | with_reducible refine Gr.trans ?_ (by with_reducible assumption)))⟩
theorem times_any (k x y z : Int) (w : World) :
    Calls Try.prog 100 #[iv k, vc x y z] w fun e w' => e = .returned (vc (wrap64 (k * x)) (wrap64 (k * y)) (wrap64 (k * z))) ∧ Gr w w' := by
  go_enter Try.func100, Try.ntmps100
  go_wp2
  refine bodyPost_ret (v := vc (wrap64 (k * x)) (wrap64 (k * y)) (wrap64 (k * z))) (by simp [results, Try.results100, go_sem]) rfl ⟨rfl, (by repeat (first | with_reducible exact Gr.refl _ | with_reducible assumption | with_reducible refine Gr.alloc ?_ _ | with_reducible refine Gr.drewN ?_ _ | with_reducible refine Gr.drew ?_ | with_reducible refine Gr.setCell ?_ (by first | (dsimp only; omega) | (simp only [World.size_alloc]; omega) | (with_reducible refine Gr.size ?_; (repeat (first | with_reducible exact Gr.refl _ | with_reducible assumption | with_reducible refine Gr.alloc ?_ _ | with_reducible refine Gr.drewN ?_ _ | with_reducible refine Gr.drew ?_ | with_reducible refine Gr.trans ?_ (by with_reducible assumption))); done)) _ | with_reducible refine Gr.trans ?_ (by with_reducible assumption)))⟩
theorem plus_any (a b c x y z : Int) (w : World) :
    Calls Try.prog 102 #[vc a b c, vc x y z] w fun e w' => e = .returned (vc (wrap64 (a + x)) (wrap64 (b + y)) (wrap64 (c + z))) ∧ Gr w w' := by
  go_enter Try.func102, Try.ntmps102
  go_wp2
  refine bodyPost_ret (v := vc (wrap64 (a + x)) (wrap64 (b + y)) (wrap64 (c + z))) (by simp [results, Try.results102, go_sem]) rfl ⟨rfl, (by repeat (first | with_reducible exact Gr.refl _ | with_reducible assumption | with_reducible refine Gr.alloc ?_ _ | with_reducible refine Gr.drewN ?_ _ | with_reducible refine Gr.drew ?_ | with_reducible refine Gr.setCell ?_ (by first | (dsimp only; omega) | (simp only [World.size_alloc]; omega) | (with_reducible refine Gr.size ?_; (repeat (first | with_reducible exact Gr.refl _ | with_reducible assumption | with_reducible refine Gr.alloc ?_ _ | with_reducible refine Gr.drewN ?_ _ | with_reducible refine Gr.drew ?_ | with_reducible refine Gr.trans ?_ (by with_reducible assumption))); done)) _ | with_reducible refine Gr.trans ?_ (by with_reducible assumption)))⟩
end Go.Proofs.Ytefjgfglommefaa
