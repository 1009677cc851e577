/-
  Vectors: the normal and the corners of any face, on both sides; whatever the numbers, sums and products wrap.
-/
import Derived.Test.YtjnfodbniohkhaaGreatPlain
namespace Go.Proofs.YtjnfodbniohkhaaGreat
set_option linter.unusedVariables false
set_option linter.unusedSimpArgs false
open Go Go.ChangeShapes Go.WideShapes Go.ChangeAt Go.RowKit Go.Deep

/-- the normal's numbers -/
def nx (f : Fc) : Int := wrap64 (wrap64 (f.uy * f.vz) - wrap64 (f.uz * f.vy))
def ny (f : Fc) : Int := wrap64 (wrap64 (f.uz * f.vx) - wrap64 (f.ux * f.vz))
def nz (f : Fc) : Int := wrap64 (wrap64 (f.ux * f.vy) - wrap64 (f.uy * f.vx))
theorem normal_any (f : Fc) (w : World) :
    Calls Tryz.prog 163 #[fv f] w fun e w' => e = .returned (vc (nx f) (ny f) (nz f)) ∧ Gr w w' := by
  go_enter Tryz.func163, Tryz.ntmps163
  go_wp2
  refine bodyPost_ret (v := vc (nx f) (ny f) (nz f)) (by simp [results, Tryz.results163, go_sem, nx, ny, nz]) rfl ⟨rfl, (by repeat (first | with_reducible exact Gr.refl _ | with_reducible assumption | with_reducible refine Gr.alloc ?_ _ | with_reducible refine Gr.drewN ?_ _ | with_reducible refine Gr.drew ?_ | with_reducible refine Gr.setCell ?_ (by first | (dsimp only; omega) | (simp only [World.size_alloc]; omega) | (with_reducible refine Gr.size ?_; (repeat (first | with_reducible exact Gr.refl _ | with_reducible assumption | with_reducible refine Gr.alloc ?_ _ | with_reducible refine Gr.drewN ?_ _ | with_reducible refine Gr.drew ?_ | with_reducible refine Gr.trans ?_ (by with_reducible assumption))); done)) _ | with_reducible refine Gr.trans ?_ (by with_reducible assumption)))⟩
theorem times_any (k x y z : Int) (w : World) :
    Calls Tryz.prog 161 #[iv k, vc x y z] w fun e w' => e = .returned (vc (wrap64 (k * x)) (wrap64 (k * y)) (wrap64 (k * z))) ∧ Gr w w' := by
  go_enter Tryz.func161, Tryz.ntmps161
  go_wp2
  refine bodyPost_ret (v := vc (wrap64 (k * x)) (wrap64 (k * y)) (wrap64 (k * z))) (by simp [results, Tryz.results161, go_sem]) rfl ⟨rfl, (by repeat (first | with_reducible exact Gr.refl _ | with_reducible assumption | with_reducible refine Gr.alloc ?_ _ | with_reducible refine Gr.drewN ?_ _ | with_reducible refine Gr.drew ?_ | with_reducible refine Gr.setCell ?_ (by first | (dsimp only; omega) | (simp only [World.size_alloc]; omega) | (with_reducible refine Gr.size ?_; (repeat (first | with_reducible exact Gr.refl _ | with_reducible assumption | with_reducible refine Gr.alloc ?_ _ | with_reducible refine Gr.drewN ?_ _ | with_reducible refine Gr.drew ?_ | with_reducible refine Gr.trans ?_ (by with_reducible assumption))); done)) _ | with_reducible refine Gr.trans ?_ (by with_reducible assumption)))⟩
theorem plus_any (a b c x y z : Int) (w : World) :
    Calls Tryz.prog 162 #[vc a b c, vc x y z] w fun e w' => e = .returned (vc (wrap64 (a + x)) (wrap64 (b + y)) (wrap64 (c + z))) ∧ Gr w w' := by
  go_enter Tryz.func162, Tryz.ntmps162
  go_wp2
  refine bodyPost_ret (v := vc (wrap64 (a + x)) (wrap64 (b + y)) (wrap64 (c + z))) (by simp [results, Tryz.results162, go_sem]) rfl ⟨rfl, (by repeat (first | with_reducible exact Gr.refl _ | with_reducible assumption | with_reducible refine Gr.alloc ?_ _ | with_reducible refine Gr.drewN ?_ _ | with_reducible refine Gr.drew ?_ | with_reducible refine Gr.setCell ?_ (by first | (dsimp only; omega) | (simp only [World.size_alloc]; omega) | (with_reducible refine Gr.size ?_; (repeat (first | with_reducible exact Gr.refl _ | with_reducible assumption | with_reducible refine Gr.alloc ?_ _ | with_reducible refine Gr.drewN ?_ _ | with_reducible refine Gr.drew ?_ | with_reducible refine Gr.trans ?_ (by with_reducible assumption))); done)) _ | with_reducible refine Gr.trans ?_ (by with_reducible assumption)))⟩
end Go.Proofs.YtjnfodbniohkhaaGreat
