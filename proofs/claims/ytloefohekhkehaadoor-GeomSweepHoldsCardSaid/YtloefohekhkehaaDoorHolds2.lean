/-
  GeomHullHolds: the walk.
-/
import Derived.Test.YtloefohekhkehaaDoorHolds1
import Derived.Test.YtloefohekhkehaaDoorLaid
namespace Go.Proofs.YtloefohekhkehaaDoor
set_option linter.unusedVariables false
set_option linter.unusedSimpArgs false
open Go Go.ChangeShapes Go.WideShapes Go.ChangeAt Go.RowKit Go.Deep

theorem orient_pts (p q x : Pt) (w : World) (hp : pB p = true) (hq : pB q = true) (hx : pB x = true) :
    Calls Tryd.prog 19 #[pv p, pv q, pv x] w fun e w' => e = .returned (.tuple #[iv (orP p q x), iv 0]) ∧ Gr w w' := by
  refine (Orient_any _ _ _ _ _ _ _ _ _ _ _ _ w).mono ?_
  rintro e w' ⟨rfl, g⟩
  unfold pB at hp hq hx
  have ho : orOk p.1 p.2.1 p.2.2.1 p.2.2.2 q.1 q.2.1 q.2.2.1 q.2.2.2 x.1 x.2.1 x.2.2.1 x.2.2.2 = true := by simp [orOk, hp, hq, hx]
  exact ⟨ret_two (by simp [orV, ho, orP]) (by simp [orE, ho, errIf]), g⟩
end Go.Proofs.YtloefohekhkehaaDoor
