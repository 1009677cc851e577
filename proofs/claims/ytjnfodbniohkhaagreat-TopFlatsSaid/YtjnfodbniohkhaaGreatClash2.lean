/-
  The reference's axis of a vector, and which faces are sound.
-/
import Derived.Test.YtjnfodbniohkhaaGreatClash1
import Derived.Test.YtjnfodbniohkhaaGreatRCorn
namespace Go.Proofs.YtjnfodbniohkhaaGreat
set_option linter.unusedVariables false
set_option linter.unusedSimpArgs false
open Go Go.ChangeShapes Go.WideShapes Go.ChangeAt Go.RowKit Go.Deep

/-- behind k numbers of a vector, what the search for its axis has -/
def axS (x y z : Int) (k at_ : Int) : Prop :=
  (k = 0 ∧ at_ = -1) ∨ (k = 1 ∧ ((x = 0 ∧ at_ = -1) ∨ ((x = 1 ∨ x = -1) ∧ at_ = 0))) ∨
  (k = 2 ∧ ((x = 0 ∧ y = 0 ∧ at_ = -1) ∨ ((x = 1 ∨ x = -1) ∧ y = 0 ∧ at_ = 0) ∨ (x = 0 ∧ (y = 1 ∨ y = -1) ∧ at_ = 1))) ∨ (k = 3 ∧ at_ = axI x y z)
/-- the faces that Clash examines -/
def soB (f : Fc) : Bool := axB f.ux f.uy f.uz && axB f.vx f.vy f.vz && !decide (axI f.ux f.uy f.uz = axI f.vx f.vy f.vz) && wiB f.w 1 1048576 && wiB f.h 1 1048576 && orgB f.ox f.oy f.oz
theorem axB_of {x y z : Int} : axB x y z = decide (0 ≤ axI x y z) := rfl
end Go.Proofs.YtjnfodbniohkhaaGreat
