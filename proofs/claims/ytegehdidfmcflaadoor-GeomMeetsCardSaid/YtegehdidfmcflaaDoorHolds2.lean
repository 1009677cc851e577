/-
  GeomHullHolds: the walk.
-/
import Derived.Test.YtegehdidfmcflaaDoorHolds1
import Derived.Test.YtegehdidfmcflaaDoorLaid
namespace Go.Proofs.YtegehdidfmcflaaDoor
set_option linter.unusedVariables false
set_option linter.unusedSimpArgs false
open Go Go.ChangeShapes Go.WideShapes Go.ChangeAt Go.RowKit Go.Deep

theorem long_any (A : Option Addr) (n c : Nat) (w : World) :
    Calls Tryd.prog 5 #[.slice A n c] w fun e w' => e = .returned (.bool (decide (60 < n))) ∧ w = w' := by
  go_enter Tryd.func5, Tryd.ntmps5
  go_wp2
  go_ret
  exact ⟨ret_bool (by simp; omega), rfl⟩
end Go.Proofs.YtegehdidfmcflaaDoor
