/-
  What the functions of the reference of layer 1 return: numbers with the square root of 3.
-/
import Derived.Test.YtfbhpeedjphpaaaDoorGeo1
namespace Go.Proofs.YtfbhpeedjphpaaaDoor
set_option linter.unusedVariables false
set_option linter.unusedSimpArgs false
open Go Go.ChangeShapes Go.WideShapes Go.ChangeAt Go.RowKit Go.Deep

theorem rwithin_any (n l : Int) (w : World) :
    Calls Tryd.prog 58 #[iv n, iv (-l), iv l] w fun e w' => e = .returned (.bool (inB n l)) ∧ w = w' := by
  go_enter Tryd.func58, Tryd.ntmps58
  go_wp2
  all_goals
    go_ret
    exact ⟨ret_bool (by simp [inB]; omega), rfl⟩
end Go.Proofs.YtfbhpeedjphpaaaDoor
