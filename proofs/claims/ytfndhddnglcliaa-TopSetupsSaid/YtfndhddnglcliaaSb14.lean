/-
  Changes in order, in the reference.
-/
import Derived.Test.YtfndhddnglcliaaSb13
set_option linter.unusedVariables false
set_option linter.unusedSimpArgs false
namespace Go.Proofs.Ytfndhddnglcliaa
set_option linter.unusedVariables false
set_option linter.unusedSimpArgs false
open Go Go.ChangeShapes Go.WideShapes Go.ChangeAt Go.RowKit Go.Deep

theorem below_step {l : List Chg} {r : Nat} {x d : Chg} (H : ∀ jj d, jj < r → l[jj]? = some d → bdP d x = false) (hd : l[r]? = some d) (h : bdP d x = false) : ∀ jj d, jj < r + 1 → l[jj]? = some d → bdP d x = false := by
  intro jj e hj he
  rcases Nat.lt_or_ge jj r with h1 | h1
  · exact H jj e h1 he
  · obtain rfl : jj = r := by omega
    rw [hd] at he
    obtain rfl := Option.some.inj he
    exact h
end Go.Proofs.Ytfndhddnglcliaa
