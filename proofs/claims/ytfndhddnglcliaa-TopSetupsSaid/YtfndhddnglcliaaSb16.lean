/-
  What is mounted at a step, in the reference; the law of mounting.
-/
import Derived.Test.YtfndhddnglcliaaSb15
set_option linter.unusedVariables false
set_option linter.unusedSimpArgs false
namespace Go.Proofs.Ytfndhddnglcliaa
set_option linter.unusedVariables false
set_option linter.unusedSimpArgs false
open Go Go.ChangeShapes Go.WideShapes Go.ChangeAt Go.RowKit Go.Deep

theorem moL_succ (k : Nat) (l : List Chg) (step : Int) : moL k l step ++ [mo1 l step (k : Int)] = moL (k + 1) l step := by
  unfold moL
  rw [List.range_succ, List.map_append]
  rfl
theorem moF_yes {step i a : Int} {x : Chg} (h : x.st ≤ step) (k : x.sn = i) : moF step i a x = x.pr := if_pos ⟨h, k⟩
theorem moF_no1 {step i a : Int} {x : Chg} (h : ¬ x.st ≤ step) : moF step i a x = a := if_neg fun q => h q.1
theorem moF_no2 {step i a : Int} {x : Chg} (h : ¬ x.sn = i) : moF step i a x = a := if_neg fun q => h q.2
end Go.Proofs.Ytfndhddnglcliaa
