/-
  Check of the code: its steps, left by a label.
-/
import Derived.Test.YtjdiepnbchcnoaaSb18
set_option linter.unusedVariables false
set_option linter.unusedSimpArgs false
namespace Go.Proofs.Ytjdiepnbchcnoaa
set_option linter.unusedVariables false
set_option linter.unusedSimpArgs false
open Go Go.ChangeShapes Go.WideShapes Go.ChangeAt Go.RowKit Go.Deep

/-- the rest of a list of changes, as the code holds it: k are cut off -/
def RestP (P : Option Addr) (b o k n : Nat) : Prop := k < n → P = some ⟨b, o + k * 3, none⟩
theorem rest_step (b o k n : Nat) : RestP (some ⟨b, o + k * 3 + 3, none⟩) b o (k + 1) n := fun _ => by rw [show o + k * 3 + 3 = o + (k + 1) * 3 by omega]
theorem rest_end {P : Option Addr} {b o k n : Nat} (h : n ≤ k) : RestP P b o k n := fun q => absurd q (by omega)
theorem stOk_no {x : Nd} {ms : List Int} (h : ∀ i p, i < ms.length → ms[i]? = some p → ¬ p ∈ x.l) : stOk x ms = false := by
  unfold stOk
  exact any_no fun i p hi hp => decide_eq_false (h i p hi hp)
theorem stOk_yes {x : Nd} {ms : List Int} {i : Nat} {p : Int} (h : ms[i]? = some p) (k : p ∈ x.l) : stOk x ms = true := by
  unfold stOk
  exact any_yes h (decide_eq_true k)
end Go.Proofs.Ytjdiepnbchcnoaa
