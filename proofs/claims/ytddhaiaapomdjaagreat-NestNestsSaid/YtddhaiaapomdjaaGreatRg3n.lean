/-
  Areas, plainly: what the program and the document add up over a grid is the area; the cells of a grid tell regions apart.
-/
import Derived.Test.YtddhaiaapomdjaaGreatRg2n
set_option linter.unusedVariables false
set_option linter.unusedSimpArgs false
namespace Go.Proofs.YtddhaiaapomdjaaGreat
set_option linter.unusedVariables false
set_option linter.unusedSimpArgs false
open Go Go.ChangeShapes Go.WideShapes Go.ChangeAt Go.RowKit Go.Deep

namespace RG
theorem find {X : List Int} (hu : Up X) (x : Int) : (∀ p ∈ X, x < p) ∨ (∀ p ∈ X, p ≤ x) ∨ ∃ i p q, X[i]? = some p ∧ X[i + 1]? = some q ∧ p ≤ x ∧ x < q := by
  induction X with
  | nil => exact .inl fun p hp => by simp at hp
  | cons a X ih =>
    have h' := List.pairwise_cons.1 hu
    rcases Int.lt_or_le x a with h | h
    · left
      intro p hp
      rcases List.mem_cons.1 hp with rfl | hp
      · exact h
      · have := h'.1 p hp
        omega
    · right
      rcases ih h'.2 with k | k | ⟨i, p, q, h1, h2, h3, h4⟩
      · cases X with
        | nil => exact .inl fun p hp => by simp at hp; omega
        | cons b X => exact .inr ⟨0, a, b, rfl, rfl, h, k b (by simp)⟩
      · left
        intro p hp
        rcases List.mem_cons.1 hp with rfl | hp
        · exact h
        · exact k p hp
      · exact .inr ⟨i + 1, p, q, by simpa using h1, by simpa using h2, h3, h4⟩
end RG
end Go.Proofs.YtddhaiaapomdjaaGreat
