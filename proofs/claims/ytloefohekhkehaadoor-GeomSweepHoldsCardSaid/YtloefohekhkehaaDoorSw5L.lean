/-
  How long what Sweep gives is.
-/
import Derived.Test.YtloefohekhkehaaDoorSw3
set_option linter.unusedVariables false
set_option linter.unusedSimpArgs false
namespace Go.Proofs.YtloefohekhkehaaDoor
set_option linter.unusedVariables false
set_option linter.unusedSimpArgs false
open Go Go.ChangeShapes Go.WideShapes Go.ChangeAt Go.RowKit Go.Deep

theorem swE_lim {xs : List Spt} {f t : Int} (h : swE xs f t = 0) : 0 ≤ f ∧ f ≤ t ∧ t ≤ 6 ∧ 1 ≤ xs.length ∧ xs.length ≤ 12 ∧ sinL xs = true := by
  unfold swE at h
  split at h
  · cases h
  · rename_i h1
    split at h
    · rename_i h2
      unfold swBad at h1
      simp only [Bool.or_eq_true, decide_eq_true_eq, not_or] at h1
      exact ⟨by omega, by omega, by omega, by omega, by omega, h2⟩
    · cases h
theorem swOk_le {xs : List Spt} {f t : Int} {ps : List PL} (h : SwOk xs f t ps) : ps.length ≤ 6 := by
  rcases h with ⟨h, rfl⟩ | ⟨h, h1, _⟩
  · simp
  · obtain ⟨a, b, c, _⟩ := swE_lim h
    rw [h1]
    unfold swN
    split <;> omega
end Go.Proofs.YtloefohekhkehaaDoor
