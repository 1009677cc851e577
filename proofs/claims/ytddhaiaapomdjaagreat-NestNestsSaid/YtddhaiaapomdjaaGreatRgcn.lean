/-
  Regions: the error of lists, the area of a grid, whether two grids have the same cells, in the code.
-/
import Derived.Test.YtddhaiaapomdjaaGreatRgmn
set_option linter.unusedVariables false
set_option linter.unusedSimpArgs false
namespace Go.Proofs.YtddhaiaapomdjaaGreat
set_option linter.unusedVariables false
set_option linter.unusedSimpArgs false
open Go Go.ChangeShapes Go.WideShapes Go.ChangeAt Go.RowKit Go.Deep

namespace RG
theorem more {α : Type} {Q : α → Prop} {l : List α} {k : Nat} {r : α} (h : ∀ (j : Nat) (s : α), j < k → l[j]? = some s → Q s) (hs : l[k]? = some r) (q : Q r) : ∀ (j : Nat) (s : α), j < k + 1 → l[j]? = some s → Q s := by
  intro j x hj hx
  rcases Nat.lt_or_ge j k with c | c
  · exact h j x c hx
  · obtain rfl : j = k := by omega
    rw [hs] at hx
    obtain rfl := Option.some.inj hx
    exact q
theorem box4 {w w' : World} {a b c d : Value} {t : TypeId} (g : Gr (w.alloc (.cells #[a, b, c, d] t)) w') : w.heap.size < w'.heap.size ∧ w'.cell? ⟨w.heap.size, 0, none⟩ = some a ∧ w'.cell? ⟨w.heap.size, 1, none⟩ = some b ∧ w'.cell? ⟨w.heap.size, 2, none⟩ = some c ∧ w'.cell? ⟨w.heap.size, 3, none⟩ = some d := by
  have hl : w.heap.size < (w.alloc (.cells #[a, b, c, d] t)).heap.size := by simp
  exact ⟨Nat.lt_of_lt_of_le hl g.size, (g.cell _ _ hl).trans (by simp [go_sem]), (g.cell _ _ hl).trans (by simp [go_sem]), (g.cell _ _ hl).trans (by simp [go_sem]), (g.cell _ _ hl).trans (by simp [go_sem])⟩
theorem box3 {w w' : World} {a b c : Value} {t : TypeId} (g : Gr (w.alloc (.cells #[a, b, c] t)) w') : w.heap.size < w'.heap.size ∧ w'.cell? ⟨w.heap.size, 0, none⟩ = some a ∧ w'.cell? ⟨w.heap.size, 1, none⟩ = some b ∧ w'.cell? ⟨w.heap.size, 2, none⟩ = some c := by
  have hl : w.heap.size < (w.alloc (.cells #[a, b, c] t)).heap.size := by simp
  exact ⟨Nat.lt_of_lt_of_le hl g.size, (g.cell _ _ hl).trans (by simp [go_sem]), (g.cell _ _ hl).trans (by simp [go_sem]), (g.cell _ _ hl).trans (by simp [go_sem])⟩
end RG
end Go.Proofs.YtddhaiaapomdjaaGreat
