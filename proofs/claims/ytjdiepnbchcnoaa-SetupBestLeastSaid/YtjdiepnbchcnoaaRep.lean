/-
  Stations that are empty: slices.Repeat of one element.
-/
import Derived.Test.YtjdiepnbchcnoaaSb8
import Derived.Laws.CopyOwn
set_option linter.unusedVariables false
set_option linter.unusedSimpArgs false
namespace Go.Proofs.Ytjdiepnbchcnoaa
set_option linter.unusedVariables false
set_option linter.unusedSimpArgs false
open Go Go.ChangeShapes Go.WideShapes Go.ChangeAt Go.RowKit Go.Deep

/-- k stations of n are empty -/
def emR (n k : Nat) : List Value := List.replicate k (iv (-1)) ++ List.replicate (n - k) (iv 0)
theorem emR_len {n k : Nat} (h : k ≤ n) : (emR n k).length = n := by
  unfold emR
  rw [List.length_append, List.length_replicate, List.length_replicate]
  omega
theorem emR_zero (n : Nat) : emR n 0 = List.replicate n (iv 0) := by simp [emR]
theorem emR_all (n : Nat) : emR n n = List.replicate n (iv (-1)) := by simp [emR]
theorem emR_step {n k m : Nat} (h : k + m ≤ n) : splice (emR n k) k (List.replicate m (iv (-1))) = emR n (k + m) := by
  unfold splice emR
  rw [List.take_append_of_le_length (by simp), List.take_of_length_le (by simp), List.drop_append, List.length_replicate, List.length_replicate]
  rw [List.drop_eq_nil_of_le (by simp), List.nil_append, List.drop_replicate, ← List.append_assoc, List.replicate_append_replicate]
  congr 2
  omega
theorem emR_at {n k i : Nat} (h : i < k) : (emR n k)[i]? = some (iv (-1)) := by
  unfold emR
  rw [List.getElem?_append_left (by simpa using h), List.getElem?_replicate, if_pos h]
theorem info_int : ∃ i, Try.prog.info? 3 = some i ∧ i.zero = some (iv 0) ∧ i.size = 1 ∧ i.bytes = 8 := by
  have hi : (Try.prog.info? 3).map (fun i => (i.zero, i.size, i.bytes)) = some (some (iv 0), 1, 8) := by kernel_rfl
  cases e1 : Try.prog.info? 3 with
  | none => rw [e1] at hi; cases hi
  | some i =>
    rw [e1] at hi
    simp only [Option.map_some, Option.some.injEq, Prod.mk.injEq] at hi
    exact ⟨i, rfl, hi.1, hi.2.1, hi.2.2⟩
theorem size_int : (Try.prog.info? 3).map (·.size) = some 1 := by kernel_rfl
theorem own_row {w : World} {base e B n : Nat} {xs : List Value} (h : w.ownsRow base e 1 (.slice (some ⟨B, 0, none⟩) n n) n xs) : w.heap[B]? = some (.cells xs.toArray e (0, 0)) := by
  rcases h.2 with ⟨h', _⟩ | ⟨g, cap, cur, h1, _, h2, _, _, h5, h6⟩
  · simp at h'
  · simp only [Value.slice.injEq, Option.some.injEq, Addr.mk.injEq, and_true, true_and] at h1
    obtain ⟨rfl, rfl⟩ := h1
    have : cur.toList = xs := by rw [← h6, List.take_of_length_le (by rw [Array.length_toList, h5]; exact Nat.le_refl _)]
    rw [h2, ← this]
theorem row_cells {w : World} {B : Nat} {e : TypeId} {xs : List Value} (h : w.heap[B]? = some (.cells xs.toArray e (0, 0))) (i : Nat) : w.cell? ⟨B, i, none⟩ = xs[i]? := by
  have := cell_of_row w B i xs.toArray e (0, 0) h
  simpa using this
end Go.Proofs.Ytjdiepnbchcnoaa
