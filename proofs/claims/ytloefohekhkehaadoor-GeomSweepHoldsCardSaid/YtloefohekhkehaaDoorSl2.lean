/-
  Slices of points that are made: the copy of a slice.
-/
import Derived.Test.YtloefohekhkehaaDoorSl1
namespace Go.Proofs.YtloefohekhkehaaDoor
set_option linter.unusedVariables false
set_option linter.unusedSimpArgs false
open Go Go.ChangeShapes Go.WideShapes Go.ChangeAt Go.RowKit Go.Deep

abbrev cellsOfPt (p : Pt) : List Value := [iv p.1, iv p.2.1, iv p.2.2.1, iv p.2.2.2]
def flat (xs : List Pt) : List Value := xs.flatMap cellsOfPt
theorem flat_snoc (xs : List Pt) (p : Pt) : flat (xs ++ [p]) = flat xs ++ cellsOfPt p := by simp [flat]
theorem flat_length (xs : List Pt) : (flat xs).length = xs.length * 4 := by
  induction xs with
  | nil => rfl
  | cons x xs ih => simp only [flat, List.flatMap_cons, List.length_append, List.length_cons] at *; simp at *; omega
theorem flat_at (xs : List Pt) (i : Nat) (p : Pt) (h : xs[i]? = some p) : (flat xs)[i * 4]? = some (iv p.1) ∧ (flat xs)[i * 4 + 1]? = some (iv p.2.1) ∧ (flat xs)[i * 4 + 2]? = some (iv p.2.2.1) ∧ (flat xs)[i * 4 + 3]? = some (iv p.2.2.2) := by
  induction xs generalizing i with
  | nil => simp at h
  | cons x xs ih =>
    have e : flat (x :: xs) = cellsOfPt x ++ flat xs := by simp [flat]
    rw [e]
    cases i with
    | zero =>
      simp only [List.getElem?_cons_zero, Option.some.injEq] at h
      subst h
      simp
    | succ i =>
      have := ih i (by simpa using h)
      refine ⟨?_, ?_, ?_, ?_⟩ <;> rw [List.getElem?_append_right (by simp; omega)]
      · rw [← this.1]; congr 1; simp; omega
      · rw [← this.2.1]; congr 1; simp; omega
      · rw [← this.2.2.1]; congr 1; simp; omega
      · rw [← this.2.2.2]; congr 1; simp; omega
/-- The slice value v of the call's own holds the points xs. -/
def Own (w : World) (base : Nat) (v : Value) (xs : List Pt) : Prop := w.ownsRow base 34 4 v xs.length (flat xs)
theorem Own.rd {w : World} {base : Nat} {A : Option Addr} {n c : Nat} {xs : List Pt} (h : Own w base (.slice A n c) xs) : n = xs.length ∧ Rd w A xs := by
  obtain ⟨h0, ⟨h1, h2⟩ | ⟨g, cap, cur, h1, _, h2, h3, h4, h5, h6⟩⟩ := id h
  · have : xs = [] := List.eq_nil_of_length_eq_zero h2
    subst this
    injection h1 with _ h1 _
    exact ⟨h1, fun i p hp => by simp at hp⟩
  · injection h1 with e1 e2 e3
    subst e1 e2
    refine ⟨rfl, fun i p hp => ?_⟩
    have hc := fun j => World.ownsRow.cellAt (w := w) (h : w.ownsRow base 34 4 (.slice (some ⟨g, 0, none⟩) xs.length c) xs.length (flat xs)) j
    have hi : i < xs.length := (List.getElem?_eq_some_iff.1 hp).1
    obtain ⟨f0, f1, f2, f3⟩ := flat_at xs i p hp
    exact ⟨g, 0, rfl, by rw [Nat.zero_add, hc _ (by omega), f0], by rw [Nat.zero_add, hc _ (by omega), f1], by rw [Nat.zero_add, hc _ (by omega), f2], by rw [Nat.zero_add, hc _ (by omega), f3]⟩
theorem infoPt : (Tryd.prog.info? 34).map (fun i => (i.zero, i.size, i.bytes)) = some (some (.agg #[.int .i64 0, .int .i64 0, .int .i64 0, .int .i64 0]), 4, 32) := by kernel_rfl
theorem cells_new4 (w : World) (p : Pt) : ∀ j u, (cellsOfPt p)[j]? = some u → (w.alloc (.cells #[iv p.1, iv p.2.1, iv p.2.2.1, iv p.2.2.2] 34)).cell? ((⟨w.heap.size, 0, none⟩ : Addr).add j) = some u := by
  intro j u hu
  match j with
  | 0 => simp at hu; subst hu; simp [Addr.add, go_sem]
  | 1 => simp at hu; subst hu; simp [Addr.add, go_sem]
  | 2 => simp at hu; subst hu; simp [Addr.add, go_sem]
  | 3 => simp at hu; subst hu; simp [Addr.add, go_sem]
  | j + 4 => simp at hu
end Go.Proofs.YtloefohekhkehaaDoor
