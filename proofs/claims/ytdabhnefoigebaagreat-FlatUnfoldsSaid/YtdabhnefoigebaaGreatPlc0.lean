/-
  Blocks that the call has made: stores into them.
-/
import Derived.Test.YtdabhnefoigebaaGreatVal16
set_option linter.unusedVariables false
set_option linter.unusedSimpArgs false
namespace Go.Proofs.YtdabhnefoigebaaGreat
set_option linter.unusedVariables false
set_option linter.unusedSimpArgs false
open Go Go.ChangeShapes Go.WideShapes Go.ChangeAt Go.RowKit Go.Deep

theorem Made.other1 {w : World} {C : Nat} {z : Array Value} (h : Made w C z) {B i : Nat} (v : Value) (hne : C ≠ B) : Made (w.setCell ⟨B, i, none⟩ v) C z := by
  obtain ⟨h0, h1, h2⟩ := h
  refine ⟨by simpa using h0, fun o => ?_, fun o => ?_⟩
  · have := h1 o
    simp [go_sem, hne, this]
  · have := h2 o
    simp [go_sem, hne, this]
/-- three numbers stored at a block -/
def set3 (w : World) (B : Nat) (x y z : Int) : World := ((w.setCell ⟨B, 0, none⟩ (iv x)).setCell ⟨B, 1, none⟩ (iv y)).setCell ⟨B, 2, none⟩ (iv z)
def set2 (w : World) (B : Nat) (x y : Int) : World := (w.setCell ⟨B, 0, none⟩ (iv x)).setCell ⟨B, 1, none⟩ (iv y)
theorem Made.other3 {w : World} {C : Nat} {a : Array Value} (h : Made w C a) {B : Nat} (x y z : Int) (hne : C ≠ B) : Made (set3 w B x y z) C a :=
  ((h.other1 _ hne).other1 _ hne).other1 _ hne
theorem Made.other2 {w : World} {C : Nat} {a : Array Value} (h : Made w C a) {B : Nat} (x y : Int) (hne : C ≠ B) : Made (set2 w B x y) C a :=
  (h.other1 _ hne).other1 _ hne
theorem Made.set3 {w : World} {B : Nat} {a b c : Value} (h : Made w B #[a, b, c]) (x y z : Int) : Made (Go.Proofs.YtdabhnefoigebaaGreat.set3 w B x y z) B #[iv x, iv y, iv z] := by
  obtain ⟨h0, h1, h2⟩ := h
  unfold Go.Proofs.YtdabhnefoigebaaGreat.set3
  refine ⟨by simpa using h0, fun o => ?_, fun o => ?_⟩
  · have e0 := h1 0
    have e1 := h1 1
    have e2 := h1 2
    have eo := h1 o
    simp at e0 e1 e2
    rcases (by omega : o = 0 ∨ o = 1 ∨ o = 2 ∨ 3 ≤ o) with rfl | rfl | rfl | ho
    · simp [go_sem, e0, e1, e2]
    · simp [go_sem, e0, e1, e2]
    · simp [go_sem, e0, e1, e2]
    · rw [Array.getElem?_eq_none (by simpa using ho)] at eo
      rw [Array.getElem?_eq_none (by simpa using ho)]
      have n0 : ¬ o = 0 := by omega
      have n1 : ¬ o = 1 := by omega
      have n2 : ¬ o = 2 := by omega
      simp [go_sem, e0, e1, e2, eo, n0, n1, n2]
  · have := h2 o
    simp [go_sem, this]
theorem Made.set2 {w : World} {B : Nat} {a b : Value} (h : Made w B #[a, b]) (x y : Int) : Made (Go.Proofs.YtdabhnefoigebaaGreat.set2 w B x y) B #[iv x, iv y] := by
  obtain ⟨h0, h1, h2⟩ := h
  unfold Go.Proofs.YtdabhnefoigebaaGreat.set2
  refine ⟨by simpa using h0, fun o => ?_, fun o => ?_⟩
  · have e0 := h1 0
    have e1 := h1 1
    have eo := h1 o
    simp at e0 e1
    rcases (by omega : o = 0 ∨ o = 1 ∨ 2 ≤ o) with rfl | rfl | ho
    · simp [go_sem, e0, e1]
    · simp [go_sem, e0, e1]
    · rw [Array.getElem?_eq_none (by simpa using ho)] at eo
      rw [Array.getElem?_eq_none (by simpa using ho)]
      have n0 : ¬ o = 0 := by omega
      have n1 : ¬ o = 1 := by omega
      simp [go_sem, e0, e1, eo, n0, n1]
  · have := h2 o
    simp [go_sem, this]
theorem gr_set3 {w0 w : World} {B : Nat} (x y z : Int) (g : Gr w0 w) (h : w0.heap.size ≤ B) : Gr w0 (set3 w B x y z) := by
  unfold set3
  exact Gr.setCell (Gr.setCell (Gr.setCell g (by dsimp only; omega) _) (by dsimp only; omega) _) (by dsimp only; omega) _
theorem gr_set2 {w0 w : World} {B : Nat} (x y : Int) (g : Gr w0 w) (h : w0.heap.size ≤ B) : Gr w0 (set2 w B x y) := by
  unfold set2
  exact Gr.setCell (Gr.setCell g (by dsimp only; omega) _) (by dsimp only; omega) _
theorem size_set3 (w : World) (B : Nat) (x y z : Int) : (set3 w B x y z).heap.size = w.heap.size := by
  unfold set3
  simp only [World.size_setCell]
theorem size_set2 (w : World) (B : Nat) (x y : Int) : (set2 w B x y).heap.size = w.heap.size := by
  unfold set2
  simp only [World.size_setCell]
end Go.Proofs.YtdabhnefoigebaaGreat
