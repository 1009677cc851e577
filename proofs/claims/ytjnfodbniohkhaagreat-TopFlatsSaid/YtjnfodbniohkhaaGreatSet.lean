/-
  Several values stored one after another into a block of the call's own. No program.
-/
import Derived.Test.YtjnfodbniohkhaaGreatMix
namespace Go.Proofs.YtjnfodbniohkhaaGreat
set_option linter.unusedVariables false
set_option linter.unusedSimpArgs false
open Go Go.ChangeShapes Go.WideShapes Go.ChangeAt Go.RowKit Go.Deep

def setL (w : World) (B : Nat) : Nat → List Value → World
  | _, [] => w
  | o, v :: vs => setL (w.setCell ⟨B, o, none⟩ v) B (o + 1) vs
def setA (z : Array Value) : Nat → List Value → Array Value
  | _, [] => z
  | o, v :: vs => setA (z.setIfInBounds o v) (o + 1) vs
theorem Made.set1 {w : World} {B : Nat} {z : Array Value} (h : Made w B z) {o : Nat} (ho : o < z.size) (v : Value) : Made (w.setCell ⟨B, o, none⟩ v) B (z.setIfInBounds o v) := by
  obtain ⟨h0, h1, h2⟩ := h
  have e0 : w.cell? ⟨B, o, none⟩ = some z[o] := by rw [h1]; simp [ho]
  refine ⟨by simpa using h0, fun j => ?_, fun j => ?_⟩
  · have ej := h1 j
    by_cases hj : j = o
    · subst hj
      simp [go_sem, e0, ho]
    · rw [Array.getElem?_setIfInBounds, if_neg (Ne.symm hj)]
      simp [go_sem, e0, ej, hj]
  · have := h2 j
    simp [go_sem, this]
theorem Made.oth1 {w : World} {C : Nat} {z : Array Value} (h : Made w C z) {B : Nat} (hne : C ≠ B) (o : Nat) (v : Value) : Made (w.setCell ⟨B, o, none⟩ v) C z := by
  obtain ⟨h0, h1, h2⟩ := h
  refine ⟨by simpa using h0, fun j => ?_, fun j => ?_⟩
  · have ej := h1 j
    simp [go_sem, ej, hne]
  · have := h2 j
    simp [go_sem, this]
theorem Made.setA {B : Nat} : ∀ {vs : List Value} {w : World} {z : Array Value} {o : Nat}, Made w B z → o + vs.length ≤ z.size → Made (setL w B o vs) B (Go.Proofs.YtjnfodbniohkhaaGreat.setA z o vs)
  | [], _, _, _, h, _ => h
  | v :: vs, w, z, o, h, hl => by
    simp only [List.length_cons] at hl
    exact Made.setA (vs := vs) (h.set1 (by omega) v) (by simp; omega)
theorem Made.oth {B C : Nat} (hne : C ≠ B) : ∀ {vs : List Value} {w : World} {z : Array Value} {o : Nat}, Made w C z → Made (setL w B o vs) C z
  | [], _, _, _, h => h
  | v :: vs, w, z, o, h => Made.oth hne (vs := vs) (h.oth1 hne o v)
theorem setA_at : ∀ (vs : List Value) (z : Array Value) (o : Nat), o + vs.length ≤ z.size → ∀ j, (setA z o vs)[j]? = if o ≤ j ∧ j < o + vs.length then vs[j - o]? else z[j]?
  | [], z, o, _, j => by
    rw [if_neg (by simp only [List.length_nil]; omega)]
    rfl
  | v :: vs, z, o, h, j => by
    simp only [List.length_cons] at h
    show (setA (z.setIfInBounds o v) (o + 1) vs)[j]? = _
    rw [setA_at vs _ (o + 1) (by simp; omega) j, Array.getElem?_setIfInBounds]
    simp only [List.length_cons]
    by_cases h1 : o + 1 ≤ j ∧ j < o + 1 + vs.length
    · rw [if_pos h1, if_pos (by omega), show j - o = (j - (o + 1)) + 1 by omega]
      rfl
    · rw [if_neg h1]
      by_cases h2 : o = j
      · subst h2
        rw [if_pos rfl, if_pos (by omega), if_pos (by omega), Nat.sub_self]
        rfl
      · rw [if_neg h2, if_neg (by omega)]
theorem setA_all (vs : List Value) (z : Array Value) (h : vs.length = z.size) : setA z 0 vs = vs.toArray := by
  apply Array.ext_getElem?
  intro j
  rw [setA_at vs z 0 (by omega) j]
  by_cases hj : j < vs.length
  · rw [if_pos (by omega), Nat.sub_zero]
    simp
  · rw [if_neg (by omega), Array.getElem?_eq_none (by omega), Array.getElem?_eq_none (by simp; omega)]
theorem Made.setL {w : World} {B : Nat} {z : Array Value} (h : Made w B z) (vs : List Value) (hl : vs.length = z.size) : Made (Go.Proofs.YtjnfodbniohkhaaGreat.setL w B 0 vs) B vs.toArray := by
  rw [← setA_all vs z hl]
  exact h.setA (by omega)
theorem gr_setL {w0 : World} {B : Nat} (hB : w0.heap.size ≤ B) : ∀ {vs : List Value} {w : World} {o : Nat}, Gr w0 w → Gr w0 (setL w B o vs)
  | [], _, _, g => g
  | v :: vs, w, o, g => gr_setL hB (vs := vs) (Gr.setCell g (by dsimp only; omega) _)
theorem size_setL {B : Nat} : ∀ (vs : List Value) (w : World) (o : Nat), (setL w B o vs).heap.size = w.heap.size
  | [], _, _ => rfl
  | v :: vs, w, o => by
    show (setL (w.setCell ⟨B, o, none⟩ v) B (o + 1) vs).heap.size = _
    rw [size_setL vs, World.size_setCell]
end Go.Proofs.YtjnfodbniohkhaaGreat
