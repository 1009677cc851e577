/-
  checkPoints: the error of lists of points.
-/
import Derived.Test.YtloefohekhkehaaDoorSl1
namespace Go.Proofs.YtloefohekhkehaaDoor
set_option linter.unusedVariables false
set_option linter.unusedSimpArgs false
open Go Go.ChangeShapes Go.WideShapes Go.ChangeAt Go.RowKit Go.Deep

/-- Slices of points that lie in a slice. -/
abbrev PL := Option Addr × List Pt × Nat
def RdL (w : World) (A : Option Addr) (ls : List PL) : Prop :=
  ∀ (i : Nat) (l : PL), ls[i]? = some l → (∃ b off, A = some ⟨b, off, none⟩ ∧ w.cell? ⟨b, off + i, none⟩ = some (.slice l.1 l.2.1.length l.2.2)) ∧ Rd w l.1 l.2.1 ∧ l.2.1.length ≤ 1000000
theorem RdL.gr {a b : World} {A : Option Addr} {ls : List PL} (h : RdL a A ls) (g : Gr a b) : RdL b A ls := by
  intro i l hl
  obtain ⟨⟨k, off, e, h0⟩, h1, h2⟩ := h i l hl
  exact ⟨⟨k, off, e, (g.cell _ _ (cell_lt (by rw [h0]; rfl))).trans h0⟩, h1.gr g, h2⟩
def badLen (n : Nat) : Bool := decide (n = 0) || decide (24 < n)
def pB (p : Pt) : Bool := pinB p.1 p.2.1 p.2.2.1 p.2.2.2
def ckE (ls : List PL) : Int := if ls.any (fun l => badLen l.2.1.length) then 1 else if ls.any (fun l => l.2.1.any fun p => !pB p) then 4 else 0
theorem any_take_succ {α : Type} (f : α → Bool) (l : List α) (k : Nat) (x : α) (h : l[k]? = some x) : (l.take (k + 1)).any f = ((l.take k).any f || f x) := by
  rw [List.take_add_one, h]
  simp
theorem any_of {α : Type} (f : α → Bool) (l : List α) (k : Nat) (x : α) (h : l[k]? = some x) (hf : f x = true) : l.any f = true := List.any_eq_true.2 ⟨x, List.mem_of_getElem? h, hf⟩

end Go.Proofs.YtloefohekhkehaaDoor
