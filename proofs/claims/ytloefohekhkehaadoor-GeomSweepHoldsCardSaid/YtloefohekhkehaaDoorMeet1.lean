/-
  Whether a side of a hull has no point of another on its left.
-/
import Derived.Test.YtloefohekhkehaaDoorHolds2
namespace Go.Proofs.YtloefohekhkehaaDoor
set_option linter.unusedVariables false
set_option linter.unusedSimpArgs false
open Go Go.ChangeShapes Go.WideShapes Go.ChangeAt Go.RowKit Go.Deep

def nlB (p q : Pt) (xs : List Pt) : Bool := xs.all fun x => decide (orP p q x ≤ 0)
theorem all_take_succ {α : Type} (f : α → Bool) (l : List α) (k : Nat) (x : α) (h : l[k]? = some x) : (l.take (k + 1)).all f = ((l.take k).all f && f x) := by
  rw [List.take_add_one, h]
  simp
theorem all_no {α : Type} (f : α → Bool) (l : List α) (k : Nat) (x : α) (h : l[k]? = some x) (hf : f x = false) : l.all f = false := by
  rw [List.all_eq_false]
  exact ⟨x, List.mem_of_getElem? h, by rw [hf]; simp⟩
def sideB (ys zs : List Pt) (i : Nat) : Bool :=
  match ys[i]?, ys[(i + 1) % ys.length]? with
  | some p, some q => !decide (q = p) && nlB p q zs
  | _, _ => false
def sepB (ys zs : List Pt) : Bool := (List.range ys.length).any (sideB ys zs)
end Go.Proofs.YtloefohekhkehaaDoor
