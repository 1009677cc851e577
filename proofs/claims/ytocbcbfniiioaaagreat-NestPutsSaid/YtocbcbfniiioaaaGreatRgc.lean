/-
  Regions: the error of lists, the area of a grid, whether two grids have the same cells, in the code.
-/
import Derived.Test.YtocbcbfniiioaaaGreatRgm
set_option linter.unusedVariables false
set_option linter.unusedSimpArgs false
namespace Go.Proofs.YtocbcbfniiioaaaGreat
set_option linter.unusedVariables false
set_option linter.unusedSimpArgs false
open Go Go.ChangeShapes Go.WideShapes Go.ChangeAt Go.RowKit Go.Deep

namespace RG
theorem ceLL_big {L : List RS} {k : Nat} {x : RS} (h : L[k]? = some x) (q : 48 < x.l.length) : ceLL L = 4 := by
  unfold ceLL
  rw [if_pos]
  rw [List.any_eq_true]
  exact ⟨x, List.mem_of_getElem? h, by simpa using q⟩
theorem ceLL_small {L : List RS} (h : ∀ (j : Nat) (x : RS), j < L.length → L[j]? = some x → ¬ 48 < x.l.length) : L.any (fun x => decide (48 < x.l.length)) = false := by
  rw [List.any_eq_false]
  intro x hx
  obtain ⟨j, hj⟩ := List.mem_iff_getElem?.1 hx
  simpa using h j x (List.getElem?_eq_some_iff.1 hj).1 hj
theorem ceLL_bad {L : List RS} {k j : Nat} {x : RS} {r : Rc} (h0 : L.any (fun x => decide (48 < x.l.length)) = false) (h : L[k]? = some x) (hr : x.l[j]? = some r) (q : vrR r = false) : ceLL L = 1 := by
  unfold ceLL
  rw [if_neg (by simpa using h0), if_neg]
  intro a
  rw [List.all_eq_true] at a
  have b := a x (List.mem_of_getElem? h)
  rw [List.all_eq_true] at b
  rw [b r (List.mem_of_getElem? hr)] at q
  cases q
theorem ceLL_ok {L : List RS} (h0 : L.any (fun x => decide (48 < x.l.length)) = false) (h : ∀ (k : Nat) (x : RS), k < L.length → L[k]? = some x → x.l.all vrR = true) : ceLL L = 0 := by
  unfold ceLL
  rw [if_neg (by simpa using h0), if_pos]
  rw [List.all_eq_true]
  intro x hx
  obtain ⟨j, hj⟩ := List.mem_iff_getElem?.1 hx
  exact h j x (List.getElem?_eq_some_iff.1 hj).1 hj
theorem all_of {p : Rc → Bool} {l : List Rc} (h : ∀ (j : Nat) (s : Rc), j < l.length → l[j]? = some s → p s = true) : l.all p = true := by
  rw [List.all_eq_true]
  intro r hr
  obtain ⟨j, hj⟩ := List.mem_iff_getElem?.1 hr
  exact h j r (List.getElem?_eq_some_iff.1 hj).1 hj
theorem more {α : Type} {Q : α → Prop} {l : List α} {k : Nat} {r : α} (h : ∀ (j : Nat) (s : α), j < k → l[j]? = some s → Q s) (hs : l[k]? = some r) (q : Q r) : ∀ (j : Nat) (s : α), j < k + 1 → l[j]? = some s → Q s := by
  intro j x hj hx
  rcases Nat.lt_or_ge j k with c | c
  · exact h j x c hx
  · obtain rfl : j = k := by omega
    rw [hs] at hx
    obtain rfl := Option.some.inj hx
    exact q
theorem box4 {w w' : World} {a b c d : Value} {t : TypeId} (g : Gr (w.alloc (.cells #[a, b, c, d] t)) w') : w.heap.size < w'.heap.size ∧ w'.cell? ⟨w.heap.size, 0, none⟩ = some a ∧ w'.cell? ⟨w.heap.size, 1, none⟩ = some b ∧ w'.cell? ⟨w.heap.size, 2, none⟩ = some c ∧ w'.cell? ⟨w.heap.size, 3, none⟩ = some d := by
  have hl : w.heap.size < (w.alloc (.cells #[a, b, c, d] t)).heap.size := by simp
  exact ⟨Nat.lt_of_lt_of_le hl g.size, (g.cell _ _ hl).trans (by simp [go_sem]), (g.cell _ _ hl).trans (by simp [go_sem]), (g.cell _ _ hl).trans (by simp [go_sem]), (g.cell _ _ hl).trans (by simp [go_sem])⟩
theorem box3 {w w' : World} {a b c : Value} {t : TypeId} (g : Gr (w.alloc (.cells #[a, b, c] t)) w') : w.heap.size < w'.heap.size ∧ w'.cell? ⟨w.heap.size, 0, none⟩ = some a ∧ w'.cell? ⟨w.heap.size, 1, none⟩ = some b ∧ w'.cell? ⟨w.heap.size, 2, none⟩ = some c := by
  have hl : w.heap.size < (w.alloc (.cells #[a, b, c] t)).heap.size := by simp
  exact ⟨Nat.lt_of_lt_of_le hl g.size, (g.cell _ _ hl).trans (by simp [go_sem]), (g.cell _ _ hl).trans (by simp [go_sem]), (g.cell _ _ hl).trans (by simp [go_sem])⟩
theorem sumY_succ (X Y : List Int) (c : Nat → Nat → Bool) (i : Nat) (s : Int) (j : Nat) {x x' y y' : Int} (h : c i j = true) (h1 : X[i]? = some x) (h2 : X[i + 1]? = some x') (h3 : Y[j]? = some y) (h4 : Y[j + 1]? = some y') :
    sumY X Y c i s (j + 1) = wrap64 (sumY X Y c i s j + wrap64 (wrap64 (x' - x) * wrap64 (y' - y))) := by
  show (if c i j then _ else _) = _
  rw [if_pos h, h1, h2, h3, h4]
  rfl
theorem sumY_same (X Y : List Int) (c : Nat → Nat → Bool) (i : Nat) (s : Int) (j : Nat) (h : c i j = false) : sumY X Y c i s (j + 1) = sumY X Y c i s j := by
  show (if c i j then _ else _) = _
  rw [if_neg (by simpa using h)]
/-- whether the columns of two grids are the same -/
def smC (n m : Nat) (c d : Nat → Nat → Bool) : Bool := decide (∀ i, i < n → ∀ j, j < m → c i j = d i j)
end RG
end Go.Proofs.YtocbcbfniiioaaaGreat
