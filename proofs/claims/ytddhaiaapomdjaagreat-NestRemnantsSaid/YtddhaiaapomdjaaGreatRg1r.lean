/-
  Regions of rectangles, plainly: the lines of a grid, its cells, what is covered. No program.
-/
import Derived.Test.YtddhaiaapomdjaaGreatFramer
import Derived.IntWalk
set_option linter.unusedVariables false
set_option linter.unusedSimpArgs false
namespace Go.Proofs.YtddhaiaapomdjaaGreat
set_option linter.unusedVariables false
set_option linter.unusedSimpArgs false
open Go Go.ChangeShapes Go.WideShapes Go.ChangeAt Go.RowKit Go.Deep

namespace RG
/-- strictly ascending -/
def Up (l : List Int) : Prop := l.Pairwise (· < ·)
theorem Up.at {l : List Int} (h : Up l) {i j : Nat} {a b : Int} (hi : l[i]? = some a) (hj : l[j]? = some b) (hij : i < j) : a < b := by
  obtain ⟨h1, rfl⟩ := List.getElem?_eq_some_iff.1 hi
  obtain ⟨h2, rfl⟩ := List.getElem?_eq_some_iff.1 hj
  exact List.pairwise_iff_getElem.1 h i j h1 h2 hij
theorem Up.le {l : List Int} (h : Up l) {i j : Nat} {a b : Int} (hi : l[i]? = some a) (hj : l[j]? = some b) (hij : i ≤ j) : a ≤ b := by
  rcases Nat.lt_or_eq_of_le hij with h1 | rfl
  · exact Int.le_of_lt (h.at hi hj h1)
  · rw [hi] at hj
    exact Int.le_of_eq (Option.some.inj hj)
theorem Up.lt_iff {l : List Int} (h : Up l) {i j : Nat} {a b : Int} (hi : l[i]? = some a) (hj : l[j]? = some b) : a < b ↔ i < j := by
  constructor
  · intro hab
    refine Nat.lt_of_not_le fun hle => ?_
    have := h.le hj hi hle
    omega
  · exact h.at hi hj
theorem Up.le_iff {l : List Int} (h : Up l) {i j : Nat} {a b : Int} (hi : l[i]? = some a) (hj : l[j]? = some b) : a ≤ b ↔ i ≤ j := by
  constructor
  · intro hab
    refine Nat.le_of_not_lt fun hlt => ?_
    have := h.at hj hi hlt
    omega
  · exact h.le hi hj
/-- two ascending lists with the same members are one -/
theorem Up.ext : ∀ {l m : List Int}, Up l → Up m → (∀ x, x ∈ l ↔ x ∈ m) → l = m
  | [], [], _, _, _ => rfl
  | [], y :: m, _, _, h => by have := (h y).2 (by simp); simp at this
  | x :: l, [], _, _, h => by have := (h x).1 (by simp); simp at this
  | x :: l, y :: m, hl, hm, h => by
    have hl' := List.pairwise_cons.1 hl
    have hm' := List.pairwise_cons.1 hm
    have e : x = y := by
      rcases List.mem_cons.1 ((h x).1 (by simp)) with e | e
      · exact e
      · rcases List.mem_cons.1 ((h y).2 (by simp)) with e2 | e2
        · exact e2.symm
        · have := hm'.1 x e
          have := hl'.1 y e2
          omega
    subst e
    congr 1
    refine Up.ext hl'.2 hm'.2 fun z => ?_
    constructor
    · intro hz
      rcases List.mem_cons.1 ((h z).1 (List.mem_cons_of_mem _ hz)) with e | e
      · have := hl'.1 z hz
        omega
      · exact e
    · intro hz
      rcases List.mem_cons.1 ((h z).2 (List.mem_cons_of_mem _ hz)) with e | e
      · have := hm'.1 z hz
        omega
      · exact e
/-- a number put into an ascending list -/
def ins : List Int → Int → List Int
  | [], n => [n]
  | x :: l, n => if x = n then x :: l else if n < x then n :: x :: l else x :: ins l n
theorem mem_ins {l : List Int} {n x : Int} : x ∈ ins l n ↔ x ∈ l ∨ x = n := by
  induction l with
  | nil => simp [ins]
  | cons y l ih =>
    unfold ins
    split
    · rename_i h
      subst h
      simp only [List.mem_cons]
      constructor
      · exact fun h => .inl h
      · rintro (h | h)
        · exact h
        · exact .inl h
    · split
      · simp only [List.mem_cons]
        constructor
        · rintro (h | h | h)
          · exact .inr h
          · exact .inl (.inl h)
          · exact .inl (.inr h)
        · rintro ((h | h) | h)
          · exact .inr (.inl h)
          · exact .inr (.inr h)
          · exact .inl h
      · simp only [List.mem_cons, ih]
        constructor
        · rintro (h | h | h)
          · exact .inl (.inl h)
          · exact .inl (.inr h)
          · exact .inr h
        · rintro ((h | h) | h)
          · exact .inl h
          · exact .inr (.inl h)
          · exact .inr (.inr h)
theorem up_ins {l : List Int} {n : Int} (h : Up l) : Up (ins l n) := by
  induction l with
  | nil => simp [ins, Up]
  | cons y l ih =>
    have h' := List.pairwise_cons.1 h
    unfold ins
    split
    · exact h
    · rename_i h1
      split
      · rename_i h2
        refine List.pairwise_cons.2 ⟨fun z hz => ?_, h⟩
        rcases List.mem_cons.1 hz with e | e
        · omega
        · have := h'.1 z e
          omega
      · rename_i h2
        refine List.pairwise_cons.2 ⟨fun z hz => ?_, ih h'.2⟩
        rcases mem_ins.1 hz with e | e
        · exact h'.1 z e
        · omega
theorem len_ins (l : List Int) (n : Int) : (ins l n).length ≤ l.length + 1 := by
  induction l with
  | nil => simp [ins]
  | cons y l ih =>
    unfold ins
    split
    · simp
    · split
      · simp
      · simp only [List.length_cons]
        omega
/-- a rectangle -/
structure Rc where
  x : Int
  y : Int
  w : Int
  h : Int
/-- the lines through the sides, in X and in Y -/
def lnX (l : List Rc) : List Int := l.foldl (fun a r => ins (ins a r.x) (r.x + r.w)) []
def lnY (l : List Rc) : List Int := l.foldl (fun a r => ins (ins a r.y) (r.y + r.h)) []
theorem mem_fold {f g : Rc → Int} {x : Int} : ∀ {l : List Rc} {a : List Int}, x ∈ l.foldl (fun a r => ins (ins a (f r)) (g r)) a ↔ x ∈ a ∨ ∃ r ∈ l, x = f r ∨ x = g r
  | [], a => by simp
  | r :: l, a => by
    rw [List.foldl_cons, mem_fold, mem_ins, mem_ins]
    constructor
    · rintro (((h | h) | h) | ⟨s, hs, h⟩)
      · exact .inl h
      · exact .inr ⟨r, by simp, .inl h⟩
      · exact .inr ⟨r, by simp, .inr h⟩
      · exact .inr ⟨s, by simp [hs], h⟩
    · rintro (h | ⟨s, hs, h⟩)
      · exact .inl (.inl (.inl h))
      · rcases List.mem_cons.1 hs with rfl | hs
        · rcases h with h | h
          · exact .inl (.inl (.inr h))
          · exact .inl (.inr h)
        · exact .inr ⟨s, hs, h⟩
theorem up_fold {f g : Rc → Int} : ∀ {l : List Rc} {a : List Int}, Up a → Up (l.foldl (fun a r => ins (ins a (f r)) (g r)) a)
  | [], a, h => h
  | r :: l, a, h => by
    rw [List.foldl_cons]
    exact up_fold (up_ins (up_ins h))
theorem len_fold {f g : Rc → Int} : ∀ {l : List Rc} {a : List Int}, (l.foldl (fun a r => ins (ins a (f r)) (g r)) a).length ≤ a.length + 2 * l.length
  | [], a => by simp
  | r :: l, a => by
    rw [List.foldl_cons]
    have h1 := len_fold (f := f) (g := g) (l := l) (a := ins (ins a (f r)) (g r))
    have h2 := len_ins (ins a (f r)) (g r)
    have h3 := len_ins a (f r)
    simp only [List.length_cons]
    omega
theorem mem_lnX {l : List Rc} {x : Int} : x ∈ lnX l ↔ ∃ r ∈ l, x = r.x ∨ x = r.x + r.w := by
  unfold lnX
  rw [mem_fold]
  simp
theorem mem_lnY {l : List Rc} {x : Int} : x ∈ lnY l ↔ ∃ r ∈ l, x = r.y ∨ x = r.y + r.h := by
  unfold lnY
  rw [mem_fold]
  simp
theorem up_lnX (l : List Rc) : Up (lnX l) := up_fold List.Pairwise.nil
theorem up_lnY (l : List Rc) : Up (lnY l) := up_fold List.Pairwise.nil
theorem len_lnX (l : List Rc) : (lnX l).length ≤ 2 * l.length := by
  have := len_fold (f := Rc.x) (g := fun r => r.x + r.w) (l := l) (a := [])
  unfold lnX
  simpa using this
theorem len_lnY (l : List Rc) : (lnY l).length ≤ 2 * l.length := by
  have := len_fold (f := Rc.y) (g := fun r => r.y + r.h) (l := l) (a := [])
  unfold lnY
  simpa using this
/-- whether a rectangle covers the cell above and to the right of a corner -/
def inR (r : Rc) (x y : Int) : Bool := decide (r.x ≤ x) && decide (x < r.x + r.w) && decide (r.y ≤ y) && decide (y < r.y + r.h)
def cov (l : List Rc) (x y : Int) : Bool := l.any fun r => inR r x y
/-- the cell i, j of a grid -/
def cel (X Y : List Int) (l : List Rc) (i j : Nat) : Bool := cov l (X[i]?.getD 0) (Y[j]?.getD 0)
theorem cov_true {l : List Rc} {x y : Int} {r : Rc} (h : r ∈ l) (k : inR r x y = true) : cov l x y = true := List.any_eq_true.2 ⟨r, h, k⟩
theorem cov_false {l : List Rc} {x y : Int} (h : ∀ i r, i < l.length → l[i]? = some r → inR r x y = false) : cov l x y = false := by
  unfold cov
  rw [List.any_eq_false]
  intro r hr
  obtain ⟨i, hi⟩ := List.mem_iff_getElem?.1 hr
  rw [h i r (List.getElem?_eq_some_iff.1 hi).1 hi]
  decide
/-- the sum over the cells of one column, and over all columns; as the machine adds -/
def sumY (X Y : List Int) (c : Nat → Nat → Bool) (i : Nat) (s : Int) : Nat → Int
  | 0 => s
  | j + 1 => if c i j then wrap64 (sumY X Y c i s j + wrap64 (wrap64 (X[i + 1]?.getD 0 - X[i]?.getD 0) * wrap64 (Y[j + 1]?.getD 0 - Y[j]?.getD 0))) else sumY X Y c i s j
def sumX (X Y : List Int) (c : Nat → Nat → Bool) : Nat → Int
  | 0 => 0
  | i + 1 => sumY X Y c i (sumX X Y c i) (Y.length - 1)
/-- the area that the machine finds -/
def areaV (l : List Rc) : Int := sumX (lnX l) (lnY l) (cel (lnX l) (lnY l) l) ((lnX l).length - 1)
end RG
end Go.Proofs.YtddhaiaapomdjaaGreat
