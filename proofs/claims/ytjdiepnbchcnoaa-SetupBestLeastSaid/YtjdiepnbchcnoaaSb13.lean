/-
  Changes in order, on both sides.
-/
import Derived.Test.YtjdiepnbchcnoaaSb12
import Derived.Test.YtjdiepnbchcnoaaRep
set_option linter.unusedVariables false
set_option linter.unusedSimpArgs false
namespace Go.Proofs.Ytjdiepnbchcnoaa
set_option linter.unusedVariables false
set_option linter.unusedSimpArgs false
open Go Go.ChangeShapes Go.WideShapes Go.ChangeAt Go.RowKit Go.Deep

def okC (n : Nat) (s : Int) (c : Chg) : Bool := wiB c.st 0 ((n : Int) - 1) && (wiB c.sn 0 (s - 1) && wiB c.pr 0 8)
/-- d stands ahead of c, against the order -/
def bdP (d c : Chg) : Bool := decide (c.st < d.st) || (decide (d.st = c.st) && decide (d.sn = c.sn))
theorem bdP_no {d c : Chg} : bdP d c = false ↔ d.st ≤ c.st ∧ ¬ (d.st = c.st ∧ d.sn = c.sn) := by
  unfold bdP
  simp only [Bool.or_eq_false_iff, Bool.and_eq_false_iff, decide_eq_false_iff_not]
  omega
theorem bdP_yes {d c : Chg} : bdP d c = true ↔ c.st < d.st ∨ (d.st = c.st ∧ d.sn = c.sn) := by
  unfold bdP
  simp only [Bool.or_eq_true, Bool.and_eq_true, decide_eq_true_eq]
def Ord (n : Nat) (s : Int) (l : List Chg) (k : Nat) : Prop := ∀ i c, i < k → l[i]? = some c → okC n s c = true ∧ ∀ j d, j < i → l[j]? = some d → bdP d c = false
noncomputable def orB (n : Nat) (s : Int) (l : List Chg) : Bool := @decide (Ord n s l l.length) (Classical.propDecidable _)
theorem orB_iff {n : Nat} {s : Int} {l : List Chg} : orB n s l = true ↔ Ord n s l l.length := by
  unfold orB
  exact @decide_eq_true_iff _ (Classical.propDecidable _)
theorem orB_stop {n : Nat} {s : Int} {l : List Chg} {i : Nat} {c : Chg} (h : l[i]? = some c) (k : okC n s c = false) : orB n s l = false := by
  rw [← Bool.not_eq_true, orB_iff]
  intro H
  have := (H i c (List.getElem?_eq_some_iff.1 h).1 h).1
  rw [k] at this
  cases this
theorem orB_pair {n : Nat} {s : Int} {l : List Chg} {i j : Nat} {c d : Chg} (h : l[i]? = some c) (hd : l[j]? = some d) (hj : j < i) (k : bdP d c = true) : orB n s l = false := by
  rw [← Bool.not_eq_true, orB_iff]
  intro H
  have := (H i c (List.getElem?_eq_some_iff.1 h).1 h).2 j d hj hd
  rw [k] at this
  cases this
theorem ord_step {n : Nat} {s : Int} {l : List Chg} {k : Nat} {x : Chg} (H : Ord n s l k) (hx : l[k]? = some x) (ho : okC n s x = true) (hb : ∀ j d, j < k → l[j]? = some d → bdP d x = false) : Ord n s l (k + 1) := by
  intro i c hi hc
  rcases Nat.lt_or_ge i k with h | h
  · exact H i c h hc
  · obtain rfl : i = k := by omega
    rw [hx] at hc
    obtain rfl := Option.some.inj hc
    exact ⟨ho, hb⟩
theorem ord_le {n : Nat} {s : Int} {l : List Chg} {k : Nat} (H : Ord n s l k) {i j : Nat} {c d : Chg} (hi : i < k) (hj : j ≤ i) (hc : l[i]? = some c) (hd : l[j]? = some d) : d.st ≤ c.st := by
  rcases Nat.lt_or_ge j i with h | h
  · exact (bdP_no.1 ((H i c hi hc).2 j d h hd)).1
  · obtain rfl : i = j := by omega
    rw [hc] at hd
    obtain rfl := Option.some.inj hd
    exact Int.le_refl _
theorem run_end {n : Nat} {s : Int} {l : List Chg} {k q : Nat} {x : Chg} (hkl : k ≤ l.length) (H : Ord n s l k) (hp : ∀ j d, q ≤ j → j < k → l[j]? = some d → bdP d x = false)
    (hy : ∀ y, 0 < k → l[k-1]? = some y → y.st ≤ x.st) (hq : q ≤ k) (hd : ∀ d, 0 < q → l[q-1]? = some d → ¬ d.st = x.st) : ∀ j d, j < k → l[j]? = some d → bdP d x = false := by
  intro j d hj hjd
  rcases Nat.lt_or_ge j q with h | h
  · have hk := (List.getElem?_eq_some_iff.1 hjd).1
    obtain ⟨e, he⟩ : ∃ e, l[q-1]? = some e := ⟨_, List.getElem?_eq_getElem (by omega)⟩
    have h1 := ord_le H (show q - 1 < k by omega) (show j ≤ q - 1 by omega) he hjd
    have h2 := hd e (by omega) he
    have h3 : e.st ≤ x.st := by
      by_cases hqk : q = k
      · subst hqk
        exact hy e (by omega) he
      · obtain ⟨y, hy'⟩ : ∃ y, l[k-1]? = some y := ⟨_, List.getElem?_eq_getElem (by omega)⟩
        have := ord_le H (show k - 1 < k by omega) (show q - 1 ≤ k - 1 by omega) hy' he
        have := hy y (by omega) hy'
        omega
    rw [bdP_no]
    omega
  · exact hp j d h hj hjd
theorem run_more {l : List Chg} {k r : Nat} {x d : Chg} (H : ∀ jj d, r + 1 ≤ jj → jj < k → l[jj]? = some d → bdP d x = false) (hd : l[r]? = some d) (h : bdP d x = false) : ∀ jj d, r ≤ jj → jj < k → l[jj]? = some d → bdP d x = false := by
  intro jj e hj hk he
  rcases Nat.lt_or_ge r jj with h1 | h1
  · exact H jj e h1 hk he
  · obtain rfl : jj = r := by omega
    rw [hd] at he
    obtain rfl := Option.some.inj he
    exact h
theorem okC_1 {n : Nat} {s : Int} {c : Chg} (h : wiB c.st 0 ((n : Int) - 1) = false) : okC n s c = false := by unfold okC; rw [h]; rfl
theorem okC_2 {n : Nat} {s : Int} {c : Chg} (h : wiB c.sn 0 (s - 1) = false) : okC n s c = false := by unfold okC; rw [h]; simp
theorem okC_3 {n : Nat} {s : Int} {c : Chg} (h : wiB c.pr 0 8 = false) : okC n s c = false := by unfold okC; rw [h]; simp
theorem okC_y {n : Nat} {s : Int} {c : Chg} (h1 : wiB c.st 0 ((n : Int) - 1) = true) (h2 : wiB c.sn 0 (s - 1) = true) (h3 : wiB c.pr 0 8 = true) : okC n s c = true := by unfold okC; rw [h1, h2, h3]; rfl
end Go.Proofs.Ytjdiepnbchcnoaa
