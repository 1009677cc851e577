/-
  Areas, plainly: sums over unit cells; the sum over a grid is the number of unit cells that are covered.
-/
import Derived.Test.YtddhaiaapomdjaaGreatRg1r
set_option linter.unusedVariables false
set_option linter.unusedSimpArgs false
namespace Go.Proofs.YtddhaiaapomdjaaGreat
set_option linter.unusedVariables false
set_option linter.unusedSimpArgs false
open Go Go.ChangeShapes Go.WideShapes Go.ChangeAt Go.RowKit Go.Deep

namespace RG
/-- the sum over a, a + 1, .., a + n - 1 -/
def sm (f : Int → Int) (a : Int) : Nat → Int
  | 0 => 0
  | n + 1 => sm f a n + f (a + n)
theorem sm_congr {f g : Int → Int} {a : Int} : ∀ {n : Nat}, (∀ x, a ≤ x → x < a + n → f x = g x) → sm f a n = sm g a n
  | 0, _ => rfl
  | n + 1, h => by
    show sm f a n + f (a + n) = sm g a n + g (a + n)
    rw [sm_congr (n := n) (fun x h1 h2 => h x h1 (by omega)), h (a + n) (by omega) (by omega)]
theorem sm_split (f : Int → Int) (a : Int) (m : Nat) : ∀ n, sm f a (m + n) = sm f a m + sm f (a + m) n
  | 0 => by simp [sm]
  | n + 1 => by
    show sm f a (m + n) + f (a + ((m + n : Nat) : Int)) = sm f a m + (sm f (a + m) n + f (a + m + n))
    rw [sm_split f a m n, show a + ((m + n : Nat) : Int) = a + m + n by omega]
    omega
theorem sm_const {f : Int → Int} {a c : Int} : ∀ {n : Nat}, (∀ x, a ≤ x → x < a + n → f x = c) → sm f a n = n * c
  | 0, _ => by simp [sm]
  | n + 1, h => by
    show sm f a n + f (a + n) = ((n + 1 : Nat) : Int) * c
    rw [sm_const (n := n) (fun x h1 h2 => h x h1 (by omega)), h (a + n) (by omega) (by omega)]
    grind
theorem sm_le {f g : Int → Int} {a : Int} : ∀ {n : Nat}, (∀ x, a ≤ x → x < a + n → f x ≤ g x) → sm f a n ≤ sm g a n
  | 0, _ => by simp [sm]
  | n + 1, h => by
    show sm f a n + f (a + n) ≤ sm g a n + g (a + n)
    have h1 := sm_le (n := n) (fun x h1 h2 => h x h1 (by omega))
    have h2 := h (a + n) (by omega) (by omega)
    omega
theorem sm_add (f g : Int → Int) (a : Int) : ∀ n, sm (fun x => f x + g x) a n = sm f a n + sm g a n
  | 0 => by simp [sm]
  | n + 1 => by
    show sm (fun x => f x + g x) a n + (f (a + n) + g (a + n)) = sm f a n + f (a + n) + (sm g a n + g (a + n))
    rw [sm_add f g a n]
    omega
theorem sm_zero {f : Int → Int} {a : Int} {n : Nat} (h : ∀ x, a ≤ x → x < a + n → f x = 0) : sm f a n = 0 := by
  rw [sm_const h]
  simp
theorem sm_nonneg {f : Int → Int} {a : Int} {n : Nat} (h : ∀ x, a ≤ x → x < a + n → 0 ≤ f x) : 0 ≤ sm f a n := by
  have := sm_le (f := fun _ => 0) (g := f) (a := a) (n := n) h
  rwa [sm_zero (f := fun _ => 0) (fun _ _ _ => rfl)] at this
/-- a sum over the part where f is not zero -/
theorem sm_part {f : Int → Int} {a b c : Int} {n : Nat} (h1 : a ≤ b) (h2 : b ≤ c) (h3 : c ≤ a + n) (hz : ∀ x, (x < b ∨ c ≤ x) → f x = 0) : sm f a n = sm f b (c - b).toNat := by
  obtain ⟨m, rfl⟩ : ∃ m : Nat, b = a + m := ⟨(b - a).toNat, by omega⟩
  obtain ⟨k, rfl⟩ : ∃ k : Nat, c = a + m + k := ⟨(c - (a + m)).toNat, by omega⟩
  obtain ⟨l, rfl⟩ : ∃ l : Nat, n = m + k + l := ⟨n - m - k, by omega⟩
  rw [sm_split, sm_split, sm_zero (a := a) (n := m) (fun x h4 h5 => hz x (by omega)), sm_zero (a := a + ((m + k : Nat) : Int)) (n := l) (fun x h4 h5 => hz x (by omega)), show (a + (m : Int) + (k : Int) - (a + (m : Int))).toNat = k by omega]
  omega
/-- the sum over the lines of a grid -/
def gs (X : List Int) (f : Int → Int) : Nat → Int
  | 0 => 0
  | i + 1 => gs X f i + (X[i + 1]?.getD 0 - X[i]?.getD 0) * f (X[i]?.getD 0)
theorem sm_grid {f : Int → Int} {X : List Int} (hu : Up X) {x0 : Int} (h0 : X[0]? = some x0) : ∀ (k : Nat) (xk : Int), X[k]? = some xk → (∀ i a b, i < k → X[i]? = some a → X[i + 1]? = some b → ∀ x, a ≤ x → x < b → f x = f a) → sm f x0 (xk - x0).toNat = gs X f k
  | 0, xk, hk, _ => by
    rw [h0] at hk
    obtain rfl := Option.some.inj hk
    simp [sm, gs]
  | k + 1, xk, hk, hc => by
    have hlt := (List.getElem?_eq_some_iff.1 hk).1
    obtain ⟨y, hy⟩ : ∃ y, X[k]? = some y := ⟨_, List.getElem?_eq_getElem (by omega)⟩
    have ih := sm_grid hu h0 k y hy (fun i a b hi => hc i a b (by omega))
    have l1 := hu.at hy hk (by omega)
    have l2 := hu.le h0 hy (by omega)
    have := sm_split f x0 (y - x0).toNat (xk - y).toNat
    rw [show (y - x0).toNat + (xk - y).toNat = (xk - x0).toNat by omega, ih, show x0 + ((y - x0).toNat : Int) = y by omega, sm_const (c := f y) (fun x h1 h2 => hc k y xk (by omega) hy hk x h1 (by omega)), show ((xk - y).toNat : Int) = xk - y by omega] at this
    rw [this]
    show _ = gs X f k + (X[k + 1]?.getD 0 - X[k]?.getD 0) * f (X[k]?.getD 0)
    rw [hk, hy]
    rfl
theorem gs_congr {X : List Int} {f g : Int → Int} : ∀ {k : Nat}, (∀ i, i < k → f (X[i]?.getD 0) = g (X[i]?.getD 0)) → gs X f k = gs X g k
  | 0, _ => rfl
  | k + 1, h => by
    show gs X f k + _ * f _ = gs X g k + _ * g _
    rw [gs_congr (k := k) (fun i hi => h i (by omega)), h k (by omega)]
/-- the whole sum: f is constant between two lines, and zero outside of all -/
theorem sm_all {f : Int → Int} {X : List Int} {a : Int} {n : Nat} (hu : Up X) (hb : ∀ x ∈ X, a ≤ x ∧ x ≤ a + n) (hc : ∀ i p q, X[i]? = some p → X[i + 1]? = some q → ∀ x, p ≤ x → x < q → f x = f p)
    (hz : ∀ x, (∀ p ∈ X, x < p) ∨ (∀ p ∈ X, p ≤ x) → f x = 0) : sm f a n = gs X f (X.length - 1) := by
  by_cases he : X = []
  · subst he
    rw [sm_zero (fun x _ _ => hz x (.inl (fun p hp => by simp at hp)))]
    rfl
  · have hl : 0 < X.length := List.length_pos_iff.2 he
    obtain ⟨p, hp⟩ : ∃ p, X[0]? = some p := ⟨_, List.getElem?_eq_getElem hl⟩
    obtain ⟨q, hq⟩ : ∃ q, X[X.length - 1]? = some q := ⟨_, List.getElem?_eq_getElem (by omega)⟩
    have b1 := hb p (List.mem_of_getElem? hp)
    have b2 := hb q (List.mem_of_getElem? hq)
    have hpq := hu.le hp hq (by omega)
    rw [sm_part (b := p) (c := q) b1.1 hpq b2.2, sm_grid hu hp _ q hq fun i a b hi => hc i a b]
    intro x hx
    apply hz
    rcases hx with hx | hx
    · left
      intro r hr
      obtain ⟨j, hj⟩ := List.mem_iff_getElem?.1 hr
      have := hu.le hp hj (by omega)
      omega
    · right
      intro r hr
      obtain ⟨j, hj⟩ := List.mem_iff_getElem?.1 hr
      have := (List.getElem?_eq_some_iff.1 hj).1
      have := hu.le hj hq (by omega)
      omega
def ib (b : Bool) : Int := if b then 1 else 0
theorem ib_le {b c : Bool} (h : b = true → c = true) : ib b ≤ ib c := by cases b <;> cases c <;> simp_all [ib]
theorem ib_nn (b : Bool) : 0 ≤ ib b := by cases b <;> simp [ib]
theorem ib_l1 (b : Bool) : ib b ≤ 1 := by cases b <;> simp [ib]
/-- the sum over the unit cells of a square -/
def s2 (M : Nat) (f : Int → Int → Int) : Int := sm (fun x => sm (fun y => f x y) (-M) (2 * M)) (-M) (2 * M)
theorem s2_le {M : Nat} {f g : Int → Int → Int} (h : ∀ x y, f x y ≤ g x y) : s2 M f ≤ s2 M g := sm_le fun x _ _ => sm_le fun y _ _ => h x y
theorem s2_add (M : Nat) (f g : Int → Int → Int) : s2 M (fun x y => f x y + g x y) = s2 M f + s2 M g := by
  unfold s2
  rw [← sm_add]
  exact sm_congr fun x _ _ => sm_add _ _ _ _
theorem s2_congr {M : Nat} {f g : Int → Int → Int} (h : ∀ x y, -(M : Int) ≤ x → x < M → -(M : Int) ≤ y → y < M → f x y = g x y) : s2 M f = s2 M g :=
  sm_congr fun x h1 h2 => sm_congr fun y h3 h4 => h x y h1 (by omega) h3 (by omega)
theorem s2_zero (M : Nat) : s2 M (fun _ _ => 0) = 0 := sm_zero fun _ _ _ => sm_zero fun _ _ _ => rfl
/-- a rectangle that lies in the square -/
structure InM (M : Nat) (r : Rc) : Prop where
  w : 0 < r.w
  h : 0 < r.h
  x : -(M : Int) ≤ r.x
  y : -(M : Int) ≤ r.y
  x' : r.x + r.w ≤ M
  y' : r.y + r.h ≤ M
/-- the area of a region -/
def ar (M : Nat) (l : List Rc) : Int := s2 M fun x y => ib (cov l x y)
theorem inR_iff {r : Rc} {x y : Int} : inR r x y = true ↔ r.x ≤ x ∧ x < r.x + r.w ∧ r.y ≤ y ∧ y < r.y + r.h := by
  unfold inR
  simp only [Bool.and_eq_true, decide_eq_true_eq]
  constructor <;> (intro h; simp_all)
theorem ar_rect {M : Nat} {r : Rc} (h : InM M r) : s2 M (fun x y => ib (inR r x y)) = r.w * r.h := by
  unfold s2
  have inner : ∀ x, sm (fun y => ib (inR r x y)) (-M) (2 * M) = if r.x ≤ x ∧ x < r.x + r.w then r.h else 0 := by
    intro x
    rw [sm_part (b := r.y) (c := r.y + r.h) (by have := h.y; omega) (by have := h.h; omega) (by have := h.y'; omega)]
    · rw [sm_const (c := if r.x ≤ x ∧ x < r.x + r.w then 1 else 0)]
      · have := h.h
        rw [show ((r.y + r.h - r.y).toNat : Int) = r.h by omega]
        split <;> simp
      · intro y h1 h2
        have := h.h
        have e : inR r x y = decide (r.x ≤ x ∧ x < r.x + r.w) := by
          rw [Bool.eq_iff_iff, inR_iff, decide_eq_true_eq]
          constructor
          · intro k; exact ⟨k.1, k.2.1⟩
          · intro k; exact ⟨k.1, k.2, h1, by omega⟩
        rw [e]
        unfold ib
        simp only [decide_eq_true_eq]
    · intro y hy
      have e : inR r x y = false := by
        rw [Bool.eq_false_iff]
        intro k
        have := inR_iff.1 k
        omega
      rw [e]
      rfl
  rw [sm_congr fun x _ _ => inner x, sm_part (b := r.x) (c := r.x + r.w) (by have := h.x; omega) (by have := h.w; omega) (by have := h.x'; omega)]
  · rw [sm_const (c := r.h)]
    · have := h.w
      rw [show ((r.x + r.w - r.x).toNat : Int) = r.w by omega]
    · intro x h1 h2
      have := h.w
      rw [if_pos ⟨h1, by omega⟩]
  · intro x hx
    rw [if_neg (by omega)]
/-- how many of a list cover a cell -/
def cnt (l : List Rc) (x y : Int) : Int := (l.map fun r => ib (inR r x y)).sum
theorem cnt_cons (r : Rc) (l : List Rc) (x y : Int) : cnt (r :: l) x y = ib (inR r x y) + cnt l x y := rfl
theorem cov_cons (r : Rc) (l : List Rc) (x y : Int) : cov (r :: l) x y = (inR r x y || cov l x y) := rfl
/-- the sum of the areas -/
def sumA (l : List Rc) : Int := (l.map fun r => r.w * r.h).sum
theorem sumA_eq {M : Nat} : ∀ {l : List Rc}, (∀ r ∈ l, InM M r) → s2 M (cnt l) = sumA l
  | [], _ => by
    show s2 M (fun x y => cnt [] x y) = 0
    exact s2_zero M
  | r :: l, h => by
    show s2 M (fun x y => ib (inR r x y) + cnt l x y) = r.w * r.h + sumA l
    rw [s2_add, ar_rect (h r (by simp)), sumA_eq fun s hs => h s (by simp [hs])]
/-- whether two rectangles overlap -/
def ovR (r s : Rc) : Bool := decide (r.x < s.x + s.w) && decide (s.x < r.x + r.w) && (decide (r.y < s.y + s.h) && decide (s.y < r.y + r.h))
theorem ovR_iff {r s : Rc} : ovR r s = true ↔ (r.x < s.x + s.w ∧ s.x < r.x + r.w) ∧ r.y < s.y + s.h ∧ s.y < r.y + r.h := by
  unfold ovR
  simp only [Bool.and_eq_true, decide_eq_true_eq]
theorem ovR_comm (r s : Rc) : ovR r s = ovR s r := by
  rw [Bool.eq_iff_iff, ovR_iff, ovR_iff]
  constructor <;> (intro h; omega)
/-- no two overlap -/
def Apart (l : List Rc) : Prop := l.Pairwise fun r s => ovR r s = false
theorem cnt_zero {l : List Rc} {x y : Int} (h : ∀ r ∈ l, inR r x y = false) : cnt l x y = 0 := by
  induction l with
  | nil => rfl
  | cons r l ih =>
    rw [cnt_cons, ih fun s hs => h s (by simp [hs]), h r (by simp)]
    rfl
theorem cnt_apart {l : List Rc} (h : Apart l) (x y : Int) : cnt l x y = ib (cov l x y) := by
  induction l with
  | nil => rfl
  | cons r l ih =>
    have h' := List.pairwise_cons.1 h
    rw [cnt_cons, cov_cons]
    cases h1 : inR r x y with
    | false => rw [ih h'.2]; simp [ib]
    | true =>
      rw [cnt_zero]
      · rfl
      · intro s hs
        have hr := inR_iff.1 h1
        rw [Bool.eq_false_iff]
        intro k
        have k' := inR_iff.1 k
        have := h'.1 s hs
        rw [Bool.eq_false_iff] at this
        exact this (ovR_iff.2 (by omega))
theorem ar_apart {M : Nat} {l : List Rc} (h : ∀ r ∈ l, InM M r) (ha : Apart l) : ar M l = sumA l := by
  rw [← sumA_eq h]
  exact s2_congr fun x y _ _ _ _ => (cnt_apart ha x y).symm
theorem cov_app (a b : List Rc) (x y : Int) : cov (a ++ b) x y = (cov a x y || cov b x y) := by
  unfold cov
  rw [List.any_append]
theorem ar_app_le (M : Nat) (a b : List Rc) : ar M a ≤ ar M (a ++ b) ∧ ar M b ≤ ar M (a ++ b) ∧ ar M (a ++ b) ≤ ar M a + ar M b := by
  refine ⟨s2_le fun x y => ?_, s2_le fun x y => ?_, ?_⟩
  · rw [cov_app]
    exact ib_le (by intro h; simp [h])
  · rw [cov_app]
    exact ib_le (by intro h; simp [h])
  · show s2 M _ ≤ s2 M _ + s2 M _
    rw [← s2_add]
    refine s2_le fun x y => ?_
    rw [cov_app]
    cases cov a x y <;> cases cov b x y <;> simp [ib]
end RG
end Go.Proofs.YtddhaiaapomdjaaGreat
