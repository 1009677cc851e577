/-
  Bend tables, plain: which are valid, which deductions they have.
-/
import Derived.Test.YtpmomgfepkegnaaAdds1
set_option linter.unusedVariables false
set_option linter.unusedSimpArgs false
namespace Go.Proofs.Ytpmomgfepkegnaa
set_option linter.unusedVariables false
set_option linter.unusedSimpArgs false
open Go Go.ChangeShapes Go.WideShapes Go.ChangeAt Go.RowKit Go.Deep

/-- An entry. -/
structure En where
  an : Int
  nm : Int
  dn : Int
/-- A table. -/
structure Tb where
  mt : ByteArray
  ga : Int
  di : Int
  en : List En
def a6B (a : Int) : Bool := decide (a = 30) || decide (a = 60) || decide (a = 90) || decide (a = 120) || decide (a = 150) || decide (a = 180)
def dnB (n : Int) : Bool := decide (n = 1) || decide (n = 2) || decide (n = 3) || decide (n = 4) || decide (n = 6) || decide (n = 12)
theorem a6B_iff {a : Int} : a6B a = true ↔ a = 30 ∨ a = 60 ∨ a = 90 ∨ a = 120 ∨ a = 150 ∨ a = 180 := by
  unfold a6B
  simp [or_assoc]
theorem dnB_iff {a : Int} : dnB a = true ↔ a = 1 ∨ a = 2 ∨ a = 3 ∨ a = 4 ∨ a = 6 ∨ a = 12 := by
  unfold dnB
  simp [or_assoc]
theorem a6_mod {a : Int} : a6B a = true ↔ (30 ≤ a ∧ a ≤ 180) ∧ a % 30 = 0 := by
  rw [a6B_iff]
  omega
theorem dn_mod {a : Int} : dnB a = true ↔ (1 ≤ a ∧ a ≤ 12) ∧ 12 % a = 0 := by
  rw [dnB_iff]
  constructor
  · rintro (rfl | rfl | rfl | rfl | rfl | rfl) <;> decide
  · rintro ⟨⟨h1, h2⟩, h3⟩
    rcases (by omega : a = 1 ∨ a = 2 ∨ a = 3 ∨ a = 4 ∨ a = 5 ∨ a = 6 ∨ a = 7 ∨ a = 8 ∨ a = 9 ∨ a = 10 ∨ a = 11 ∨ a = 12) with rfl | rfl | rfl | rfl | rfl | rfl | rfl | rfl | rfl | rfl | rfl | rfl <;> first | omega | (exfalso; revert h3; decide)
def enB (x : En) : Bool := a6B x.an && dnB x.dn && wiB x.nm 0 (20 * x.dn)
/-- an entry is right behind one of angle l -/
def etB (l : Int) (x : En) : Bool := decide (l < x.an) && enB x
/-- the angle ahead of entry k -/
def laI (l : List En) (k : Nat) : Int := if k = 0 then 0 else ((l[k-1]?).map En.an).getD 0
/-- the first n entries are right -/
def okB (l : List En) : Nat → Bool
  | 0 => true
  | k + 1 => okB l k && (match l[k]? with
    | some x => etB (laI l k) x
    | none => true)
theorem okB_at {l : List En} {k : Nat} {x : En} (hx : l[k]? = some x) : okB l (k + 1) = (okB l k && etB (laI l k) x) := by
  rw [okB, hx]
theorem okB_stop {l : List En} {k : Nat} {x : En} (hx : l[k]? = some x) (h : etB (laI l k) x = false) : ∀ {n : Nat}, k < n → okB l n = false
  | 0, hk => by omega
  | n + 1, hk => by
    rcases Nat.lt_or_ge k n with h1 | h1
    · unfold okB
      rw [okB_stop hx h h1]
      rfl
    · obtain rfl : k = n := by omega
      rw [okB_at hx, h, Bool.and_false]
theorem okB_use {l : List En} : ∀ {n : Nat}, okB l n = true → ∀ {k : Nat} {x : En}, k < n → l[k]? = some x → etB (laI l k) x = true
  | 0, _, k, x, hk, _ => by omega
  | n + 1, h, k, x, hk, hx => by
    unfold okB at h
    rw [Bool.and_eq_true] at h
    rcases Nat.lt_or_ge k n with h1 | h1
    · exact okB_use h.1 h1 hx
    · obtain rfl : k = n := by omega
      have := h.2
      rwa [hx] at this
def hdB (t : Tb) : Bool := nameB t.mt.toList && wiB t.ga 1 60 && wiB t.di 1 1000 && wiB t.en.length 1 6
/-- the error of a table -/
def tbE (t : Tb) : Int := if hdB t && okB t.en t.en.length then 0 else 9
theorem tbE_cases (t : Tb) : tbE t = 0 ∨ tbE t = 9 := by
  unfold tbE
  split <;> simp
theorem tbE_ok {t : Tb} (h : tbE t = 0) : hdB t = true ∧ okB t.en t.en.length = true := by
  unfold tbE at h
  split at h
  · rename_i h1
    simpa using h1
  · cases h
theorem hdB_len {t : Tb} (h : hdB t = true) : 1 ≤ t.en.length ∧ t.en.length ≤ 6 := by
  unfold hdB at h
  simp only [Bool.and_eq_true, wiB_iff] at h
  omega
/-- what a right entry has -/
theorem enB_use {x : En} (h : enB x = true) : (30 ≤ x.an ∧ x.an ≤ 180) ∧ (x.dn = 1 ∨ x.dn = 2 ∨ x.dn = 3 ∨ x.dn = 4 ∨ x.dn = 6 ∨ x.dn = 12) ∧ 0 ≤ x.nm ∧ x.nm ≤ 20 * x.dn := by
  unfold enB at h
  simp only [Bool.and_eq_true, wiB_iff, dnB_iff, a6_mod] at h
  exact ⟨h.1.1.1, h.1.2, h.2⟩
/-- the entries' angles ascend -/
def Asc (l : List En) : Prop := ∀ (i k : Nat) (x y : En), i < k → l[i]? = some x → l[k]? = some y → x.an < y.an
theorem asc_of {l : List En} (h : okB l l.length = true) : Asc l := by
  intro i k
  induction k with
  | zero => intro x y hi; omega
  | succ k ih =>
    intro x y hi hx hy
    have hk : k + 1 < l.length := (List.getElem?_eq_some_iff.1 hy).1
    have e := okB_use h hk hy
    unfold etB laI at e
    simp only [Bool.and_eq_true, decide_eq_true_eq, Nat.add_sub_cancel] at e
    rw [if_neg (by omega)] at e
    obtain ⟨z, hz⟩ : ∃ z, l[k]? = some z := ⟨_, List.getElem?_eq_getElem (by omega)⟩
    rw [hz] at e
    have e1 : z.an < y.an := e.1
    rcases Nat.lt_or_ge i k with h1 | h1
    · have := ih x z h1 hx hz
      omega
    · obtain rfl : i = k := by omega
      rw [hx] at hz
      obtain rfl := Option.some.inj hz
      exact e1
theorem en_of {l : List En} (h : okB l l.length = true) {k : Nat} {x : En} (hx : l[k]? = some x) : enB x = true := by
  have e := okB_use h (List.getElem?_eq_some_iff.1 hx).1 hx
  unfold etB at e
  simp only [Bool.and_eq_true] at e
  exact e.2
/-- how many entries have a smaller angle -/
def cutI (l : List En) (a : Int) : Nat := l.findIdx fun x => decide (a ≤ x.an)
theorem cut_le (l : List En) (a : Int) : cutI l a ≤ l.length := List.findIdx_le_length
theorem cut_lt {l : List En} {a : Int} {k : Nat} {x : En} (hk : k < cutI l a) (hx : l[k]? = some x) : x.an < a := by
  have := List.not_of_lt_findIdx (p := fun x : En => decide (a ≤ x.an)) (xs := l) hk
  obtain ⟨h, e⟩ := List.getElem?_eq_some_iff.1 hx
  rw [e] at this
  simp at this
  omega
theorem cut_at {l : List En} {a : Int} {x : En} (hx : l[cutI l a]? = some x) : a ≤ x.an := by
  obtain ⟨h, e⟩ := List.getElem?_eq_some_iff.1 hx
  have := List.findIdx_getElem (p := fun x : En => decide (a ≤ x.an)) (xs := l) (w := h)
  have e' : l[List.findIdx (fun x : En => decide (a ≤ x.an)) l]'h = x := e
  simp only [e'] at this
  simpa using this
theorem cut_gt {l : List En} {a : Int} (hs : Asc l) {k : Nat} {x : En} (hk : cutI l a < k) (hx : l[k]? = some x) : a < x.an := by
  have hkl := (List.getElem?_eq_some_iff.1 hx).1
  obtain ⟨y, hy⟩ : ∃ y, l[cutI l a]? = some y := ⟨_, List.getElem?_eq_getElem (by omega)⟩
  have := cut_at hy
  have := hs _ _ _ _ hk hy hx
  omega
theorem cut_eq {l : List En} {a : Int} {i : Nat} (hi : i ≤ l.length) (h1 : ∀ k x, k < i → l[k]? = some x → x.an < a) (h2 : ∀ k x, i ≤ k → l[k]? = some x → a ≤ x.an) : i = cutI l a := by
  have hc := cut_le l a
  rcases Nat.lt_trichotomy i (cutI l a) with h | h | h
  · obtain ⟨x, hx⟩ : ∃ x, l[i]? = some x := ⟨_, List.getElem?_eq_getElem (by omega)⟩
    have := cut_lt h hx
    have := h2 i x (Nat.le_refl _) hx
    omega
  · exact h
  · obtain ⟨x, hx⟩ : ∃ x, l[cutI l a]? = some x := ⟨_, List.getElem?_eq_getElem (by omega)⟩
    have := cut_at hx
    have := h1 _ x h hx
    omega
def twI (x : En) : Int := (x.nm * 12).tdiv x.dn
def beN (x y : En) (a : Int) : Int := twI x * (y.an - a) + twI y * (a - x.an)
def beD (x y : En) : Int := 12 * (y.an - x.an)
/-- the deduction of an angle in a valid table -/
def dedV (l : List En) (a : Int) : R3 :=
  match l[cutI l a]? with
  | none => (0, 0, 5)
  | some y => if y.an = a then (rdN y.nm y.dn, rdD y.nm y.dn, 0) else
    if cutI l a = 0 then (0, 0, 5) else match l[cutI l a - 1]? with
      | none => (0, 0, 5)
      | some x => (rdN (beN x y a) (beD x y), rdD (beN x y a) (beD x y), 0)
def dedA (t : Tb) (a : Int) : R3 := if tbE t ≠ 0 then (0, 0, tbE t) else if !a6B a then (0, 0, 1) else dedV t.en a
theorem tw_eq {x : En} (h : x.dn = 1 ∨ x.dn = 2 ∨ x.dn = 3 ∨ x.dn = 4 ∨ x.dn = 6 ∨ x.dn = 12) : twI x = x.nm * (12 / x.dn) := by
  unfold twI
  obtain ⟨a, n, d⟩ := x
  simp only at h ⊢
  have key : ∀ q e : Int, q * e = 12 → e ≠ 0 → (n * 12).tdiv e = n * q := by
    intro q e h1 h2
    rw [← h1, ← Int.mul_assoc, Int.mul_tdiv_cancel _ h2]
  rcases h with rfl | rfl | rfl | rfl | rfl | rfl <;> exact key _ _ (by decide) (by decide)
theorem tw_bd {x : En} (h : enB x = true) : 0 ≤ twI x ∧ twI x ≤ 240 := by
  obtain ⟨_, h1, h2, h3⟩ := enB_use h
  rw [tw_eq h1]
  obtain ⟨a, n, d⟩ := x
  simp only at h1 h2 h3 ⊢
  rcases h1 with rfl | rfl | rfl | rfl | rfl | rfl <;> omega
theorem be_ok {x y : En} {a : Int} (hx : enB x = true) (hy : enB y = true) (h1 : x.an < a) (h2 : a < y.an) :
    raB (beN x y a) (beD x y) = true ∧ (0 ≤ beN x y a ∧ beN x y a ≤ 240 * 150) ∧ 12 ≤ beD x y ∧ beD x y ≤ 1800 := by
  obtain ⟨a1, _⟩ := enB_use hx
  obtain ⟨a2, _⟩ := enB_use hy
  have t1 := tw_bd hx
  have t2 := tw_bd hy
  have p1 : 0 ≤ twI x * (y.an - a) := Int.mul_nonneg (by omega) (by omega)
  have p2 : 0 ≤ twI y * (a - x.an) := Int.mul_nonneg (by omega) (by omega)
  have p3 : twI x * (y.an - a) ≤ 240 * (y.an - a) := Int.mul_le_mul_of_nonneg_right t1.2 (by omega)
  have p4 : twI y * (a - x.an) ≤ 240 * (a - x.an) := Int.mul_le_mul_of_nonneg_right t2.2 (by omega)
  have q : (0 ≤ beN x y a ∧ beN x y a ≤ 240 * 150) ∧ 12 ≤ beD x y ∧ beD x y ≤ 1800 := by
    unfold beN beD
    omega
  exact ⟨raB_iff.2 (by omega), q⟩
theorem en_ra {x : En} (h : enB x = true) : raB x.nm x.dn = true ∧ (0 ≤ x.nm ∧ x.nm ≤ 240) ∧ 1 ≤ x.dn ∧ x.dn ≤ 12 := by
  obtain ⟨_, h1, h2, h3⟩ := enB_use h
  exact ⟨raB_iff.2 (by omega), by omega, by omega⟩
end Go.Proofs.Ytpmomgfepkegnaa
