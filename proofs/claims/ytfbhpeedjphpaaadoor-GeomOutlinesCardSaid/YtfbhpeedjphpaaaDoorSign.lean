/-
  Plain arithmetic of numbers a + b * sqrt 3 over Int: their sign, that the order is total, that signs multiply. No Go, no program.
-/
namespace Go.Proofs.YtfbhpeedjphpaaaDoor.M
set_option linter.unusedVariables false
set_option linter.unusedSimpArgs false
/-- the sign of an integer -/
def sg (a : Int) : Int := if a < 0 then -1 else if 0 < a then 1 else 0
/-- the sign of a + b * sqrt 3 -/
def sgn (a b : Int) : Int := if 3 * (b * b) < a * a then sg a else sg b
/-- the document's answer: the sign of a + b * sqrt 3 -/
def rsgn (a b : Int) : Int := if sg a = sg b ∨ sg b = 0 then sg a else if sg a = 0 then sg b else if 3 * (b * b) < a * a then sg a else sg b

theorem sq3 (a : Nat) (h : (a * a) % 3 = 0) : a % 3 = 0 := by
  have h1 : a % 3 = 0 ∨ a % 3 = 1 ∨ a % 3 = 2 := by omega
  rw [Nat.mul_mod] at h
  rcases h1 with h1 | h1 | h1 <;> simp [h1] at h ⊢
theorem irr_nat (n : Nat) : ∀ a b : Nat, a ≤ n → a * a = 3 * (b * b) → a = 0 := by
  induction n with
  | zero => intro a b h _; omega
  | succ n ih =>
    intro a b hle h
    have h3 := sq3 a (by omega)
    obtain ⟨c, rfl⟩ : ∃ c, a = 3 * c := ⟨a / 3, by omega⟩
    have hb : b * b = 3 * (c * c) := by grind
    have hbn : b ≤ n := by
      refine Nat.not_lt.1 fun hlt => ?_
      have : (n + 1) * (n + 1) ≤ b * b := Nat.mul_le_mul hlt hlt
      have : 3 * c * (3 * c) ≤ (n + 1) * (n + 1) := Nat.mul_le_mul hle hle
      have : 1 ≤ (n + 1) * (n + 1) := Nat.mul_le_mul (by omega : 1 ≤ n + 1) (by omega : 1 ≤ n + 1)
      omega
    have := ih b c hbn hb
    subst this
    have : c * c = 0 := by omega
    rcases Nat.mul_eq_zero.1 this with h | h <;> omega
theorem irr (a b : Int) (h : a * a = 3 * (b * b)) : a = 0 ∧ b = 0 := by
  have h1 : a.natAbs * a.natAbs = 3 * (b.natAbs * b.natAbs) := by
    have e1 := Int.natAbs_mul_self (a := a)
    have e2 := Int.natAbs_mul_self (a := b)
    omega
  have h2 := irr_nat a.natAbs a.natAbs b.natAbs (Nat.le_refl _) h1
  have h3 : a = 0 := by omega
  subst h3
  have : b * b = 0 := by omega
  rcases Int.mul_eq_zero.1 this with h | h <;> simp_all
theorem sq_nn (a : Int) : 0 ≤ a * a := by
  rcases Int.le_total 0 a with h | h
  · exact Int.mul_nonneg h h
  · exact Int.mul_nonneg_of_nonpos_of_nonpos h h
theorem sq_pos (a : Int) (h : a ≠ 0) : 0 < a * a := by
  have := sq_nn a
  have : a * a ≠ 0 := fun e => by rcases Int.mul_eq_zero.1 e with h' | h' <;> exact h h'
  omega
theorem sgn_rsgn (a b : Int) : sgn a b = rsgn a b := by
  have ha := sq_nn a
  have hb := sq_nn b
  by_cases h0 : a = 0
  · subst h0; unfold sgn rsgn sg; grind
  by_cases h1 : b = 0
  · subst h1; have := sq_pos a h0; unfold sgn rsgn sg; grind
  unfold sgn rsgn sg; grind

/-- 0 ≤ a + b * sqrt 3 -/
def NN (a b : Int) : Prop := 0 ≤ sgn a b
theorem sg_nn (a : Int) : 0 ≤ sg a ↔ 0 ≤ a := by unfold sg; grind
theorem sg_neg (a : Int) : sg (-a) = - sg a := by unfold sg; grind
theorem sgn_neg (a b : Int) : sgn (-a) (-b) = - sgn a b := by
  unfold sgn
  rw [Int.neg_mul_neg, Int.neg_mul_neg, sg_neg, sg_neg]
  split <;> rfl
theorem sg_range (a : Int) : sg a = -1 ∨ sg a = 0 ∨ sg a = 1 := by unfold sg; grind
theorem sgn_range (a b : Int) : sgn a b = -1 ∨ sgn a b = 0 ∨ sgn a b = 1 := by unfold sgn; have := sg_range a; have := sg_range b; grind
theorem sgn_zero (a b : Int) : sgn a b = 0 ↔ a = 0 ∧ b = 0 := by
  constructor
  · intro h
    unfold sgn at h
    split at h
    · have : a = 0 := by unfold sg at h; grind
      subst this
      have := sq_nn b
      omega
    · have : b = 0 := by unfold sg at h; grind
      subst this
      have h2 := sq_nn a
      exact irr a 0 (by omega)
  · rintro ⟨rfl, rfl⟩; rfl
theorem NN_iff (a b : Int) : NN a b ↔ (0 ≤ a ∧ 0 ≤ b) ∨ (0 ≤ a ∧ b ≤ 0 ∧ 3 * (b * b) ≤ a * a) ∨ (a ≤ 0 ∧ 0 ≤ b ∧ a * a ≤ 3 * (b * b)) := by
  have e := irr a b
  have hb := sq_nn b
  have ha := sq_nn a
  unfold NN sgn
  split
  · rw [sg_nn]
    by_cases h : 0 ≤ b <;> grind
  · rw [sg_nn]
    by_cases h : 0 ≤ a
    · by_cases hb0 : 0 ≤ b
      · grind
      · have : a * a ≠ 3 * (b * b) := fun h => by have := e h; omega
        grind
    · grind
theorem sqlt {a b : Int} (ha : 0 ≤ a) (h : a < b) : a*a < b*b := by
  have h1 : a*a ≤ a*b := Int.mul_le_mul_of_nonneg_left (by omega) ha
  have h2 : a*b < b*b := Int.mul_lt_mul_of_pos_right h (by omega)
  omega
theorem sqle {a b : Int} (hb : 0 ≤ b) (h : a * a ≤ b * b) : a ≤ b := by
  refine Int.not_lt.1 fun hlt => ?_
  have := sqlt hb hlt
  omega
/-- x ≥ sqrt 3 * y, z ≤ sqrt 3 * w: then y * z ≤ x * w -/
theorem cross1 {x y z w : Int} (hx : 0 ≤ x) (hw : 0 ≤ w) (h1 : 3*(y*y) ≤ x*x) (h2 : z*z ≤ 3*(w*w)) : y*z ≤ x*w := by
  refine sqle (Int.mul_nonneg hx hw) ?_
  have h4 : 3*(y*y)*(w*w) ≤ x*x*(w*w) := Int.mul_le_mul_of_nonneg_right h1 (sq_nn w)
  have h5 : (z*z)*(y*y) ≤ 3*(w*w)*(y*y) := Int.mul_le_mul_of_nonneg_right h2 (sq_nn y)
  grind
/-- x ≥ sqrt 3 * y, z ≥ sqrt 3 * w: then 3 * y * w ≤ x * z -/
theorem cross2 {x y z w : Int} (hx : 0 ≤ x) (hz : 0 ≤ z) (h1 : 3*(y*y) ≤ x*x) (h2 : 3*(w*w) ≤ z*z) : 3*(y*w) ≤ x*z := by
  refine sqle (Int.mul_nonneg hx hz) ?_
  have h4 : 3*(y*y)*(3*(w*w)) ≤ x*x*(3*(w*w)) := Int.mul_le_mul_of_nonneg_right h1 (by have := sq_nn w; omega)
  have h5 : 3*(w*w)*(x*x) ≤ (z*z)*(x*x) := Int.mul_le_mul_of_nonneg_right h2 (sq_nn x)
  grind
/-- x ≤ sqrt 3 * y, z ≤ sqrt 3 * w: then x * z ≤ 3 * y * w -/
theorem cross3 {x y z w : Int} (hy : 0 ≤ y) (hw : 0 ≤ w) (h1 : x*x ≤ 3*(y*y)) (h2 : z*z ≤ 3*(w*w)) : x*z ≤ 3*(y*w) := by
  refine sqle (by have := Int.mul_nonneg hy hw; omega) ?_
  have h4 : x*x*(z*z) ≤ 3*(y*y)*(z*z) := Int.mul_le_mul_of_nonneg_right h1 (sq_nn z)
  have h5 : (z*z)*(3*(y*y)) ≤ 3*(w*w)*(3*(y*y)) := Int.mul_le_mul_of_nonneg_right h2 (by have := sq_nn y; omega)
  grind
theorem sq_mono {a b : Int} (ha : 0 ≤ a) (h : a ≤ b) : a * a ≤ b * b := Int.mul_le_mul h h ha (by omega)

/-- a sum of numbers that are not below 0 is not below 0: one way of signs -/
theorem nn_mix {x y z w : Int} (hx : 0 ≤ x) (_hy : 0 ≤ y) (hz : 0 ≤ z) (hw : 0 ≤ w) (h1 : 3*(y*y) ≤ x*x) (h2 : z*z ≤ 3*(w*w)) : NN (x - z) (w - y) := by
  rw [NN_iff]
  have hc := cross1 hx hw h1 h2
  by_cases ha : 0 ≤ x - z
  · by_cases hb : 0 ≤ w - y
    · exact .inl ⟨ha, hb⟩
    · refine .inr (.inl ⟨ha, by omega, ?_⟩)
      refine Int.not_lt.1 fun hlt => ?_
      -- d = x - z, e = y - w, d * d < 3 * e * e
      have h3 := cross3 (x := x - z) (y := y - w) (z := z) (w := w) (by omega) hw (by grind) h2
      grind
  · by_cases hb : 0 ≤ w - y
    · refine .inr (.inr ⟨by omega, hb, ?_⟩)
      refine Int.not_lt.1 fun hlt => ?_
      have h3 := cross2 (x := z - x) (y := w - y) (z := x) (w := y) (by omega) hx (by grind) h1
      grind
    · have : (x + 1) * (w + 1) ≤ z * y := Int.mul_le_mul (by omega) (by omega) (by omega) hz
      grind
theorem nn_add (a b c d : Int) (h1 : NN a b) (h2 : NN c d) : NN (a + c) (b + d) := by
  have e1 := (NN_iff a b).1 h1
  have e2 := (NN_iff c d).1 h2
  rcases e1 with ⟨p1, p2⟩ | ⟨p1, p2, p3⟩ | ⟨p1, p2, p3⟩
  · rcases e2 with ⟨q1, q2⟩ | ⟨q1, q2, q3⟩ | ⟨q1, q2, q3⟩
    · exact (NN_iff _ _).2 (.inl ⟨by omega, by omega⟩)
    · rw [NN_iff]
      by_cases h : 0 ≤ b + d
      · exact .inl ⟨by omega, h⟩
      · refine .inr (.inl ⟨by omega, by omega, ?_⟩)
        have := sq_mono (a := -(b + d)) (b := -d) (by omega) (by omega)
        have := sq_mono (a := c) (b := a + c) (by omega) (by omega)
        grind
    · rw [NN_iff]
      by_cases h : 0 ≤ a + c
      · exact .inl ⟨h, by omega⟩
      · refine .inr (.inr ⟨by omega, by omega, ?_⟩)
        have := sq_mono (a := -(a + c)) (b := -c) (by omega) (by omega)
        have := sq_mono (a := d) (b := b + d) (by omega) (by omega)
        grind
  · rcases e2 with ⟨q1, q2⟩ | ⟨q1, q2, q3⟩ | ⟨q1, q2, q3⟩
    · rw [NN_iff]
      by_cases h : 0 ≤ b + d
      · exact .inl ⟨by omega, h⟩
      · refine .inr (.inl ⟨by omega, by omega, ?_⟩)
        have := sq_mono (a := -(b + d)) (b := -b) (by omega) (by omega)
        have := sq_mono (a := a) (b := a + c) (by omega) (by omega)
        grind
    · rw [NN_iff]
      refine .inr (.inl ⟨by omega, by omega, ?_⟩)
      have := cross2 (x := a) (y := b) (z := c) (w := d) p1 q1 p3 q3
      grind
    · have := nn_mix (x := a) (y := -b) (z := -c) (w := d) p1 (by omega) (by omega) q2 (by grind) (by grind)
      rwa [show a - -c = a + c by omega, show d - -b = b + d by omega] at this
  · rcases e2 with ⟨q1, q2⟩ | ⟨q1, q2, q3⟩ | ⟨q1, q2, q3⟩
    · rw [NN_iff]
      by_cases h : 0 ≤ a + c
      · exact .inl ⟨h, by omega⟩
      · refine .inr (.inr ⟨by omega, by omega, ?_⟩)
        have := sq_mono (a := -(a + c)) (b := -a) (by omega) (by omega)
        have := sq_mono (a := b) (b := b + d) (by omega) (by omega)
        grind
    · have := nn_mix (x := c) (y := -d) (z := -a) (w := b) q1 (by omega) (by omega) p2 (by grind) (by grind)
      rwa [show c - -a = a + c by omega, show b - -d = b + d by omega] at this
    · rw [NN_iff]
      refine .inr (.inr ⟨by omega, by omega, ?_⟩)
      have := cross3 (x := a) (y := b) (z := c) (w := d) p2 q2 p3 q3
      grind
/-- the order is total: sums of what is not above 0 are not above 0 -/
theorem sgn_trans (a b c d : Int) (h1 : ¬ 0 < sgn a b) (h2 : ¬ 0 < sgn c d) : sgn (a + c) (b + d) ≤ 0 := by
  have e1 := sgn_neg a b
  have e2 := sgn_neg c d
  have e3 := sgn_neg (a + c) (b + d)
  have := nn_add (-a) (-b) (-c) (-d) (by unfold NN; omega) (by unfold NN; omega)
  unfold NN at this
  rw [show -a + -c = -(a + c) by omega, show -b + -d = -(b + d) by omega] at this
  omega

theorem sg_mul (a b : Int) : sg (a * b) = sg a * sg b := by
  have l : ∀ x y : Int, 0 < x → 0 < y → 0 < x * y := fun x y hx hy => Int.mul_pos hx hy
  rcases Int.lt_trichotomy a 0 with ha | ha | ha <;> rcases Int.lt_trichotomy b 0 with hb | hb | hb
  · have := l (-a) (-b) (by omega) (by omega); unfold sg; grind
  · subst hb; unfold sg; grind
  · have := l (-a) b (by omega) (by omega); unfold sg; grind
  · subst ha; unfold sg; grind
  · subst ha; unfold sg; grind
  · subst ha; unfold sg; grind
  · have := l a (-b) (by omega) (by omega); unfold sg; grind
  · subst hb; unfold sg; grind
  · have := l a b (by omega) (by omega); unfold sg; grind
/-- the larger square decides the sign of a sum -/
theorem sg_add (p q : Int) (h : q * q < p * p) : sg (p + q) = sg p := by
  by_cases hp : 0 ≤ p
  · have h1 : q < p := by
      refine Int.not_le.1 fun hle => ?_
      have := sq_mono hp hle
      omega
    have h2 : -q < p := by
      refine Int.not_le.1 fun hle => ?_
      have := sq_mono hp hle
      grind
    unfold sg; grind
  · have h1 : q < -p := by
      refine Int.not_le.1 fun hle => ?_
      have := sq_mono (a := -p) (by omega) hle
      grind
    have h2 : -q < -p := by
      refine Int.not_le.1 fun hle => ?_
      have := sq_mono (a := -p) (by omega) hle
      grind
    unfold sg; grind
theorem norm_mul (a b c d : Int) : (a*c+3*(b*d)) * (a*c+3*(b*d)) - 3 * ((a*d+b*c)*(a*d+b*c)) = (a*a - 3*(b*b)) * (c*c - 3*(d*d)) := by grind
theorem sgn_mul (a b c d : Int) : sgn (a*c+3*(b*d)) (a*d+b*c) = sgn a b * sgn c d := by
  have hn := norm_mul a b c d
  by_cases z1 : sgn a b = 0
  · obtain ⟨rfl, rfl⟩ := (sgn_zero _ _).1 z1
    simp [z1]
  by_cases z2 : sgn c d = 0
  · obtain ⟨rfl, rfl⟩ := (sgn_zero _ _).1 z2
    simp [z2]
  have y1 : a * a ≠ 3 * (b * b) := fun h => z1 (by obtain ⟨rfl, rfl⟩ := irr a b h; rfl)
  have y2 : c * c ≠ 3 * (d * d) := fun h => z2 (by obtain ⟨rfl, rfl⟩ := irr c d h; rfl)
  clear z1 z2
  by_cases n1 : 3 * (b * b) < a * a
  · by_cases n2 : 3 * (d * d) < c * c
    · have h : 0 < (a*a - 3*(b*b)) * (c*c - 3*(d*d)) := Int.mul_pos (by omega) (by omega)
      unfold sgn
      rw [if_pos n1, if_pos n2, if_pos (by omega), ← sg_mul]
      refine sg_add _ _ ?_
      have l1 : 3 * (b * b) * (3 * (d * d)) ≤ 3 * (b * b) * (c * c) := Int.mul_le_mul_of_nonneg_left (by omega) (by have := sq_nn b; omega)
      have l2 : 3 * (b * b) * (c * c) < a * a * (c * c) := Int.mul_lt_mul_of_pos_right n1 (by have := sq_nn d; omega)
      grind
    · have h : 0 < (a*a - 3*(b*b)) * (3*(d*d) - c*c) := Int.mul_pos (by omega) (by omega)
      unfold sgn
      rw [if_pos n1, if_neg n2, if_neg (by grind), ← sg_mul]
      refine sg_add _ _ ?_
      have l1 : 3 * (b * b) * (c * c) ≤ 3 * (b * b) * (3 * (d * d)) := Int.mul_le_mul_of_nonneg_left (by omega) (by have := sq_nn b; omega)
      have l2 : 3 * (b * b) * (3 * (d * d)) < a * a * (3 * (d * d)) := Int.mul_lt_mul_of_pos_right n1 (by have := sq_nn c; omega)
      grind
  · by_cases n2 : 3 * (d * d) < c * c
    · have h : 0 < (3*(b*b) - a*a) * (c*c - 3*(d*d)) := Int.mul_pos (by omega) (by omega)
      unfold sgn
      rw [if_neg n1, if_pos n2, if_neg (by grind), ← sg_mul, Int.add_comm]
      refine sg_add _ _ ?_
      have l1 : a * a * (3 * (d * d)) ≤ 3 * (b * b) * (3 * (d * d)) := Int.mul_le_mul_of_nonneg_right (by omega) (by have := sq_nn d; omega)
      have l2 : 3 * (b * b) * (3 * (d * d)) < 3 * (b * b) * (c * c) := Int.mul_lt_mul_of_pos_left n2 (by have := sq_nn a; omega)
      grind
    · have h : 0 < (3*(b*b) - a*a) * (3*(d*d) - c*c) := Int.mul_pos (by omega) (by omega)
      unfold sgn
      rw [if_neg n1, if_neg n2, if_pos (by grind), ← sg_mul, Int.add_comm]
      rw [show sg (b * d) = sg (3 * (b * d)) by unfold sg; grind]
      refine sg_add _ _ ?_
      have l1 : a * a * (c * c) ≤ a * a * (3 * (d * d)) := Int.mul_le_mul_of_nonneg_left (by omega) (sq_nn a)
      have l2 : a * a * (3 * (d * d)) < 3 * (b * b) * (3 * (d * d)) := Int.mul_lt_mul_of_pos_right (by omega) (by have := sq_nn c; omega)
      grind
end Go.Proofs.YtfbhpeedjphpaaaDoor.M
