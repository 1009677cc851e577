/-
  The ordered ring of numbers a + b * sqrt 3, vectors over it, and that angles in a half plane are ordered. No Go, no program.
-/
import Derived.Test.YtloefohekhkehaaDoorSign
namespace Go.Proofs.YtloefohekhkehaaDoor.G
set_option linter.unusedVariables false
set_option linter.unusedSimpArgs false
open Go.Proofs.YtloefohekhkehaaDoor.M

/-- a + b * sqrt 3 -/
structure Z where
  a : Int
  b : Int
theorem Z.ext {x y : Z} (h : x.a = y.a) (k : x.b = y.b) : x = y := by cases x; cases y; simp_all
instance : Add Z := ⟨fun x y => ⟨x.a + y.a, x.b + y.b⟩⟩
instance : Sub Z := ⟨fun x y => ⟨x.a - y.a, x.b - y.b⟩⟩
instance : Neg Z := ⟨fun x => ⟨-x.a, -x.b⟩⟩
instance : Mul Z := ⟨fun x y => ⟨x.a * y.a + 3 * (x.b * y.b), x.a * y.b + x.b * y.a⟩⟩
instance : Zero Z := ⟨⟨0, 0⟩⟩
theorem add_a (x y : Z) : (x + y).a = x.a + y.a := rfl
theorem add_b (x y : Z) : (x + y).b = x.b + y.b := rfl
theorem sub_a (x y : Z) : (x - y).a = x.a - y.a := rfl
theorem sub_b (x y : Z) : (x - y).b = x.b - y.b := rfl
theorem neg_a (x : Z) : (-x).a = -x.a := rfl
theorem neg_b (x : Z) : (-x).b = -x.b := rfl
theorem mul_a (x y : Z) : (x * y).a = x.a * y.a + 3 * (x.b * y.b) := rfl
theorem mul_b (x y : Z) : (x * y).b = x.a * y.b + x.b * y.a := rfl
theorem zero_a : (0 : Z).a = 0 := rfl
theorem zero_b : (0 : Z).b = 0 := rfl
/-- the sign -/
def sg3 (x : Z) : Int := sgn x.a x.b
def nn (x : Z) : Prop := 0 ≤ sg3 x
def pos (x : Z) : Prop := 0 < sg3 x
theorem sg3_range (x : Z) : sg3 x = -1 ∨ sg3 x = 0 ∨ sg3 x = 1 := sgn_range _ _
theorem sg3_neg (x : Z) : sg3 (-x) = - sg3 x := sgn_neg _ _
theorem sg3_mul (x y : Z) : sg3 (x * y) = sg3 x * sg3 y := sgn_mul _ _ _ _
theorem sg3_zero {x : Z} : sg3 x = 0 ↔ x = 0 := by
  unfold sg3
  rw [sgn_zero]
  constructor
  · rintro ⟨h, k⟩; exact Z.ext h k
  · rintro rfl; exact ⟨rfl, rfl⟩
theorem nn_zero : nn 0 := by unfold nn; rw [sg3_zero.2 rfl]; omega
theorem nn_add' {x y : Z} (h : nn x) (k : nn y) : nn (x + y) := nn_add _ _ _ _ h k
theorem nn_mul {x y : Z} (h : nn x) (k : nn y) : nn (x * y) := by
  unfold nn at *
  rw [sg3_mul]
  exact Int.mul_nonneg h k
theorem pos_mul {x y : Z} (h : pos x) (k : pos y) : pos (x * y) := by
  unfold pos at *
  rw [sg3_mul]
  exact Int.mul_pos h k
theorem pos_nn {x : Z} (h : pos x) : nn x := by unfold pos nn at *; omega
theorem pos_ne {x : Z} (h : pos x) : x ≠ 0 := fun e => by unfold pos at h; rw [sg3_zero.2 e] at h; omega
theorem pos_of {x : Z} (h : nn x) (k : x ≠ 0) : pos x := by
  unfold pos nn at *
  have : sg3 x ≠ 0 := fun e => k (sg3_zero.1 e)
  omega
theorem nn_anti {x : Z} (h : nn x) (k : nn (-x)) : x = 0 := by
  unfold nn at *
  rw [sg3_neg] at k
  exact sg3_zero.1 (by omega)
theorem not_nn {x : Z} (h : ¬ nn x) : pos (-x) := by
  unfold nn pos at *
  rw [sg3_neg]
  omega
theorem not_pos {x : Z} (h : ¬ pos x) : nn (-x) := by
  unfold nn pos at *
  rw [sg3_neg]
  omega
theorem nn_cancel {x y : Z} (h : pos x) (k : nn (x * y)) : nn y := by
  unfold nn pos at *
  rw [sg3_mul] at k
  rcases sg3_range x with e | e | e
  · omega
  · omega
  · rw [e] at k; omega
theorem zero_cancel {x y : Z} (h : pos x) (k : x * y = 0) : y = 0 := by
  have := sg3_mul x y
  rw [sg3_zero.2 k] at this
  unfold pos at h
  rcases sg3_range x with e | e | e
  · omega
  · omega
  · rw [e] at this; exact sg3_zero.1 (by omega)
theorem add_zero_nn {x y : Z} (h : nn x) (k : nn y) (e : x + y = 0) : x = 0 ∧ y = 0 := by
  have e1 : y = -x := Z.ext (by have := congrArg Z.a e; rw [add_a, zero_a] at this; rw [neg_a]; omega) (by have := congrArg Z.b e; rw [add_b, zero_b] at this; rw [neg_b]; omega)
  have hx : x = 0 := nn_anti h (e1 ▸ k)
  refine ⟨hx, ?_⟩
  rw [e1, hx]
  rfl
theorem mul_zero_r (x : Z) : x * 0 = 0 := Z.ext (by rw [mul_a, zero_a, zero_b]; simp) (by rw [mul_b, zero_a, zero_b]; simp)
theorem zero_mul_l (x : Z) : 0 * x = 0 := Z.ext (by rw [mul_a, zero_a, zero_b]; simp) (by rw [mul_b, zero_a, zero_b]; simp)

/-- a vector, or a point -/
structure V where
  x : Z
  y : Z
theorem V.ext {u v : V} (h : u.x = v.x) (k : u.y = v.y) : u = v := by cases u; cases v; simp_all
instance : Sub V := ⟨fun u v => ⟨u.x - v.x, u.y - v.y⟩⟩
instance : Zero V := ⟨⟨0, 0⟩⟩
theorem subx (u v : V) : (u - v).x = u.x - v.x := rfl
theorem suby (u v : V) : (u - v).y = u.y - v.y := rfl
def cr (u v : V) : Z := u.x * v.y - u.y * v.x
/-- in the half plane to the right, or straight up -/
def H (v : V) : Prop := pos v.x ∨ (v.x = 0 ∧ pos v.y)
def H0 (v : V) : Prop := H v ∨ v = 0
theorem H.nnx {v : V} (h : H v) : nn v.x := by
  rcases h with h | ⟨h, _⟩
  · exact pos_nn h
  · rw [h]; exact nn_zero
theorem H0.nnx {v : V} (h : H0 v) : nn v.x := by
  rcases h with h | rfl
  · exact h.nnx
  · exact nn_zero
theorem H0.nny {v : V} (h : H0 v) (k : v.x = 0) : nn v.y := by
  rcases h with (h | ⟨_, h⟩) | rfl
  · exact absurd k (pos_ne h)
  · exact pos_nn h
  · exact nn_zero
theorem tri_x (u v w : V) : u.x * cr w v = w.x * cr u v + v.x * cr w u := by
  apply Z.ext <;> simp only [cr, add_a, add_b, sub_a, sub_b, mul_a, mul_b] <;> grind
theorem tri_y (u v w : V) : u.y * cr w v = w.y * cr u v + v.y * cr w u := by
  apply Z.ext <;> simp only [cr, add_a, add_b, sub_a, sub_b, mul_a, mul_b] <;> grind
theorem turn_weak {u v w : V} (hu : H u) (hv : H0 v) (hw : H0 w) (h1 : nn (cr w u)) (h2 : nn (cr u v)) : nn (cr w v) := by
  rcases hu with hu | ⟨hu, hu'⟩
  · refine nn_cancel hu ?_
    rw [tri_x]
    exact nn_add' (nn_mul hw.nnx h2) (nn_mul hv.nnx h1)
  · have e : cr u v = -(u.y * v.x) := by unfold cr; rw [hu, zero_mul_l]; exact Z.ext (by simp [sub_a, neg_a, zero_a]) (by simp [sub_b, neg_b, zero_b])
    have hvx : v.x = 0 := by
      refine nn_anti hv.nnx ?_
      refine nn_cancel hu' ?_
      rw [e] at h2
      have : u.y * -v.x = -(u.y * v.x) := Z.ext (by simp only [mul_a, neg_a, neg_b]; grind) (by simp only [mul_b, neg_a, neg_b]; grind)
      rwa [this]
    refine nn_cancel hu' ?_
    rw [tri_y, e, hvx, mul_zero_r]
    have e2 : w.y * -(0 : Z) = 0 := Z.ext (by simp [mul_a, neg_a, neg_b, zero_a, zero_b]) (by simp [mul_b, neg_a, neg_b, zero_a, zero_b])
    rw [e2]
    exact nn_add' nn_zero (nn_mul (hv.nny hvx) h1)
theorem turn_strict {u v w : V} (hu : H u) (hv : H v) (hw : H w) (h1 : pos (cr w u)) (h2 : pos (cr u v)) : pos (cr w v) := by
  refine pos_of (turn_weak hu (.inl hv) (.inl hw) (pos_nn h1) (pos_nn h2)) fun e => ?_
  have t := tri_x u v w
  rw [e, mul_zero_r] at t
  obtain ⟨t1, t2⟩ := add_zero_nn (nn_mul hw.nnx (pos_nn h2)) (nn_mul hv.nnx (pos_nn h1)) t.symm
  have comm : ∀ x y : Z, x * y = y * x := fun x y => Z.ext (by simp only [mul_a]; grind) (by simp only [mul_b]; grind)
  have wx : w.x = 0 := zero_cancel h2 (by rw [comm]; exact t1)
  have hwy : pos w.y := by
    rcases hw with hw | ⟨_, hw⟩
    · exact absurd wx (pos_ne hw)
    · exact hw
  -- w × u = - w.y * u.x
  have e3 : cr w u = -(w.y * u.x) := by unfold cr; rw [wx, zero_mul_l]; exact Z.ext (by simp [sub_a, neg_a, zero_a]) (by simp [sub_b, neg_b, zero_b])
  rw [e3] at h1
  have h3 := nn_mul (pos_nn hwy) hu.nnx
  have := nn_anti h3 (pos_nn h1)
  rw [this] at h1
  exact absurd (Z.ext (by simp [neg_a, zero_a]) (by simp [neg_b, zero_b])) (pos_ne h1)
end Go.Proofs.YtloefohekhkehaaDoor.G
