/-
  What the search for the next corner needs, and that two polygons apart have a side between them, as their differences say. No Go, no program.
-/
import Derived.Test.YtloefohekhkehaaDoorHullD
namespace Go.Proofs.YtloefohekhkehaaDoor.G
set_option linter.unusedVariables false
set_option linter.unusedSimpArgs false
open Go.Proofs.YtloefohekhkehaaDoor.M

theorem wrap_keep {l : List V} {p q x : V} (h : E l p q) (hx : x ∈ l) : 0 ≤ sg3 (O p q x) ∧ ¬ (sg3 (O p q x) = 0 ∧ Bt p q x ∧ x ≠ q ∧ x ≠ p) := by
  obtain ⟨h1, h2, h3⟩ := h
  obtain ⟨k1, k2⟩ := h3 x hx
  refine ⟨k1, fun ⟨e, b, n1, n2⟩ => ?_⟩
  rcases b with ⟨c, d⟩ | ⟨c, d⟩ <;> rcases k2 (sg3_zero.1 e) with ⟨c', d'⟩ | ⟨c', d'⟩
  · exact n1 (d'.anti d)
  · exact n2 (d'.anti (c.trans d))
  · exact n2 ((c.trans d).anti c')
  · exact n1 (c.anti c')
theorem wrap_take {l : List V} {p q n : V} (h : E l p q) (hn : n ∈ l) : sg3 (O p n q) < 0 ∨ (sg3 (O p n q) = 0 ∧ Bt p n q) := by
  obtain ⟨h1, h2, h3⟩ := h
  obtain ⟨k1, k2⟩ := h3 n hn
  unfold nn at k1
  have e := O_swap p q n
  have e' : sg3 (O p n q) = - sg3 (O p q n) := by rw [e, sg3_neg]
  by_cases z : sg3 (O p q n) = 0
  · exact .inr ⟨by omega, k2 (sg3_zero.1 z)⟩
  · exact .inl (by omega)

/-! ### Directions -/

def dot (e u : V) : Z := e.x * u.x + e.y * u.y
theorem sq_nn (x : Z) : nn (x * x) := by
  unfold nn
  rw [sg3_mul]
  rcases sg3_range x with h | h | h <;> rw [h] <;> omega
theorem sq_zero {x : Z} (h : x * x = 0) : x = 0 := by
  have := sg3_mul x x
  rw [sg3_zero.2 h] at this
  refine sg3_zero.1 ?_
  rcases sg3_range x with h | h | h <;> rw [h] at this <;> omega
theorem dot_pos {e : V} (h : e ≠ 0) : pos (dot e e) := by
  refine pos_of (nn_add' (sq_nn _) (sq_nn _)) fun k => h ?_
  obtain ⟨k1, k2⟩ := add_zero_nn (sq_nn _) (sq_nn _) k
  exact V.ext (sq_zero k1) (sq_zero k2)
theorem par {e u : V} (he : e ≠ 0) (hu : u ≠ 0) (h : cr e u = 0) : (∀ v, sg3 (cr u v) = sg3 (cr e v)) ∨ (∀ v, sg3 (cr u v) = - sg3 (cr e v)) := by
  have id1 : ∀ v, cr u v * dot e e = dot e u * cr e v - cr e u * dot e v := fun v => by
    apply Z.ext <;> simp only [cr, dot, subx, suby, add_a, add_b, sub_a, sub_b, neg_a, neg_b, mul_a, mul_b] <;> grind
  have id2 : dot e u * dot e u + cr e u * cr e u = dot e e * dot u u := by
    apply Z.ext <;> simp only [cr, dot, subx, suby, add_a, add_b, sub_a, sub_b, neg_a, neg_b, mul_a, mul_b] <;> grind
  have p1 := dot_pos he
  have p2 := dot_pos hu
  have nz : sg3 (dot e u) ≠ 0 := fun k => by
    rw [sg3_zero] at k
    have := pos_mul p1 p2
    rw [← id2, h, k] at this
    exact pos_ne this (by (apply G.Z.ext <;> simp only [G.cr, G.subx, G.suby, G.add_a, G.add_b, G.sub_a, G.sub_b, G.neg_a, G.neg_b, G.mul_a, G.mul_b, G.zero_a, G.zero_b] <;> grind))
  have key : ∀ v, sg3 (cr u v) = sg3 (dot e u) * sg3 (cr e v) := fun v => by
    have := congrArg sg3 (id1 v)
    rw [sg3_mul, h, zero_mul_l] at this
    have z : dot e u * cr e v - 0 = dot e u * cr e v := by (apply G.Z.ext <;> simp only [G.cr, G.subx, G.suby, G.add_a, G.add_b, G.sub_a, G.sub_b, G.neg_a, G.neg_b, G.mul_a, G.mul_b, G.zero_a, G.zero_b] <;> grind)
    rw [z, sg3_mul] at this
    have : sg3 (dot e e) = 1 := by
      unfold pos at p1
      rcases sg3_range (dot e e) with t | t | t <;> omega
    grind
  rcases sg3_range (dot e u) with t | t | t
  · exact .inr fun v => by rw [key, t]; omega
  · exact absurd t nz
  · exact .inl fun v => by rw [key, t]; omega
def up : V := ⟨0, ⟨1, 0⟩⟩
def ri : V := ⟨⟨1, 0⟩, 0⟩
theorem cr_up (u : V) : cr u up = u.x := by
  apply Z.ext <;> simp [cr, up, sub_a, sub_b, mul_a, mul_b, zero_a, zero_b]
theorem cr_ri (u : V) : cr u ri = -u.y := by
  apply Z.ext <;> simp [cr, ri, sub_a, sub_b, mul_a, mul_b, zero_a, zero_b, neg_a, neg_b]
theorem not_opp {u w : V} (hu : H u) (hw : H w) (h : ∀ v, sg3 (cr u v) = - sg3 (cr w v)) : False := by
  have h1 := h up
  have h2 := h ri
  rw [cr_up, cr_up] at h1
  rw [cr_ri, cr_ri, sg3_neg, sg3_neg] at h2
  have a := hu.nnx
  have b := hw.nnx
  unfold H nn pos at *
  rcases hu with hu | ⟨_, hu⟩ <;> rcases hw with hw | ⟨_, hw⟩ <;> omega

/-- a side where two corners are lowest -/
theorem low_side' {C : List V} {e x1 x2 : V} (hC : ∃ n, E C x1 n) (he : e ≠ 0) (h2 : x2 ∈ C) (hne : x1 ≠ x2)
    (hlow : ∀ x ∈ C, nn (cr e (x - x1))) (same : ∀ v, sg3 (cr (x2 - x1) v) = sg3 (cr e v)) : ∃ n, E C x1 n ∧ ∀ v, sg3 (cr (n - x1) v) = sg3 (cr e v) := by
  obtain ⟨n, hn⟩ := hC
  refine ⟨n, hn, ?_⟩
  obtain ⟨g1, g2, g3⟩ := hn
  obtain ⟨k1, k2⟩ := g3 x2 h2
  have lo := hlow n g1
  have s1 := same (n - x1)
  have e1 : cr (x2 - x1) (n - x1) = -(O x1 n x2) := by unfold O; (apply G.Z.ext <;> simp only [G.cr, G.subx, G.suby, G.add_a, G.add_b, G.sub_a, G.sub_b, G.neg_a, G.neg_b, G.mul_a, G.mul_b, G.zero_a, G.zero_b] <;> grind)
  rw [e1, sg3_neg] at s1
  unfold nn at k1 lo
  have z1 : sg3 (O x1 n x2) = 0 := by omega
  have z2 : cr e (n - x1) = 0 := sg3_zero.1 (by omega)
  have wn : n - x1 ≠ 0 := fun k => g2 (sub_zero_eq k)
  rcases par he wn z2 with t | t
  · exact t
  · exfalso
    rcases k2 (sg3_zero.1 z1) with ⟨c, d⟩ | ⟨c, d⟩
    · have a1 : L x1 x2 := by
        rcases c.or with c | c
        · exact c
        · exact absurd c hne
      have a2 : L x1 n := a1.le_l d
      exact not_opp (u := x2 - x1) (w := n - x1) a1 a2 fun v => by rw [same, t]; omega
    · have a1 : L x2 x1 := by
        rcases d.or with c | c
        · exact c
        · exact absurd c.symm hne
      have a2 : L n x1 := c.l_l a1
      have neg : ∀ a b v : V, sg3 (cr (a - b) v) = - sg3 (cr (b - a) v) := fun a b v => by
        rw [← sg3_neg]
        congr 1
        (apply G.Z.ext <;> simp only [G.cr, G.subx, G.suby, G.add_a, G.add_b, G.sub_a, G.sub_b, G.neg_a, G.neg_b, G.mul_a, G.mul_b, G.zero_a, G.zero_b] <;> grind)
      exact not_opp (u := x1 - x2) (w := x1 - n) a1 a2 fun v => by rw [neg x1 x2, neg x1 n, same, t]; omega
theorem low_side {C : List V} {e x1 x2 : V} (hC : ∀ x ∈ C, ∃ n, E C x n) (he : e ≠ 0) (h1 : x1 ∈ C) (h2 : x2 ∈ C) (hne : x1 ≠ x2)
    (hlow : ∀ x ∈ C, nn (cr e (x - x1))) (hz : cr e (x2 - x1) = 0) : ∃ x n, x ∈ C ∧ E C x n ∧ (∀ v, sg3 (cr (n - x) v) = sg3 (cr e v)) ∧ cr e (x - x1) = 0 := by
  have un : x2 - x1 ≠ 0 := fun k => hne (sub_zero_eq k)
  rcases par he un hz with t | t
  · obtain ⟨n, a, b⟩ := low_side' (hC x1 h1) he h2 hne hlow t
    exact ⟨x1, n, h1, a, b, by rw [sub_self_v]; show cr e 0 = 0; unfold cr; show e.x * 0 - e.y * 0 = 0; rw [mul_zero_r, mul_zero_r]; rfl⟩
  · obtain ⟨n, a, b⟩ := low_side' (C := C) (e := e) (x1 := x2) (x2 := x1) (hC x2 h2) he h1 (Ne.symm hne) (fun x hx => by
      have : cr e (x - x2) = cr e (x - x1) - cr e (x2 - x1) := by (apply G.Z.ext <;> simp only [G.cr, G.subx, G.suby, G.add_a, G.add_b, G.sub_a, G.sub_b, G.neg_a, G.neg_b, G.mul_a, G.mul_b, G.zero_a, G.zero_b] <;> grind)
      rw [this, hz]
      have z : cr e (x - x1) - 0 = cr e (x - x1) := by (apply G.Z.ext <;> simp only [G.cr, G.subx, G.suby, G.add_a, G.add_b, G.sub_a, G.sub_b, G.neg_a, G.neg_b, G.mul_a, G.mul_b, G.zero_a, G.zero_b] <;> grind)
      rw [z]
      exact hlow x hx) (fun v => by
      have : cr (x1 - x2) v = -(cr (x2 - x1) v) := by (apply G.Z.ext <;> simp only [G.cr, G.subx, G.suby, G.add_a, G.add_b, G.sub_a, G.sub_b, G.neg_a, G.neg_b, G.mul_a, G.mul_b, G.zero_a, G.zero_b] <;> grind)
      rw [this, sg3_neg, t]
      omega)
    exact ⟨x2, n, h2, a, b, hz⟩

/-! ### Apart -/

/-- a side of A has no point of B on its left -/
def Sep (A B : List V) : Prop := ∃ x n, x ∈ A ∧ E A x n ∧ ∀ y ∈ B, sg3 (O x n y) ≤ 0
/-- all differences -/
def diffs (A B : List V) : List V := A.flatMap fun x => B.map fun y => x - y
theorem mem_diffs {A B : List V} {v : V} : v ∈ diffs A B ↔ ∃ x ∈ A, ∃ y ∈ B, v = x - y := by
  unfold diffs
  simp only [List.mem_flatMap, List.mem_map]
  exact ⟨fun ⟨x, hx, y, hy, e⟩ => ⟨x, hx, y, hy, e.symm⟩, fun ⟨x, hx, y, hy, e⟩ => ⟨x, hx, y, hy, e.symm⟩⟩

theorem Run.prev {l : List V} {a : V} {s : List V} (h : Path l (a :: (s ++ [a]))) : ∀ m ∈ a :: s, ∃ p ∈ a :: s, E l p m := by
  have key : ∀ (s : List V) (x : V), Path l (x :: (s ++ [a])) → (∀ m ∈ s, ∃ p ∈ x :: s, E l p m) ∧ ∃ p ∈ x :: s, E l p a := by
    intro s
    induction s with
    | nil => intro x h; exact ⟨fun m hm => by simp at hm, x, by simp, h.1⟩
    | cons y s ih =>
      intro x h
      obtain ⟨i1, p, i2, i3⟩ := ih y h.2
      refine ⟨fun m hm => ?_, p, List.mem_cons_of_mem _ i2, i3⟩
      rcases List.mem_cons.1 hm with rfl | hm
      · exact ⟨x, by simp, h.1⟩
      · obtain ⟨p, i4, i5⟩ := i1 m hm
        exact ⟨p, List.mem_cons_of_mem _ i4, i5⟩
  intro m hm
  obtain ⟨k1, k2⟩ := key s a h
  rcases List.mem_cons.1 hm with rfl | hm
  · exact k2
  · exact k1 m hm
theorem Run.next {l : List V} {a : V} {s : List V} (h : Path l (a :: (s ++ [a]))) : ∀ m ∈ a :: s, ∃ n ∈ a :: s, E l m n := by
  have key : ∀ (s : List V) (x : V), Path l (x :: (s ++ [a])) → ∀ m ∈ x :: s, ∃ n ∈ a :: s, E l m n := by
    intro s
    induction s with
    | nil => intro x h m hm; simp at hm; subst hm; exact ⟨a, by simp, h.1⟩
    | cons y s ih =>
      intro x h m hm
      rcases List.mem_cons.1 hm with rfl | hm
      · exact ⟨y, by simp, h.1⟩
      · obtain ⟨n, i1, i2⟩ := ih y h.2 m hm
        refine ⟨n, ?_, i2⟩
        rcases List.mem_cons.1 i1 with rfl | i1
        · simp
        · simp [i1]
  exact key s a h

theorem max_of (f : V → Z) : ∀ l : List V, l ≠ [] → ∃ m ∈ l, ∀ x ∈ l, nn (f m - f x)
  | [], h => absurd rfl h
  | [a], _ => ⟨a, by simp, fun x hx => by simp at hx; subst hx; rw [sub_self_z]; exact nn_zero⟩
  | a :: b :: l, _ => by
    obtain ⟨m, h1, h2⟩ := max_of f (b :: l) (by simp)
    by_cases c : nn (f m - f a)
    · refine ⟨m, List.mem_cons_of_mem _ h1, fun x hx => ?_⟩
      rcases List.mem_cons.1 hx with rfl | hx
      · exact c
      · exact h2 x hx
    · refine ⟨a, by simp, fun x hx => ?_⟩
      have c' := pos_nn (not_nn c)
      rcases List.mem_cons.1 hx with rfl | hx
      · rw [sub_self_z]; exact nn_zero
      · have : f a - f x = -(f m - f a) + (f m - f x) := by (apply G.Z.ext <;> simp only [G.cr, G.subx, G.suby, G.add_a, G.add_b, G.sub_a, G.sub_b, G.neg_a, G.neg_b, G.mul_a, G.mul_b, G.zero_a, G.zero_b] <;> grind)
        rw [this]
        exact nn_add' c' (h2 x hx)

/-- where a line keeps all points on one side and the origin on the other, an edge does not have the origin on its left -/
theorem origin_out {l : List V} {a : V} {s : List V} (h : Path l (a :: (s ++ [a]))) (hm : ∀ x ∈ a :: s, x ∈ l) (pl : ∀ p ∈ a :: s, ∀ q, E l p q → pos (O p q 0))
    {d : V} (hd : d ≠ 0) (hs : ∀ v ∈ l, nn (-(cr d v))) : False := by
  obtain ⟨m, m1, m2⟩ := max_of (fun v => cr d v) (a :: s) (by simp)
  obtain ⟨p, p1, p2⟩ := Run.prev h m m1
  obtain ⟨n, n1, n2⟩ := Run.next h m m1
  have o1 := pl p p1 m p2
  have o2 := pl m m1 n n2
  by_cases hpn : p = n
  · subst hpn
    have : O m p 0 = -(O p m 0) := by unfold O; apply Z.ext <;> simp only [cr, subx, suby, add_a, add_b, sub_a, sub_b, neg_a, neg_b, mul_a, mul_b] <;> grind
    rw [this] at o2
    have := nn_anti (pos_nn o1) (pos_nn o2)
    exact pos_ne o1 this
  have tu := p2.turn n2 (hm p p1) hpn
  have fp : nn (cr d (m - p)) := by
    have : cr d (m - p) = cr d m - cr d p := by (apply G.Z.ext <;> simp only [G.cr, G.subx, G.suby, G.add_a, G.add_b, G.sub_a, G.sub_b, G.neg_a, G.neg_b, G.mul_a, G.mul_b, G.zero_a, G.zero_b] <;> grind)
    rw [this]
    exact m2 p p1
  have fn : nn (-(cr d (n - m))) := by
    have : -(cr d (n - m)) = cr d m - cr d n := by (apply G.Z.ext <;> simp only [G.cr, G.subx, G.suby, G.add_a, G.add_b, G.sub_a, G.sub_b, G.neg_a, G.neg_b, G.mul_a, G.mul_b, G.zero_a, G.zero_b] <;> grind)
    rw [this]
    exact m2 n n1
  have fm := hs m (hm m m1)
  have z0x : (0 : V).x = 0 := rfl
  have z0y : (0 : V).y = 0 := rfl
  have id : O p m n * (-(cr d m)) + (O m n 0 * cr d (m - p) + O p m 0 * (-(cr d (n - m)))) = 0 := by
    unfold O
    apply Z.ext <;> simp only [cr, subx, suby, z0x, z0y, add_a, add_b, sub_a, sub_b, neg_a, neg_b, mul_a, mul_b, zero_a, zero_b] <;> grind
  obtain ⟨_, i2⟩ := add_zero_nn (nn_mul (pos_nn tu) fm) (nn_add' (nn_mul (pos_nn o2) fp) (nn_mul (pos_nn o1) fn)) id
  obtain ⟨i3, i4⟩ := add_zero_nn (nn_mul (pos_nn o2) fp) (nn_mul (pos_nn o1) fn) i2
  have j1 := zero_cancel o2 i3
  have j2 := zero_cancel o1 i4
  have idx : O p m n * d.x = (m - p).x * -(-(cr d (n - m))) - (n - m).x * cr d (m - p) := by
    unfold O
    apply Z.ext <;> simp only [cr, subx, suby, add_a, add_b, sub_a, sub_b, neg_a, neg_b, mul_a, mul_b, zero_a, zero_b] <;> grind
  have idy : O p m n * d.y = (m - p).y * -(-(cr d (n - m))) - (n - m).y * cr d (m - p) := by
    unfold O
    apply Z.ext <;> simp only [cr, subx, suby, add_a, add_b, sub_a, sub_b, neg_a, neg_b, mul_a, mul_b, zero_a, zero_b] <;> grind
  rw [j1, j2] at idx idy
  have zz : ∀ x y : Z, x * -(0 : Z) - y * 0 = 0 := fun x y => by (apply G.Z.ext <;> simp only [G.cr, G.subx, G.suby, G.add_a, G.add_b, G.sub_a, G.sub_b, G.neg_a, G.neg_b, G.mul_a, G.mul_b, G.zero_a, G.zero_b] <;> grind)
  rw [zz] at idx idy
  exact hd (V.ext (zero_cancel tu idx) (zero_cancel tu idy))
end Go.Proofs.YtloefohekhkehaaDoor.G
