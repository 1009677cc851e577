/-
  The chain of the scan: what it keeps while points are pushed in their order. No Go, no program.
-/
import Derived.Test.YtloefohekhkehaaDoorHullA
namespace Go.Proofs.YtloefohekhkehaaDoor.G
set_option linter.unusedVariables false
set_option linter.unusedSimpArgs false
open Go.Proofs.YtloefohekhkehaaDoor.M


/-- the order of points -/
def L (a b : V) : Prop := H (b - a)
def Le (a b : V) : Prop := H0 (b - a)
def O (a b c : V) : Z := cr (b - a) (c - a)

theorem pos_add {x y : Z} (h : pos x) (k : nn y) : pos (x + y) := by
  refine pos_of (nn_add' (pos_nn h) k) fun e => ?_
  exact pos_ne h (add_zero_nn (pos_nn h) k e).1
theorem zadd_comm (x y : Z) : x + y = y + x := by (apply G.Z.ext <;> simp only [G.cr, G.subx, G.suby, G.add_a, G.add_b, G.sub_a, G.sub_b, G.neg_a, G.neg_b, G.mul_a, G.mul_b, G.zero_a, G.zero_b] <;> grind)
theorem sub_self_z (x : Z) : x - x = 0 := by (apply G.Z.ext <;> simp only [G.cr, G.subx, G.suby, G.add_a, G.add_b, G.sub_a, G.sub_b, G.neg_a, G.neg_b, G.mul_a, G.mul_b, G.zero_a, G.zero_b] <;> grind)
theorem L.irrefl {a : V} (h : L a a) : False := by
  unfold L H at h
  rw [subx, suby, sub_self_z, sub_self_z] at h
  rcases h with h | ⟨_, h⟩ <;> exact pos_ne h rfl
theorem L.trans {a b c : V} (h : L a b) (k : L b c) : L a c := by
  have ex : (c - a).x = (b - a).x + (c - b).x := by (apply G.Z.ext <;> simp only [G.cr, G.subx, G.suby, G.add_a, G.add_b, G.sub_a, G.sub_b, G.neg_a, G.neg_b, G.mul_a, G.mul_b, G.zero_a, G.zero_b] <;> grind)
  have ey : (c - a).y = (b - a).y + (c - b).y := by (apply G.Z.ext <;> simp only [G.cr, G.subx, G.suby, G.add_a, G.add_b, G.sub_a, G.sub_b, G.neg_a, G.neg_b, G.mul_a, G.mul_b, G.zero_a, G.zero_b] <;> grind)
  unfold L H at *
  rw [ex, ey]
  rcases h with h | ⟨h, h'⟩ <;> rcases k with k | ⟨k, k'⟩
  · exact .inl (pos_add h (pos_nn k))
  · rw [k]; exact .inl (pos_add h nn_zero)
  · rw [zadd_comm]; rw [h]; exact .inl (pos_add k nn_zero)
  · rw [h, k]; exact .inr ⟨rfl, pos_add h' (pos_nn k')⟩
theorem sub_zero_eq {a b : V} (h : b - a = 0) : a = b := by
  have hx : (b - a).x = 0 := by rw [h]; rfl
  have hy : (b - a).y = 0 := by rw [h]; rfl
  rw [subx] at hx
  rw [suby] at hy
  have t : ∀ x y : Z, x - y = 0 → y = x := fun x y e => Z.ext (by have := congrArg Z.a e; rw [sub_a, zero_a] at this; omega) (by have := congrArg Z.b e; rw [sub_b, zero_b] at this; omega)
  exact V.ext (t _ _ hx) (t _ _ hy)
theorem sub_self_v (a : V) : a - a = 0 := V.ext (sub_self_z _) (sub_self_z _)
theorem Le.refl (a : V) : Le a a := .inr (sub_self_v a)
theorem L.le {a b : V} (h : L a b) : Le a b := .inl h
theorem Le.or {a b : V} (h : Le a b) : L a b ∨ a = b := h.imp id sub_zero_eq
theorem Le.trans {a b c : V} (h : Le a b) (k : Le b c) : Le a c := by
  rcases h.or with h | rfl
  · rcases k.or with k | rfl
    · exact (h.trans k).le
    · exact h.le
  · exact k
theorem Le.anti {a b : V} (h : Le a b) (k : Le b a) : a = b := by
  rcases h.or with h | h
  · rcases k.or with k | k
    · exact (h.trans k).irrefl.elim
    · exact k.symm
  · exact h
theorem L.le_l {a b c : V} (h : L a b) (k : Le b c) : L a c := by
  rcases k.or with k | rfl
  · exact h.trans k
  · exact h
theorem Le.l_l {a b c : V} (h : Le a b) (k : L b c) : L a c := by
  rcases h.or with h | rfl
  · exact h.trans k
  · exact k
theorem L.ne {a b : V} (h : L a b) : a ≠ b := fun e => by subst e; exact h.irrefl
theorem total (a b : V) : L a b ∨ Le b a := by
  unfold L Le H0 H
  have e1 : (a - b).x = -(b - a).x := by (apply G.Z.ext <;> simp only [G.cr, G.subx, G.suby, G.add_a, G.add_b, G.sub_a, G.sub_b, G.neg_a, G.neg_b, G.mul_a, G.mul_b, G.zero_a, G.zero_b] <;> grind)
  have e2 : (a - b).y = -(b - a).y := by (apply G.Z.ext <;> simp only [G.cr, G.subx, G.suby, G.add_a, G.add_b, G.sub_a, G.sub_b, G.neg_a, G.neg_b, G.mul_a, G.mul_b, G.zero_a, G.zero_b] <;> grind)
  by_cases h : pos (b - a).x
  · exact .inl (.inl h)
  by_cases h2 : (b - a).x = 0
  · by_cases h3 : pos (b - a).y
    · exact .inl (.inr ⟨h2, h3⟩)
    · refine .inr ?_
      by_cases h4 : (b - a).y = 0
      · refine .inr (V.ext ?_ ?_)
        · rw [e1, h2]; rfl
        · rw [e2, h4]; rfl
      · refine .inl (.inr ⟨?_, ?_⟩)
        · rw [e1, h2]; rfl
        · rw [e2]
          refine pos_of (not_pos h3) fun e => h4 ?_
          exact Z.ext (by have := congrArg Z.a e; rw [neg_a, zero_a] at this; rw [zero_a]; omega) (by have := congrArg Z.b e; rw [neg_b, zero_b] at this; rw [zero_b]; omega)
  · refine .inr (.inl (.inl ?_))
    rw [e1]
    refine pos_of (not_pos h) fun e => h2 ?_
    exact Z.ext (by have := congrArg Z.a e; rw [neg_a, zero_a] at this; rw [zero_a]; omega) (by have := congrArg Z.b e; rw [neg_b, zero_b] at this; rw [zero_b]; omega)

/-- a turn that is strict in its first half -/
theorem turn_mixed {u v w : V} (hu : H u) (hv : H v) (hw : H w) (h1 : pos (cr w u)) (h2 : nn (cr u v)) : pos (cr w v) := by
  refine pos_of (turn_weak hu (.inl hv) (.inl hw) (pos_nn h1) h2) fun e => ?_
  have comm : ∀ x y : Z, x * y = y * x := fun x y => by (apply G.Z.ext <;> simp only [G.cr, G.subx, G.suby, G.add_a, G.add_b, G.sub_a, G.sub_b, G.neg_a, G.neg_b, G.mul_a, G.mul_b, G.zero_a, G.zero_b] <;> grind)
  have tx := tri_x u v w
  have ty := tri_y u v w
  rw [e, mul_zero_r] at tx ty
  obtain ⟨t1, t2⟩ := add_zero_nn (nn_mul hw.nnx h2) (nn_mul hv.nnx (pos_nn h1)) tx.symm
  have vx : v.x = 0 := zero_cancel h1 (by rw [comm]; exact t2)
  have vy : pos v.y := by
    rcases hv with hv | ⟨_, hv⟩
    · exact absurd vx (pos_ne hv)
    · exact hv
  -- then w goes straight up as well, or w.x * v.y is zero
  have e1 : cr w v = w.x * v.y := by unfold cr; rw [vx, mul_zero_r]; (apply G.Z.ext <;> simp only [G.cr, G.subx, G.suby, G.add_a, G.add_b, G.sub_a, G.sub_b, G.neg_a, G.neg_b, G.mul_a, G.mul_b, G.zero_a, G.zero_b] <;> grind)
  have wx : w.x = 0 := zero_cancel vy (by rw [comm, ← e1]; exact e)
  have wy : pos w.y := by
    rcases hw with hw | ⟨_, hw⟩
    · exact absurd wx (pos_ne hw)
    · exact hw
  have e3 : cr w u = -(w.y * u.x) := by unfold cr; rw [wx, zero_mul_l]; (apply G.Z.ext <;> simp only [G.cr, G.subx, G.suby, G.add_a, G.add_b, G.sub_a, G.sub_b, G.neg_a, G.neg_b, G.mul_a, G.mul_b, G.zero_a, G.zero_b] <;> grind)
  rw [e3] at h1
  have := nn_anti (nn_mul (pos_nn wy) hu.nnx) (pos_nn h1)
  rw [this] at h1
  exact absurd (by (apply G.Z.ext <;> simp only [G.cr, G.subx, G.suby, G.add_a, G.add_b, G.sub_a, G.sub_b, G.neg_a, G.neg_b, G.mul_a, G.mul_b, G.zero_a, G.zero_b] <;> grind)) (pos_ne h1)

/-- x is on the left of the way from a to b, or on it between the two -/
def Good (a b x : V) : Prop := nn (O a b x) ∧ (O a b x = 0 → Le a x ∧ Le x b)

/-- a chain over the points l, its last point first -/
def Ch (l : List V) : List V → Prop
  | [] => False
  | [a] => a ∈ l ∧ ∀ x ∈ l, Le a x
  | b :: a :: s => b ∈ l ∧ L a b ∧ (∀ x ∈ l, Good a b x) ∧ (∀ z ∈ s.head?, pos (O z a b)) ∧ Ch l (a :: s)

/-- what is left of a chain when p comes -/
def pops : List V → V → List V
  | [], _ => []
  | [a], _ => [a]
  | b :: a :: s, p => if sg3 (O a b p) ≤ 0 then pops (a :: s) p else b :: a :: s

theorem O_swap (a b c : V) : O a c b = -(O a b c) := by unfold O; (apply G.Z.ext <;> simp only [G.cr, G.subx, G.suby, G.add_a, G.add_b, G.sub_a, G.sub_b, G.neg_a, G.neg_b, G.mul_a, G.mul_b, G.zero_a, G.zero_b] <;> grind)
theorem O_self (a b : V) : O a b b = 0 := by unfold O; (apply G.Z.ext <;> simp only [G.cr, G.subx, G.suby, G.add_a, G.add_b, G.sub_a, G.sub_b, G.neg_a, G.neg_b, G.mul_a, G.mul_b, G.zero_a, G.zero_b] <;> grind)
theorem O_self' (a b : V) : O a b a = 0 := by unfold O; (apply G.Z.ext <;> simp only [G.cr, G.subx, G.suby, G.add_a, G.add_b, G.sub_a, G.sub_b, G.neg_a, G.neg_b, G.mul_a, G.mul_b, G.zero_a, G.zero_b] <;> grind)
/-- adding a point after all others to a chain that it leaves -/
theorem Ch.more {l : List V} {p : V} (hp : ∀ x ∈ l, L x p) : ∀ {s : List V} {a : V}, Ch l (a :: s) → (∀ z ∈ s.head?, pos (O z a p)) → Ch (p :: l) (a :: s)
  | [], a, h, _ => by
    refine ⟨List.mem_cons_of_mem _ h.1, fun x hx => ?_⟩
    rcases List.mem_cons.1 hx with rfl | hx
    · exact (hp _ h.1).le
    · exact h.2 x hx
  | z :: s, a, ⟨h1, h2, h3, h4, h5⟩, k => by
    have k1 : pos (O z a p) := k z (by simp)
    refine ⟨List.mem_cons_of_mem _ h1, h2, fun x hx => ?_, h4, ?_⟩
    · rcases List.mem_cons.1 hx with rfl | hx
      · exact ⟨pos_nn k1, fun e => absurd e (pos_ne k1)⟩
      · exact h3 x hx
    · refine Ch.more hp h5 fun y hy => ?_
      have g1 := h4 y hy
      -- y -> z -> a -> p
      have hyz : L y z := by
        cases s with
        | nil => simp at hy
        | cons y' s =>
          simp at hy
          subst hy
          exact h5.2.1
      have hz : z ∈ l := by
        cases s with
        | nil => simp at hy
        | cons y' s => exact h5.1
      have e1 : cr (z - y) (a - z) = O y z a := by unfold O; (apply G.Z.ext <;> simp only [G.cr, G.subx, G.suby, G.add_a, G.add_b, G.sub_a, G.sub_b, G.neg_a, G.neg_b, G.mul_a, G.mul_b, G.zero_a, G.zero_b] <;> grind)
      have e2 : cr (z - y) (p - z) = O y z p := by unfold O; (apply G.Z.ext <;> simp only [G.cr, G.subx, G.suby, G.add_a, G.add_b, G.sub_a, G.sub_b, G.neg_a, G.neg_b, G.mul_a, G.mul_b, G.zero_a, G.zero_b] <;> grind)
      have t := turn_strict (u := a - z) (v := p - z) (w := z - y) h2 (hp z hz) hyz (by rw [e1]; exact g1) k1
      rw [← e2]
      exact t

/-- what p leaves of a chain is a chain at whose end p turns left -/
theorem Ch.pops {l : List V} {p : V} (hp : ∀ x ∈ l, L x p) : ∀ {s : List V} {a : V}, Ch l (a :: s) → (∀ x ∈ l, Le a x → nn (O a p x)) →
    ∃ b t, pops (a :: s) p = b :: t ∧ Ch l (b :: t) ∧ (∀ x ∈ l, Le b x → nn (O b p x)) ∧ (∀ z ∈ t.head?, pos (O z b p))
  | [], a, h, k => ⟨a, [], rfl, h, k, fun z hz => by simp at hz⟩
  | z :: s, a, h, k => by
    unfold G.pops
    by_cases c : sg3 (O z a p) ≤ 0
    · rw [if_pos c]
      obtain ⟨h1, h2, h3, h4, h5⟩ := h
      have hz : z ∈ l := by
        cases s with
        | nil => exact h5.1
        | cons _ _ => exact h5.1
      refine Ch.pops hp h5 fun x hx hle => ?_
      have c1 : nn (O z p a) := by
        rw [O_swap]
        unfold nn
        rw [sg3_neg]
        omega
      exact turn_weak (u := a - z) (v := x - z) (w := p - z) h2 hle (.inl (hp z hz)) c1 (h3 x hx).1
    · rw [if_neg c]
      refine ⟨a, z :: s, rfl, h, k, fun y hy => ?_⟩
      simp at hy
      subst hy
      unfold pos
      omega

theorem Ch.mem_head {l : List V} {a : V} {s : List V} (h : Ch l (a :: s)) : a ∈ l := by
  cases s with
  | nil => exact h.1
  | cons _ _ => exact h.1

/-- pushing a point after all others -/
theorem Ch.push {l : List V} {p : V} (hp : ∀ x ∈ l, L x p) {s : List V} {a : V} (h : Ch l (a :: s)) (ha : ∀ x ∈ l, Le x a) : Ch (p :: l) (p :: G.pops (a :: s) p) := by
  obtain ⟨b, t, e, h1, h2, h3⟩ := Ch.pops hp h fun x hx hle => by
    have := hle.anti (ha x hx)
    subst this
    rw [O_self']
    exact nn_zero
  rw [e]
  have hb := h1.mem_head
  refine ⟨List.mem_cons_self, hp b hb, fun x hx => ?_, h3, h1.more hp h3⟩
  rcases List.mem_cons.1 hx with rfl | hx
  · exact ⟨by rw [O_self]; exact nn_zero, fun _ => ⟨(hp b hb).le, Le.refl _⟩⟩
  rcases total x b with c | c
  · -- before b: then b is not the first
    cases t with
    | nil => exact ((h1.2 x hx).l_l c).irrefl.elim
    | cons z t =>
      obtain ⟨_, g2, g3, _, _⟩ := h1
      have k1 : pos (O z b p) := h3 z (by simp)
      have k2 := (g3 x hx).1
      have q : pos (O b p x) := by
        refine Classical.byContradiction fun q => ?_
        have q1 := not_pos q
        have e1 : -(O b p x) = cr (p - b) (b - x) := by unfold O; (apply G.Z.ext <;> simp only [G.cr, G.subx, G.suby, G.add_a, G.add_b, G.sub_a, G.sub_b, G.neg_a, G.neg_b, G.mul_a, G.mul_b, G.zero_a, G.zero_b] <;> grind)
        rw [e1] at q1
        have e2 : cr (b - z) (p - b) = O z b p := by unfold O; (apply G.Z.ext <;> simp only [G.cr, G.subx, G.suby, G.add_a, G.add_b, G.sub_a, G.sub_b, G.neg_a, G.neg_b, G.mul_a, G.mul_b, G.zero_a, G.zero_b] <;> grind)
        have t1 := turn_mixed (u := p - b) (v := b - x) (w := b - z) (hp b hb) c g2 (by rw [e2]; exact k1) q1
        have e3 : cr (b - z) (b - x) = -(O z b x) := by unfold O; (apply G.Z.ext <;> simp only [G.cr, G.subx, G.suby, G.add_a, G.add_b, G.sub_a, G.sub_b, G.neg_a, G.neg_b, G.mul_a, G.mul_b, G.zero_a, G.zero_b] <;> grind)
        rw [e3] at t1
        have := nn_anti k2 (pos_nn t1)
        rw [this] at t1
        exact absurd (by (apply G.Z.ext <;> simp only [G.cr, G.subx, G.suby, G.add_a, G.add_b, G.sub_a, G.sub_b, G.neg_a, G.neg_b, G.mul_a, G.mul_b, G.zero_a, G.zero_b] <;> grind)) (pos_ne t1)
      exact ⟨pos_nn q, fun e => absurd e (pos_ne q)⟩
  · exact ⟨h2 x hx c, fun _ => ⟨c, (hp x hx).le⟩⟩

/-- the chain of points in their order -/
def scan (l : List V) : List V := l.foldl (fun s p => p :: G.pops s p) []
theorem Ch.scan_aux : ∀ (l d : List V) (a : V) (s : List V), Ch d (a :: s) → (∀ x ∈ d, Le x a) → l.Pairwise L → (∀ x ∈ d, ∀ y ∈ l, L x y) →
    ∃ b t, l.foldl (fun s p => p :: G.pops s p) (a :: s) = b :: t ∧ Ch (l.reverse ++ d) (b :: t) ∧ (∀ x ∈ l.reverse ++ d, Le x b)
  | [], d, a, s, h, ha, _, _ => ⟨a, s, rfl, by simpa using h, by simpa using ha⟩
  | p :: l, d, a, s, h, ha, hs, hl => by
    rw [List.pairwise_cons] at hs
    have hp : ∀ x ∈ d, L x p := fun x hx => hl x hx p List.mem_cons_self
    have t := Ch.scan_aux l (p :: d) p (G.pops (a :: s) p) (h.push hp ha) (fun x hx => by
      rcases List.mem_cons.1 hx with rfl | hx
      · exact Le.refl _
      · exact (hp x hx).le) hs.2 (fun x hx y hy => by
      rcases List.mem_cons.1 hx with rfl | hx
      · exact hs.1 y hy
      · exact hl x hx y (List.mem_cons_of_mem _ hy))
    rw [List.reverse_cons, List.append_assoc]
    exact t
theorem Ch.scan {l : List V} (h : l ≠ []) (hs : l.Pairwise L) : ∃ b t, scan l = b :: t ∧ Ch l.reverse (b :: t) ∧ ∀ x ∈ l, Le x b := by
  cases l with
  | nil => exact absurd rfl h
  | cons p l =>
    rw [List.pairwise_cons] at hs
    obtain ⟨b, t, e, h1, h2⟩ := Ch.scan_aux l [p] p [] ⟨by simp, fun x hx => by simp at hx; subst hx; exact Le.refl _⟩ (fun x hx => by simp at hx; subst hx; exact Le.refl _) hs.2 (fun x hx y hy => by simp at hx; subst hx; exact hs.1 y hy)
    refine ⟨b, t, e, by simpa using h1, fun x hx => h2 x ?_⟩
    simp at hx ⊢
    exact hx.symm
end Go.Proofs.YtloefohekhkehaaDoor.G
