/-
  The way around points, from each corner to the next: there is at most one. No Go, no program.
-/
import Derived.Test.YtloefohekhkehaaDoorHullB
namespace Go.Proofs.YtloefohekhkehaaDoor.G
set_option linter.unusedVariables false
set_option linter.unusedSimpArgs false
open Go.Proofs.YtloefohekhkehaaDoor.M

/-- x is between p and q -/
def Bt (p x q : V) : Prop := (Le p x ∧ Le x q) ∨ (Le q x ∧ Le x p)
/-- the next corner -/
def E (l : List V) (p q : V) : Prop := q ∈ l ∧ p ≠ q ∧ ∀ x ∈ l, nn (O p q x) ∧ (O p q x = 0 → Bt p x q)

theorem E.uniq {l : List V} {p q r : V} (h : E l p q) (k : E l p r) : q = r := by
  obtain ⟨h1, h2, h3⟩ := h
  obtain ⟨k1, k2, k3⟩ := k
  obtain ⟨a1, a2⟩ := h3 r k1
  obtain ⟨b1, b2⟩ := k3 q h1
  have z1 : O p q r = 0 := nn_anti a1 (by rw [← O_swap]; exact b1)
  have z2 : O p r q = 0 := by rw [O_swap, z1]; (apply G.Z.ext <;> simp only [G.cr, G.subx, G.suby, G.add_a, G.add_b, G.sub_a, G.sub_b, G.neg_a, G.neg_b, G.mul_a, G.mul_b, G.zero_a, G.zero_b] <;> grind)
  have c1 := a2 z1
  have c2 := b2 z2
  rcases c1 with ⟨c1, d1⟩ | ⟨c1, d1⟩ <;> rcases c2 with ⟨c2, d2⟩ | ⟨c2, d2⟩
  · exact d2.anti d1
  · exact absurd (c1.anti (c2.trans d2)) k2
  · exact absurd (c2.anti (c1.trans d1)) h2
  · exact c1.anti c2

/-- from each to the next -/
def Path (l : List V) : List V → Prop
  | a :: b :: s => E l a b ∧ Path l (b :: s)
  | _ => True

theorem Path.tail {l : List V} {a : V} {s : List V} (h : Path l (a :: s)) : Path l s := by
  cases s with
  | nil => trivial
  | cons b s => exact h.2
theorem Path.drop {l : List V} : ∀ (p : List V) {s : List V}, Path l (p ++ s) → Path l s
  | [], _, h => h
  | a :: p, _, h => Path.drop p (Path.tail (a := a) h)
theorem Path.take {l : List V} : ∀ (p : List V) {s : List V}, Path l (p ++ s) → Path l p
  | [], _, _ => trivial
  | [a], _, _ => trivial
  | a :: b :: p, s, h => ⟨h.1, Path.take (b :: p) h.2⟩
theorem Path.join {l : List V} {m : V} {y : List V} (k : Path l (m :: y)) : ∀ (x : List V), Path l (x ++ [m]) → Path l (x ++ m :: y)
  | [], _ => k
  | [a], h => ⟨h.1, k⟩
  | a :: b :: x, h => ⟨h.1, Path.join k (b :: x) h.2⟩
theorem Path.mono {l k : List V} : ∀ {s : List V}, Path l s → (∀ x ∈ k, x ∈ l) → (∀ x ∈ s, x ∈ k) → Path k s
  | [], _, _, _ => trivial
  | [a], _, _, _ => trivial
  | a :: b :: s, h, h1, h2 => ⟨⟨h2 b (by simp), h.1.2.1, fun x hx => h.1.2.2 x (h1 x hx)⟩, Path.mono h.2 h1 fun x hx => h2 x (List.mem_cons_of_mem _ hx)⟩

theorem Path.uniq {l : List V} {a : V} : ∀ (u : List V) {v : List V} {x : V}, Path l (x :: (u ++ [a])) → Path l (x :: (v ++ [a])) → a ∉ u → a ∉ v → u = v
  | [], [], _, _, _, _, _ => rfl
  | [], y :: v, x, h, k, _, hv => by
    have := h.1.uniq k.1
    subst this
    exact absurd List.mem_cons_self hv
  | y :: u, [], x, h, k, hu, _ => by
    have := h.1.uniq k.1
    subst this
    exact absurd List.mem_cons_self hu
  | y :: u, z :: v, x, h, k, hu, hv => by
    have := h.1.uniq k.1
    subst this
    rw [Path.uniq u h.2 k.2 (fun m => hu (List.mem_cons_of_mem _ m)) (fun m => hv (List.mem_cons_of_mem _ m))]

theorem Path.fresh {l : List V} {a x : V} {s : List V} (h : Path l (x :: (s ++ [a]))) (ha : a ∉ s) : x ∉ s := by
  intro hx
  obtain ⟨p, r, e⟩ := List.append_of_mem hx
  subst e
  have k : Path l (x :: (r ++ [a])) := by
    refine Path.drop (x :: p) (s := x :: (r ++ [a])) ?_
    simpa using h
  have := congrArg List.length (h.uniq (p ++ x :: r) k ha fun m => ha (by simp [m]))
  simp at this
  omega
theorem Path.nodup {l : List V} {a : V} : ∀ {s : List V} {x : V}, Path l (x :: (s ++ [a])) → a ∉ s → (x :: s).Nodup
  | [], x, _, _ => by simp
  | y :: s, x, h, ha => List.nodup_cons.2 ⟨h.fresh ha, Path.nodup h.2 fun m => ha (List.mem_cons_of_mem _ m)⟩

/-- a way around: a first corner, the others, and back -/
def Run (l : List V) (a : V) (s : List V) : Prop :=
  a ∈ l ∧ (∀ x ∈ l, Le a x) ∧ a ∉ s ∧ (∀ x ∈ s, x ∈ l) ∧ ((s = [] ∧ ∀ x ∈ l, x = a) ∨ (s ≠ [] ∧ Path l (a :: (s ++ [a]))))

theorem Run.uniq {l : List V} {a b : V} {s t : List V} (h : Run l a s) (k : Run l b t) : a = b ∧ s = t := by
  obtain ⟨h1, h2, h3, h0, h4⟩ := h
  obtain ⟨k1, k2, k3, k0, k4⟩ := k
  have e : a = b := (h2 b k1).anti (k2 a h1)
  subst e
  refine ⟨rfl, ?_⟩
  rcases h4 with ⟨rfl, h4⟩ | ⟨hn, h4⟩ <;> rcases k4 with ⟨rfl, k4⟩ | ⟨kn, k4⟩
  · rfl
  · cases t with
    | nil => rfl
    | cons y t => exact absurd (h4 y k4.1.1) fun e => k3 (by rw [e]; exact List.mem_cons_self)
  · cases s with
    | nil => rfl
    | cons y t => exact absurd (k4 y h4.1.1) fun e => h3 (by rw [e]; exact List.mem_cons_self)
  · exact h4.uniq _ k4 h3 k3
theorem Run.mono {l k : List V} {a : V} {s : List V} (h : Run l a s) (h1 : ∀ x ∈ k, x ∈ l) (ha : a ∈ k) (h2 : ∀ x ∈ s, x ∈ k) : Run k a s := by
  obtain ⟨_, g2, g3, _, g4⟩ := h
  refine ⟨ha, fun x hx => g2 x (h1 x hx), g3, h2, ?_⟩
  rcases g4 with ⟨e, g4⟩ | ⟨e, g4⟩
  · exact .inl ⟨e, fun x hx => g4 x (h1 x hx)⟩
  · refine .inr ⟨e, g4.mono h1 fun x hx => ?_⟩
    simp at hx
    rcases hx with rfl | hx | rfl
    · exact ha
    · exact h2 x hx
    · exact ha
theorem Run.self {l : List V} {a : V} {s : List V} (h : Run l a s) : Run (a :: s) a s := by
  refine h.mono (fun x hx => ?_) List.mem_cons_self fun x hx => List.mem_cons_of_mem _ hx
  rcases List.mem_cons.1 hx with rfl | hx
  · exact h.1
  · exact h.2.2.2.1 x hx
theorem Run.congr {l k : List V} {a : V} {s : List V} (h : Run l a s) (hk : ∀ x, x ∈ k ↔ x ∈ l) : Run k a s :=
  h.mono (fun x hx => (hk x).1 hx) ((hk a).2 h.1) fun x hx => (hk x).2 (h.2.2.2.1 x hx)
theorem Run.nodup {l : List V} {a : V} {s : List V} (h : Run l a s) : (a :: s).Nodup := by
  rcases h.2.2.2.2 with ⟨rfl, _⟩ | ⟨_, k⟩
  · simp
  · exact k.nodup h.2.2.1
theorem nodup_len : ∀ {s l : List V}, s.Nodup → (∀ x ∈ s, x ∈ l) → s.length ≤ l.length
  | [], _, _, _ => Nat.zero_le _
  | x :: s, l, h, k => by
    obtain ⟨p, q, e⟩ := List.append_of_mem (k x List.mem_cons_self)
    subst e
    rw [List.nodup_cons] at h
    have := nodup_len (l := p ++ q) h.2 fun y hy => by
      have := k y (List.mem_cons_of_mem _ hy)
      simp at this ⊢
      rcases this with t | t | t
      · exact .inl t
      · exact absurd (t ▸ hy) h.1
      · exact .inr t
    simp at this ⊢
    omega
theorem Run.length {l : List V} {a : V} {s : List V} (h : Run l a s) : s.length + 1 ≤ l.length := by
  have := nodup_len h.nodup fun x hx => by
    rcases List.mem_cons.1 hx with rfl | hx
    · exact h.1
    · exact h.2.2.2.1 x hx
  simpa using this

/-- the corner that follows the next -/
theorem E.turn {l : List V} {p q r : V} (h : E l p q) (k : E l q r) (hp : p ∈ l) (hpr : p ≠ r) : pos (O p q r) := by
  obtain ⟨a1, a2⟩ := h.2.2 r k.1
  obtain ⟨b1, b2⟩ := k.2.2 p hp
  refine pos_of a1 fun e => ?_
  have z : O q r p = 0 := by
    have : O q r p = O p q r := by unfold O; (apply G.Z.ext <;> simp only [G.cr, G.subx, G.suby, G.add_a, G.add_b, G.sub_a, G.sub_b, G.neg_a, G.neg_b, G.mul_a, G.mul_b, G.zero_a, G.zero_b] <;> grind)
    rw [this]; exact e
  have hqr : q ≠ r := k.2.1
  have hpq : p ≠ q := h.2.1
  rcases a2 e with ⟨c1, d1⟩ | ⟨c1, d1⟩ <;> rcases b2 z with ⟨c2, d2⟩ | ⟨c2, d2⟩
  · exact hpr (c1.anti (d1.trans c2))
  · exact hpr (c1.anti c2)
  · exact hpr (d2.anti d1)
  · exact hpr ((d2.trans c1).anti d1)
end Go.Proofs.YtloefohekhkehaaDoor.G
