/-
  What holds of the corners of a hull, one by one.
-/
import Derived.Test.YtloefohekhkehaaDoorHull2
namespace Go.Proofs.YtloefohekhkehaaDoor
set_option linter.unusedVariables false
set_option linter.unusedSimpArgs false
open Go Go.ChangeShapes Go.WideShapes Go.ChangeAt Go.RowKit Go.Deep

theorem path_at {l : List G.V} : ∀ {p : List G.V} {i : Nat} {x y : G.V}, G.Path l p → p[i]? = some x → p[i + 1]? = some y → G.E l x y
  | a :: b :: s, 0, x, y, h, hx, hy => by
    simp at hx hy
    subst hx
    subst hy
    exact h.1
  | a :: b :: s, i + 1, x, y, h, hx, hy => path_at (p := b :: s) h.2 (by simpa using hx) (by simpa using hy)
  | [_], 0, _, _, _, _, hy => by simp at hy
  | [_], _ + 1, _, _, _, hx, _ => by simp at hx
  | [], _, _, _, _, hx, _ => by simp at hx
/-- the corners, around: the place behind the last is the first -/
theorem around_at {α : Type} (a : α) (t : List α) (i : Nat) (hi : i < (a :: t).length) (x : α) (hx : (a :: t)[(i + 1) % (a :: t).length]? = some x) : (a :: t ++ [a])[i + 1]? = some x := by
  by_cases c : i + 1 < (a :: t).length
  · rw [Nat.mod_eq_of_lt c] at hx
    rw [List.getElem?_append_left c]
    exact hx
  · have e : i + 1 = (a :: t).length := by omega
    rw [e, Nat.mod_self] at hx
    simp at hx
    subst hx
    rw [e, List.getElem?_append_right (Nat.le_refl _)]
    simp
theorem next_E {l : List G.V} {a : G.V} {t : List G.V} (r : G.Run l a t) (ht : t ≠ []) {i : Nat} {x y : G.V} (hx : (a :: t)[i]? = some x) (hy : (a :: t)[(i + 1) % (a :: t).length]? = some y) : G.E l x y := by
  have hi : i < (a :: t).length := (List.getElem?_eq_some_iff.1 hx).1
  rcases r.2.2.2.2 with ⟨e, _⟩ | ⟨_, p⟩
  · exact absurd e ht
  · refine path_at (p := a :: t ++ [a]) p ?_ (around_at a t i hi y hy)
    rw [List.getElem?_append_left hi]
    exact hx
theorem orP_nonneg {xs ys : List Pt} {p q x : Pt} {i : Nat} (h : HullRes xs ys) (hp : ys[i]? = some p) (hq : ys[(i + 1) % ys.length]? = some q) (hx : x ∈ xs) : 0 ≤ orP p q x := by
  rcases h with ⟨_, rfl⟩ | ⟨_, a, t, rfl, r⟩
  · simp at hp
  · rw [orP_eq]
    by_cases ht : t = []
    · subst ht
      have hi : i = 0 := by have := (List.getElem?_eq_some_iff.1 hp).1; simp at this; omega
      subst hi
      simp at hp hq
      subst hp
      subst hq
      have : G.O (vOf a) (vOf a) (vOf x) = 0 := by unfold G.O; (apply G.Z.ext <;> simp only [G.cr, G.subx, G.suby, G.add_a, G.add_b, G.sub_a, G.sub_b, G.neg_a, G.neg_b, G.mul_a, G.mul_b, G.zero_a, G.zero_b] <;> grind)
      rw [this, G.sg3_zero.2 rfl]
      exact Int.le_refl _
    · have e := next_E r (x := vOf p) (y := vOf q) (i := i) (by simpa using ht) (by rw [← List.map_cons, List.getElem?_map, hp]; rfl) (by rw [← List.map_cons, List.getElem?_map, List.length_map, hq]; rfl)
      exact (e.2.2 _ (List.mem_map_of_mem hx)).1
theorem HullRes.mem {xs ys : List Pt} (h : HullRes xs ys) : ∀ p ∈ ys, p ∈ xs := by
  rcases h with ⟨_, rfl⟩ | ⟨_, a, t, rfl, r⟩
  · simp
  · intro p hp
    have : vOf p ∈ xs.map vOf := by
      rcases List.mem_cons.1 hp with rfl | hp
      · exact r.1
      · exact r.2.2.2.1 _ (List.mem_map_of_mem hp)
    obtain ⟨q, hq, e⟩ := List.mem_map.1 this
    rw [← vOf_inj e]
    exact hq
theorem orP_turn {xs ys : List Pt} {p q s : Pt} {i : Nat} (h : HullRes xs ys) (h2 : 2 < ys.length) (hp : ys[i]? = some p) (hq : ys[(i + 1) % ys.length]? = some q) (hs : ys[(i + 2) % ys.length]? = some s) : orP p q s = 1 := by
  have hm := h.mem
  rcases h with ⟨_, rfl⟩ | ⟨_, a, t, rfl, r⟩
  · simp at hp
  · have ht : t.map vOf ≠ [] := by
      intro e
      simp at e
      subst e
      simp at h2
    have hi := (List.getElem?_eq_some_iff.1 hp).1
    have e1 := next_E r (x := vOf p) (y := vOf q) (i := i) ht (by rw [← List.map_cons, List.getElem?_map, hp]; rfl) (by rw [← List.map_cons, List.getElem?_map, List.length_map, hq]; rfl)
    have e2 := next_E r (x := vOf q) (y := vOf s) (i := (i + 1) % (a :: t).length) ht (by rw [← List.map_cons, List.getElem?_map, hq]; rfl) (by
      rw [← List.map_cons, List.getElem?_map, List.length_map, show ((i + 1) % (a :: t).length + 1) % (a :: t).length = (i + 2) % (a :: t).length by rw [Nat.mod_add_mod]]
      rw [hs]; rfl)
    have hne : vOf p ≠ vOf s := by
      intro e
      have nd := r.nodup
      rw [← List.map_cons] at nd
      have hj := (List.getElem?_eq_some_iff.1 hs).1
      have g1 : ((a :: t).map vOf)[i]? = some (vOf p) := by rw [List.getElem?_map, hp]; rfl
      have g2 : ((a :: t).map vOf)[(i + 2) % (a :: t).length]? = some (vOf p) := by rw [List.getElem?_map, hs, e]; rfl
      obtain ⟨b1, g1⟩ := List.getElem?_eq_some_iff.1 g1
      obtain ⟨b2, g2⟩ := List.getElem?_eq_some_iff.1 g2
      have key := List.pairwise_iff_getElem.1 nd
      have hij : i ≠ (i + 2) % (a :: t).length := by
        by_cases c : i + 2 < (a :: t).length
        · rw [Nat.mod_eq_of_lt c]; omega
        · rw [Nat.mod_eq_sub_mod (by omega), Nat.mod_eq_of_lt (by omega)]; omega
      rcases Nat.lt_or_gt_of_ne hij with c | c
      · exact key i _ b1 b2 c (g1.trans g2.symm)
      · exact key _ i b2 b1 c (g2.trans g1.symm)
    have tu := e1.turn e2 (List.mem_map_of_mem (hm p (List.mem_of_getElem? hp))) hne
    rw [orP_eq]
    unfold G.pos at tu
    rcases G.sg3_range (G.O (vOf p) (vOf q) (vOf s)) with k | k | k <;> omega
theorem HullRes.again {xs ys : List Pt} (h : HullRes xs ys) (h0 : ckP xs = 0) : ckP ys = 0 ∧ HullRes ys ys ∧ 0 < ys.length ∧ ys.length ≤ 24 := by
  obtain ⟨k1, k2, k3⟩ := ckP_zero h0
  have hm := h.mem
  rcases h with ⟨h, _⟩ | ⟨_, a, t, rfl, r⟩
  · exact absurd h0 h
  · have hl := r.length
    simp at hl
    have hz : ckP (a :: t) = 0 := by
      unfold ckP ckE
      simp only [List.any_cons, List.any_nil, Bool.or_false]
      rw [if_neg (by simp [badLen]; omega), if_neg]
      intro c
      replace c : (a :: t).any (fun p => !pB p) = true := c
      rw [List.any_eq_true] at c
      obtain ⟨p, hp, c⟩ := c
      rw [k3 p (hm p hp)] at c
      cases c
    exact ⟨hz, .inr ⟨hz, a, t, rfl, r.self⟩, by simp, by simp; omega⟩
end Go.Proofs.YtloefohekhkehaaDoor
