/-
  What the reference's search for the next corner keeps. No walk.
-/
import Derived.Test.YtloefohekhkehaaDoorWrap1
import Derived.Test.YtloefohekhkehaaDoorMeet3
namespace Go.Proofs.YtloefohekhkehaaDoor
set_option linter.unusedVariables false
set_option linter.unusedSimpArgs false
open Go Go.ChangeShapes Go.WideShapes Go.ChangeAt Go.RowKit Go.Deep

/-- the search takes x in the place of y -/
def Tk (p y x : Pt) : Prop := orP p y x < 0 ∨ (orP p y x = 0 ∧ btB p y x = true ∧ x ≠ y ∧ x ≠ p)
theorem orP_back (p y : Pt) : orP p y p = 0 := by
  rw [orP_eq, G.sg3_zero]
  unfold G.O
  (apply G.Z.ext <;> simp only [G.cr, G.subx, G.suby, G.add_a, G.add_b, G.sub_a, G.sub_b, G.neg_a, G.neg_b, G.mul_a, G.mul_b, G.zero_a, G.zero_b] <;> grind)
theorem Tk.ne {p y x : Pt} (h : Tk p y x) : x ≠ p := by
  rintro rfl
  rcases h with h | h
  · rw [orP_back] at h; omega
  · exact h.2.2.2 rfl
theorem keep_q {xs : List Pt} {p q x : Pt} (e : G.E (xs.map vOf) (vOf p) (vOf q)) (hx : x ∈ xs) : ¬ Tk p q x := by
  obtain ⟨k1, k2⟩ := G.wrap_keep e (List.mem_map_of_mem hx)
  rintro (h | ⟨h1, h2, h3, h4⟩)
  · rw [orP_eq] at h; omega
  · rw [orP_eq] at h1
    exact k2 ⟨h1, (btB_iff _ _ _).1 h2, fun c => h3 (vOf_inj c), fun c => h4 (vOf_inj c)⟩
theorem take_q {xs : List Pt} {p y q : Pt} (e : G.E (xs.map vOf) (vOf p) (vOf q)) (hy : y ∈ xs) (hne : y ≠ q) : Tk p y q := by
  rcases G.wrap_take e (List.mem_map_of_mem hy) with h | ⟨h1, h2⟩
  · exact .inl (by rw [orP_eq]; exact h)
  · exact .inr ⟨by rw [orP_eq]; exact h1, (btB_iff _ _ _).2 h2, fun c => hne c.symm, fun c => e.2.1 (by rw [c])⟩
/-- what holds behind k points of the search from p, which lies at a, where the next is at n -/
def InI (xs : List Pt) (p : Pt) (a n k : Nat) : Prop :=
  ∃ y, xs[n]? = some y ∧ (n = a ∨ y ≠ p) ∧ (n = a → ∀ j z, j < k → xs[j]? = some z → z = p) ∧ ∀ q, G.E (xs.map vOf) (vOf p) (vOf q) → (∃ j, j < k ∧ xs[j]? = some q) → y = q
theorem InI.start {xs : List Pt} {p : Pt} {a : Nat} (h : xs[a]? = some p) : InI xs p a a 0 :=
  ⟨p, h, .inl rfl, fun _ j z hj => by omega, fun q _ ⟨j, hj, _⟩ => by omega⟩
theorem InI.take0 {xs : List Pt} {p x : Pt} {a k : Nat} (h : InI xs p a a k) (hx : xs[k]? = some x) (hne : x ≠ p) (ha : xs[a]? = some p) : InI xs p a k (k + 1) := by
  obtain ⟨y, h1, h2, h3, h4⟩ := h
  refine ⟨x, hx, .inr hne, fun e => ?_, fun q e ⟨j, hj, hq⟩ => ?_⟩
  · subst e
    rw [ha] at hx
    exact absurd (Option.some.inj hx).symm hne
  · rcases Nat.lt_or_eq_of_le (Nat.le_of_lt_succ hj) with c | rfl
    · have := h3 rfl j q c hq
      exact absurd (by rw [this]) e.2.1
    · exact Option.some.inj (hx.symm.trans hq)
theorem InI.keep0 {xs : List Pt} {p x : Pt} {a k : Nat} (h : InI xs p a a k) (hx : xs[k]? = some x) (he : x = p) : InI xs p a a (k + 1) := by
  obtain ⟨y, h1, h2, h3, h4⟩ := h
  refine ⟨y, h1, .inl rfl, fun _ j z hj hz => ?_, fun q e ⟨j, hj, hq⟩ => ?_⟩
  · rcases Nat.lt_or_eq_of_le (Nat.le_of_lt_succ hj) with c | rfl
    · exact h3 rfl j z c hz
    · rw [hx] at hz
      exact (Option.some.inj hz).symm.trans he
  · rcases Nat.lt_or_eq_of_le (Nat.le_of_lt_succ hj) with c | rfl
    · exact h4 q e ⟨j, c, hq⟩
    · have : x = q := Option.some.inj (hx.symm.trans hq)
      exact absurd (by rw [← this, he]) e.2.1
theorem InI.take {xs : List Pt} {p x y : Pt} {a n k : Nat} (h : InI xs p a n k) (hx : xs[k]? = some x) (hy : xs[n]? = some y) (ha : xs[a]? = some p) (ht : Tk p y x) : InI xs p a k (k + 1) := by
  obtain ⟨y', h1, h2, h3, h4⟩ := h
  obtain rfl : y' = y := Option.some.inj (h1.symm.trans hy)
  refine ⟨x, hx, .inr ht.ne, fun e => ?_, fun q e ⟨j, hj, hq⟩ => ?_⟩
  · subst e
    rw [ha] at hx
    exact absurd (Option.some.inj hx).symm ht.ne
  · rcases Nat.lt_or_eq_of_le (Nat.le_of_lt_succ hj) with c | rfl
    · obtain rfl := h4 q e ⟨j, c, hq⟩
      exact absurd ht (keep_q e (List.mem_of_getElem? hx))
    · exact Option.some.inj (hx.symm.trans hq)
theorem InI.keep {xs : List Pt} {p x y : Pt} {a n k : Nat} (h : InI xs p a n k) (hx : xs[k]? = some x) (hy : xs[n]? = some y) (hn : n ≠ a) (ht : ¬ Tk p y x) : InI xs p a n (k + 1) := by
  obtain ⟨y', h1, h2, h3, h4⟩ := h
  obtain rfl : y' = y := Option.some.inj (h1.symm.trans hy)
  refine ⟨y', h1, h2, fun e => absurd e hn, fun q e ⟨j, hj, hq⟩ => ?_⟩
  rcases Nat.lt_or_eq_of_le (Nat.le_of_lt_succ hj) with c | rfl
  · exact h4 q e ⟨j, c, hq⟩
  · obtain rfl : x = q := Option.some.inj (hx.symm.trans hq)
    exact Classical.byContradiction fun c => ht (take_q e (List.mem_of_getElem? h1) c)
theorem InI.found {xs : List Pt} {p q : Pt} {a n : Nat} (h : InI xs p a n xs.length) (e : G.E (xs.map vOf) (vOf p) (vOf q)) : xs[n]? = some q := by
  obtain ⟨y, h1, h2, h3, h4⟩ := h
  have hq : q ∈ xs := by
    obtain ⟨q', hq', e'⟩ := List.mem_map.1 e.1
    rw [← vOf_inj e']
    exact hq'
  obtain ⟨j, hj⟩ := List.mem_iff_getElem?.1 hq
  rw [h1, h4 q e ⟨j, (List.getElem?_eq_some_iff.1 hj).1, hj⟩]
theorem InI.alone {xs : List Pt} {p : Pt} {a n k : Nat} (h : InI xs p a n k) (hall : ∀ x ∈ xs, x = p) : n = a := by
  obtain ⟨y, h1, h2, _⟩ := h
  rcases h2 with h2 | h2
  · exact h2
  · exact absurd (hall y (List.mem_of_getElem? h1)) h2
/-- the least of the first k -/
def LeI (xs : List Pt) (f k : Nat) : Prop := ∃ y, xs[f]? = some y ∧ ∀ j z, j < k → xs[j]? = some z → cmpI y z ≤ 0
theorem LeI.keep {xs : List Pt} {f k : Nat} {x y : Pt} (h : LeI xs f k) (hx : xs[k]? = some x) (hy : xs[f]? = some y) (hc : ¬ cmpI x y < 0) : LeI xs f (k + 1) := by
  obtain ⟨y', h1, h2⟩ := h
  obtain rfl : y' = y := Option.some.inj (h1.symm.trans hy)
  refine ⟨y', h1, fun j z hj hz => ?_⟩
  rcases Nat.lt_or_eq_of_le (Nat.le_of_lt_succ hj) with c | rfl
  · exact h2 j z c hz
  · obtain rfl : x = z := Option.some.inj (hx.symm.trans hz)
    rw [cmpI_swap]
    omega
theorem LeI.take {xs : List Pt} {f k : Nat} {x y : Pt} (h : LeI xs f k) (hx : xs[k]? = some x) (hy : xs[f]? = some y) (hc : cmpI x y < 0) : LeI xs k (k + 1) := by
  obtain ⟨y', h1, h2⟩ := h
  obtain rfl : y' = y := Option.some.inj (h1.symm.trans hy)
  refine ⟨x, hx, fun j z hj hz => ?_⟩
  rcases Nat.lt_or_eq_of_le (Nat.le_of_lt_succ hj) with c | rfl
  · have h3 := h2 j z c hz
    rw [cmpI_le] at h3 ⊢
    exact ((cmpI_neg x y').1 hc).le.trans h3
  · obtain rfl : x = z := Option.some.inj (hx.symm.trans hz)
    have := (cmpI_zero x x).2 rfl
    omega
theorem LeI.first {xs : List Pt} {f : Nat} {a : Pt} {t : List Pt} (h : LeI xs f xs.length) (r : G.Run (xs.map vOf) (vOf a) (t.map vOf)) : xs[f]? = some a := by
  obtain ⟨y, h1, h2⟩ := h
  have ha : a ∈ xs := by
    obtain ⟨q', hq', e'⟩ := List.mem_map.1 r.1
    rw [← vOf_inj e']
    exact hq'
  obtain ⟨j, hj⟩ := List.mem_iff_getElem?.1 ha
  have h3 := h2 j a (List.getElem?_eq_some_iff.1 hj).1 hj
  rw [cmpI_le] at h3
  have h4 := r.2.1 (vOf y) (List.mem_map_of_mem (List.mem_of_getElem? h1))
  rw [h1, vOf_inj (h3.anti h4)]
end Go.Proofs.YtloefohekhkehaaDoor
