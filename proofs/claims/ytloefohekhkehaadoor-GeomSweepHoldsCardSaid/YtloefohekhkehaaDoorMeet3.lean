/-
  GeomMeetsMore: what holds of what Meets gives.
-/
import Derived.Test.YtloefohekhkehaaDoorMeet2
namespace Go.Proofs.YtloefohekhkehaaDoor
set_option linter.unusedVariables false
set_option linter.unusedSimpArgs false
open Go Go.ChangeShapes Go.WideShapes Go.ChangeAt Go.RowKit Go.Deep

theorem ckP_ne {xs : List Pt} (h : ckP xs = 0) : xs.map vOf ≠ [] := by
  have := (ckP_zero h).1
  intro e
  simp at e
  subst e
  simp at this
/-- a way around points is one of points -/
theorem run_pts {xs : List Pt} (h : xs.map vOf ≠ []) : ∃ (a : Pt) (t : List Pt), G.Run (xs.map vOf) (vOf a) (t.map vOf) := by
  obtain ⟨a, s, r⟩ := G.exists_run h
  have ha : ∃ p, vOf p = a := by obtain ⟨p, _, e⟩ := List.mem_map.1 r.1; exact ⟨p, e⟩
  have hs : ∀ s : List G.V, (∀ x ∈ s, x ∈ xs.map vOf) → ∃ t : List Pt, t.map vOf = s := by
    intro s
    induction s with
    | nil => intro _; exact ⟨[], rfl⟩
    | cons x s ih =>
      intro h
      obtain ⟨t, ht⟩ := ih fun y hy => h y (List.mem_cons_of_mem _ hy)
      obtain ⟨p, _, e⟩ := List.mem_map.1 (h x (by simp))
      exact ⟨p :: t, by rw [List.map_cons, ht, e]⟩
  obtain ⟨p, rfl⟩ := ha
  obtain ⟨t, rfl⟩ := hs s r.2.2.2.1
  exact ⟨p, t, r⟩
theorem MeetsRes.ex (xs ys : List Pt) : ∃ b e, MeetsRes xs ys b e := by
  by_cases h : ckP2 xs ys = 0
  · obtain ⟨h1, h2⟩ := ckP2_zero.1 h
    obtain ⟨a, t, r⟩ := run_pts (ckP_ne h1)
    obtain ⟨u, s, q⟩ := run_pts (ckP_ne h2)
    by_cases c : s.length < 2
    · exact ⟨false, 6, .inr ⟨h, a, t, u, s, r, q, .inl ⟨c, rfl, rfl⟩⟩⟩
    · rcases Classical.em (G.Meet ((a :: t).map vOf) ((u :: s).map vOf)) with m | m
      · exact ⟨true, 0, .inr ⟨h, a, t, u, s, r, q, .inr ⟨by omega, rfl, by simp only [true_iff]; exact m⟩⟩⟩
      · exact ⟨false, 0, .inr ⟨h, a, t, u, s, r, q, .inr ⟨by omega, rfl, by simp only [Bool.false_eq_true, false_iff]; exact m⟩⟩⟩
  · exact ⟨false, _, .inl ⟨h, rfl, rfl⟩⟩
theorem run_same {l : List G.V} {a b : Pt} {s t : List Pt} (h : G.Run l (vOf a) (s.map vOf)) (k : G.Run l (vOf b) (t.map vOf)) : a = b ∧ s = t := by
  obtain ⟨e1, e2⟩ := h.uniq k
  exact ⟨vOf_inj e1, (List.map_inj_right (fun _ _ => vOf_inj)).1 e2⟩
theorem MeetsRes.uniq {xs ys : List Pt} {b b' : Bool} {e e' : Int} (h : MeetsRes xs ys b e) (k : MeetsRes xs ys b' e') : b = b' ∧ e = e' := by
  rcases h with ⟨h, rfl, rfl⟩ | ⟨h, a, t, u, s, r, q, m⟩ <;> rcases k with ⟨k, rfl, rfl⟩ | ⟨k, a', t', u', s', r', q', m'⟩
  · exact ⟨rfl, rfl⟩
  · exact absurd k h
  · exact absurd h k
  · obtain ⟨rfl, rfl⟩ := run_same r r'
    obtain ⟨rfl, rfl⟩ := run_same q q'
    rcases m with ⟨c, rfl, rfl⟩ | ⟨c, rfl, m⟩ <;> rcases m' with ⟨c', rfl, rfl⟩ | ⟨c', rfl, m'⟩
    · exact ⟨rfl, rfl⟩
    · omega
    · omega
    · exact ⟨by rw [Bool.eq_iff_iff, m, m'], rfl⟩
/-- what it is to meet -/
theorem MeetsRes.zero {xs ys : List Pt} {b : Bool} (h : MeetsRes xs ys b 0) : ckP xs = 0 ∧ ckP ys = 0 ∧ ∃ a t u s, G.Run (xs.map vOf) (vOf a) (t.map vOf) ∧ G.Run (ys.map vOf) (vOf u) (s.map vOf) ∧ 2 ≤ s.length ∧ (b = true ↔ G.Meet ((a :: t).map vOf) ((u :: s).map vOf)) := by
  rcases h with ⟨h, e, _⟩ | ⟨h, a, t, u, s, r, q, ⟨_, e, _⟩ | ⟨c, _, m⟩⟩
  · exact absurd e.symm h
  · omega
  · exact ⟨(ckP2_zero.1 h).1, (ckP2_zero.1 h).2, a, t, u, s, r, q, c, m⟩
theorem MeetsRes.no {xs ys : List Pt} {b : Bool} {e : Int} (h : MeetsRes xs ys b e) (he : e ≠ 0) : b = false := by
  rcases h with ⟨_, _, h⟩ | ⟨_, _, _, _, _, _, _, ⟨_, _, h⟩ | ⟨_, h, _⟩⟩
  · exact h
  · exact h
  · exact absurd h he
theorem more_hull {xs ys hs : List Pt} {b : Bool} (h : MeetsRes xs ys b 0) (k : HullRes xs hs) : MeetsRes hs ys b 0 := by
  obtain ⟨h1, h2, a, t, u, s, r, q, c, m⟩ := h.zero
  obtain ⟨k1, k2, _, _⟩ := k.again h1
  rcases k with ⟨k, _⟩ | ⟨_, a', t', rfl, r'⟩
  · exact absurd h1 k
  · obtain ⟨rfl, rfl⟩ := run_same r r'
    rcases k2 with ⟨k2, _⟩ | ⟨_, a2, t2, e, r2⟩
    · exact absurd k1 k2
    · cases e
      exact .inr ⟨ckP2_zero.2 ⟨k1, h2⟩, a, t, u, s, r2, q, .inr ⟨c, rfl, m⟩⟩
theorem more_back {xs ys : List Pt} {b b' : Bool} (h : MeetsRes xs ys b 0) (k : MeetsRes ys xs b' 0) : b' = b := by
  obtain ⟨_, _, a, t, u, s, r, q, c, m⟩ := h.zero
  obtain ⟨_, _, a', t', u', s', r', q', c', m'⟩ := k.zero
  obtain ⟨rfl, rfl⟩ := run_same r q'
  obtain ⟨rfl, rfl⟩ := run_same q r'
  rw [Bool.eq_iff_iff, m, m', G.Meet.symm]
theorem more_of {xs zs ys : List Pt} {b b' : Bool} (h : MeetsRes xs ys b 0) (k : MeetsRes zs ys b' 0) (hm : ∀ p ∈ xs, p ∈ zs) (hb : b = true) : b' = true := by
  obtain ⟨_, _, a, t, u, s, r, q, c, m⟩ := h.zero
  obtain ⟨_, _, a', t', u', s', r', q', c', m'⟩ := k.zero
  obtain ⟨rfl, rfl⟩ := run_same q q'
  have ht : s.map vOf ≠ [] := by intro e; simp at e; subst e; simp at c
  refine m'.2 ?_
  have := G.Meet.more r r' q ht (fun x hx => by
    obtain ⟨p, hp, e⟩ := List.mem_map.1 hx
    exact e ▸ List.mem_map_of_mem (hm p hp)) (by simpa using m.1 hb)
  simpa using this
theorem more_one {xs ys : List Pt} {p : Pt} {b b' : Bool} {e : Int} (h : MeetsRes xs ys b 0) (k : MeetsRes [p] ys true 0) (hl : xs.length < 24) (m : MeetsRes (xs ++ [p]) ys b' e) : b' = true := by
  obtain ⟨h1, h2, a, t, u, s, r, q, c, _⟩ := h.zero
  obtain ⟨k1, _, _⟩ := k.zero
  obtain ⟨a1, a2, a3⟩ := ckP_zero h1
  obtain ⟨b1, b2, b3⟩ := ckP_zero k1
  have hz : ckP (xs ++ [p]) = 0 := by
    unfold ckP ckE
    simp only [List.any_cons, List.any_nil, Bool.or_false]
    rw [if_neg (by simp [badLen]; omega), if_neg]
    intro w
    obtain ⟨x, hx, hn⟩ := List.any_eq_true.1 w
    rcases List.mem_append.1 hx with hx | hx
    · rw [a3 x hx] at hn; simp at hn
    · rw [b3 x hx] at hn; simp at hn
  have he : e = 0 := by
    rcases m with ⟨m, _, _⟩ | ⟨_, a', t', u', s', _, q', ⟨c', _, _⟩ | ⟨_, m, _⟩⟩
    · exact absurd (ckP2_zero.2 ⟨hz, h2⟩) m
    · obtain ⟨rfl, rfl⟩ := run_same q q'
      omega
    · exact m
  subst he
  exact more_of k m (fun x hx => List.mem_append_right _ hx) rfl
end Go.Proofs.YtloefohekhkehaaDoor
