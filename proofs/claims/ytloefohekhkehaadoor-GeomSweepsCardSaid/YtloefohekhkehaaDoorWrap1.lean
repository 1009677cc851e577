/-
  What the reference's order of points and 'between' return.
-/
import Derived.Test.YtloefohekhkehaaDoorCmp
import Derived.Test.YtloefohekhkehaaDoorHullE
namespace Go.Proofs.YtloefohekhkehaaDoor
set_option linter.unusedVariables false
set_option linter.unusedSimpArgs false
open Go Go.ChangeShapes Go.WideShapes Go.ChangeAt Go.RowKit Go.Deep

theorem rcompare_pts (p q : Pt) (w : World) (hp : PIn p) (hq : PIn q) :
    Calls Tryd.prog 32 #[pv p, pv q] w fun e w' => e = .returned (iv (cmpI p q)) ∧ Gr w w' := by
  obtain ⟨a, b, c, d⟩ := p
  obtain ⟨e, f, g, h⟩ := q
  obtain ⟨p1, p2, p3, p4⟩ := hp
  obtain ⟨q1, q2, q3, q4⟩ := hq
  dsimp only at p1 p2 p3 p4 q1 q2 q3 q4
  have s1 := (p1.sub q1).mono (m := 16384) (by omega)
  have s2 := (p2.sub q2).mono (m := 16384) (by omega)
  have s3 := (p3.sub q3).mono (m := 16384) (by omega)
  have s4 := (p4.sub q4).mono (m := 16384) (by omega)
  by_cases hz : M.sgn (a - e) (b - f) = 0
  · have hr : cmpI (a, b, c, d) (e, f, g, h) = M.sgn (c - g) (d - h) := by unfold cmpI; rw [if_neg (by simp [hz])]
    have HR := hide hr
    have hzb : (M.sgn (a - e) (b - f) == 0) = true := by simp [hz]
    clear hr hz
    go_enter Tryd.func32, Tryd.ntmps32
    go_wp2_with (first
      | (go_at_call 29; refine (rminus_any _ _ _ _ _ (by apply Lim.mono; with_reducible assumption; decide) (by apply Lim.mono; with_reducible assumption; decide) (by apply Lim.mono; with_reducible assumption; decide) (by apply Lim.mono; with_reducible assumption; decide)).mono ?_; rintro e w1 ⟨rfl, g1⟩; obtain ⟨X1, Y1, c1, f1⟩ := g1.use)
      | (go_at_call 44; refine (rsign_any _ _ _ (by apply Lim.mono; with_reducible assumption; decide) (by apply Lim.mono; with_reducible assumption; decide)).mono ?_; rintro e w1 ⟨rfl, g1⟩; obtain ⟨X1, Y1, c1, f1⟩ := g1.use))
    go_ret
    exact ⟨ret_iv HR.out.symm, (by repeat (first | with_reducible exact Gr.refl _ | with_reducible assumption | with_reducible refine Gr.alloc ?_ _ | with_reducible refine Gr.drewN ?_ _ | with_reducible refine Gr.drew ?_ | with_reducible refine Gr.setCell ?_ (by first | (dsimp only; omega) | (simp only [World.size_alloc]; omega) | (with_reducible refine Gr.size ?_; (repeat (first | with_reducible exact Gr.refl _ | with_reducible assumption | with_reducible refine Gr.alloc ?_ _ | with_reducible refine Gr.drewN ?_ _ | with_reducible refine Gr.drew ?_ | with_reducible refine Gr.trans ?_ (by with_reducible assumption))); done)) _ | with_reducible refine Gr.trans ?_ (by with_reducible assumption)))⟩
  · have hr : cmpI (a, b, c, d) (e, f, g, h) = M.sgn (a - e) (b - f) := by unfold cmpI; rw [if_pos hz]
    have HR := hide hr
    have hzb : (M.sgn (a - e) (b - f) == 0) = false := by simp [hz]
    clear hr hz
    go_enter Tryd.func32, Tryd.ntmps32
    go_wp2_with (first
      | (go_at_call 29; refine (rminus_any _ _ _ _ _ (by apply Lim.mono; with_reducible assumption; decide) (by apply Lim.mono; with_reducible assumption; decide) (by apply Lim.mono; with_reducible assumption; decide) (by apply Lim.mono; with_reducible assumption; decide)).mono ?_; rintro e w1 ⟨rfl, g1⟩; obtain ⟨X1, Y1, c1, f1⟩ := g1.use)
      | (go_at_call 44; refine (rsign_any _ _ _ (by apply Lim.mono; with_reducible assumption; decide) (by apply Lim.mono; with_reducible assumption; decide)).mono ?_; rintro e w1 ⟨rfl, g1⟩; obtain ⟨X1, Y1, c1, f1⟩ := g1.use))
    go_ret
    exact ⟨ret_iv HR.out.symm, (by repeat (first | with_reducible exact Gr.refl _ | with_reducible assumption | with_reducible refine Gr.alloc ?_ _ | with_reducible refine Gr.drewN ?_ _ | with_reducible refine Gr.drew ?_ | with_reducible refine Gr.setCell ?_ (by first | (dsimp only; omega) | (simp only [World.size_alloc]; omega) | (with_reducible refine Gr.size ?_; (repeat (first | with_reducible exact Gr.refl _ | with_reducible assumption | with_reducible refine Gr.alloc ?_ _ | with_reducible refine Gr.drewN ?_ _ | with_reducible refine Gr.drew ?_ | with_reducible refine Gr.trans ?_ (by with_reducible assumption))); done)) _ | with_reducible refine Gr.trans ?_ (by with_reducible assumption)))⟩
theorem cmpI_neg (p q : Pt) : cmpI p q < 0 ↔ G.L (vOf p) (vOf q) := by
  obtain ⟨a, b, c, d⟩ := p
  obtain ⟨e, f, g, h⟩ := q
  have k1 : M.sgn (e - a) (f - b) = - M.sgn (a - e) (b - f) := by rw [← M.sgn_neg]; congr 1 <;> omega
  have k2 : M.sgn (g - c) (h - d) = - M.sgn (c - g) (d - h) := by rw [← M.sgn_neg]; congr 1 <;> omega
  have hx : G.sg3 ((vOf (e, f, g, h) - vOf (a, b, c, d)).x) = M.sgn (e - a) (f - b) := rfl
  have hy : G.sg3 ((vOf (e, f, g, h) - vOf (a, b, c, d)).y) = M.sgn (g - c) (h - d) := rfl
  unfold cmpI G.L G.H G.pos
  rw [← G.sg3_zero, hx, hy, k1, k2]
  dsimp only
  split <;> omega
theorem cmpI_swap (p q : Pt) : cmpI q p = - cmpI p q := by
  obtain ⟨a, b, c, d⟩ := p
  obtain ⟨e, f, g, h⟩ := q
  have k1 : M.sgn (e - a) (f - b) = - M.sgn (a - e) (b - f) := by rw [← M.sgn_neg]; congr 1 <;> omega
  have k2 : M.sgn (g - c) (h - d) = - M.sgn (c - g) (d - h) := by rw [← M.sgn_neg]; congr 1 <;> omega
  unfold cmpI
  dsimp only
  rw [k1, k2]
  split <;> split <;> omega
theorem cmpI_le (p q : Pt) : cmpI p q ≤ 0 ↔ G.Le (vOf p) (vOf q) := by
  have h := cmpI_neg q p
  rw [cmpI_swap] at h
  constructor
  · intro k
    rcases G.total (vOf q) (vOf p) with t | t
    · have := h.2 t; omega
    · exact t
  · intro k
    refine Int.not_lt.1 fun c => ?_
    exact ((h.1 (by omega)).le_l k).irrefl
theorem cmpI_zero (p q : Pt) : cmpI p q = 0 ↔ p = q := by
  have h1 := cmpI_le p q
  have h2 := cmpI_le q p
  rw [cmpI_swap] at h2
  constructor
  · intro k
    exact vOf_inj ((h1.1 (by omega)).anti (h2.1 (by omega)))
  · rintro rfl
    have := h1.2 (G.Le.refl _)
    have := h2.2 (G.Le.refl _)
    omega
def btB (p q r : Pt) : Bool := (decide (cmpI p q ≤ 0) && decide (cmpI q r ≤ 0)) || (decide (0 ≤ cmpI p q) && decide (0 ≤ cmpI q r))
theorem btB_iff (p q r : Pt) : btB p q r = true ↔ G.Bt (vOf p) (vOf q) (vOf r) := by
  have h1 := cmpI_le q p
  have h2 := cmpI_le r q
  rw [cmpI_swap] at h1 h2
  have h1' : 0 ≤ cmpI p q ↔ G.Le (vOf q) (vOf p) := by rw [← h1]; omega
  have h2' : 0 ≤ cmpI q r ↔ G.Le (vOf r) (vOf q) := by rw [← h2]; omega
  unfold btB G.Bt
  simp only [Bool.or_eq_true, Bool.and_eq_true, decide_eq_true_eq, cmpI_le, h1', h2']
  constructor
  · rintro (h | ⟨a, b⟩)
    · exact .inl h
    · exact .inr ⟨b, a⟩
  · rintro (h | ⟨a, b⟩)
    · exact .inl h
    · exact .inr ⟨b, a⟩
theorem between_any (p q r : Pt) (w : World) (hp : PIn p) (hq : PIn q) (hr : PIn r) :
    Calls Tryd.prog 34 #[pv p, pv q, pv r] w fun e w' => e = .returned (.bool (btB p q r)) ∧ Gr w w' := by
  obtain ⟨a, b, c, d⟩ := p
  obtain ⟨e, f, g, h⟩ := q
  obtain ⟨i, j, k, l⟩ := r
  go_enter Tryd.func34, Tryd.ntmps34
  go_wp2_with (go_at_call 32; refine (rcompare_pts (_, _, _, _) (_, _, _, _) _ (by assumption) (by assumption)).mono ?_; rintro e w1 ⟨rfl, g1⟩; obtain ⟨X1, Y1, c1, f1⟩ := g1.use)
  all_goals
    go_ret
    exact ⟨ret_bool (by rw [Bool.eq_iff_iff]; simp only [btB, Bool.or_eq_true, Bool.and_eq_true, decide_eq_true_eq, true_iff, iff_true, Bool.false_eq_true, false_iff]; omega), (by repeat (first | with_reducible exact Gr.refl _ | with_reducible assumption | with_reducible refine Gr.alloc ?_ _ | with_reducible refine Gr.drewN ?_ _ | with_reducible refine Gr.drew ?_ | with_reducible refine Gr.setCell ?_ (by first | (dsimp only; omega) | (simp only [World.size_alloc]; omega) | (with_reducible refine Gr.size ?_; (repeat (first | with_reducible exact Gr.refl _ | with_reducible assumption | with_reducible refine Gr.alloc ?_ _ | with_reducible refine Gr.drewN ?_ _ | with_reducible refine Gr.drew ?_ | with_reducible refine Gr.trans ?_ (by with_reducible assumption))); done)) _ | with_reducible refine Gr.trans ?_ (by with_reducible assumption)))⟩
end Go.Proofs.YtloefohekhkehaaDoor
