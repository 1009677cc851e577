/-
  The order of points as the library's sort wants it: what comparePoints returns, in a world with more behind it and draws.
-/
import Derived.Test.YtloefohekhkehaaDoorGeo4
import Derived.Test.YtloefohekhkehaaDoorSl2
import Derived.Test.YtloefohekhkehaaDoorHullB
import Derived.Shelf.SlSortCmp.WholeK
namespace Go.Proofs.YtloefohekhkehaaDoor
set_option linter.unusedVariables false
set_option linter.unusedSimpArgs false
open Go Go.ChangeShapes Go.WideShapes Go.ChangeAt Go.RowKit Go.Deep

theorem world_ext {a b : World} (h1 : a.heap = b.heap) (h2 : a.tape = b.tape) (h3 : a.drawn = b.drawn) (h4 : a.os = b.os) (h5 : a.output = b.output) : a = b := by
  cases a
  cases b
  cases h1
  cases h2
  cases h3
  cases h4
  cases h5
  rfl
/-- More behind it, and not fewer draws. -/
def Gd (w w' : World) : Prop := Gr w w' ∧ w.drawn ≤ w'.drawn
theorem Gd.grow {w w' : World} (h : Gd w w') : ∃ q os, w' = Go.Sort.grow (w.drewN q) os := by
  obtain ⟨g, d⟩ := h
  refine ⟨w'.drawn - w.drawn, w'.heap.extract w.heap.size w'.heap.size, ?_⟩
  have hh : w'.heap = w.heap ++ w'.heap.extract w.heap.size w'.heap.size := by
    apply Array.ext_getElem?
    intro k
    by_cases hk : k < w.heap.size
    · rw [Array.getElem?_append_left hk]
      exact Below.block g k hk
    · have hs := g.size
      rw [Array.getElem?_append_right (by omega), Array.getElem?_extract]
      by_cases hk2 : k < w'.heap.size
      · rw [if_pos (by omega)]
        congr 1
        omega
      · rw [if_neg (by omega)]
        simp
        omega
  have h1 := g.os
  have h2 := g.tape
  have h3 := g.output
  exact world_ext hh h2 (by show w'.drawn = w.drawn + (w'.drawn - w.drawn); omega) h1 h3
theorem sign_gd (a b : Int) (w : World) (ha : Lim 2147483648 a) (hb : Lim 1073741824 b) :
    Calls Tryd.prog 21 #[rt a b] w fun e w' => e = .returned (iv (M.sgn a b)) ∧ Gr w w' ∧ w.drawn ≤ w'.drawn := by
  have s1 := Lim.mul ha ha
  have s2 := Lim.mul hb hb
  have s3 := M.sq_nn a
  have s4 := M.sq_nn b
  have e1 : 3 * b * b = 3 * (b * b) := by rw [Int.mul_assoc]
  have s5 : 0 ≤ 3 * b * b := by omega
  unfold Lim at *
  have s6 : 3 * b * b ≤ 3458764513820540928 := by omega
  obtain ⟨a1, a2⟩ := ha
  obtain ⟨b1, b2⟩ := hb
  have E1 := hide e1
  clear e1
  by_cases h : 3 * b * b < a * a
  · go_enter Tryd.func21, Tryd.ntmps21
    go_wp2_with (go_at_call 40; refine (compare_any _ _).mono ?_; rintro e w1 ⟨rfl, rfl⟩)
    go_ret
    exact ⟨ret_iv (by unfold M.sgn; rw [← E1.out, if_pos h]), (by repeat (first | with_reducible exact Gr.refl _ | with_reducible assumption | with_reducible refine Gr.alloc ?_ _ | with_reducible refine Gr.drewN ?_ _ | with_reducible refine Gr.drew ?_ | with_reducible refine Gr.setCell ?_ (by first | (dsimp only; omega) | (simp only [World.size_alloc]; omega) | (with_reducible refine Gr.size ?_; (repeat (first | with_reducible exact Gr.refl _ | with_reducible assumption | with_reducible refine Gr.alloc ?_ _ | with_reducible refine Gr.drewN ?_ _ | with_reducible refine Gr.drew ?_ | with_reducible refine Gr.trans ?_ (by with_reducible assumption))); done)) _ | with_reducible refine Gr.trans ?_ (by with_reducible assumption))), Nat.le_refl _⟩
  · go_enter Tryd.func21, Tryd.ntmps21
    go_wp2_with (go_at_call 40; refine (compare_any _ _).mono ?_; rintro e w1 ⟨rfl, rfl⟩)
    go_ret
    exact ⟨ret_iv (by unfold M.sgn; rw [← E1.out, if_neg (by omega)]), (by repeat (first | with_reducible exact Gr.refl _ | with_reducible assumption | with_reducible refine Gr.alloc ?_ _ | with_reducible refine Gr.drewN ?_ _ | with_reducible refine Gr.drew ?_ | with_reducible refine Gr.setCell ?_ (by first | (dsimp only; omega) | (simp only [World.size_alloc]; omega) | (with_reducible refine Gr.size ?_; (repeat (first | with_reducible exact Gr.refl _ | with_reducible assumption | with_reducible refine Gr.alloc ?_ _ | with_reducible refine Gr.drewN ?_ _ | with_reducible refine Gr.drew ?_ | with_reducible refine Gr.trans ?_ (by with_reducible assumption))); done)) _ | with_reducible refine Gr.trans ?_ (by with_reducible assumption))), Nat.le_refl _⟩
theorem minus_gd (a b c d : Int) (w : World) (ha : Lim 4294967296 a) (hb : Lim 4294967296 b) (hc : Lim 4294967296 c) (hd : Lim 4294967296 d) :
    Calls Tryd.prog 35 #[rt a b, rt c d] w fun e w' => e = .returned (rt (a - c) (b - d)) ∧ Gr w w' ∧ w.drawn ≤ w'.drawn := by
  obtain ⟨a1, a2⟩ := ha
  obtain ⟨b1, b2⟩ := hb
  obtain ⟨c1, c2⟩ := hc
  obtain ⟨d1, d2⟩ := hd
  go_enter Tryd.func35, Tryd.ntmps35
  go_wp2
  refine bodyPost_ret (v := rt (a - c) (b - d)) (by simp [results, Tryd.results35, go_sem]) rfl ⟨rfl, (by repeat (first | with_reducible exact Gr.refl _ | with_reducible assumption | with_reducible refine Gr.alloc ?_ _ | with_reducible refine Gr.drewN ?_ _ | with_reducible refine Gr.drew ?_ | with_reducible refine Gr.setCell ?_ (by first | (dsimp only; omega) | (simp only [World.size_alloc]; omega) | (with_reducible refine Gr.size ?_; (repeat (first | with_reducible exact Gr.refl _ | with_reducible assumption | with_reducible refine Gr.alloc ?_ _ | with_reducible refine Gr.drewN ?_ _ | with_reducible refine Gr.drew ?_ | with_reducible refine Gr.trans ?_ (by with_reducible assumption))); done)) _ | with_reducible refine Gr.trans ?_ (by with_reducible assumption))), Nat.le_refl _⟩

/-- A point as the plain text has it. -/
def vOf (p : Pt) : G.V := ⟨⟨p.1, p.2.1⟩, ⟨p.2.2.1, p.2.2.2⟩⟩
theorem vOf_inj {p q : Pt} (h : vOf p = vOf q) : p = q := by
  obtain ⟨a, b, c, d⟩ := p
  obtain ⟨a', b', c', d'⟩ := q
  simp only [vOf, G.V.mk.injEq, G.Z.mk.injEq] at h
  simp [h]
/-- the order's number -/
def cmpI (p q : Pt) : Int := if M.sgn (p.1 - q.1) (p.2.1 - q.2.1) ≠ 0 then M.sgn (p.1 - q.1) (p.2.1 - q.2.1) else M.sgn (p.2.2.1 - q.2.2.1) (p.2.2.2 - q.2.2.2)
abbrev PIn (p : Pt) : Prop := PLim p.1 p.2.1 p.2.2.1 p.2.2.2
theorem cmp_gd (p q : Pt) (w : World) (hp : PIn p) (hq : PIn q) :
    Calls Tryd.prog 24 #[pv p, pv q] w fun e w' => e = .returned (iv (cmpI p q)) ∧ Gr w w' ∧ w.drawn ≤ w'.drawn := by
  obtain ⟨a, b, c, d⟩ := p
  obtain ⟨e, f, g, h⟩ := q
  obtain ⟨p1, p2, p3, p4⟩ := hp
  obtain ⟨q1, q2, q3, q4⟩ := hq
  dsimp only at p1 p2 p3 p4 q1 q2 q3 q4
  have s1 := (p1.sub q1).mono (m := 16384) (by omega)
  have s2 := (p2.sub q2).mono (m := 16384) (by omega)
  have s3 := (p3.sub q3).mono (m := 16384) (by omega)
  have s4 := (p4.sub q4).mono (m := 16384) (by omega)
  by_cases hz : M.sgn (a - e) (b - f) = 0
  · have hr : cmpI (a, b, c, d) (e, f, g, h) = M.sgn (c - g) (d - h) := by unfold cmpI; rw [if_neg (by simp [hz])]
    have HR := hide hr
    have hzb : (M.sgn (a - e) (b - f) != 0) = false := by simp [hz]
    clear hr hz
    go_enter Tryd.func24, Tryd.ntmps24
    go_wp2_with (first
      | (go_at_call 35; refine (minus_gd _ _ _ _ _ (by apply Lim.mono; with_reducible assumption; decide) (by apply Lim.mono; with_reducible assumption; decide) (by apply Lim.mono; with_reducible assumption; decide) (by apply Lim.mono; with_reducible assumption; decide)).mono ?_; rintro e w1 ⟨rfl, g1, d1⟩; obtain ⟨X1, Y1, c1, f1⟩ := g1.use)
      | (go_at_call 21; refine (sign_gd _ _ _ (by apply Lim.mono; with_reducible assumption; decide) (by apply Lim.mono; with_reducible assumption; decide)).mono ?_; rintro e w1 ⟨rfl, g1, d1⟩; obtain ⟨X1, Y1, c1, f1⟩ := g1.use))
    go_ret
    refine ⟨ret_iv HR.out.symm, (by repeat (first | with_reducible exact Gr.refl _ | with_reducible assumption | with_reducible refine Gr.alloc ?_ _ | with_reducible refine Gr.drewN ?_ _ | with_reducible refine Gr.drew ?_ | with_reducible refine Gr.setCell ?_ (by first | (dsimp only; omega) | (simp only [World.size_alloc]; omega) | (with_reducible refine Gr.size ?_; (repeat (first | with_reducible exact Gr.refl _ | with_reducible assumption | with_reducible refine Gr.alloc ?_ _ | with_reducible refine Gr.drewN ?_ _ | with_reducible refine Gr.drew ?_ | with_reducible refine Gr.trans ?_ (by with_reducible assumption))); done)) _ | with_reducible refine Gr.trans ?_ (by with_reducible assumption))), ?_⟩
    simp only [World.alloc, World.drewN] at *
    omega
  · have hr : cmpI (a, b, c, d) (e, f, g, h) = M.sgn (a - e) (b - f) := by unfold cmpI; rw [if_pos hz]
    have HR := hide hr
    have hzb : (M.sgn (a - e) (b - f) != 0) = true := by simp [hz]
    clear hr hz
    go_enter Tryd.func24, Tryd.ntmps24
    go_wp2_with (first
      | (go_at_call 35; refine (minus_gd _ _ _ _ _ (by apply Lim.mono; with_reducible assumption; decide) (by apply Lim.mono; with_reducible assumption; decide) (by apply Lim.mono; with_reducible assumption; decide) (by apply Lim.mono; with_reducible assumption; decide)).mono ?_; rintro e w1 ⟨rfl, g1, d1⟩; obtain ⟨X1, Y1, c1, f1⟩ := g1.use)
      | (go_at_call 21; refine (sign_gd _ _ _ (by apply Lim.mono; with_reducible assumption; decide) (by apply Lim.mono; with_reducible assumption; decide)).mono ?_; rintro e w1 ⟨rfl, g1, d1⟩; obtain ⟨X1, Y1, c1, f1⟩ := g1.use))
    go_ret
    refine ⟨ret_iv HR.out.symm, (by repeat (first | with_reducible exact Gr.refl _ | with_reducible assumption | with_reducible refine Gr.alloc ?_ _ | with_reducible refine Gr.drewN ?_ _ | with_reducible refine Gr.drew ?_ | with_reducible refine Gr.setCell ?_ (by first | (dsimp only; omega) | (simp only [World.size_alloc]; omega) | (with_reducible refine Gr.size ?_; (repeat (first | with_reducible exact Gr.refl _ | with_reducible assumption | with_reducible refine Gr.alloc ?_ _ | with_reducible refine Gr.drewN ?_ _ | with_reducible refine Gr.drew ?_ | with_reducible refine Gr.trans ?_ (by with_reducible assumption))); done)) _ | with_reducible refine Gr.trans ?_ (by with_reducible assumption))), ?_⟩
    simp only [World.alloc, World.drewN] at *
    omega

/-- Points within the limit. -/
structure BP where
  pt : Pt
  ok : PIn pt
instance : Inhabited BP := ⟨⟨(0, 0, 0, 0), ⟨by simp [Lim], by simp [Lim], by simp [Lim], by simp [Lim]⟩⟩⟩
def bCells (p : BP) : List Value := cellsOfPt p.1
def bCmp (p q : BP) : Int := cmpI p.1 q.1
theorem bCmp_neg (p q : BP) : bCmp p q < 0 ↔ G.L (vOf p.1) (vOf q.1) := by
  obtain ⟨⟨a, b, c, d⟩, hp⟩ := p
  obtain ⟨⟨e, f, g, h⟩, hq⟩ := q
  have k1 : M.sgn (e - a) (f - b) = - M.sgn (a - e) (b - f) := by rw [← M.sgn_neg]; congr 1 <;> omega
  have k2 : M.sgn (g - c) (h - d) = - M.sgn (c - g) (d - h) := by rw [← M.sgn_neg]; congr 1 <;> omega
  have hx : G.sg3 ((vOf (e, f, g, h) - vOf (a, b, c, d)).x) = M.sgn (e - a) (f - b) := rfl
  have hy : G.sg3 ((vOf (e, f, g, h) - vOf (a, b, c, d)).y) = M.sgn (g - c) (h - d) := rfl
  unfold bCmp cmpI G.L G.H G.pos
  rw [← G.sg3_zero, hx, hy, k1, k2]
  dsimp only
  split <;> omega
theorem bCmp_swo : Go.Sort.SWO (Go.Proofs.ltOf bCmp) where
  irrefl x := by
    simp only [Go.Proofs.ltOf, decide_eq_false_iff_not, bCmp_neg]
    exact fun h => h.irrefl
  trans x y z h1 h2 := by
    simp only [Go.Proofs.ltOf, decide_eq_true_eq, bCmp_neg] at *
    exact h1.trans h2
  ntrans x y z h1 h2 := by
    simp only [Go.Proofs.ltOf, decide_eq_false_iff_not, bCmp_neg] at *
    intro h
    rcases G.total (vOf x.1) (vOf y.1) with t | t
    · exact h1 t
    · rcases G.total (vOf y.1) (vOf z.1) with s | s
      · exact h2 s
      · exact (h.le_l (s.trans t)).irrefl
theorem cmp_lays (blk off size : Nat) (w : World) : Go.Proofs.CmpLays Tryd.prog 24 #[] bCells 4 bCmp blk off size w :=
  fun _ _ _ _ x y => (cmp_gd x.1 y.1 _ x.2 y.2).mono fun e w' ⟨h1, h2, h3⟩ => ⟨h1, Gd.grow ⟨h2, h3⟩⟩
end Go.Proofs.YtloefohekhkehaaDoor
