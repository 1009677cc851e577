/-
  Flat patterns: rectangles and lines of faces, how two rectangles touch; on both sides.
  Flat patterns: the reference's rectangles of faces; how two rectangles touch, on both sides.
-/
import Derived.Test.YtdabhnefoigebaaGreatMUb
import Derived.Test.YtdabhnefoigebaaGreatRg1
set_option linter.unusedVariables false
set_option linter.unusedSimpArgs false
namespace Go.Proofs.YtdabhnefoigebaaGreat
set_option linter.unusedVariables false
set_option linter.unusedSimpArgs false
open Go Go.ChangeShapes Go.WideShapes Go.ChangeAt Go.RowKit Go.Deep

abbrev rcv (r : RG.Rc) : Value := R.rc r.x r.y r.w r.h
abbrev rcL (r : RG.Rc) : List Value := [iv r.x, iv r.y, iv r.w, iv r.h]
/-- the smaller and the greater of two -/
def mnI (a b : Int) : Int := if b < a then b else a
def mxI (a b : Int) : Int := if b < a then a else b
structure Sg where
  a : Int
  b : Int
  c : Int
  d : Int
abbrev sgv (s : Sg) : Value := .agg #[iv s.a, iv s.b, iv s.c, iv s.d]
def lnO (q : Pl) (a b c d : Int) : Sg := ⟨ptX q a b, ptY q a b, ptX q c d, ptY q c d⟩
def orS (s : Sg) : Sg := ⟨mnI s.a s.c, mnI s.b s.d, mxI s.a s.c, mxI s.b s.d⟩
def rcS (s : Sg) : RG.Rc := ⟨s.a, s.b, s.c - s.a, s.d - s.b⟩
/-- the rectangle of a face with these corners -/
def rcO (q : Pl) (x y w h : Int) : RG.Rc := rcS (orS (lnO q x y (x + w) (y + h)))
def loV (f : Fl) (q : Pl) : Int := if f.sd = 0 then beV f q - f.wd else beV f q
set_option maxRecDepth 100000 in
set_option maxHeartbeats 1000000 in
theorem lowestLine_any (f : Fl) (q : Pl) (k : Nat) (w : World) (hq : PlB k q) (hf : FlB f) :
    Calls Tryz.prog 44 #[flv f, plv q] w fun e w' => e = .returned (iv (loV f q)) ∧ Gr w w' := by
  have ho := hf.o
  have hw := hq.w
  have hh := hq.h
  have hwd := hf.wd
  obtain ⟨-, u2⟩ := be_bd hq hf hf.o.2
  have HB := hide (fun w => beginning_any f q w (by omega) (by omega) (by omega))
  have HL := hide (show (if f.sd = 0 then beV f q - f.wd else beV f q) = loV f q from rfl)
  have W1 : IntKind.i64.wrap (beV f q - f.wd) = beV f q - f.wd := IntWalk.i64_in _ (by omega)
  clear hq hf ho hw hh hwd u2
  by_cases s : f.sd = 0
  · have HE := hide (show beV f q - f.wd = loV f q by rw [← HL.out, if_pos s])
    clear HL
    generalize beV f q = bv at *
    generalize loV f q = lv at *
    generalize beU f q = bu at *
    have HS := hide s
    clear s
    go_enter Tryz.func44, Tryz.ntmps44
    go_upto_region 2 with (first | (go_at_call 73; refine (HB.out _).mono ?_; rintro e w1 ⟨rfl, g1⟩; obtain ⟨X1, Y1, c1, f1⟩ := g1.use; have z1 := g1.size; (try simp only [World.size_alloc, World.size_setCell, World.heap_drewN, Nat.add_one_le_iff] at z1); (try have l0 : w.heap.size < w1.heap.size := by omega); (try have l1 : w.heap.size + 1 < w1.heap.size := by omega); (try have l2 : w.heap.size + 1 + 1 < w1.heap.size := by omega)))
    have s := HS.out
    go_wp2_with fail
    go_ret
    exact ⟨R.ret_iv HE.out, (by repeat (first | with_reducible exact Gr.refl _ | with_reducible assumption | with_reducible refine Gr.alloc ?_ _ | with_reducible refine Gr.drewN ?_ _ | with_reducible refine Gr.drew ?_ | with_reducible refine Gr.setCell ?_ (by first | (dsimp only; omega) | (simp only [World.size_alloc]; omega) | (with_reducible refine Gr.size ?_; (repeat (first | with_reducible exact Gr.refl _ | with_reducible assumption | with_reducible refine Gr.alloc ?_ _ | with_reducible refine Gr.drewN ?_ _ | with_reducible refine Gr.drew ?_ | with_reducible refine Gr.trans ?_ (by with_reducible assumption))); done)) _ | with_reducible refine Gr.trans ?_ (by with_reducible assumption)))⟩
  · have HE := hide (show beV f q = loV f q by rw [← HL.out, if_neg s])
    clear HL
    generalize beV f q = bv at *
    generalize loV f q = lv at *
    generalize beU f q = bu at *
    have HS := hide s
    clear s
    go_enter Tryz.func44, Tryz.ntmps44
    go_upto_region 2 with (first | (go_at_call 73; refine (HB.out _).mono ?_; rintro e w1 ⟨rfl, g1⟩; obtain ⟨X1, Y1, c1, f1⟩ := g1.use; have z1 := g1.size; (try simp only [World.size_alloc, World.size_setCell, World.heap_drewN, Nat.add_one_le_iff] at z1); (try have l0 : w.heap.size < w1.heap.size := by omega); (try have l1 : w.heap.size + 1 < w1.heap.size := by omega); (try have l2 : w.heap.size + 1 + 1 < w1.heap.size := by omega)))
    have s := HS.out
    go_wp2_with fail
    go_ret
    exact ⟨R.ret_iv HE.out, (by repeat (first | with_reducible exact Gr.refl _ | with_reducible assumption | with_reducible refine Gr.alloc ?_ _ | with_reducible refine Gr.drewN ?_ _ | with_reducible refine Gr.drew ?_ | with_reducible refine Gr.setCell ?_ (by first | (dsimp only; omega) | (simp only [World.size_alloc]; omega) | (with_reducible refine Gr.size ?_; (repeat (first | with_reducible exact Gr.refl _ | with_reducible assumption | with_reducible refine Gr.alloc ?_ _ | with_reducible refine Gr.drewN ?_ _ | with_reducible refine Gr.drew ?_ | with_reducible refine Gr.trans ?_ (by with_reducible assumption))); done)) _ | with_reducible refine Gr.trans ?_ (by with_reducible assumption)))⟩
theorem mn_lt {a b : Int} (h : b < a) : mnI a b = b ∧ mxI a b = a := by unfold mnI mxI; rw [if_pos h, if_pos h]; exact ⟨rfl, rfl⟩
theorem mn_ge {a b : Int} (h : a ≤ b) : mnI a b = a ∧ mxI a b = b := by unfold mnI mxI; rw [if_neg (by omega), if_neg (by omega)]; exact ⟨rfl, rfl⟩
theorem mn_in {a b l u : Int} (h : l ≤ a ∧ a ≤ u) (k : l ≤ b ∧ b ≤ u) : l ≤ mnI a b ∧ mnI a b ≤ u := by
  by_cases c : b < a
  · rw [(mn_lt c).1]; exact k
  · rw [(mn_ge (by omega)).1]; exact h
theorem mx_in {a b l u : Int} (h : l ≤ a ∧ a ≤ u) (k : l ≤ b ∧ b ≤ u) : l ≤ mxI a b ∧ mxI a b ≤ u := by
  by_cases c : b < a
  · rw [(mn_lt c).2]; exact h
  · rw [(mn_ge (by omega)).2]; exact k
set_option maxRecDepth 100000 in
set_option maxHeartbeats 2000000 in
theorem inOrder_any (s : Sg) (w : World) :
    Calls Tryz.prog 46 #[sgv s] w fun e w' => e = .returned (sgv (orS s)) ∧ Gr w w' := by
  obtain ⟨a, b, c, d⟩ := s
  have HE := hide (show orS ⟨a, b, c, d⟩ = ⟨mnI a c, mnI b d, mxI a c, mxI b d⟩ from rfl)
  rw [HE.out]
  clear HE
  have t1 : (mnI a c = c ∧ mxI a c = a ∧ c < a) ∨ (mnI a c = a ∧ mxI a c = c ∧ (a < c ∨ a = c)) := by
    by_cases h : c < a
    · exact .inl ⟨(mn_lt h).1, (mn_lt h).2, h⟩
    · exact .inr ⟨(mn_ge (by omega)).1, (mn_ge (by omega)).2, by omega⟩
  have t2 : (mnI b d = d ∧ mxI b d = b ∧ d < b) ∨ (mnI b d = b ∧ mxI b d = d ∧ (b < d ∨ b = d)) := by
    by_cases h : d < b
    · exact .inl ⟨(mn_lt h).1, (mn_lt h).2, h⟩
    · exact .inr ⟨(mn_ge (by omega)).1, (mn_ge (by omega)).2, by omega⟩
  rcases t1 with ⟨e1, e2, h1⟩ | ⟨e1, e2, h1 | h1⟩ <;> rcases t2 with ⟨e3, e4, h2⟩ | ⟨e3, e4, h2 | h2⟩
  all_goals
    have E1 := hide e1
    have E2 := hide e2
    have E3 := hide e3
    have E4 := hide e4
    clear e1 e2 e3 e4
    (try (have k1 := h1; subst k1; clear h1))
    (try (have k2 := h2; subst k2; clear h2))
    go_enter Tryz.func46, Tryz.ntmps46
    go_wp2
    refine bodyPost_ret (v := sgv ⟨mnI _ _, mnI _ _, mxI _ _, mxI _ _⟩) (by simp [results, Tryz.results46, go_sem, *, E1.out, E2.out, E3.out, E4.out]) rfl ⟨rfl, (by repeat (first | with_reducible exact Gr.refl _ | with_reducible assumption | with_reducible refine Gr.alloc ?_ _ | with_reducible refine Gr.drewN ?_ _ | with_reducible refine Gr.drew ?_ | with_reducible refine Gr.setCell ?_ (by first | (dsimp only; omega) | (simp only [World.size_alloc]; omega) | (with_reducible refine Gr.size ?_; (repeat (first | with_reducible exact Gr.refl _ | with_reducible assumption | with_reducible refine Gr.alloc ?_ _ | with_reducible refine Gr.drewN ?_ _ | with_reducible refine Gr.drew ?_ | with_reducible refine Gr.trans ?_ (by with_reducible assumption))); done)) _ | with_reducible refine Gr.trans ?_ (by with_reducible assumption)))⟩
set_option maxHeartbeats 1000000 in
theorem line_any (q : Pl) (a b c d : Int) (w : World) (h1 : -10000000 ≤ a ∧ a ≤ 10000000) (h2 : -10000000 ≤ b ∧ b ≤ 10000000) (h3 : -10000000 ≤ c ∧ c ≤ 10000000) (h4 : -10000000 ≤ d ∧ d ≤ 10000000)
    (hx : -10000000 ≤ q.x ∧ q.x ≤ 10000000) (hy : -10000000 ≤ q.y ∧ q.y ≤ 10000000) (ht : q.t ≤ 1000) :
    Calls Tryz.prog 47 #[fmv q, sgv ⟨a, b, c, d⟩] w fun e w' => e = .returned (sgv (lnO q a b c d)) ∧ Gr w w' := by
  have H1 := hide (fun w => point_any q a b w h1 h2 hx hy ht)
  have H2 := hide (fun w => point_any q c d w h3 h4 hx hy ht)
  have HE := hide (show lnO q a b c d = ⟨ptX q a b, ptY q a b, ptX q c d, ptY q c d⟩ from rfl)
  rw [HE.out]
  clear HE h1 h2 h3 h4 hx hy ht
  generalize ptX q a b = x1 at *
  generalize ptY q a b = y1 at *
  generalize ptX q c d = x2 at *
  generalize ptY q c d = y2 at *
  go_enter Tryz.func47, Tryz.ntmps47
  go_wp2_with fail
  refine (H1.out _).mono ?_
  rintro e w1 ⟨rfl, g1⟩
  obtain ⟨X1, Y1, c1, f1⟩ := g1.use
  have z1 := g1.size
  simp only [World.size_alloc] at z1
  have l0 : w.heap.size < w1.heap.size := by omega
  have l1 : w.heap.size + 1 < w1.heap.size := by omega
  have l2 : w.heap.size + 1 + 1 < w1.heap.size := by omega
  go_wp2_with fail
  refine (H2.out _).mono ?_
  rintro e w2 ⟨rfl, g2⟩
  obtain ⟨X2, Y2, c2, f2⟩ := g2.use
  have z2 := g2.size
  have m0 : w.heap.size < w2.heap.size := by omega
  have m1 : w.heap.size + 1 < w2.heap.size := by omega
  have m2 : w.heap.size + 1 + 1 < w2.heap.size := by omega
  go_wp2_with fail
  refine bodyPost_ret (v := sgv ⟨x1, y1, x2, y2⟩) (by simp [results, Tryz.results47, go_sem, *]) rfl ⟨rfl, (by repeat (first | with_reducible exact Gr.refl _ | with_reducible assumption | with_reducible refine Gr.alloc ?_ _ | with_reducible refine Gr.drewN ?_ _ | with_reducible refine Gr.drew ?_ | with_reducible refine Gr.setCell ?_ (by first | (dsimp only; omega) | (simp only [World.size_alloc]; omega) | (with_reducible refine Gr.size ?_; (repeat (first | with_reducible exact Gr.refl _ | with_reducible assumption | with_reducible refine Gr.alloc ?_ _ | with_reducible refine Gr.drewN ?_ _ | with_reducible refine Gr.drew ?_ | with_reducible refine Gr.trans ?_ (by with_reducible assumption))); done)) _ | with_reducible refine Gr.trans ?_ (by with_reducible assumption)))⟩
set_option maxRecDepth 100000 in
set_option maxHeartbeats 1000000 in
theorem rect_any (q : Pl) (x y u h : Int) (w : World) (h1 : -1000000 ≤ x ∧ x ≤ 1000000) (h2 : -1000000 ≤ y ∧ y ≤ 1000000) (h3 : -1000000 ≤ u ∧ u ≤ 1000000) (h4 : -1000000 ≤ h ∧ h ≤ 1000000)
    (hx : -2000000 ≤ q.x ∧ q.x ≤ 2000000) (hy : -2000000 ≤ q.y ∧ q.y ≤ 2000000) (ht : q.t ≤ 1000) :
    Calls Tryz.prog 45 #[fmv q, rcv ⟨x, y, u, h⟩] w fun e w' => e = .returned (rcv (rcO q x y u h)) ∧ Gr w w' := by
  have HL := hide (fun w => line_any q x y (x + u) (y + h) w (by omega) (by omega) (by omega) (by omega) (by omega) (by omega) ht)
  have HO := hide (fun w => inOrder_any (lnO q x y (x + u) (y + h)) w)
  obtain ⟨a1, a2⟩ := rt_bd q.t (u := x) (v := y) (m := 2000000) (by omega) (by omega)
  obtain ⟨a3, a4⟩ := rt_bd q.t (u := x + u) (v := y + h) (m := 2000000) (by omega) (by omega)
  have p1 : -4000000 ≤ ptX q x y ∧ ptX q x y ≤ 4000000 := by unfold ptX; omega
  have p2 : -4000000 ≤ ptY q x y ∧ ptY q x y ≤ 4000000 := by unfold ptY; omega
  have p3 : -4000000 ≤ ptX q (x + u) (y + h) ∧ ptX q (x + u) (y + h) ≤ 4000000 := by unfold ptX; omega
  have p4 : -4000000 ≤ ptY q (x + u) (y + h) ∧ ptY q (x + u) (y + h) ≤ 4000000 := by unfold ptY; omega
  have HE := hide (show rcO q x y u h = rcS (orS (lnO q x y (x + u) (y + h))) from rfl)
  have U1 : IntKind.i64.wrap (x + u) = x + u := IntWalk.i64_in _ (by omega)
  have U2 : IntKind.i64.wrap (y + h) = y + h := IntWalk.i64_in _ (by omega)
  have hs : (-4000000 ≤ (orS (lnO q x y (x + u) (y + h))).a ∧ (orS (lnO q x y (x + u) (y + h))).a ≤ 4000000) ∧ (-4000000 ≤ (orS (lnO q x y (x + u) (y + h))).b ∧ (orS (lnO q x y (x + u) (y + h))).b ≤ 4000000) ∧
      (-4000000 ≤ (orS (lnO q x y (x + u) (y + h))).c ∧ (orS (lnO q x y (x + u) (y + h))).c ≤ 4000000) ∧ -4000000 ≤ (orS (lnO q x y (x + u) (y + h))).d ∧ (orS (lnO q x y (x + u) (y + h))).d ≤ 4000000 := by
    exact ⟨mn_in p1 p3, mn_in p2 p4, mx_in p1 p3, mx_in p2 p4⟩
  rw [HE.out]
  clear HE a1 a2 a3 a4 p1 p2 p3 p4 h1 h2 h3 h4 hx hy ht
  generalize orS (lnO q x y (x + u) (y + h)) = S at *
  generalize lnO q x y (x + u) (y + h) = L at *
  obtain ⟨s1, s2, s3, s4⟩ := S
  simp only at hs
  obtain ⟨b1, b2, b3, b4⟩ := hs
  have U3 : IntKind.i64.wrap (s3 - s1) = s3 - s1 := IntWalk.i64_in _ (by omega)
  have U4 : IntKind.i64.wrap (s4 - s2) = s4 - s2 := IntWalk.i64_in _ (by omega)
  clear b1 b2 b3 b4
  go_enter Tryz.func45, Tryz.ntmps45
  go_wp2_with fail
  refine (HL.out _).mono ?_
  rintro e w1 ⟨rfl, g1⟩
  have z1 := g1.size
  simp only [World.size_alloc] at z1
  go_wp2_with fail
  refine (HO.out _).mono ?_
  rintro e w2 ⟨rfl, g2⟩
  have z2 := g2.size
  have m2 : w.heap.size + 1 + 1 < w2.heap.size := by omega
  obtain ⟨X2, Y2, c2, f2⟩ := (g1.trans g2).use
  go_wp2_with fail
  refine bodyPost_ret (v := rcv (rcS ⟨s1, s2, s3, s4⟩)) (by simp [results, Tryz.results45, go_sem, rcS, *]) rfl ⟨rfl, (by repeat (first | with_reducible exact Gr.refl _ | with_reducible assumption | with_reducible refine Gr.alloc ?_ _ | with_reducible refine Gr.drewN ?_ _ | with_reducible refine Gr.drew ?_ | with_reducible refine Gr.setCell ?_ (by first | (dsimp only; omega) | (simp only [World.size_alloc]; omega) | (with_reducible refine Gr.size ?_; (repeat (first | with_reducible exact Gr.refl _ | with_reducible assumption | with_reducible refine Gr.alloc ?_ _ | with_reducible refine Gr.drewN ?_ _ | with_reducible refine Gr.drew ?_ | with_reducible refine Gr.trans ?_ (by with_reducible assumption))); done)) _ | with_reducible refine Gr.trans ?_ (by with_reducible assumption)))⟩
end Go.Proofs.YtdabhnefoigebaaGreat
set_option linter.unusedVariables false
set_option linter.unusedSimpArgs false
namespace Go.Proofs.YtdabhnefoigebaaGreat
set_option linter.unusedVariables false
set_option linter.unusedSimpArgs false
open Go Go.ChangeShapes Go.WideShapes Go.ChangeAt Go.RowKit Go.Deep

set_option maxRecDepth 100000 in
set_option maxHeartbeats 2000000 in
theorem rrect_any (q : Pl) (x y u h : Int) (w : World) (h1 : -1000000 ≤ x ∧ x ≤ 1000000) (h2 : -1000000 ≤ y ∧ y ≤ 1000000) (h3 : -1000000 ≤ u ∧ u ≤ 1000000) (h4 : -1000000 ≤ h ∧ h ≤ 1000000)
    (hx : -2000000 ≤ q.x ∧ q.x ≤ 2000000) (hy : -2000000 ≤ q.y ∧ q.y ≤ 2000000) :
    Calls Tryz.prog 27 #[frv (frO q), iv x, iv y, iv u, iv h] w fun e w' => e = .returned (rcv (rcO q x y u h)) ∧ Gr w w' := by
  have H1 := hide (fun w => at_any q x y w (by unfold R.Lim; omega) (by unfold R.Lim; omega) (by unfold R.Lim; omega) (by unfold R.Lim; omega))
  have H2 := hide (fun w => at_any q (x + u) (y + h) w (by unfold R.Lim; omega) (by unfold R.Lim; omega) (by unfold R.Lim; omega) (by unfold R.Lim; omega))
  obtain ⟨a1, a2⟩ := rt_bd q.t (u := x) (v := y) (m := 2000000) (by omega) (by omega)
  obtain ⟨a3, a4⟩ := rt_bd q.t (u := x + u) (v := y + h) (m := 2000000) (by omega) (by omega)
  have p1 : -4000000 ≤ ptX q x y ∧ ptX q x y ≤ 4000000 := by unfold ptX; omega
  have p2 : -4000000 ≤ ptY q x y ∧ ptY q x y ≤ 4000000 := by unfold ptY; omega
  have p3 : -4000000 ≤ ptX q (x + u) (y + h) ∧ ptX q (x + u) (y + h) ≤ 4000000 := by unfold ptX; omega
  have p4 : -4000000 ≤ ptY q (x + u) (y + h) ∧ ptY q (x + u) (y + h) ≤ 4000000 := by unfold ptY; omega
  have HE := hide (show rcO q x y u h = ⟨mnI (ptX q x y) (ptX q (x + u) (y + h)), mnI (ptY q x y) (ptY q (x + u) (y + h)), mxI (ptX q x y) (ptX q (x + u) (y + h)) - mnI (ptX q x y) (ptX q (x + u) (y + h)), mxI (ptY q x y) (ptY q (x + u) (y + h)) - mnI (ptY q x y) (ptY q (x + u) (y + h))⟩ from rfl)
  have U1 : IntKind.i64.wrap (x + u) = x + u := IntWalk.i64_in _ (by omega)
  have U2 : IntKind.i64.wrap (y + h) = y + h := IntWalk.i64_in _ (by omega)
  rw [HE.out]
  clear HE a1 a2 a3 a4 h1 h2 h3 h4 hx hy
  generalize ptX q (x + u) (y + h) = c at *
  generalize ptY q (x + u) (y + h) = d at *
  generalize ptX q x y = a at *
  generalize ptY q x y = b at *
  generalize frO q = F at *
  obtain ⟨fx, fy, ux, uy, vx, vy, W, Ht, le⟩ := F
  have t1 : (mnI a c = c ∧ mxI a c = a ∧ c < a) ∨ (mnI a c = a ∧ mxI a c = c ∧ ¬ c < a) := by
    by_cases h : c < a
    · exact .inl ⟨(mn_lt h).1, (mn_lt h).2, h⟩
    · exact .inr ⟨(mn_ge (by omega)).1, (mn_ge (by omega)).2, h⟩
  have t2 : (mnI b d = d ∧ mxI b d = b ∧ d < b) ∨ (mnI b d = b ∧ mxI b d = d ∧ ¬ d < b) := by
    by_cases h : d < b
    · exact .inl ⟨(mn_lt h).1, (mn_lt h).2, h⟩
    · exact .inr ⟨(mn_ge (by omega)).1, (mn_ge (by omega)).2, h⟩
  have V1 : IntKind.i64.wrap (a - c) = a - c := IntWalk.i64_in _ (by omega)
  have V2 : IntKind.i64.wrap (c - a) = c - a := IntWalk.i64_in _ (by omega)
  have V3 : IntKind.i64.wrap (b - d) = b - d := IntWalk.i64_in _ (by omega)
  have V4 : IntKind.i64.wrap (d - b) = d - b := IntWalk.i64_in _ (by omega)
  clear p1 p2 p3 p4
  rcases t1 with ⟨e1, e2, k1⟩ | ⟨e1, e2, k1⟩ <;> rcases t2 with ⟨e3, e4, k2⟩ | ⟨e3, e4, k2⟩
  all_goals
    have E1 := hide e1
    have E2 := hide e2
    have E3 := hide e3
    have E4 := hide e4
    clear e1 e2 e3 e4
    go_enter Tryz.func27, Tryz.ntmps27
    go_wp2_with fail
    refine (H1.out _).mono ?_
    rintro e w1 ⟨rfl, g1⟩
    obtain ⟨X1, Y1, c1, f1⟩ := g1.use
    have z1 := g1.size
    simp only [World.size_alloc] at z1
    have l0 : w.heap.size < w1.heap.size := by omega
    have l1 : w.heap.size + 1 < w1.heap.size := by omega
    go_wp2_with fail
    refine (H2.out _).mono ?_
    rintro e w2 ⟨rfl, g2⟩
    obtain ⟨X2, Y2, c2, f2⟩ := g2.use
    have z2 := g2.size
    have m0 : w.heap.size < w2.heap.size := by omega
    have m1 : w.heap.size + 1 < w2.heap.size := by omega
    go_wp2_with fail
    refine bodyPost_ret (v := rcv ⟨mnI a c, mnI b d, mxI a c - mnI a c, mxI b d - mnI b d⟩) (by simp [results, Tryz.results27, go_sem, *, E1.out, E2.out, E3.out, E4.out]) rfl ⟨rfl, (by repeat (first | with_reducible exact Gr.refl _ | with_reducible assumption | with_reducible refine Gr.alloc ?_ _ | with_reducible refine Gr.drewN ?_ _ | with_reducible refine Gr.drew ?_ | with_reducible refine Gr.setCell ?_ (by first | (dsimp only; omega) | (simp only [World.size_alloc]; omega) | (with_reducible refine Gr.size ?_; (repeat (first | with_reducible exact Gr.refl _ | with_reducible assumption | with_reducible refine Gr.alloc ?_ _ | with_reducible refine Gr.drewN ?_ _ | with_reducible refine Gr.drew ?_ | with_reducible refine Gr.trans ?_ (by with_reducible assumption))); done)) _ | with_reducible refine Gr.trans ?_ (by with_reducible assumption)))⟩
/-- how long a common stretch of two intervals is -/
def ctI (a b c d : Int) : Int := mnI b d - mxI a c
def ctX (r s : RG.Rc) : Int := ctI r.x (r.x + r.w) s.x (s.x + s.w)
def ctY (r s : RG.Rc) : Int := ctI r.y (r.y + r.h) s.y (s.y + s.h)
def toB (r s : RG.Rc) : Bool := decide (0 ≤ ctX r s) && decide (0 ≤ ctY r s) && decide (0 < ctX r s + ctY r s)
/-- two faces overlap, or touch along a line though they are no kin -/
def baB (kin : Bool) (r s : RG.Rc) : Bool := (decide (0 < ctX r s) && decide (0 < ctY r s)) || (!kin && toB r s)
/-- a rectangle as a face has it -/
structure RcB (r : RG.Rc) : Prop where
  x : -1000000 ≤ r.x ∧ r.x ≤ 1000000
  y : -1000000 ≤ r.y ∧ r.y ≤ 1000000
  w : 1 ≤ r.w ∧ r.x + r.w ≤ 1000000
  h : 1 ≤ r.h ∧ r.y + r.h ≤ 1000000
theorem ov_ct {r s : RG.Rc} (hr : RcB r) (hs : RcB s) : R.ovB r.x r.y r.w r.h s.x s.y s.w s.h = (decide (0 < ctX r s) && decide (0 < ctY r s)) := by
  have v1 : R.vrB r.x r.y r.w r.h = true := by
    have := hr.x; have := hr.y; have := hr.w; have := hr.h
    unfold R.vrB
    rw [Bool.and_eq_true, R.vsB_iff, R.vsB_iff]
    omega
  have v2 : R.vrB s.x s.y s.w s.h = true := by
    have := hs.x; have := hs.y; have := hs.w; have := hs.h
    unfold R.vrB
    rw [Bool.and_eq_true, R.vsB_iff, R.vsB_iff]
    omega
  unfold R.ovB
  rw [v1, v2, Bool.and_self, Bool.true_and]
  have hrw := hr.w; have hrh := hr.h; have hsw := hs.w; have hsh := hs.h
  congr 1
  · unfold R.soB ctX ctI
    rw [Bool.eq_iff_iff, Bool.and_eq_true, decide_eq_true_iff, decide_eq_true_iff, decide_eq_true_iff]
    unfold mnI mxI
    split <;> split <;> omega
  · unfold R.soB ctY ctI
    rw [Bool.eq_iff_iff, Bool.and_eq_true, decide_eq_true_iff, decide_eq_true_iff, decide_eq_true_iff]
    unfold mnI mxI
    split <;> split <;> omega
theorem contact_any (a b c d : Int) (w : World) (h1 : -2000000 ≤ a ∧ a ≤ 2000000) (h2 : -2000000 ≤ b ∧ b ≤ 2000000) (h3 : -2000000 ≤ c ∧ c ≤ 2000000) (h4 : -2000000 ≤ d ∧ d ≤ 2000000) :
    Calls Tryz.prog 87 #[iv a, iv b, iv c, iv d] w fun e w' => e = .returned (iv (ctI a b c d)) ∧ w = w' := by
  have HE := hide (show ctI a b c d = (if d < b then d else b) - (if c < a then a else c) from rfl)
  rw [HE.out]
  clear HE
  go_enter Tryz.func87, Tryz.ntmps87
  go_wp2
  all_goals
    go_ret
    exact ⟨R.ret_iv (by (try rw [w_in (by unfold I64; omega)]); (try split) <;> (try split) <;> omega), rfl⟩
/-- which of two is the smaller, which of two the greater -/
theorem mnx {a b c d : Int} : (mnI a b = a ∧ a ≤ b ∨ mnI a b = b ∧ b < a) ∧ (mxI c d = c ∧ d ≤ c ∨ mxI c d = d ∧ c < d) := by
  constructor
  · by_cases h : b < a
    · exact .inr ⟨(mn_lt h).1, h⟩
    · exact .inl ⟨(mn_ge (by omega)).1, by omega⟩
  · by_cases h : c < d
    · exact .inr ⟨(mn_ge (by omega)).2, h⟩
    · refine .inl ⟨?_, by omega⟩
      unfold mxI
      split <;> omega
set_option maxRecDepth 100000 in
set_option maxHeartbeats 4000000 in
theorem touchAlong_any (r s : RG.Rc) (w : World) (hr : RcB r) (hs : RcB s) :
    Calls Tryz.prog 49 #[rcv r, rcv s] w fun e w' => e = .returned (.bool (toB r s)) ∧ Gr w w' := by
  obtain ⟨a1, a2⟩ := hr.x
  obtain ⟨a3, a4⟩ := hr.y
  obtain ⟨a5, a6⟩ := hr.w
  obtain ⟨a7, a8⟩ := hr.h
  obtain ⟨b1, b2⟩ := hs.x
  obtain ⟨b3, b4⟩ := hs.y
  obtain ⟨b5, b6⟩ := hs.w
  obtain ⟨b7, b8⟩ := hs.h
  obtain ⟨x, y, u, h⟩ := r
  obtain ⟨a, b, c, d⟩ := s
  simp only at a1 a2 a3 a4 a5 a6 a7 a8 b1 b2 b3 b4 b5 b6 b7 b8
  have HT := hide (show toB ⟨x, y, u, h⟩ ⟨a, b, c, d⟩ = (decide (0 ≤ mnI (x + u) (a + c) - mxI x a) && decide (0 ≤ mnI (y + h) (b + d) - mxI y b) && decide (0 < mnI (x + u) (a + c) - mxI x a + (mnI (y + h) (b + d) - mxI y b))) from rfl)
  rw [HT.out]
  clear HT hr hs
  obtain ⟨X, hX⟩ : ∃ z, z = x + u := ⟨_, rfl⟩
  obtain ⟨A, hA⟩ : ∃ z, z = a + c := ⟨_, rfl⟩
  obtain ⟨Y, hY⟩ : ∃ z, z = y + h := ⟨_, rfl⟩
  obtain ⟨B, hB⟩ : ∃ z, z = b + d := ⟨_, rfl⟩
  have U1 : IntKind.i64.wrap (x + u) = X := by rw [hX]; exact IntWalk.i64_in _ (by omega)
  have U2 : IntKind.i64.wrap (a + c) = A := by rw [hA]; exact IntWalk.i64_in _ (by omega)
  have U3 : IntKind.i64.wrap (y + h) = Y := by rw [hY]; exact IntWalk.i64_in _ (by omega)
  have U4 : IntKind.i64.wrap (b + d) = B := by rw [hB]; exact IntWalk.i64_in _ (by omega)
  have q1 : -2000000 ≤ X ∧ X ≤ 2000000 := by omega
  have q2 : -2000000 ≤ A ∧ A ≤ 2000000 := by omega
  have q3 : -2000000 ≤ Y ∧ Y ≤ 2000000 := by omega
  have q4 : -2000000 ≤ B ∧ B ≤ 2000000 := by omega
  rw [← hX, ← hA, ← hY, ← hB]
  clear a5 a6 a7 a8 b5 b6 b7 b8 hX hA hY hB
  obtain ⟨m1, m2⟩ := mnx (a := X) (b := A) (c := x) (d := a)
  obtain ⟨m3, m4⟩ := mnx (a := Y) (b := B) (c := y) (d := b)
  have W1 : IntKind.i64.wrap (mnI X A - mxI x a) = mnI X A - mxI x a := IntWalk.i64_in _ (by omega)
  have W2 : IntKind.i64.wrap (mnI Y B - mxI y b) = mnI Y B - mxI y b := IntWalk.i64_in _ (by omega)
  have W3 : IntKind.i64.wrap (mnI X A - mxI x a + (mnI Y B - mxI y b)) = mnI X A - mxI x a + (mnI Y B - mxI y b) := IntWalk.i64_in _ (by omega)
  rcases m1 with ⟨e1, k1⟩ | ⟨e1, k1⟩ <;> rcases m2 with ⟨e2, k2⟩ | ⟨e2, k2⟩ <;> rcases m3 with ⟨e3, k3⟩ | ⟨e3, k3⟩ <;> rcases m4 with ⟨e4, k4⟩ | ⟨e4, k4⟩
  all_goals
    rw [e1, e2] at W1 W3
    rw [e3, e4] at W2 W3
    rw [e1, e2, e3, e4]
    clear e1 e2 e3 e4 q1 q2 q3 q4 a1 a2 a3 a4 b1 b2 b3 b4
    go_enter Tryz.func49, Tryz.ntmps49
    go_wp2
    all_goals first
      | (exfalso; omega)
      | (go_ret
         refine ⟨R.ret_bool ?_, (by repeat (first | with_reducible exact Gr.refl _ | with_reducible assumption | with_reducible refine Gr.alloc ?_ _ | with_reducible refine Gr.drewN ?_ _ | with_reducible refine Gr.drew ?_ | with_reducible refine Gr.setCell ?_ (by first | (dsimp only; omega) | (simp only [World.size_alloc]; omega) | (with_reducible refine Gr.size ?_; (repeat (first | with_reducible exact Gr.refl _ | with_reducible assumption | with_reducible refine Gr.alloc ?_ _ | with_reducible refine Gr.drewN ?_ _ | with_reducible refine Gr.drew ?_ | with_reducible refine Gr.trans ?_ (by with_reducible assumption))); done)) _ | with_reducible refine Gr.trans ?_ (by with_reducible assumption)))⟩
         rw [Bool.eq_iff_iff]
         simp only [Bool.and_eq_true, decide_eq_true_iff, Bool.false_eq_true, false_iff, true_iff]
         omega)
end Go.Proofs.YtdabhnefoigebaaGreat
