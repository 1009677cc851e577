/-
  Flat patterns: rectangles and lines of faces, how two rectangles touch; on both sides.
  Flat patterns: the reference's rectangles of faces; how two rectangles touch, on both sides.
  Flat patterns: whether faces meet, on both sides.
  Flat patterns: whether faces are apart, in the reference; what reaches into a bend, on both sides.
  Flat patterns: what reaches into a bend, in the code.
  Flat patterns: what reaches into a bend, in the reference.
  Flat patterns: a struct of slices of the call's own that grows; plainly.
  Flat patterns: the pattern of places, in the code.
  Flat patterns: Unfold of the code.
  FlatApart, plainly: how many rectangles and lines a pattern has; that its rectangles don't overlap; how long its lines are.
  FlatApart, plainly: a flange's line lies along an edge of its parent.
  FlatApart, plainly: the lines of a pattern and the faces that they join.
-/
import Derived.Test.YtjnfodbniohkhaaGreatMU
import Derived.Test.YtjnfodbniohkhaaGreatRg1
set_option linter.unusedVariables false
set_option linter.unusedSimpArgs false
namespace Go.Proofs.YtjnfodbniohkhaaGreat
set_option linter.unusedVariables false
set_option linter.unusedSimpArgs false
open Go Go.ChangeShapes Go.WideShapes Go.ChangeAt Go.RowKit Go.Deep

abbrev rcv (r : RG.Rc) : Value := R.rc r.x r.y r.w r.h
abbrev rcL (r : RG.Rc) : List Value := [iv r.x, iv r.y, iv r.w, iv r.h]
/-- the smaller and the greater of two -/
def mnI (a b : Int) : Int := if b < a then b else a
def mxI (a b : Int) : Int := if b < a then a else b
structure Sg where
  a : Int
  b : Int
  c : Int
  d : Int
abbrev sgv (s : Sg) : Value := .agg #[iv s.a, iv s.b, iv s.c, iv s.d]
def lnO (q : Pl) (a b c d : Int) : Sg := ⟨ptX q a b, ptY q a b, ptX q c d, ptY q c d⟩
def orS (s : Sg) : Sg := ⟨mnI s.a s.c, mnI s.b s.d, mxI s.a s.c, mxI s.b s.d⟩
def rcS (s : Sg) : RG.Rc := ⟨s.a, s.b, s.c - s.a, s.d - s.b⟩
/-- the rectangle of a face with these corners -/
def rcO (q : Pl) (x y w h : Int) : RG.Rc := rcS (orS (lnO q x y (x + w) (y + h)))
def loV (f : Fl) (q : Pl) : Int := if f.sd = 0 then beV f q - f.wd else beV f q
set_option maxRecDepth 100000 in
set_option maxHeartbeats 1000000 in
theorem lowestLine_any (f : Fl) (q : Pl) (k : Nat) (w : World) (hq : PlB k q) (hf : FlB f) :
    Calls Tryz.prog 55 #[flv f, plv q] w fun e w' => e = .returned (iv (loV f q)) ∧ Gr w w' := by
  have ho := hf.o
  have hw := hq.w
  have hh := hq.h
  have hwd := hf.wd
  obtain ⟨-, u2⟩ := be_bd hq hf hf.o.2
  have HB := hide (fun w => beginning_any f q w (by omega) (by omega) (by omega))
  have HL := hide (show (if f.sd = 0 then beV f q - f.wd else beV f q) = loV f q from rfl)
  have W1 : IntKind.i64.wrap (beV f q - f.wd) = beV f q - f.wd := IntWalk.i64_in _ (by omega)
  clear hq hf ho hw hh hwd u2
  by_cases s : f.sd = 0
  · have HE := hide (show beV f q - f.wd = loV f q by rw [← HL.out, if_pos s])
    clear HL
    generalize beV f q = bv at *
    generalize loV f q = lv at *
    generalize beU f q = bu at *
    have HS := hide s
    clear s
    go_enter Tryz.func55, Tryz.ntmps55
    go_upto_region 2 with (first | (go_at_call 74; refine (HB.out _).mono ?_; rintro e w1 ⟨rfl, g1⟩; obtain ⟨X1, Y1, c1, f1⟩ := g1.use; have z1 := g1.size; (try simp only [World.size_alloc, World.size_setCell, World.heap_drewN, Nat.add_one_le_iff] at z1); (try have l0 : w.heap.size < w1.heap.size := by omega); (try have l1 : w.heap.size + 1 < w1.heap.size := by omega); (try have l2 : w.heap.size + 1 + 1 < w1.heap.size := by omega)))
    have s := HS.out
    go_wp2_with fail
    go_ret
    exact ⟨R.ret_iv HE.out, (by repeat (first | with_reducible exact Gr.refl _ | with_reducible assumption | with_reducible refine Gr.alloc ?_ _ | with_reducible refine Gr.drewN ?_ _ | with_reducible refine Gr.drew ?_ | with_reducible refine Gr.setCell ?_ (by first | (dsimp only; omega) | (simp only [World.size_alloc]; omega) | (with_reducible refine Gr.size ?_; (repeat (first | with_reducible exact Gr.refl _ | with_reducible assumption | with_reducible refine Gr.alloc ?_ _ | with_reducible refine Gr.drewN ?_ _ | with_reducible refine Gr.drew ?_ | with_reducible refine Gr.trans ?_ (by with_reducible assumption))); done)) _ | with_reducible refine Gr.trans ?_ (by with_reducible assumption)))⟩
  · have HE := hide (show beV f q = loV f q by rw [← HL.out, if_neg s])
    clear HL
    generalize beV f q = bv at *
    generalize loV f q = lv at *
    generalize beU f q = bu at *
    have HS := hide s
    clear s
    go_enter Tryz.func55, Tryz.ntmps55
    go_upto_region 2 with (first | (go_at_call 74; refine (HB.out _).mono ?_; rintro e w1 ⟨rfl, g1⟩; obtain ⟨X1, Y1, c1, f1⟩ := g1.use; have z1 := g1.size; (try simp only [World.size_alloc, World.size_setCell, World.heap_drewN, Nat.add_one_le_iff] at z1); (try have l0 : w.heap.size < w1.heap.size := by omega); (try have l1 : w.heap.size + 1 < w1.heap.size := by omega); (try have l2 : w.heap.size + 1 + 1 < w1.heap.size := by omega)))
    have s := HS.out
    go_wp2_with fail
    go_ret
    exact ⟨R.ret_iv HE.out, (by repeat (first | with_reducible exact Gr.refl _ | with_reducible assumption | with_reducible refine Gr.alloc ?_ _ | with_reducible refine Gr.drewN ?_ _ | with_reducible refine Gr.drew ?_ | with_reducible refine Gr.setCell ?_ (by first | (dsimp only; omega) | (simp only [World.size_alloc]; omega) | (with_reducible refine Gr.size ?_; (repeat (first | with_reducible exact Gr.refl _ | with_reducible assumption | with_reducible refine Gr.alloc ?_ _ | with_reducible refine Gr.drewN ?_ _ | with_reducible refine Gr.drew ?_ | with_reducible refine Gr.trans ?_ (by with_reducible assumption))); done)) _ | with_reducible refine Gr.trans ?_ (by with_reducible assumption)))⟩
theorem mn_lt {a b : Int} (h : b < a) : mnI a b = b ∧ mxI a b = a := by unfold mnI mxI; rw [if_pos h, if_pos h]; exact ⟨rfl, rfl⟩
theorem mn_ge {a b : Int} (h : a ≤ b) : mnI a b = a ∧ mxI a b = b := by unfold mnI mxI; rw [if_neg (by omega), if_neg (by omega)]; exact ⟨rfl, rfl⟩
theorem mn_in {a b l u : Int} (h : l ≤ a ∧ a ≤ u) (k : l ≤ b ∧ b ≤ u) : l ≤ mnI a b ∧ mnI a b ≤ u := by
  by_cases c : b < a
  · rw [(mn_lt c).1]; exact k
  · rw [(mn_ge (by omega)).1]; exact h
theorem mx_in {a b l u : Int} (h : l ≤ a ∧ a ≤ u) (k : l ≤ b ∧ b ≤ u) : l ≤ mxI a b ∧ mxI a b ≤ u := by
  by_cases c : b < a
  · rw [(mn_lt c).2]; exact h
  · rw [(mn_ge (by omega)).2]; exact k
set_option maxRecDepth 100000 in
set_option maxHeartbeats 2000000 in
theorem inOrder_any (s : Sg) (w : World) :
    Calls Tryz.prog 45 #[sgv s] w fun e w' => e = .returned (sgv (orS s)) ∧ Gr w w' := by
  obtain ⟨a, b, c, d⟩ := s
  have HE := hide (show orS ⟨a, b, c, d⟩ = ⟨mnI a c, mnI b d, mxI a c, mxI b d⟩ from rfl)
  rw [HE.out]
  clear HE
  have t1 : (mnI a c = c ∧ mxI a c = a ∧ c < a) ∨ (mnI a c = a ∧ mxI a c = c ∧ (a < c ∨ a = c)) := by
    by_cases h : c < a
    · exact .inl ⟨(mn_lt h).1, (mn_lt h).2, h⟩
    · exact .inr ⟨(mn_ge (by omega)).1, (mn_ge (by omega)).2, by omega⟩
  have t2 : (mnI b d = d ∧ mxI b d = b ∧ d < b) ∨ (mnI b d = b ∧ mxI b d = d ∧ (b < d ∨ b = d)) := by
    by_cases h : d < b
    · exact .inl ⟨(mn_lt h).1, (mn_lt h).2, h⟩
    · exact .inr ⟨(mn_ge (by omega)).1, (mn_ge (by omega)).2, by omega⟩
  rcases t1 with ⟨e1, e2, h1⟩ | ⟨e1, e2, h1 | h1⟩ <;> rcases t2 with ⟨e3, e4, h2⟩ | ⟨e3, e4, h2 | h2⟩
  all_goals
    have E1 := hide e1
    have E2 := hide e2
    have E3 := hide e3
    have E4 := hide e4
    clear e1 e2 e3 e4
    (try (have k1 := h1; subst k1; clear h1))
    (try (have k2 := h2; subst k2; clear h2))
    go_enter Tryz.func45, Tryz.ntmps45
    go_wp2
    refine bodyPost_ret (v := sgv ⟨mnI _ _, mnI _ _, mxI _ _, mxI _ _⟩) (by simp [results, Tryz.results45, go_sem, *, E1.out, E2.out, E3.out, E4.out]) rfl ⟨rfl, (by repeat (first | with_reducible exact Gr.refl _ | with_reducible assumption | with_reducible refine Gr.alloc ?_ _ | with_reducible refine Gr.drewN ?_ _ | with_reducible refine Gr.drew ?_ | with_reducible refine Gr.setCell ?_ (by first | (dsimp only; omega) | (simp only [World.size_alloc]; omega) | (with_reducible refine Gr.size ?_; (repeat (first | with_reducible exact Gr.refl _ | with_reducible assumption | with_reducible refine Gr.alloc ?_ _ | with_reducible refine Gr.drewN ?_ _ | with_reducible refine Gr.drew ?_ | with_reducible refine Gr.trans ?_ (by with_reducible assumption))); done)) _ | with_reducible refine Gr.trans ?_ (by with_reducible assumption)))⟩
set_option maxHeartbeats 1000000 in
theorem line_any (q : Pl) (a b c d : Int) (w : World) (h1 : -10000000 ≤ a ∧ a ≤ 10000000) (h2 : -10000000 ≤ b ∧ b ≤ 10000000) (h3 : -10000000 ≤ c ∧ c ≤ 10000000) (h4 : -10000000 ≤ d ∧ d ≤ 10000000)
    (hx : -10000000 ≤ q.x ∧ q.x ≤ 10000000) (hy : -10000000 ≤ q.y ∧ q.y ≤ 10000000) (ht : q.t ≤ 1000) :
    Calls Tryz.prog 57 #[fmv q, sgv ⟨a, b, c, d⟩] w fun e w' => e = .returned (sgv (lnO q a b c d)) ∧ Gr w w' := by
  have H1 := hide (fun w => point_any q a b w h1 h2 hx hy ht)
  have H2 := hide (fun w => point_any q c d w h3 h4 hx hy ht)
  have HE := hide (show lnO q a b c d = ⟨ptX q a b, ptY q a b, ptX q c d, ptY q c d⟩ from rfl)
  rw [HE.out]
  clear HE h1 h2 h3 h4 hx hy ht
  generalize ptX q a b = x1 at *
  generalize ptY q a b = y1 at *
  generalize ptX q c d = x2 at *
  generalize ptY q c d = y2 at *
  go_enter Tryz.func57, Tryz.ntmps57
  go_wp2_with fail
  refine (H1.out _).mono ?_
  rintro e w1 ⟨rfl, g1⟩
  obtain ⟨X1, Y1, c1, f1⟩ := g1.use
  have z1 := g1.size
  simp only [World.size_alloc] at z1
  have l0 : w.heap.size < w1.heap.size := by omega
  have l1 : w.heap.size + 1 < w1.heap.size := by omega
  have l2 : w.heap.size + 1 + 1 < w1.heap.size := by omega
  go_wp2_with fail
  refine (H2.out _).mono ?_
  rintro e w2 ⟨rfl, g2⟩
  obtain ⟨X2, Y2, c2, f2⟩ := g2.use
  have z2 := g2.size
  have m0 : w.heap.size < w2.heap.size := by omega
  have m1 : w.heap.size + 1 < w2.heap.size := by omega
  have m2 : w.heap.size + 1 + 1 < w2.heap.size := by omega
  go_wp2_with fail
  refine bodyPost_ret (v := sgv ⟨x1, y1, x2, y2⟩) (by simp [results, Tryz.results57, go_sem, *]) rfl ⟨rfl, (by repeat (first | with_reducible exact Gr.refl _ | with_reducible assumption | with_reducible refine Gr.alloc ?_ _ | with_reducible refine Gr.drewN ?_ _ | with_reducible refine Gr.drew ?_ | with_reducible refine Gr.setCell ?_ (by first | (dsimp only; omega) | (simp only [World.size_alloc]; omega) | (with_reducible refine Gr.size ?_; (repeat (first | with_reducible exact Gr.refl _ | with_reducible assumption | with_reducible refine Gr.alloc ?_ _ | with_reducible refine Gr.drewN ?_ _ | with_reducible refine Gr.drew ?_ | with_reducible refine Gr.trans ?_ (by with_reducible assumption))); done)) _ | with_reducible refine Gr.trans ?_ (by with_reducible assumption)))⟩
set_option maxRecDepth 100000 in
set_option maxHeartbeats 1000000 in
theorem rect_any (q : Pl) (x y u h : Int) (w : World) (h1 : -1000000 ≤ x ∧ x ≤ 1000000) (h2 : -1000000 ≤ y ∧ y ≤ 1000000) (h3 : -1000000 ≤ u ∧ u ≤ 1000000) (h4 : -1000000 ≤ h ∧ h ≤ 1000000)
    (hx : -2000000 ≤ q.x ∧ q.x ≤ 2000000) (hy : -2000000 ≤ q.y ∧ q.y ≤ 2000000) (ht : q.t ≤ 1000) :
    Calls Tryz.prog 56 #[fmv q, rcv ⟨x, y, u, h⟩] w fun e w' => e = .returned (rcv (rcO q x y u h)) ∧ Gr w w' := by
  have HL := hide (fun w => line_any q x y (x + u) (y + h) w (by omega) (by omega) (by omega) (by omega) (by omega) (by omega) ht)
  have HO := hide (fun w => inOrder_any (lnO q x y (x + u) (y + h)) w)
  obtain ⟨a1, a2⟩ := rt_bd q.t (u := x) (v := y) (m := 2000000) (by omega) (by omega)
  obtain ⟨a3, a4⟩ := rt_bd q.t (u := x + u) (v := y + h) (m := 2000000) (by omega) (by omega)
  have p1 : -4000000 ≤ ptX q x y ∧ ptX q x y ≤ 4000000 := by unfold ptX; omega
  have p2 : -4000000 ≤ ptY q x y ∧ ptY q x y ≤ 4000000 := by unfold ptY; omega
  have p3 : -4000000 ≤ ptX q (x + u) (y + h) ∧ ptX q (x + u) (y + h) ≤ 4000000 := by unfold ptX; omega
  have p4 : -4000000 ≤ ptY q (x + u) (y + h) ∧ ptY q (x + u) (y + h) ≤ 4000000 := by unfold ptY; omega
  have HE := hide (show rcO q x y u h = rcS (orS (lnO q x y (x + u) (y + h))) from rfl)
  have U1 : IntKind.i64.wrap (x + u) = x + u := IntWalk.i64_in _ (by omega)
  have U2 : IntKind.i64.wrap (y + h) = y + h := IntWalk.i64_in _ (by omega)
  have hs : (-4000000 ≤ (orS (lnO q x y (x + u) (y + h))).a ∧ (orS (lnO q x y (x + u) (y + h))).a ≤ 4000000) ∧ (-4000000 ≤ (orS (lnO q x y (x + u) (y + h))).b ∧ (orS (lnO q x y (x + u) (y + h))).b ≤ 4000000) ∧
      (-4000000 ≤ (orS (lnO q x y (x + u) (y + h))).c ∧ (orS (lnO q x y (x + u) (y + h))).c ≤ 4000000) ∧ -4000000 ≤ (orS (lnO q x y (x + u) (y + h))).d ∧ (orS (lnO q x y (x + u) (y + h))).d ≤ 4000000 := by
    exact ⟨mn_in p1 p3, mn_in p2 p4, mx_in p1 p3, mx_in p2 p4⟩
  rw [HE.out]
  clear HE a1 a2 a3 a4 p1 p2 p3 p4 h1 h2 h3 h4 hx hy ht
  generalize orS (lnO q x y (x + u) (y + h)) = S at *
  generalize lnO q x y (x + u) (y + h) = L at *
  obtain ⟨s1, s2, s3, s4⟩ := S
  simp only at hs
  obtain ⟨b1, b2, b3, b4⟩ := hs
  have U3 : IntKind.i64.wrap (s3 - s1) = s3 - s1 := IntWalk.i64_in _ (by omega)
  have U4 : IntKind.i64.wrap (s4 - s2) = s4 - s2 := IntWalk.i64_in _ (by omega)
  clear b1 b2 b3 b4
  go_enter Tryz.func56, Tryz.ntmps56
  go_wp2_with fail
  refine (HL.out _).mono ?_
  rintro e w1 ⟨rfl, g1⟩
  have z1 := g1.size
  simp only [World.size_alloc] at z1
  go_wp2_with fail
  refine (HO.out _).mono ?_
  rintro e w2 ⟨rfl, g2⟩
  have z2 := g2.size
  have m2 : w.heap.size + 1 + 1 < w2.heap.size := by omega
  obtain ⟨X2, Y2, c2, f2⟩ := (g1.trans g2).use
  go_wp2_with fail
  refine bodyPost_ret (v := rcv (rcS ⟨s1, s2, s3, s4⟩)) (by simp [results, Tryz.results56, go_sem, rcS, *]) rfl ⟨rfl, (by repeat (first | with_reducible exact Gr.refl _ | with_reducible assumption | with_reducible refine Gr.alloc ?_ _ | with_reducible refine Gr.drewN ?_ _ | with_reducible refine Gr.drew ?_ | with_reducible refine Gr.setCell ?_ (by first | (dsimp only; omega) | (simp only [World.size_alloc]; omega) | (with_reducible refine Gr.size ?_; (repeat (first | with_reducible exact Gr.refl _ | with_reducible assumption | with_reducible refine Gr.alloc ?_ _ | with_reducible refine Gr.drewN ?_ _ | with_reducible refine Gr.drew ?_ | with_reducible refine Gr.trans ?_ (by with_reducible assumption))); done)) _ | with_reducible refine Gr.trans ?_ (by with_reducible assumption)))⟩
end Go.Proofs.YtjnfodbniohkhaaGreat
set_option linter.unusedVariables false
set_option linter.unusedSimpArgs false
namespace Go.Proofs.YtjnfodbniohkhaaGreat
set_option linter.unusedVariables false
set_option linter.unusedSimpArgs false
open Go Go.ChangeShapes Go.WideShapes Go.ChangeAt Go.RowKit Go.Deep

/-- how long a common stretch of two intervals is -/
def ctI (a b c d : Int) : Int := mnI b d - mxI a c
def ctX (r s : RG.Rc) : Int := ctI r.x (r.x + r.w) s.x (s.x + s.w)
def ctY (r s : RG.Rc) : Int := ctI r.y (r.y + r.h) s.y (s.y + s.h)
def toB (r s : RG.Rc) : Bool := decide (0 ≤ ctX r s) && decide (0 ≤ ctY r s) && decide (0 < ctX r s + ctY r s)
/-- two faces overlap, or touch along a line though they are no kin -/
def baB (kin : Bool) (r s : RG.Rc) : Bool := (decide (0 < ctX r s) && decide (0 < ctY r s)) || (!kin && toB r s)
/-- a rectangle as a face has it -/
structure RcB (r : RG.Rc) : Prop where
  x : -1000000 ≤ r.x ∧ r.x ≤ 1000000
  y : -1000000 ≤ r.y ∧ r.y ≤ 1000000
  w : 1 ≤ r.w ∧ r.x + r.w ≤ 1000000
  h : 1 ≤ r.h ∧ r.y + r.h ≤ 1000000
theorem ov_ct {r s : RG.Rc} (hr : RcB r) (hs : RcB s) : R.ovB r.x r.y r.w r.h s.x s.y s.w s.h = (decide (0 < ctX r s) && decide (0 < ctY r s)) := by
  have v1 : R.vrB r.x r.y r.w r.h = true := by
    have := hr.x; have := hr.y; have := hr.w; have := hr.h
    unfold R.vrB
    rw [Bool.and_eq_true, R.vsB_iff, R.vsB_iff]
    omega
  have v2 : R.vrB s.x s.y s.w s.h = true := by
    have := hs.x; have := hs.y; have := hs.w; have := hs.h
    unfold R.vrB
    rw [Bool.and_eq_true, R.vsB_iff, R.vsB_iff]
    omega
  unfold R.ovB
  rw [v1, v2, Bool.and_self, Bool.true_and]
  have hrw := hr.w; have hrh := hr.h; have hsw := hs.w; have hsh := hs.h
  congr 1
  · unfold R.soB ctX ctI
    rw [Bool.eq_iff_iff, Bool.and_eq_true, decide_eq_true_iff, decide_eq_true_iff, decide_eq_true_iff]
    unfold mnI mxI
    split <;> split <;> omega
  · unfold R.soB ctY ctI
    rw [Bool.eq_iff_iff, Bool.and_eq_true, decide_eq_true_iff, decide_eq_true_iff, decide_eq_true_iff]
    unfold mnI mxI
    split <;> split <;> omega
/-- which of two is the smaller, which of two the greater -/
theorem mnx {a b c d : Int} : (mnI a b = a ∧ a ≤ b ∨ mnI a b = b ∧ b < a) ∧ (mxI c d = c ∧ d ≤ c ∨ mxI c d = d ∧ c < d) := by
  constructor
  · by_cases h : b < a
    · exact .inr ⟨(mn_lt h).1, h⟩
    · exact .inl ⟨(mn_ge (by omega)).1, by omega⟩
  · by_cases h : c < d
    · exact .inr ⟨(mn_ge (by omega)).2, h⟩
    · refine .inl ⟨?_, by omega⟩
      unfold mxI
      split <;> omega
set_option maxRecDepth 100000 in
set_option maxHeartbeats 4000000 in
theorem touchAlong_any (r s : RG.Rc) (w : World) (hr : RcB r) (hs : RcB s) :
    Calls Tryz.prog 58 #[rcv r, rcv s] w fun e w' => e = .returned (.bool (toB r s)) ∧ Gr w w' := by
  obtain ⟨a1, a2⟩ := hr.x
  obtain ⟨a3, a4⟩ := hr.y
  obtain ⟨a5, a6⟩ := hr.w
  obtain ⟨a7, a8⟩ := hr.h
  obtain ⟨b1, b2⟩ := hs.x
  obtain ⟨b3, b4⟩ := hs.y
  obtain ⟨b5, b6⟩ := hs.w
  obtain ⟨b7, b8⟩ := hs.h
  obtain ⟨x, y, u, h⟩ := r
  obtain ⟨a, b, c, d⟩ := s
  simp only at a1 a2 a3 a4 a5 a6 a7 a8 b1 b2 b3 b4 b5 b6 b7 b8
  have HT := hide (show toB ⟨x, y, u, h⟩ ⟨a, b, c, d⟩ = (decide (0 ≤ mnI (x + u) (a + c) - mxI x a) && decide (0 ≤ mnI (y + h) (b + d) - mxI y b) && decide (0 < mnI (x + u) (a + c) - mxI x a + (mnI (y + h) (b + d) - mxI y b))) from rfl)
  rw [HT.out]
  clear HT hr hs
  obtain ⟨X, hX⟩ : ∃ z, z = x + u := ⟨_, rfl⟩
  obtain ⟨A, hA⟩ : ∃ z, z = a + c := ⟨_, rfl⟩
  obtain ⟨Y, hY⟩ : ∃ z, z = y + h := ⟨_, rfl⟩
  obtain ⟨B, hB⟩ : ∃ z, z = b + d := ⟨_, rfl⟩
  have U1 : IntKind.i64.wrap (x + u) = X := by rw [hX]; exact IntWalk.i64_in _ (by omega)
  have U2 : IntKind.i64.wrap (a + c) = A := by rw [hA]; exact IntWalk.i64_in _ (by omega)
  have U3 : IntKind.i64.wrap (y + h) = Y := by rw [hY]; exact IntWalk.i64_in _ (by omega)
  have U4 : IntKind.i64.wrap (b + d) = B := by rw [hB]; exact IntWalk.i64_in _ (by omega)
  have q1 : -2000000 ≤ X ∧ X ≤ 2000000 := by omega
  have q2 : -2000000 ≤ A ∧ A ≤ 2000000 := by omega
  have q3 : -2000000 ≤ Y ∧ Y ≤ 2000000 := by omega
  have q4 : -2000000 ≤ B ∧ B ≤ 2000000 := by omega
  rw [← hX, ← hA, ← hY, ← hB]
  clear a5 a6 a7 a8 b5 b6 b7 b8 hX hA hY hB
  obtain ⟨m1, m2⟩ := mnx (a := X) (b := A) (c := x) (d := a)
  obtain ⟨m3, m4⟩ := mnx (a := Y) (b := B) (c := y) (d := b)
  have W1 : IntKind.i64.wrap (mnI X A - mxI x a) = mnI X A - mxI x a := IntWalk.i64_in _ (by omega)
  have W2 : IntKind.i64.wrap (mnI Y B - mxI y b) = mnI Y B - mxI y b := IntWalk.i64_in _ (by omega)
  have W3 : IntKind.i64.wrap (mnI X A - mxI x a + (mnI Y B - mxI y b)) = mnI X A - mxI x a + (mnI Y B - mxI y b) := IntWalk.i64_in _ (by omega)
  rcases m1 with ⟨e1, k1⟩ | ⟨e1, k1⟩ <;> rcases m2 with ⟨e2, k2⟩ | ⟨e2, k2⟩ <;> rcases m3 with ⟨e3, k3⟩ | ⟨e3, k3⟩ <;> rcases m4 with ⟨e4, k4⟩ | ⟨e4, k4⟩
  all_goals
    rw [e1, e2] at W1 W3
    rw [e3, e4] at W2 W3
    rw [e1, e2, e3, e4]
    clear e1 e2 e3 e4 q1 q2 q3 q4 a1 a2 a3 a4 b1 b2 b3 b4
    go_enter Tryz.func58, Tryz.ntmps58
    go_wp2
    all_goals first
      | (exfalso; omega)
      | (go_ret
         refine ⟨R.ret_bool ?_, (by repeat (first | with_reducible exact Gr.refl _ | with_reducible assumption | with_reducible refine Gr.alloc ?_ _ | with_reducible refine Gr.drewN ?_ _ | with_reducible refine Gr.drew ?_ | with_reducible refine Gr.setCell ?_ (by first | (dsimp only; omega) | (simp only [World.size_alloc]; omega) | (with_reducible refine Gr.size ?_; (repeat (first | with_reducible exact Gr.refl _ | with_reducible assumption | with_reducible refine Gr.alloc ?_ _ | with_reducible refine Gr.drewN ?_ _ | with_reducible refine Gr.drew ?_ | with_reducible refine Gr.trans ?_ (by with_reducible assumption))); done)) _ | with_reducible refine Gr.trans ?_ (by with_reducible assumption)))⟩
         rw [Bool.eq_iff_iff]
         simp only [Bool.and_eq_true, decide_eq_true_iff, Bool.false_eq_true, false_iff, true_iff]
         omega)
end Go.Proofs.YtjnfodbniohkhaaGreat
set_option linter.unusedVariables false
set_option linter.unusedSimpArgs false
namespace Go.Proofs.YtjnfodbniohkhaaGreat
set_option linter.unusedVariables false
set_option linter.unusedSimpArgs false
open Go Go.ChangeShapes Go.WideShapes Go.ChangeAt Go.RowKit Go.Deep

theorem mn_comm (a b : Int) : mnI a b = mnI b a := by unfold mnI; split <;> split <;> omega
theorem mx_comm (a b : Int) : mxI a b = mxI b a := by unfold mxI; split <;> split <;> omega
theorem ctX_comm (r s : RG.Rc) : ctX r s = ctX s r := by unfold ctX ctI; rw [mn_comm, mx_comm]
theorem ctY_comm (r s : RG.Rc) : ctY r s = ctY s r := by unfold ctY ctI; rw [mn_comm, mx_comm]
theorem baB_comm (k : Bool) (r s : RG.Rc) : baB k r s = baB k s r := by
  unfold baB toB
  rw [ctX_comm r s, ctY_comm r s]
/-- rectangles, where they lie -/
structure SlRq (w : World) (A : Option Addr) (c : Nat) (l : List RG.Rc) : Prop where
  rd : RdL w 4 rcL A l
  cap : l.length ≤ c
  capB : c ≤ 9223372036854775807
theorem SlRq.gr {w w' : World} {A : Option Addr} {c : Nat} {l : List RG.Rc} (h : SlRq w A c l) (g : Gr w w') : SlRq w' A c l := ⟨h.rd.gr g, h.cap, h.capB⟩
theorem SlRq.at_ {w : World} {A : Option Addr} {c : Nat} {l : List RG.Rc} (h : SlRq w A c l) {i : Nat} {z : RG.Rc} (hi : l[i]? = some z) : ∃ b off, A = some ⟨b, off, none⟩ ∧ w.cell? ⟨b, off + i * 4, none⟩ = some (iv z.x) ∧ w.cell? ⟨b, off + i * 4 + 1, none⟩ = some (iv z.y) ∧ w.cell? ⟨b, off + i * 4 + 2, none⟩ = some (iv z.w) ∧ w.cell? ⟨b, off + i * 4 + 3, none⟩ = some (iv z.h) := by
  obtain ⟨b, off, e, h0, h1, h2, h3, _⟩ := h.rd i z hi
  exact ⟨b, off, e, h0, h1, h2, h3⟩
theorem slRq_own {w : World} {base : Nat} {e : TypeId} {A : Option Addr} {n d : Nat} {xs : List RG.Rc} (h : OwnL w base e 4 rcL (.slice A n d) xs) : SlRq w A d xs := by
  obtain ⟨_, h1, h2, h3⟩ := OwnL.rd (c := rcL) (fun _ => rfl) h
  exact ⟨h1, h2, by unfold maxLen at h3; omega⟩
def fmP (l : List Fl) (R : List RG.Rc) : Prop := ∃ (i e : Nat) (f : Fl) (r s : RG.Rc), l[i]? = some f ∧ e ≤ i ∧ R[e]? = some r ∧ R[i + 1]? = some s ∧ baB (decide (f.pa = e)) r s = true
/-- two faces meet -/
noncomputable def fmB (l : List Fl) (R : List RG.Rc) : Bool := @decide (fmP l R) (Classical.propDecidable _)
theorem fmB_yes {l : List Fl} {R : List RG.Rc} (h : fmP l R) : fmB l R = true := by
  unfold fmB
  exact @decide_eq_true _ (Classical.propDecidable _) h
theorem fmB_no {l : List Fl} {R : List RG.Rc} (h : ∀ i, i < l.length → ∀ e f r s, e ≤ i → l[i]? = some f → R[e]? = some r → R[i + 1]? = some s → baB (decide (f.pa = e)) r s = false) : fmB l R = false := by
  unfold fmB
  refine @decide_eq_false _ (Classical.propDecidable _) ?_
  rintro ⟨i, e, f, r, s, h1, h2, h3, h4, h5⟩
  rw [h i (List.getElem?_eq_some_iff.1 h1).1 e f r s h2 h1 h3 h4] at h5
  cases h5
set_option maxRecDepth 100000 in
set_option maxHeartbeats 4000000 in
theorem facesMeet_any (p : Pa) (A B C : Option Addr) (c d q : Nat) (rs : List RG.Rc) (w : World) (hF : SlF w A c p.fl) (hl : p.fl.length ≤ 100) (hR : ∀ r ∈ rs, RcB r) (hn : rs.length = p.fl.length + 1) (hS : SlRq w C q rs) :
    Calls Tryz.prog 25 #[pav p A c B d, .slice C (p.fl.length + 1) q] w fun e w' => e = .returned (.bool (fmB p.fl rs)) ∧ Gr w w' := by
  have HF := hide hF
  have HR := hide hR
  have HS := hide hS
  have HN := hide hn
  have hcap := hS.cap
  have hcapB := hS.capB
  rw [hn] at hcap
  clear hF hR hS hn
  go_enter Tryz.func25, Tryz.ntmps25
  go_wp2
  go_loopw [12] (fun i wr => ∃ k : Nat, k ≤ p.fl.length ∧ i = iv k ∧ Gr w wr ∧ Hid (∀ i, i < k → ∀ e f r s, e ≤ i → p.fl[i]? = some f → rs[e]? = some r → rs[i + 1]? = some s → baB (decide (f.pa = e)) r s = false)) (fun i _ => p.fl.length - (intOf i).toNat)
  case atStart => exact ⟨0, by omega, rfl, (by repeat (first | with_reducible exact Gr.refl _ | with_reducible assumption | with_reducible refine Gr.alloc ?_ _ | with_reducible refine Gr.drewN ?_ _ | with_reducible refine Gr.drew ?_ | with_reducible refine Gr.setCell ?_ (by first | (dsimp only; omega) | (simp only [World.size_alloc]; omega) | (with_reducible refine Gr.size ?_; (repeat (first | with_reducible exact Gr.refl _ | with_reducible assumption | with_reducible refine Gr.alloc ?_ _ | with_reducible refine Gr.drewN ?_ _ | with_reducible refine Gr.drew ?_ | with_reducible refine Gr.trans ?_ (by with_reducible assumption))); done)) _ | with_reducible refine Gr.trans ?_ (by with_reducible assumption))), fun i hi => by omega⟩
  case round =>
    obtain ⟨k, hk, rfl, g, HO⟩ := hrel
    have zr := g.size
    by_cases hkl : k < p.fl.length
    · obtain ⟨f, hf⟩ : ∃ f, p.fl[k]? = some f := ⟨_, List.getElem?_eq_getElem hkl⟩
      obtain ⟨s, hs⟩ : ∃ s, rs[k + 1]? = some s := ⟨_, List.getElem?_eq_getElem (by rw [HN.out]; omega)⟩
      obtain ⟨b, off, hA, x0, x1, x2, x3, x4, x5, x6⟩ := HF.out.rd.fl hf
      subst hA
      have hb : b < w.heap.size := cell_lt (by rw [x0]; rfl)
      have hbr : b < wr.heap.size := by omega
      have y0 := (g.cell _ _ hb).trans x0
      have y1 := (g.cell _ _ hb).trans x1
      have y2 := (g.cell _ _ hb).trans x2
      have y3 := (g.cell _ _ hb).trans x3
      have y4 := (g.cell _ _ hb).trans x4
      have y5 := (g.cell _ _ hb).trans x5
      have y6 := (g.cell _ _ hb).trans x6
      clear x0 x1 x2 x3 x4 x5 x6
      obtain ⟨bs, os, hC, s0, s1, s2, s3⟩ := HS.out.at_ hs
      subst hC
      have hbs : bs < w.heap.size := cell_lt (by rw [s0]; rfl)
      have hsb := HR.out s (List.mem_of_getElem? hs)
      have HFF := hide hf
      have HSS := hide hs
      have U1 : IntKind.i64.wrap ((k : Int) + 1) = (k : Int) + 1 := IntWalk.i64_in _ (by omega)
      have hk0 : (0 : Int) ≤ (k : Int) := by omega
      have hk1 : (k : Int) < (p.fl.length : Int) := by omega
      have hk2 : (0 : Int) ≤ (k : Int) + 1 := by omega
      have hk3 : (k : Int) + 1 ≤ (q : Int) := by omega
      have hk4 : (k : Int) + 1 < (p.fl.length : Int) + 1 := by omega
      have hk5 : k + 1 ≤ q := by omega
      clear hf hs
      have HFA := hide (show f.pa = f.pa from rfl)
      go_upto_region 5 with fail
      obtain ⟨wo, hwo⟩ : ∃ wo, wo = wr.alloc (.cells #[.string f.nm, iv f.pa, iv f.sd, iv f.o, iv f.wd, iv f.ln, iv f.an] 49) := ⟨_, rfl⟩
      rw [← hwo]
      have gwo : Gr wr wo := by rw [hwo]; exact Gr.alloc (Gr.refl _) _
      have n1 : wo.cell? ⟨wr.heap.size, 1, none⟩ = some (iv f.pa) := by rw [hwo]; simp [go_sem]
      have hwl : wr.heap.size < wo.heap.size := by rw [hwo]; simp
      have HBK := hide g
      clear hwo y0 y1 y2 y3 y4 y5 y6
      obtain ⟨B0, hB0⟩ : ∃ B0, B0 = wr.heap.size := ⟨_, rfl⟩
      rw [← hB0] at n1 hwl ⊢
      have gW : Gr w wo := g.trans gwo
      clear hB0 g
      obtain ⟨wp, rfl⟩ : ∃ wp, wp = wr := ⟨_, rfl⟩
      go_loopw [22] (fun i wr => ∃ e : Nat, e ≤ k + 1 ∧ i = iv e ∧ Gr wo wr ∧ Hid (∀ j r, j < e → rs[j]? = some r → baB (decide (f.pa = j)) r s = false)) (fun i _ => k + 1 - (intOf i).toNat)
      case atStart => exact ⟨0, by omega, rfl, Gr.refl _, fun j r hj => by omega⟩
      case round =>
        obtain ⟨e, he, rfl, g2, HI⟩ := hrel
        have zr2 := g2.size
        by_cases hel : e < k + 1
        · obtain ⟨r, hr⟩ : ∃ r, rs[e]? = some r := ⟨_, List.getElem?_eq_getElem (by rw [HN.out]; omega)⟩
          obtain ⟨br, or', hC, r0, r1, r2, r3⟩ := HS.out.at_ hr
          obtain ⟨rfl, rfl⟩ : bs = br ∧ os = or' := by simpa using hC
          have hrb := HR.out r (List.mem_of_getElem? hr)
          have gV : Gr w wr := gW.trans g2
          have v0 := (gV.cell _ _ hbs).trans r0
          have v1 := (gV.cell _ _ hbs).trans r1
          have v2 := (gV.cell _ _ hbs).trans r2
          have v3 := (gV.cell _ _ hbs).trans r3
          have t0 := (gV.cell _ _ hbs).trans s0
          have t1 := (gV.cell _ _ hbs).trans s1
          have t2 := (gV.cell _ _ hbs).trans s2
          have t3 := (gV.cell _ _ hbs).trans s3
          have m1 := (g2.cell _ _ hwl).trans n1
          have lB : B0 < wr.heap.size := by omega
          have lbs : bs < wr.heap.size := by have := gV.size; omega
          have HQ := hide hr
          have hov := ov_ct hrb hsb
          have HOV := hide (fun w => R.Overlap_any r.x r.y r.w r.h s.x s.y s.w s.h w)
          rw [hov] at HOV
          have HTO := hide (fun w => touchAlong_any r s w hrb hsb)
          have HBA := hide (show baB (decide (f.pa = e)) r s = ((decide (0 < ctX r s) && decide (0 < ctY r s)) || (!decide (f.pa = e) && toB r s)) from rfl)
          generalize (decide (0 < ctX r s) && decide (0 < ctY r s)) = ov at *
          generalize toB r s = tb at *
          have he0 : (0 : Int) ≤ (e : Int) := by omega
          have he1 : (e : Int) < (k : Int) + 1 := by omega
          clear hr hov hrb r0 r1 r2 r3 hC
          have HKI := hide (show (((e : Int) != f.pa) = false ∧ decide (f.pa = (e : Int)) = true) ∨ (((e : Int) != f.pa) = true ∧ decide (f.pa = (e : Int)) = false) by
            by_cases h : f.pa = (e : Int)
            · exact .inl ⟨by simp [h], by simp [h]⟩
            · exact .inr ⟨by simp; omega, by simp [h]⟩)
          have HCO := hide (show baB (decide (f.pa = (e : Int))) r s = false → ∀ j r', j < e + 1 → rs[j]? = some r' → baB (decide (f.pa = j)) r' s = false by
            intro hb j r' hj hr'
            rcases Nat.lt_or_ge j e with h | h
            · exact HI.out j r' h hr'
            · obtain rfl : j = e := by omega
              rw [HQ.out] at hr'
              obtain rfl := Option.some.inj hr'
              exact hb)
          have HYE := hide (show baB (decide (f.pa = (e : Int))) r s = true → fmB p.fl rs = true from fun hb => fmB_yes ⟨k, e, f, r, s, HFF.out, by omega, HQ.out, HSS.out, hb⟩)
          clear HI HO
          cases ov with
          | true =>
            have HE := hide (HYE.out (by rw [HBA.out]; rfl))
            clear HKI HBA HCO HYE
            go_upto_region 7 with fail
            have GC := @GrW.cell
            refine wp_region_grw _ (by kernel_rfl) (by kernel_rfl) (Gr.refl _) ?_
            repeat (go_big_quiet_step ((first | (go_at_call 9; exact quiet_grw (HOV.out _)))))
            refine wpQuiet_nil ?_
            intro wq hwq
            obtain ⟨gq, hwq'⟩ := hwq
            subst hwq'
            clear GC
            have gq1 := gq.gr
            generalize gq.w = wq at gq1 ⊢
            obtain ⟨Xq, Yq, cq, fq⟩ := gq1.use
            have sq := gq1.size
            (try simp only [World.size_alloc, World.size_setCell, World.heap_drewN] at sq)
            go_wp2
            go_ret
            exact ⟨R.ret_bool HE.out.symm, gV.trans (by repeat (first | with_reducible exact Gr.refl _ | with_reducible assumption | with_reducible refine Gr.alloc ?_ _ | with_reducible refine Gr.drewN ?_ _ | with_reducible refine Gr.drew ?_ | with_reducible refine Gr.setCell ?_ (by first | (dsimp only; omega) | (simp only [World.size_alloc]; omega) | (with_reducible refine Gr.size ?_; (repeat (first | with_reducible exact Gr.refl _ | with_reducible assumption | with_reducible refine Gr.alloc ?_ _ | with_reducible refine Gr.drewN ?_ _ | with_reducible refine Gr.drew ?_ | with_reducible refine Gr.trans ?_ (by with_reducible assumption))); done)) _ | with_reducible refine Gr.trans ?_ (by with_reducible assumption)))⟩
          | false =>
            rcases HKI.out with ⟨hn1, hd1⟩ | ⟨hn1, hd1⟩
            · have HI2 := hide (HCO.out (by rw [HBA.out, hd1]; rfl))
              clear HKI HBA HCO HYE hd1
              go_upto_region 7 with fail
              have GC := @GrW.cell
              refine wp_region_grw _ (by kernel_rfl) (by kernel_rfl) (Gr.refl _) ?_
              repeat (go_big_quiet_step ((first | (go_at_call 9; exact quiet_grw (HOV.out _)))))
              refine wpQuiet_nil ?_
              intro wq hwq
              obtain ⟨gq, hwq'⟩ := hwq
              subst hwq'
              clear GC
              have gq1 := gq.gr
              generalize gq.w = wq at gq1 ⊢
              obtain ⟨Xq, Yq, cq, fq⟩ := gq1.use
              have sq := gq1.size
              (try simp only [World.size_alloc, World.size_setCell, World.heap_drewN] at sq)
              go_wp2
              go_roundw
              case rel => exact ⟨e + 1, by omega, by go_num, g2.trans (by repeat (first | with_reducible exact Gr.refl _ | with_reducible assumption | with_reducible refine Gr.alloc ?_ _ | with_reducible refine Gr.drewN ?_ _ | with_reducible refine Gr.drew ?_ | with_reducible refine Gr.setCell ?_ (by first | (dsimp only; omega) | (simp only [World.size_alloc]; omega) | (with_reducible refine Gr.size ?_; (repeat (first | with_reducible exact Gr.refl _ | with_reducible assumption | with_reducible refine Gr.alloc ?_ _ | with_reducible refine Gr.drewN ?_ _ | with_reducible refine Gr.drew ?_ | with_reducible refine Gr.trans ?_ (by with_reducible assumption))); done)) _ | with_reducible refine Gr.trans ?_ (by with_reducible assumption))), HI2⟩
              case measure => simp only [intOf]; omega
            · cases tb with
              | true =>
                have HE := hide (HYE.out (by rw [HBA.out, hd1]; rfl))
                clear HKI HBA HCO HYE hd1
                go_upto_region 7 with fail
                have GC := @GrW.cell
                refine wp_region_grw _ (by kernel_rfl) (by kernel_rfl) (Gr.refl _) ?_
                repeat (go_big_quiet_step ((first | (go_at_call 9; exact quiet_grw (HOV.out _)) | (go_at_call 58; exact quiet_grw (HTO.out _)))))
                refine wpQuiet_nil ?_
                intro wq hwq
                obtain ⟨gq, hwq'⟩ := hwq
                subst hwq'
                clear GC
                have gq1 := gq.gr
                generalize gq.w = wq at gq1 ⊢
                obtain ⟨Xq, Yq, cq, fq⟩ := gq1.use
                have sq := gq1.size
                (try simp only [World.size_alloc, World.size_setCell, World.heap_drewN] at sq)
                go_wp2
                go_ret
                exact ⟨R.ret_bool HE.out.symm, gV.trans (by repeat (first | with_reducible exact Gr.refl _ | with_reducible assumption | with_reducible refine Gr.alloc ?_ _ | with_reducible refine Gr.drewN ?_ _ | with_reducible refine Gr.drew ?_ | with_reducible refine Gr.setCell ?_ (by first | (dsimp only; omega) | (simp only [World.size_alloc]; omega) | (with_reducible refine Gr.size ?_; (repeat (first | with_reducible exact Gr.refl _ | with_reducible assumption | with_reducible refine Gr.alloc ?_ _ | with_reducible refine Gr.drewN ?_ _ | with_reducible refine Gr.drew ?_ | with_reducible refine Gr.trans ?_ (by with_reducible assumption))); done)) _ | with_reducible refine Gr.trans ?_ (by with_reducible assumption)))⟩
              | false =>
                have HI2 := hide (HCO.out (by rw [HBA.out, hd1]; rfl))
                clear HKI HBA HCO HYE hd1
                go_upto_region 7 with fail
                have GC := @GrW.cell
                refine wp_region_grw _ (by kernel_rfl) (by kernel_rfl) (Gr.refl _) ?_
                repeat (go_big_quiet_step ((first | (go_at_call 9; exact quiet_grw (HOV.out _)) | (go_at_call 58; exact quiet_grw (HTO.out _)))))
                refine wpQuiet_nil ?_
                intro wq hwq
                obtain ⟨gq, hwq'⟩ := hwq
                subst hwq'
                clear GC
                have gq1 := gq.gr
                generalize gq.w = wq at gq1 ⊢
                obtain ⟨Xq, Yq, cq, fq⟩ := gq1.use
                have sq := gq1.size
                (try simp only [World.size_alloc, World.size_setCell, World.heap_drewN] at sq)
                go_wp2
                go_roundw
                case rel => exact ⟨e + 1, by omega, by go_num, g2.trans (by repeat (first | with_reducible exact Gr.refl _ | with_reducible assumption | with_reducible refine Gr.alloc ?_ _ | with_reducible refine Gr.drewN ?_ _ | with_reducible refine Gr.drew ?_ | with_reducible refine Gr.setCell ?_ (by first | (dsimp only; omega) | (simp only [World.size_alloc]; omega) | (with_reducible refine Gr.size ?_; (repeat (first | with_reducible exact Gr.refl _ | with_reducible assumption | with_reducible refine Gr.alloc ?_ _ | with_reducible refine Gr.drewN ?_ _ | with_reducible refine Gr.drew ?_ | with_reducible refine Gr.trans ?_ (by with_reducible assumption))); done)) _ | with_reducible refine Gr.trans ?_ (by with_reducible assumption))), HI2⟩
                case measure => simp only [intOf]; omega
        · obtain rfl : e = k + 1 := by omega
          have HO2 := hide (show ∀ i, i < k + 1 → ∀ e f r s, e ≤ i → p.fl[i]? = some f → rs[e]? = some r → rs[i + 1]? = some s → baB (decide (f.pa = e)) r s = false by
            intro i hi e f' r s' hei h1 h2 h3
            rcases Nat.lt_or_ge i k with h | h
            · exact HO.out i h e f' r s' hei h1 h2 h3
            · obtain rfl : i = k := by omega
              rw [HFF.out] at h1
              rw [HSS.out] at h3
              obtain rfl := Option.some.inj h1
              obtain rfl := Option.some.inj h3
              exact HI.out e r (by omega) h2)
          go_wp2
          go_roundw
          case rel => exact ⟨k + 1, by omega, by go_num, gW.trans g2, HO2⟩
          case measure => simp only [intOf]; omega
    · obtain rfl : k = p.fl.length := by omega
      have HE := hide (fmB_no HO.out)
      go_wp2
      go_ret
      exact ⟨R.ret_bool HE.out.symm, g⟩
end Go.Proofs.YtjnfodbniohkhaaGreat
set_option linter.unusedVariables false
set_option linter.unusedSimpArgs false
namespace Go.Proofs.YtjnfodbniohkhaaGreat
set_option linter.unusedVariables false
set_option linter.unusedSimpArgs false
open Go Go.ChangeShapes Go.WideShapes Go.ChangeAt Go.RowKit Go.Deep

end Go.Proofs.YtjnfodbniohkhaaGreat
set_option linter.unusedVariables false
set_option linter.unusedSimpArgs false
namespace Go.Proofs.YtjnfodbniohkhaaGreat
set_option linter.unusedVariables false
set_option linter.unusedSimpArgs false
open Go Go.ChangeShapes Go.WideShapes Go.ChangeAt Go.RowKit Go.Deep

/-- what a hole of a valid part keeps -/
structure HoK (n : Nat) (z : Ho) : Prop where
  fa : 0 ≤ z.fa ∧ z.fa ≤ n
  kd : z.kd = 1 ∨ z.kd = 2
  x : 1 ≤ z.x ∧ z.x ≤ 150
  y : 1 ≤ z.y ∧ z.y ≤ 150
  w : 1 ≤ z.w ∧ z.w ≤ 150
  h : 1 ≤ z.h ∧ z.h ≤ 150
theorem hoK_of {p : Pa} (h : valE p = 0) {i : Nat} {x : Ho} (hx : p.ho[i]? = some x) : HoK p.fl.length x := by
  have G := good_of h
  have := List.all_eq_true.1 G.ho x (List.mem_of_getElem? hx)
  simp [hoB, wbB, wiB] at this
  obtain ⟨⟨⟨⟨a1, a2⟩, a3⟩, ⟨b1, b2⟩, b3, b4⟩, ⟨c1, c2⟩, c3, c4⟩ := this
  have e := ext_le G.fl a1 a2 (Nat.le_refl _)
  exact ⟨⟨a1, a2⟩, a3, by omega, by omega, by omega, by omega⟩
def rbF (L : List Pl) (f : Fl) : Bool := decide (abv ((L[f.pa.toNat]?).getD pl0) (loV f ((L[f.pa.toNat]?).getD pl0)) < 0)
def rbH (L : List Pl) (x : Ho) : Bool := decide (abv ((L[x.fa.toNat]?).getD pl0) x.y < 1)
/-- a flange or a hole reaches into a bend -/
def rbB (p : Pa) (L : List Pl) : Bool := p.fl.any (rbF L) || p.ho.any (rbH L)
theorem rbB_fl {p : Pa} {L : List Pl} {i : Nat} {f : Fl} (h : p.fl[i]? = some f) (k : rbF L f = true) : rbB p L = true := by
  unfold rbB
  rw [List.any_eq_true.2 ⟨f, List.mem_of_getElem? h, k⟩]
  rfl
theorem rbB_ho {p : Pa} {L : List Pl} {i : Nat} {x : Ho} (h : p.ho[i]? = some x) (k : rbH L x = true) : rbB p L = true := by
  unfold rbB
  rw [List.any_eq_true.2 ⟨x, List.mem_of_getElem? h, k⟩, Bool.or_true]
theorem rbB_no {p : Pa} {L : List Pl} (h : ∀ i f, i < p.fl.length → p.fl[i]? = some f → rbF L f = false) (k : ∀ i x, i < p.ho.length → p.ho[i]? = some x → rbH L x = false) : rbB p L = false := by
  unfold rbB
  rw [Bool.or_eq_false_iff, List.any_eq_false, List.any_eq_false]
  constructor
  · intro f hf
    obtain ⟨i, hi⟩ := List.mem_iff_getElem?.1 hf
    rw [h i f (List.getElem?_eq_some_iff.1 hi).1 hi]
    decide
  · intro f hf
    obtain ⟨i, hi⟩ := List.mem_iff_getElem?.1 hf
    rw [k i f (List.getElem?_eq_some_iff.1 hi).1 hi]
    decide
set_option maxRecDepth 100000 in
set_option maxHeartbeats 4000000 in
theorem reachesBend_any (p : Pa) (t : Tb) (A B C : Option Addr) (c d q : Nat) (w : World) (hP : PaW w p A c B d) (h0 : dlE p t = 0) (hS : SlP w C q (plsA p t)) :
    Calls Tryz.prog 23 #[pav p A c B d, .slice C (p.fl.length + 1) q] w fun e w' => e = .returned (.bool (rbB p (plsA p t))) ∧ Gr w w' := by
  have hva := (dlE_zero h0).1
  have h5 := (good_of hva).nfl
  have h6 := (good_of hva).nho
  have HB := hide (flsB_of h0)
  have HPB := hide (fun q hq => pls_b (flsB_of h0) (Nat.le_refl _) q hq)
  have HOB := hide (fun i x hx => hoK_of (i := i) (x := x) hva hx)
  have HLN := hide (show (plsA p t).length = p.fl.length + 1 from pls_len (Nat.le_refl _))
  have HLL := hide (show pls p.wd p.ht p.fl (dT t) p.fl.length = plsA p t from rfl)
  rw [HLL.out] at HPB
  have HF := hide hP.fl
  have HH := hide hP.ho
  have HS := hide hS
  clear hP hS h0 hva HLL
  generalize hLe : plsA p t = L at *
  clear hLe
  go_enter Tryz.func23, Tryz.ntmps23
  go_wp2
  go_loopw [13] (fun i wr => ∃ k : Nat, k ≤ p.fl.length ∧ i = iv k ∧ Gr (w.alloc (.cells #[.string p.nm, .string p.mt, iv p.ga, iv p.gr, iv p.wd, iv p.ht, .slice A p.fl.length c, .slice B p.ho.length d] 25)) wr ∧ Hid (∀ i f, i < k → p.fl[i]? = some f → rbF L f = false)) (fun i _ => p.fl.length - (intOf i).toNat)
  case atStart => exact ⟨0, by omega, rfl, Gr.refl _, fun i f hi => by omega⟩
  case round =>
    obtain ⟨k, hk, rfl, g, HO⟩ := hrel
    have gw : Gr w wr := (by repeat (first | with_reducible exact Gr.refl _ | with_reducible assumption | with_reducible refine Gr.alloc ?_ _ | with_reducible refine Gr.drewN ?_ _ | with_reducible refine Gr.drew ?_ | with_reducible refine Gr.setCell ?_ (by first | (dsimp only; omega) | (simp only [World.size_alloc]; omega) | (with_reducible refine Gr.size ?_; (repeat (first | with_reducible exact Gr.refl _ | with_reducible assumption | with_reducible refine Gr.alloc ?_ _ | with_reducible refine Gr.drewN ?_ _ | with_reducible refine Gr.drew ?_ | with_reducible refine Gr.trans ?_ (by with_reducible assumption))); done)) _ | with_reducible refine Gr.trans ?_ (by with_reducible assumption)))
    have zr := g.size
    simp only [World.size_alloc] at zr
    have p7 : wr.cell? ⟨w.heap.size, 7, none⟩ = some (.slice B p.ho.length d) := (g.cell w.heap.size 7 (by simp)).trans (by simp [go_sem])
    have l0 : w.heap.size < wr.heap.size := by omega
    by_cases hkl : k < p.fl.length
    · obtain ⟨f, hf⟩ : ∃ f, p.fl[k]? = some f := ⟨_, List.getElem?_eq_getElem hkl⟩
      obtain ⟨b, off, hA, x0, x1, x2, x3, x4, x5, x6⟩ := HF.out.rd.fl hf
      subst hA
      have hb : b < w.heap.size := cell_lt (by rw [x0]; rfl)
      have hbr : b < wr.heap.size := by omega
      have y0 := (gw.cell _ _ hb).trans x0
      have y1 := (gw.cell _ _ hb).trans x1
      have y2 := (gw.cell _ _ hb).trans x2
      have y3 := (gw.cell _ _ hb).trans x3
      have y4 := (gw.cell _ _ hb).trans x4
      have y5 := (gw.cell _ _ hb).trans x5
      have y6 := (gw.cell _ _ hb).trans x6
      clear x0 x1 x2 x3 x4 x5 x6
      have hpa := HB.out.pa k f hf
      have hfb := HB.out.fl k f hf
      obtain ⟨m, hm⟩ : ∃ m : Nat, f.pa = m := ⟨f.pa.toNat, by omega⟩
      obtain ⟨gp, hgp⟩ : ∃ gp, L[m]? = some gp := ⟨_, List.getElem?_eq_getElem (by rw [HLN.out]; omega)⟩
      have hpb : PlB p.fl.length gp := HPB.out gp (List.mem_of_getElem? hgp)
      have HLO := hide (fun w => lowestLine_any f gp p.fl.length w hpb hfb)
      have hlo : -400 ≤ loV f gp ∧ loV f gp ≤ 400 := by
        obtain ⟨-, u2⟩ := be_bd hpb hfb hfb.o.2
        have := hfb.wd
        unfold loV
        split <;> omega
      have HAB := hide (fun w => above_any gp (loV f gp) w (by omega) (by have := hpb.lo; omega))
      have HRB := hide (show rbF L f = decide (abv gp (loV f gp) < 0) by
        unfold rbF
        rw [hm, show ((m : Int)).toNat = m from rfl, hgp]
        rfl)
      obtain ⟨bs, os, hC, v0, v1, v2, v3, v4, v5⟩ := (HS.out.gr gw).rd.pl hgp
      subst hC
      have hbs : bs < wr.heap.size := cell_lt (by rw [v0]; rfl)
      have HFF := hide hf
      have hk0 : (0 : Int) ≤ (k : Int) := by omega
      have hk1 : (k : Int) < (p.fl.length : Int) := by omega
      have hm0 : (0 : Int) ≤ (m : Int) := by omega
      have hm1 : (m : Int) < (p.fl.length : Int) + 1 := by omega
      obtain ⟨nm, pa, sd, fo, wd, ln, an⟩ := f
      simp only at hm y0 y1 y2 y3 y4 y5 y6
      subst hm
      clear hgp hpb hf hlo hfb hpa
      by_cases hsh : abv gp (loV ⟨nm, (m : Int), sd, fo, wd, ln, an⟩ gp) < 0
      · have HE := hide (rbB_fl HFF.out (by rw [HRB.out]; simpa using hsh))
        clear HO HRB p7
        go_upto_region 5 with fail
        have GC := @GrW.cell
        refine wp_region_grw _ (by kernel_rfl) (by kernel_rfl) (Gr.refl _) ?_
        repeat (go_big_quiet_step ((first | (go_at_call 55; exact quiet_grw (HLO.out _)) | (go_at_call 54; exact quiet_grw (HAB.out _)))))
        refine wpQuiet_nil ?_
        intro wq hwq
        obtain ⟨gq, hwq'⟩ := hwq
        subst hwq'
        clear GC
        have gq1 := gq.gr
        generalize gq.w = wq at gq1 ⊢
        obtain ⟨Xq, Yq, cq, fq⟩ := gq1.use
        have sq := gq1.size
        (try simp only [World.size_alloc, World.size_setCell, World.heap_drewN] at sq)
        go_wp2
        go_ret
        exact ⟨R.ret_bool HE.out.symm, gw.trans (by repeat (first | with_reducible exact Gr.refl _ | with_reducible assumption | with_reducible refine Gr.alloc ?_ _ | with_reducible refine Gr.drewN ?_ _ | with_reducible refine Gr.drew ?_ | with_reducible refine Gr.setCell ?_ (by first | (dsimp only; omega) | (simp only [World.size_alloc]; omega) | (with_reducible refine Gr.size ?_; (repeat (first | with_reducible exact Gr.refl _ | with_reducible assumption | with_reducible refine Gr.alloc ?_ _ | with_reducible refine Gr.drewN ?_ _ | with_reducible refine Gr.drew ?_ | with_reducible refine Gr.trans ?_ (by with_reducible assumption))); done)) _ | with_reducible refine Gr.trans ?_ (by with_reducible assumption)))⟩
      · have HO2 := hide (show ∀ i f, i < k + 1 → p.fl[i]? = some f → rbF L f = false by
          intro i f' hi hf'
          rcases Nat.lt_or_ge i k with h | h
          · exact HO.out i f' h hf'
          · obtain rfl : i = k := by omega
            rw [HFF.out] at hf'
            obtain rfl := Option.some.inj hf'
            rw [HRB.out]
            simpa using hsh)
        clear HO HRB p7
        go_upto_region 5 with fail
        have GC := @GrW.cell
        refine wp_region_grw _ (by kernel_rfl) (by kernel_rfl) (Gr.refl _) ?_
        repeat (go_big_quiet_step ((first | (go_at_call 55; exact quiet_grw (HLO.out _)) | (go_at_call 54; exact quiet_grw (HAB.out _)))))
        refine wpQuiet_nil ?_
        intro wq hwq
        obtain ⟨gq, hwq'⟩ := hwq
        subst hwq'
        clear GC
        have gq1 := gq.gr
        generalize gq.w = wq at gq1 ⊢
        obtain ⟨Xq, Yq, cq, fq⟩ := gq1.use
        have sq := gq1.size
        (try simp only [World.size_alloc, World.size_setCell, World.heap_drewN] at sq)
        go_wp2
        go_roundw
        case rel => exact ⟨k + 1, by omega, by go_num, g.trans (by repeat (first | with_reducible exact Gr.refl _ | with_reducible assumption | with_reducible refine Gr.alloc ?_ _ | with_reducible refine Gr.drewN ?_ _ | with_reducible refine Gr.drew ?_ | with_reducible refine Gr.setCell ?_ (by first | (dsimp only; omega) | (simp only [World.size_alloc]; omega) | (with_reducible refine Gr.size ?_; (repeat (first | with_reducible exact Gr.refl _ | with_reducible assumption | with_reducible refine Gr.alloc ?_ _ | with_reducible refine Gr.drewN ?_ _ | with_reducible refine Gr.drew ?_ | with_reducible refine Gr.trans ?_ (by with_reducible assumption))); done)) _ | with_reducible refine Gr.trans ?_ (by with_reducible assumption))), HO2⟩
        case measure => simp only [intOf]; omega
    · obtain rfl : k = p.fl.length := by omega
      obtain ⟨wo, rfl⟩ : ∃ wo, wo = wr := ⟨_, rfl⟩
      have HO1 := HO
      clear HO
      go_wp2
      go_loopw [32] (fun i wr => ∃ k : Nat, k ≤ p.ho.length ∧ i = iv k ∧ Gr wo wr ∧ Hid (∀ i x, i < k → p.ho[i]? = some x → rbH L x = false)) (fun i _ => p.ho.length - (intOf i).toNat)
      case atStart => exact ⟨0, by omega, rfl, Gr.refl _, fun i f hi => by omega⟩
      case round =>
        obtain ⟨k, hk, rfl, g2, HO⟩ := hrel
        have gV : Gr w wr := gw.trans g2
        have zr2 := g2.size
        by_cases hkl : k < p.ho.length
        · obtain ⟨x, hx⟩ : ∃ f, p.ho[k]? = some f := ⟨_, List.getElem?_eq_getElem hkl⟩
          obtain ⟨b, off, hA, x0, x1, x2, x3, x4, x5⟩ := HH.out.rd.ho hx
          subst hA
          have hb : b < w.heap.size := cell_lt (by rw [x0]; rfl)
          have hbr : b < wr.heap.size := by omega
          have y0 := (gV.cell _ _ hb).trans x0
          have y1 := (gV.cell _ _ hb).trans x1
          have y2 := (gV.cell _ _ hb).trans x2
          have y3 := (gV.cell _ _ hb).trans x3
          have y4 := (gV.cell _ _ hb).trans x4
          have y5 := (gV.cell _ _ hb).trans x5
          clear x0 x1 x2 x3 x4 x5
          have hxk := HOB.out k x hx
          have hfa := hxk.fa
          obtain ⟨m, hm⟩ : ∃ m : Nat, x.fa = m := ⟨x.fa.toNat, by omega⟩
          obtain ⟨gp, hgp⟩ : ∃ gp, L[m]? = some gp := ⟨_, List.getElem?_eq_getElem (by rw [HLN.out]; omega)⟩
          have hpb : PlB p.fl.length gp := HPB.out gp (List.mem_of_getElem? hgp)
          have HAB := hide (fun w => above_any gp x.y w (by have := hxk.y; omega) (by have := hpb.lo; omega))
          have HRB := hide (show rbH L x = decide (abv gp x.y < 1) by
            unfold rbH
            rw [hm, show ((m : Int)).toNat = m from rfl, hgp]
            rfl)
          obtain ⟨bs, os, hC, v0, v1, v2, v3, v4, v5⟩ := (HS.out.gr gV).rd.pl hgp
          subst hC
          have hbs : bs < wr.heap.size := cell_lt (by rw [v0]; rfl)
          have HXX := hide hx
          have hk0 : (0 : Int) ≤ (k : Int) := by omega
          have hk1 : (k : Int) < (p.ho.length : Int) := by omega
          have hm0 : (0 : Int) ≤ (m : Int) := by omega
          have hm1 : (m : Int) < (p.fl.length : Int) + 1 := by omega
          obtain ⟨fa, kd, xx, yy, ww, hh⟩ := x
          simp only at hm y0 y1 y2 y3 y4 y5 HAB HRB
          subst hm
          clear hgp hpb hx hxk hfa
          by_cases hsh : abv gp yy < 1
          · have HE := hide (rbB_ho HXX.out (by rw [HRB.out]; simpa using hsh))
            clear HO HRB
            go_upto_region 11 with fail
            have GC := @GrW.cell
            refine wp_region_grw _ (by kernel_rfl) (by kernel_rfl) (Gr.refl _) ?_
            repeat (go_big_quiet_step ((first | (go_at_call 54; exact quiet_grw (HAB.out _)))))
            refine wpQuiet_nil ?_
            intro wq hwq
            obtain ⟨gq, hwq'⟩ := hwq
            subst hwq'
            clear GC
            have gq1 := gq.gr
            generalize gq.w = wq at gq1 ⊢
            obtain ⟨Xq, Yq, cq, fq⟩ := gq1.use
            have sq := gq1.size
            (try simp only [World.size_alloc, World.size_setCell, World.heap_drewN] at sq)
            go_wp2
            go_ret
            exact ⟨R.ret_bool HE.out.symm, gV.trans (by repeat (first | with_reducible exact Gr.refl _ | with_reducible assumption | with_reducible refine Gr.alloc ?_ _ | with_reducible refine Gr.drewN ?_ _ | with_reducible refine Gr.drew ?_ | with_reducible refine Gr.setCell ?_ (by first | (dsimp only; omega) | (simp only [World.size_alloc]; omega) | (with_reducible refine Gr.size ?_; (repeat (first | with_reducible exact Gr.refl _ | with_reducible assumption | with_reducible refine Gr.alloc ?_ _ | with_reducible refine Gr.drewN ?_ _ | with_reducible refine Gr.drew ?_ | with_reducible refine Gr.trans ?_ (by with_reducible assumption))); done)) _ | with_reducible refine Gr.trans ?_ (by with_reducible assumption)))⟩
          · have HO2 := hide (show ∀ i f, i < k + 1 → p.ho[i]? = some f → rbH L f = false by
              intro i f' hi hf'
              rcases Nat.lt_or_ge i k with h | h
              · exact HO.out i f' h hf'
              · obtain rfl : i = k := by omega
                rw [HXX.out] at hf'
                obtain rfl := Option.some.inj hf'
                rw [HRB.out]
                simpa using hsh)
            clear HO HRB
            go_upto_region 11 with fail
            have GC := @GrW.cell
            refine wp_region_grw _ (by kernel_rfl) (by kernel_rfl) (Gr.refl _) ?_
            repeat (go_big_quiet_step ((first | (go_at_call 54; exact quiet_grw (HAB.out _)))))
            refine wpQuiet_nil ?_
            intro wq hwq
            obtain ⟨gq, hwq'⟩ := hwq
            subst hwq'
            clear GC
            have gq1 := gq.gr
            generalize gq.w = wq at gq1 ⊢
            obtain ⟨Xq, Yq, cq, fq⟩ := gq1.use
            have sq := gq1.size
            (try simp only [World.size_alloc, World.size_setCell, World.heap_drewN] at sq)
            go_wp2
            go_roundw
            case rel => exact ⟨k + 1, by omega, by go_num, g2.trans (by repeat (first | with_reducible exact Gr.refl _ | with_reducible assumption | with_reducible refine Gr.alloc ?_ _ | with_reducible refine Gr.drewN ?_ _ | with_reducible refine Gr.drew ?_ | with_reducible refine Gr.setCell ?_ (by first | (dsimp only; omega) | (simp only [World.size_alloc]; omega) | (with_reducible refine Gr.size ?_; (repeat (first | with_reducible exact Gr.refl _ | with_reducible assumption | with_reducible refine Gr.alloc ?_ _ | with_reducible refine Gr.drewN ?_ _ | with_reducible refine Gr.drew ?_ | with_reducible refine Gr.trans ?_ (by with_reducible assumption))); done)) _ | with_reducible refine Gr.trans ?_ (by with_reducible assumption))), HO2⟩
            case measure => simp only [intOf]; omega
        · obtain rfl : k = p.ho.length := by omega
          have HE := hide (rbB_no HO1.out HO.out)
          go_wp2
          go_ret
          exact ⟨R.ret_bool HE.out.symm, gV⟩
end Go.Proofs.YtjnfodbniohkhaaGreat
set_option linter.unusedVariables false
set_option linter.unusedSimpArgs false
namespace Go.Proofs.YtjnfodbniohkhaaGreat
set_option linter.unusedVariables false
set_option linter.unusedSimpArgs false
open Go Go.ChangeShapes Go.WideShapes Go.ChangeAt Go.RowKit Go.Deep

/-- the size of the face that has this number -/
theorem pls_ext {p : Pa} {t : Tb} (h0 : dlE p t = 0) {m : Nat} {g : Pl} (hg : (plsA p t)[m]? = some g) : g.w = extW p m ∧ g.h = extH p m ∧ (m = 0 → g.lo = 0) := by
  have HB := flsB_of h0
  cases m with
  | zero =>
    rw [show (plsA p t)[0]? = some ⟨0, 0, 0, p.wd, p.ht, 0⟩ from pls_zero] at hg
    obtain rfl := Option.some.inj hg
    exact ⟨rfl, rfl, fun _ => rfl⟩
  | succ j =>
    have hl := (List.getElem?_eq_some_iff.1 hg).1
    rw [show (plsA p t).length = p.fl.length + 1 from pls_len (Nat.le_refl _)] at hl
    obtain ⟨f, hf⟩ : ∃ f, p.fl[j]? = some f := ⟨_, List.getElem?_eq_getElem (by omega)⟩
    obtain ⟨s1, s2, _⟩ := pls_size HB hf hg
    refine ⟨?_, ?_, fun h => by omega⟩
    · rw [s1]
      unfold extW
      rw [if_neg (by omega), show (((j + 1 : Nat) : Int) - 1).toNat = j by omega, hf]
      rfl
    · rw [s2]
      unfold extH
      rw [if_neg (by omega), show (((j + 1 : Nat) : Int) - 1).toNat = j by omega, hf]
      rfl
theorem rbF_zero {p : Pa} {t : Tb} (h0 : dlE p t = 0) {k : Nat} {f : Fl} (hf : p.fl[k]? = some f) (hz : f.pa = 0) : rbF (plsA p t) f = false := by
  have hva := (dlE_zero h0).1
  obtain ⟨e1, e2, e3⟩ := flE_side (flE_all hva k f hf)
  have hfb := (flsB_of h0).fl k f hf
  unfold rbF
  rw [hz, show ((0 : Int)).toNat = 0 from rfl, show (plsA p t)[0]? = some ⟨0, 0, 0, p.wd, p.ht, 0⟩ from pls_zero]
  rw [decide_eq_false_iff_not]
  have h1 := (flsB_of h0).bw
  have h2 := (flsB_of h0).bh
  have h3 := hfb.wd
  have h4 := hfb.sd
  unfold sdOk at h4
  rw [hz] at e3
  show ¬ (loV f ⟨0, 0, 0, p.wd, p.ht, 0⟩ * 720 - 0 < 0)
  have : 0 ≤ loV f ⟨0, 0, 0, p.wd, p.ht, 0⟩ := by
    unfold loV beV sidL extH extW at *
    simp only [if_true] at e3
    rcases h4 with h | h | h | h <;> rw [h] at e3 ⊢ <;> simp at e3 ⊢ <;> omega
  omega
theorem rbF_succ {p : Pa} {t : Tb} (h0 : dlE p t = 0) (hns : ∀ q ∈ plsA p t, 1 ≤ abv q q.h) {k j : Nat} {f : Fl} (hf : p.fl[k]? = some f) (hj : f.pa = (j : Int) + 1) {g : Pl} (hg : (plsA p t)[j + 1]? = some g) :
    (f.sd = 0 ∧ rbF (plsA p t) f = decide ((g.h - f.o - f.wd) * 720 < g.lo)) ∨ (f.sd = 2 ∧ rbF (plsA p t) f = decide (f.o * 720 < g.lo)) ∨ (f.sd = 3 ∧ rbF (plsA p t) f = false) := by
  have hva := (dlE_zero h0).1
  obtain ⟨e1, e2, e3⟩ := flE_side (flE_all hva k f hf)
  have hfb := (flsB_of h0).fl k f hf
  have h4 := hfb.sd
  have hn := hns g (List.mem_of_getElem? hg)
  have E : rbF (plsA p t) f = decide (abv g (loV f g) < 0) := by
    unfold rbF
    rw [hj, show ((j : Int) + 1).toNat = j + 1 by omega, hg]
    rfl
  unfold sdOk at h4
  rcases h4 with h | h | h | h
  · refine .inl ⟨h, ?_⟩
    rw [E, decide_eq_decide]
    unfold abv loV beV
    simp only [h, if_true]
    omega
  · have := e1 h
    omega
  · refine .inr (.inl ⟨h, ?_⟩)
    rw [E, decide_eq_decide]
    unfold abv loV beV
    simp only [h, if_true, Int.reduceEq, if_false]
    omega
  · refine .inr (.inr ⟨h, ?_⟩)
    rw [E, decide_eq_false_iff_not]
    unfold abv at hn ⊢
    unfold loV beV
    simp only [h, if_true, Int.reduceEq, if_false]
    omega
theorem rbH_zero {p : Pa} {t : Tb} (h0 : dlE p t = 0) {k : Nat} {x : Ho} (hx : p.ho[k]? = some x) (hz : x.fa = 0) : rbH (plsA p t) x = false := by
  have := (hoK_of (dlE_zero h0).1 hx).y
  unfold rbH
  rw [hz, show ((0 : Int)).toNat = 0 from rfl, show (plsA p t)[0]? = some ⟨0, 0, 0, p.wd, p.ht, 0⟩ from pls_zero, decide_eq_false_iff_not]
  show ¬ (x.y * 720 - 0 < 1)
  omega
theorem rbH_succ {p : Pa} {t : Tb} {x : Ho} {j : Nat} (hj : x.fa = (j : Int) + 1) {g : Pl} (hg : (plsA p t)[j + 1]? = some g) : rbH (plsA p t) x = decide (x.y * 720 - g.lo < 1) := by
  unfold rbH
  rw [hj, show ((j : Int) + 1).toNat = j + 1 by omega, hg]
  rfl
end Go.Proofs.YtjnfodbniohkhaaGreat
set_option linter.unusedVariables false
set_option linter.unusedSimpArgs false
namespace Go.Proofs.YtjnfodbniohkhaaGreat
set_option linter.unusedVariables false
set_option linter.unusedSimpArgs false
open Go Go.ChangeShapes Go.WideShapes Go.ChangeAt Go.RowKit Go.Deep

abbrev nilS : Value := .slice none 0 0
theorem Made.st0 {w : World} {B : Nat} {a b c d : Value} (h : Made w B #[a, b, c, d]) (v : Value) : Made (w.setCell ⟨B, 0, none⟩ v) B #[v, b, c, d] := by
  obtain ⟨h0, h1, h2⟩ := h
  refine ⟨by simpa using h0, fun o => ?_, fun o => ?_⟩
  · have e0 := h1 0
    have eo := h1 o
    simp at e0
    by_cases ho : o = 0
    · subst ho
      simp [go_sem, e0]
    · have : #[v, b, c, d][o]? = #[a, b, c, d][o]? := by
        rcases o with _ | o
        · exact absurd rfl ho
        · simp
      simp [go_sem, e0, eo, ho, this]
  · have := h2 o
    simp [go_sem, this]
theorem Made.st1 {w : World} {B : Nat} {a b c d : Value} (h : Made w B #[a, b, c, d]) (v : Value) : Made (w.setCell ⟨B, 1, none⟩ v) B #[a, v, c, d] := by
  obtain ⟨h0, h1, h2⟩ := h
  refine ⟨by simpa using h0, fun o => ?_, fun o => ?_⟩
  · have e0 := h1 1
    have eo := h1 o
    simp at e0
    by_cases ho : o = 1
    · subst ho
      simp [go_sem, e0]
    · have : #[a, v, c, d][o]? = #[a, b, c, d][o]? := by
        rcases o with _ | _ | o
        · simp
        · exact absurd rfl ho
        · simp
      simp [go_sem, e0, eo, ho, this]
  · have := h2 o
    simp [go_sem, this]
theorem Made.st2 {w : World} {B : Nat} {a b c d : Value} (h : Made w B #[a, b, c, d]) (v : Value) : Made (w.setCell ⟨B, 2, none⟩ v) B #[a, b, v, d] := by
  obtain ⟨h0, h1, h2⟩ := h
  refine ⟨by simpa using h0, fun o => ?_, fun o => ?_⟩
  · have e0 := h1 2
    have eo := h1 o
    simp at e0
    by_cases ho : o = 2
    · subst ho
      simp [go_sem, e0]
    · have : #[a, b, v, d][o]? = #[a, b, c, d][o]? := by
        rcases o with _ | _ | _ | o
        · simp
        · simp
        · exact absurd rfl ho
        · simp
      simp [go_sem, e0, eo, ho, this]
  · have := h2 o
    simp [go_sem, this]
theorem Made.st3 {w : World} {B : Nat} {a b c d : Value} (h : Made w B #[a, b, c, d]) (v : Value) : Made (w.setCell ⟨B, 3, none⟩ v) B #[a, b, c, v] := by
  obtain ⟨h0, h1, h2⟩ := h
  refine ⟨by simpa using h0, fun o => ?_, fun o => ?_⟩
  · have e0 := h1 3
    have eo := h1 o
    simp at e0
    by_cases ho : o = 3
    · subst ho
      simp [go_sem, e0]
    · have : #[a, b, c, v][o]? = #[a, b, c, d][o]? := by
        rcases o with _ | _ | _ | _ | o
        · simp
        · simp
        · simp
        · exact absurd rfl ho
        · simp
      simp [go_sem, e0, eo, ho, this]
  · have := h2 o
    simp [go_sem, this]
/-- four numbers stored at a block -/
def set4 (w : World) (B : Nat) (x y z u : Int) : World := (((w.setCell ⟨B, 0, none⟩ (iv x)).setCell ⟨B, 1, none⟩ (iv y)).setCell ⟨B, 2, none⟩ (iv z)).setCell ⟨B, 3, none⟩ (iv u)
theorem Made.set4 {w : World} {B : Nat} {a b c d : Value} (h : Made w B #[a, b, c, d]) (x y z u : Int) : Made (Go.Proofs.YtjnfodbniohkhaaGreat.set4 w B x y z u) B #[iv x, iv y, iv z, iv u] :=
  (((h.st0 _).st1 _).st2 _).st3 _
theorem Made.other4 {w : World} {C : Nat} {a : Array Value} (h : Made w C a) {B : Nat} (x y z u : Int) (hne : C ≠ B) : Made (Go.Proofs.YtjnfodbniohkhaaGreat.set4 w B x y z u) C a :=
  (((h.other1 _ hne).other1 _ hne).other1 _ hne).other1 _ hne
theorem gr_set4 {w0 w : World} {B : Nat} (x y z u : Int) (g : Gr w0 w) (h : w0.heap.size ≤ B) : Gr w0 (set4 w B x y z u) := by
  unfold set4
  exact Gr.setCell (Gr.setCell (Gr.setCell (Gr.setCell g (by dsimp only; omega) _) (by dsimp only; omega) _) (by dsimp only; omega) _) (by dsimp only; omega) _
theorem size_set4 (w : World) (B : Nat) (x y z u : Int) : (set4 w B x y z u).heap.size = w.heap.size := by
  unfold set4
  simp only [World.size_setCell]
/-- all blocks of a but B are as they were -/
def Bx (B : Nat) (a b : World) : Prop := a.heap.size ≤ b.heap.size ∧ ∀ k, k < a.heap.size → k ≠ B → b.heap[k]? = a.heap[k]?
theorem Bx.refl (B : Nat) (a : World) : Bx B a a := ⟨Nat.le_refl _, fun _ _ _ => rfl⟩
theorem Bx.gr {B : Nat} {a b c : World} (h : Bx B a b) (g : Gr b c) : Bx B a c :=
  ⟨Nat.le_trans h.1 g.size, fun k h1 h2 => (Below.block g k (Nat.lt_of_lt_of_le h1 h.1)).trans (h.2 k h1 h2)⟩
theorem Bx.trans {B : Nat} {a b c : World} (h : Bx B a b) (g : Bx B b c) : Bx B a c :=
  ⟨Nat.le_trans h.1 g.1, fun k h1 h2 => (g.2 k (Nat.lt_of_lt_of_le h1 h.1) h2).trans (h.2 k h1 h2)⟩
theorem Bx.grown {B : Nat} {a b c : World} {row : Option Nat} (h : Bx B a b) (hg : b.grownBy c row) (hr : ∀ k, row = some k → a.heap.size ≤ k) : Bx B a c := by
  refine ⟨?_, fun k h1 h2 => ?_⟩
  · have h3 := h.1
    by_cases hz : a.heap.size = 0
    · omega
    · have hk : a.heap.size - 1 < b.heap.size := by omega
      have hne : some (a.heap.size - 1) ≠ row := fun e => by have := hr _ e.symm; omega
      have hb := hg.block _ hk hne
      have : a.heap.size - 1 < c.heap.size := by
        refine Nat.not_le.1 fun hle => ?_
        rw [Array.getElem?_eq_none hle, Array.getElem?_eq_getElem hk] at hb
        cases hb
      omega
  · have hlt : k < b.heap.size := Nat.lt_of_lt_of_le h1 h.1
    have hne : some k ≠ row := fun e => by have := hr _ e.symm; omega
    exact (hg.block k hlt hne).trans (h.2 k h1 h2)
theorem Bx.set {B : Nat} {a b : World} (h : Bx B a b) (i : Nat) (v : Value) : Bx B a (b.setCell ⟨B, i, none⟩ v) :=
  ⟨by simpa using h.1, fun k h1 h2 => (Below.heap_setCell b ⟨B, i, none⟩ v k (fun e => h2 e)).trans (h.2 k h1 h2)⟩
theorem RdL.bx {B : Nat} {a b : World} {k : Nat} {α : Type} {c : α → List Value} {A : Option Addr} {l : List α} (h : RdL a k c A l) (hA : ∀ x, A = some x → x.block ≠ B) (g : Bx B a b) : RdL b k c A l := by
  intro i x hx
  obtain ⟨bl, off, e, h0⟩ := h i x hx
  refine ⟨bl, off, e, ?_⟩
  have hne := hA _ e
  have key : ∀ (vs : List Value) (o : Nat), At a bl o vs → At b bl o vs := by
    intro vs
    induction vs with
    | nil => intro _ _; trivial
    | cons v vs ih =>
      intro o h
      refine ⟨?_, ih _ h.2⟩
      have hlt := cell_lt (by rw [h.1]; rfl)
      rw [← h.1]
      exact World.cell?_of_block (a := ⟨bl, o, none⟩) (g.2 bl hlt hne)
  exact key _ _ h0
theorem OwnL.grown {α : Type} {c : α → List Value} {w w' : World} {base : Nat} {e : TypeId} {k : Nat} {v : Value} {xs : List α} {row : Option Nat} (h : OwnL w base e k c v xs) (hg : w.grownBy w' row) (hd : ∀ b, v.ownBlock = some b → some b ≠ row) : OwnL w' base e k c v xs := by
  obtain ⟨h0, h1 | ⟨b, cap, cur, h1, hb, h2, h3⟩⟩ := id h
  · exact ⟨h0, .inl h1⟩
  · refine ⟨h0, .inr ⟨b, cap, cur, h1, hb, ?_, h3⟩⟩
    have hlt : b < w.heap.size := (Array.getElem?_eq_some_iff.1 h2).1
    rw [← h2]
    exact hg.block b hlt (hd b (by rw [h1]; rfl))
theorem OwnL.set {α : Type} {c : α → List Value} {w : World} {base : Nat} {e : TypeId} {k : Nat} {v : Value} {xs : List α} (h : OwnL w base e k c v xs) {B : Nat} (i : Nat) (u : Value) (hB : B < base) : OwnL (w.setCell ⟨B, i, none⟩ u) base e k c v xs := by
  obtain ⟨h0, h1 | ⟨b, cap, cur, h1, hb, h2, h3⟩⟩ := id h
  · exact ⟨h0, .inl h1⟩
  · refine ⟨h0, .inr ⟨b, cap, cur, h1, hb, ?_, h3⟩⟩
    rw [← h2]
    exact Below.heap_setCell w ⟨B, i, none⟩ u b (by show b ≠ B; omega)
theorem OwnL.lt {α : Type} {c : α → List Value} {w : World} {base : Nat} {e : TypeId} {k : Nat} {v : Value} {xs : List α} (h : OwnL w base e k c v xs) : ∀ b, v.ownBlock = some b → base ≤ b ∧ b < w.heap.size := fun b hb => World.ownsRow.lt h b hb
/-- two slices of the call's own lie apart -/
def DJ (u v : Value) : Prop := ∀ b, u.ownBlock = some b → v.ownBlock ≠ some b
theorem DJ.comm {u v : Value} (h : DJ u v) : DJ v u := fun b h1 h2 => h b h2 h1
theorem wpList_app2 {P : Program} {w : World} {ops : Array Oper} {rest : List Oper} {o : Oper} {a : Act} {Q : Exit → Act → World → Prop} (hgd : o.guard = none) (s x : Operand) (t : TypeId)
    (ho : o.op = .call { callee := .builtin .append, args := #[s, x], argTypes := #[t, t] })
    {α : Type} (c : α → List Value) (base : Nat) (e : TypeId) (k bts : Nat) (T : ElT P t e k bts) (hk : 0 < k) (xs : List α) (y : α) (ys : List α) (hys : xs ++ [y] = ys) (v : Value) (hs : a.eval s = v) (hown : OwnL w base e k c v xs)
    (ad : Addr) (cc : Nat) (hx : a.eval x = .slice (some ad) 1 cc) (hl : (c y).length = k) (hnews : ∀ j u, (c y)[j]? = some u → w.cell? (ad.add j) = some u) (h1 : ∀ u ∈ c y, u.oneCell' = true)
    (hn : xs.length ≤ 1000000) (hb : bts ≤ 10000) (hbase : base ≤ w.heap.size)
    (h : ∀ g cap w', OwnL w' base e k c (.slice (some ⟨g, 0, none⟩) ys.length cap) ys → (∀ b, Gr b w → b.heap.size ≤ base → Gr b w') → w.grownBy w' v.ownBlock → (v.ownBlock = some g ∨ w.heap.size ≤ g) → g < w'.heap.size → wpList P ops Q rest (a.put o.dst (.slice (some ⟨g, 0, none⟩) ys.length cap)) w') : wpList P ops Q (o :: rest) a w := by
  obtain ⟨i, z, hi, hz, hsz, hby, hzs⟩ := T.inf
  subst hys
  have hlt := fun k hk => (World.ownsRow.lt hown k hk).1
  refine wpList_append_lies w hgd s x t ho base e i z k bts T.und hi hz hsz hby hzs hk v xs.length (xs.flatMap c) hs hown ad 1 cc (c y) hx (by rw [hl, Nat.one_mul]) hnews h1 (by omega) (by unfold maxLen; omega)
    (Nat.le_trans (Nat.mul_le_mul (show xs.length + 1 ≤ 1000001 by omega) hb) (by decide)) hbase _ rfl ?_
  intro g cap w' h2 h3 h4 h5
  have hO : OwnL w' base e k c (.slice (some ⟨g, 0, none⟩) (xs ++ [y]).length cap) (xs ++ [y]) := by
    unfold OwnL
    rw [fm_snoc, List.length_append]
    exact h2
  have := h g cap w' hO (fun b hb hle => Gr.grown hb h3 (fun k hk => by have := hlt k hk; omega)) h3 (by
    rcases h4 with h4 | h4
    · exact .inl h4
    · exact .inr (by omega)) h5
  rwa [List.length_append] at this
/-- the rectangles and lines of a pattern -/
def rcF (q : Pl) : RG.Rc := rcO q 0 0 (q.w * 720) (abv q q.h)
def rcHo (L : List Pl) (x : Ho) : RG.Rc := rcO ((L[x.fa.toNat]?).getD pl0) (x.x * 720) (abv ((L[x.fa.toNat]?).getD pl0) x.y) (x.w * 720) (x.h * 720)
def cuL (L : List Pl) (l : List Ho) : List RG.Rc := (l.filter fun x => x.kd == 1).map (rcHo L)
def foL (L : List Pl) (l : List Ho) : List RG.Rc := (l.filter fun x => x.kd != 1).map (rcHo L)
/-- a bend line -/
structure Bn where
  f : Int
  p : Int
  l : Sg
  a : Int
  d : Int
abbrev bnL (b : Bn) : List Value := [iv b.f, iv b.p, iv b.l.a, iv b.l.b, iv b.l.c, iv b.l.d, iv b.a, iv b.d]
def bnO (L : List Pl) (l : List Fl) (i : Nat) : Bn :=
  let f := (l[i]?).getD ⟨⟨#[]⟩, 0, 0, 0, 0, 0, 0⟩
  let q := (L[i + 1]?).getD pl0
  ⟨i, f.pa, orS (lnO q 0 0 (q.w * 720) 0), f.an, q.lo⟩
def bnA (L : List Pl) (l : List Fl) (k : Nat) : List Bn := (List.range k).map (bnO L l)
theorem cuL_yes {L : List Pl} {l : List Ho} {k : Nat} {x : Ho} (h : l[k]? = some x) (hk : x.kd = 1) : cuL L (l.take (k + 1)) = cuL L (l.take k) ++ [rcHo L x] ∧ foL L (l.take (k + 1)) = foL L (l.take k) := by
  obtain ⟨h1, rfl⟩ := List.getElem?_eq_some_iff.1 h
  unfold cuL foL
  rw [List.take_succ_eq_append_getElem h1, List.filter_append, List.filter_append, List.map_append, List.map_append]
  simp [hk]
theorem cuL_no {L : List Pl} {l : List Ho} {k : Nat} {x : Ho} (h : l[k]? = some x) (hk : ¬ x.kd = 1) : cuL L (l.take (k + 1)) = cuL L (l.take k) ∧ foL L (l.take (k + 1)) = foL L (l.take k) ++ [rcHo L x] := by
  obtain ⟨h1, rfl⟩ := List.getElem?_eq_some_iff.1 h
  unfold cuL foL
  rw [List.take_succ_eq_append_getElem h1, List.filter_append, List.filter_append, List.map_append, List.map_append]
  simp [hk]
theorem bnA_succ (L : List Pl) (l : List Fl) (k : Nat) : bnA L l (k + 1) = bnA L l k ++ [bnO L l k] := by
  unfold bnA
  rw [List.range_succ, List.map_append]
  rfl
theorem cuL_len (L : List Pl) (l : List Ho) : (cuL L l).length ≤ l.length ∧ (foL L l).length ≤ l.length := by
  unfold cuL foL
  rw [List.length_map, List.length_map]
  exact ⟨List.length_filter_le _ _, List.length_filter_le _ _⟩
theorem rcF_take {L : List Pl} {k : Nat} {q : Pl} (h : L[k]? = some q) : (L.take (k + 1)).map rcF = (L.take k).map rcF ++ [rcF q] := by
  obtain ⟨h1, rfl⟩ := List.getElem?_eq_some_iff.1 h
  rw [List.take_succ_eq_append_getElem h1, List.map_append]
  rfl
end Go.Proofs.YtjnfodbniohkhaaGreat
set_option linter.unusedVariables false
set_option linter.unusedSimpArgs false
namespace Go.Proofs.YtjnfodbniohkhaaGreat
set_option linter.unusedVariables false
set_option linter.unusedSimpArgs false
open Go Go.ChangeShapes Go.WideShapes Go.ChangeAt Go.RowKit Go.Deep

theorem elRc : ElT Tryz.prog 32 40 4 32 := elT_of (.agg #[.int .i64 0, .int .i64 0, .int .i64 0, .int .i64 0]) Tryz.underlying32 (by kernel_rfl) rfl
theorem elBn : ElT Tryz.prog 33 47 8 64 := elT_of (.agg #[.int .i64 0, .int .i64 0, .int .i64 0, .int .i64 0, .int .i64 0, .int .i64 0, .int .i64 0, .int .i64 0]) Tryz.underlying33 (by kernel_rfl) rfl
theorem one_rc (r : RG.Rc) : ∀ u ∈ rcL r, u.oneCell' = true := by
  intro u hu
  simp at hu
  rcases hu with rfl | rfl | rfl | rfl <;> rfl
theorem one_bn (b : Bn) : ∀ u ∈ bnL b, u.oneCell' = true := by
  intro u hu
  simp at hu
  rcases hu with rfl | rfl | rfl | rfl | rfl | rfl | rfl | rfl <;> rfl
structure SlBn (w : World) (A : Option Addr) (c : Nat) (l : List Bn) : Prop where
  rd : RdL w 8 bnL A l
  cap : l.length ≤ c
  capB : c ≤ 9223372036854775807
theorem SlBn.gr {w w' : World} {A : Option Addr} {c : Nat} {l : List Bn} (h : SlBn w A c l) (g : Gr w w') : SlBn w' A c l := ⟨h.rd.gr g, h.cap, h.capB⟩
theorem slBn_own {w : World} {base : Nat} {e : TypeId} {A : Option Addr} {n d : Nat} {xs : List Bn} (h : OwnL w base e 8 bnL (.slice A n d) xs) : SlBn w A d xs := by
  obtain ⟨_, h1, h2, h3⟩ := OwnL.rd (c := bnL) (fun _ => rfl) h
  exact ⟨h1, h2, by unfold maxLen at h3; omega⟩
theorem SlRq.bx {B : Nat} {w w' : World} {A : Option Addr} {c : Nat} {l : List RG.Rc} (h : SlRq w A c l) (hA : ∀ x, A = some x → x.block ≠ B) (g : Bx B w w') : SlRq w' A c l := ⟨h.rd.bx hA g, h.cap, h.capB⟩
theorem OwnL.ne {α : Type} {c : α → List Value} {w : World} {base : Nat} {e : TypeId} {k n d : Nat} {A : Option Addr} {xs : List α} (h : OwnL w base e k c (.slice A n d) xs) {B : Nat} (hB : B < base) : ∀ x, A = some x → x.block ≠ B := by
  intro x hx
  subst hx
  obtain ⟨h0, h1 | ⟨b, cap, cur, h1, hb, h2⟩⟩ := id h
  · cases h1.1
  · injection h1 with e1 e2 e3
    injection e1 with e1
    subst e1
    show b ≠ B
    omega
theorem OwnL.ge {α : Type} {c : α → List Value} {w : World} {base : Nat} {e : TypeId} {k n d : Nat} {A : Option Addr} {xs : List α} (h : OwnL w base e k c (.slice A n d) xs) : ∀ x, A = some x → base ≤ x.block := by
  intro x hx
  subst hx
  obtain ⟨h0, h1 | ⟨b, cap, cur, h1, hb, h2⟩⟩ := id h
  · cases h1.1
  · injection h1 with e1 e2 e3
    injection e1 with e1
    subst e1
    exact hb
theorem dj_new {α : Type} {c : α → List Value} {w : World} {base : Nat} {e : TypeId} {k : Nat} {u v : Value} {xs : List α} (h : DJ v u) (hu : OwnL w base e k c u xs) {g n m cap : Nat} (ho : v.ownBlock = some g ∨ n ≤ g) (hn : w.heap.size ≤ n) : DJ (.slice (some ⟨g, 0, none⟩) m cap) u := by
  intro b hb hub
  have e : b = g := by simpa [Value.ownBlock] using hb.symm
  subst e
  rcases ho with h1 | h1
  · exact h _ h1 hub
  · have := (hu.lt _ hub).2
    omega
/-- what is known of the places of a part without an error -/
structure Pk (p : Pa) (t : Tb) : Prop where
  ded : dlE p t = 0
  nfl : p.fl.length ≤ 5
  nho : p.ho.length ≤ 6
  fls : FlsB p.wd p.ht p.fl (dT t)
  pb : ∀ q ∈ plsA p t, PlB p.fl.length q
  ab : ∀ q ∈ plsA p t, 1 ≤ abv q q.h
  ho : ∀ (i : Nat) (x : Ho), p.ho[i]? = some x → HoK p.fl.length x
  len : (plsA p t).length = p.fl.length + 1
theorem pk_of {p : Pa} {t : Tb} (h0 : plE p t = 0) : Pk p t := by
  obtain ⟨h1, hns⟩ := plE_zero h0
  have hva := (dlE_zero h1).1
  exact ⟨h1, (good_of hva).nfl, (good_of hva).nho, flsB_of h1, fun q hq => pls_b (flsB_of h1) (Nat.le_refl _) q hq, hns, fun i x hx => hoK_of hva hx, pls_len (Nat.le_refl _)⟩
set_option maxRecDepth 100000 in
set_option maxHeartbeats 8000000 in
theorem patternOf_any (p : Pa) (t : Tb) (A B C : Option Addr) (c d q : Nat) (w : World) (hP : PaW w p A c B d) (h0 : plE p t = 0) (hS : SlP w C q (plsA p t)) :
    Calls Tryz.prog 24 #[pav p A c B d, .slice C (p.fl.length + 1) q] w fun e w' => ∃ A1 d1 A2 d2 A3 d3 A4 d4, e = .returned (.agg #[.slice A1 (p.fl.length + 1) d1, .slice A2 (cuL (plsA p t) p.ho).length d2, .slice A3 (foL (plsA p t) p.ho).length d3, .slice A4 p.fl.length d4]) ∧
      SlRq w' A1 d1 ((plsA p t).map rcF) ∧ SlRq w' A2 d2 (cuL (plsA p t) p.ho) ∧ SlRq w' A3 d3 (foL (plsA p t) p.ho) ∧ SlBn w' A4 d4 (bnA (plsA p t) p.fl p.fl.length) ∧ Gr w w' ∧ ∀ x, A1 = some x ∨ A2 = some x ∨ A3 = some x ∨ A4 = some x → w.heap.size ≤ x.block := by
  have HK := hide (pk_of h0)
  have h5 := HK.out.nfl
  have h6 := HK.out.nho
  have HF := hide hP.fl
  have HH := hide hP.ho
  have HS := hide hS
  clear hP hS h0
  generalize hLe : plsA p t = L at *
  have HLE := hide hLe
  have HPB := hide (fun q hq => HK.out.pb q (by rw [HLE.out]; exact hq))
  have HLN := hide (show L.length = p.fl.length + 1 by rw [← HLE.out]; exact HK.out.len)
  clear hLe
  go_enter Tryz.func24, Tryz.ntmps24
  go_upto_region 2 with fail
  obtain ⟨w0, hw0⟩ : ∃ w0, w0 = (w.alloc (.cells #[.string p.nm, .string p.mt, iv p.ga, iv p.gr, iv p.wd, iv p.ht, .slice A p.fl.length c, .slice B p.ho.length d] 25)).alloc (.cells #[nilS, nilS, nilS, nilS] 35) := ⟨_, rfl⟩
  rw [← hw0]
  have gw0 : Gr w w0 := by rw [hw0]; exact (by repeat (first | with_reducible exact Gr.refl _ | with_reducible assumption | with_reducible refine Gr.alloc ?_ _ | with_reducible refine Gr.drewN ?_ _ | with_reducible refine Gr.drew ?_ | with_reducible refine Gr.setCell ?_ (by first | (dsimp only; omega) | (simp only [World.size_alloc]; omega) | (with_reducible refine Gr.size ?_; (repeat (first | with_reducible exact Gr.refl _ | with_reducible assumption | with_reducible refine Gr.alloc ?_ _ | with_reducible refine Gr.drewN ?_ _ | with_reducible refine Gr.drew ?_ | with_reducible refine Gr.trans ?_ (by with_reducible assumption))); done)) _ | with_reducible refine Gr.trans ?_ (by with_reducible assumption)))
  have z0 : w0.heap.size = w.heap.size + 1 + 1 := by rw [hw0]; simp
  have n6 : w0.cell? ⟨w.heap.size, 6, none⟩ = some (.slice A p.fl.length c) := by rw [hw0]; simp [go_sem]
  have n7 : w0.cell? ⟨w.heap.size, 7, none⟩ = some (.slice B p.ho.length d) := by rw [hw0]; simp [go_sem]
  have nr : Made w0 (w.heap.size + 1) #[nilS, nilS, nilS, nilS] := by
    rw [hw0]
    have := Made.new (w.alloc (.cells #[.string p.nm, .string p.mt, iv p.ga, iv p.gr, iv p.wd, iv p.ht, .slice A p.fl.length c, .slice B p.ho.length d] 25)) #[nilS, nilS, nilS, nilS] 35
    rwa [World.size_alloc] at this
  have HNR := hide nr
  clear hw0 nr
  have hB : w0.heap.size = w.heap.size + 1 + 1 := z0
  rw [← hB]
  obtain ⟨Br, hBr⟩ : ∃ Br, Br = w0.heap.size := ⟨_, rfl⟩
  have HM0 := hide (show Made (w0.alloc (.cells #[nilS, nilS, nilS, nilS] 35)) Br #[nilS, nilS, nilS, nilS] by rw [hBr]; exact Made.new w0 _ _)
  have gs0 : Gr w0 (w0.alloc (.cells #[nilS, nilS, nilS, nilS] 35)) := Gr.alloc (Gr.refl _) _
  have zs0 : (w0.alloc (.cells #[nilS, nilS, nilS, nilS] 35)).heap.size = Br + 1 := by rw [hBr]; simp
  generalize w0.alloc (.cells #[nilS, nilS, nilS, nilS] 35) = ws at *
  rw [← hBr]
  go_wp2
  have hB1 : w0.heap.size ≤ Br := by omega
  clear zs0 hBr
  go_loopw [18] (fun i wr => ∃ (k : Nat) (A1 : Option Addr) (d1 : Nat), k ≤ p.fl.length + 1 ∧ i = iv k ∧ Gr w0 wr ∧ Hid (Made wr Br #[.slice A1 k d1, nilS, nilS, nilS]) ∧ Hid (OwnL wr (Br + 1) 40 4 rcL (.slice A1 k d1) ((L.take k).map rcF))) (fun i _ => p.fl.length + 1 - (intOf i).toNat)
  case atStart => exact ⟨0, none, 0, by omega, rfl, gs0, HM0.out, own_nil _ _ _ _ _⟩
  case round =>
    obtain ⟨k, A1, d1, hk, rfl, g, HM, HO⟩ := hrel
    have gW : Gr w wr := gw0.trans g
    have hBl : Br < wr.heap.size := HM.out.1
    by_cases hkl : k < p.fl.length + 1
    · obtain ⟨q, hq⟩ : ∃ q, L[k]? = some q := ⟨_, List.getElem?_eq_getElem (by rw [HLN.out]; omega)⟩
      obtain ⟨b, off, hC, v0, v1, v2, v3, v4, v5⟩ := (HS.out.gr gW).rd.pl hq
      subst hC
      have hbb : b < wr.heap.size := cell_lt (by rw [v0]; rfl)
      have hpb := HPB.out q (List.mem_of_getElem? hq)
      have hx := hpb.x
      have hy := hpb.y
      have ht := hpb.t
      have hw := hpb.w
      have hh := hpb.h
      have hlo := hpb.lo
      have HAB := hide (fun w => above_any q q.h w (by omega) (by omega))
      have HRC := hide (fun w => rect_any q 0 0 (q.w * 720) (abv q q.h) w (by omega) (by omega) (by omega) (by unfold abv; omega) (by omega) (by omega) (by omega))
      have HTK := hide (rcF_take hq)
      have U1 : IntKind.i64.wrap (q.w * 720) = q.w * 720 := IntWalk.i64_in _ (by omega)
      have HRF := hide (show rcF q = rcO q 0 0 (q.w * 720) (abv q q.h) from rfl)
      rw [HRF.out] at HTK
      have hk0 : (0 : Int) ≤ (k : Int) := by omega
      have hk1 : (k : Int) < (p.fl.length : Int) + 1 := by omega
      obtain ⟨M1, hM1⟩ : ∃ M, (L.take k).map rcF = M := ⟨_, rfl⟩
      obtain ⟨M2, hM2⟩ : ∃ M, (L.take (k + 1)).map rcF = M := ⟨_, rfl⟩
      have HM2 := hide hM2
      have HL1 := hide (show M1.length = k by rw [← hM1, List.length_map, List.length_take, HLN.out]; omega)
      have HL2 := hide (show M2.length = k + 1 by rw [← hM2, List.length_map, List.length_take, HLN.out]; omega)
      rw [hM1] at HO HTK
      rw [hM2] at HTK
      clear hM1 hM2 hq hpb hx hy ht hw hh hlo HRF
      generalize rcO q 0 0 (q.w * 720) (abv q q.h) = r at *
      obtain ⟨r1, r2, r3, r4⟩ := r
      obtain ⟨m0, m1, m2⟩ := id HM.out
      have hBw : Br + 1 ≤ wr.heap.size := hBl
      go_upto_region 5 with fail
      refine wp_region_build1 _ 13 (by kernel_rfl) (by kernel_rfl) (Gr.refl _) (d1 := some 35) rfl ?_
      intro s gs
      obtain ⟨Xs, Ys, cs, fs⟩ := gs.use
      have GC := @GrW.cell
      simp only [List.take_succ_cons, List.take_zero]
      repeat (go_big_quiet_step ((first | (go_at_call 54; exact quiet_grw (HAB.out _)) | (go_at_call 56; exact quiet_grw (HRC.out _)))))
      refine wpQuiet_nil ?_
      clear GC cs fs gs
      refine ⟨fun BB => .slice (some ⟨BB, 0, none⟩) 1 1, #[iv r1, iv r2, iv r3, iv r4], 40, ⟨rfl, rfl, fun w => by go_simp⟩, ?_⟩
      intro B1 wq gq1 l1 ⟨b1, c1, f1⟩
      obtain ⟨Xq, Yq, cq, fq⟩ := gq1.use
      have sq := gq1.size
      (try simp only [World.size_alloc, World.size_setCell, World.heap_drewN] at sq l1)
      simp only [List.drop_succ_cons, List.drop_zero]
      refine wpList_app1 rfl _ _ _ rfl rcL (Br + 1) 40 4 32 elRc (by decide) M1 ⟨r1, r2, r3, r4⟩ M2 HTK.out.symm (.slice A1 k d1) rfl (HO.out.gr (show Gr wr wq from (by repeat (first | with_reducible exact Gr.refl _ | with_reducible assumption | with_reducible refine Gr.alloc ?_ _ | with_reducible refine Gr.drewN ?_ _ | with_reducible refine Gr.drew ?_ | with_reducible refine Gr.setCell ?_ (by first | (dsimp only; omega) | (simp only [World.size_alloc]; omega) | (with_reducible refine Gr.size ?_; (repeat (first | with_reducible exact Gr.refl _ | with_reducible assumption | with_reducible refine Gr.alloc ?_ _ | with_reducible refine Gr.drewN ?_ _ | with_reducible refine Gr.drew ?_ | with_reducible refine Gr.trans ?_ (by with_reducible assumption))); done)) _ | with_reducible refine Gr.trans ?_ (by with_reducible assumption))))) ⟨B1, 0, none⟩ 1 rfl rfl (by intro j u hu; rw [addr_add, Nat.zero_add, c1]; simpa using hu) (one_rc _) (by have := HL1.out; omega) (by decide) (by omega) ?_
      intro gg cap1 w8 hO8 hG8 hg8 hge hlt8
      have G8 : Gr w0 w8 := hG8 _ (g.trans (show Gr wr wq from (by repeat (first | with_reducible exact Gr.refl _ | with_reducible assumption | with_reducible refine Gr.alloc ?_ _ | with_reducible refine Gr.drewN ?_ _ | with_reducible refine Gr.drew ?_ | with_reducible refine Gr.setCell ?_ (by first | (dsimp only; omega) | (simp only [World.size_alloc]; omega) | (with_reducible refine Gr.size ?_; (repeat (first | with_reducible exact Gr.refl _ | with_reducible assumption | with_reducible refine Gr.alloc ?_ _ | with_reducible refine Gr.drewN ?_ _ | with_reducible refine Gr.drew ?_ | with_reducible refine Gr.trans ?_ (by with_reducible assumption))); done)) _ | with_reducible refine Gr.trans ?_ (by with_reducible assumption))))) (by omega)
      have M8 : Made w8 Br #[.slice A1 k d1, nilS, nilS, nilS] := Made.grown (lo := Br + 1) (HM.out.gr (show Gr wr wq from (by repeat (first | with_reducible exact Gr.refl _ | with_reducible assumption | with_reducible refine Gr.alloc ?_ _ | with_reducible refine Gr.drewN ?_ _ | with_reducible refine Gr.drew ?_ | with_reducible refine Gr.setCell ?_ (by first | (dsimp only; omega) | (simp only [World.size_alloc]; omega) | (with_reducible refine Gr.size ?_; (repeat (first | with_reducible exact Gr.refl _ | with_reducible assumption | with_reducible refine Gr.alloc ?_ _ | with_reducible refine Gr.drewN ?_ _ | with_reducible refine Gr.drew ?_ | with_reducible refine Gr.trans ?_ (by with_reducible assumption))); done)) _ | with_reducible refine Gr.trans ?_ (by with_reducible assumption))))) hg8 (fun k hk => (OwnL.lt HO.out k hk).1) (by omega)
      clear c1 f1 cq fq hG8 hg8 m0 m1 m2
      obtain ⟨m0, m1, m2⟩ := id M8
      go_wp2
      go_roundw
      case rel => exact ⟨k + 1, some ⟨gg, 0, none⟩, cap1, by omega, by go_num, Gr.setCell G8 (by dsimp only; omega) _, by have := M8.st0 (.slice (some ⟨gg, 0, none⟩) M2.length cap1); rw [HL2.out] at this; (try rw [HL2.out]); exact this, by have := OwnL.set hO8 0 (.slice (some ⟨gg, 0, none⟩) M2.length cap1) (show Br < Br + 1 by omega); rw [HM2.out, ← HL2.out]; exact this⟩
      case measure => simp only [intOf]; omega
    · obtain rfl : k = p.fl.length + 1 := by omega
      rw [← HLN.out, List.take_length, HLN.out] at HO
      rw [show ((p.fl.length + 1 : Nat) : Int) = (p.fl.length : Int) + 1 from by omega]
      have o7 := (g.cell w.heap.size 7 (by omega)).trans n7
      have hwl : w.heap.size < wr.heap.size := by have := g.size; omega
      have HR1 := hide (slRq_own HO.out)
      have HN1 := hide (OwnL.ne HO.out (show Br < Br + 1 by omega))
      have HZ1 := hide (OwnL.ne HO.out (show w.heap.size + 1 < Br + 1 by omega))
      have HG1 := hide (OwnL.ge HO.out)
      clear HO
      go_wp2_with fail
      obtain ⟨wo, rfl⟩ : ∃ wo, wo = wr := ⟨_, rfl⟩
      have hBo : Br < wo.heap.size := hBl
      have hwo : w0.heap.size ≤ wo.heap.size := g.size
      go_loopw [42] (fun i wr => ∃ (k : Nat) (A2 : Option Addr) (d2 : Nat) (A3 : Option Addr) (d3 : Nat), k ≤ p.ho.length ∧ i = iv k ∧ Gr w0 wr ∧ Hid (Bx Br wo wr) ∧ Hid (Made wr Br #[.slice A1 (p.fl.length + 1) d1, .slice A2 (cuL L (p.ho.take k)).length d2, .slice A3 (foL L (p.ho.take k)).length d3, nilS]) ∧
        Hid (OwnL wr wo.heap.size 40 4 rcL (.slice A2 (cuL L (p.ho.take k)).length d2) (cuL L (p.ho.take k))) ∧ Hid (OwnL wr wo.heap.size 40 4 rcL (.slice A3 (foL L (p.ho.take k)).length d3) (foL L (p.ho.take k))) ∧ Hid (DJ (.slice A2 (cuL L (p.ho.take k)).length d2) (.slice A3 (foL L (p.ho.take k)).length d3))) (fun i _ => p.ho.length - (intOf i).toNat)
      case atStart =>
        have c0 : cuL L (p.ho.take 0) = [] := by simp [cuL]
        have f0 : foL L (p.ho.take 0) = [] := by simp [foL]
        exact ⟨0, none, 0, none, 0, by omega, rfl, g, Bx.refl _ _, by rw [c0, f0]; exact HM.out, by rw [c0]; exact own_nil _ _ _ _ _, by rw [f0]; exact own_nil _ _ _ _ _, fun b hb => by cases hb⟩
      case round =>
        obtain ⟨k, A2, d2, A3, d3, hk, rfl, g2, HX, HM2, HO2, HO3, HDJ⟩ := hrel
        have gW2 : Gr w wr := gw0.trans g2
        have hxs := HX.out.1
        by_cases hkl : k < p.ho.length
        · obtain ⟨x, hx⟩ : ∃ f, p.ho[k]? = some f := ⟨_, List.getElem?_eq_getElem hkl⟩
          obtain ⟨b, off, hA, x0, x1, x2, x3, x4, x5⟩ := HH.out.rd.ho hx
          subst hA
          have hb : b < w.heap.size := cell_lt (by rw [x0]; rfl)
          have hbr : b < wr.heap.size := by have := gW2.size; omega
          have y0 := (gW2.cell _ _ hb).trans x0
          have y1 := (gW2.cell _ _ hb).trans x1
          have y2 := (gW2.cell _ _ hb).trans x2
          have y3 := (gW2.cell _ _ hb).trans x3
          have y4 := (gW2.cell _ _ hb).trans x4
          have y5 := (gW2.cell _ _ hb).trans x5
          clear x0 x1 x2 x3 x4 x5
          have hxk := HK.out.ho k x hx
          have hfa := hxk.fa
          have hx1 := hxk.x
          have hx2 := hxk.y
          have hx3 := hxk.w
          have hx4 := hxk.h
          obtain ⟨m, hm⟩ : ∃ m : Nat, x.fa = m := ⟨x.fa.toNat, by omega⟩
          obtain ⟨gp, hgp⟩ : ∃ gp, L[m]? = some gp := ⟨_, List.getElem?_eq_getElem (by rw [HLN.out]; omega)⟩
          have hpb := HPB.out gp (List.mem_of_getElem? hgp)
          have hqx := hpb.x
          have hqy := hpb.y
          have hqt := hpb.t
          have hqlo := hpb.lo
          have HAB := hide (fun w => above_any gp x.y w (by omega) (by omega))
          have HRC := hide (fun w => rect_any gp (x.x * 720) (abv gp x.y) (x.w * 720) (x.h * 720) w (by omega) (by unfold abv; omega) (by omega) (by omega) (by omega) (by omega) (by omega))
          have HRX := hide (show rcHo L x = rcO gp (x.x * 720) (abv gp x.y) (x.w * 720) (x.h * 720) by
            unfold rcHo
            rw [hm, show ((m : Int)).toNat = m from rfl, hgp]
            rfl)
          obtain ⟨bs, os, hC, v0, v1, v2, v3, v4, v5⟩ := (HS.out.gr gW2).rd.pl hgp
          subst hC
          have hbs : bs < wr.heap.size := cell_lt (by rw [v0]; rfl)
          have U1 : IntKind.i64.wrap (x.x * 720) = x.x * 720 := IntWalk.i64_in _ (by omega)
          have U2 : IntKind.i64.wrap (x.w * 720) = x.w * 720 := IntWalk.i64_in _ (by omega)
          have U3 : IntKind.i64.wrap (x.h * 720) = x.h * 720 := IntWalk.i64_in _ (by omega)
          have hkd := hxk.kd
          have HCY := hide (fun h => cuL_yes (L := L) hx h)
          have HCN := hide (fun h => cuL_no (L := L) hx h)
          rw [HRX.out] at HCY HCN
          have hl2 := (cuL_len L (p.ho.take k)).1
          have hl3 := (cuL_len L (p.ho.take k)).2
          have hl4 : (p.ho.take k).length ≤ 6 := by rw [List.length_take]; omega
          have hk0 : (0 : Int) ≤ (k : Int) := by omega
          have hk1 : (k : Int) < (p.ho.length : Int) := by omega
          have hm0 : (0 : Int) ≤ (m : Int) := by omega
          have hm1 : (m : Int) < (p.fl.length : Int) + 1 := by omega
          clear hgp hpb hx hxk hqx hqy hqt hqlo hx1 hx2 hx3 hx4 hfa HRX
          generalize hr : rcO gp (x.x * 720) (abv gp x.y) (x.w * 720) (x.h * 720) = r at *
          clear hr
          obtain ⟨r1, r2, r3, r4⟩ := r
          obtain ⟨fa, kd, xx, yy, ww, hh⟩ := x
          simp only at hm y0 y1 y2 y3 y4 y5 HAB HRC U1 U2 U3 hkd HCY HCN
          subst hm
          go_upto_region 11 with fail
          generalize hz : World.alloc _ _ = wz
          have gz : Gr wr wz := by rw [← hz]; exact Gr.alloc (Gr.alloc (Gr.refl _) _) _
          have zz : wz.heap.size = wr.heap.size + 1 + 1 := by rw [← hz]; simp
          have mf : Made wz wr.heap.size #[iv (m : Int), iv kd, iv xx, iv yy, iv ww, iv hh] := by rw [← hz]; exact (Made.new wr _ _).gr (Gr.alloc (Gr.refl _) _)
          have mg : Made wz (wr.heap.size + 1) #[iv gp.x, iv gp.y, iv (gp.t : Int), iv gp.w, iv gp.h, iv gp.lo] := by
            rw [← hz]
            have := Made.new (wr.alloc (.cells #[iv (m : Int), iv kd, iv xx, iv yy, iv ww, iv hh] 59)) #[iv gp.x, iv gp.y, iv (gp.t : Int), iv gp.w, iv gp.h, iv gp.lo] 109
            rwa [World.size_alloc] at this
          clear hz v0 v1 v2 v3 v4 v5 y0 y1 y2 y3 y4 y5
          obtain ⟨bf, hbf⟩ : ∃ bf, bf = wr.heap.size := ⟨_, rfl⟩
          obtain ⟨bg, hbg⟩ : ∃ bg, bg = wr.heap.size + 1 := ⟨_, rfl⟩
          rw [← hbf] at mf
          rw [← hbg] at mg
          rw [← hbg, ← hbf]
          have lf : wr.heap.size ≤ bf := by omega
          have lg : bg < wz.heap.size := by omega
          have lf2 : bf < wz.heap.size := by omega
          clear hbf hbg
          obtain ⟨mf0, mf1, mf2⟩ := id mf
          obtain ⟨mg0, mg1, mg2⟩ := id mg
          refine wp_region_new1 _ 17 (by kernel_rfl) (by kernel_rfl) (Gr.refl _) (z1 := #[iv 0, iv 0, iv 0, iv 0]) (t1 := 40) rfl ⟨rfl, fun _ => rfl, rfl, fun a w => by go_simp⟩  ?_
          intro s gs
          obtain ⟨Xs, Ys, cs, fs⟩ := gs.use
          have GC := @GrW.cell
          simp only [List.take_succ_cons, List.take_zero]
          repeat (go_big_quiet_step ((first | (go_at_call 54; exact quiet_grw (HAB.out _)) | (go_at_call 56; exact quiet_grw (HRC.out _)))))
          refine wpQuiet_nil ?_
          clear GC cs fs gs
          intro B1 wq gq1 l1  ⟨b1, c1, f1⟩
          obtain ⟨Xq, Yq, cq, fq⟩ := gq1.use
          have sq := gq1.size
          (try simp only [World.size_alloc, World.size_setCell, World.heap_drewN] at sq l1 )
          simp only [List.drop_succ_cons, List.drop_zero]
          go_upto_region 12 with fail
          generalize hv : World.setCell _ _ _ = v1
          obtain rfl : v1 = set4 wq B1 r1 r2 r3 r4 := hv.symm
          clear hv
          have zq := gq1.size
          have mr := Made.set4 ⟨b1, c1, f1⟩ r1 r2 r3 r4
          have mf' := (mf.gr gq1).other4 r1 r2 r3 r4 (show bf ≠ B1 by omega)
          have mB := (HM2.out.gr (gz.trans gq1)).other4 r1 r2 r3 r4 (show Br ≠ B1 by omega)
          have gv : Gr wr (set4 wq B1 r1 r2 r3 r4) := gr_set4 _ _ _ _ (gz.trans gq1) (by omega)
          have lB1 : wr.heap.size ≤ B1 := by omega
          clear cq fq sq b1 c1 f1 mf0 mf1 mf2 mg0 mg1 mg2 mf mg HM2 gq1 zq gz zz lg lf2 HAB HRC l1
          generalize set4 wq B1 r1 r2 r3 r4 = v1 at *
          obtain ⟨mf0, mf1, mf2⟩ := id mf'
          obtain ⟨mr0, mr1, mr2⟩ := id mr
          have hgs := gv.size
          rcases hkd with rfl | rfl
          · obtain ⟨e1, e2⟩ := HCY.out rfl
            have E2 := hide e2
            obtain ⟨M1, hM1⟩ : ∃ M, cuL L (p.ho.take k) = M := ⟨_, rfl⟩
            obtain ⟨M2, hM2⟩ : ∃ M, cuL L (p.ho.take (k + 1)) = M := ⟨_, rfl⟩
            have HM2 := hide hM2
            rw [hM1, hM2] at e1
            have E1 := hide e1
            rw [hM1] at HO2 HDJ mB hl2
            clear HCY HCN e1 e2 hM2
            clear hM1 mf' mr
            obtain ⟨mB0, mB1, mB2⟩ := id mB
            go_wp2_with (refine wpList_app2 rfl _ _ _ rfl rcL wo.heap.size 40 4 32 elRc (by decide) M1 ⟨r1, r2, r3, r4⟩ M2 E1.out.symm (.slice A2 M1.length d2) rfl (OwnL.gr (HO2.out.gr gv) (Gr.alloc (Gr.refl _) _)) _ 1 rfl rfl (by intro j u hu; refine newsA v1 #[iv r1, iv r2, iv r3, iv r4] 40 j u ?_; exact hu) (one_rc _) (by omega) (by decide) (by simp only [World.size_alloc]; omega) ?_; intro gg cap1 w8 hO8 hG8 hg8 hor hlt8; have M8 : Made w8 Br #[.slice A1 (p.fl.length + 1) d1, .slice A2 M1.length d2, .slice A3 (foL L (p.ho.take k)).length d3, nilS] := Made.grown (lo := wo.heap.size) (mB.gr (Gr.alloc (Gr.refl _) _)) hg8 (fun k hk => (OwnL.lt HO2.out k hk).1) hBo; obtain ⟨m0, m1, m2⟩ := id M8)
            have gva : Gr wr (v1.alloc (.cells #[iv r1, iv r2, iv r3, iv r4] 40)) := gv.trans (Gr.alloc (Gr.refl _) _)
            have G8 : Gr w0 w8 := hG8 _ (g2.trans gva) hwo
            have X8 : Bx Br wo w8 := (HX.out.gr gva).grown hg8 (fun k hk => (OwnL.lt HO2.out k hk).1)
            have O8 : OwnL w8 wo.heap.size 40 4 rcL (.slice A3 (foL L (p.ho.take k)).length d3) (foL L (p.ho.take k)) := (HO3.out.gr gva).grown hg8 (fun b h1 h2 => HDJ.out b h2.symm h1)
            have D8 : DJ (.slice (some ⟨gg, 0, none⟩) M2.length cap1) (.slice A3 (foL L (p.ho.take k)).length d3) := dj_new HDJ.out HO3.out hor (by simp only [World.size_alloc]; omega)
            go_roundw
            case rel => exact ⟨k + 1, some ⟨gg, 0, none⟩, cap1, A3, d3, by omega, by go_num, Gr.setCell G8 (by dsimp only; omega) _, X8.set 1 _, by rw [HM2.out, E2.out]; exact M8.st1 _, by rw [HM2.out]; exact hO8.set 1 _ hBo, by rw [E2.out]; exact O8.set 1 _ hBo, by rw [HM2.out, E2.out]; exact D8⟩
            case measure => simp only [intOf]; omega
          · obtain ⟨e2, e1⟩ := HCN.out (by decide)
            have E2 := hide e2
            obtain ⟨M1, hM1⟩ : ∃ M, foL L (p.ho.take k) = M := ⟨_, rfl⟩
            obtain ⟨M2, hM2⟩ : ∃ M, foL L (p.ho.take (k + 1)) = M := ⟨_, rfl⟩
            have HM2 := hide hM2
            rw [hM1, hM2] at e1
            have E1 := hide e1
            rw [hM1] at HO3 HDJ mB hl3
            clear HCY HCN e1 e2 hM2
            clear hM1 mf' mr
            obtain ⟨mB0, mB1, mB2⟩ := id mB
            go_wp2_with (refine wpList_app2 rfl _ _ _ rfl rcL wo.heap.size 40 4 32 elRc (by decide) M1 ⟨r1, r2, r3, r4⟩ M2 E1.out.symm (.slice A3 M1.length d3) rfl (OwnL.gr (HO3.out.gr gv) (Gr.alloc (Gr.refl _) _)) _ 1 rfl rfl (by intro j u hu; refine newsA v1 #[iv r1, iv r2, iv r3, iv r4] 40 j u ?_; exact hu) (one_rc _) (by omega) (by decide) (by simp only [World.size_alloc]; omega) ?_; intro gg cap1 w8 hO8 hG8 hg8 hor hlt8; have M8 : Made w8 Br #[.slice A1 (p.fl.length + 1) d1, .slice A2 (cuL L (p.ho.take k)).length d2, .slice A3 M1.length d3, nilS] := Made.grown (lo := wo.heap.size) (mB.gr (Gr.alloc (Gr.refl _) _)) hg8 (fun k hk => (OwnL.lt HO3.out k hk).1) hBo; obtain ⟨m0, m1, m2⟩ := id M8)
            have gva : Gr wr (v1.alloc (.cells #[iv r1, iv r2, iv r3, iv r4] 40)) := gv.trans (Gr.alloc (Gr.refl _) _)
            have G8 : Gr w0 w8 := hG8 _ (g2.trans gva) hwo
            have X8 : Bx Br wo w8 := (HX.out.gr gva).grown hg8 (fun k hk => (OwnL.lt HO3.out k hk).1)
            have O8 : OwnL w8 wo.heap.size 40 4 rcL (.slice A2 (cuL L (p.ho.take k)).length d2) (cuL L (p.ho.take k)) := (HO2.out.gr gva).grown hg8 (fun b h1 h2 => HDJ.out b h1 h2.symm)
            have D8 : DJ (.slice A2 (cuL L (p.ho.take k)).length d2) (.slice (some ⟨gg, 0, none⟩) M2.length cap1) := (dj_new HDJ.out.comm HO2.out hor (by simp only [World.size_alloc]; omega)).comm
            go_roundw
            case rel => exact ⟨k + 1, A2, d2, some ⟨gg, 0, none⟩, cap1, by omega, by go_num, Gr.setCell G8 (by dsimp only; omega) _, X8.set 2 _, by rw [HM2.out, E2.out]; exact M8.st2 _, by rw [E2.out]; exact O8.set 2 _ hBo, by rw [HM2.out]; exact hO8.set 2 _ hBo, by rw [HM2.out, E2.out]; exact D8⟩
            case measure => simp only [intOf]; omega
        · obtain rfl : k = p.ho.length := by omega
          rw [List.take_length] at HM2 HO2 HO3
          have hwl2 : w.heap.size < wr.heap.size := by omega
          have o6 := (g2.cell w.heap.size 6 (by omega)).trans n6
          have HR2 := hide (slRq_own HO2.out)
          have HR3 := hide (slRq_own HO3.out)
          have HN2 := hide (OwnL.ne HO2.out hBo)
          have HN3 := hide (OwnL.ne HO3.out hBo)
          have HZ2 := hide (OwnL.ne HO2.out (show w.heap.size + 1 < wo.heap.size by omega))
          have HZ3 := hide (OwnL.ne HO3.out (show w.heap.size + 1 < wo.heap.size by omega))
          have HG2 := hide (OwnL.ge HO2.out)
          have HG3 := hide (OwnL.ge HO3.out)
          have HR1' := hide (HR1.out.bx HN1.out HX.out)
          clear HO2 HO3 HDJ HR1 HX HM
          go_wp2_with fail
          obtain ⟨w2, rfl⟩ : ∃ w2, w2 = wr := ⟨_, rfl⟩
          have hB2 : Br < w2.heap.size := by omega
          have hw2 : w0.heap.size ≤ w2.heap.size := g2.size
          have HMw := HM2
          clear HM2
          go_loopw [87] (fun i wr => ∃ (k : Nat) (A4 : Option Addr) (d4 : Nat), k ≤ p.fl.length ∧ i = iv k ∧ Gr w0 wr ∧ Hid (Bx Br w2 wr) ∧ Hid (Made wr Br #[.slice A1 (p.fl.length + 1) d1, .slice A2 (cuL L p.ho).length d2, .slice A3 (foL L p.ho).length d3, .slice A4 k d4]) ∧ Hid (OwnL wr w2.heap.size 47 8 bnL (.slice A4 k d4) (bnA L p.fl k))) (fun i _ => p.fl.length - (intOf i).toNat)
          case atStart => exact ⟨0, none, 0, by omega, rfl, g2, Bx.refl _ _, HMw.out, own_nil _ _ _ _ _⟩
          case round =>
            obtain ⟨k, A4, d4, hk4, rfl, g4, HX, HM2, HO4⟩ := hrel
            have gW4 : Gr w wr := gw0.trans g4
            have hxs4 := HX.out.1
            by_cases hkl : k < p.fl.length
            · obtain ⟨f, hf⟩ : ∃ f, p.fl[k]? = some f := ⟨_, List.getElem?_eq_getElem hkl⟩
              obtain ⟨b, off, hA, x0, x1, x2, x3, x4, x5, x6⟩ := HF.out.rd.fl hf
              subst hA
              have hb : b < w.heap.size := cell_lt (by rw [x0]; rfl)
              have hbr : b < wr.heap.size := by have := gW4.size; omega
              have y0 := (gW4.cell _ _ hb).trans x0
              have y1 := (gW4.cell _ _ hb).trans x1
              have y2 := (gW4.cell _ _ hb).trans x2
              have y3 := (gW4.cell _ _ hb).trans x3
              have y4 := (gW4.cell _ _ hb).trans x4
              have y5 := (gW4.cell _ _ hb).trans x5
              have y6 := (gW4.cell _ _ hb).trans x6
              clear x0 x1 x2 x3 x4 x5 x6
              obtain ⟨gp, hgp⟩ : ∃ gp, L[k + 1]? = some gp := ⟨_, List.getElem?_eq_getElem (by rw [HLN.out]; omega)⟩
              have hpb := HPB.out gp (List.mem_of_getElem? hgp)
              have hqx := hpb.x
              have hqy := hpb.y
              have hqt := hpb.t
              have hqw := hpb.w
              have HLI := hide (fun w => line_any gp 0 0 (gp.w * 720) 0 w (by omega) (by omega) (by omega) (by omega) (by omega) (by omega) (by omega))
              have HIO := hide (fun w => inOrder_any (lnO gp 0 0 (gp.w * 720) 0) w)
              have HBN := hide (show bnA L p.fl (k + 1) = bnA L p.fl k ++ [⟨k, f.pa, orS (lnO gp 0 0 (gp.w * 720) 0), f.an, gp.lo⟩] by
                rw [bnA_succ]
                unfold bnO
                rw [hf, hgp]
                rfl)
              obtain ⟨bs, os, hC, v0, v1, v2, v3, v4, v5⟩ := (HS.out.gr gW4).rd.pl hgp
              subst hC
              have hbs : bs < wr.heap.size := cell_lt (by rw [v0]; rfl)
              have U1 : IntKind.i64.wrap (gp.w * 720) = gp.w * 720 := IntWalk.i64_in _ (by omega)
              have U2 : IntKind.i64.wrap ((k : Int) + 1) = (k : Int) + 1 := IntWalk.i64_in _ (by omega)
              have hk0 : (0 : Int) ≤ (k : Int) := by omega
              have hk1 : (k : Int) < (p.fl.length : Int) := by omega
              have hk2 : (0 : Int) ≤ (k : Int) + 1 := by omega
              have hk3 : (k : Int) + 1 < (p.fl.length : Int) + 1 := by omega
              clear hgp hpb hf hqx hqy hqt hqw
              generalize orS (lnO gp 0 0 (gp.w * 720) 0) = S at *
              generalize lnO gp 0 0 (gp.w * 720) 0 = S0 at *
              obtain ⟨s1, s2, s3, s4⟩ := S
              obtain ⟨nm, pa, sd, fo, wd, ln, an⟩ := f
              simp only at y0 y1 y2 y3 y4 y5 y6 HBN
              obtain ⟨M1, hM1⟩ : ∃ M, bnA L p.fl k = M := ⟨_, rfl⟩
              obtain ⟨M2, hM2⟩ : ∃ M, bnA L p.fl (k + 1) = M := ⟨_, rfl⟩
              have HM3 := hide hM2
              have HL1 := hide (show M1.length = k by rw [← hM1]; unfold bnA; simp)
              have HL2 := hide (show M2.length = k + 1 by rw [← hM2]; unfold bnA; simp)
              rw [hM1, hM2] at HBN
              rw [hM1] at HO4
              clear hM1 hM2
              go_upto_region 20 with fail
              generalize hz : World.alloc _ _ = wz
              have gz : Gr wr wz := by rw [← hz]; exact Gr.alloc (Gr.alloc (Gr.refl _) _) _
              have zz : wz.heap.size = wr.heap.size + 1 + 1 := by rw [← hz]; simp
              have mf : Made wz wr.heap.size #[.string nm, iv pa, iv sd, iv fo, iv wd, iv ln, iv an] := by rw [← hz]; exact (Made.new wr _ _).gr (Gr.alloc (Gr.refl _) _)
              have mg : Made wz (wr.heap.size + 1) #[iv gp.x, iv gp.y, iv (gp.t : Int), iv gp.w, iv gp.h, iv gp.lo] := by
                rw [← hz]
                have := Made.new (wr.alloc (.cells #[.string nm, iv pa, iv sd, iv fo, iv wd, iv ln, iv an] 49)) #[iv gp.x, iv gp.y, iv (gp.t : Int), iv gp.w, iv gp.h, iv gp.lo] 109
                rwa [World.size_alloc] at this
              clear hz v0 v1 v2 v3 v4 v5 y0 y1 y2 y3 y4 y5 y6
              obtain ⟨bf, hbf⟩ : ∃ bf, bf = wr.heap.size := ⟨_, rfl⟩
              obtain ⟨bg, hbg⟩ : ∃ bg, bg = wr.heap.size + 1 := ⟨_, rfl⟩
              rw [← hbf] at mf
              rw [← hbg] at mg
              rw [← hbg, ← hbf]
              clear hbf hbg
              obtain ⟨mg0, mg1, mg2⟩ := id mg
              go_wp2_with fail
              refine (HLI.out _).mono ?_
              rintro e w5 ⟨rfl, g5⟩
              go_wp2_with fail
              refine (HIO.out _).mono ?_
              rintro e w6 ⟨rfl, g6⟩
              have g56 : Gr wz w6 := g5.trans g6
              have gv : Gr wr w6 := gz.trans g56
              have mB := HM2.out.gr gv
              have mf' := mf.gr g56
              have mg' := mg.gr g56
              clear mg0 mg1 mg2 mf mg HLI HIO g5 g6 g56 gz zz
              obtain ⟨mf0, mf1, mf2⟩ := id mf'
              obtain ⟨mg0, mg1, mg2⟩ := id mg'
              obtain ⟨mB0, mB1, mB2⟩ := id mB
              have hgs := gv.size
              go_wp2_with (refine wpList_app2 rfl _ _ _ rfl bnL w2.heap.size 47 8 64 elBn (by decide) M1 ⟨k, pa, ⟨s1, s2, s3, s4⟩, an, gp.lo⟩ M2 HBN.out.symm (.slice A4 k d4) rfl (OwnL.gr (HO4.out.gr gv) (Gr.alloc (Gr.alloc (Gr.refl _) _) _)) _ 1 rfl rfl (by intro j u hu; have h9 := newsA (w6.alloc (.cells #[iv s1, iv s2, iv s3, iv s4] 45)) #[iv k, iv pa, iv s1, iv s2, iv s3, iv s4, iv an, iv gp.lo] 47 j u hu; rw [World.size_alloc] at h9; exact h9) (one_bn _) (by have := HL1.out; omega) (by decide) (by simp only [World.size_alloc]; omega) ?_; intro gg cap1 w8 hO8 hG8 hg8 hor hlt8; have M8 : Made w8 Br #[.slice A1 (p.fl.length + 1) d1, .slice A2 (cuL L p.ho).length d2, .slice A3 (foL L p.ho).length d3, .slice A4 k d4] := Made.grown (lo := w2.heap.size) (mB.gr (Gr.alloc (Gr.alloc (Gr.refl _) _) _)) hg8 (fun k hk => (OwnL.lt HO4.out k hk).1) hB2; obtain ⟨m0, m1, m2⟩ := id M8)
              have gva : Gr wr ((w6.alloc (.cells #[iv s1, iv s2, iv s3, iv s4] 45)).alloc (.cells #[iv k, iv pa, iv s1, iv s2, iv s3, iv s4, iv an, iv gp.lo] 47)) := gv.trans (Gr.alloc (Gr.alloc (Gr.refl _) _) _)
              have G8 : Gr w0 w8 := hG8 _ (g4.trans gva) hw2
              have X8 : Bx Br w2 w8 := (HX.out.gr gva).grown hg8 (fun k hk => (OwnL.lt HO4.out k hk).1)
              go_roundw
              case rel => exact ⟨k + 1, some ⟨gg, 0, none⟩, cap1, by omega, by go_num, Gr.setCell G8 (by dsimp only; omega) _, X8.set 3 _, by have := M8.st3 (.slice (some ⟨gg, 0, none⟩) M2.length cap1); rw [HL2.out] at this; (try rw [HL2.out]); exact this, by have := hO8.set 3 (.slice (some ⟨gg, 0, none⟩) M2.length cap1) hB2; rw [HM3.out, ← HL2.out]; exact this⟩
              case measure => simp only [intOf]; omega
            · obtain rfl : k = p.fl.length := by omega
              obtain ⟨mB0, mB1, mB2⟩ := id HM2.out
              obtain ⟨mN0, mN1, mN2⟩ := id (HNR.out.gr g4)
              have HB4 := hide (slBn_own HO4.out)
              have HZ4 := hide (OwnL.ne HO4.out (show w.heap.size + 1 < w2.heap.size by omega))
              have HG4 := hide (OwnL.ge HO4.out)
              have HR2' := hide (HR2.out.bx HN2.out HX.out)
              have HR3' := hide (HR3.out.bx HN3.out HX.out)
              have HR4' := hide (HR1'.out.bx HN1.out HX.out)
              have hne : ¬ Br = w.heap.size + 1 := by omega
              clear HO4 HR1' HR2 HR3 HX HM2 HN1 HN2 HN3
              go_wp2
              refine bodyPost_ret (v := .agg #[.slice A1 (p.fl.length + 1) d1, .slice A2 (cuL L p.ho).length d2, .slice A3 (foL L p.ho).length d3, .slice A4 p.fl.length d4]) (by simp [results, Tryz.results24, go_sem, *]) rfl ⟨A1, d1, A2, d2, A3, d3, A4, d4, rfl, ?_, ?_, ?_, ?_, ?_, ?_⟩
              · exact HR4'.out.bx HZ1.out (by repeat (first | exact Bx.refl _ _ | refine Bx.set ?_ _ _))
              · exact HR2'.out.bx HZ2.out (by repeat (first | exact Bx.refl _ _ | refine Bx.set ?_ _ _))
              · exact HR3'.out.bx HZ3.out (by repeat (first | exact Bx.refl _ _ | refine Bx.set ?_ _ _))
              · have := HB4.out
                exact ⟨this.rd.bx HZ4.out (by repeat (first | exact Bx.refl _ _ | refine Bx.set ?_ _ _)), this.cap, this.capB⟩
              · exact (by repeat (first | with_reducible exact Gr.refl _ | with_reducible assumption | with_reducible refine Gr.alloc ?_ _ | with_reducible refine Gr.drewN ?_ _ | with_reducible refine Gr.drew ?_ | with_reducible refine Gr.setCell ?_ (by first | (dsimp only; omega) | (simp only [World.size_alloc]; omega) | (with_reducible refine Gr.size ?_; (repeat (first | with_reducible exact Gr.refl _ | with_reducible assumption | with_reducible refine Gr.alloc ?_ _ | with_reducible refine Gr.drewN ?_ _ | with_reducible refine Gr.drew ?_ | with_reducible refine Gr.trans ?_ (by with_reducible assumption))); done)) _ | with_reducible refine Gr.trans ?_ (by with_reducible assumption)))
              · rintro x (hx | hx | hx | hx)
                · have := HG1.out x hx; omega
                · have := HG2.out x hx; omega
                · have := HG3.out x hx; omega
                · have := HG4.out x hx; omega
end Go.Proofs.YtjnfodbniohkhaaGreat
set_option linter.unusedVariables false
set_option linter.unusedSimpArgs false
namespace Go.Proofs.YtjnfodbniohkhaaGreat
set_option linter.unusedVariables false
set_option linter.unusedSimpArgs false
open Go Go.ChangeShapes Go.WideShapes Go.ChangeAt Go.RowKit Go.Deep

theorem rt_nz (n : Nat) {u v m : Int} (h1 : 1 ≤ u ∧ u ≤ m) (h2 : 1 ≤ v ∧ v ≤ m) : ((1 ≤ (rt n (u, v)).1 ∨ (rt n (u, v)).1 ≤ -1) ∧ (1 ≤ (rt n (u, v)).2 ∨ (rt n (u, v)).2 ≤ -1)) ∧ (-m ≤ (rt n (u, v)).1 ∧ (rt n (u, v)).1 ≤ m) ∧ -m ≤ (rt n (u, v)).2 ∧ (rt n (u, v)).2 ≤ m := by
  refine ⟨?_, rt_bd n (by omega) (by omega)⟩
  induction n with
  | zero => exact ⟨.inl h1.1, .inl h2.1⟩
  | succ n ih =>
    rw [rt]
    dsimp only
    omega
theorem rt_zero (n : Nat) : rt n (0, 0) = (0, 0) := by
  induction n with
  | zero => rfl
  | succ n ih => rw [rt, ih]; rfl
theorem rcF_ok {k : Nat} {q : Pl} (h : PlB k q) (hk : k ≤ 5) (ha : 1 ≤ abv q q.h) : RcB (rcF q) := by
  have hw := h.w
  have hh := h.h
  have hlo := h.lo
  have hx := h.x
  have hy := h.y
  obtain ⟨⟨a1, a2⟩, a3, a4⟩ := rt_nz q.t (u := q.w * 720) (v := abv q q.h) (m := 108000) (by omega) (by unfold abv at *; omega)
  have e0 := rt_zero q.t
  have p1 : ptX q 0 0 = q.x := by unfold ptX; rw [e0]; simp
  have p2 : ptY q 0 0 = q.y := by unfold ptY; rw [e0]; simp
  have p3 : ptX q (0 + q.w * 720) (0 + abv q q.h) = q.x + (rt q.t (q.w * 720, abv q q.h)).1 := by unfold ptX; rw [Int.zero_add, Int.zero_add]
  have p4 : ptY q (0 + q.w * 720) (0 + abv q q.h) = q.y + (rt q.t (q.w * 720, abv q q.h)).2 := by unfold ptY; rw [Int.zero_add, Int.zero_add]
  unfold rcF rcO rcS orS lnO
  rw [p1, p2, p3, p4]
  generalize (rt q.t (q.w * 720, abv q q.h)).1 = X at *
  generalize (rt q.t (q.w * 720, abv q q.h)).2 = Y at *
  have m1 : (mnI q.x (q.x + X) = q.x ∧ mxI q.x (q.x + X) = q.x + X ∧ 1 ≤ X) ∨ (mnI q.x (q.x + X) = q.x + X ∧ mxI q.x (q.x + X) = q.x ∧ X ≤ -1) := by
    rcases a1 with h | h
    · exact .inl ⟨(mn_ge (by omega)).1, (mn_ge (by omega)).2, h⟩
    · exact .inr ⟨(mn_lt (by omega)).1, (mn_lt (by omega)).2, h⟩
  have m2 : (mnI q.y (q.y + Y) = q.y ∧ mxI q.y (q.y + Y) = q.y + Y ∧ 1 ≤ Y) ∨ (mnI q.y (q.y + Y) = q.y + Y ∧ mxI q.y (q.y + Y) = q.y ∧ Y ≤ -1) := by
    rcases a2 with h | h
    · exact .inl ⟨(mn_ge (by omega)).1, (mn_ge (by omega)).2, h⟩
    · exact .inr ⟨(mn_lt (by omega)).1, (mn_lt (by omega)).2, h⟩
  constructor <;> (simp only; omega)
/-- the error of a part and a table -/
noncomputable def unE (p : Pa) (t : Tb) : Int := if plE p t ≠ 0 then plE p t else if rbB p (plsA p t) then 8 else if fmB p.fl ((plsA p t).map rcF) then 7 else 0
noncomputable def urL (p : Pa) (t : Tb) : List RG.Rc := if unE p t = 0 then (plsA p t).map rcF else []
noncomputable def ucL (p : Pa) (t : Tb) : List RG.Rc := if unE p t = 0 then cuL (plsA p t) p.ho else []
noncomputable def ufL (p : Pa) (t : Tb) : List RG.Rc := if unE p t = 0 then foL (plsA p t) p.ho else []
noncomputable def ubL (p : Pa) (t : Tb) : List Bn := if unE p t = 0 then bnA (plsA p t) p.fl p.fl.length else []
theorem unE_pl {p : Pa} {t : Tb} (h : ¬ plE p t = 0) : unE p t = plE p t := by
  unfold unE
  rw [if_pos h]
theorem unE_rb {p : Pa} {t : Tb} (h : plE p t = 0) (k : rbB p (plsA p t) = true) : unE p t = 8 := by
  unfold unE
  rw [if_neg (by simpa using h), if_pos k]
theorem unE_fm {p : Pa} {t : Tb} (h : plE p t = 0) (k : rbB p (plsA p t) = false) (m : fmB p.fl ((plsA p t).map rcF) = true) : unE p t = 7 := by
  unfold unE
  rw [if_neg (by simpa using h), k, if_neg (by decide), if_pos m]
theorem unE_ok {p : Pa} {t : Tb} (h : plE p t = 0) (k : rbB p (plsA p t) = false) (m : fmB p.fl ((plsA p t).map rcF) = false) : unE p t = 0 := by
  unfold unE
  rw [if_neg (by simpa using h), k, if_neg (by decide), m]
  rfl
/-- a pattern, where it lies: its lists -/
structure FlO (w : World) (p : Pa) (t : Tb) (A1 : Option Addr) (d1 : Nat) (A2 : Option Addr) (d2 : Nat) (A3 : Option Addr) (d3 : Nat) (A4 : Option Addr) (d4 : Nat) : Prop where
  r : SlRq w A1 d1 (urL p t)
  c : SlRq w A2 d2 (ucL p t)
  f : SlRq w A3 d3 (ufL p t)
  b : SlBn w A4 d4 (ubL p t)
theorem FlO.gr {w w' : World} {p : Pa} {t : Tb} {A1 : Option Addr} {d1 : Nat} {A2 : Option Addr} {d2 : Nat} {A3 : Option Addr} {d3 : Nat} {A4 : Option Addr} {d4 : Nat} (h : FlO w p t A1 d1 A2 d2 A3 d3 A4 d4) (g : Gr w w') : FlO w' p t A1 d1 A2 d2 A3 d3 A4 d4 := ⟨h.r.gr g, h.c.gr g, h.f.gr g, h.b.gr g⟩
theorem flO_nil {p : Pa} {t : Tb} (h : ¬ unE p t = 0) (w : World) : (urL p t).length = 0 ∧ (ucL p t).length = 0 ∧ (ufL p t).length = 0 ∧ (ubL p t).length = 0 ∧ FlO w p t none 0 none 0 none 0 none 0 := by
  have e1 : urL p t = [] := by unfold urL; rw [if_neg h]
  have e2 : ucL p t = [] := by unfold ucL; rw [if_neg h]
  have e3 : ufL p t = [] := by unfold ufL; rw [if_neg h]
  have e4 : ubL p t = [] := by unfold ubL; rw [if_neg h]
  refine ⟨by rw [e1]; rfl, by rw [e2]; rfl, by rw [e3]; rfl, by rw [e4]; rfl, ?_, ?_, ?_, ?_⟩
  · rw [e1]; exact ⟨fun i x hx => by simp at hx, by simp, by omega⟩
  · rw [e2]; exact ⟨fun i x hx => by simp at hx, by simp, by omega⟩
  · rw [e3]; exact ⟨fun i x hx => by simp at hx, by simp, by omega⟩
  · rw [e4]; exact ⟨fun i x hx => by simp at hx, by simp, by omega⟩
abbrev fl4 (A1 : Option Addr) (n1 d1 : Nat) (A2 : Option Addr) (n2 d2 : Nat) (A3 : Option Addr) (n3 d3 : Nat) (A4 : Option Addr) (n4 d4 : Nat) : Value := .agg #[.slice A1 n1 d1, .slice A2 n2 d2, .slice A3 n3 d3, .slice A4 n4 d4]
theorem urL_ok {p : Pa} {t : Tb} (h : unE p t = 0) : urL p t = (plsA p t).map rcF ∧ ucL p t = cuL (plsA p t) p.ho ∧ ufL p t = foL (plsA p t) p.ho ∧ ubL p t = bnA (plsA p t) p.fl p.fl.length := by
  unfold urL ucL ufL ubL
  rw [if_pos h, if_pos h, if_pos h, if_pos h]
  exact ⟨rfl, rfl, rfl, rfl⟩
theorem flO_ok {p : Pa} {t : Tb} (h : unE p t = 0) (hl : (plsA p t).length = p.fl.length + 1) {w : World} {A1 : Option Addr} {d1 : Nat} {A2 : Option Addr} {d2 : Nat} {A3 : Option Addr} {d3 : Nat} {A4 : Option Addr} {d4 : Nat} (h1 : SlRq w A1 d1 ((plsA p t).map rcF)) (h2 : SlRq w A2 d2 (cuL (plsA p t) p.ho)) (h3 : SlRq w A3 d3 (foL (plsA p t) p.ho)) (h4 : SlBn w A4 d4 (bnA (plsA p t) p.fl p.fl.length)) :
    (urL p t).length = p.fl.length + 1 ∧ (ucL p t).length = (cuL (plsA p t) p.ho).length ∧ (ufL p t).length = (foL (plsA p t) p.ho).length ∧ (ubL p t).length = p.fl.length ∧ FlO w p t A1 d1 A2 d2 A3 d3 A4 d4 := by
  obtain ⟨e1, e2, e3, e4⟩ := urL_ok h
  refine ⟨by rw [e1, List.length_map, hl], by rw [e2], by rw [e3], by rw [e4]; unfold bnA; simp, by rw [e1]; exact h1, by rw [e2]; exact h2, by rw [e3]; exact h3, by rw [e4]; exact h4⟩
set_option maxRecDepth 100000 in
set_option maxHeartbeats 4000000 in
theorem Unfold_any (p : Pa) (t : Tb) (A B C : Option Addr) (c d q : Nat) (w : World) (hP : PaW w p A c B d) (hE : SlE w C q t.en) (hs : t.mt.size ≤ 1000) :
    Calls Tryz.prog 8 #[pav p A c B d, tbv t C q] w fun e w' => ∃ A1 d1 A2 d2 A3 d3 A4 d4, e = .returned (sle (fl4 A1 (urL p t).length d1 A2 (ucL p t).length d2 A3 (ufL p t).length d3 A4 (ubL p t).length d4) (unE p t)) ∧ FlO w' p t A1 d1 A2 d2 A3 d3 A4 d4 ∧ Gr w w' := by
  have HD := hide (fun (w' : World) (g : Gr w w') => places_any p t A B C c d q w' (hP.gr g) (hE.gr g) hs)
  by_cases h0 : plE p t = 0
  · have HK := hide (pk_of h0)
    have HZ := hide h0
    have HRB := hide (fun A1 c1 (w' : World) (g : Gr w w') (h : SlP w' A1 c1 (plsA p t)) => reachesBend_any p t A B A1 c d c1 w' (hP.gr g) HK.out.ded h)
    have HPT := hide (fun A1 c1 (w' : World) (g : Gr w w') (h : SlP w' A1 c1 (plsA p t)) => patternOf_any p t A B A1 c d c1 w' (hP.gr g) h0 h)
    have HFM := hide (fun A1 c1 (w' : World) (g : Gr w w') (h : SlRq w' A1 c1 ((plsA p t).map rcF)) => facesMeet_any p A B A1 c d c1 ((plsA p t).map rcF) w' (hP.fl.gr g) (by have := HK.out.nfl; omega) (by
      intro r hr
      obtain ⟨q, hq, rfl⟩ := List.mem_map.1 hr
      exact rcF_ok (HK.out.pb q hq) HK.out.nfl (HK.out.ab q hq)) (by rw [List.length_map]; exact HK.out.len) h)
    rw [h0] at HD
    have HLN := hide HK.out.len
    clear hP hE h0
    cases hrb : rbB p (plsA p t) with
    | true =>
      have HU := hide (unE_rb HZ.out hrb)
      have HN := hide (flO_nil (p := p) (t := t) (by rw [HU.out]; decide) w)
      have HN2 := hide (fun w => (flO_nil (p := p) (t := t) (by rw [HU.out]; decide) w).2.2.2.2)
      rw [hrb] at HRB
      clear hrb
      go_enter Tryz.func8, Tryz.ntmps8
      go_upto_region 2 with fail
      refine (HD.out _ (by repeat (first | with_reducible exact Gr.refl _ | with_reducible assumption | with_reducible refine Gr.alloc ?_ _ | with_reducible refine Gr.drewN ?_ _ | with_reducible refine Gr.drew ?_ | with_reducible refine Gr.setCell ?_ (by first | (dsimp only; omega) | (simp only [World.size_alloc]; omega) | (with_reducible refine Gr.size ?_; (repeat (first | with_reducible exact Gr.refl _ | with_reducible assumption | with_reducible refine Gr.alloc ?_ _ | with_reducible refine Gr.drewN ?_ _ | with_reducible refine Gr.drew ?_ | with_reducible refine Gr.trans ?_ (by with_reducible assumption))); done)) _ | with_reducible refine Gr.trans ?_ (by with_reducible assumption)))).mono ?_
      rintro e w1 ⟨v1, rfl, hO1, g1⟩
      have hO1 := hO1 (by trivial)
      obtain ⟨A1, d1, rfl⟩ := hO1.slice
      have HS1 := hide (slP_own hO1)
      rw [HLN.out] at hO1 ⊢
      clear hO1
      obtain ⟨X1, Y1, c1, f1⟩ := g1.use
      have z1 := g1.size
      simp only [World.size_alloc] at z1
      have l0 : w.heap.size < w1.heap.size := by omega
      have l1 : w.heap.size + 1 < w1.heap.size := by omega
      have l2 : w.heap.size + 1 + 1 < w1.heap.size := by omega
      go_wp2_with fail
      refine (HRB.out _ _ _ (by repeat (first | with_reducible exact Gr.refl _ | with_reducible assumption | with_reducible refine Gr.alloc ?_ _ | with_reducible refine Gr.drewN ?_ _ | with_reducible refine Gr.drew ?_ | with_reducible refine Gr.setCell ?_ (by first | (dsimp only; omega) | (simp only [World.size_alloc]; omega) | (with_reducible refine Gr.size ?_; (repeat (first | with_reducible exact Gr.refl _ | with_reducible assumption | with_reducible refine Gr.alloc ?_ _ | with_reducible refine Gr.drewN ?_ _ | with_reducible refine Gr.drew ?_ | with_reducible refine Gr.trans ?_ (by with_reducible assumption))); done)) _ | with_reducible refine Gr.trans ?_ (by with_reducible assumption))) HS1.out).mono ?_
      rintro e w2 ⟨rfl, g2⟩
      obtain ⟨X2, Y2, c2, f2⟩ := g2.use
      have z2 := g2.size
      have m0 : w.heap.size < w2.heap.size := by omega
      have m1 : w.heap.size + 1 < w2.heap.size := by omega
      have m2 : w.heap.size + 1 + 1 < w2.heap.size := by omega
      go_wp2_with fail
      refine bodyPost_ret (v := sle (fl4 none 0 0 none 0 0 none 0 0 none 0 0) 8) (by simp [results, Tryz.results8, go_sem, *]) rfl ⟨none, 0, none, 0, none, 0, none, 0, by rw [HU.out, HN.out.1, HN.out.2.1, HN.out.2.2.1, HN.out.2.2.2.1], (HN2.out _), (by repeat (first | with_reducible exact Gr.refl _ | with_reducible assumption | with_reducible refine Gr.alloc ?_ _ | with_reducible refine Gr.drewN ?_ _ | with_reducible refine Gr.drew ?_ | with_reducible refine Gr.setCell ?_ (by first | (dsimp only; omega) | (simp only [World.size_alloc]; omega) | (with_reducible refine Gr.size ?_; (repeat (first | with_reducible exact Gr.refl _ | with_reducible assumption | with_reducible refine Gr.alloc ?_ _ | with_reducible refine Gr.drewN ?_ _ | with_reducible refine Gr.drew ?_ | with_reducible refine Gr.trans ?_ (by with_reducible assumption))); done)) _ | with_reducible refine Gr.trans ?_ (by with_reducible assumption)))⟩
    | false =>
      rw [hrb] at HRB
      have HUF := hide (fun m => unE_fm HZ.out hrb m)
      have HUO := hide (fun m => unE_ok HZ.out hrb m)
      clear hrb
      go_enter Tryz.func8, Tryz.ntmps8
      go_upto_region 2 with fail
      refine (HD.out _ (by repeat (first | with_reducible exact Gr.refl _ | with_reducible assumption | with_reducible refine Gr.alloc ?_ _ | with_reducible refine Gr.drewN ?_ _ | with_reducible refine Gr.drew ?_ | with_reducible refine Gr.setCell ?_ (by first | (dsimp only; omega) | (simp only [World.size_alloc]; omega) | (with_reducible refine Gr.size ?_; (repeat (first | with_reducible exact Gr.refl _ | with_reducible assumption | with_reducible refine Gr.alloc ?_ _ | with_reducible refine Gr.drewN ?_ _ | with_reducible refine Gr.drew ?_ | with_reducible refine Gr.trans ?_ (by with_reducible assumption))); done)) _ | with_reducible refine Gr.trans ?_ (by with_reducible assumption)))).mono ?_
      rintro e w1 ⟨v1, rfl, hO1, g1⟩
      have hO1 := hO1 (by trivial)
      obtain ⟨A1, d1, rfl⟩ := hO1.slice
      have HS1 := hide (slP_own hO1)
      rw [HLN.out] at hO1 ⊢
      clear hO1
      obtain ⟨X1, Y1, c1, f1⟩ := g1.use
      have z1 := g1.size
      simp only [World.size_alloc] at z1
      have l0 : w.heap.size < w1.heap.size := by omega
      have l1 : w.heap.size + 1 < w1.heap.size := by omega
      have l2 : w.heap.size + 1 + 1 < w1.heap.size := by omega
      go_wp2_with fail
      refine (HRB.out _ _ _ (by repeat (first | with_reducible exact Gr.refl _ | with_reducible assumption | with_reducible refine Gr.alloc ?_ _ | with_reducible refine Gr.drewN ?_ _ | with_reducible refine Gr.drew ?_ | with_reducible refine Gr.setCell ?_ (by first | (dsimp only; omega) | (simp only [World.size_alloc]; omega) | (with_reducible refine Gr.size ?_; (repeat (first | with_reducible exact Gr.refl _ | with_reducible assumption | with_reducible refine Gr.alloc ?_ _ | with_reducible refine Gr.drewN ?_ _ | with_reducible refine Gr.drew ?_ | with_reducible refine Gr.trans ?_ (by with_reducible assumption))); done)) _ | with_reducible refine Gr.trans ?_ (by with_reducible assumption))) HS1.out).mono ?_
      rintro e w2 ⟨rfl, g2⟩
      obtain ⟨X2, Y2, c2, f2⟩ := g2.use
      have z2 := g2.size
      have m0 : w.heap.size < w2.heap.size := by omega
      have m1 : w.heap.size + 1 < w2.heap.size := by omega
      have m2 : w.heap.size + 1 + 1 < w2.heap.size := by omega
      go_wp2_with fail
      refine (HPT.out _ _ _ (by repeat (first | with_reducible exact Gr.refl _ | with_reducible assumption | with_reducible refine Gr.alloc ?_ _ | with_reducible refine Gr.drewN ?_ _ | with_reducible refine Gr.drew ?_ | with_reducible refine Gr.setCell ?_ (by first | (dsimp only; omega) | (simp only [World.size_alloc]; omega) | (with_reducible refine Gr.size ?_; (repeat (first | with_reducible exact Gr.refl _ | with_reducible assumption | with_reducible refine Gr.alloc ?_ _ | with_reducible refine Gr.drewN ?_ _ | with_reducible refine Gr.drew ?_ | with_reducible refine Gr.trans ?_ (by with_reducible assumption))); done)) _ | with_reducible refine Gr.trans ?_ (by with_reducible assumption))) (HS1.out.gr g2)).mono ?_
      rintro e w3 ⟨A3, d3, A4, d4, A5, d5, A6, d6, rfl, r1, r2, r3, r4, g3, hge⟩
      have HGE := hide hge
      clear hge
      have HR1 := hide r1
      have HR2 := hide r2
      have HR3 := hide r3
      have HR4 := hide r4
      clear r1 r2 r3 r4
      obtain ⟨X3, Y3, c3, f3⟩ := g3.use
      have z3 := g3.size
      have n0 : w.heap.size < w3.heap.size := by omega
      have n1 : w.heap.size + 1 < w3.heap.size := by omega
      have n2 : w.heap.size + 1 + 1 < w3.heap.size := by omega
      go_wp2_with fail
      refine (HFM.out _ _ _ (by repeat (first | with_reducible exact Gr.refl _ | with_reducible assumption | with_reducible refine Gr.alloc ?_ _ | with_reducible refine Gr.drewN ?_ _ | with_reducible refine Gr.drew ?_ | with_reducible refine Gr.setCell ?_ (by first | (dsimp only; omega) | (simp only [World.size_alloc]; omega) | (with_reducible refine Gr.size ?_; (repeat (first | with_reducible exact Gr.refl _ | with_reducible assumption | with_reducible refine Gr.alloc ?_ _ | with_reducible refine Gr.drewN ?_ _ | with_reducible refine Gr.drew ?_ | with_reducible refine Gr.trans ?_ (by with_reducible assumption))); done)) _ | with_reducible refine Gr.trans ?_ (by with_reducible assumption))) (HR1.out.gr (by repeat (first | with_reducible exact Gr.refl _ | with_reducible assumption | with_reducible refine Gr.alloc ?_ _ | with_reducible refine Gr.drewN ?_ _ | with_reducible refine Gr.drew ?_ | with_reducible refine Gr.setCell ?_ (by first | (dsimp only; omega) | (simp only [World.size_alloc]; omega) | (with_reducible refine Gr.size ?_; (repeat (first | with_reducible exact Gr.refl _ | with_reducible assumption | with_reducible refine Gr.alloc ?_ _ | with_reducible refine Gr.drewN ?_ _ | with_reducible refine Gr.drew ?_ | with_reducible refine Gr.trans ?_ (by with_reducible assumption))); done)) _ | with_reducible refine Gr.trans ?_ (by with_reducible assumption))))).mono ?_
      rintro e w4 ⟨rfl, g4⟩
      obtain ⟨X4, Y4, c4, f4⟩ := g4.use
      have z4 := g4.size
      simp only [World.size_alloc] at z4
      have o0 : w.heap.size < w4.heap.size := by omega
      have o1 : w.heap.size + 1 < w4.heap.size := by omega
      have o2 : w.heap.size + 1 + 1 < w4.heap.size := by omega
      have o3 : w3.heap.size < w4.heap.size := by omega
      cases hfm : fmB p.fl ((plsA p t).map rcF) with
      | true =>
        have HU := hide (HUF.out hfm)
        have HN := hide (flO_nil (p := p) (t := t) (by rw [HU.out]; decide) w)
        have HN2 := hide (fun w => (flO_nil (p := p) (t := t) (by rw [HU.out]; decide) w).2.2.2.2)
        clear HUF HUO
        go_wp2
        refine bodyPost_ret (v := sle (fl4 none 0 0 none 0 0 none 0 0 none 0 0) 7) (by simp [results, Tryz.results8, go_sem, *]) rfl ⟨none, 0, none, 0, none, 0, none, 0, by rw [HU.out, HN.out.1, HN.out.2.1, HN.out.2.2.1, HN.out.2.2.2.1], (HN2.out _), (by repeat (first | with_reducible exact Gr.refl _ | with_reducible assumption | with_reducible refine Gr.alloc ?_ _ | with_reducible refine Gr.drewN ?_ _ | with_reducible refine Gr.drew ?_ | with_reducible refine Gr.setCell ?_ (by first | (dsimp only; omega) | (simp only [World.size_alloc]; omega) | (with_reducible refine Gr.size ?_; (repeat (first | with_reducible exact Gr.refl _ | with_reducible assumption | with_reducible refine Gr.alloc ?_ _ | with_reducible refine Gr.drewN ?_ _ | with_reducible refine Gr.drew ?_ | with_reducible refine Gr.trans ?_ (by with_reducible assumption))); done)) _ | with_reducible refine Gr.trans ?_ (by with_reducible assumption)))⟩
      | false =>
        have HU := hide (HUO.out hfm)
        have g34 : Gr w3 w4 := (by repeat (first | with_reducible exact Gr.refl _ | with_reducible assumption | with_reducible refine Gr.alloc ?_ _ | with_reducible refine Gr.drewN ?_ _ | with_reducible refine Gr.drew ?_ | with_reducible refine Gr.setCell ?_ (by first | (dsimp only; omega) | (simp only [World.size_alloc]; omega) | (with_reducible refine Gr.size ?_; (repeat (first | with_reducible exact Gr.refl _ | with_reducible assumption | with_reducible refine Gr.alloc ?_ _ | with_reducible refine Gr.drewN ?_ _ | with_reducible refine Gr.drew ?_ | with_reducible refine Gr.trans ?_ (by with_reducible assumption))); done)) _ | with_reducible refine Gr.trans ?_ (by with_reducible assumption)))
        clear HUF HUO
        go_wp2
        have HOK := hide (flO_ok HU.out HLN.out (HR1.out.gr g34) (HR2.out.gr g34) (HR3.out.gr g34) (HR4.out.gr g34))
        have gW : Gr w w4 := (by repeat (first | with_reducible exact Gr.refl _ | with_reducible assumption | with_reducible refine Gr.alloc ?_ _ | with_reducible refine Gr.drewN ?_ _ | with_reducible refine Gr.drew ?_ | with_reducible refine Gr.setCell ?_ (by first | (dsimp only; omega) | (simp only [World.size_alloc]; omega) | (with_reducible refine Gr.size ?_; (repeat (first | with_reducible exact Gr.refl _ | with_reducible assumption | with_reducible refine Gr.alloc ?_ _ | with_reducible refine Gr.drewN ?_ _ | with_reducible refine Gr.drew ?_ | with_reducible refine Gr.trans ?_ (by with_reducible assumption))); done)) _ | with_reducible refine Gr.trans ?_ (by with_reducible assumption)))
        refine bodyPost_ret (v := sle (fl4 A3 (p.fl.length + 1) d3 A4 (cuL (plsA p t) p.ho).length d4 A5 (foL (plsA p t) p.ho).length d5 A6 p.fl.length d6) 0) (by simp [results, Tryz.results8, go_sem, *]) rfl ⟨A3, d3, A4, d4, A5, d5, A6, d6, by rw [HU.out, HOK.out.1, HOK.out.2.1, HOK.out.2.2.1, HOK.out.2.2.2.1], ?_, (by repeat (first | with_reducible exact Gr.refl _ | with_reducible assumption | with_reducible refine Gr.alloc ?_ _ | with_reducible refine Gr.drewN ?_ _ | with_reducible refine Gr.drew ?_ | with_reducible refine Gr.setCell ?_ (by first | (dsimp only; omega) | (simp only [World.size_alloc]; omega) | (with_reducible refine Gr.size ?_; (repeat (first | with_reducible exact Gr.refl _ | with_reducible assumption | with_reducible refine Gr.alloc ?_ _ | with_reducible refine Gr.drewN ?_ _ | with_reducible refine Gr.drew ?_ | with_reducible refine Gr.trans ?_ (by with_reducible assumption))); done)) _ | with_reducible refine Gr.trans ?_ (by with_reducible assumption)))⟩
        have h := HOK.out.2.2.2.2
        refine ⟨h.r.bx (B := w.heap.size + 1 + 1) ?_ ?_, h.c.bx (B := w.heap.size + 1 + 1) ?_ ?_, h.f.bx (B := w.heap.size + 1 + 1) ?_ ?_, ⟨h.b.rd.bx (B := w.heap.size + 1 + 1) ?_ ?_, h.b.cap, h.b.capB⟩⟩
        all_goals first
          | (intro x hx; have := HGE.out x (by simp [hx]); omega)
          | (repeat (first | exact Bx.refl _ _ | refine Bx.set ?_ _ _))
  · have HU := hide (unE_pl h0)
    have HZ := hide h0
    have HN := hide (flO_nil (p := p) (t := t) (by rw [HU.out]; exact h0) w)
    have HN2 := hide (fun w => (flO_nil (p := p) (t := t) (by rw [HU.out]; exact h0) w).2.2.2.2)
    clear h0 hP hE
    generalize plE p t = te at *
    have hz : ¬ te = 0 := HZ.out
    go_enter Tryz.func8, Tryz.ntmps8
    go_wp2_with fail
    refine (HD.out _ (by repeat (first | with_reducible exact Gr.refl _ | with_reducible assumption | with_reducible refine Gr.alloc ?_ _ | with_reducible refine Gr.drewN ?_ _ | with_reducible refine Gr.drew ?_ | with_reducible refine Gr.setCell ?_ (by first | (dsimp only; omega) | (simp only [World.size_alloc]; omega) | (with_reducible refine Gr.size ?_; (repeat (first | with_reducible exact Gr.refl _ | with_reducible assumption | with_reducible refine Gr.alloc ?_ _ | with_reducible refine Gr.drewN ?_ _ | with_reducible refine Gr.drew ?_ | with_reducible refine Gr.trans ?_ (by with_reducible assumption))); done)) _ | with_reducible refine Gr.trans ?_ (by with_reducible assumption)))).mono ?_
    rintro e w1 ⟨v1, rfl, -, g1⟩
    obtain ⟨X1, Y1, c1, f1⟩ := g1.use
    have z1 := g1.size
    simp only [World.size_alloc] at z1
    have l2 : w.heap.size + 1 + 1 < w1.heap.size := by omega
    go_wp2_with fail
    refine bodyPost_ret (v := sle (fl4 none 0 0 none 0 0 none 0 0 none 0 0) te) (by simp [results, Tryz.results8, go_sem, *]) rfl ⟨none, 0, none, 0, none, 0, none, 0, by rw [HU.out, HN.out.1, HN.out.2.1, HN.out.2.2.1, HN.out.2.2.2.1], (HN2.out _), (by repeat (first | with_reducible exact Gr.refl _ | with_reducible assumption | with_reducible refine Gr.alloc ?_ _ | with_reducible refine Gr.drewN ?_ _ | with_reducible refine Gr.drew ?_ | with_reducible refine Gr.setCell ?_ (by first | (dsimp only; omega) | (simp only [World.size_alloc]; omega) | (with_reducible refine Gr.size ?_; (repeat (first | with_reducible exact Gr.refl _ | with_reducible assumption | with_reducible refine Gr.alloc ?_ _ | with_reducible refine Gr.drewN ?_ _ | with_reducible refine Gr.drew ?_ | with_reducible refine Gr.trans ?_ (by with_reducible assumption))); done)) _ | with_reducible refine Gr.trans ?_ (by with_reducible assumption)))⟩
end Go.Proofs.YtjnfodbniohkhaaGreat
set_option linter.unusedVariables false
set_option linter.unusedSimpArgs false
namespace Go.Proofs.YtjnfodbniohkhaaGreat
set_option linter.unusedVariables false
set_option linter.unusedSimpArgs false
open Go Go.ChangeShapes Go.WideShapes Go.ChangeAt Go.RowKit Go.Deep

theorem unE_zero {p : Pa} {t : Tb} (h : unE p t = 0) : plE p t = 0 ∧ rbB p (plsA p t) = false ∧ fmB p.fl ((plsA p t).map rcF) = false := by
  unfold unE at h
  by_cases h0 : plE p t = 0
  · rw [if_neg (by simpa using h0)] at h
    cases h1 : rbB p (plsA p t) with
    | true => rw [h1, if_pos rfl] at h; omega
    | false =>
      rw [h1, if_neg (by decide)] at h
      cases h2 : fmB p.fl ((plsA p t).map rcF) with
      | true => rw [h2, if_pos rfl] at h; omega
      | false => exact ⟨h0, rfl, rfl⟩
  · rw [if_pos (by simpa using h0)] at h
    exact absurd h h0
theorem ur_len {p : Pa} {t : Tb} (h : unE p t = 0) : (urL p t).length = p.fl.length + 1 ∧ (ubL p t).length = p.fl.length ∧ (ucL p t).length + (ufL p t).length = p.ho.length := by
  obtain ⟨e1, e2, e3, e4⟩ := urL_ok h
  rw [e1, e2, e3, e4]
  refine ⟨?_, ?_, ?_⟩
  · rw [List.length_map]; exact pls_len (Nat.le_refl _)
  · unfold bnA; rw [List.length_map, List.length_range]
  · unfold cuL foL
    rw [List.length_map, List.length_map]
    generalize p.ho = l
    induction l with
    | nil => rfl
    | cons x l ih =>
      by_cases hk : x.kd = 1
      · rw [List.filter_cons_of_pos (by simpa using hk), List.filter_cons_of_neg (by simpa using hk)]
        simp only [List.length_cons]; omega
      · rw [List.filter_cons_of_neg (by simpa using hk), List.filter_cons_of_pos (by simpa using hk)]
        simp only [List.length_cons]; omega
theorem ur_apart {p : Pa} {t : Tb} (h : unE p t = 0) {i k : Nat} (hk : k < i) {r s : RG.Rc} (h1 : (urL p t)[k]? = some r) (h2 : (urL p t)[i]? = some s) : (decide (0 < ctX r s) && decide (0 < ctY r s)) = false := by
  obtain ⟨-, -, hm⟩ := unE_zero h
  have hl := (ur_len h).1
  rw [(urL_ok h).1] at h1 h2 hl
  obtain ⟨j, rfl⟩ : ∃ j, i = j + 1 := ⟨i - 1, by omega⟩
  have hj : j < p.fl.length := by have := (List.getElem?_eq_some_iff.1 h2).1; omega
  refine Decidable.byContradiction fun hc => ?_
  rw [Bool.not_eq_false] at hc
  have : fmB p.fl ((plsA p t).map rcF) = true := fmB_yes ⟨j, k, p.fl[j], r, s, List.getElem?_eq_getElem hj, by omega, h1, h2, by unfold baB; rw [hc]; rfl⟩
  rw [hm] at this
  cases this
theorem rt_axes (n : Nat) : (rt n (0, 1) = (-(rt n (1, 0)).2, (rt n (1, 0)).1)) ∧ (rt n (1, 0) = (1, 0) ∨ rt n (1, 0) = (0, 1) ∨ rt n (1, 0) = (-1, 0) ∨ rt n (1, 0) = (0, -1)) := by
  induction n with
  | zero => exact ⟨rfl, .inl rfl⟩
  | succ n ih =>
    obtain ⟨h1, h2⟩ := ih
    refine ⟨by simp only [rt]; rw [h1], ?_⟩
    rcases h2 with h | h | h | h <;> simp [rt, h]
/-- a line lies along an edge of a rectangle, from corner to corner; within one -/
def edP (s : Sg) (r : RG.Rc) : Prop := s.b = s.d ∧ s.a = r.x ∧ s.c = r.x + r.w ∧ (s.b = r.y ∨ s.b = r.y + r.h) ∨ s.b ≠ s.d ∧ s.a = s.c ∧ s.b = r.y ∧ s.d = r.y + r.h ∧ (s.a = r.x ∨ s.a = r.x + r.w)
def wiP (s : Sg) (r : RG.Rc) : Prop := s.b = s.d ∧ s.a ≥ r.x ∧ s.c ≤ r.x + r.w ∧ (s.b = r.y ∨ s.b = r.y + r.h) ∨ s.b ≠ s.d ∧ s.a = s.c ∧ s.b ≥ r.y ∧ s.d ≤ r.y + r.h ∧ (s.a = r.x ∨ s.a = r.x + r.w)
theorem pt_of (q : Pl) : ∃ c d : Int, (c = 1 ∧ d = 0 ∨ c = 0 ∧ d = 1 ∨ c = -1 ∧ d = 0 ∨ c = 0 ∧ d = -1) ∧ ∀ u v, ptX q u v = q.x + (u * c - v * d) ∧ ptY q u v = q.y + (u * d + v * c) := by
  obtain ⟨h1, h2⟩ := rt_axes q.t
  refine ⟨(rt q.t (1, 0)).1, (rt q.t (1, 0)).2, ?_, fun u v => ?_⟩
  · rcases h2 with h | h | h | h <;> rw [h] <;> simp
  · unfold ptX ptY
    rw [rt_lin, h1]
    exact ⟨by rw [Int.mul_neg, Int.sub_eq_add_neg], rfl⟩
theorem mn_sp (a b : Int) : (a ≤ b ∧ mnI a b = a ∧ mxI a b = b) ∨ (b < a ∧ mnI a b = b ∧ mxI a b = a) := by
  by_cases h : b < a
  · exact .inr ⟨h, mn_lt h⟩
  · exact .inl ⟨by omega, mn_ge (by omega)⟩
theorem ln_edge (q : Pl) (W H : Int) (hW : 0 < W) (hH : 0 < H) : (orS (lnO q 0 0 W 0)).c - (orS (lnO q 0 0 W 0)).a + (orS (lnO q 0 0 W 0)).d - (orS (lnO q 0 0 W 0)).b = W ∧ edP (orS (lnO q 0 0 W 0)) (rcO q 0 0 W H) := by
  obtain ⟨c, d, hcd, hp⟩ := pt_of q
  unfold edP rcO rcS orS lnO
  simp only [hp, Int.zero_add]
  clear hp
  have m1 := mn_sp (q.x + (0 * c - 0 * d)) (q.x + (W * c - 0 * d))
  have m2 := mn_sp (q.y + (0 * d + 0 * c)) (q.y + (W * d + 0 * c))
  have m3 := mn_sp (q.x + (0 * c - 0 * d)) (q.x + (W * c - H * d))
  have m4 := mn_sp (q.y + (0 * d + 0 * c)) (q.y + (W * d + H * c))
  rcases hcd with ⟨rfl, rfl⟩ | ⟨rfl, rfl⟩ | ⟨rfl, rfl⟩ | ⟨rfl, rfl⟩ <;> constructor <;> omega
end Go.Proofs.YtjnfodbniohkhaaGreat
set_option linter.unusedVariables false
set_option linter.unusedSimpArgs false
namespace Go.Proofs.YtjnfodbniohkhaaGreat
set_option linter.unusedVariables false
set_option linter.unusedSimpArgs false
open Go Go.ChangeShapes Go.WideShapes Go.ChangeAt Go.RowKit Go.Deep

theorem rt_cd (n : Nat) : ∃ c d : Int, (c = 1 ∧ d = 0 ∨ c = 0 ∧ d = 1 ∨ c = -1 ∧ d = 0 ∨ c = 0 ∧ d = -1) ∧ ∀ u v, rt n (u, v) = (u * c - v * d, u * d + v * c) := by
  obtain ⟨h1, h2⟩ := rt_axes n
  refine ⟨(rt n (1, 0)).1, (rt n (1, 0)).2, ?_, fun u v => ?_⟩
  · rcases h2 with h | h | h | h <;> rw [h] <;> simp
  · rw [rt_lin, h1, Int.mul_neg, Int.sub_eq_add_neg]
/-- the line of a flange, in its parent's coordinates: from (a, b) to (a', b') -/
theorem pl_line (q : Pl) (f : Fl) (e : Int) (n : Nat) (hn : (3 - f.sd).toNat = n) (u : Int) :
    ptX (plC q f e) u 0 = ptX q (beU f q * 720 + (rt n (u, 0)).1) (abv q (beV f q) + (rt n (u, 0)).2) ∧ ptY (plC q f e) u 0 = ptY q (beU f q * 720 + (rt n (u, 0)).1) (abv q (beV f q) + (rt n (u, 0)).2) := by
  obtain ⟨c, d, hcd, hp⟩ := rt_cd q.t
  unfold plC ptX ptY
  simp only [hn, rt_add]
  generalize rt n (u, 0) = z
  obtain ⟨z1, z2⟩ := z
  simp only [hp, Int.add_mul]
  omega
theorem seg_in (q : Pl) (W H a b a' b' : Int) (h : (b = b' ∧ (b = 0 ∨ b = H) ∧ 0 ≤ a ∧ a ≤ W ∧ 0 ≤ a' ∧ a' ≤ W) ∨ (a = a' ∧ b ≠ b' ∧ (a = 0 ∨ a = W) ∧ 0 ≤ b ∧ b ≤ H ∧ 0 ≤ b' ∧ b' ≤ H)) (hne : a ≠ a' ∨ b ≠ b') (hW : 0 < W) (hH : 0 < H) : wiP (orS (lnO q a b a' b')) (rcO q 0 0 W H) := by
  obtain ⟨c, d, hcd, hp⟩ := pt_of q
  unfold wiP rcO rcS orS lnO
  simp only [hp, Int.zero_add]
  clear hp
  have m1 := mn_sp (q.x + (a * c - b * d)) (q.x + (a' * c - b' * d))
  have m2 := mn_sp (q.y + (a * d + b * c)) (q.y + (a' * d + b' * c))
  have m3 := mn_sp (q.x + (0 * c - 0 * d)) (q.x + (W * c - H * d))
  have m4 := mn_sp (q.y + (0 * d + 0 * c)) (q.y + (W * d + H * c))
  rcases hcd with ⟨rfl, rfl⟩ | ⟨rfl, rfl⟩ | ⟨rfl, rfl⟩ | ⟨rfl, rfl⟩ <;> simp only [Int.mul_one, Int.mul_zero, Int.zero_mul, Int.mul_neg, Int.sub_zero, Int.add_zero, Int.zero_add, Int.zero_sub, Int.sub_neg, Int.neg_neg, Int.neg_zero] at m1 m2 m3 m4 ⊢ <;> omega
theorem rtU (u : Int) : rt 0 (u, 0) = (u, 0) ∧ rt 1 (u, 0) = (0, u) ∧ rt 2 (u, 0) = (-u, 0) ∧ rt 3 (u, 0) = (0, -u) := by
  simp [rt]
theorem ln_par (q : Pl) (f : Fl) (e : Int) (hw : 0 < f.wd) (ho : 0 ≤ f.o) (hW : 0 < q.w) (hH : 0 < abv q q.h)
    (h : f.sd = 0 ∧ 0 ≤ abv q (q.h - f.o - f.wd) ∨ f.sd = 1 ∧ q.lo = 0 ∧ f.o + f.wd ≤ q.w ∨ f.sd = 2 ∧ 0 ≤ abv q f.o ∧ f.o + f.wd ≤ q.h ∨ f.sd = 3 ∧ f.o + f.wd ≤ q.w) :
    wiP (orS (lnO (plC q f e) 0 0 (f.wd * 720) 0)) (rcO q 0 0 (q.w * 720) (abv q q.h)) := by
  have key : ∀ n : Nat, (3 - f.sd).toNat = n → lnO (plC q f e) 0 0 (f.wd * 720) 0 = lnO q (beU f q * 720 + (rt n (0, 0)).1) (abv q (beV f q) + (rt n (0, 0)).2) (beU f q * 720 + (rt n (f.wd * 720, 0)).1) (abv q (beV f q) + (rt n (f.wd * 720, 0)).2) := by
    intro n hn
    have e1 := pl_line q f e n hn 0
    have e2 := pl_line q f e n hn (f.wd * 720)
    unfold lnO
    rw [e1.1, e1.2, e2.1, e2.2]
  unfold abv at *
  rcases h with ⟨hs, h⟩ | ⟨hs, h1, h⟩ | ⟨hs, h1, h⟩ | ⟨hs, h⟩
  · rw [key 3 (by rw [hs]; rfl), (rtU _).2.2.2, (rtU _).2.2.2]
    unfold beU beV
    simp only [hs]
    refine seg_in q _ _ _ _ _ _ ?_ ?_ (by omega) hH <;> simp <;> omega
  · rw [key 2 (by rw [hs]; rfl), (rtU _).2.2.1, (rtU _).2.2.1]
    unfold beU beV
    simp only [hs]
    refine seg_in q _ _ _ _ _ _ ?_ ?_ (by omega) hH <;> simp <;> omega
  · rw [key 1 (by rw [hs]; rfl), (rtU _).2.1, (rtU _).2.1]
    unfold beU beV
    simp only [hs]
    refine seg_in q _ _ _ _ _ _ ?_ ?_ (by omega) hH <;> simp <;> omega
  · rw [key 0 (by rw [hs]; rfl), (rtU _).1, (rtU _).1]
    unfold beU beV
    simp only [hs]
    refine seg_in q _ _ _ _ _ _ ?_ ?_ (by omega) hH <;> simp <;> omega
end Go.Proofs.YtjnfodbniohkhaaGreat
set_option linter.unusedVariables false
set_option linter.unusedSimpArgs false
namespace Go.Proofs.YtjnfodbniohkhaaGreat
set_option linter.unusedVariables false
set_option linter.unusedSimpArgs false
open Go Go.ChangeShapes Go.WideShapes Go.ChangeAt Go.RowKit Go.Deep

/-- the width and height of a face's place are those of the face -/
theorem pls_exs {p : Pa} {D : Fl → Int} (H : FlsB p.wd p.ht p.fl D) {n : Nat} {q : Pl} (hq : (pls p.wd p.ht p.fl D p.fl.length)[n]? = some q) : q.w = extW p (n : Int) ∧ q.h = extH p (n : Int) := by
  cases n with
  | zero =>
    rw [pls_zero] at hq
    obtain rfl := Option.some.inj hq
    unfold extW extH
    exact ⟨by simp, by simp⟩
  | succ n =>
    have hn : n < p.fl.length := by
      have h1 := (List.getElem?_eq_some_iff.1 hq).1
      rw [pls_len (Nat.le_refl _)] at h1
      omega
    obtain ⟨h1, h2, h3⟩ := pls_size H (List.getElem?_eq_getElem hn) hq
    unfold extW extH
    rw [if_neg (by omega), if_neg (by omega), show (((n + 1 : Nat) : Int) - 1).toNat = n by omega, List.getElem?_eq_getElem hn]
    exact ⟨h1, h2⟩
/-- the line of the flange i lies along its face's edge, is as long as the flange is wide, and lies along its parent's edge -/
theorem line_of {p : Pa} {t : Tb} (h : unE p t = 0) {i : Nat} {f : Fl} (hf : p.fl[i]? = some f) : ∃ q q', (plsA p t)[f.pa.toNat]? = some q ∧ (plsA p t)[i + 1]? = some q' ∧
    (orS (lnO q' 0 0 (q'.w * 720) 0)).c - (orS (lnO q' 0 0 (q'.w * 720) 0)).a + (orS (lnO q' 0 0 (q'.w * 720) 0)).d - (orS (lnO q' 0 0 (q'.w * 720) 0)).b = f.wd * 720 ∧
    edP (orS (lnO q' 0 0 (q'.w * 720) 0)) (rcF q') ∧ wiP (orS (lnO q' 0 0 (q'.w * 720) 0)) (rcF q) := by
  obtain ⟨h0, hrb, -⟩ := unE_zero h
  have K := pk_of h0
  have hva := (dlE_zero K.ded).1
  obtain ⟨q, h1, h2⟩ := pls_flange K.fls hf
  obtain ⟨h3, h4, h5⟩ := flE_side (flE_all hva i f hf)
  obtain ⟨hpa, hpa2⟩ := K.fls.pa i f hf
  have hfb := K.fls.fl i f hf
  obtain ⟨e1, e2⟩ := pls_exs K.fls h1
  rw [show ((f.pa.toNat : Nat) : Int) = f.pa by omega] at e1 e2
  have hb := K.pb q (List.mem_of_getElem? h1)
  have ha := K.ab q (List.mem_of_getElem? h1)
  have ha' := K.ab _ (List.mem_of_getElem? h2)
  have hr : rbF (plsA p t) f = false := by
    cases hx : rbF (plsA p t) f with
    | false => rfl
    | true => rw [rbB_fl hf hx] at hrb; cases hrb
  unfold rbF at hr
  rw [show (plsA p t)[f.pa.toNat]? = some q from h1] at hr
  simp only [Option.getD_some, decide_eq_false_iff_not, Int.not_lt] at hr
  have hw := hfb.wd
  have hbw := hb.w
  have hlo := hb.lo
  have hE := ln_edge (plC q f (dT t f)) ((plC q f (dT t f)).w * 720) (abv (plC q f (dT t f)) (plC q f (dT t f)).h) (by show 0 < f.wd * 720; omega) (by omega)
  refine ⟨q, plC q f (dT t f), h1, h2, hE.1, hE.2, ?_⟩
  refine ln_par q f (dT t f) (by omega) h4 (by omega) (by omega) ?_
  unfold loV beV at hr
  unfold sidL at h5
  rcases hfb.sd with hs | hs | hs | hs
  · rw [if_pos hs, if_pos hs] at hr
    exact .inl ⟨hs, hr⟩
  · rw [if_neg (by omega), if_neg (by omega), if_pos hs] at hr
    rw [if_neg (by omega), ← e1] at h5
    unfold abv at hr
    exact .inr (.inl ⟨hs, by omega, h5⟩)
  · rw [if_neg (by omega), if_neg (by omega), if_neg (by omega), if_pos hs] at hr
    rw [if_pos (by omega), ← e2] at h5
    exact .inr (.inr (.inl ⟨hs, hr, h5⟩))
  · rw [if_neg (by omega), ← e1] at h5
    exact .inr (.inr (.inr ⟨hs, h5⟩))
/-- a rectangle a step within another stays so when both are laid -/
theorem rc_in (q : Pl) (W H a b w h : Int) (ha : 1 ≤ a ∧ a + w ≤ W - 1) (hb : 1 ≤ b ∧ b + h ≤ H - 1) (hw : 0 < w) (hh : 0 < h) :
    (rcO q 0 0 W H).x ≤ (rcO q a b w h).x - 1 ∧ (rcO q a b w h).x - 1 + ((rcO q a b w h).w + 2) ≤ (rcO q 0 0 W H).x + (rcO q 0 0 W H).w ∧
    (rcO q 0 0 W H).y ≤ (rcO q a b w h).y - 1 ∧ (rcO q a b w h).y - 1 + ((rcO q a b w h).h + 2) ≤ (rcO q 0 0 W H).y + (rcO q 0 0 W H).h := by
  obtain ⟨c, d, hcd, hp⟩ := pt_of q
  unfold rcO rcS orS lnO
  simp only [hp, Int.zero_add]
  clear hp
  have m1 := mn_sp (q.x + (a * c - b * d)) (q.x + ((a + w) * c - (b + h) * d))
  have m2 := mn_sp (q.y + (a * d + b * c)) (q.y + ((a + w) * d + (b + h) * c))
  have m3 := mn_sp (q.x + (0 * c - 0 * d)) (q.x + (W * c - H * d))
  have m4 := mn_sp (q.y + (0 * d + 0 * c)) (q.y + (W * d + H * c))
  rcases hcd with ⟨rfl, rfl⟩ | ⟨rfl, rfl⟩ | ⟨rfl, rfl⟩ | ⟨rfl, rfl⟩ <;> refine ⟨?_, ?_, ?_, ?_⟩ <;> omega
/-- a hole lies a step within its face -/
theorem hole_of {p : Pa} {t : Tb} (h : unE p t = 0) {i : Nat} {x : Ho} (hx : p.ho[i]? = some x) : ∃ q, (plsA p t)[x.fa.toNat]? = some q ∧
    (rcF q).x ≤ (rcHo (plsA p t) x).x - 1 ∧ (rcHo (plsA p t) x).x - 1 + ((rcHo (plsA p t) x).w + 2) ≤ (rcF q).x + (rcF q).w ∧
    (rcF q).y ≤ (rcHo (plsA p t) x).y - 1 ∧ (rcHo (plsA p t) x).y - 1 + ((rcHo (plsA p t) x).h + 2) ≤ (rcF q).y + (rcF q).h := by
  obtain ⟨h0, hrb, -⟩ := unE_zero h
  have K := pk_of h0
  have hva := (dlE_zero K.ded).1
  have hk := K.ho i x hx
  have hf := hk.fa
  obtain ⟨q, hq⟩ : ∃ q, (plsA p t)[x.fa.toNat]? = some q := ⟨_, List.getElem?_eq_getElem (by rw [K.len]; omega)⟩
  obtain ⟨e1, e2⟩ := pls_exs K.fls hq
  rw [show ((x.fa.toNat : Nat) : Int) = x.fa by omega] at e1 e2
  have hh := List.all_eq_true.1 (good_of hva).ho x (List.mem_of_getElem? hx)
  simp [hoB, wbB, wiB] at hh
  obtain ⟨⟨⟨⟨a1, a2⟩, a3⟩, ⟨b1, b2⟩, b3, b4⟩, ⟨c1, c2⟩, c3, c4⟩ := hh
  rw [← e1] at b4
  rw [← e2] at c4
  have hr : rbH (plsA p t) x = false := by
    cases hy : rbH (plsA p t) x with
    | false => rfl
    | true => rw [rbB_ho hx hy] at hrb; cases hrb
  unfold rbH at hr
  rw [hq] at hr
  simp only [Option.getD_some, decide_eq_false_iff_not, Int.not_lt] at hr
  refine ⟨q, hq, ?_⟩
  unfold rcF rcHo
  rw [hq]
  simp only [Option.getD_some]
  unfold abv at *
  refine rc_in q _ _ _ _ _ _ ?_ ?_ ?_ ?_ <;> omega
end Go.Proofs.YtjnfodbniohkhaaGreat
