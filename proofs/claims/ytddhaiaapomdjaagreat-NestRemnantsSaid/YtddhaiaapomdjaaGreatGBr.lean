/-
  Flat patterns turned: point, line, inOrder, rect of the code.
  Several values stored one after another into a block of the call's own. No program.
  Flat patterns turned: rects and bounds of the code.
  Flat patterns turned: the mathematics.
  Flat patterns turned: the surface stays. No program.
  TopFlats: plain facts: the settled pattern begins at 0, 0; the surface of faces apart less cuts that lie apart inside of them. No program.
  Flat patterns turned: pattern of the code.
  Flat patterns turned: SameRects and SameFlat at equal lists; ordered of the statements.
  Flat patterns turned: isOrdered and settled of the code.
  Flat patterns turned: Quarter and Settle of the code.
-/
import Derived.Test.YtddhaiaapomdjaaGreatGAr
import Derived.WalkLawsBesides
import Derived.Test.YtddhaiaapomdjaaGreatMixr
set_option linter.unusedVariables false
set_option linter.unusedSimpArgs false
namespace Go.Proofs.YtddhaiaapomdjaaGreat
set_option linter.unusedVariables false
set_option linter.unusedSimpArgs false
open Go Go.ChangeShapes Go.WideShapes Go.ChangeAt Go.RowKit Go.Deep

namespace RG
/-- so many quarter turns -/
def rtP : Nat → Int × Int → Int × Int
  | 0, p => p
  | n + 1, p => (-(rtP n p).2, (rtP n p).1)
theorem rtP_bd {m : Int} : ∀ (n : Nat) {u v : Int}, -m ≤ u ∧ u ≤ m → -m ≤ v ∧ v ≤ m → (-m ≤ (rtP n (u, v)).1 ∧ (rtP n (u, v)).1 ≤ m) ∧ -m ≤ (rtP n (u, v)).2 ∧ (rtP n (u, v)).2 ≤ m
  | 0, u, v, h1, h2 => ⟨h1, h2⟩
  | n + 1, u, v, h1, h2 => by
    obtain ⟨a, b⟩ := rtP_bd n h1 h2
    simp only [rtP]
    omega
abbrev fmv (x y t : Int) : Value := .agg #[iv x, iv y, iv t]
def pX (x : Int) (t : Nat) (u v : Int) : Int := x + (rtP t (u, v)).1
def pY (y : Int) (t : Nat) (u v : Int) : Int := y + (rtP t (u, v)).2
theorem p_bd {x y : Int} {t : Nat} {u v : Int} (hx : -10000000 ≤ x ∧ x ≤ 10000000) (hy : -10000000 ≤ y ∧ y ≤ 10000000) (hu : -10000000 ≤ u ∧ u ≤ 10000000) (hv : -10000000 ≤ v ∧ v ≤ 10000000) : (-20000000 ≤ pX x t u v ∧ pX x t u v ≤ 20000000) ∧ -20000000 ≤ pY y t u v ∧ pY y t u v ≤ 20000000 := by
  have := rtP_bd t hu hv
  unfold pX pY
  omega
set_option maxHeartbeats 2000000 in
set_option maxRecDepth 100000 in
theorem point_any (x y : Int) (t : Nat) (u v : Int) (w : World) (hx : -10000000 ≤ x ∧ x ≤ 10000000) (hy : -10000000 ≤ y ∧ y ≤ 10000000) (hu : -10000000 ≤ u ∧ u ≤ 10000000) (hv : -10000000 ≤ v ∧ v ≤ 10000000) (ht : t ≤ 1000) :
    Calls Tryz.prog 203 #[fmv x y (t : Int), iv u, iv v] w fun e w' => e = .returned (.tuple #[iv (pX x t u v), iv (pY y t u v)]) ∧ Gr w w' := by
  have HB := hide (fun n => rtP_bd n hu hv)
  have HP := hide (show pX x t u v = x + (rtP t (u, v)).1 ∧ pY y t u v = y + (rtP t (u, v)).2 from ⟨rfl, rfl⟩)
  have HS := hide (fun n => (show rtP (n + 1) (u, v) = (-(rtP n (u, v)).2, (rtP n (u, v)).1) from rfl))
  clear hu hv
  obtain ⟨hx1, hx2⟩ := hx
  obtain ⟨hy1, hy2⟩ := hy
  have g0 : Gr w (w.alloc (.cells #[iv x, iv y, iv (t : Int)] 183)) := Gr.alloc (Gr.refl _) _
  go_enter Tryz.func203, Tryz.ntmps203
  go_wp2_with fail
  go_loopw [1, 2, 10] (fun uv vv i wr => ∃ k : Nat, k ≤ t ∧ i = iv k ∧ uv = iv (rtP k (u, v)).1 ∧ vv = iv (rtP k (u, v)).2 ∧ Gr (w.alloc (.cells #[iv x, iv y, iv (t : Int)] 183)) wr) (fun _ _ i _ => t - (intOf i).toNat)
  case atStart => exact ⟨0, by omega, rfl, rfl, rfl, Gr.refl _⟩
  case round =>
    obtain ⟨k, hk, rfl, rfl, rfl, g⟩ := hrel
    obtain ⟨⟨b1, b2⟩, b3, b4⟩ := HB.out k
    have HN := hide (HS.out k)
    obtain ⟨z, hz⟩ : ∃ z, rtP k (u, v) = z := ⟨_, rfl⟩
    rw [hz] at b1 b2 b3 b4 HN ⊢
    have HZ := hide hz
    clear hz
    obtain ⟨z1, z2⟩ := z
    simp only at b1 b2 b3 b4 HN ⊢
    by_cases hkt : k < t
    · have s1 : IntKind.i64.wrap (-z2) = -z2 := IntWalk.i64_in _ (by omega)
      have s2 : IntKind.i64.wrap ((k : Int) + 1) = (k : Int) + 1 := IntWalk.i64_in _ (by omega)
      have hk1 : (k : Int) < (t : Int) := by omega
      go_wp2
      go_roundw
      case rel => exact ⟨k + 1, by omega, by go_num, by rw [HN.out], by rw [HN.out], g⟩
      case measure => simp only [intOf]; omega
    · obtain rfl : k = t := by omega
      have hk1 : ¬ ((k : Int) < (k : Int)) := by omega
      obtain ⟨s0, m0, m1, m2⟩ := box3 g
      have s1 : IntKind.i64.wrap (x + z1) = x + z1 := IntWalk.i64_in _ (by omega)
      have s2 : IntKind.i64.wrap (y + z2) = y + z2 := IntWalk.i64_in _ (by omega)
      have HQ := hide (show pX x k u v = x + z1 ∧ pY y k u v = y + z2 by rw [HP.out.1, HP.out.2, HZ.out]; exact ⟨rfl, rfl⟩)
      clear HP HZ HN HB HS
      go_upto_region 5 with fail
      have GC := @GrW.cell
      refine wp_region_grw _ (by kernel_rfl) (by kernel_rfl) (Gr.refl _) ?_
      repeat (go_big_quiet_step ((first | fail)))
      refine wpQuiet_nil ?_
      intro wq hwq
      obtain ⟨gq, hwq'⟩ := hwq
      subst hwq'
      clear GC
      have gq1 := gq.gr
      generalize gq.w = wq at gq1 ⊢
      obtain ⟨Xq, Yq, cq, fq⟩ := gq1.use
      have sq := gq1.size
      (try simp only [World.size_alloc, World.size_setCell, World.heap_drewN] at sq)
      go_wp2
      go_ret2
      exact ⟨by rw [HQ.out.1, HQ.out.2]; rfl, g0.trans (g.trans gq1)⟩
abbrev sg4 (a b c d : Int) : Value := .agg #[iv a, iv b, iv c, iv d]
theorem inOrder_any (a b c d : Int) (w : World) :
    Calls Tryz.prog 145 #[sg4 a b c d] w fun e w' => e = .returned (sg4 (min a c) (min b d) (max a c) (max b d)) ∧ Gr w w' := by
  go_enter Tryz.func145, Tryz.ntmps145
  go_wp2
  refine bodyPost_ret (v := sg4 (min a c) (min b d) (max a c) (max b d)) (by simp [results, Tryz.results145, go_sem]) rfl ⟨rfl, ?_⟩
  exact (by with_reducible repeat (first | exact Gr.refl _ | assumption | refine Gr.alloc ?_ _ | refine Gr.drewN ?_ _ | refine Gr.drew ?_ | refine Gr.setCell ?_ (by first | (dsimp only; omega) | (simp only [World.size_alloc]; omega) | (refine Gr.size ?_; (repeat (first | exact Gr.refl _ | assumption | refine Gr.alloc ?_ _ | refine Gr.drewN ?_ _ | refine Gr.drew ?_ | refine Gr.trans ?_ (by assumption))); done)) _ | refine Gr.trans ?_ (by assumption)))
set_option maxHeartbeats 2000000 in
set_option maxRecDepth 100000 in
theorem line_any (x y : Int) (t : Nat) (a b c d : Int) (w : World) (hx : -10000000 ≤ x ∧ x ≤ 10000000) (hy : -10000000 ≤ y ∧ y ≤ 10000000) (ha : -10000000 ≤ a ∧ a ≤ 10000000) (hb : -10000000 ≤ b ∧ b ≤ 10000000) (hc : -10000000 ≤ c ∧ c ≤ 10000000) (hd : -10000000 ≤ d ∧ d ≤ 10000000) (ht : t ≤ 1000) :
    Calls Tryz.prog 171 #[fmv x y (t : Int), sg4 a b c d] w fun e w' => e = .returned (sg4 (pX x t a b) (pY y t a b) (pX x t c d) (pY y t c d)) ∧ Gr w w' := by
  have H1 := hide (fun w' => point_any x y t a b w' hx hy ha hb ht)
  have H2 := hide (fun w' => point_any x y t c d w' hx hy hc hd ht)
  clear hx hy ha hb hc hd
  generalize pX x t a b = p1 at *
  generalize pY y t a b = p2 at *
  generalize pX x t c d = p3 at *
  generalize pY y t c d = p4 at *
  go_enter Tryz.func171, Tryz.ntmps171
  go_wp2_with fail
  refine (H1.out _).mono ?_
  rintro e w1 ⟨rfl, g1⟩
  obtain ⟨X1, Y1, c1, f1⟩ := g1.use
  have z1 := g1.size
  simp only [World.size_alloc] at z1
  have l0 : w.heap.size < w1.heap.size := by omega
  have l1 : w.heap.size + 1 < w1.heap.size := by omega
  have l2 : w.heap.size + 1 + 1 < w1.heap.size := by omega
  go_wp2_with fail
  refine (H2.out _).mono ?_
  rintro e w2 ⟨rfl, g2⟩
  obtain ⟨X2, Y2, c2, f2⟩ := g2.use
  have z2 := g2.size
  have m0 : w.heap.size < w2.heap.size := by omega
  have m1 : w.heap.size + 1 < w2.heap.size := by omega
  have m2 : w.heap.size + 1 + 1 < w2.heap.size := by omega
  go_wp2_with fail
  refine bodyPost_ret (v := sg4 p1 p2 p3 p4) (by simp [results, Tryz.results171, go_sem, *]) rfl ⟨rfl, ?_⟩
  exact (by with_reducible repeat (first | exact Gr.refl _ | assumption | refine Gr.alloc ?_ _ | refine Gr.drewN ?_ _ | refine Gr.drew ?_ | refine Gr.setCell ?_ (by first | (dsimp only; omega) | (simp only [World.size_alloc]; omega) | (refine Gr.size ?_; (repeat (first | exact Gr.refl _ | assumption | refine Gr.alloc ?_ _ | refine Gr.drewN ?_ _ | refine Gr.drew ?_ | refine Gr.trans ?_ (by assumption))); done)) _ | refine Gr.trans ?_ (by assumption)))
/-- a rectangle laid by a frame -/
def rcM (x y : Int) (t : Nat) (r : Rc) : Rc :=
  ⟨min (pX x t r.x r.y) (pX x t (r.x + r.w) (r.y + r.h)), min (pY y t r.x r.y) (pY y t (r.x + r.w) (r.y + r.h)), max (pX x t r.x r.y) (pX x t (r.x + r.w) (r.y + r.h)) - min (pX x t r.x r.y) (pX x t (r.x + r.w) (r.y + r.h)), max (pY y t r.x r.y) (pY y t (r.x + r.w) (r.y + r.h)) - min (pY y t r.x r.y) (pY y t (r.x + r.w) (r.y + r.h))⟩
set_option maxHeartbeats 2000000 in
set_option maxRecDepth 100000 in
theorem rect_any (x y : Int) (t : Nat) (r : Rc) (w : World) (hx : -10000000 ≤ x ∧ x ≤ 10000000) (hy : -10000000 ≤ y ∧ y ≤ 10000000) (h1 : -10000000 ≤ r.x ∧ r.x ≤ 10000000) (h2 : -10000000 ≤ r.y ∧ r.y ≤ 10000000) (h3 : -10000000 ≤ r.x + r.w ∧ r.x + r.w ≤ 10000000) (h4 : -10000000 ≤ r.y + r.h ∧ r.y + r.h ≤ 10000000) (ht : t ≤ 1000) :
    Calls Tryz.prog 202 #[fmv x y (t : Int), rcv r] w fun e w' => e = .returned (rcv (rcM x y t r)) ∧ Gr w w' := by
  obtain ⟨⟨b1, b2⟩, b3, b4⟩ := p_bd (t := t) hx hy h1 h2
  obtain ⟨⟨b5, b6⟩, b7, b8⟩ := p_bd (t := t) hx hy h3 h4
  have HL := hide (fun w' => line_any x y t r.x r.y (r.x + r.w) (r.y + r.h) w' hx hy h1 h2 h3 h4 ht)
  have HQ := hide (show rcM x y t r = ⟨min (pX x t r.x r.y) (pX x t (r.x + r.w) (r.y + r.h)), min (pY y t r.x r.y) (pY y t (r.x + r.w) (r.y + r.h)), max (pX x t r.x r.y) (pX x t (r.x + r.w) (r.y + r.h)) - min (pX x t r.x r.y) (pX x t (r.x + r.w) (r.y + r.h)), max (pY y t r.x r.y) (pY y t (r.x + r.w) (r.y + r.h)) - min (pY y t r.x r.y) (pY y t (r.x + r.w) (r.y + r.h))⟩ from rfl)
  have s1 : IntKind.i64.wrap (r.x + r.w) = r.x + r.w := IntWalk.i64_in _ (by omega)
  have s2 : IntKind.i64.wrap (r.y + r.h) = r.y + r.h := IntWalk.i64_in _ (by omega)
  clear hx hy h1 h2 h3 h4
  generalize pX x t r.x r.y = p1 at *
  generalize pY y t r.x r.y = p2 at *
  generalize pX x t (r.x + r.w) (r.y + r.h) = p3 at *
  generalize pY y t (r.x + r.w) (r.y + r.h) = p4 at *
  have HO := hide (fun w' => inOrder_any p1 p2 p3 p4 w')
  have s3 : IntKind.i64.wrap (max p1 p3 - min p1 p3) = max p1 p3 - min p1 p3 := IntWalk.i64_in _ (by omega)
  have s4 : IntKind.i64.wrap (max p2 p4 - min p2 p4) = max p2 p4 - min p2 p4 := IntWalk.i64_in _ (by omega)
  clear b1 b2 b3 b4 b5 b6 b7 b8
  generalize min p1 p3 = q1 at *
  generalize min p2 p4 = q2 at *
  generalize max p1 p3 = q3 at *
  generalize max p2 p4 = q4 at *
  go_enter Tryz.func202, Tryz.ntmps202
  go_wp2_with fail
  refine (HL.out _).mono ?_
  rintro e w1 ⟨rfl, g1⟩
  obtain ⟨X1, Y1, c1, f1⟩ := g1.use
  have z1 := g1.size
  simp only [World.size_alloc] at z1
  have l0 : w.heap.size < w1.heap.size := by omega
  have l1 : w.heap.size + 1 < w1.heap.size := by omega
  have l2 : w.heap.size + 1 + 1 < w1.heap.size := by omega
  go_wp2_with fail
  refine (HO.out _).mono ?_
  rintro e w2 ⟨rfl, g2⟩
  obtain ⟨X2, Y2, c2, f2⟩ := g2.use
  have z2 := g2.size
  have m0 : w.heap.size < w2.heap.size := by omega
  have m1 : w.heap.size + 1 < w2.heap.size := by omega
  have m2 : w.heap.size + 1 + 1 < w2.heap.size := by omega
  go_wp2_with fail
  refine bodyPost_ret (v := rcv ⟨q1, q2, q3 - q1, q4 - q2⟩) (by simp [results, Tryz.results202, go_sem, *]) rfl ⟨by rw [HQ.out], ?_⟩
  exact (by with_reducible repeat (first | exact Gr.refl _ | assumption | refine Gr.alloc ?_ _ | refine Gr.drewN ?_ _ | refine Gr.drew ?_ | refine Gr.setCell ?_ (by first | (dsimp only; omega) | (simp only [World.size_alloc]; omega) | (refine Gr.size ?_; (repeat (first | exact Gr.refl _ | assumption | refine Gr.alloc ?_ _ | refine Gr.drewN ?_ _ | refine Gr.drew ?_ | refine Gr.trans ?_ (by assumption))); done)) _ | refine Gr.trans ?_ (by assumption)))
end RG
end Go.Proofs.YtddhaiaapomdjaaGreat
namespace Go.Proofs.YtddhaiaapomdjaaGreat
set_option linter.unusedVariables false
set_option linter.unusedSimpArgs false
open Go Go.ChangeShapes Go.WideShapes Go.ChangeAt Go.RowKit Go.Deep

def setL (w : World) (B : Nat) : Nat → List Value → World
  | _, [] => w
  | o, v :: vs => setL (w.setCell ⟨B, o, none⟩ v) B (o + 1) vs
def setA (z : Array Value) : Nat → List Value → Array Value
  | _, [] => z
  | o, v :: vs => setA (z.setIfInBounds o v) (o + 1) vs
theorem Made.set1 {w : World} {B : Nat} {z : Array Value} (h : Made w B z) {o : Nat} (ho : o < z.size) (v : Value) : Made (w.setCell ⟨B, o, none⟩ v) B (z.setIfInBounds o v) := by
  obtain ⟨h0, h1, h2⟩ := h
  have e0 : w.cell? ⟨B, o, none⟩ = some z[o] := by rw [h1]; simp [ho]
  refine ⟨by simpa using h0, fun j => ?_, fun j => ?_⟩
  · have ej := h1 j
    by_cases hj : j = o
    · subst hj
      simp [go_sem, e0, ho]
    · rw [Array.getElem?_setIfInBounds, if_neg (Ne.symm hj)]
      simp [go_sem, e0, ej, hj]
  · have := h2 j
    simp [go_sem, this]
theorem Made.oth1 {w : World} {C : Nat} {z : Array Value} (h : Made w C z) {B : Nat} (hne : C ≠ B) (o : Nat) (v : Value) : Made (w.setCell ⟨B, o, none⟩ v) C z := by
  obtain ⟨h0, h1, h2⟩ := h
  refine ⟨by simpa using h0, fun j => ?_, fun j => ?_⟩
  · have ej := h1 j
    simp [go_sem, ej, hne]
  · have := h2 j
    simp [go_sem, this]
theorem Made.setA {B : Nat} : ∀ {vs : List Value} {w : World} {z : Array Value} {o : Nat}, Made w B z → o + vs.length ≤ z.size → Made (setL w B o vs) B (Go.Proofs.YtddhaiaapomdjaaGreat.setA z o vs)
  | [], _, _, _, h, _ => h
  | v :: vs, w, z, o, h, hl => by
    simp only [List.length_cons] at hl
    exact Made.setA (vs := vs) (h.set1 (by omega) v) (by simp; omega)
theorem Made.oth {B C : Nat} (hne : C ≠ B) : ∀ {vs : List Value} {w : World} {z : Array Value} {o : Nat}, Made w C z → Made (setL w B o vs) C z
  | [], _, _, _, h => h
  | v :: vs, w, z, o, h => Made.oth hne (vs := vs) (h.oth1 hne o v)
theorem setA_at : ∀ (vs : List Value) (z : Array Value) (o : Nat), o + vs.length ≤ z.size → ∀ j, (setA z o vs)[j]? = if o ≤ j ∧ j < o + vs.length then vs[j - o]? else z[j]?
  | [], z, o, _, j => by
    rw [if_neg (by simp only [List.length_nil]; omega)]
    rfl
  | v :: vs, z, o, h, j => by
    simp only [List.length_cons] at h
    show (setA (z.setIfInBounds o v) (o + 1) vs)[j]? = _
    rw [setA_at vs _ (o + 1) (by simp; omega) j, Array.getElem?_setIfInBounds]
    simp only [List.length_cons]
    by_cases h1 : o + 1 ≤ j ∧ j < o + 1 + vs.length
    · rw [if_pos h1, if_pos (by omega), show j - o = (j - (o + 1)) + 1 by omega]
      rfl
    · rw [if_neg h1]
      by_cases h2 : o = j
      · subst h2
        rw [if_pos rfl, if_pos (by omega), if_pos (by omega), Nat.sub_self]
        rfl
      · rw [if_neg h2, if_neg (by omega)]
theorem setA_all (vs : List Value) (z : Array Value) (h : vs.length = z.size) : setA z 0 vs = vs.toArray := by
  apply Array.ext_getElem?
  intro j
  rw [setA_at vs z 0 (by omega) j]
  by_cases hj : j < vs.length
  · rw [if_pos (by omega), Nat.sub_zero]
    simp
  · rw [if_neg (by omega), Array.getElem?_eq_none (by omega), Array.getElem?_eq_none (by simp; omega)]
theorem Made.setL {w : World} {B : Nat} {z : Array Value} (h : Made w B z) (vs : List Value) (hl : vs.length = z.size) : Made (Go.Proofs.YtddhaiaapomdjaaGreat.setL w B 0 vs) B vs.toArray := by
  rw [← setA_all vs z hl]
  exact h.setA (by omega)
theorem gr_setL {w0 : World} {B : Nat} (hB : w0.heap.size ≤ B) : ∀ {vs : List Value} {w : World} {o : Nat}, Gr w0 w → Gr w0 (setL w B o vs)
  | [], _, _, g => g
  | v :: vs, w, o, g => gr_setL hB (vs := vs) (Gr.setCell g (by dsimp only; omega) _)
end Go.Proofs.YtddhaiaapomdjaaGreat
set_option linter.unusedVariables false
set_option linter.unusedSimpArgs false
namespace Go.Proofs.YtddhaiaapomdjaaGreat
set_option linter.unusedVariables false
set_option linter.unusedSimpArgs false
open Go Go.ChangeShapes Go.WideShapes Go.ChangeAt Go.RowKit Go.Deep

namespace RG
theorem map_take1 {α β : Type} (f : α → β) {l : List α} {k : Nat} {r : α} (h : l[k]? = some r) : (l.take (k + 1)).map f = (l.take k).map f ++ [f r] := by
  rw [List.take_add_one, h]
  simp
set_option maxHeartbeats 2000000 in
set_option maxRecDepth 100000 in
theorem rects_any (x y : Int) (t : Nat) (A : Option Addr) (c : Nat) (l : List Rc) (w : World) (hl : SlR w A c l) (hx : -10000000 ≤ x ∧ x ≤ 10000000) (hy : -10000000 ≤ y ∧ y ≤ 10000000) (hv : ∀ r ∈ l, InM 1048576 r) (ht : t ≤ 1000) (hn : l.length ≤ 400) :
    Calls Tryz.prog 170 #[fmv x y (t : Int), .slice A l.length c] w fun e w' => ∃ (D : Option Addr) (q : Nat), e = .returned (.slice D (l.map (rcM x y t)).length q) ∧ SlR w' D q (l.map (rcM x y t)) ∧ (∀ a, D = some a → w.heap.size ≤ a.block) ∧ Gr w w' := by
  have HL := hide hl
  have n1 := hl.cap
  have n2 := hl.capB
  have HM := hide (fun (k : Nat) (r : Rc) (h : l[k]? = some r) => map_take1 (rcM x y t) h)
  have HR := hide (fun (r : Rc) (hr : r ∈ l) (w' : World) => by
    have := hv r hr
    have m1 := this.w
    have m2 := this.h
    have m3 := this.x
    have m4 := this.y
    have m5 := this.x'
    have m6 := this.y'
    exact rect_any x y t r w' hx hy (by omega) (by omega) (by omega) (by omega) ht)
  clear hl hv hx hy
  have g0 : Gr w (w.alloc (.cells #[iv x, iv y, iv (t : Int)] 183)) := Gr.alloc (Gr.refl _) _
  go_enter Tryz.func170, Tryz.ntmps170
  go_wp2_with fail
  go_loopw [5, 10] (fun xv i wr => ∃ (k : Nat) (O : List Rc) (A1 : Option Addr) (d1 : Nat), k ≤ l.length ∧ i = iv k ∧ xv = .slice A1 O.length d1 ∧ Gr (w.alloc (.cells #[iv x, iv y, iv (t : Int)] 183)) wr ∧ Hid (OwnL wr (w.heap.size + 1) 70 4 rcL (.slice A1 O.length d1) O) ∧ Hid (O = (l.take k).map (rcM x y t)) ∧ O.length ≤ k) (fun _ i _ => l.length - (intOf i).toNat)
  case atStart => exact ⟨0, [], none, 0, by omega, rfl, rfl, Gr.refl _, own_nil _ _ _ _ _, rfl, by simp⟩
  case round =>
    obtain ⟨k, O, A1, d1, hk, rfl, rfl, g, HO, HE, hO⟩ := hrel
    obtain ⟨s0, m0, m1, m2⟩ := box3 g
    by_cases hkl : k < l.length
    · obtain ⟨r, hr⟩ : ∃ r, l[k]? = some r := ⟨_, List.getElem?_eq_getElem hkl⟩
      obtain ⟨b2, o2, hA, y0, y1, y2, y3⟩ := (HL.out.gr (g0.trans g)).at_ hr
      have hk0 : (0 : Int) ≤ (k : Int) := by omega
      have hk1 : (k : Int) < (l.length : Int) := by omega
      have sg := g.size
      simp only [World.size_alloc] at sg
      have HN := hide (HM.out k r hr)
      have HC := hide (fun w' => HR.out r (List.mem_of_getElem? hr) w')
      subst hA
      clear hr
      generalize rcM x y t r = r2 at *
      obtain ⟨O2, hO2⟩ : ∃ O2, O ++ [r2] = O2 := ⟨_, rfl⟩
      have HO2 := hide hO2
      have HE2 := hide (show O2 = (l.take (k + 1)).map (rcM x y t) by rw [HN.out, ← HE.out]; exact hO2.symm)
      have hO2e : O2.length ≤ k + 1 := by rw [← hO2]; simp; omega
      clear hO2 HE HN
      go_wp2_with fail
      refine (HC.out _).mono ?_
      rintro e w1 ⟨rfl, g1⟩
      have z1 := g1.size
      simp only [World.size_alloc] at z1
      have gk := (Gr.alloc (Gr.refl wr) (.cells #[iv r.x, iv r.y, iv r.w, iv r.h] 70)).trans g1
      clear HC
      go_wp2_with (refine wpList_appZ rfl _ _ _ rfl rcL (w.heap.size + 1) 70 4 32 elRect (by decide) O [r2] O2 HO2.out _ rfl (HO.out.gr (gk.trans (Gr.alloc (Gr.refl _) _))) ⟨w1.heap.size, 0, none⟩ 1 1 rfl rfl (by decide) (fun _ => rfl) (newsN _ #[iv r2.x, iv r2.y, iv r2.w, iv r2.h] 70 _ (by simp)) (one_all [r2]) (by omega) (by decide) (by simp only [World.size_alloc]; omega) ?_; intro gg cap1 w8 hO8 hG8 hgw8 hat8 hlt8)
      have g8 := hG8 _ ((g.trans gk).trans (Gr.alloc (Gr.refl _) _)) (by simp only [World.size_alloc]; exact Nat.le_refl _)
      have HO8 := hide hO8
      clear hO8 hG8 hgw8 hat8 HO
      go_roundw
      case rel => exact ⟨k + 1, O2, some ⟨gg, 0, none⟩, cap1, by omega, by go_num, rfl, g8, HO8, HE2, by omega⟩
      case measure => simp only [intOf]; omega
    · obtain rfl : k = l.length := by omega
      rw [List.take_length] at HE
      have hk1 : ¬ ((l.length : Int) < (l.length : Int)) := by omega
      have hE := HE.out
      subst hE
      clear HE HM
      go_wp2
      go_ret
      exact ⟨A1, d1, rfl, own_slr HO.out, fun a ha => Nat.le_of_succ_le (own_ge HO.out a ha), g0.trans g⟩
/-- the bounds so far: least x and y, most x and y -/
def bnV : List Rc → Int × Int × Int × Int → Int × Int × Int × Int
  | [], s => s
  | r :: l, s => bnV l (min s.1 r.x, min s.2.1 r.y, max s.2.2.1 (r.x + r.w), max s.2.2.2 (r.y + r.h))
theorem bnV_snoc : ∀ (l : List Rc) (s : Int × Int × Int × Int) (r : Rc), bnV (l ++ [r]) s = (min (bnV l s).1 r.x, min (bnV l s).2.1 r.y, max (bnV l s).2.2.1 (r.x + r.w), max (bnV l s).2.2.2 (r.y + r.h))
  | [], s, r => rfl
  | q :: l, s, r => bnV_snoc l _ r
theorem bnV_take {l : List Rc} {k : Nat} {r : Rc} (h : l[k]? = some r) (s : Int × Int × Int × Int) : bnV (l.take (k + 1)) s = (min (bnV (l.take k) s).1 r.x, min (bnV (l.take k) s).2.1 r.y, max (bnV (l.take k) s).2.2.1 (r.x + r.w), max (bnV (l.take k) s).2.2.2 (r.y + r.h)) := by
  rw [List.take_add_one, h]
  exact bnV_snoc _ _ r
theorem bnV_bd {m : Int} : ∀ (l : List Rc) (s : Int × Int × Int × Int), (∀ r ∈ l, -m ≤ r.x ∧ r.x ≤ m ∧ -m ≤ r.y ∧ r.y ≤ m ∧ -m ≤ r.x + r.w ∧ r.x + r.w ≤ m ∧ -m ≤ r.y + r.h ∧ r.y + r.h ≤ m) → (-m ≤ s.1 ∧ s.1 ≤ m) ∧ (-m ≤ s.2.1 ∧ s.2.1 ≤ m) ∧ (-m ≤ s.2.2.1 ∧ s.2.2.1 ≤ m) ∧ (-m ≤ s.2.2.2 ∧ s.2.2.2 ≤ m) →
    (-m ≤ (bnV l s).1 ∧ (bnV l s).1 ≤ m) ∧ (-m ≤ (bnV l s).2.1 ∧ (bnV l s).2.1 ≤ m) ∧ (-m ≤ (bnV l s).2.2.1 ∧ (bnV l s).2.2.1 ≤ m) ∧ (-m ≤ (bnV l s).2.2.2 ∧ (bnV l s).2.2.2 ≤ m)
  | [], s, _, hs => hs
  | r :: l, s, hv, hs => by
    have := hv r List.mem_cons_self
    exact bnV_bd l _ (fun q hq => hv q (List.mem_cons_of_mem _ hq)) (by dsimp only; omega)
/-- the bounds of a list whose first element is given -/
def bnW (l : List Rc) (r : Rc) : Int × Int × Int × Int := bnV l (r.x, r.y, r.x, r.y)
/-- the bounds of a list as a rectangle -/
def bnR (l : List Rc) : Rc := match l with
  | [] => ⟨0, 0, 0, 0⟩
  | r :: q => ⟨(bnW (r :: q) r).1, (bnW (r :: q) r).2.1, (bnW (r :: q) r).2.2.1 - (bnW (r :: q) r).1, (bnW (r :: q) r).2.2.2 - (bnW (r :: q) r).2.1⟩
set_option maxHeartbeats 4000000 in
set_option maxRecDepth 100000 in
theorem bounds_any (A : Option Addr) (c : Nat) (l : List Rc) (w : World) (hl : SlR w A c l) (hv : ∀ r ∈ l, -10000000 ≤ r.x ∧ r.x ≤ 10000000 ∧ -10000000 ≤ r.y ∧ r.y ≤ 10000000 ∧ -10000000 ≤ r.x + r.w ∧ r.x + r.w ≤ 10000000 ∧ -10000000 ≤ r.y + r.h ∧ r.y + r.h ≤ 10000000) (hn : l.length ≤ 400) (h0 : 0 < l.length) :
    Calls Tryz.prog 169 #[.slice A l.length c] w fun e w' => e = .returned (rcv (bnR l)) ∧ Gr w w' := by
  obtain ⟨r0, hr0⟩ : ∃ r, l[0]? = some r := ⟨_, List.getElem?_eq_getElem h0⟩
  have HQ := hide (show bnR l = ⟨(bnW l r0).1, (bnW l r0).2.1, (bnW l r0).2.2.1 - (bnW l r0).1, (bnW l r0).2.2.2 - (bnW l r0).2.1⟩ by
    match l, hr0 with
    | r :: q, h =>
      obtain rfl : r = r0 := by simpa using h
      rfl)
  have hb0 := hv r0 (List.mem_of_getElem? hr0)
  have HB := hide (fun (k : Nat) => bnV_bd (m := 10000000) (l.take k) (r0.x, r0.y, r0.x, r0.y) (fun r hr => hv r (List.mem_of_mem_take hr)) ⟨⟨hb0.1, hb0.2.1⟩, ⟨hb0.2.2.1, hb0.2.2.2.1⟩, ⟨hb0.1, hb0.2.1⟩, ⟨hb0.2.2.1, hb0.2.2.2.1⟩⟩)
  have HN := hide (fun (k : Nat) (r : Rc) (h : l[k]? = some r) => bnV_take h (r0.x, r0.y, r0.x, r0.y))
  have HW := hide (show bnW l r0 = bnV (l.take l.length) (r0.x, r0.y, r0.x, r0.y) by rw [List.take_length]; rfl)
  have HL := hide hl
  have HV := hide hv
  have n1 := hl.cap
  have n2 := hl.capB
  obtain ⟨b0, o0, hA0, y0, y1, y2, y3⟩ := hl.at_ hr0
  rw [Nat.zero_mul, Nat.add_zero] at y0 y1 y2 y3
  have hlt : b0 < w.heap.size := cell_lt (by rw [y0]; rfl)
  have h00 : (0 : Int) < (l.length : Int) := by omega
  subst hA0
  clear hl hv hb0 hr0 y2 y3
  go_enter Tryz.func169, Tryz.ntmps169
  go_wp2_with fail
  go_region
  go_wp2_with fail
  have hMs := Made.new (w.alloc (.cells #[iv 0, iv 0, iv 0, iv 0] 70)) #[iv r0.x, iv r0.y, iv r0.x, iv r0.y] 176
  rw [World.size_alloc] at hMs
  have HMs := hide hMs
  clear hMs
  have HMr := hide ((Made.new w #[iv 0, iv 0, iv 0, iv 0] 70).gr (Gr.alloc (Gr.refl _) (.cells #[iv r0.x, iv r0.y, iv r0.x, iv r0.y] 176)))
  obtain ⟨z0, hz0⟩ : ∃ z, (r0.x, r0.y, r0.x, r0.y) = z := ⟨_, rfl⟩
  rw [hz0] at HB HN HW
  have HZ0 := hide hz0
  clear hz0
  go_loopw [25] (fun i wr => ∃ k : Nat, k ≤ l.length ∧ i = iv k ∧ Gr w wr ∧ Hid (Made wr w.heap.size #[iv 0, iv 0, iv 0, iv 0]) ∧ Hid (Made wr (w.heap.size + 1) #[iv (bnV (l.take k) z0).1, iv (bnV (l.take k) z0).2.1, iv (bnV (l.take k) z0).2.2.1, iv (bnV (l.take k) z0).2.2.2])) (fun i _ => l.length - (intOf i).toNat)
  case atStart => exact ⟨0, by omega, rfl, Gr.drew (Gr.alloc (Gr.alloc (Gr.refl _) _) _), HMr.out.gr (Gr.drew (Gr.refl _)), by rw [List.take_zero, ← HZ0.out]; exact HMs.out.gr (Gr.drew (Gr.refl _))⟩
  case round =>
    obtain ⟨k, hk, rfl, g, HR, HS⟩ := hrel
    have c0 := HS.out.2.1 0
    have c1 := HS.out.2.1 1
    have c2 := HS.out.2.1 2
    have c3 := HS.out.2.1 3
    have f0 : wr.frozen? ⟨w.heap.size + 1, 0, none⟩ = false := HS.out.2.2 0
    have f1 : wr.frozen? ⟨w.heap.size + 1, 1, none⟩ = false := HS.out.2.2 1
    have f2 : wr.frozen? ⟨w.heap.size + 1, 2, none⟩ = false := HS.out.2.2 2
    have f3 : wr.frozen? ⟨w.heap.size + 1, 3, none⟩ = false := HS.out.2.2 3
    have hB1 := HS.out.1
    have hB0 := HR.out.1
    obtain ⟨⟨b1, b2⟩, ⟨b3, b4⟩, ⟨b5, b6⟩, b7, b8⟩ := HB.out k
    by_cases hkl : k < l.length
    · obtain ⟨r, hr⟩ : ∃ r, l[k]? = some r := ⟨_, List.getElem?_eq_getElem hkl⟩
      obtain ⟨b9, o9, hA, y0, y1, y2, y3⟩ := (HL.out.gr g).at_ hr
      injection hA with hA
      injection hA with e1 e2
      subst e1 e2
      have hb := HV.out r (List.mem_of_getElem? hr)
      have hk0 : (0 : Int) ≤ (k : Int) := by omega
      have hk1 : (k : Int) < (l.length : Int) := by omega
      have s1 : IntKind.i64.wrap (r.x + r.w) = r.x + r.w := IntWalk.i64_in _ (by omega)
      have s2 : IntKind.i64.wrap (r.y + r.h) = r.y + r.h := IntWalk.i64_in _ (by omega)
      have s3 : IntKind.i64.wrap ((k : Int) + 1) = (k : Int) + 1 := IntWalk.i64_in _ (by omega)
      have HNk := hide (HN.out k r hr)
      generalize bnV (l.take k) z0 = z at *
      clear hr hb b1 b2 b3 b4 b5 b6 b7 b8
      have hbk : b0 < wr.heap.size := by have := g.size; omega
      obtain ⟨z1, z2, z3, z4⟩ := z
      dsimp only at c0 c1 c2 c3 HNk HS
      have c0 : wr.cell? ⟨w.heap.size + 1, 0, none⟩ = some (iv z1) := c0
      have c1 : wr.cell? ⟨w.heap.size + 1, 1, none⟩ = some (iv z2) := c1
      have c2 : wr.cell? ⟨w.heap.size + 1, 2, none⟩ = some (iv z3) := c2
      have c3 : wr.cell? ⟨w.heap.size + 1, 3, none⟩ = some (iv z4) := c3
      go_wp2
      go_roundw
      case rel =>
        refine ⟨k + 1, by omega, by go_num, ?_, ?_, ?_⟩
        · exact Gr.alloc (gr_setL (w0 := w) (B := w.heap.size + 1) (o := 0) (w := wr) (Nat.le_succ _) (vs := [iv (min z1 r.x), iv (min z2 r.y), iv (max z3 (r.x + r.w)), iv (max z4 (r.y + r.h))]) g) _
        · exact (Made.oth (B := w.heap.size + 1) (o := 0) (w := wr) (Nat.ne_of_lt (Nat.lt_succ_self _)) (vs := [iv (min z1 r.x), iv (min z2 r.y), iv (max z3 (r.x + r.w)), iv (max z4 (r.y + r.h))]) HR.out).gr (Gr.alloc (Gr.refl _) _)
        · rw [HNk.out]
          exact (HS.out.setL [iv (min z1 r.x), iv (min z2 r.y), iv (max z3 (r.x + r.w)), iv (max z4 (r.y + r.h))] rfl).gr (Gr.alloc (Gr.refl _) _)
      case measure => simp only [intOf]; omega
    · obtain rfl : k = l.length := by omega
      rw [← HW.out] at c0 c1 c2 c3 b1 b2 b3 b4 b5 b6 b7 b8
      have hk1 : ¬ ((l.length : Int) < (l.length : Int)) := by omega
      generalize bnW l r0 = z at *
      obtain ⟨z1, z2, z3, z4⟩ := z
      dsimp only at c0 c1 c2 c3 b1 b2 b3 b4 b5 b6 b7 b8 HQ
      have c0 : wr.cell? ⟨w.heap.size + 1, 0, none⟩ = some (iv z1) := c0
      have c1 : wr.cell? ⟨w.heap.size + 1, 1, none⟩ = some (iv z2) := c1
      have c2 : wr.cell? ⟨w.heap.size + 1, 2, none⟩ = some (iv z3) := c2
      have c3 : wr.cell? ⟨w.heap.size + 1, 3, none⟩ = some (iv z4) := c3
      have p0 : wr.frozen? ⟨w.heap.size, 0, none⟩ = false := HR.out.2.2 0
      have p1 : wr.frozen? ⟨w.heap.size, 1, none⟩ = false := HR.out.2.2 1
      have p2 : wr.frozen? ⟨w.heap.size, 2, none⟩ = false := HR.out.2.2 2
      have p3 : wr.frozen? ⟨w.heap.size, 3, none⟩ = false := HR.out.2.2 3
      have d0 : wr.cell? ⟨w.heap.size, 0, none⟩ = some (iv 0) := HR.out.2.1 0
      have d1 : wr.cell? ⟨w.heap.size, 1, none⟩ = some (iv 0) := HR.out.2.1 1
      have d2 : wr.cell? ⟨w.heap.size, 2, none⟩ = some (iv 0) := HR.out.2.1 2
      have d3 : wr.cell? ⟨w.heap.size, 3, none⟩ = some (iv 0) := HR.out.2.1 3
      have s1 : IntKind.i64.wrap (z3 - z1) = z3 - z1 := IntWalk.i64_in _ (by omega)
      have s2 : IntKind.i64.wrap (z4 - z2) = z4 - z2 := IntWalk.i64_in _ (by omega)
      clear b1 b2 b3 b4 b5 b6 b7 b8 HB HN
      go_wp2
      refine bodyPost_ret (v := rcv ⟨z1, z2, z3 - z1, z4 - z2⟩) (by simp [results, Tryz.results169, go_sem, *]) rfl ⟨by rw [HQ.out], ?_⟩
      exact gr_setL (B := w.heap.size) (Nat.le_refl _) (vs := [iv z1, iv z2, iv (z3 - z1), iv (z4 - z2)]) g
end RG
end Go.Proofs.YtddhaiaapomdjaaGreat
set_option linter.unusedVariables false
set_option linter.unusedSimpArgs false
namespace Go.Proofs.YtddhaiaapomdjaaGreat
set_option linter.unusedVariables false
set_option linter.unusedSimpArgs false
open Go Go.ChangeShapes Go.WideShapes Go.ChangeAt Go.RowKit Go.Deep

namespace RG
/-- one quarter turn, a shift, so many quarter turns -/
def R1 (r : Rc) : Rc := ⟨-(r.y + r.h), r.x, r.h, r.w⟩
def Sh (u v : Int) (r : Rc) : Rc := ⟨r.x + u, r.y + v, r.w, r.h⟩
def RN : Nat → Rc → Rc
  | 0, r => r
  | n + 1, r => R1 (RN n r)
theorem RN_nn {r : Rc} (h : 0 ≤ r.w ∧ 0 ≤ r.h) : ∀ n, 0 ≤ (RN n r).w ∧ 0 ≤ (RN n r).h
  | 0 => h
  | n + 1 => ⟨(RN_nn h n).2, (RN_nn h n).1⟩
theorem RN_pos {r : Rc} (h : 0 < r.w ∧ 0 < r.h) : ∀ n, 0 < (RN n r).w ∧ 0 < (RN n r).h
  | 0 => h
  | n + 1 => ⟨(RN_pos h n).2, (RN_pos h n).1⟩
theorem rcM_RN {r : Rc} (h : 0 ≤ r.w ∧ 0 ≤ r.h) : ∀ t, rcM 0 0 t r = RN t r
  | 0 => by
    obtain ⟨x, y, w, k⟩ := r
    simp only [rcM, pX, pY, rtP, RN, Rc.mk.injEq] at *
    omega
  | t + 1 => by
    rw [RN, ← rcM_RN h t]
    simp only [rcM, pX, pY, rtP, R1, Rc.mk.injEq]
    refine ⟨?_, ?_, ?_, ?_⟩ <;> first | trivial | omega
theorem rcM_Sh {r : Rc} (h : 0 ≤ r.w ∧ 0 ≤ r.h) (u v : Int) : rcM u v 0 r = Sh u v r := by
  obtain ⟨x, y, w, k⟩ := r
  simp only [rcM, pX, pY, rtP, Sh, Rc.mk.injEq] at *
  omega
theorem bnV_Sh (u v : Int) : ∀ (l : List Rc) (s : Int × Int × Int × Int), bnV (l.map (Sh u v)) (s.1 + u, s.2.1 + v, s.2.2.1 + u, s.2.2.2 + v) = ((bnV l s).1 + u, (bnV l s).2.1 + v, (bnV l s).2.2.1 + u, (bnV l s).2.2.2 + v)
  | [], s => rfl
  | r :: l, s => by
    have := bnV_Sh u v l (min s.1 r.x, min s.2.1 r.y, max s.2.2.1 (r.x + r.w), max s.2.2.2 (r.y + r.h))
    rw [List.map_cons]
    show bnV (l.map (Sh u v)) _ = _
    rw [show bnV (r :: l) s = bnV l (min s.1 r.x, min s.2.1 r.y, max s.2.2.1 (r.x + r.w), max s.2.2.2 (r.y + r.h)) from rfl, ← this]
    congr 1
    simp only [Sh, Prod.mk.injEq]
    omega
theorem bnR_Sh (u v : Int) {l : List Rc} (h : 0 < l.length) : bnR (l.map (Sh u v)) = Sh u v (bnR l) := by
  match l, h with
  | r :: l, _ =>
    have := bnV_Sh u v (r :: l) (r.x, r.y, r.x, r.y)
    show (⟨_, _, _, _⟩ : Rc) = _
    unfold bnW
    rw [← List.map_cons (f := Sh u v)]
    rw [show ((Sh u v r).x, (Sh u v r).y, (Sh u v r).x, (Sh u v r).y) = (r.x + u, r.y + v, r.x + u, r.y + v) from rfl, this]
    simp only [bnR, bnW, Sh, Rc.mk.injEq]
    refine ⟨?_, ?_, ?_, ?_⟩ <;> first | trivial | rfl | omega
/-- a bend line laid by a frame; in order -/
def bdM (x y : Int) (t : Nat) (b : Bd) : Bd := ⟨b.f, b.p, pX x t b.a b.b, pY y t b.a b.b, pX x t b.c b.d, pY y t b.c b.d, b.n, b.e⟩
def inO (b : Bd) : Bd := ⟨b.f, b.p, min b.a b.c, min b.b b.d, max b.a b.c, max b.b b.d, b.n, b.e⟩
def odB (b : Bd) : Bool := decide (b.a ≤ b.c) && decide (b.b ≤ b.d)
def fix (o g : Bd) : Bd := if odB o then inO g else g
/-- a pattern laid by a frame; settled; turned -/
def patM (x y : Int) (t : Nat) (F : Pat) : Pat := ⟨F.r.map (rcM x y t), F.c.map (rcM x y t), F.f.map (rcM x y t), F.b.map (bdM x y t)⟩
def stF (F : Pat) : Pat := patM (-(bnR F.r).x) (-(bnR F.r).y) 0 F
def qtF (F : Pat) (t : Nat) : Pat := ⟨(stF (patM 0 0 t F)).r, (stF (patM 0 0 t F)).c, (stF (patM 0 0 t F)).f, List.zipWith fix F.b (stF (patM 0 0 t F)).b⟩
def nnB (F : Pat) : Prop := (∀ r ∈ F.r, 0 ≤ r.w ∧ 0 ≤ r.h) ∧ (∀ r ∈ F.c, 0 ≤ r.w ∧ 0 ≤ r.h) ∧ ∀ r ∈ F.f, 0 ≤ r.w ∧ 0 ≤ r.h
theorem map_same {α β : Type} {f g : α → β} {l : List α} (h : ∀ x ∈ l, f x = g x) : l.map f = l.map g := List.map_congr_left h
/-- where the turned pattern is shifted -/
def qU (F : Pat) (t : Nat) : Int := -(bnR (F.r.map (RN t))).x
def qV (F : Pat) (t : Nat) : Int := -(bnR (F.r.map (RN t))).y
theorem qt_r {F : Pat} (h : nnB F) (t : Nat) : (qtF F t).r = F.r.map (fun r => Sh (qU F t) (qV F t) (RN t r)) ∧ (qtF F t).c = F.c.map (fun r => Sh (qU F t) (qV F t) (RN t r)) ∧ (qtF F t).f = F.f.map (fun r => Sh (qU F t) (qV F t) (RN t r)) := by
  have er : (patM 0 0 t F).r = F.r.map (RN t) := map_same fun r hr => rcM_RN (h.1 r hr) t
  have eu : -(bnR (patM 0 0 t F).r).x = qU F t := by rw [er]; rfl
  have ev : -(bnR (patM 0 0 t F).r).y = qV F t := by rw [er]; rfl
  have key : ∀ l : List Rc, (∀ r ∈ l, 0 ≤ r.w ∧ 0 ≤ r.h) → (l.map (rcM 0 0 t)).map (rcM (-(bnR (patM 0 0 t F).r).x) (-(bnR (patM 0 0 t F).r).y) 0) = l.map (fun r => Sh (qU F t) (qV F t) (RN t r)) := fun l hl => by
    rw [eu, ev, List.map_map]
    exact map_same fun r hr => by
      show rcM _ _ 0 (rcM 0 0 t r) = _
      rw [rcM_RN (hl r hr) t, rcM_Sh (RN_nn (hl r hr) t)]
  exact ⟨key _ h.1, key _ h.2.1, key _ h.2.2⟩
end RG
end Go.Proofs.YtddhaiaapomdjaaGreat
set_option linter.unusedVariables false
set_option linter.unusedSimpArgs false
namespace Go.Proofs.YtddhaiaapomdjaaGreat
set_option linter.unusedVariables false
set_option linter.unusedSimpArgs false
open Go Go.ChangeShapes Go.WideShapes Go.ChangeAt Go.RowKit Go.Deep

namespace RG
theorem inM_R1 {M : Nat} {r : Rc} (h : InM M r) : InM M (R1 r) := by
  obtain ⟨h1, h2, h3, h4, h5, h6⟩ := h
  exact ⟨h2, h1, by simp only [R1]; omega, by simp only [R1]; omega, by simp only [R1]; omega, by simp only [R1]; omega⟩
theorem inM_RN {M : Nat} {r : Rc} (h : InM M r) : ∀ n, InM M (RN n r)
  | 0 => h
  | n + 1 => inM_R1 (inM_RN h n)
end RG
end Go.Proofs.YtddhaiaapomdjaaGreat
set_option linter.unusedVariables false
set_option linter.unusedSimpArgs false
namespace Go.Proofs.YtddhaiaapomdjaaGreat
set_option linter.unusedVariables false
set_option linter.unusedSimpArgs false
open Go Go.ChangeShapes Go.WideShapes Go.ChangeAt Go.RowKit Go.Deep

namespace RG
theorem qt_zero {F : Pat} (h : nnB F) (h0 : 0 < F.r.length) (t : Nat) : (bnR (qtF F t).r).x = 0 ∧ (bnR (qtF F t).r).y = 0 := by
  rw [(qt_r h t).1, show F.r.map (fun r => Sh (qU F t) (qV F t) (RN t r)) = (F.r.map (RN t)).map (Sh (qU F t) (qV F t)) by rw [List.map_map]; rfl, bnR_Sh _ _ (by simpa using h0)]
  simp only [Sh, qU, qV]
  omega
/-- the bounds hold all rectangles, and are themselves in the limits -/
theorem bnV_in : ∀ (l : List Rc) (s : Int × Int × Int × Int), ((bnV l s).1 ≤ s.1 ∧ (bnV l s).2.1 ≤ s.2.1 ∧ s.2.2.1 ≤ (bnV l s).2.2.1 ∧ s.2.2.2 ≤ (bnV l s).2.2.2) ∧ ∀ r ∈ l, (bnV l s).1 ≤ r.x ∧ (bnV l s).2.1 ≤ r.y ∧ r.x + r.w ≤ (bnV l s).2.2.1 ∧ r.y + r.h ≤ (bnV l s).2.2.2
  | [], s => ⟨⟨Int.le_refl _, Int.le_refl _, Int.le_refl _, Int.le_refl _⟩, fun r hr => by simp at hr⟩
  | q :: l, s => by
    obtain ⟨⟨h1, h2, h3, h4⟩, k⟩ := bnV_in l (min s.1 q.x, min s.2.1 q.y, max s.2.2.1 (q.x + q.w), max s.2.2.2 (q.y + q.h))
    rw [show bnV (q :: l) s = bnV l (min s.1 q.x, min s.2.1 q.y, max s.2.2.1 (q.x + q.w), max s.2.2.2 (q.y + q.h)) from rfl]
    dsimp only at h1 h2 h3 h4
    refine ⟨by omega, fun r hr => ?_⟩
    rcases List.mem_cons.1 hr with rfl | hr
    · omega
    · exact k r hr
theorem bnV_R1 : ∀ (l : List Rc) (s : Int × Int × Int × Int), bnV (l.map R1) (-s.2.2.2, s.1, -s.2.1, s.2.2.1) = (-(bnV l s).2.2.2, (bnV l s).1, -(bnV l s).2.1, (bnV l s).2.2.1)
  | [], s => rfl
  | r :: l, s => by
    have := bnV_R1 l (min s.1 r.x, min s.2.1 r.y, max s.2.2.1 (r.x + r.w), max s.2.2.2 (r.y + r.h))
    rw [show bnV (r :: l) s = bnV l (min s.1 r.x, min s.2.1 r.y, max s.2.2.1 (r.x + r.w), max s.2.2.2 (r.y + r.h)) from rfl, ← this, List.map_cons]
    show bnV (l.map R1) _ = _
    congr 1
    simp only [R1, Prod.mk.injEq]
    refine ⟨?_, ?_, ?_, ?_⟩ <;> first | trivial | rfl | omega
theorem bnW_nn (r : Rc) (q : List Rc) (h : 0 ≤ r.w ∧ 0 ≤ r.h) : bnW (r :: q) r = bnV q (r.x, r.y, r.x + r.w, r.y + r.h) := by
  unfold bnW
  show bnV q _ = _
  congr 1
  simp only [Prod.mk.injEq]
  omega
theorem bnR_R1 {l : List Rc} (h0 : 0 < l.length) (h : ∀ r ∈ l, 0 ≤ r.w ∧ 0 ≤ r.h) : bnR (l.map R1) = R1 (bnR l) := by
  match l, h0 with
  | r :: q, _ =>
    have hr := h r List.mem_cons_self
    have := bnV_R1 q (r.x, r.y, r.x + r.w, r.y + r.h)
    have e1 := bnW_nn r q hr
    have e2 := bnW_nn (R1 r) (q.map R1) ⟨hr.2, hr.1⟩
    rw [show ((R1 r).x, (R1 r).y, (R1 r).x + (R1 r).w, (R1 r).y + (R1 r).h) = (-(r.y + r.h), r.x, -r.y, r.x + r.w) by simp only [R1, Prod.mk.injEq]; refine ⟨?_, ?_, ?_, ?_⟩ <;> first | trivial | rfl | omega] at e2
    rw [this] at e2
    show (⟨(bnW (R1 r :: q.map R1) (R1 r)).1, (bnW (R1 r :: q.map R1) (R1 r)).2.1, (bnW (R1 r :: q.map R1) (R1 r)).2.2.1 - (bnW (R1 r :: q.map R1) (R1 r)).1, (bnW (R1 r :: q.map R1) (R1 r)).2.2.2 - (bnW (R1 r :: q.map R1) (R1 r)).2.1⟩ : Rc) = R1 ⟨(bnW (r :: q) r).1, (bnW (r :: q) r).2.1, (bnW (r :: q) r).2.2.1 - (bnW (r :: q) r).1, (bnW (r :: q) r).2.2.2 - (bnW (r :: q) r).2.1⟩
    rw [e1, e2]
    simp only [R1, Rc.mk.injEq]
    refine ⟨?_, ?_, ?_, ?_⟩ <;> first | trivial | rfl | omega
theorem bnR_RN {l : List Rc} (h0 : 0 < l.length) (h : ∀ r ∈ l, 0 ≤ r.w ∧ 0 ≤ r.h) : ∀ t, bnR (l.map (RN t)) = RN t (bnR l)
  | 0 => by rw [show RN 0 = id from rfl, List.map_id]; rfl
  | t + 1 => by
    show bnR (l.map fun r => R1 (RN t r)) = R1 (RN t (bnR l))
    rw [← bnR_RN h0 h t, ← bnR_R1 (by simpa using h0) (fun r hr => by obtain ⟨q, hq, rfl⟩ := List.mem_map.1 hr; exact RN_nn (h q hq) t), List.map_map]
    rfl
/-- one box within another -/
def wbR (r B : Rc) : Prop := B.x ≤ r.x ∧ r.x + r.w ≤ B.x + B.w ∧ B.y ≤ r.y ∧ r.y + r.h ≤ B.y + B.h
theorem wbR_R1 {r B : Rc} (h : wbR r B) : wbR (R1 r) (R1 B) := by
  unfold wbR at *
  simp only [R1]
  omega
theorem wbR_RN {r B : Rc} (h : wbR r B) : ∀ t, wbR (RN t r) (RN t B)
  | 0 => h
  | t + 1 => wbR_R1 (wbR_RN h t)
theorem RN_le {B : Rc} {L : Int} (h : B.w ≤ L ∧ B.h ≤ L) : ∀ t, (RN t B).w ≤ L ∧ (RN t B).h ≤ L
  | 0 => h
  | t + 1 => ⟨(RN_le h t).2, (RN_le h t).1⟩
/-- what lies within the bounds lies, turned and settled, between 0 and the greater side -/
theorem qt_in {F : Pat} {L : Int} (h0 : 0 < F.r.length) (h : ∀ r ∈ F.r, 0 ≤ r.w ∧ 0 ≤ r.h) (hL : (bnR F.r).w ≤ L ∧ (bnR F.r).h ≤ L) {r : Rc} (hr : wbR r (bnR F.r)) (t : Nat) :
    0 ≤ (Sh (qU F t) (qV F t) (RN t r)).x ∧ (Sh (qU F t) (qV F t) (RN t r)).x + (RN t r).w ≤ L ∧ 0 ≤ (Sh (qU F t) (qV F t) (RN t r)).y ∧ (Sh (qU F t) (qV F t) (RN t r)).y + (RN t r).h ≤ L := by
  have h1 := wbR_RN hr t
  have h2 := RN_le hL t
  rw [← bnR_RN h0 h t] at h1 h2
  unfold wbR at h1
  simp only [Sh, qU, qV]
  omega
theorem bnR_wbR {l : List Rc} (h0 : 0 < l.length) {r : Rc} (hr : r ∈ l) : wbR r (bnR l) := by
  match l, h0 with
  | q :: m, _ =>
    obtain ⟨_, k⟩ := bnV_in (q :: m) (q.x, q.y, q.x, q.y)
    have := k r hr
    show (bnV (q :: m) (q.x, q.y, q.x, q.y)).1 ≤ r.x ∧ r.x + r.w ≤ (bnV (q :: m) (q.x, q.y, q.x, q.y)).1 + ((bnV (q :: m) (q.x, q.y, q.x, q.y)).2.2.1 - (bnV (q :: m) (q.x, q.y, q.x, q.y)).1) ∧ (bnV (q :: m) (q.x, q.y, q.x, q.y)).2.1 ≤ r.y ∧ r.y + r.h ≤ (bnV (q :: m) (q.x, q.y, q.x, q.y)).2.1 + ((bnV (q :: m) (q.x, q.y, q.x, q.y)).2.2.2 - (bnV (q :: m) (q.x, q.y, q.x, q.y)).2.1)
    omega
end RG
end Go.Proofs.YtddhaiaapomdjaaGreat
set_option linter.unusedVariables false
set_option linter.unusedSimpArgs false
namespace Go.Proofs.YtddhaiaapomdjaaGreat
set_option linter.unusedVariables false
set_option linter.unusedSimpArgs false
open Go Go.ChangeShapes Go.WideShapes Go.ChangeAt Go.RowKit Go.Deep

namespace RG
/-- the blocks from lo to n, all but B, are as they were -/
structure Kq (lo n B : Nat) (w w' : World) : Prop where
  n0 : n ≤ w'.heap.size
  cell : ∀ b o, lo ≤ b → b < n → b ≠ B → w'.cell? ⟨b, o, none⟩ = w.cell? ⟨b, o, none⟩
theorem Kq.refl {lo n B : Nat} {w : World} (h : n ≤ w.heap.size) : Kq lo n B w w := ⟨h, fun _ _ _ _ _ => rfl⟩
theorem Kq.gr {lo n B : Nat} {w w' w'' : World} (h : Kq lo n B w w') (g : Gr w' w'') : Kq lo n B w w'' :=
  ⟨Nat.le_trans h.n0 g.size, fun b o h1 h2 h3 => (g.cell _ _ (Nat.lt_of_lt_of_le h2 h.n0)).trans (h.cell b o h1 h2 h3)⟩
theorem Kq.set {lo n B C i : Nat} {w w' : World} (h : Kq lo n B w w') (hC : C < lo ∨ C = B ∨ n ≤ C) (v : Value) : Kq lo n B w (w'.setCell ⟨C, i, none⟩ v) :=
  ⟨by simpa using h.n0, fun b o h1 h2 h3 => (World.cell?_of_block (heap_setCell_other w' ⟨C, i, none⟩ b v (fun e => by simp at e; omega))).trans (h.cell b o h1 h2 h3)⟩
theorem Kq.grown {lo n B : Nat} {w w' w'' : World} {row : Option Nat} (h : Kq lo n B w w') (hg : w'.grownBy w'' row) (hr : ∀ k, row = some k → n ≤ k) : Kq lo n B w w'' :=
  ⟨Nat.le_trans h.n0 hg.size, fun b o h1 h2 h3 => (hg.cell_far ⟨b, o, none⟩ (Nat.lt_of_lt_of_le h2 h.n0) (fun e => by have := hr b e.symm; omega)).trans (h.cell b o h1 h2 h3)⟩
/-- a list whose block lies between lo and n, and is not B -/
structure SlK (lo n B : Nat) (w : World) (D : Option Addr) (q : Nat) (l : List Rc) : Prop where
  sl : SlR w D q l
  far : l ≠ [] → ∀ a, D = some a → lo ≤ a.block ∧ a.block < n ∧ a.block ≠ B
theorem slr_keep {w w' : World} {D : Option Addr} {q : Nat} {l : List Rc} (h : SlR w D q l) (hk : l ≠ [] → ∀ x, D = some x → ∀ o, w'.cell? ⟨x.block, o, none⟩ = w.cell? ⟨x.block, o, none⟩) : SlR w' D q l := by
  by_cases hl : l = []
  · subst hl
    exact ⟨fun i x hx => by simp at hx, h.cap, h.capB⟩
  · exact ⟨rdl_keep h.rd (hk hl), h.cap, h.capB⟩
theorem SlK.kq {lo n B : Nat} {w w' : World} {D : Option Addr} {q : Nat} {l : List Rc} (h : SlK lo n B w D q l) (k : Kq lo n B w w') : SlK lo n B w' D q l :=
  ⟨slr_keep h.sl fun hl x hx o => k.cell _ _ (h.far hl x hx).1 (h.far hl x hx).2.1 (h.far hl x hx).2.2, h.far⟩
theorem slr_lt {w : World} {D : Option Addr} {q : Nat} {l : List Rc} (h : SlR w D q l) (hl : l ≠ []) : ∀ a, D = some a → a.block < w.heap.size := fun a ha => by
  obtain ⟨r, hr⟩ : ∃ r, l[0]? = some r := ⟨_, List.getElem?_eq_getElem (List.length_pos_iff.2 hl)⟩
  obtain ⟨b, o, e, h0, _⟩ := h.at_ hr
  rw [ha] at e
  cases e
  exact cell_lt (by rw [h0]; rfl)
theorem slk_of {lo lo' B : Nat} {w1 wx : World} {D : Option Addr} {q : Nat} {G : List Rc} (h : SlR w1 D q G) (hf : ∀ a, D = some a → lo ≤ a.block) (hk : Kp lo w1.heap.size w1 wx) (hs : w1.heap.size ≤ wx.heap.size) (hB : B < lo ∨ w1.heap.size ≤ B) (hlo : lo' ≤ lo) : SlK lo' wx.heap.size B wx D q G :=
  ⟨slr_keep h fun hl x hx o => hk.cell _ _ (hf x hx) (slr_lt h hl x hx), fun hl a ha => by have := hf a ha; have := slr_lt h hl a ha; omega⟩
/-- rects at these lists, from here on -/
structure Rcs (w0 : World) (x y : Int) (t : Nat) (A : Option Addr) (m c : Nat) (G : List Rc) : Prop where
  use : ∀ w', Gr w0 w' → Calls Tryz.prog 170 #[fmv x y (t : Int), .slice A m c] w' fun e w'' => ∃ (D : Option Addr) (q : Nat), e = .returned (.slice D G.length q) ∧ SlR w'' D q G ∧ (∀ a, D = some a → w'.heap.size ≤ a.block) ∧ Gr w' w''
theorem rcs_at {w0 : World} {x y : Int} {t : Nat} {A : Option Addr} {m c : Nat} {G : List Rc} (h : Rcs w0 x y t A m c G) (w' : World) (g : Gr w0 w') : Calls Tryz.prog 170 #[fmv x y (t : Int), .slice A m c] w' fun e w'' => ∃ (D : Option Addr) (q : Nat), e = .returned (.slice D G.length q) ∧ SlR w'' D q G ∧ (∀ a, D = some a → w'.heap.size ≤ a.block) ∧ Gr w' w'' := h.use w' g
/-- the variable of the result -/
structure Res (w : World) (B : Nat) (a b c d : Value) : Prop where
  lt : B < w.heap.size
  c0 : w.cell? ⟨B, 0, none⟩ = some a
  c1 : w.cell? ⟨B, 1, none⟩ = some b
  c2 : w.cell? ⟨B, 2, none⟩ = some c
  c3 : w.cell? ⟨B, 3, none⟩ = some d
  f3 : w.frozen? ⟨B, 3, none⟩ = false
theorem Res.gr {w w' : World} {B : Nat} {a b c d : Value} (h : Res w B a b c d) (g : Gr w w') : Res w' B a b c d :=
  ⟨Nat.lt_of_lt_of_le h.lt g.size, (g.cell _ _ h.lt).trans h.c0, (g.cell _ _ h.lt).trans h.c1, (g.cell _ _ h.lt).trans h.c2, (g.cell _ _ h.lt).trans h.c3, (g.frozen _ _ h.lt).trans h.f3⟩
theorem Res.grown {w w' : World} {B : Nat} {a b c d : Value} {row : Option Nat} (h : Res w B a b c d) (hg : w.grownBy w' row) (hr : ∀ k, row = some k → B < k) : Res w' B a b c d := by
  have hne : some B ≠ row := fun e => by have := hr B e.symm; omega
  exact ⟨Nat.lt_of_lt_of_le h.lt hg.size, (hg.cell_far ⟨B, 0, none⟩ h.lt hne).trans h.c0, (hg.cell_far ⟨B, 1, none⟩ h.lt hne).trans h.c1, (hg.cell_far ⟨B, 2, none⟩ h.lt hne).trans h.c2, (hg.cell_far ⟨B, 3, none⟩ h.lt hne).trans h.c3, (hg.frozen_far ⟨B, 3, none⟩ h.lt hne).trans h.f3⟩
theorem Res.set {w : World} {B : Nat} {a b c d : Value} (h : Res w B a b c d) (v : Value) : Res (w.setCell ⟨B, 3, none⟩ v) B a b c v := by
  obtain ⟨h0, h1, h2, h3, h4, h5⟩ := h
  exact ⟨by simpa using h0, by simp [go_sem, h1], by simp [go_sem, h2], by simp [go_sem, h3], by rw [World.cell?_setCell_same' _ _ _ (by rw [h4]; rfl)], by simp [go_sem, h5]⟩
theorem own_farQ {w : World} {base : Nat} {e : TypeId} {k n : Nat} {v : Value} {xs : List Value} (h : w.ownsRow base e k v n xs) {a : Addr} (ha : a.block < base) (u : Value) : (w.setCell a u).ownsRow base e k v n xs := by
  obtain ⟨h0, h1 | ⟨b, cap, cur, h1, hb, h2, h3⟩⟩ := id h
  · exact ⟨h0, .inl h1⟩
  · refine ⟨h0, .inr ⟨b, cap, cur, h1, hb, ?_, h3⟩⟩
    rw [← h2]
    exact Below.heap_setCell w a u b (by omega)
theorem elBend : ElT Tryz.prog 84 185 8 64 := elT_of (.agg #[iv 0, iv 0, iv 0, iv 0, iv 0, iv 0, iv 0, iv 0]) (by kernel_rfl) (by kernel_rfl) (by kernel_rfl)
theorem one_bd (l : List Bd) : ∀ u ∈ l.flatMap bdL, u.oneCell' = true := by
  intro u hu
  obtain ⟨r, _, hr⟩ := List.mem_flatMap.1 hu
  simp at hr
  rcases hr with rfl | rfl | rfl | rfl | rfl | rfl | rfl | rfl <;> rfl
/-- a pattern returned in memory of the call's own: its lists' blocks below n, its bends' row above -/
def NewP (w w' : World) (G : Pat) (e : Ending) : Prop := ∃ (n : Nat) (D1 D2 D3 D4 : Option Addr) (q1 q2 q3 q4 : Nat), e = .returned (ptv D1 G.r.length q1 D2 G.c.length q2 D3 G.f.length q3 D4 G.b.length q4) ∧
  (SlR w' D1 q1 G.r ∧ SlR w' D2 q2 G.c ∧ SlR w' D3 q3 G.f) ∧ ((G.r ≠ [] → ∀ a, D1 = some a → w.heap.size ≤ a.block ∧ a.block < n) ∧ (G.c ≠ [] → ∀ a, D2 = some a → w.heap.size ≤ a.block ∧ a.block < n) ∧ (G.f ≠ [] → ∀ a, D3 = some a → w.heap.size ≤ a.block ∧ a.block < n)) ∧
  OwnL w' n 185 8 bdL (.slice D4 G.b.length q4) G.b ∧ w.heap.size ≤ n ∧ n ≤ w'.heap.size ∧ Gr w w'
set_option maxHeartbeats 8000000 in
set_option maxRecDepth 100000 in
theorem pattern_any (x y : Int) (t : Nat) (A1 A2 A3 A4 : Option Addr) (c1 c2 c3 c4 : Nat) (F : Pat) (w : World) (hF : PatW w A1 c1 A2 c2 A3 c3 A4 c4 F) (hx : -10000000 ≤ x ∧ x ≤ 10000000) (hy : -10000000 ≤ y ∧ y ≤ 10000000)
    (v1 : ∀ r ∈ F.r, InM 1048576 r) (v2 : ∀ r ∈ F.c, InM 1048576 r) (v3 : ∀ r ∈ F.f, InM 1048576 r) (v4 : ∀ b ∈ F.b, (-10000000 ≤ b.a ∧ b.a ≤ 10000000) ∧ (-10000000 ≤ b.b ∧ b.b ≤ 10000000) ∧ (-10000000 ≤ b.c ∧ b.c ≤ 10000000) ∧ (-10000000 ≤ b.d ∧ b.d ≤ 10000000)) (ht : t ≤ 1000)
    (n1 : F.r.length ≤ 400) (n2 : F.c.length ≤ 400) (n3 : F.f.length ≤ 400) (n4 : F.b.length ≤ 400) :
    Calls Tryz.prog 143 #[fmv x y (t : Int), ptv A1 F.r.length c1 A2 F.c.length c2 A3 F.f.length c3 A4 F.b.length c4] w fun e w' => NewP w w' (patM x y t F) e := by
  have HB := hide hF.b
  have b1 := hF.b.cap
  have b2 := hF.b.capB
  have HL := hide (fun (b : Bd) (hb : b ∈ F.b) (w' : World) => line_any x y t b.a b.b b.c b.d w' hx hy (v4 b hb).1 (v4 b hb).2.1 (v4 b hb).2.2.1 (v4 b hb).2.2.2 ht)
  have HM := hide (fun (k : Nat) (b : Bd) (h : F.b[k]? = some b) => map_take1 (bdM x y t) h)
  obtain ⟨w0, hw0⟩ : ∃ w0, ((w.alloc (.cells #[iv x, iv y, iv (t : Int)] 183)).alloc (.cells #[.slice A1 F.r.length c1, .slice A2 F.c.length c2, .slice A3 F.f.length c3, .slice A4 F.b.length c4] 86)).alloc (.cells #[.slice none 0 0, .slice none 0 0, .slice none 0 0, .slice none 0 0] 86) = w0 := ⟨_, rfl⟩
  have gw0 : Gr w w0 := by rw [← hw0]; exact Gr.alloc (Gr.alloc (Gr.alloc (Gr.refl _) _) _) _
  have r1 : Rcs w0 x y t A1 F.r.length c1 (F.r.map (rcM x y t)) := ⟨fun w' g => rects_any x y t A1 c1 F.r w' (hF.r.gr (gw0.trans g)) hx hy v1 ht n1⟩
  have r2 : Rcs w0 x y t A2 F.c.length c2 (F.c.map (rcM x y t)) := ⟨fun w' g => rects_any x y t A2 c2 F.c w' (hF.c.gr (gw0.trans g)) hx hy v2 ht n2⟩
  have r3 : Rcs w0 x y t A3 F.f.length c3 (F.f.map (rcM x y t)) := ⟨fun w' g => rects_any x y t A3 c3 F.f w' (hF.f.gr (gw0.trans g)) hx hy v3 ht n3⟩
  have s0 : w0.heap.size = w.heap.size + 3 := by rw [← hw0]; simp
  have k0 : w0.cell? ⟨w.heap.size, 0, none⟩ = some (iv x) ∧ w0.cell? ⟨w.heap.size, 1, none⟩ = some (iv y) ∧ w0.cell? ⟨w.heap.size, 2, none⟩ = some (iv (t : Int)) := by rw [← hw0]; simp [go_sem]
  have k1 : w0.cell? ⟨w.heap.size + 1, 0, none⟩ = some (.slice A1 F.r.length c1) ∧ w0.cell? ⟨w.heap.size + 1, 1, none⟩ = some (.slice A2 F.c.length c2) ∧ w0.cell? ⟨w.heap.size + 1, 2, none⟩ = some (.slice A3 F.f.length c3) ∧ w0.cell? ⟨w.heap.size + 1, 3, none⟩ = some (.slice A4 F.b.length c4) := by rw [← hw0]; simp [go_sem]
  have k2 : (∀ j, w0.frozen? ⟨w.heap.size + 2, j, none⟩ = false) ∧ w0.cell? ⟨w.heap.size + 2, 0, none⟩ = some (.slice none 0 0) ∧ w0.cell? ⟨w.heap.size + 2, 1, none⟩ = some (.slice none 0 0) ∧ w0.cell? ⟨w.heap.size + 2, 2, none⟩ = some (.slice none 0 0) ∧ w0.cell? ⟨w.heap.size + 2, 3, none⟩ = some (.slice none 0 0) := by rw [← hw0]; simp [go_sem]
  obtain ⟨⟨k00, k01, k02⟩, k10, k11, k12, k13⟩ := And.intro k0 k1
  have HK2 := hide k2
  obtain ⟨G1, hG1⟩ : ∃ G, F.r.map (rcM x y t) = G := ⟨_, rfl⟩
  obtain ⟨G2, hG2⟩ : ∃ G, F.c.map (rcM x y t) = G := ⟨_, rfl⟩
  obtain ⟨G3, hG3⟩ : ∃ G, F.f.map (rcM x y t) = G := ⟨_, rfl⟩
  rw [hG1] at r1
  rw [hG2] at r2
  rw [hG3] at r3
  have HP := hide (show patM x y t F = ⟨G1, G2, G3, F.b.map (bdM x y t)⟩ by rw [← hG1, ← hG2, ← hG3]; rfl)
  clear hx hy v1 v2 v3 v4 n1 n2 n3 hG1 hG2 hG3 hF k0 k1 k2
  go_enter Tryz.func143, Tryz.ntmps143
  go_upto_region 1 with fail
  clear hw0
  go_cut [5] from 8 to 20 (fun v5 wx => ∃ (B : Nat) (D1 D2 D3 : Option Addr) (q1 q2 q3 : Nat), v5 = .pointer (some ⟨B, 0, none⟩) ∧ w0.heap.size ≤ B ∧ Gr w0 wx ∧ SlK w0.heap.size wx.heap.size B wx D1 q1 G1 ∧ SlK w0.heap.size wx.heap.size B wx D2 q2 G2 ∧ SlK w0.heap.size wx.heap.size B wx D3 q3 G3 ∧ Res wx B (.slice D1 G1.length q1) (.slice D2 G2.length q2) (.slice D3 G3.length q3) (.slice none 0 0))
  case first =>
    go_region_held3 (fun w' => Gr (w0) w' ∧ ∀ ii oo, ii < (w0).heap.size → w'.cell? ⟨ii, oo, none⟩ = (w0).cell? ⟨ii, oo, none⟩) ((refine And.intro ?_ (Gr.cell ?_) <;> ((with_reducible repeat (first | exact Gr.refl _ | assumption | refine Gr.alloc ?_ _ | refine Gr.drewN ?_ _ | refine Gr.drew ?_ | refine Gr.setCell ?_ (by first | (dsimp only; omega) | (simp only [World.size_alloc]; omega) | (refine Gr.size ?_; (repeat (first | exact Gr.refl _ | assumption | refine Gr.alloc ?_ _ | refine Gr.drewN ?_ _ | refine Gr.drew ?_ | refine Gr.trans ?_ (by assumption))); done)) _ | refine Gr.trans ?_ (by assumption))); done))) (first | (go_at_call 170; refine (rcs_at (by with_reducible assumption) _ (by with_reducible repeat (first | exact Gr.refl _ | assumption | refine Gr.alloc ?_ _ | refine Gr.drewN ?_ _ | refine Gr.drew ?_ | refine Gr.setCell ?_ (by first | (dsimp only; omega) | (simp only [World.size_alloc]; omega) | (refine Gr.size ?_; (repeat (first | exact Gr.refl _ | assumption | refine Gr.alloc ?_ _ | refine Gr.drewN ?_ _ | refine Gr.drew ?_ | refine Gr.trans ?_ (by assumption))); done)) _ | refine Gr.trans ?_ (by assumption)))).mono ?_; rintro e w6 ⟨D5, q5, rfl, hs5, hf5, g5⟩; obtain ⟨X5, Y5, c5, f5⟩ := g5.use; obtain ⟨w5, rfl⟩ : ∃ w5, w5 = w6 := ⟨_, rfl⟩; (have z5 := g5.size); (try simp only [World.size_alloc, World.size_setCell, World.size_drew, World.heap_drewN, Nat.add_one_le_iff] at z5); (try have l9 : w.heap.size < w5.heap.size := by omega); (try have l8 : w.heap.size + 1 < w5.heap.size := by omega); (try have l0 : w0.heap.size < w5.heap.size := by omega)))
    all_goals
      go_wp2_with fail
      go_meet
      refine ⟨_, _, _, _, _, _, _, rfl, ?_, ?_, slk_of (lo' := w0.heap.size) (by with_reducible assumption) (by with_reducible assumption) ?_ ?_ ?_ ?_, slk_of (lo' := w0.heap.size) (by with_reducible assumption) (by with_reducible assumption) ?_ ?_ ?_ ?_, slk_of (lo' := w0.heap.size) (by with_reducible assumption) (by with_reducible assumption) ?_ ?_ ?_ ?_, ⟨?_, ?_, ?_, ?_, ?_, ?_⟩⟩
      · (first | omega | (simp only [World.size_alloc, World.size_setCell, World.size_drew, World.heap_drewN]; omega))
      · exact (by with_reducible repeat (first | exact Gr.refl _ | assumption | refine Gr.alloc ?_ _ | refine Gr.drewN ?_ _ | refine Gr.drew ?_ | refine Gr.setCell ?_ (by first | (dsimp only; omega) | (simp only [World.size_alloc]; omega) | (refine Gr.size ?_; (repeat (first | exact Gr.refl _ | assumption | refine Gr.alloc ?_ _ | refine Gr.drewN ?_ _ | refine Gr.drew ?_ | refine Gr.trans ?_ (by assumption))); done)) _ | refine Gr.trans ?_ (by assumption)))
      · (repeat (first | with_reducible exact Kp.refl _ | with_reducible refine Kp.alloc ?_ (by (first | omega | (simp only [World.size_alloc, World.size_setCell, World.size_drew, World.heap_drewN]; omega))) _ | with_reducible refine Kp.drew ?_ | with_reducible refine Kp.setCell ?_ (by (first | omega | (simp only [World.size_alloc, World.size_setCell, World.size_drew, World.heap_drewN]; omega))) _ | with_reducible refine Kp.gr ?_ (by with_reducible assumption) (by (first | omega | (simp only [World.size_alloc, World.size_setCell, World.size_drew, World.heap_drewN]; omega)))))
      · (first | omega | (simp only [World.size_alloc, World.size_setCell, World.size_drew, World.heap_drewN]; omega))
      · (first | omega | (simp only [World.size_alloc, World.size_setCell, World.size_drew, World.heap_drewN]; omega))
      · (first | omega | (simp only [World.size_alloc, World.size_setCell, World.size_drew, World.heap_drewN]; omega))
      · (repeat (first | with_reducible exact Kp.refl _ | with_reducible refine Kp.alloc ?_ (by (first | omega | (simp only [World.size_alloc, World.size_setCell, World.size_drew, World.heap_drewN]; omega))) _ | with_reducible refine Kp.drew ?_ | with_reducible refine Kp.setCell ?_ (by (first | omega | (simp only [World.size_alloc, World.size_setCell, World.size_drew, World.heap_drewN]; omega))) _ | with_reducible refine Kp.gr ?_ (by with_reducible assumption) (by (first | omega | (simp only [World.size_alloc, World.size_setCell, World.size_drew, World.heap_drewN]; omega)))))
      · (first | omega | (simp only [World.size_alloc, World.size_setCell, World.size_drew, World.heap_drewN]; omega))
      · (first | omega | (simp only [World.size_alloc, World.size_setCell, World.size_drew, World.heap_drewN]; omega))
      · (first | omega | (simp only [World.size_alloc, World.size_setCell, World.size_drew, World.heap_drewN]; omega))
      · (repeat (first | with_reducible exact Kp.refl _ | with_reducible refine Kp.alloc ?_ (by (first | omega | (simp only [World.size_alloc, World.size_setCell, World.size_drew, World.heap_drewN]; omega))) _ | with_reducible refine Kp.drew ?_ | with_reducible refine Kp.setCell ?_ (by (first | omega | (simp only [World.size_alloc, World.size_setCell, World.size_drew, World.heap_drewN]; omega))) _ | with_reducible refine Kp.gr ?_ (by with_reducible assumption) (by (first | omega | (simp only [World.size_alloc, World.size_setCell, World.size_drew, World.heap_drewN]; omega)))))
      · (first | omega | (simp only [World.size_alloc, World.size_setCell, World.size_drew, World.heap_drewN]; omega))
      · (first | omega | (simp only [World.size_alloc, World.size_setCell, World.size_drew, World.heap_drewN]; omega))
      · (first | omega | (simp only [World.size_alloc, World.size_setCell, World.size_drew, World.heap_drewN]; omega))
      · (first | omega | (simp only [World.size_alloc, World.size_setCell, World.size_drew, World.heap_drewN]; omega))
      · first | (go_simp; done) | (simp [go_sem, *]; done)
      · first | (go_simp; done) | (simp [go_sem, *]; done)
      · first | (go_simp; done) | (simp [go_sem, *]; done)
      · first | (go_simp; done) | (simp [go_sem, *]; done)
      · first | (go_simp; done) | (simp [go_sem, *]; done)
  case rest =>
    obtain ⟨B, D1, D2, D3, q1, q2, q3, rfl, hB, gc, HS1, HS2, HS3, HR⟩ := hcut
    have HG := hide gc
    have hBl := HR.lt
    have f0 := (gc.cell _ _ (by omega)).trans k00
    have f1 := (gc.cell _ _ (by omega)).trans k01
    have f2 := (gc.cell _ _ (by omega)).trans k02
    have f3 : wc.cell? ⟨w.heap.size + 1, 3, none⟩ = some (.slice A4 F.b.length c4) := (gc.cell _ _ (by omega)).trans k13
    have HKR := hide (And.intro k00 (And.intro k01 k02))
    have hsz := gc.size
    clear r1 r2 r3 k10 k11 k12 k13 k00 k01 k02 f0 f1 f2
    go_wp2_with fail
    go_loopw [24] (fun i wr => ∃ (k : Nat) (O : List Bd) (D4 : Option Addr) (q4 : Nat), k ≤ F.b.length ∧ i = iv k ∧ Gr w0 wr ∧ Hid (OwnL wr wc.heap.size 185 8 bdL (.slice D4 O.length q4) O) ∧ Hid (O = (F.b.take k).map (bdM x y t)) ∧ O.length ≤ k ∧ Hid (Kq w0.heap.size wc.heap.size B wc wr) ∧ Hid (Res wr B (.slice D1 G1.length q1) (.slice D2 G2.length q2) (.slice D3 G3.length q3) (.slice D4 O.length q4))) (fun i _ => F.b.length - (intOf i).toNat)
    case atStart => exact ⟨0, [], none, 0, by omega, rfl, HG.out, own_nil _ _ _ _ _, rfl, by simp, Kq.refl (Nat.le_refl _), HR⟩
    case round =>
      obtain ⟨k, O, D4, q4, hk, rfl, g, HO, HE, hO, HQ, HRr⟩ := hrel
      have gz := g.size
      have hbz := HRr.out.lt
      have hn0 := HQ.out.n0
      have l0 : w.heap.size < wr.heap.size := by omega
      by_cases hkl : k < F.b.length
      · obtain ⟨b, hb⟩ : ∃ b, F.b[k]? = some b := ⟨_, List.getElem?_eq_getElem hkl⟩
        obtain ⟨b2, o2, hA, y0, y1, y2, y3, y4, y5, y6, y7⟩ := (HB.out.gr (gw0.trans g)).at_ hb
        have lb : b2 < wr.heap.size := cell_lt (by rw [y0]; rfl)
        have m0 : wr.cell? ⟨w.heap.size, 0, none⟩ = some (iv x) := (g.cell _ _ (by omega)).trans HKR.out.1
        have m1 : wr.cell? ⟨w.heap.size, 1, none⟩ = some (iv y) := (g.cell _ _ (by omega)).trans HKR.out.2.1
        have m2 : wr.cell? ⟨w.heap.size, 2, none⟩ = some (iv (t : Int)) := (g.cell _ _ (by omega)).trans HKR.out.2.2
        have hk0 : (0 : Int) ≤ (k : Int) := by omega
        have hk1 : (k : Int) < (F.b.length : Int) := by omega
        have HN := hide (HM.out k b hb)
        have HC := hide (fun w' => HL.out b (List.mem_of_getElem? hb) w')
        subst hA
        clear hb
        obtain ⟨b', hb'⟩ : ∃ b', bdM x y t b = b' := ⟨_, rfl⟩
        rw [hb'] at HN
        obtain ⟨O2, hO2⟩ : ∃ O2, O ++ [b'] = O2 := ⟨_, rfl⟩
        have HO2 := hide hO2
        have HE2 := hide (show O2 = (F.b.take (k + 1)).map (bdM x y t) by rw [HN.out, ← HE.out]; exact hO2.symm)
        have hO2e : O2.length ≤ k + 1 := by rw [← hO2]; simp; omega
        have hb2 : b' = ⟨b.f, b.p, pX x t b.a b.b, pY y t b.a b.b, pX x t b.c b.d, pY y t b.c b.d, b.n, b.e⟩ := hb'.symm
        clear hO2 HE HN hb'
        generalize pX x t b.a b.b = p1 at *
        generalize pY y t b.a b.b = p2 at *
        generalize pX x t b.c b.d = p3 at *
        generalize pY y t b.c b.d = p4 at *
        subst hb2
        go_wp2_with fail
        refine (HC.out _).mono ?_
        rintro e w5 ⟨rfl, g5⟩
        have hM5 := (Made.new wr #[iv b.f, iv b.p, iv b.a, iv b.b, iv b.c, iv b.d, iv b.n, iv b.e] 185).gr g5
        have e0 : w5.cell? ⟨wr.heap.size, 0, none⟩ = some (iv b.f) := hM5.2.1 0
        have e1 : w5.cell? ⟨wr.heap.size, 1, none⟩ = some (iv b.p) := hM5.2.1 1
        have e2 : w5.cell? ⟨wr.heap.size, 2, none⟩ = some (iv b.a) := hM5.2.1 2
        have e3 : w5.cell? ⟨wr.heap.size, 3, none⟩ = some (iv b.b) := hM5.2.1 3
        have e4 : w5.cell? ⟨wr.heap.size, 4, none⟩ = some (iv b.c) := hM5.2.1 4
        have e5 : w5.cell? ⟨wr.heap.size, 5, none⟩ = some (iv b.d) := hM5.2.1 5
        have e6 : w5.cell? ⟨wr.heap.size, 6, none⟩ = some (iv b.n) := hM5.2.1 6
        have e7 : w5.cell? ⟨wr.heap.size, 7, none⟩ = some (iv b.e) := hM5.2.1 7
        have f2 : w5.frozen? ⟨wr.heap.size, 2, none⟩ = false := hM5.2.2 2
        have f3' : w5.frozen? ⟨wr.heap.size, 3, none⟩ = false := hM5.2.2 3
        have f4 : w5.frozen? ⟨wr.heap.size, 4, none⟩ = false := hM5.2.2 4
        have f5 : w5.frozen? ⟨wr.heap.size, 5, none⟩ = false := hM5.2.2 5
        have ls : wr.heap.size < w5.heap.size := hM5.1
        have lB5 : B < w5.heap.size := by omega
        have g15 : Gr wr w5 := (Gr.alloc (Gr.refl wr) _).trans g5
        have gS : Gr wr ((((w5.setCell ⟨wr.heap.size, 2, none⟩ (iv p1)).setCell ⟨wr.heap.size, 3, none⟩ (iv p2)).setCell ⟨wr.heap.size, 4, none⟩ (iv p3)).setCell ⟨wr.heap.size, 5, none⟩ (iv p4)) := Gr.setCell (Gr.setCell (Gr.setCell (Gr.setCell g15 (Nat.le_refl _) _) (Nat.le_refl _) _) (Nat.le_refl _) _) (Nat.le_refl _) _
        have hM6 : Made ((((w5.setCell ⟨wr.heap.size, 2, none⟩ (iv p1)).setCell ⟨wr.heap.size, 3, none⟩ (iv p2)).setCell ⟨wr.heap.size, 4, none⟩ (iv p3)).setCell ⟨wr.heap.size, 5, none⟩ (iv p4)) wr.heap.size #[iv b.f, iv b.p, iv p1, iv p2, iv p3, iv p4, iv b.n, iv b.e] := hM5.setA (vs := [iv p1, iv p2, iv p3, iv p4]) (o := 2) (show 2 + 4 ≤ 8 by omega)
        have HC6 := hide hM6
        have HG6 := hide gS
        clear hM5 hM6 g5 g15 gS HC m0 m1 m2 y0 y1 y2 y3 y4 y5 y6 y7
        go_upto_region 6 with fail
        obtain ⟨W5, hW5⟩ : ∃ W5, ((((w5.setCell ⟨wr.heap.size, 2, none⟩ (iv p1)).setCell ⟨wr.heap.size, 3, none⟩ (iv p2)).setCell ⟨wr.heap.size, 4, none⟩ (iv p3)).setCell ⟨wr.heap.size, 5, none⟩ (iv p4)) = W5 := ⟨_, rfl⟩
        rw [hW5] at HC6 HG6 ⊢
        clear hW5 e0 e1 e2 e3 e4 e5 e6 e7 f2 f3' f4 f5 ls lB5
        have hM6 := HC6.out
        have e0 : W5.cell? ⟨wr.heap.size, 0, none⟩ = some (iv b.f) := hM6.2.1 0
        have e1 : W5.cell? ⟨wr.heap.size, 1, none⟩ = some (iv b.p) := hM6.2.1 1
        have e2 : W5.cell? ⟨wr.heap.size, 2, none⟩ = some (iv p1) := hM6.2.1 2
        have e3 : W5.cell? ⟨wr.heap.size, 3, none⟩ = some (iv p2) := hM6.2.1 3
        have e4 : W5.cell? ⟨wr.heap.size, 4, none⟩ = some (iv p3) := hM6.2.1 4
        have e5 : W5.cell? ⟨wr.heap.size, 5, none⟩ = some (iv p4) := hM6.2.1 5
        have e6 : W5.cell? ⟨wr.heap.size, 6, none⟩ = some (iv b.n) := hM6.2.1 6
        have e7 : W5.cell? ⟨wr.heap.size, 7, none⟩ = some (iv b.e) := hM6.2.1 7
        have d3 : W5.cell? ⟨B, 3, none⟩ = some (.slice D4 O.length q4) := (HRr.out.gr HG6.out).c3
        have ls : wr.heap.size < W5.heap.size := hM6.1
        have lB5 : B < W5.heap.size := by omega
        have HRA := hide (HRr.out.gr (Gr.alloc HG6.out (.cells #[iv b.f, iv b.p, iv p1, iv p2, iv p3, iv p4, iv b.n, iv b.e] 185)))
        have HOA := hide (HO.out.gr (Gr.alloc HG6.out (.cells #[iv b.f, iv b.p, iv p1, iv p2, iv p3, iv p4, iv b.n, iv b.e] 185)))
        have HQA := hide (HQ.out.gr (Gr.alloc HG6.out (.cells #[iv b.f, iv b.p, iv p1, iv p2, iv p3, iv p4, iv b.n, iv b.e] 185)))
        have HGA := hide (g.trans (Gr.alloc HG6.out (.cells #[iv b.f, iv b.p, iv p1, iv p2, iv p3, iv p4, iv b.n, iv b.e] 185)))
        have HLT := hide (fun k hk => (World.ownsRow.lt HO.out k hk).1)
        clear hM6 HC6 HG6 HRr HO HQ
        go_wp2_with (refine wpList_appZ rfl _ _ _ rfl bdL wc.heap.size 185 8 64 elBend (by decide) O [⟨b.f, b.p, p1, p2, p3, p4, b.n, b.e⟩] O2 HO2.out _ rfl HOA.out ⟨W5.heap.size, 0, none⟩ 1 1 rfl rfl (by decide) (fun _ => rfl) (newsN _ #[iv b.f, iv b.p, iv p1, iv p2, iv p3, iv p4, iv b.n, iv b.e] 185 _ (by simp)) (one_bd [⟨b.f, b.p, p1, p2, p3, p4, b.n, b.e⟩]) (by omega) (by decide) (by simp only [World.size_alloc]; omega) ?_; intro gg cap1 w8 hO8 hG8 hgw8 hat8 hlt8; (have HR8 := hide (HRA.out.grown hgw8 (fun k hk => Nat.lt_of_lt_of_le hBl (HLT.out k hk)))); (have d8 : w8.cell? ⟨B, 3, none⟩ = some (.slice D4 O.length q4) := HR8.out.c3); (have d9 : w8.frozen? ⟨B, 3, none⟩ = false := HR8.out.f3); (have hB8 : B < w8.heap.size := HR8.out.lt))
        have g8 := hG8 _ HGA.out hsz
        have HO8 := hide (own_farQ hO8 (a := ⟨B, 3, none⟩) (show B < wc.heap.size from hBl) (.slice (some ⟨gg, 0, none⟩) O2.length cap1))
        have HQ8 := hide ((HQA.out.grown hgw8 (fun k hk => HLT.out k hk)).set (i := 3) (Or.inr (Or.inl rfl)) (.slice (some ⟨gg, 0, none⟩) O2.length cap1))
        have HR9 := hide (HR8.out.set (.slice (some ⟨gg, 0, none⟩) O2.length cap1))
        clear hO8 hG8 hgw8 hat8
        go_roundw
        case rel => exact ⟨k + 1, O2, some ⟨gg, 0, none⟩, cap1, by omega, by go_num, Gr.setCell g8 hB _, HO8, HE2, by omega, HQ8, HR9⟩
        case measure => simp only [intOf]; omega
      · obtain rfl : k = F.b.length := by omega
        rw [List.take_length] at HE
        have hk1 : ¬ ((F.b.length : Int) < (F.b.length : Int)) := by omega
        have hE := HE.out
        have HPP := hide (show patM x y t F = ⟨G1, G2, G3, O⟩ by rw [HP.out, hE])
        clear HE HM hE HP
        obtain ⟨_, d0, d1, d2, d3, _⟩ := HRr.out
        have p0 : wr.frozen? ⟨w.heap.size + 1 + 1, 0, none⟩ = false := (g.frozen _ _ (by omega)).trans (HK2.out.1 0)
        have p1 : wr.frozen? ⟨w.heap.size + 1 + 1, 1, none⟩ = false := (g.frozen _ _ (by omega)).trans (HK2.out.1 1)
        have p2 : wr.frozen? ⟨w.heap.size + 1 + 1, 2, none⟩ = false := (g.frozen _ _ (by omega)).trans (HK2.out.1 2)
        have p3 : wr.frozen? ⟨w.heap.size + 1 + 1, 3, none⟩ = false := (g.frozen _ _ (by omega)).trans (HK2.out.1 3)
        have z0 : wr.cell? ⟨w.heap.size + 1 + 1, 0, none⟩ = some (.slice none 0 0) := (g.cell _ _ (by omega)).trans HK2.out.2.1
        have z1 : wr.cell? ⟨w.heap.size + 1 + 1, 1, none⟩ = some (.slice none 0 0) := (g.cell _ _ (by omega)).trans HK2.out.2.2.1
        have z2 : wr.cell? ⟨w.heap.size + 1 + 1, 2, none⟩ = some (.slice none 0 0) := (g.cell _ _ (by omega)).trans HK2.out.2.2.2.1
        have z3 : wr.cell? ⟨w.heap.size + 1 + 1, 3, none⟩ = some (.slice none 0 0) := (g.cell _ _ (by omega)).trans HK2.out.2.2.2.2
        go_wp2_with fail
        refine bodyPost_ret (v := ptv D1 G1.length q1 D2 G2.length q2 D3 G3.length q3 D4 O.length q4) (by simp [results, Tryz.results143, go_sem, *]) rfl ?_
        have hlow : w.heap.size + 1 + 1 < w0.heap.size := by omega
        have kq := (((HQ.out.set (C := w.heap.size + 1 + 1) (i := 0) (.inl hlow) (.slice D1 G1.length q1)).set (C := w.heap.size + 1 + 1) (i := 1) (.inl hlow) (.slice D2 G2.length q2)).set (C := w.heap.size + 1 + 1) (i := 2) (.inl hlow) (.slice D3 G3.length q3)).set (C := w.heap.size + 1 + 1) (i := 3) (.inl hlow) (.slice D4 O.length q4)
        have hlo2 : w.heap.size + 1 + 1 < wc.heap.size := by omega
        rw [HPP.out]
        refine ⟨wc.heap.size, D1, D2, D3, D4, q1, q2, q3, q4, rfl, ⟨(HS1.kq kq).sl, (HS2.kq kq).sl, (HS3.kq kq).sl⟩, ⟨fun hl a ha => ⟨Nat.le_trans (by omega) (HS1.far hl a ha).1, (HS1.far hl a ha).2.1⟩, fun hl a ha => ⟨Nat.le_trans (by omega) (HS2.far hl a ha).1, (HS2.far hl a ha).2.1⟩, fun hl a ha => ⟨Nat.le_trans (by omega) (HS3.far hl a ha).1, (HS3.far hl a ha).2.1⟩⟩, own_farQ (own_farQ (own_farQ (own_farQ HO.out (a := ⟨w.heap.size + 1 + 1, 0, none⟩) hlo2 _) (a := ⟨w.heap.size + 1 + 1, 1, none⟩) hlo2 _) (a := ⟨w.heap.size + 1 + 1, 2, none⟩) hlo2 _) (a := ⟨w.heap.size + 1 + 1, 3, none⟩) hlo2 _, by omega, kq.n0, ?_⟩
        have hle : w.heap.size ≤ w.heap.size + 1 + 1 := by omega
        exact Gr.setCell (Gr.setCell (Gr.setCell (Gr.setCell (gw0.trans g) (p := ⟨w.heap.size + 1 + 1, 0, none⟩) hle _) (p := ⟨w.heap.size + 1 + 1, 1, none⟩) hle _) (p := ⟨w.heap.size + 1 + 1, 2, none⟩) hle _) (p := ⟨w.heap.size + 1 + 1, 3, none⟩) hle _
end RG
end Go.Proofs.YtddhaiaapomdjaaGreat
set_option linter.unusedVariables false
set_option linter.unusedSimpArgs false
namespace Go.Proofs.YtddhaiaapomdjaaGreat
set_option linter.unusedVariables false
set_option linter.unusedSimpArgs false
open Go Go.ChangeShapes Go.WideShapes Go.ChangeAt Go.RowKit Go.Deep

namespace RG
theorem sSgT : Tryz.prog.underlying 176 = some (.struct (Tryz.prog.fieldsOf 176)) := by kernel_rfl
theorem pSgT : Tryz.prog.stoodInHeld 176 = false := by kernel_rfl
end RG
end Go.Proofs.YtddhaiaapomdjaaGreat
set_option linter.unusedVariables false
set_option linter.unusedSimpArgs false
namespace Go.Proofs.YtddhaiaapomdjaaGreat
set_option linter.unusedVariables false
set_option linter.unusedSimpArgs false
open Go Go.ChangeShapes Go.WideShapes Go.ChangeAt Go.RowKit Go.Deep

namespace RG
theorem gSgT : Tryz.prog.eqGuardType Tryz.prog.depth 176 = false := by kernel_rfl
def sqO (a b c d x y z t : Int) : Bool := a == x && (b == y && (c == z && d == t))
theorem eqInSgO (n : Nat) (a b c d x y z t : Int) (w : World) : (Op.equalIn (n + 2) 176 (.agg #[iv a, iv b, iv c, iv d]) (.agg #[iv x, iv y, iv z, iv t])).run Tryz.prog w = .ok (sqO a b c d x y z t) w := by
  have u3 := Tryz.underlying3
  have a3 := Tryz.isAgg3
  have z3 := Tryz.sizeOf3
  rw [run_equalIn_agg w (n + 1) 176 _ _ sSgT pSgT]
  simp only [Program.fieldsOf, Tryz.underlying176, sqO]
  go_simp
  by_cases h1 : a = x <;> by_cases h2 : b = y <;> by_cases h3 : c = z <;> by_cases h4 : d = t <;> simp [h1, h2, h3, h4]
theorem sqO_od (b : Bd) : sqO b.a b.b b.c b.d (min b.a b.c) (min b.b b.d) (max b.a b.c) (max b.b b.d) = odB b := by
  rw [Bool.eq_iff_iff]
  unfold sqO odB
  simp only [Bool.and_eq_true, decide_eq_true_eq, beq_iff_eq]
  omega
set_option maxRecDepth 100000 in
theorem isOrdered_any (b : Bd) (w : World) : Calls Tryz.prog 144 #[sg4 b.a b.b b.c b.d] w fun e w' => e = .returned (.bool (odB b)) ∧ Gr w w' := by
  have HE := hide (sqO_od b)
  obtain ⟨ff, pp, a, b, c, d, nn, ee⟩ := b
  simp only at HE ⊢
  have NEQ := fun w => eqInSgO 9998 a b c d (min a c) (min b d) (max a c) (max b d) w
  have GP := gSgT
  have HO := hide (fun w' => inOrder_any a b c d w')
  generalize sqO a b c d (min a c) (min b d) (max a c) (max b d) = V at *
  generalize min a c = q1 at *
  generalize min b d = q2 at *
  generalize max a c = q3 at *
  generalize max b d = q4 at *
  go_enter Tryz.func144, Tryz.ntmps144
  go_upto_region 1 with fail
  have GC := @GrW.cell
  refine wp_region_grw _ (by kernel_rfl) (by kernel_rfl) (Gr.refl _) ?_
  repeat (go_big_quiet_step ((first | (go_at_call 145; exact quiet_grw (HO.out _)))))
  refine wpQuiet_nil ?_
  intro wq hwq
  obtain ⟨gq, hwq'⟩ := hwq
  subst hwq'
  clear GC
  have gq1 := gq.gr
  generalize gq.w = wq at gq1 ⊢
  obtain ⟨Xq, Yq, cq, fq⟩ := gq1.use
  have sq := gq1.size
  (try simp only [World.size_alloc, World.size_setCell, World.heap_drewN] at sq)
  go_wp2
  go_ret
  exact ⟨ret_bool HE.out, (by with_reducible repeat (first | exact Gr.refl _ | assumption | refine Gr.alloc ?_ _ | refine Gr.drewN ?_ _ | refine Gr.drew ?_ | refine Gr.setCell ?_ (by first | (dsimp only; omega) | (simp only [World.size_alloc]; omega) | (refine Gr.size ?_; (repeat (first | exact Gr.refl _ | assumption | refine Gr.alloc ?_ _ | refine Gr.drewN ?_ _ | refine Gr.drew ?_ | refine Gr.trans ?_ (by assumption))); done)) _ | refine Gr.trans ?_ (by assumption)))⟩
theorem bnR_bd {l : List Rc} (h : ∀ r ∈ l, InM 1048576 r) (h0 : 0 < l.length) : (-1048576 ≤ (bnR l).x ∧ (bnR l).x ≤ 1048576) ∧ -1048576 ≤ (bnR l).y ∧ (bnR l).y ≤ 1048576 := by
  match l, h0 with
  | r :: q, _ =>
    have hr := h r List.mem_cons_self
    have m1 := hr.w
    have m2 := hr.h
    have m3 := hr.x
    have m4 := hr.y
    have m5 := hr.x'
    have m6 := hr.y'
    have := bnV_bd (m := 1048576) (r :: q) (r.x, r.y, r.x, r.y) (fun s hs => by
      have hr := h s hs
      have m1 := hr.w
      have m2 := hr.h
      have m3 := hr.x
      have m4 := hr.y
      have m5 := hr.x'
      have m6 := hr.y'
      omega) (by dsimp only; omega)
    exact ⟨this.1, this.2.1⟩
set_option maxHeartbeats 4000000 in
set_option maxRecDepth 100000 in
theorem settled_any (A1 A2 A3 A4 : Option Addr) (c1 c2 c3 c4 : Nat) (F : Pat) (w : World) (hF : PatW w A1 c1 A2 c2 A3 c3 A4 c4 F)
    (v1 : ∀ r ∈ F.r, InM 1048576 r) (v2 : ∀ r ∈ F.c, InM 1048576 r) (v3 : ∀ r ∈ F.f, InM 1048576 r) (v4 : ∀ b ∈ F.b, (-10000000 ≤ b.a ∧ b.a ≤ 10000000) ∧ (-10000000 ≤ b.b ∧ b.b ≤ 10000000) ∧ (-10000000 ≤ b.c ∧ b.c ≤ 10000000) ∧ (-10000000 ≤ b.d ∧ b.d ≤ 10000000))
    (n0 : 0 < F.r.length) (n1 : F.r.length ≤ 400) (n2 : F.c.length ≤ 400) (n3 : F.f.length ≤ 400) (n4 : F.b.length ≤ 400) :
    Calls Tryz.prog 142 #[ptv A1 F.r.length c1 A2 F.c.length c2 A3 F.f.length c3 A4 F.b.length c4] w fun e w' => NewP w w' (stF F) e := by
  obtain ⟨⟨u1, u2⟩, u3, u4⟩ := bnR_bd v1 n0
  have HBO := hide (fun (w' : World) (g : Gr w w') => bounds_any A1 c1 F.r w' (hF.r.gr g) (fun r hr => by
    have := v1 r hr
    have m1 := this.w
    have m2 := this.h
    have m3 := this.x
    have m4 := this.y
    have m5 := this.x'
    have m6 := this.y'
    omega) n1 n0)
  have HPA := hide (fun (w' : World) (g : Gr w w') => pattern_any (-(bnR F.r).x) (-(bnR F.r).y) 0 A1 A2 A3 A4 c1 c2 c3 c4 F w' (hF.gr g) (by omega) (by omega) v1 v2 v3 v4 (by omega) n1 n2 n3 n4)
  have HS := hide (show patM (-(bnR F.r).x) (-(bnR F.r).y) 0 F = stF F from rfl)
  have s1 : IntKind.i64.wrap (-(bnR F.r).x) = -(bnR F.r).x := IntWalk.i64_in _ (by omega)
  have s2 : IntKind.i64.wrap (-(bnR F.r).y) = -(bnR F.r).y := IntWalk.i64_in _ (by omega)
  rw [HS.out] at HPA
  clear hF v1 v2 v3 v4 n0 n1 n2 n3 n4 u1 u2 u3 u4 HS
  generalize stF F = G at *
  generalize bnR F.r = R at *
  obtain ⟨R1, R2, R3, R4⟩ := R
  simp only at s1 s2 HPA
  obtain ⟨w0, hw0⟩ : ∃ w0, (w.alloc (.cells #[.slice A1 F.r.length c1, .slice A2 F.c.length c2, .slice A3 F.f.length c3, .slice A4 F.b.length c4] 86)).alloc (.cells #[.slice none 0 0, .slice none 0 0, .slice none 0 0, .slice none 0 0] 86) = w0 := ⟨_, rfl⟩
  have gw0 : Gr w w0 := by rw [← hw0]; exact Gr.alloc (Gr.alloc (Gr.refl _) _) _
  have s0 : w0.heap.size = w.heap.size + 2 := by rw [← hw0]; simp
  have k1 : w0.cell? ⟨w.heap.size, 0, none⟩ = some (.slice A1 F.r.length c1) ∧ w0.cell? ⟨w.heap.size, 1, none⟩ = some (.slice A2 F.c.length c2) ∧ w0.cell? ⟨w.heap.size, 2, none⟩ = some (.slice A3 F.f.length c3) ∧ w0.cell? ⟨w.heap.size, 3, none⟩ = some (.slice A4 F.b.length c4) := by rw [← hw0]; simp [go_sem]
  have k2 : (∀ j, w0.frozen? ⟨w.heap.size + 1, j, none⟩ = false) ∧ w0.cell? ⟨w.heap.size + 1, 0, none⟩ = some (.slice none 0 0) ∧ w0.cell? ⟨w.heap.size + 1, 1, none⟩ = some (.slice none 0 0) ∧ w0.cell? ⟨w.heap.size + 1, 2, none⟩ = some (.slice none 0 0) ∧ w0.cell? ⟨w.heap.size + 1, 3, none⟩ = some (.slice none 0 0) := by rw [← hw0]; simp [go_sem]
  obtain ⟨k10, k11, k12, k13⟩ := k1
  have HK2 := hide k2
  clear k2
  go_enter Tryz.func142, Tryz.ntmps142
  go_upto_region 1 with fail
  clear hw0
  go_wp2_with fail
  refine (HBO.out _ gw0).mono ?_
  rintro e w1 ⟨rfl, g1⟩
  have z1 := g1.size
  have e0 : w1.cell? ⟨w.heap.size, 0, none⟩ = some (.slice A1 F.r.length c1) := (g1.cell _ _ (by omega)).trans k10
  have e1 : w1.cell? ⟨w.heap.size, 1, none⟩ = some (.slice A2 F.c.length c2) := (g1.cell _ _ (by omega)).trans k11
  have e2 : w1.cell? ⟨w.heap.size, 2, none⟩ = some (.slice A3 F.f.length c3) := (g1.cell _ _ (by omega)).trans k12
  have e3 : w1.cell? ⟨w.heap.size, 3, none⟩ = some (.slice A4 F.b.length c4) := (g1.cell _ _ (by omega)).trans k13
  have l1 : w.heap.size < w1.heap.size := by omega
  clear k10 k11 k12 k13 HBO
  have HP2 := hide (HPA.out (w1.alloc (.cells #[iv R1, iv R2, iv R3, iv R4] 70)) ((gw0.trans g1).trans (Gr.alloc (Gr.refl _) _)))
  clear HPA
  go_wp2_with fail
  refine HP2.out.mono ?_
  rintro e w2 ⟨n, D1, D2, D3, D4, q1, q2, q3, q4, rfl, ⟨h1, h2, h3⟩, ⟨f1, f2, f3⟩, ho, hn, hn', g2⟩
  have z2 := g2.size
  simp only [World.size_alloc] at z2 hn f1 f2 f3
  have g12 : Gr w0 w2 := g1.trans ((Gr.alloc (Gr.refl _) _).trans g2)
  have p0 : w2.frozen? ⟨w.heap.size + 1, 0, none⟩ = false := (g12.frozen _ _ (by omega)).trans (HK2.out.1 0)
  have p1 : w2.frozen? ⟨w.heap.size + 1, 1, none⟩ = false := (g12.frozen _ _ (by omega)).trans (HK2.out.1 1)
  have p2 : w2.frozen? ⟨w.heap.size + 1, 2, none⟩ = false := (g12.frozen _ _ (by omega)).trans (HK2.out.1 2)
  have p3 : w2.frozen? ⟨w.heap.size + 1, 3, none⟩ = false := (g12.frozen _ _ (by omega)).trans (HK2.out.1 3)
  have d0 : w2.cell? ⟨w.heap.size + 1, 0, none⟩ = some (.slice none 0 0) := (g12.cell _ _ (by omega)).trans HK2.out.2.1
  have d1 : w2.cell? ⟨w.heap.size + 1, 1, none⟩ = some (.slice none 0 0) := (g12.cell _ _ (by omega)).trans HK2.out.2.2.1
  have d2 : w2.cell? ⟨w.heap.size + 1, 2, none⟩ = some (.slice none 0 0) := (g12.cell _ _ (by omega)).trans HK2.out.2.2.2.1
  have d3 : w2.cell? ⟨w.heap.size + 1, 3, none⟩ = some (.slice none 0 0) := (g12.cell _ _ (by omega)).trans HK2.out.2.2.2.2
  have H1 := hide h1
  have H2 := hide h2
  have H3 := hide h3
  have HO := hide ho
  have HF1 := hide f1
  have HF2 := hide f2
  have HF3 := hide f3
  have HG := hide (gw0.trans g12)
  have hlt : w.heap.size + 1 < w2.heap.size := by omega
  clear h1 h2 h3 ho f1 f2 f3 g1 g2 HP2 e0 e1 e2 e3 s1 s2
  go_wp2_with fail
  refine bodyPost_ret (v := ptv D1 G.r.length q1 D2 G.c.length q2 D3 G.f.length q3 D4 G.b.length q4) (by simp [results, Tryz.results142, go_sem, *]) rfl ?_
  have kq := (((((Kq.refl (lo := w.heap.size + 2) (n := n) (B := w.heap.size + 1) hn').set (C := w.heap.size + 1) (i := 0) (.inl (by omega)) (.slice D1 G.r.length q1)).set (C := w.heap.size + 1) (i := 1) (.inl (by omega)) (.slice D2 G.c.length q2)).set (C := w.heap.size + 1) (i := 2) (.inl (by omega)) (.slice D3 G.f.length q3)).set (C := w.heap.size + 1) (i := 3) (.inl (by omega)) (.slice D4 G.b.length q4))
  have hlo2 : w.heap.size + 1 < n := by omega
  have hle : w.heap.size ≤ w.heap.size + 1 := by omega
  have fr : ∀ {D : Option Addr} {l : List Rc}, (l ≠ [] → ∀ a, D = some a → w1.heap.size + 1 ≤ a.block ∧ a.block < n) → (l ≠ [] → ∀ a, D = some a → w.heap.size ≤ a.block ∧ a.block < n) ∧ (l ≠ [] → ∀ a, D = some a → w.heap.size + 2 ≤ a.block ∧ a.block < n ∧ a.block ≠ w.heap.size + 1) := fun h => ⟨fun hl a ha => by have := h hl a ha; omega, fun hl a ha => by have := h hl a ha; omega⟩
  exact ⟨n, D1, D2, D3, D4, q1, q2, q3, q4, rfl, ⟨((SlK.mk H1.out (fr HF1.out).2).kq kq).sl, ((SlK.mk H2.out (fr HF2.out).2).kq kq).sl, ((SlK.mk H3.out (fr HF3.out).2).kq kq).sl⟩, ⟨(fr HF1.out).1, (fr HF2.out).1, (fr HF3.out).1⟩, own_farQ (own_farQ (own_farQ (own_farQ HO.out (a := ⟨w.heap.size + 1, 0, none⟩) hlo2 _) (a := ⟨w.heap.size + 1, 1, none⟩) hlo2 _) (a := ⟨w.heap.size + 1, 2, none⟩) hlo2 _) (a := ⟨w.heap.size + 1, 3, none⟩) hlo2 _, by omega, kq.n0,
    Gr.setCell (Gr.setCell (Gr.setCell (Gr.setCell HG.out (p := ⟨w.heap.size + 1, 0, none⟩) hle _) (p := ⟨w.heap.size + 1, 1, none⟩) hle _) (p := ⟨w.heap.size + 1, 2, none⟩) hle _) (p := ⟨w.heap.size + 1, 3, none⟩) hle _⟩
end RG
end Go.Proofs.YtddhaiaapomdjaaGreat
set_option linter.unusedVariables false
set_option linter.unusedSimpArgs false
namespace Go.Proofs.YtddhaiaapomdjaaGreat
set_option linter.unusedVariables false
set_option linter.unusedSimpArgs false
open Go Go.ChangeShapes Go.WideShapes Go.ChangeAt Go.RowKit Go.Deep

namespace RG
/-- the first k lines in order where they were given so -/
def mx : List Bd → List Bd → Nat → List Bd
  | o :: fs, g :: gs, k + 1 => fix o g :: mx fs gs k
  | _, gs, _ => gs
theorem mx_0 (fs gs : List Bd) : mx fs gs 0 = gs := by
  cases fs <;> cases gs <;> rfl
theorem mx_step : ∀ (fs gs : List Bd) (k : Nat) (o g : Bd), fs[k]? = some o → gs[k]? = some g → mx fs gs (k + 1) = (mx fs gs k).set k (fix o g) ∧ (mx fs gs k)[k]? = some g
  | f :: fs, h :: gs, 0, o, g, ho, hg => by
    obtain rfl : f = o := by simpa using ho
    obtain rfl : h = g := by simpa using hg
    rw [mx_0]
    show fix f h :: mx fs gs 0 = _ ∧ _
    rw [mx_0]
    exact ⟨rfl, rfl⟩
  | f :: fs, h :: gs, k + 1, o, g, ho, hg => by
    have := mx_step fs gs k o g (by simpa using ho) (by simpa using hg)
    show fix f h :: mx fs gs (k + 1) = (fix f h :: mx fs gs k).set (k + 1) (fix o g) ∧ (fix f h :: mx fs gs k)[k + 1]? = some g
    rw [this.1]
    exact ⟨rfl, by simpa using this.2⟩
  | [], _, k, o, g, ho, _ => by simp at ho
  | _ :: _, [], k, o, g, _, hg => by simp at hg
theorem mx_all : ∀ (fs gs : List Bd), fs.length = gs.length → mx fs gs fs.length = List.zipWith fix fs gs
  | [], [], _ => rfl
  | [], _ :: _, h => by simp at h
  | _ :: _, [], h => by simp at h
  | f :: fs, g :: gs, h => by
    show fix f g :: mx fs gs fs.length = _
    rw [mx_all fs gs (by simpa using h)]
    rfl
theorem bd_fm : ∀ (xs : List Bd) (k : Nat) (g : Bd) (a b c d : Int), xs[k]? = some g → (xs.set k ⟨g.f, g.p, a, b, c, d, g.n, g.e⟩).flatMap bdL = ((((xs.flatMap bdL).set (k * 8 + 2) (iv a)).set (k * 8 + 3) (iv b)).set (k * 8 + 4) (iv c)).set (k * 8 + 5) (iv d)
  | x :: xs, 0, g, a, b, c, d, h => by
    obtain rfl : x = g := by simpa using h
    rfl
  | x :: xs, k + 1, g, a, b, c, d, h => by
    have := bd_fm xs k g a b c d (by simpa using h)
    rw [show (k + 1) * 8 + 2 = k * 8 + 2 + 8 by omega, show (k + 1) * 8 + 3 = k * 8 + 3 + 8 by omega, show (k + 1) * 8 + 4 = k * 8 + 4 + 8 by omega, show (k + 1) * 8 + 5 = k * 8 + 5 + 8 by omega]
    show bdL x ++ (xs.set k _).flatMap bdL = _
    rw [this]
    rfl
theorem bd_at {w : World} {n m q k : Nat} {D : Option Addr} {gs : List Bd} {g : Bd} (h : OwnL w n 185 8 bdL (.slice D m q) gs) (hg : gs[k]? = some g) :
    ∃ B, D = some ⟨B, 0, none⟩ ∧ n ≤ B ∧ B < w.heap.size ∧ (w.cell? ⟨B, k * 8 + 2, none⟩ = some (iv g.a) ∧ w.cell? ⟨B, k * 8 + 3, none⟩ = some (iv g.b) ∧ w.cell? ⟨B, k * 8 + 4, none⟩ = some (iv g.c) ∧ w.cell? ⟨B, k * 8 + 5, none⟩ = some (iv g.d)) ∧ (∀ j, w.frozen? ⟨B, j, none⟩ = false) ∧
      ∀ a b c d, OwnL ((((w.setCell ⟨B, k * 8 + 2, none⟩ (iv a)).setCell ⟨B, k * 8 + 3, none⟩ (iv b)).setCell ⟨B, k * 8 + 4, none⟩ (iv c)).setCell ⟨B, k * 8 + 5, none⟩ (iv d)) n 185 8 bdL (.slice (some ⟨B, 0, none⟩) m q) (gs.set k ⟨g.f, g.p, a, b, c, d, g.n, g.e⟩) := by
  have hk : k < gs.length := (List.getElem?_eq_some_iff.1 hg).1
  obtain ⟨e, rd, h1, h2⟩ := OwnL.rd (c := bdL) (fun _ => rfl) h
  obtain ⟨b, off, hD, _⟩ := rd k g hg
  subst hD
  have hb := own_ge h _ rfl
  obtain ⟨h0, ⟨x, _⟩ | ⟨B, cap, cur, x, _⟩⟩ := id h
  · cases x
  · obtain ⟨rfl, rfl⟩ : b = B ∧ off = 0 := by
      injection x with x1
      injection x1 with x1
      injection x1 with x2 x3
      exact ⟨x2, x3⟩
    have hO : w.ownsRow n 185 8 (.slice (some ⟨b, 0, none⟩) m q) m (gs.flatMap bdL) := by
      have := h
      unfold OwnL at this
      rwa [← e] at this
    have ca := World.ownsRow.cellAt (w := w) hO
    have c2 := (ca (k * 8 + 2) (by omega)).trans (fm_at (c := bdL) (k := 8) (fun _ => rfl) gs k g 2 hg (by decide))
    have c3 := (ca (k * 8 + 3) (by omega)).trans (fm_at (c := bdL) (k := 8) (fun _ => rfl) gs k g 3 hg (by decide))
    have c4 := (ca (k * 8 + 4) (by omega)).trans (fm_at (c := bdL) (k := 8) (fun _ => rfl) gs k g 4 hg (by decide))
    have c5 := (ca (k * 8 + 5) (by omega)).trans (fm_at (c := bdL) (k := 8) (fun _ => rfl) gs k g 5 hg (by decide))
    refine ⟨b, rfl, hb, cell_lt (by rw [c2]; rfl), ⟨c2, c3, c4, c5⟩, World.ownsRow.frozenAt hO, fun p1 p2 p3 p4 => ?_⟩
    have := (World.ownsRow.stored (World.ownsRow.stored (World.ownsRow.stored (World.ownsRow.stored hO (k * 8 + 2) (iv p1)).1 (k * 8 + 3) (iv p2)).1 (k * 8 + 4) (iv p3)).1 (k * 8 + 5) (iv p4)).1
    rw [← bd_fm gs k g p1 p2 p3 p4 hg] at this
    unfold OwnL
    rw [List.length_set, ← e]
    exact this
def noP : Pat := ⟨[], [], [], []⟩
/-- what Quarter returns -/
def qtE (F : Pat) (t : Nat) : Int := if chE F = 0 then (if lmB (qtF F t) = true then 0 else 4) else 1
def qtP (F : Pat) (t : Nat) : Pat := if qtE F t = 0 then qtF F t else noP
def QrP (w w' : World) (G : Pat) (E : Int) (e : Ending) : Prop := ∃ (D1 D2 D3 D4 : Option Addr) (q1 q2 q3 q4 : Nat), e = .returned (sle (ptv D1 G.r.length q1 D2 G.c.length q2 D3 G.f.length q3 D4 G.b.length q4) E) ∧ PatW w' D1 q1 D2 q2 D3 q3 D4 q4 G ∧ ((G.r ≠ [] → ∀ a, D1 = some a → w.heap.size ≤ a.block) ∧ (G.c ≠ [] → ∀ a, D2 = some a → w.heap.size ≤ a.block) ∧ (G.f ≠ [] → ∀ a, D3 = some a → w.heap.size ≤ a.block) ∧ (G.b ≠ [] → ∀ a, D4 = some a → w.heap.size ≤ a.block)) ∧ Gr w w'
theorem noP_w (w : World) : PatW w none 0 none 0 none 0 none 0 noP := ⟨⟨fun i x hx => by simp [noP] at hx, by simp [noP], by omega⟩, ⟨fun i x hx => by simp [noP] at hx, by simp [noP], by omega⟩, ⟨fun i x hx => by simp [noP] at hx, by simp [noP], by omega⟩, ⟨fun i x hx => by simp [noP] at hx, by simp [noP], by omega⟩⟩
theorem pat0_lim {F : Pat} (h : chE F = 0) (t : Nat) : (∀ r ∈ (patM 0 0 t F).r, InM 1048576 r) ∧ (∀ r ∈ (patM 0 0 t F).c, InM 1048576 r) ∧ (∀ r ∈ (patM 0 0 t F).f, InM 1048576 r) ∧ (∀ b ∈ F.b, (-10000000 ≤ b.a ∧ b.a ≤ 10000000) ∧ (-10000000 ≤ b.b ∧ b.b ≤ 10000000) ∧ (-10000000 ≤ b.c ∧ b.c ≤ 10000000) ∧ (-10000000 ≤ b.d ∧ b.d ≤ 10000000)) ∧ (∀ b ∈ (patM 0 0 t F).b, (-10000000 ≤ b.a ∧ b.a ≤ 10000000) ∧ (-10000000 ≤ b.b ∧ b.b ≤ 10000000) ∧ (-10000000 ≤ b.c ∧ b.c ≤ 10000000) ∧ (-10000000 ≤ b.d ∧ b.d ≤ 10000000)) := by
  obtain ⟨_, _, _, l5⟩ := ch_yes h
  obtain ⟨i1, i2, i3, i4⟩ := lm_in l5
  have key : ∀ l : List Rc, (∀ r ∈ l, InM 1048576 r) → ∀ r ∈ l.map (rcM 0 0 t), InM 1048576 r := fun l hl r hr => by
    obtain ⟨q, hq, rfl⟩ := List.mem_map.1 hr
    have := hl q hq
    rw [rcM_RN ⟨Int.le_of_lt this.w, Int.le_of_lt this.h⟩]
    exact inM_RN this t
  have kb : ∀ b ∈ F.b, (-1048576 ≤ b.a ∧ b.a ≤ 1048576) ∧ (-1048576 ≤ b.b ∧ b.b ≤ 1048576) ∧ (-1048576 ≤ b.c ∧ b.c ≤ 1048576) ∧ (-1048576 ≤ b.d ∧ b.d ≤ 1048576) := fun b hb => by
    have := i4 b hb
    simp only [bdB, nsL, List.all_cons, List.all_nil, Bool.and_eq_true, Bool.and_true, wiB, decide_eq_true_eq] at this
    omega
  refine ⟨key _ i1, key _ i2, key _ i3, fun b hb => by have := kb b hb; omega, fun b hb => ?_⟩
  obtain ⟨q, hq, rfl⟩ := List.mem_map.1 hb
  have hk := kb q hq
  have e1 := rtP_bd (m := 1048576) t hk.1 hk.2.1
  have e2 := rtP_bd (m := 1048576) t hk.2.2.1 hk.2.2.2
  simp only [bdM, pX, pY]
  omega
theorem Res.oth {w : World} {B C i : Nat} {a b c d : Value} (h : Res w B a b c d) (hne : C ≠ B) (v : Value) : Res (w.setCell ⟨C, i, none⟩ v) B a b c d := by
  have oth : ∀ o, (w.setCell ⟨C, i, none⟩ v).cell? ⟨B, o, none⟩ = w.cell? ⟨B, o, none⟩ := fun o => World.cell?_of_block (heap_setCell_other w ⟨C, i, none⟩ B v (fun e => hne (by simpa using e.symm)))
  exact ⟨by simpa using h.lt, (oth 0).trans h.c0, (oth 1).trans h.c1, (oth 2).trans h.c2, (oth 3).trans h.c3, by simp [go_sem, h.f3, Ne.symm hne]⟩
theorem set_same {l : List Bd} {k : Nat} {g : Bd} (h : l[k]? = some g) : l.set k g = l := by
  apply List.ext_getElem?
  intro j
  rw [List.getElem?_set]
  by_cases e : k = j
  · subst e
    have := (List.getElem?_eq_some_iff.1 h).1
    rw [if_pos rfl, if_pos this, h]
  · rw [if_neg e]
theorem own_slb {w : World} {n m q : Nat} {D : Option Addr} {gs : List Bd} (h : OwnL w n 185 8 bdL (.slice D m q) gs) : SlB w D q gs := by
  obtain ⟨_, h1, h2, h3⟩ := OwnL.rd (c := bdL) (fun _ => rfl) h
  exact ⟨h1, h2, by unfold maxLen at h3; omega⟩
set_option maxHeartbeats 8000000 in
set_option maxRecDepth 100000 in
theorem Quarter_any (A1 A2 A3 A4 : Option Addr) (c1 c2 c3 c4 : Nat) (F : Pat) (t : Nat) (w : World) (hF : PatW w A1 c1 A2 c2 A3 c3 A4 c4 F) (ht : t ≤ 3) (n4 : F.b.length ≤ 400) :
    Calls Tryz.prog 106 #[ptv A1 F.r.length c1 A2 F.c.length c2 A3 F.f.length c3 A4 F.b.length c4, iv (t : Int)] w fun e w' => QrP w w' (qtP F t) (qtE F t) e := by
  have HC := hide (fun (w' : World) (g : Gr w w') => check_any A1 A2 A3 A4 c1 c2 c3 c4 F w' (hF.gr g))
  obtain ⟨w0, hw0⟩ : ∃ w0, (w.alloc (.cells #[.slice A1 F.r.length c1, .slice A2 F.c.length c2, .slice A3 F.f.length c3, .slice A4 F.b.length c4] 86)).alloc (.cells #[.slice none 0 0, .slice none 0 0, .slice none 0 0, .slice none 0 0] 86) = w0 := ⟨_, rfl⟩
  have gw0 : Gr w w0 := by rw [← hw0]; exact Gr.alloc (Gr.alloc (Gr.refl _) _) _
  have s0 : w0.heap.size = w.heap.size + 2 := by rw [← hw0]; simp
  have k1 : w0.cell? ⟨w.heap.size, 0, none⟩ = some (.slice A1 F.r.length c1) ∧ w0.cell? ⟨w.heap.size, 1, none⟩ = some (.slice A2 F.c.length c2) ∧ w0.cell? ⟨w.heap.size, 2, none⟩ = some (.slice A3 F.f.length c3) ∧ w0.cell? ⟨w.heap.size, 3, none⟩ = some (.slice A4 F.b.length c4) := by rw [← hw0]; simp [go_sem]
  have k2 : (∀ j, w0.frozen? ⟨w.heap.size + 1, j, none⟩ = false) ∧ w0.cell? ⟨w.heap.size + 1, 0, none⟩ = some (.slice none 0 0) ∧ w0.cell? ⟨w.heap.size + 1, 1, none⟩ = some (.slice none 0 0) ∧ w0.cell? ⟨w.heap.size + 1, 2, none⟩ = some (.slice none 0 0) ∧ w0.cell? ⟨w.heap.size + 1, 3, none⟩ = some (.slice none 0 0) := by rw [← hw0]; simp [go_sem]
  have HK1 := hide k1
  have HK2 := hide k2
  obtain ⟨k10, k11, k12, k13⟩ := k1
  clear k2
  -- the result's variable in a later world
  have RV := hide (fun (w' : World) (g : Gr w0 w') => (show ((w'.frozen? ⟨w.heap.size + 1, 0, none⟩ = false ∧ w'.frozen? ⟨w.heap.size + 1, 1, none⟩ = false ∧ w'.frozen? ⟨w.heap.size + 1, 2, none⟩ = false ∧ w'.frozen? ⟨w.heap.size + 1, 3, none⟩ = false) ∧ w'.cell? ⟨w.heap.size + 1, 0, none⟩ = some (.slice none 0 0) ∧ w'.cell? ⟨w.heap.size + 1, 1, none⟩ = some (.slice none 0 0) ∧ w'.cell? ⟨w.heap.size + 1, 2, none⟩ = some (.slice none 0 0) ∧ w'.cell? ⟨w.heap.size + 1, 3, none⟩ = some (.slice none 0 0)) ∧ w.heap.size + 1 < w'.heap.size from
    have hs := g.size
    have hf := fun j => (g.frozen (w.heap.size + 1) j (by omega)).trans (HK2.out.1 j)
    have hc := fun j v (h : w0.cell? ⟨w.heap.size + 1, j, none⟩ = some v) => (g.cell (w.heap.size + 1) j (by omega)).trans h
    ⟨⟨⟨hf 0, hf 1, hf 2, hf 3⟩, hc 0 _ HK2.out.2.1, hc 1 _ HK2.out.2.2.1, hc 2 _ HK2.out.2.2.2.1, hc 3 _ HK2.out.2.2.2.2⟩, by omega⟩))
  have hle : w.heap.size ≤ w.heap.size + 1 := by omega
  rcases ch_01 F with h0 | h0
  case inr =>
    have HE := hide (show qtE F t = 1 ∧ qtP F t = noP from by
      have : qtE F t = 1 := if_neg (by rw [h0]; decide)
      exact ⟨this, if_neg (by rw [this]; decide)⟩)
    rw [h0] at HC
    clear h0 hF
    go_enter Tryz.func106, Tryz.ntmps106
    go_upto_region 1 with fail
    clear hw0
    go_wp2_with fail
    refine (HC.out _ gw0).mono ?_
    rintro e w1 ⟨rfl, g1⟩
    obtain ⟨⟨⟨p0, p1, p2, p3⟩, d0, d1, d2, d3⟩, hlt⟩ := RV.out w1 g1
    clear HC k10 k11 k12 k13
    go_wp2_with fail
    refine bodyPost_ret (v := sle (ptv none 0 0 none 0 0 none 0 0 none 0 0) 1) (by simp [results, Tryz.results106, go_sem, *]) rfl ?_
    rw [HE.out.1, HE.out.2]
    exact ⟨none, none, none, none, 0, 0, 0, 0, rfl, noP_w _, ⟨fun h => absurd rfl h, fun h => absurd rfl h, fun h => absurd rfl h, fun h => absurd rfl h⟩, Gr.setCell (Gr.setCell (Gr.setCell (Gr.setCell (gw0.trans g1) (p := ⟨w.heap.size + 1, 0, none⟩) hle _) (p := ⟨w.heap.size + 1, 1, none⟩) hle _) (p := ⟨w.heap.size + 1, 2, none⟩) hle _) (p := ⟨w.heap.size + 1, 3, none⟩) hle _⟩
  case inl =>
    obtain ⟨v1, v2, v3, v4, v5⟩ := pat0_lim h0 t
    obtain ⟨⟨l1, l2⟩, l3, l4, l5⟩ := ch_yes h0
    obtain ⟨i1, i2, i3, i4⟩ := lm_in l5
    rw [h0] at HC
    obtain ⟨P, hP⟩ : ∃ P, patM 0 0 t F = P := ⟨_, rfl⟩
    obtain ⟨G, hG⟩ : ∃ G, stF P = G := ⟨_, rfl⟩
    have p1 : P.r.length = F.r.length := by rw [← hP]; simp [patM]
    have p2 : P.c.length = F.c.length := by rw [← hP]; simp [patM]
    have p3 : P.f.length = F.f.length := by rw [← hP]; simp [patM]
    have p4 : P.b.length = F.b.length := by rw [← hP]; simp [patM]
    have hlen : F.b.length = G.b.length := by rw [← hG, ← hP]; simp [stF, patM]
    have hQ : qtF F t = ⟨G.r, G.c, G.f, List.zipWith fix F.b G.b⟩ := by rw [← hG, ← hP]; rfl
    have hZ : (List.zipWith fix F.b G.b).length = G.b.length := by rw [List.length_zipWith, hlen, Nat.min_self]
    have HPA := hide (fun (w' : World) (g : Gr w w') => pattern_any 0 0 t A1 A2 A3 A4 c1 c2 c3 c4 F w' (hF.gr g) (by omega) (by omega) i1 i2 i3 v4 (by omega) (by omega) (by omega) (by omega) n4)
    rw [hP] at v1 v2 v3 v5 HPA
    have HST := hide (fun (D1 D2 D3 D4 : Option Addr) (q1 q2 q3 q4 : Nat) (w' : World) (h : PatW w' D1 q1 D2 q2 D3 q3 D4 q4 P) => settled_any D1 D2 D3 D4 q1 q2 q3 q4 P w' h v1 v2 v3 v5 (by omega) (by omega) (by omega) (by omega) (by omega))
    rw [hG] at HST
    have HIL := hide (fun (D1 D2 D3 D4 : Option Addr) (q1 q2 q3 q4 : Nat) (w' : World) (h1 : SlR w' D1 q1 G.r) (h2 : SlR w' D2 q2 G.c) (h3 : SlR w' D3 q3 G.f) (h4 : SlB w' D4 q4 (List.zipWith fix F.b G.b)) => by
      have := inLimits_any D1 D2 D3 D4 q1 q2 q3 q4 ⟨G.r, G.c, G.f, List.zipWith fix F.b G.b⟩ w' ⟨h1, h2, h3, h4⟩
      rw [hZ] at this
      exact this)
    have HZ := hide hZ
    have HE := hide (show qtE F t = (if lmB ⟨G.r, G.c, G.f, List.zipWith fix F.b G.b⟩ = true then 0 else 4) by rw [← hQ]; exact if_pos h0)
    have HPQ := hide (show qtP F t = if qtE F t = 0 then ⟨G.r, G.c, G.f, List.zipWith fix F.b G.b⟩ else noP by rw [← hQ]; rfl)
    have HMX := hide (fun k o g => mx_step F.b G.b k o g)
    have HMA := hide (mx_all F.b G.b hlen)
    have HM0 := hide (mx_0 F.b G.b)
    have HB := hide hF.b
    have n1 := hF.b.cap
    have n2 := hF.b.capB
    have HWI := hide (fun (w' : World) => by
      have := fwithin_any (t : Int) 0 3 w'
      rw [show wiB (t : Int) 0 3 = true by simp [wiB]; omega] at this
      exact this)
    have HLEN := hide hlen
    clear hlen h0 v1 v2 v3 v4 v5 l1 l2 l3 l4 l5 i1 i2 i3 i4 hP hG p1 p2 p3 p4 hQ hZ hF n4
    go_enter Tryz.func106, Tryz.ntmps106
    go_upto_region 1 with fail
    clear hw0
    go_wp2_with fail
    refine (HC.out _ gw0).mono ?_
    rintro e w1 ⟨rfl, g1⟩
    have z1 := g1.size
    have e0 : w1.cell? ⟨w.heap.size, 0, none⟩ = some (.slice A1 F.r.length c1) := (g1.cell _ _ (by omega)).trans k10
    have e1 : w1.cell? ⟨w.heap.size, 1, none⟩ = some (.slice A2 F.c.length c2) := (g1.cell _ _ (by omega)).trans k11
    have e2 : w1.cell? ⟨w.heap.size, 2, none⟩ = some (.slice A3 F.f.length c3) := (g1.cell _ _ (by omega)).trans k12
    have e3 : w1.cell? ⟨w.heap.size, 3, none⟩ = some (.slice A4 F.b.length c4) := (g1.cell _ _ (by omega)).trans k13
    have lw1 : w.heap.size < w1.heap.size := by omega
    clear HC k10 k11 k12 k13
    go_wp2_with fail
    refine (HWI.out _).mono ?_
    rintro e w1' ⟨rfl, rfl⟩
    clear HWI
    go_wp2_with fail
    refine (HPA.out _ (gw0.trans g1)).mono ?_
    rintro e w2 ⟨n', D1', D2', D3', D4', q1', q2', q3', q4', rfl, ⟨h1, h2, h3⟩, _, ho, _, _, g2⟩
    clear HPA e0 e1 e2 e3
    go_wp2_with fail
    refine (HST.out _ _ _ _ _ _ _ _ w2 ⟨h1, h2, h3, own_slb ho⟩).mono ?_
    clear h1 h2 h3 ho HST
    rintro e w3 ⟨n, D1, D2, D3, D4, q1, q2, q3, q4, rfl, ⟨h1, h2, h3⟩, ⟨f1, f2, f3⟩, ho, hn, hn', g3⟩
    have g13 : Gr w0 w3 := g1.trans (g2.trans g3)
    have z3 := g13.size
    have e3 : w3.cell? ⟨w.heap.size, 3, none⟩ = some (.slice A4 F.b.length c4) := (g13.cell _ _ (by omega)).trans HK1.out.2.2.2
    have HA : Gr w3 (w3.alloc (.cells #[.slice D1 G.r.length q1, .slice D2 G.c.length q2, .slice D3 G.f.length q3, .slice D4 G.b.length q4] 86)) := Gr.alloc (Gr.refl _) _
    have z12 : w0.heap.size ≤ w2.heap.size := by have := g1.size; have := g2.size; omega
    have HDL := hide (fun (k : Nat) (x : Bd) (hx : G.b[k]? = some x) (B : Nat) (e : D4 = some ⟨B, 0, none⟩) => (show B < w3.heap.size by
      obtain ⟨B', e', _, hl, _⟩ := bd_at ho hx
      rw [e] at e'
      cases e'
      exact hl))
    have K1 := hide (SlK.mk (lo := w0.heap.size) (B := n) (h1.gr HA) fun hl a ha => ⟨Nat.le_trans z12 (f1 hl a ha).1, (f1 hl a ha).2, Nat.ne_of_lt (f1 hl a ha).2⟩)
    have K2 := hide (SlK.mk (lo := w0.heap.size) (B := n) (h2.gr HA) fun hl a ha => ⟨Nat.le_trans z12 (f2 hl a ha).1, (f2 hl a ha).2, Nat.ne_of_lt (f2 hl a ha).2⟩)
    have K3 := hide (SlK.mk (lo := w0.heap.size) (B := n) (h3.gr HA) fun hl a ha => ⟨Nat.le_trans z12 (f3 hl a ha).1, (f3 hl a ha).2, Nat.ne_of_lt (f3 hl a ha).2⟩)
    have HO0 := hide (show OwnL (w3.alloc (.cells #[.slice D1 G.r.length q1, .slice D2 G.c.length q2, .slice D3 G.f.length q3, .slice D4 G.b.length q4] 86)) n 185 8 bdL (.slice D4 G.b.length q4) (mx F.b G.b 0) by rw [HM0.out]; exact ho.gr HA)
    have hnw : w0.heap.size ≤ n := by have := g1.size; have := g2.size; omega
    have hM := Made.new w3 #[.slice D1 G.r.length q1, .slice D2 G.c.length q2, .slice D3 G.f.length q3, .slice D4 G.b.length q4] 86
    have HR0 := hide (Res.mk hM.1 (hM.2.1 0) (hM.2.1 1) (hM.2.1 2) (hM.2.1 3) (hM.2.2 3))
    have HG0 := hide (g13.trans HA)
    have lw3 : w.heap.size < w3.heap.size := by omega
    clear h1 h2 h3 f1 f2 f3 ho g1 g2 g3 g13 HA hM
    go_wp2_with fail
    go_loopw [28] (fun i wr => ∃ k : Nat, k ≤ F.b.length ∧ i = iv k ∧ Gr w0 wr ∧ Hid (OwnL wr n 185 8 bdL (.slice D4 G.b.length q4) (mx F.b G.b k)) ∧ Hid (Kq w0.heap.size n n (w3.alloc (.cells #[.slice D1 G.r.length q1, .slice D2 G.c.length q2, .slice D3 G.f.length q3, .slice D4 G.b.length q4] 86)) wr) ∧ Hid (Res wr w3.heap.size (.slice D1 G.r.length q1) (.slice D2 G.c.length q2) (.slice D3 G.f.length q3) (.slice D4 G.b.length q4))) (fun i _ => F.b.length - (intOf i).toNat)
    case atStart => exact ⟨0, by omega, rfl, HG0.out, HO0, Kq.refl (by simp only [World.size_alloc]; omega), HR0⟩
    case round =>
      clear HO0 HR0 HG0 e3
      obtain ⟨k, hk, rfl, g, HO, HQ, HRr⟩ := hrel
      have gz := g.size
      have hbz := HRr.out.lt
      have hn0 := HQ.out.n0
      have l0 : w.heap.size < wr.heap.size := by omega
      by_cases hkl : k < F.b.length
      · obtain ⟨o, ho⟩ : ∃ o, F.b[k]? = some o := ⟨_, List.getElem?_eq_getElem hkl⟩
        have hkg : k < G.b.length := by have := HLEN.out; omega
        obtain ⟨x, hx⟩ : ∃ x, G.b[k]? = some x := ⟨_, List.getElem?_eq_getElem hkg⟩
        have HN := hide (HMX.out k o x ho hx)
        obtain ⟨b2, o2, hA, y0, y1, y2, y3, y4, y5, y6, y7⟩ := (HB.out.gr (gw0.trans g)).at_ ho
        have lb : b2 < wr.heap.size := cell_lt (by rw [y0]; rfl)
        have hk0 : (0 : Int) ≤ (k : Int) := by omega
        have hk1 : (k : Int) < (F.b.length : Int) := by omega
        have hk2 : (k : Int) < (G.b.length : Int) := by omega
        subst hA
        obtain ⟨B4, hD4, hB4, _⟩ := bd_at HO.out HN.out.2
        have hBT := HDL.out k x hx B4 hD4
        subst hD4
        have HI := hide (fun w' => isOrdered_any o w')
        clear ho hx
        go_wp2_with fail
        refine (HI.out _).mono ?_
        rintro e w5 ⟨rfl, g5⟩
        have g15 : Gr wr w5 := (Gr.alloc (Gr.refl wr) _).trans g5
        have z5 := g15.size
        clear y0 y1 y2 y3 y4 y5 y6 y7 HI
        cases hod : odB o with
        | false =>
          have HO5 := hide (show OwnL w5 n 185 8 bdL (.slice (some ⟨B4, 0, none⟩) G.b.length q4) (mx F.b G.b (k + 1)) by
            rw [HN.out.1, show fix o x = x by unfold fix; rw [hod]; rfl, set_same HN.out.2]
            exact HO.out.gr g15)
          have HQ5 := hide (HQ.out.gr g15)
          have HR5 := hide (HRr.out.gr g15)
          have G5 := hide (g.trans g15)
          clear HO HQ HRr g15 g5 hod
          go_wp2
          go_roundw
          case rel => exact ⟨k + 1, by omega, by go_num, G5.out, HO5, HQ5, HR5⟩
          case measure => simp only [intOf]; omega
        | true =>
          have HF := hide (show fix o x = inO x by unfold fix; rw [hod]; rfl)
          have HO5 := hide (HO.out.gr g15)
          have HQ5 := hide (HQ.out.gr g15)
          have HR5 := hide (HRr.out.gr g15)
          have G5 := hide (g.trans g15)
          obtain ⟨_, e4, _, lB4, ⟨c2, c3, c4', c5⟩, fz, _⟩ := bd_at HO5.out HN.out.2
          injection e4 with e4
          injection e4 with e4
          subst e4
          have t3 := HR5.out.c3
          have tl := HR5.out.lt
          have fz2 := fz (k * 8 + 2)
          have fz3 := fz (k * 8 + 3)
          have fz4 := fz (k * 8 + 4)
          have fz5 := fz (k * 8 + 5)
          have HIN := hide (fun w' => inOrder_any x.a x.b x.c x.d w')
          clear HO HQ HRr g15 g5 hod fz
          go_upto_region 11 with fail
          have GC := @GrW.cell
          refine wp_region_grw_tail _ 12 (by kernel_rfl) (by kernel_rfl) (Gr.refl _) ?_
          simp only [List.take_succ_cons, List.take_zero, List.drop_succ_cons, List.drop_zero]
          repeat (go_big_quiet_step ((first | (go_at_call 145; exact quiet_grw (HIN.out _)))))
          refine wpQuiet_nil ?_
          intro wq hwq
          obtain ⟨gq, hwq'⟩ := hwq
          subst hwq'
          clear GC
          have gq1 := gq.gr
          generalize gq.w = wq at gq1 ⊢
          obtain ⟨Xq, Yq, cq, fq⟩ := gq1.use
          have sq := gq1.size
          (try simp only [World.size_alloc, World.size_setCell, World.heap_drewN] at sq)
          obtain ⟨_, e4, _, lB5, ⟨d2, d3, d4, d5⟩, fz', U⟩ := bd_at (HO5.out.gr gq1) HN.out.2
          injection e4 with e4
          injection e4 with e4
          subst e4
          have fq2 := fz' (k * 8 + 2)
          have fq3 := fz' (k * 8 + 3)
          have fq4 := fz' (k * 8 + 4)
          have fq5 := fz' (k * 8 + 5)
          have HO6 := hide (show OwnL ((((wq.setCell ⟨B4, k * 8 + 2, none⟩ (iv (min x.a x.c))).setCell ⟨B4, k * 8 + 3, none⟩ (iv (min x.b x.d))).setCell ⟨B4, k * 8 + 4, none⟩ (iv (max x.a x.c))).setCell ⟨B4, k * 8 + 5, none⟩ (iv (max x.b x.d))) n 185 8 bdL (.slice (some ⟨B4, 0, none⟩) G.b.length q4) (mx F.b G.b (k + 1)) by
            rw [HN.out.1, HF.out]
            exact U (min x.a x.c) (min x.b x.d) (max x.a x.c) (max x.b x.d))
          have hBn : w3.heap.size ≠ B4 := by omega
          have HQ6 := hide (((((HQ5.out.gr gq1).set (C := B4) (i := k * 8 + 2) (.inr (.inr hB4)) (iv (min x.a x.c))).set (C := B4) (i := k * 8 + 3) (.inr (.inr hB4)) (iv (min x.b x.d))).set (C := B4) (i := k * 8 + 4) (.inr (.inr hB4)) (iv (max x.a x.c))).set (C := B4) (i := k * 8 + 5) (.inr (.inr hB4)) (iv (max x.b x.d)))
          have HR6 := hide (((((HR5.out.gr gq1).oth (i := k * 8 + 2) (Ne.symm hBn) (iv (min x.a x.c))).oth (i := k * 8 + 3) (Ne.symm hBn) (iv (min x.b x.d))).oth (i := k * 8 + 4) (Ne.symm hBn) (iv (max x.a x.c))).oth (i := k * 8 + 5) (Ne.symm hBn) (iv (max x.b x.d)))
          have hw0B : w0.heap.size ≤ B4 := Nat.le_trans hnw hB4
          have HG6 := hide (Gr.setCell (Gr.setCell (Gr.setCell (Gr.setCell (G5.out.trans gq1) (p := ⟨B4, k * 8 + 2, none⟩) hw0B (iv (min x.a x.c))) (p := ⟨B4, k * 8 + 3, none⟩) hw0B (iv (min x.b x.d))) (p := ⟨B4, k * 8 + 4, none⟩) hw0B (iv (max x.a x.c))) (p := ⟨B4, k * 8 + 5, none⟩) hw0B (iv (max x.b x.d)))
          clear HO5 HQ5 HR5 G5 gq1 U fz' cq fq t3 c2 c3 c4' c5 fz2 fz3 fz4 fz5
          go_wp2
          go_roundw
          case rel => exact ⟨k + 1, by omega, by go_num, HG6.out, HO6, HQ6, HR6⟩
          case measure => simp only [intOf]; omega
      · obtain rfl : k = F.b.length := by omega
        have hk1 : ¬ ((F.b.length : Int) < (F.b.length : Int)) := by omega
        have hO := HO.out
        rw [HMA.out] at hO
        have HO' := hide hO
        have hlo : w.heap.size + 1 < w0.heap.size := by omega
        have hln : w.heap.size + 1 < n := by omega
        obtain ⟨_, t0, t1, t2, t3, _⟩ := HRr.out
        clear hO HO HMX HMA HM0 HDL HB
        go_wp2_with fail
        refine (HIL.out D1 D2 D3 D4 q1 q2 q3 q4 wr (K1.out.kq HQ.out).sl (K2.out.kq HQ.out).sl (K3.out.kq HQ.out).sl (own_slb HO'.out)).mono ?_
        rintro e w6 ⟨rfl, g6⟩
        have u0 := (HRr.out.gr g6).c0
        have u1 := (HRr.out.gr g6).c1
        have u2 := (HRr.out.gr g6).c2
        have u3 := (HRr.out.gr g6).c3
        obtain ⟨⟨⟨p0, p1, p2, p3⟩, d0, d1, d2, d3⟩, hlt⟩ := RV.out w6 (g.trans g6)
        have lT6 := (HRr.out.gr g6).lt
        have HG6 := hide (gw0.trans (g.trans g6))
        have HO6 := hide (HO'.out.gr g6)
        have HQ6 := hide (HQ.out.gr g6)
        clear t0 t1 t2 t3 HRr HQ HO' HIL
        cases hlm : lmB ⟨G.r, G.c, G.f, List.zipWith fix F.b G.b⟩ with
        | false =>
          have HEE := hide (show qtE F t = 4 ∧ qtP F t = noP from by
            have e : qtE F t = 4 := by rw [HE.out, if_neg (by rw [hlm]; decide)]
            exact ⟨e, by rw [HPQ.out, if_neg (by rw [e]; decide)]⟩)
          clear hlm HE HPQ u0 u1 u2 u3
          go_wp2_with fail
          refine bodyPost_ret (v := sle (ptv none 0 0 none 0 0 none 0 0 none 0 0) 4) (by simp [results, Tryz.results106, go_sem, *]) rfl ?_
          rw [HEE.out.1, HEE.out.2]
          exact ⟨none, none, none, none, 0, 0, 0, 0, rfl, noP_w _, ⟨fun h => absurd rfl h, fun h => absurd rfl h, fun h => absurd rfl h, fun h => absurd rfl h⟩, Gr.setCell (Gr.setCell (Gr.setCell (Gr.setCell HG6.out (p := ⟨w.heap.size + 1, 0, none⟩) hle _) (p := ⟨w.heap.size + 1, 1, none⟩) hle _) (p := ⟨w.heap.size + 1, 2, none⟩) hle _) (p := ⟨w.heap.size + 1, 3, none⟩) hle _⟩
        | true =>
          have HEE := hide (show qtE F t = 0 ∧ qtP F t = ⟨G.r, G.c, G.f, List.zipWith fix F.b G.b⟩ from by
            have e : qtE F t = 0 := by rw [HE.out, if_pos hlm]
            exact ⟨e, by rw [HPQ.out, if_pos e]⟩)
          clear hlm HE HPQ
          go_wp2_with fail
          refine bodyPost_ret (v := sle (ptv D1 G.r.length q1 D2 G.c.length q2 D3 G.f.length q3 D4 G.b.length q4) 0) (by simp [results, Tryz.results106, go_sem, *]) rfl ?_
          rw [HEE.out.1, HEE.out.2]
          have kq := (((HQ6.out.set (C := w.heap.size + 1) (i := 0) (.inl hlo) (.slice D1 G.r.length q1)).set (C := w.heap.size + 1) (i := 1) (.inl hlo) (.slice D2 G.c.length q2)).set (C := w.heap.size + 1) (i := 2) (.inl hlo) (.slice D3 G.f.length q3)).set (C := w.heap.size + 1) (i := 3) (.inl hlo) (.slice D4 G.b.length q4)
          exact ⟨D1, D2, D3, D4, q1, q2, q3, q4, by rw [HZ.out], ⟨(K1.out.kq kq).sl, (K2.out.kq kq).sl, (K3.out.kq kq).sl, own_slb (own_farQ (own_farQ (own_farQ (own_farQ HO6.out (a := ⟨w.heap.size + 1, 0, none⟩) hln _) (a := ⟨w.heap.size + 1, 1, none⟩) hln _) (a := ⟨w.heap.size + 1, 2, none⟩) hln _) (a := ⟨w.heap.size + 1, 3, none⟩) hln _)⟩,
            ⟨fun hl a ha => Nat.le_trans gw0.size (K1.out.far hl a ha).1, fun hl a ha => Nat.le_trans gw0.size (K2.out.far hl a ha).1, fun hl a ha => Nat.le_trans gw0.size (K3.out.far hl a ha).1, fun _ a ha => Nat.le_trans (Nat.le_trans gw0.size hnw) (own_ge HO6.out a ha)⟩,
            Gr.setCell (Gr.setCell (Gr.setCell (Gr.setCell HG6.out (p := ⟨w.heap.size + 1, 0, none⟩) hle _) (p := ⟨w.heap.size + 1, 1, none⟩) hle _) (p := ⟨w.heap.size + 1, 2, none⟩) hle _) (p := ⟨w.heap.size + 1, 3, none⟩) hle _⟩
end RG
end Go.Proofs.YtddhaiaapomdjaaGreat
