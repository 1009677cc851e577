/-
  Flat patterns turned: point, line, inOrder, rect of the code.
-/
import Derived.Test.YtjnfodbniohkhaaSf5
import Derived.WalkLawsBesides
set_option linter.unusedVariables false
set_option linter.unusedSimpArgs false
namespace Go.Proofs.Ytjnfodbniohkhaa
set_option linter.unusedVariables false
set_option linter.unusedSimpArgs false
open Go Go.ChangeShapes Go.WideShapes Go.ChangeAt Go.RowKit Go.Deep

namespace RG
/-- so many quarter turns -/
def rtP : Nat → Int × Int → Int × Int
  | 0, p => p
  | n + 1, p => (-(rtP n p).2, (rtP n p).1)
theorem rtP_bd {m : Int} : ∀ (n : Nat) {u v : Int}, -m ≤ u ∧ u ≤ m → -m ≤ v ∧ v ≤ m → (-m ≤ (rtP n (u, v)).1 ∧ (rtP n (u, v)).1 ≤ m) ∧ -m ≤ (rtP n (u, v)).2 ∧ (rtP n (u, v)).2 ≤ m
  | 0, u, v, h1, h2 => ⟨h1, h2⟩
  | n + 1, u, v, h1, h2 => by
    obtain ⟨a, b⟩ := rtP_bd n h1 h2
    simp only [rtP]
    omega
abbrev fmv (x y t : Int) : Value := .agg #[iv x, iv y, iv t]
def pX (x : Int) (t : Nat) (u v : Int) : Int := x + (rtP t (u, v)).1
def pY (y : Int) (t : Nat) (u v : Int) : Int := y + (rtP t (u, v)).2
theorem p_bd {x y : Int} {t : Nat} {u v : Int} (hx : -10000000 ≤ x ∧ x ≤ 10000000) (hy : -10000000 ≤ y ∧ y ≤ 10000000) (hu : -10000000 ≤ u ∧ u ≤ 10000000) (hv : -10000000 ≤ v ∧ v ≤ 10000000) : (-20000000 ≤ pX x t u v ∧ pX x t u v ≤ 20000000) ∧ -20000000 ≤ pY y t u v ∧ pY y t u v ≤ 20000000 := by
  have := rtP_bd t hu hv
  unfold pX pY
  omega
set_option maxHeartbeats 2000000 in
set_option maxRecDepth 100000 in
theorem point_any (x y : Int) (t : Nat) (u v : Int) (w : World) (hx : -10000000 ≤ x ∧ x ≤ 10000000) (hy : -10000000 ≤ y ∧ y ≤ 10000000) (hu : -10000000 ≤ u ∧ u ≤ 10000000) (hv : -10000000 ≤ v ∧ v ≤ 10000000) (ht : t ≤ 1000) :
    Calls Try.prog 48 #[fmv x y (t : Int), iv u, iv v] w fun e w' => e = .returned (.tuple #[iv (pX x t u v), iv (pY y t u v)]) ∧ Gr w w' := by
  have HB := hide (fun n => rtP_bd n hu hv)
  have HP := hide (show pX x t u v = x + (rtP t (u, v)).1 ∧ pY y t u v = y + (rtP t (u, v)).2 from ⟨rfl, rfl⟩)
  have HS := hide (fun n => (show rtP (n + 1) (u, v) = (-(rtP n (u, v)).2, (rtP n (u, v)).1) from rfl))
  clear hu hv
  obtain ⟨hx1, hx2⟩ := hx
  obtain ⟨hy1, hy2⟩ := hy
  have g0 : Gr w (w.alloc (.cells #[iv x, iv y, iv (t : Int)] 45)) := Gr.alloc (Gr.refl _) _
  go_enter Try.func48, Try.ntmps48
  go_wp2_with fail
  go_loopw [1, 2, 10] (fun uv vv i wr => ∃ k : Nat, k ≤ t ∧ i = iv k ∧ uv = iv (rtP k (u, v)).1 ∧ vv = iv (rtP k (u, v)).2 ∧ Gr (w.alloc (.cells #[iv x, iv y, iv (t : Int)] 45)) wr) (fun _ _ i _ => t - (intOf i).toNat)
  case atStart => exact ⟨0, by omega, rfl, rfl, rfl, Gr.refl _⟩
  case round =>
    obtain ⟨k, hk, rfl, rfl, rfl, g⟩ := hrel
    obtain ⟨⟨b1, b2⟩, b3, b4⟩ := HB.out k
    have HN := hide (HS.out k)
    obtain ⟨z, hz⟩ : ∃ z, rtP k (u, v) = z := ⟨_, rfl⟩
    rw [hz] at b1 b2 b3 b4 HN ⊢
    have HZ := hide hz
    clear hz
    obtain ⟨z1, z2⟩ := z
    simp only at b1 b2 b3 b4 HN ⊢
    by_cases hkt : k < t
    · have s1 : IntKind.i64.wrap (-z2) = -z2 := IntWalk.i64_in _ (by omega)
      have s2 : IntKind.i64.wrap ((k : Int) + 1) = (k : Int) + 1 := IntWalk.i64_in _ (by omega)
      have hk1 : (k : Int) < (t : Int) := by omega
      go_wp2
      go_roundw
      case rel => exact ⟨k + 1, by omega, by go_num, by rw [HN.out], by rw [HN.out], g⟩
      case measure => simp only [intOf]; omega
    · obtain rfl : k = t := by omega
      have hk1 : ¬ ((k : Int) < (k : Int)) := by omega
      obtain ⟨s0, m0, m1, m2⟩ := box3 g
      have s1 : IntKind.i64.wrap (x + z1) = x + z1 := IntWalk.i64_in _ (by omega)
      have s2 : IntKind.i64.wrap (y + z2) = y + z2 := IntWalk.i64_in _ (by omega)
      have HQ := hide (show pX x k u v = x + z1 ∧ pY y k u v = y + z2 by rw [HP.out.1, HP.out.2, HZ.out]; exact ⟨rfl, rfl⟩)
      clear HP HZ HN HB HS
      go_upto_region 5 with fail
      have GC := @GrW.cell
      refine wp_region_grw _ (by kernel_rfl) (by kernel_rfl) (Gr.refl _) ?_
      repeat (go_big_quiet_step ((first | fail)))
      refine wpQuiet_nil ?_
      intro wq hwq
      obtain ⟨gq, hwq'⟩ := hwq
      subst hwq'
      clear GC
      have gq1 := gq.gr
      generalize gq.w = wq at gq1 ⊢
      obtain ⟨Xq, Yq, cq, fq⟩ := gq1.use
      have sq := gq1.size
      (try simp only [World.size_alloc, World.size_setCell, World.heap_drewN] at sq)
      go_wp2
      go_ret2
      exact ⟨by rw [HQ.out.1, HQ.out.2]; rfl, g0.trans (g.trans gq1)⟩
abbrev sg4 (a b c d : Int) : Value := .agg #[iv a, iv b, iv c, iv d]
theorem inOrder_any (a b c d : Int) (w : World) :
    Calls Try.prog 20 #[sg4 a b c d] w fun e w' => e = .returned (sg4 (min a c) (min b d) (max a c) (max b d)) ∧ Gr w w' := by
  go_enter Try.func20, Try.ntmps20
  go_wp2
  refine bodyPost_ret (v := sg4 (min a c) (min b d) (max a c) (max b d)) (by simp [results, Try.results20, go_sem]) rfl ⟨rfl, ?_⟩
  exact (by repeat (first | with_reducible exact Gr.refl _ | with_reducible assumption | with_reducible refine Gr.alloc ?_ _ | with_reducible refine Gr.drewN ?_ _ | with_reducible refine Gr.drew ?_ | with_reducible refine Gr.setCell ?_ (by first | (dsimp only; omega) | (simp only [World.size_alloc]; omega) | (with_reducible refine Gr.size ?_; (repeat (first | with_reducible exact Gr.refl _ | with_reducible assumption | with_reducible refine Gr.alloc ?_ _ | with_reducible refine Gr.drewN ?_ _ | with_reducible refine Gr.drew ?_ | with_reducible refine Gr.trans ?_ (by with_reducible assumption))); done)) _ | with_reducible refine Gr.trans ?_ (by with_reducible assumption)))
set_option maxHeartbeats 2000000 in
set_option maxRecDepth 100000 in
theorem line_any (x y : Int) (t : Nat) (a b c d : Int) (w : World) (hx : -10000000 ≤ x ∧ x ≤ 10000000) (hy : -10000000 ≤ y ∧ y ≤ 10000000) (ha : -10000000 ≤ a ∧ a ≤ 10000000) (hb : -10000000 ≤ b ∧ b ≤ 10000000) (hc : -10000000 ≤ c ∧ c ≤ 10000000) (hd : -10000000 ≤ d ∧ d ≤ 10000000) (ht : t ≤ 1000) :
    Calls Try.prog 34 #[fmv x y (t : Int), sg4 a b c d] w fun e w' => e = .returned (sg4 (pX x t a b) (pY y t a b) (pX x t c d) (pY y t c d)) ∧ Gr w w' := by
  have H1 := hide (fun w' => point_any x y t a b w' hx hy ha hb ht)
  have H2 := hide (fun w' => point_any x y t c d w' hx hy hc hd ht)
  clear hx hy ha hb hc hd
  generalize pX x t a b = p1 at *
  generalize pY y t a b = p2 at *
  generalize pX x t c d = p3 at *
  generalize pY y t c d = p4 at *
  go_enter Try.func34, Try.ntmps34
  go_wp2_with fail
  refine (H1.out _).mono ?_
  rintro e w1 ⟨rfl, g1⟩
  obtain ⟨X1, Y1, c1, f1⟩ := g1.use
  have z1 := g1.size
  simp only [World.size_alloc] at z1
  have l0 : w.heap.size < w1.heap.size := by omega
  have l1 : w.heap.size + 1 < w1.heap.size := by omega
  have l2 : w.heap.size + 1 + 1 < w1.heap.size := by omega
  go_wp2_with fail
  refine (H2.out _).mono ?_
  rintro e w2 ⟨rfl, g2⟩
  obtain ⟨X2, Y2, c2, f2⟩ := g2.use
  have z2 := g2.size
  have m0 : w.heap.size < w2.heap.size := by omega
  have m1 : w.heap.size + 1 < w2.heap.size := by omega
  have m2 : w.heap.size + 1 + 1 < w2.heap.size := by omega
  go_wp2_with fail
  refine bodyPost_ret (v := sg4 p1 p2 p3 p4) (by simp [results, Try.results34, go_sem, *]) rfl ⟨rfl, ?_⟩
  exact (by repeat (first | with_reducible exact Gr.refl _ | with_reducible assumption | with_reducible refine Gr.alloc ?_ _ | with_reducible refine Gr.drewN ?_ _ | with_reducible refine Gr.drew ?_ | with_reducible refine Gr.setCell ?_ (by first | (dsimp only; omega) | (simp only [World.size_alloc]; omega) | (with_reducible refine Gr.size ?_; (repeat (first | with_reducible exact Gr.refl _ | with_reducible assumption | with_reducible refine Gr.alloc ?_ _ | with_reducible refine Gr.drewN ?_ _ | with_reducible refine Gr.drew ?_ | with_reducible refine Gr.trans ?_ (by with_reducible assumption))); done)) _ | with_reducible refine Gr.trans ?_ (by with_reducible assumption)))
/-- a rectangle laid by a frame -/
def rcM (x y : Int) (t : Nat) (r : Rc) : Rc :=
  ⟨min (pX x t r.x r.y) (pX x t (r.x + r.w) (r.y + r.h)), min (pY y t r.x r.y) (pY y t (r.x + r.w) (r.y + r.h)), max (pX x t r.x r.y) (pX x t (r.x + r.w) (r.y + r.h)) - min (pX x t r.x r.y) (pX x t (r.x + r.w) (r.y + r.h)), max (pY y t r.x r.y) (pY y t (r.x + r.w) (r.y + r.h)) - min (pY y t r.x r.y) (pY y t (r.x + r.w) (r.y + r.h))⟩
set_option maxHeartbeats 2000000 in
set_option maxRecDepth 100000 in
theorem rect_any (x y : Int) (t : Nat) (r : Rc) (w : World) (hx : -10000000 ≤ x ∧ x ≤ 10000000) (hy : -10000000 ≤ y ∧ y ≤ 10000000) (h1 : -10000000 ≤ r.x ∧ r.x ≤ 10000000) (h2 : -10000000 ≤ r.y ∧ r.y ≤ 10000000) (h3 : -10000000 ≤ r.x + r.w ∧ r.x + r.w ≤ 10000000) (h4 : -10000000 ≤ r.y + r.h ∧ r.y + r.h ≤ 10000000) (ht : t ≤ 1000) :
    Calls Try.prog 47 #[fmv x y (t : Int), rcv r] w fun e w' => e = .returned (rcv (rcM x y t r)) ∧ Gr w w' := by
  obtain ⟨⟨b1, b2⟩, b3, b4⟩ := p_bd (t := t) hx hy h1 h2
  obtain ⟨⟨b5, b6⟩, b7, b8⟩ := p_bd (t := t) hx hy h3 h4
  have HL := hide (fun w' => line_any x y t r.x r.y (r.x + r.w) (r.y + r.h) w' hx hy h1 h2 h3 h4 ht)
  have HQ := hide (show rcM x y t r = ⟨min (pX x t r.x r.y) (pX x t (r.x + r.w) (r.y + r.h)), min (pY y t r.x r.y) (pY y t (r.x + r.w) (r.y + r.h)), max (pX x t r.x r.y) (pX x t (r.x + r.w) (r.y + r.h)) - min (pX x t r.x r.y) (pX x t (r.x + r.w) (r.y + r.h)), max (pY y t r.x r.y) (pY y t (r.x + r.w) (r.y + r.h)) - min (pY y t r.x r.y) (pY y t (r.x + r.w) (r.y + r.h))⟩ from rfl)
  have s1 : IntKind.i64.wrap (r.x + r.w) = r.x + r.w := IntWalk.i64_in _ (by omega)
  have s2 : IntKind.i64.wrap (r.y + r.h) = r.y + r.h := IntWalk.i64_in _ (by omega)
  clear hx hy h1 h2 h3 h4
  generalize pX x t r.x r.y = p1 at *
  generalize pY y t r.x r.y = p2 at *
  generalize pX x t (r.x + r.w) (r.y + r.h) = p3 at *
  generalize pY y t (r.x + r.w) (r.y + r.h) = p4 at *
  have HO := hide (fun w' => inOrder_any p1 p2 p3 p4 w')
  have s3 : IntKind.i64.wrap (max p1 p3 - min p1 p3) = max p1 p3 - min p1 p3 := IntWalk.i64_in _ (by omega)
  have s4 : IntKind.i64.wrap (max p2 p4 - min p2 p4) = max p2 p4 - min p2 p4 := IntWalk.i64_in _ (by omega)
  clear b1 b2 b3 b4 b5 b6 b7 b8
  generalize min p1 p3 = q1 at *
  generalize min p2 p4 = q2 at *
  generalize max p1 p3 = q3 at *
  generalize max p2 p4 = q4 at *
  go_enter Try.func47, Try.ntmps47
  go_wp2_with fail
  refine (HL.out _).mono ?_
  rintro e w1 ⟨rfl, g1⟩
  obtain ⟨X1, Y1, c1, f1⟩ := g1.use
  have z1 := g1.size
  simp only [World.size_alloc] at z1
  have l0 : w.heap.size < w1.heap.size := by omega
  have l1 : w.heap.size + 1 < w1.heap.size := by omega
  have l2 : w.heap.size + 1 + 1 < w1.heap.size := by omega
  go_wp2_with fail
  refine (HO.out _).mono ?_
  rintro e w2 ⟨rfl, g2⟩
  obtain ⟨X2, Y2, c2, f2⟩ := g2.use
  have z2 := g2.size
  have m0 : w.heap.size < w2.heap.size := by omega
  have m1 : w.heap.size + 1 < w2.heap.size := by omega
  have m2 : w.heap.size + 1 + 1 < w2.heap.size := by omega
  go_wp2_with fail
  refine bodyPost_ret (v := rcv ⟨q1, q2, q3 - q1, q4 - q2⟩) (by simp [results, Try.results47, go_sem, *]) rfl ⟨by rw [HQ.out], ?_⟩
  exact (by repeat (first | with_reducible exact Gr.refl _ | with_reducible assumption | with_reducible refine Gr.alloc ?_ _ | with_reducible refine Gr.drewN ?_ _ | with_reducible refine Gr.drew ?_ | with_reducible refine Gr.setCell ?_ (by first | (dsimp only; omega) | (simp only [World.size_alloc]; omega) | (with_reducible refine Gr.size ?_; (repeat (first | with_reducible exact Gr.refl _ | with_reducible assumption | with_reducible refine Gr.alloc ?_ _ | with_reducible refine Gr.drewN ?_ _ | with_reducible refine Gr.drew ?_ | with_reducible refine Gr.trans ?_ (by with_reducible assumption))); done)) _ | with_reducible refine Gr.trans ?_ (by with_reducible assumption)))
end RG
end Go.Proofs.Ytjnfodbniohkhaa
