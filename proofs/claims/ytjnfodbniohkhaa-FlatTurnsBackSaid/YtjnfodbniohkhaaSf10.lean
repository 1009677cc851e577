/-
  Surfaces: Surface of the document.
-/
import Derived.Test.YtjnfodbniohkhaaSf9
import Derived.Deep.RegionHeld3
set_option linter.unusedVariables false
set_option linter.unusedSimpArgs false
namespace Go.Proofs.Ytjnfodbniohkhaa
set_option linter.unusedVariables false
set_option linter.unusedSimpArgs false
open Go Go.ChangeShapes Go.WideShapes Go.ChangeAt Go.RowKit Go.Deep

namespace RG
/-- Surface of the code and of the document return this -/
def sfV2 (F : Pat) : Int := if chE F = 0 then srfV 1048576 F.r F.c else 0
/-- MakeGrid at these lists, from here on -/
structure Grd (w0 : World) (D : Option Addr) (n q : Nat) (A : Option Addr) (m c : Nat) (X Y : List Int) (C : Nat → Nat → Bool) : Prop where
  use : ∀ w', Gr w0 w' → Calls Try.prog 28 #[.slice D n q, .slice A m c] w' (NewO2 w' X Y C)
theorem grid_at {w0 : World} {D : Option Addr} {n q : Nat} {A : Option Addr} {m c : Nat} {X Y : List Int} {C : Nat → Nat → Bool} (h : Grd w0 D n q A m c X Y C) (w' : World) (g : Gr w0 w') : Calls Try.prog 28 #[.slice D n q, .slice A m c] w' (NewO2 w' X Y C) := h.use w' g
/-- two grids side by side, the first one the call's own; their headers at B1 and B2 -/
structure Two (w0 wx : World) (X Y : List Int) (C1 C2 : Nat → Nat → Bool) (B1 B2 : Nat) (P1 P2 P3 : Option Addr) (p1 p2 p3 : Nat) (R : Nat → Option Addr) (q : Nat → Nat) (Q1 Q2 Q3 : Option Addr) (q1 q2 q3 : Nat) (R' : Nat → Option Addr) (q' : Nat → Nat) : Prop where
  g1 : GrO wx X Y P1 P2 P3 p1 p2 p3 (X.length - 1) R q C1
  o1 : 0 < Y.length - 1 → Ow wx P1 P2 P3 X Y (X.length - 1) R
  g2 : GrO wx X Y Q1 Q2 Q3 q1 q2 q3 (X.length - 1) R' q' C2
  f2 : Fr Q1 Q2 Q3 X Y (X.length - 1) R' (fun b => ∀ i, i < X.length - 1 → 0 < Y.length - 1 → ∀ a, R i = some a → b ≠ a.block)
  far : ∀ i, i < X.length - 1 → 0 < Y.length - 1 → ∀ a, R i = some a → w0.heap.size ≤ a.block ∧ a.block ≠ B1 ∧ a.block ≠ B2
  gr : Gr w0 wx
  l1 : B1 < wx.heap.size
  l2 : B2 < wx.heap.size
  h0 : wx.cell? ⟨B1, 0, none⟩ = some (.slice P1 X.length p1)
  h1 : wx.cell? ⟨B1, 1, none⟩ = some (.slice P2 Y.length p2)
  h2 : wx.cell? ⟨B1, 2, none⟩ = some (.slice P3 (X.length - 1) p3)
  k2 : wx.cell? ⟨B2, 2, none⟩ = some (.slice Q3 (X.length - 1) q3)
/-- the blocks from lo to hi are as they were -/
structure Kp (lo hi : Nat) (w w' : World) : Prop where
  cell : ∀ b o, lo ≤ b → b < hi → w'.cell? ⟨b, o, none⟩ = w.cell? ⟨b, o, none⟩
  fz : ∀ b o, lo ≤ b → b < hi → w'.frozen? ⟨b, o, none⟩ = w.frozen? ⟨b, o, none⟩
theorem Kp.refl {lo hi : Nat} (w : World) : Kp lo hi w w := ⟨fun _ _ _ _ => rfl, fun _ _ _ _ => rfl⟩
theorem Kp.gr {lo hi : Nat} {w w' w'' : World} (h : Kp lo hi w w') (g : Gr w' w'') (hs : hi ≤ w'.heap.size) : Kp lo hi w w'' :=
  ⟨fun b o h1 h2 => (g.cell _ _ (by omega)).trans (h.cell b o h1 h2), fun b o h1 h2 => (g.frozen _ _ (by omega)).trans (h.fz b o h1 h2)⟩
theorem Kp.alloc {lo hi : Nat} {w w' : World} (h : Kp lo hi w w') (hs : hi ≤ w'.heap.size) (x : Obj) : Kp lo hi w (w'.alloc x) := h.gr (Gr.alloc (Gr.refl _) _) hs
theorem Kp.drew {lo hi : Nat} {w w' : World} (h : Kp lo hi w w') : Kp lo hi w w'.drew := ⟨fun b o h1 h2 => by simp [go_sem, h.cell b o h1 h2], fun b o h1 h2 => by simp [go_sem, h.fz b o h1 h2]⟩
theorem Kp.setCell {lo hi B i : Nat} {w w' : World} (h : Kp lo hi w w') (hs : B < lo ∨ hi ≤ B) (v : Value) : Kp lo hi w (w'.setCell ⟨B, i, none⟩ v) := by
  refine ⟨fun b o h1 h2 => ?_, fun b o h1 h2 => ?_⟩
  · exact (World.cell?_of_block (heap_setCell_other w' ⟨B, i, none⟩ b v (fun e => by simp at e; omega))).trans (h.cell b o h1 h2)
  · have : b ≠ B := by omega
    simp [go_sem, h.fz b o h1 h2, this]
theorem Fr.and {A B F : Option Addr} {X Y : List Int} {n : Nat} {R : Nat → Option Addr} {Q Q' : Nat → Prop} (h : Fr A B F X Y n R Q) (k : Fr A B F X Y n R Q') : Fr A B F X Y n R (fun b => Q b ∧ Q' b) :=
  ⟨fun hX x hx => ⟨h.1 hX x hx, k.1 hX x hx⟩, fun hY x hx => ⟨h.2.1 hY x hx, k.2.1 hY x hx⟩, fun hn x hx => ⟨h.2.2.1 hn x hx, k.2.2.1 hn x hx⟩, fun i hi hy a ha => ⟨h.2.2.2 i hi hy a ha, k.2.2.2 i hi hy a ha⟩⟩
theorem two_of {w0 wa wa' wb wb' wx : World} {X Y : List Int} {C1 C2 : Nat → Nat → Bool} {B1 B2 : Nat} {P1 P2 P3 : Option Addr} {p1 p2 p3 : Nat} {R : Nat → Option Addr} {q : Nat → Nat} {Q1 Q2 Q3 : Option Addr} {q1 q2 q3 : Nat} {R' : Nat → Option Addr} {q' : Nat → Nat}
    (GA : GrO wa' X Y P1 P2 P3 p1 p2 p3 (X.length - 1) R q C1) (OA : Ow wa' P1 P2 P3 X Y (X.length - 1) R) (FA : Fr P1 P2 P3 X Y (X.length - 1) R (wa.heap.size ≤ ·))
    (GB : GrO wb' X Y Q1 Q2 Q3 q1 q2 q3 (X.length - 1) R' q' C2) (FB : Fr Q1 Q2 Q3 X Y (X.length - 1) R' (wb.heap.size ≤ ·)) (ka : Kp wa.heap.size wa'.heap.size wa' wx) (kb : Kp wb.heap.size wb'.heap.size wb' wx)
    (hord : wa'.heap.size ≤ wb.heap.size ∨ wb'.heap.size ≤ wa.heap.size) (h0 : w0.heap.size ≤ wa.heap.size) (hB1 : B1 < wa.heap.size ∨ wa'.heap.size ≤ B1) (hB2 : B2 < wa.heap.size ∨ wa'.heap.size ≤ B2) (g0 : Gr w0 wx)
    (c0 : wx.cell? ⟨B1, 0, none⟩ = some (.slice P1 X.length p1)) (c1 : wx.cell? ⟨B1, 1, none⟩ = some (.slice P2 Y.length p2)) (c2 : wx.cell? ⟨B1, 2, none⟩ = some (.slice P3 (X.length - 1) p3)) (d2 : wx.cell? ⟨B2, 2, none⟩ = some (.slice Q3 (X.length - 1) q3)) :
    Two w0 wx X Y C1 C2 B1 B2 P1 P2 P3 p1 p2 p3 R q Q1 Q2 Q3 q1 q2 q3 R' q' := by
  have rl : ∀ i, i < X.length - 1 → 0 < Y.length - 1 → ∀ a, R i = some a → wa.heap.size ≤ a.block ∧ a.block < wa'.heap.size := fun i hi hy a ha => ⟨FA.2.2.2 i hi hy a ha, GA.fr_lt.2.2.2 i hi hy a ha⟩
  refine ⟨GA.keep (FA.and GA.fr_lt) fun b o hb => ka.cell b o hb.1 hb.2, fun hy i hi a ha => ?_, GB.keep (FB.and GB.fr_lt) fun b o hb => kb.cell b o hb.1 hb.2, ?_, fun i hi hy a ha => ?_, g0, cell_lt (by rw [c0]; rfl), cell_lt (by rw [d2]; rfl), c0, c1, c2, d2⟩
  · obtain ⟨o1, o2⟩ := OA i hi a ha
    refine ⟨fun o => ?_, o2⟩
    exact (ka.fz _ _ (rl i hi hy a ha).1 (rl i hi hy a ha).2).trans (o1 o)
  · rcases hord with h | h
    · exact FB.mono fun b hb i hi hy a ha e => by have := rl i hi hy a ha; omega
    · exact GB.fr_lt.mono fun b hb i hi hy a ha e => by have := rl i hi hy a ha; omega
  · have := rl i hi hy a ha
    exact ⟨by omega, by omega, by omega⟩
theorem Two.congr {w0 wx : World} {X Y : List Int} {c d C2 : Nat → Nat → Bool} {B1 B2 : Nat} {P1 P2 P3 : Option Addr} {p1 p2 p3 : Nat} {R : Nat → Option Addr} {q : Nat → Nat} {Q1 Q2 Q3 : Option Addr} {q1 q2 q3 : Nat} {R' : Nat → Option Addr} {q' : Nat → Nat}
    (h : Two w0 wx X Y c C2 B1 B2 P1 P2 P3 p1 p2 p3 R q Q1 Q2 Q3 q1 q2 q3 R' q') (e : ∀ i j, i < X.length - 1 → j < Y.length - 1 → c i j = d i j) : Two w0 wx X Y d C2 B1 B2 P1 P2 P3 p1 p2 p3 R q Q1 Q2 Q3 q1 q2 q3 R' q' :=
  ⟨h.g1.congr e, h.o1, h.g2, h.f2, h.far, h.gr, h.l1, h.l2, h.h0, h.h1, h.h2, h.k2⟩
theorem Two.store {w0 wx : World} {X Y : List Int} {c C2 : Nat → Nat → Bool} {B1 B2 : Nat} {P1 P2 P3 : Option Addr} {p1 p2 p3 : Nat} {R : Nat → Option Addr} {q : Nat → Nat} {Q1 Q2 Q3 : Option Addr} {q1 q2 q3 : Nat} {R' : Nat → Option Addr} {q' : Nat → Nat}
    (h : Two w0 wx X Y c C2 B1 B2 P1 P2 P3 p1 p2 p3 R q Q1 Q2 Q3 q1 q2 q3 R' q') {i j bR oR : Nat} (hi : i < X.length - 1) (hj : j < Y.length - 1) (hR : R i = some ⟨bR, oR, none⟩) :
    Two w0 (wx.setCell ⟨bR, oR + j, none⟩ (.bool false)) X Y (setB c i j false) C2 B1 B2 P1 P2 P3 p1 p2 p3 R q Q1 Q2 Q3 q1 q2 q3 R' q' := by
  have oth : ∀ b o, b ≠ bR → (wx.setCell ⟨bR, oR + j, none⟩ (.bool false)).cell? ⟨b, o, none⟩ = wx.cell? ⟨b, o, none⟩ := fun b o hb => World.cell?_of_block (heap_setCell_other wx ⟨bR, oR + j, none⟩ b (.bool false) (fun e => hb (by simpa using e)))
  have hy : 0 < Y.length - 1 := by omega
  obtain ⟨s1, s2⟩ := h.g1.store (h.o1 hy) hi hj hR false
  obtain ⟨f1, f2, f3⟩ := h.far i hi hy _ hR
  refine ⟨s1, fun _ => s2, h.g2.keep h.f2 fun b o hb => oth b o (hb i hi hy _ hR), h.f2, h.far, Gr.setCell (p := ⟨bR, oR + j, none⟩) h.gr (show w0.heap.size ≤ bR from f1) _, by simpa using h.l1, by simpa using h.l2, (oth _ _ (Ne.symm f2)).trans h.h0, (oth _ _ (Ne.symm f2)).trans h.h1, (oth _ _ (Ne.symm f2)).trans h.h2, (oth _ _ (Ne.symm f3)).trans h.k2⟩
set_option maxHeartbeats 16000000 in
set_option maxRecDepth 100000 in
theorem rSurface_any (A1 A2 A3 A4 : Option Addr) (c1 c2 c3 c4 : Nat) (F : Pat) (w : World) (hF : PatW w A1 c1 A2 c2 A3 c3 A4 c4 F) :
    Calls Try.prog 12 #[ptv A1 F.r.length c1 A2 F.c.length c2 A3 F.f.length c3 A4 F.b.length c4] w fun e w' => e = .returned (sle (iv (sfV2 F)) (chE F)) ∧ Gr w w' := by
  have HC := hide (fun (w' : World) (g : Gr w w') => Whole_any A1 A2 A3 A4 c1 c2 c3 c4 F w' (hF.gr g))
  have HF := hide hF
  have g0 : Gr w (w.alloc (.cells #[.slice A1 F.r.length c1, .slice A2 F.c.length c2, .slice A3 F.f.length c3, .slice A4 F.b.length c4] 25)) := Gr.alloc (Gr.refl _) _
  rcases ch_01 F with h0 | h0
  case inr =>
    have HV := hide (show sfV2 F = 0 from if_neg (by rw [h0]; decide))
    have HE := hide h0
    rw [h0, show ((1 : Int) == 0) = false from rfl] at HC
    clear h0 hF
    go_enter Try.func12, Try.ntmps12
    go_wp2_with fail
    refine (HC.out _ g0).mono ?_
    rintro e w1 ⟨rfl, g1⟩
    go_wp2_with fail
    go_ret2
    exact ⟨by rw [HV.out, HE.out]; rfl, g0.trans g1⟩
  case inl =>
    have HV := hide (show sfV2 F = srfV 1048576 F.r F.c from if_pos h0)
    have HE := hide h0
    obtain ⟨⟨l1, l2⟩, l3, l4, l5⟩ := ch_yes h0
    obtain ⟨i1, i2, i3, i4⟩ := lm_in l5
    rw [h0, show ((0 : Int) == 0) = true from rfl] at HC
    obtain ⟨all, hall⟩ : ∃ all, F.r ++ F.c = all := ⟨_, rfl⟩
    have hia : ∀ r ∈ all, InM 1048576 r := fun r hr => by
      rw [← hall] at hr
      rcases List.mem_append.1 hr with h | h
      · exact i1 r h
      · exact i2 r h
    have hal : all.length ≤ 100 := by rw [← hall, List.length_append]; omega
    have HSG := hide (fun (c : Nat → Nat → Bool) (hc : ∀ i j, c i j = (cel (lnX all) (lnY all) F.r i j && !cel (lnX all) (lnY all) F.c i j)) => by
      have := srf_grid (a := F.r) (b := F.c) i1 i2 (c := c) (by rw [hall]; exact hc)
      rw [hall] at this
      exact this)
    have HBO := hide (fun (w' : World) (g : Gr w w') => by
      have := both_any A1 c1 F.r A2 c2 F.c w' (hF.r.gr g) (hF.c.gr g) (by omega) (by omega)
      rw [hall] at this
      exact this)
    have HG1 := hide (fun (D : Option Addr) (q : Nat) (w' : World) (h : SlR w' D q all) (g : Gr w w') => makeGrid2_any D q all A1 c1 F.r w' h (hF.r.gr g) hia i1 hal)
    have HG2 := hide (fun (D : Option Addr) (q : Nat) (w' : World) (h : SlR w' D q all) (g : Gr w w') => makeGrid2_any D q all A2 c2 F.c w' h (hF.c.gr g) hia i2 hal)
    obtain ⟨C1, hC1⟩ : ∃ C, cel (lnX all) (lnY all) F.r = C := ⟨_, rfl⟩
    obtain ⟨C2, hC2⟩ : ∃ C, cel (lnX all) (lnY all) F.c = C := ⟨_, rfl⟩
    rw [hC1] at HG1 HSG
    rw [hC2] at HG2 HSG
    clear h0 l1 l2 l3 l4 l5 i1 i2 i3 i4 hia hal hall hF hC1 hC2
    generalize lnX all = X at *
    generalize lnY all = Y at *
    go_enter Try.func12, Try.ntmps12
    go_wp2_with fail
    refine (HC.out _ g0).mono ?_
    rintro e w1 ⟨rfl, g1⟩
    obtain ⟨s1, b0, b1, b2, b3⟩ := box4 g1
    have gw1 := g0.trans g1
    clear HC
    go_wp2_with fail
    refine (HBO.out _ gw1).mono ?_
    rintro e w2 ⟨D, q, rfl, hD, g2⟩
    have HD := hide hD
    have gw2 := gw1.trans g2
    have e0 : w2.cell? ⟨w.heap.size, 0, none⟩ = some (.slice A1 F.r.length c1) := (g2.cell _ _ s1).trans b0
    have e1 : w2.cell? ⟨w.heap.size, 1, none⟩ = some (.slice A2 F.c.length c2) := (g2.cell _ _ s1).trans b1
    have s2 : w.heap.size < w2.heap.size := Nat.lt_of_lt_of_le s1 g2.size
    have HG1' := hide (fun (w' : World) (g : Gr w2 w') => HG1.out D q w' (HD.out.gr g) (gw2.trans g))
    have HG2' := hide (fun (w' : World) (g : Gr w2 w') => HG2.out D q w' (HD.out.gr g) (gw2.trans g))
    clear hD b0 b1 b2 b3 s1 HBO HG1 HG2
    have hG1 : Grd w2 D all.length q A1 F.r.length c1 X Y C1 := ⟨fun w' g => HG1'.out w' g⟩
    have hG2 : Grd w2 D all.length q A2 F.c.length c2 X Y C2 := ⟨fun w' g => HG2'.out w' g⟩
    clear HG1' HG2'
    go_upto_region 4 with fail
    go_cut [5, 6] from 9 to 24 (fun v5 v6 wx => ∃ (B1 B2 : Nat) (P1 P2 P3 : Option Addr) (p1 p2 p3 : Nat) (R : Nat → Option Addr) (q : Nat → Nat) (Q1 Q2 Q3 : Option Addr) (q1 q2 q3 : Nat) (R' : Nat → Option Addr) (q' : Nat → Nat), v5 = .pointer (some ⟨B1, 0, none⟩) ∧ v6 = .pointer (some ⟨B2, 0, none⟩) ∧ Two w2 wx X Y C1 C2 B1 B2 P1 P2 P3 p1 p2 p3 R q Q1 Q2 Q3 q1 q2 q3 R' q')
    case first =>
      go_region_held3 (fun w' => Gr (w2) w' ∧ ∀ ii oo, ii < (w2).heap.size → w'.cell? ⟨ii, oo, none⟩ = (w2).cell? ⟨ii, oo, none⟩) ((refine And.intro ?_ (Gr.cell ?_) <;> ((repeat (first | with_reducible exact Gr.refl _ | with_reducible assumption | with_reducible refine Gr.alloc ?_ _ | with_reducible refine Gr.drewN ?_ _ | with_reducible refine Gr.drew ?_ | with_reducible refine Gr.setCell ?_ (by first | (dsimp only; omega) | (simp only [World.size_alloc]; omega) | (with_reducible refine Gr.size ?_; (repeat (first | with_reducible exact Gr.refl _ | with_reducible assumption | with_reducible refine Gr.alloc ?_ _ | with_reducible refine Gr.drewN ?_ _ | with_reducible refine Gr.drew ?_ | with_reducible refine Gr.trans ?_ (by with_reducible assumption))); done)) _ | with_reducible refine Gr.trans ?_ (by with_reducible assumption))); done))) (first | (go_at_call 28; refine (grid_at (by with_reducible assumption) _ (by repeat (first | with_reducible exact Gr.refl _ | with_reducible assumption | with_reducible refine Gr.alloc ?_ _ | with_reducible refine Gr.drewN ?_ _ | with_reducible refine Gr.drew ?_ | with_reducible refine Gr.setCell ?_ (by first | (dsimp only; omega) | (simp only [World.size_alloc]; omega) | (with_reducible refine Gr.size ?_; (repeat (first | with_reducible exact Gr.refl _ | with_reducible assumption | with_reducible refine Gr.alloc ?_ _ | with_reducible refine Gr.drewN ?_ _ | with_reducible refine Gr.drew ?_ | with_reducible refine Gr.trans ?_ (by with_reducible assumption))); done)) _ | with_reducible refine Gr.trans ?_ (by with_reducible assumption)))).mono ?_; rintro e w6 ⟨P1, P2, P3, p1, p2, p3, R5, q5, rfl, hg5, ho5, hf5, g5⟩; obtain ⟨X5, Y5, c5, f5⟩ := g5.use; (have gk : Gr w2 w6 := Gr.trans (by repeat (first | with_reducible exact Gr.refl _ | with_reducible assumption | with_reducible refine Gr.alloc ?_ _ | with_reducible refine Gr.drewN ?_ _ | with_reducible refine Gr.drew ?_ | with_reducible refine Gr.setCell ?_ (by first | (dsimp only; omega) | (simp only [World.size_alloc]; omega) | (with_reducible refine Gr.size ?_; (repeat (first | with_reducible exact Gr.refl _ | with_reducible assumption | with_reducible refine Gr.alloc ?_ _ | with_reducible refine Gr.drewN ?_ _ | with_reducible refine Gr.drew ?_ | with_reducible refine Gr.trans ?_ (by with_reducible assumption))); done)) _ | with_reducible refine Gr.trans ?_ (by with_reducible assumption))) g5); obtain ⟨w5, rfl⟩ : ∃ w5, w5 = w6 := ⟨_, rfl⟩; (have z5 := g5.size); (try simp only [World.size_alloc, World.size_setCell, World.size_drew, World.heap_drewN, Nat.add_one_le_iff] at z5); (try have l9 : w.heap.size < w5.heap.size := by omega); (try have l0 : w2.heap.size < w5.heap.size := by omega); (try have l1 : w2.heap.size + 1 < w5.heap.size := by omega)))
      all_goals
        go_wp2_with fail
        go_meet
        refine ⟨_, _, _, _, _, _, _, _, _, _, _, _, _, _, _, _, _, _, rfl, rfl, two_of (by with_reducible assumption) (by with_reducible assumption) (by with_reducible assumption) (by with_reducible assumption) (by with_reducible assumption) ?_ ?_ ?_ ?_ ?_ ?_ ?_ ?_ ?_ ?_ ?_⟩
        · (repeat (first | with_reducible exact Kp.refl _ | with_reducible refine Kp.alloc ?_ (by (first | omega | (simp only [World.size_alloc, World.size_setCell, World.size_drew, World.heap_drewN]; omega))) _ | with_reducible refine Kp.drew ?_ | with_reducible refine Kp.setCell ?_ (by (first | omega | (simp only [World.size_alloc, World.size_setCell, World.size_drew, World.heap_drewN]; omega))) _ | with_reducible refine Kp.gr ?_ g5 (by (first | omega | (simp only [World.size_alloc, World.size_setCell, World.size_drew, World.heap_drewN]; omega)))))
        · (repeat (first | with_reducible exact Kp.refl _ | with_reducible refine Kp.alloc ?_ (by (first | omega | (simp only [World.size_alloc, World.size_setCell, World.size_drew, World.heap_drewN]; omega))) _ | with_reducible refine Kp.drew ?_ | with_reducible refine Kp.setCell ?_ (by (first | omega | (simp only [World.size_alloc, World.size_setCell, World.size_drew, World.heap_drewN]; omega))) _ | with_reducible refine Kp.gr ?_ g5 (by (first | omega | (simp only [World.size_alloc, World.size_setCell, World.size_drew, World.heap_drewN]; omega)))))
        · (first | omega | (simp only [World.size_alloc, World.size_setCell, World.size_drew, World.heap_drewN]; omega))
        · (first | omega | (simp only [World.size_alloc, World.size_setCell, World.size_drew, World.heap_drewN]; omega))
        · (first | omega | (simp only [World.size_alloc, World.size_setCell, World.size_drew, World.heap_drewN]; omega))
        · (first | omega | (simp only [World.size_alloc, World.size_setCell, World.size_drew, World.heap_drewN]; omega))
        · (repeat (first | with_reducible exact Gr.refl _ | with_reducible assumption | with_reducible refine Gr.alloc ?_ _ | with_reducible refine Gr.setCell ?_ (by first | (dsimp only; omega) | (simp only [World.size_alloc, World.size_setCell]; omega)) _ | with_reducible refine Gr.drew ?_))
        · first | (go_simp; done) | (simp [go_sem, *]; done)
        · first | (go_simp; done) | (simp [go_sem, *]; done)
        · first | (go_simp; done) | (simp [go_sem, *]; done)
        · first | (go_simp; done) | (simp [go_sem, *]; done)
    case rest =>
      obtain ⟨B1, B2, P1, P2, P3, p1, p2, p3, R, q, Q1, Q2, Q3, q1, q2, q3, R', q', rfl, rfl, hT⟩ := hcut
      have nX : X.length ≤ 1000 := hT.g1.n1
      have nY : Y.length ≤ 1000 := hT.g1.n2
      have cf1 := hT.g1.cf
      have cf2 := hT.g1.cfB
      have cf3 := hT.g2.cf
      have cf4 := hT.g2.cfB
      have HQ1 := hide hT.g1.cq
      have HQ2 := hide hT.g2.cq
      have HT0 := hide (hT.congr fun i j _ _ => (mkD_zero C1 C2 i j).symm)
      clear hT e0 e1 hG1 hG2
      go_wp2_with fail
      go_loopw [7] (fun i wr => ∃ k : Nat, k ≤ X.length - 1 ∧ i = iv k ∧ Hid (Two w2 wr X Y (mkD C1 C2 k 0) C2 B1 B2 P1 P2 P3 p1 p2 p3 R q Q1 Q2 Q3 q1 q2 q3 R' q')) (fun i _ => X.length - 1 - (intOf i).toNat)
      case atStart => exact ⟨0, by omega, rfl, HT0.out⟩
      case round =>
        obtain ⟨k, hk, rfl, HT⟩ := hrel
        have t2 := HT.out.h2
        have tl := HT.out.l1
        have s3 : IntKind.i64.wrap ((k : Int) + 1) = (k : Int) + 1 := IntWalk.i64_in _ (by omega)
        by_cases hkl : k < X.length - 1
        · have hk0 : (0 : Int) ≤ (k : Int) := by omega
          have hk1 : (k : Int) < ((X.length - 1 : Nat) : Int) := by omega
          obtain ⟨c1', c2'⟩ := HQ1.out k hkl
          obtain ⟨c3', c4'⟩ := HQ2.out k hkl
          go_wp2
          obtain ⟨wo, rfl⟩ : ∃ wo : World, wo = wr := ⟨_, rfl⟩
          clear t2 tl
          go_loopw [8] (fun i wr => ∃ j : Nat, j ≤ Y.length - 1 ∧ i = iv j ∧ Hid (Two w2 wr X Y (mkD C1 C2 k j) C2 B1 B2 P1 P2 P3 p1 p2 p3 R q Q1 Q2 Q3 q1 q2 q3 R' q')) (fun i _ => Y.length - 1 - (intOf i).toNat)
          case atStart => exact ⟨0, by omega, rfl, HT⟩
          case round =>
            clear HT
            obtain ⟨j, hj, rfl, HT⟩ := hrel
            have t2 := HT.out.h2
            have tl := HT.out.l1
            have k2 := HT.out.k2
            have tl2 := HT.out.l2
            obtain ⟨bF, hF, r1⟩ := HT.out.g1.rows k hkl
            have hbF : bF < wr.heap.size := cell_lt (by rw [r1]; rfl)
            have s4 : IntKind.i64.wrap ((j : Int) + 1) = (j : Int) + 1 := IntWalk.i64_in _ (by omega)
            rw [hF] at t2
            by_cases hjl : j < Y.length - 1
            · obtain ⟨bF', hF', r2⟩ := HT.out.g2.rows k hkl
              obtain ⟨bR, oR, hR, v1⟩ := HT.out.g1.col k j hkl hjl
              obtain ⟨bR', oR', hR', v2⟩ := HT.out.g2.col k j hkl hjl
              have hbF' : bF' < wr.heap.size := cell_lt (by rw [r2]; rfl)
              have hbR : bR < wr.heap.size := cell_lt (by rw [v1]; rfl)
              have hbR' : bR' < wr.heap.size := cell_lt (by rw [v2]; rfl)
              have hfz := (HT.out.o1 (by omega) k hkl _ hR).1 (oR + j)
              rw [hF'] at k2
              rw [hR] at r1
              rw [hR'] at r2
              have hj0 : (0 : Int) ≤ (j : Int) := by omega
              have hj1 : (j : Int) < ((Y.length - 1 : Nat) : Int) := by omega
              have HR := hide hR
              clear hF hF' hR hR'
              cases hc : C2 k j with
              | false =>
                have HT2 := hide (HT.out.congr fun a b _ _ => mkD_no C1 C2 k j a b hc)
                rw [hc] at v2
                clear hc HT hfz
                go_wp2
                go_roundw
                case rel => exact ⟨j + 1, by omega, by go_num, HT2.out⟩
                case measure => simp only [intOf]; omega
              | true =>
                have HT2 := hide ((HT.out.store hkl hjl HR.out).congr fun a b _ _ => mkD_yes C1 C2 k j a b hc)
                rw [hc] at v2
                clear hc HT
                go_wp2
                go_roundw
                case rel => exact ⟨j + 1, by omega, by go_num, HT2.out⟩
                case measure => simp only [intOf]; omega
            · obtain rfl : j = Y.length - 1 := by omega
              have HT2 := hide (HT.out.congr fun a b _ hb => mkD_row C1 C2 k (Y.length - 1) hb)
              clear HT
              go_wp2
              go_roundw
              case rel => exact ⟨k + 1, by omega, by go_num, HT2.out⟩
              case measure => simp only [intOf]; omega
        · obtain rfl : k = X.length - 1 := by omega
          have t0 := HT.out.h0
          have t1 := HT.out.h1
          have hgr := HT.out.gr
          have HSZ := hide (size_any X Y P1 P2 P3 p1 p2 p3 (X.length - 1) R q (fun i j => C1 i j && !C2 i j) wr (HT.out.g1.congr fun i j hi _ => mkD_all C1 C2 hi))
          rw [HSG.out _ (fun _ _ => rfl)] at HSZ
          clear HT HSG
          go_wp2_with fail
          refine HSZ.out.mono ?_
          rintro e w6 ⟨rfl, g6⟩
          go_wp2_with fail
          go_ret2
          exact ⟨by rw [HV.out, HE.out]; rfl, (gw2.trans hgr).trans g6⟩
end RG
end Go.Proofs.Ytjnfodbniohkhaa
