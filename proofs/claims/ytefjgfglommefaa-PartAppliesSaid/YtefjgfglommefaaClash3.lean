/-
  boxOf: the intervals of a sound face.
-/
import Derived.Test.YtefjgfglommefaaClash2
import Derived.Deep.RegionHeld3
namespace Go.Proofs.Ytefjgfglommefaa
set_option linter.unusedVariables false
set_option linter.unusedSimpArgs false
open Go Go.ChangeShapes Go.WideShapes Go.ChangeAt Go.RowKit Go.Deep

theorem axK_range (x y z : Int) : 0 ≤ axK x y z ∧ axK x y z ≤ 2 := by unfold axK axI; grind
theorem axK_eq {x y z : Int} (h : axB x y z = true) : axK x y z = axI x y z := by
  unfold axB at h
  unfold axK
  simp at h
  rw [if_neg (by omega)]
/-- the number of the far corner -/
abbrev fx (f : Fc) : Int := po f.ox f.w f.ux f.h f.vx
abbrev fy (f : Fc) : Int := po f.oy f.w f.uy f.h f.vy
abbrev fz (f : Fc) : Int := po f.oz f.w f.uz f.h f.vz
def lw (k i o e : Int) : Int := if i < k then (if e < o then e else o) else 0
def hw (k i o e : Int) : Int := if i < k then (if o < e then e else o) else 0
/-- the box of a sound face -/
def bxV (f : Fc) : Value := .agg #[iv (lw 3 0 f.ox (fx f)), iv (lw 3 1 f.oy (fy f)), iv (lw 3 2 f.oz (fz f)), iv (hw 3 0 f.ox (fx f)), iv (hw 3 1 f.oy (fy f)), iv (hw 3 2 f.oz (fz f)), iv (3 - axK f.ux f.uy f.uz - axK f.vx f.vy f.vz)]
/-- the box at block B behind k axes -/
def BX (w : World) (B : Nat) (f : Fc) (n k : Int) : Prop :=
  (w.cell? ⟨B, 0, none⟩ = some (iv (lw k 0 f.ox (fx f))) ∧ w.cell? ⟨B, 1, none⟩ = some (iv (lw k 1 f.oy (fy f))) ∧ w.cell? ⟨B, 2, none⟩ = some (iv (lw k 2 f.oz (fz f)))) ∧
  (w.cell? ⟨B, 3, none⟩ = some (iv (hw k 0 f.ox (fx f))) ∧ w.cell? ⟨B, 4, none⟩ = some (iv (hw k 1 f.oy (fy f))) ∧ w.cell? ⟨B, 5, none⟩ = some (iv (hw k 2 f.oz (fz f)))) ∧
  w.cell? ⟨B, 6, none⟩ = some (iv n) ∧ (w.frozen? ⟨B, 0, none⟩ = false ∧ w.frozen? ⟨B, 1, none⟩ = false ∧ w.frozen? ⟨B, 2, none⟩ = false) ∧ w.frozen? ⟨B, 3, none⟩ = false ∧ w.frozen? ⟨B, 4, none⟩ = false ∧ w.frozen? ⟨B, 5, none⟩ = false
/-- three numbers at block B -/
def TX (w : World) (B : Nat) (x y z : Int) : Prop := w.cell? ⟨B, 0, none⟩ = some (iv x) ∧ w.cell? ⟨B, 1, none⟩ = some (iv y) ∧ w.cell? ⟨B, 2, none⟩ = some (iv z)
set_option maxRecDepth 100000 in
set_option maxHeartbeats 4000000 in
theorem boxOf_yes (f : Fc) (w : World) (hs : soB f = true) :
    Calls Try.prog 63 #[fv f] w fun e w' => e = .returned (.tuple #[bxV f, .bool true]) ∧ Gr w w' := by
  obtain ⟨k1, k2⟩ := axK_range f.ux f.uy f.uz
  obtain ⟨k3, k4⟩ := axK_range f.vx f.vy f.vz
  simp only [soB, Bool.and_eq_true, Bool.not_eq_true', decide_eq_false_iff_not] at hs
  obtain ⟨⟨⟨⟨⟨s1, s2⟩, s3⟩, s4⟩, s5⟩, s6⟩ := hs
  have s3' : ((axK f.ux f.uy f.uz) == (axK f.vx f.vy f.vz)) = false := by rw [axK_eq s1, axK_eq s2, beq_eq_false_iff_ne]; exact s3
  clear s3
  have CC := fun w => corn_any f w
  unfold cornV at CC
  have HC := hide CC
  clear CC
  go_enter Try.func63, Try.ntmps63
  go_upto_region 5 with (first | (go_at_call 90; refine (axisOf_any _ _ _ _).mono ?_; rintro e w1 ⟨rfl, g1⟩; obtain ⟨X1, Y1, c1, f1⟩ := g1.use) | (go_at_call 52; refine (pwithin_any _ _ _ _).mono ?_; rintro e w1 ⟨rfl, rfl⟩) | (go_at_call 91; refine (origin_any _ _ _ _).mono ?_; rintro e w1 ⟨rfl, g1⟩; obtain ⟨X1, Y1, c1, f1⟩ := g1.use))
  have g01 : Gr ((w.alloc (.cells #[iv f.ox, iv f.oy, iv f.oz, iv f.ux, iv f.uy, iv f.uz, iv f.vx, iv f.vy, iv f.vz, iv f.w, iv f.h] 44)).alloc (.cells #[iv 0, iv 0, iv 0, iv 0, iv 0, iv 0, iv 0] 80)) w1 := (by repeat (first | with_reducible exact Gr.refl _ | with_reducible assumption | with_reducible refine Gr.alloc ?_ _ | with_reducible refine Gr.drewN ?_ _ | with_reducible refine Gr.drew ?_ | with_reducible refine Gr.setCell ?_ (by first | (dsimp only; omega) | (simp only [World.size_alloc]; omega) | (with_reducible refine Gr.size ?_; (repeat (first | with_reducible exact Gr.refl _ | with_reducible assumption | with_reducible refine Gr.alloc ?_ _ | with_reducible refine Gr.drewN ?_ _ | with_reducible refine Gr.drew ?_ | with_reducible refine Gr.trans ?_ (by with_reducible assumption))); done)) _ | with_reducible refine Gr.trans ?_ (by with_reducible assumption)))
  clear c1 f1
  obtain ⟨Z1, Z2, c1, f1⟩ := g01.use
  have z1 : w.heap.size + 1 < w1.heap.size := by have := g01.size; simp only [World.size_alloc] at this; omega
  have z0 : w.heap.size < w1.heap.size := by omega
  obtain ⟨wA, rfl⟩ : ∃ wA, wA = w1 := ⟨_, rfl⟩
  go_upto_region 7 with (go_at_call 92; refine (HC.out _).mono ?_; rintro e w1 ⟨rfl, g1⟩; obtain ⟨X1, Y1, c1, f1⟩ := g1.use)
  have gB2 : Gr ((w.alloc (.cells #[iv f.ox, iv f.oy, iv f.oz, iv f.ux, iv f.uy, iv f.uz, iv f.vx, iv f.vy, iv f.vz, iv f.w, iv f.h] 44)).alloc (.cells #[iv 0, iv 0, iv 0, iv 0, iv 0, iv 0, iv 0] 80)) w1 := (by repeat (first | with_reducible exact Gr.refl _ | with_reducible assumption | with_reducible refine Gr.alloc ?_ _ | with_reducible refine Gr.drewN ?_ _ | with_reducible refine Gr.drew ?_ | with_reducible refine Gr.setCell ?_ (by first | (dsimp only; omega) | (simp only [World.size_alloc]; omega) | (with_reducible refine Gr.size ?_; (repeat (first | with_reducible exact Gr.refl _ | with_reducible assumption | with_reducible refine Gr.alloc ?_ _ | with_reducible refine Gr.drewN ?_ _ | with_reducible refine Gr.drew ?_ | with_reducible refine Gr.trans ?_ (by with_reducible assumption))); done)) _ | with_reducible refine Gr.trans ?_ (by with_reducible assumption)))
  have gA : Gr w wA := (by repeat (first | with_reducible exact Gr.refl _ | with_reducible assumption | with_reducible refine Gr.alloc ?_ _ | with_reducible refine Gr.drewN ?_ _ | with_reducible refine Gr.drew ?_ | with_reducible refine Gr.setCell ?_ (by first | (dsimp only; omega) | (simp only [World.size_alloc]; omega) | (with_reducible refine Gr.size ?_; (repeat (first | with_reducible exact Gr.refl _ | with_reducible assumption | with_reducible refine Gr.alloc ?_ _ | with_reducible refine Gr.drewN ?_ _ | with_reducible refine Gr.drew ?_ | with_reducible refine Gr.trans ?_ (by with_reducible assumption))); done)) _ | with_reducible refine Gr.trans ?_ (by with_reducible assumption)))
  have gB : Gr w w1 := (by repeat (first | with_reducible exact Gr.refl _ | with_reducible assumption | with_reducible refine Gr.alloc ?_ _ | with_reducible refine Gr.drewN ?_ _ | with_reducible refine Gr.drew ?_ | with_reducible refine Gr.setCell ?_ (by first | (dsimp only; omega) | (simp only [World.size_alloc]; omega) | (with_reducible refine Gr.size ?_; (repeat (first | with_reducible exact Gr.refl _ | with_reducible assumption | with_reducible refine Gr.alloc ?_ _ | with_reducible refine Gr.drewN ?_ _ | with_reducible refine Gr.drew ?_ | with_reducible refine Gr.trans ?_ (by with_reducible assumption))); done)) _ | with_reducible refine Gr.trans ?_ (by with_reducible assumption)))
  have zA : wA.heap.size < w1.heap.size := by have := g1.size; simp only [World.size_alloc, World.size_setCell] at this; omega
  obtain ⟨wB, rfl⟩ : ∃ wB, wB = w1 := ⟨_, rfl⟩
  have zAw : w.heap.size ≤ wA.heap.size := gA.size
  refine wp_region_new2 _ 6 (by kernel_rfl) (by kernel_rfl) (Gr.refl _) (z1 := #[iv 0, iv 0, iv 0]) (t1 := 78) (z2 := #[iv 0, iv 0, iv 0]) (t2 := 78) rfl rfl ⟨rfl, fun _ => rfl, rfl, fun a w => by go_simp⟩ ⟨rfl, fun _ => rfl, rfl, fun a w => by go_simp⟩ (fun a u v => (Act.put_comm a u v (by decide))) ?_
  intro s gs
  obtain ⟨Xs, Ys, cs, fs⟩ := gs.use
  have GC := @GrW.cell
  simp only [List.take_succ_cons, List.take_zero]
  repeat (go_big_quiet_step ((first | (go_at_call 93; exact quiet_grw (numbers_any _ _ _ _)))))
  refine wpQuiet_nil ?_
  clear GC cs fs gs
  intro B1 B2 wq gq1 l1 l2 n12 ⟨b1, c1, f1⟩ ⟨b2, c2, f2⟩
  obtain ⟨Xq, Yq, cq, fq⟩ := gq1.use
  have sq := gq1.size
  (try simp only [World.size_alloc, World.size_setCell, World.heap_drewN] at sq l1 l2)
  simp only [List.drop_succ_cons, List.drop_zero]
  have x1 : B1 ≠ wA.heap.size := by omega
  have x2 : B2 ≠ wA.heap.size := by omega
  have l1' : w.heap.size ≤ B1 := by omega
  have l2' : w.heap.size ≤ B2 := by omega
  have zA2 : w.heap.size + 1 + 1 ≤ wA.heap.size := by have := g01.size; simp only [World.size_alloc] at this; omega
  have zB1 : w.heap.size + 1 + 1 ≤ B1 := by omega
  have zB2 : w.heap.size + 1 + 1 ≤ B2 := by omega
  have gwq : Gr w wq := (by repeat (first | with_reducible exact Gr.refl _ | with_reducible assumption | with_reducible refine Gr.alloc ?_ _ | with_reducible refine Gr.drewN ?_ _ | with_reducible refine Gr.drew ?_ | with_reducible refine Gr.setCell ?_ (by first | (dsimp only; omega) | (simp only [World.size_alloc]; omega) | (with_reducible refine Gr.size ?_; (repeat (first | with_reducible exact Gr.refl _ | with_reducible assumption | with_reducible refine Gr.alloc ?_ _ | with_reducible refine Gr.drewN ?_ _ | with_reducible refine Gr.drew ?_ | with_reducible refine Gr.trans ?_ (by with_reducible assumption))); done)) _ | with_reducible refine Gr.trans ?_ (by with_reducible assumption)))
  have gwq2 : Gr ((w.alloc (.cells #[iv f.ox, iv f.oy, iv f.oz, iv f.ux, iv f.uy, iv f.uz, iv f.vx, iv f.vy, iv f.vz, iv f.w, iv f.h] 44)).alloc (.cells #[iv 0, iv 0, iv 0, iv 0, iv 0, iv 0, iv 0] 80)) wq := by
    clear gA gB gwq
    exact (by repeat (first | with_reducible exact Gr.refl _ | with_reducible assumption | with_reducible refine Gr.alloc ?_ _ | with_reducible refine Gr.drewN ?_ _ | with_reducible refine Gr.drew ?_ | with_reducible refine Gr.setCell ?_ (by first | (dsimp only; omega) | (simp only [World.size_alloc]; omega) | (with_reducible refine Gr.size ?_; (repeat (first | with_reducible exact Gr.refl _ | with_reducible assumption | with_reducible refine Gr.alloc ?_ _ | with_reducible refine Gr.drewN ?_ _ | with_reducible refine Gr.drew ?_ | with_reducible refine Gr.trans ?_ (by with_reducible assumption))); done)) _ | with_reducible refine Gr.trans ?_ (by with_reducible assumption)))
  go_wp2
  go_loopw [68] (fun i wr => ∃ k : Int, 0 ≤ k ∧ k ≤ 3 ∧ i = iv k ∧ Gr ((w.alloc (.cells #[iv f.ox, iv f.oy, iv f.oz, iv f.ux, iv f.uy, iv f.uz, iv f.vx, iv f.vy, iv f.vz, iv f.w, iv f.h] 44)).alloc (.cells #[iv 0, iv 0, iv 0, iv 0, iv 0, iv 0, iv 0] 80)) wr ∧ Hid (TX wr B1 f.ox f.oy f.oz) ∧ Hid (TX wr B2 (fx f) (fy f) (fz f)) ∧ Hid (BX wr wA.heap.size f (3 - axK f.ux f.uy f.uz - axK f.vx f.vy f.vz) k)) (fun i _ => 3 - (intOf i).toNat)
  case atStart =>
    refine ⟨0, by omega, by omega, rfl, (by repeat (first | with_reducible exact Gr.refl _ | with_reducible assumption | with_reducible refine Gr.alloc ?_ _ | with_reducible refine Gr.drewN ?_ _ | with_reducible refine Gr.drew ?_ | with_reducible refine Gr.setCell ?_ (by first | (dsimp only; omega) | (simp only [World.size_alloc]; omega) | (with_reducible refine Gr.size ?_; (repeat (first | with_reducible exact Gr.refl _ | with_reducible assumption | with_reducible refine Gr.alloc ?_ _ | with_reducible refine Gr.drewN ?_ _ | with_reducible refine Gr.drew ?_ | with_reducible refine Gr.trans ?_ (by with_reducible assumption))); done)) _ | with_reducible refine Gr.trans ?_ (by with_reducible assumption))), ?_, ?_, ?_⟩
    · refine ⟨?_, ?_, ?_⟩ <;> simp [go_sem, *]
    · refine ⟨?_, ?_, ?_⟩ <;> simp [go_sem, *]
    · refine ⟨⟨?_, ?_, ?_⟩, ⟨?_, ?_, ?_⟩, ?_, ⟨?_, ?_, ?_⟩, ?_, ?_, ?_⟩ <;> simp [go_sem, lw, hw, *]
  case round =>
    obtain ⟨k, hk0, hk, rfl, g, HT1, HT2, HB⟩ := hrel
    obtain ⟨e0, e1, e2⟩ := HT1.out
    obtain ⟨e3, e4, e5⟩ := HT2.out
    obtain ⟨⟨h0, h1, h2⟩, ⟨h3, h4, h5⟩, h6, ⟨p0, p1, p2⟩, p3, p4, p5⟩ := HB.out
    clear c1 f1 cq fq
    rcases (by omega : k = 0 ∨ k = 1 ∨ k = 2 ∨ k = 3) with rfl | rfl | rfl | rfl
    · go_upto_region 11 with fail
      go_region_held3 (fun w' => Gr ((w.alloc (.cells #[iv f.ox, iv f.oy, iv f.oz, iv f.ux, iv f.uy, iv f.uz, iv f.vx, iv f.vy, iv f.vz, iv f.w, iv f.h] 44)).alloc (.cells #[iv 0, iv 0, iv 0, iv 0, iv 0, iv 0, iv 0] 80)) w' ∧ w'.cell? ⟨B1, 0, none⟩ = some (iv f.ox) ∧ w'.cell? ⟨B2, 0, none⟩ = some (iv (fx f))) (((repeat' refine And.intro ?_ ?_) <;> (first | with_reducible assumption | ((repeat (first | with_reducible exact Gr.refl _ | with_reducible assumption | with_reducible refine Gr.alloc ?_ _ | with_reducible refine Gr.drewN ?_ _ | with_reducible refine Gr.drew ?_ | with_reducible refine Gr.setCell ?_ (by first | (dsimp only; omega) | (simp only [World.size_alloc]; omega) | (with_reducible refine Gr.size ?_; (repeat (first | with_reducible exact Gr.refl _ | with_reducible assumption | with_reducible refine Gr.alloc ?_ _ | with_reducible refine Gr.drewN ?_ _ | with_reducible refine Gr.drew ?_ | with_reducible refine Gr.trans ?_ (by with_reducible assumption))); done)) _ | with_reducible refine Gr.trans ?_ (by with_reducible assumption))); done) | (simp [go_sem, *]; done)))) (first | fail)
      all_goals
        go_wp2
        go_roundw
        case rel =>
          refine ⟨1, by omega, by omega, rfl, (by repeat (first | with_reducible exact Gr.refl _ | with_reducible assumption | with_reducible refine Gr.alloc ?_ _ | with_reducible refine Gr.drewN ?_ _ | with_reducible refine Gr.drew ?_ | with_reducible refine Gr.setCell ?_ (by first | (dsimp only; omega) | (simp only [World.size_alloc]; omega) | (with_reducible refine Gr.size ?_; (repeat (first | with_reducible exact Gr.refl _ | with_reducible assumption | with_reducible refine Gr.alloc ?_ _ | with_reducible refine Gr.drewN ?_ _ | with_reducible refine Gr.drew ?_ | with_reducible refine Gr.trans ?_ (by with_reducible assumption))); done)) _ | with_reducible refine Gr.trans ?_ (by with_reducible assumption))), ?_, ?_, ?_⟩
          · refine ⟨?_, ?_, ?_⟩ <;> simp [go_sem, *]
          · refine ⟨?_, ?_, ?_⟩ <;> simp [go_sem, *]
          · refine ⟨⟨?_, ?_, ?_⟩, ⟨?_, ?_, ?_⟩, ?_, ⟨?_, ?_, ?_⟩, ?_, ?_, ?_⟩ <;> simp [go_sem, lw, hw, *]
        case measure => simp [intOf]
    · go_upto_region 11 with fail
      go_region_held3 (fun w' => Gr ((w.alloc (.cells #[iv f.ox, iv f.oy, iv f.oz, iv f.ux, iv f.uy, iv f.uz, iv f.vx, iv f.vy, iv f.vz, iv f.w, iv f.h] 44)).alloc (.cells #[iv 0, iv 0, iv 0, iv 0, iv 0, iv 0, iv 0] 80)) w' ∧ w'.cell? ⟨B1, 1, none⟩ = some (iv f.oy) ∧ w'.cell? ⟨B2, 1, none⟩ = some (iv (fy f))) (((repeat' refine And.intro ?_ ?_) <;> (first | with_reducible assumption | ((repeat (first | with_reducible exact Gr.refl _ | with_reducible assumption | with_reducible refine Gr.alloc ?_ _ | with_reducible refine Gr.drewN ?_ _ | with_reducible refine Gr.drew ?_ | with_reducible refine Gr.setCell ?_ (by first | (dsimp only; omega) | (simp only [World.size_alloc]; omega) | (with_reducible refine Gr.size ?_; (repeat (first | with_reducible exact Gr.refl _ | with_reducible assumption | with_reducible refine Gr.alloc ?_ _ | with_reducible refine Gr.drewN ?_ _ | with_reducible refine Gr.drew ?_ | with_reducible refine Gr.trans ?_ (by with_reducible assumption))); done)) _ | with_reducible refine Gr.trans ?_ (by with_reducible assumption))); done) | (simp [go_sem, *]; done)))) (first | fail)
      all_goals
        go_wp2
        go_roundw
        case rel =>
          refine ⟨2, by omega, by omega, rfl, (by repeat (first | with_reducible exact Gr.refl _ | with_reducible assumption | with_reducible refine Gr.alloc ?_ _ | with_reducible refine Gr.drewN ?_ _ | with_reducible refine Gr.drew ?_ | with_reducible refine Gr.setCell ?_ (by first | (dsimp only; omega) | (simp only [World.size_alloc]; omega) | (with_reducible refine Gr.size ?_; (repeat (first | with_reducible exact Gr.refl _ | with_reducible assumption | with_reducible refine Gr.alloc ?_ _ | with_reducible refine Gr.drewN ?_ _ | with_reducible refine Gr.drew ?_ | with_reducible refine Gr.trans ?_ (by with_reducible assumption))); done)) _ | with_reducible refine Gr.trans ?_ (by with_reducible assumption))), ?_, ?_, ?_⟩
          · refine ⟨?_, ?_, ?_⟩ <;> simp [go_sem, *]
          · refine ⟨?_, ?_, ?_⟩ <;> simp [go_sem, *]
          · refine ⟨⟨?_, ?_, ?_⟩, ⟨?_, ?_, ?_⟩, ?_, ⟨?_, ?_, ?_⟩, ?_, ?_, ?_⟩ <;> simp [go_sem, lw, hw, *]
        case measure => simp [intOf]
    · go_upto_region 11 with fail
      go_region_held3 (fun w' => Gr ((w.alloc (.cells #[iv f.ox, iv f.oy, iv f.oz, iv f.ux, iv f.uy, iv f.uz, iv f.vx, iv f.vy, iv f.vz, iv f.w, iv f.h] 44)).alloc (.cells #[iv 0, iv 0, iv 0, iv 0, iv 0, iv 0, iv 0] 80)) w' ∧ w'.cell? ⟨B1, 2, none⟩ = some (iv f.oz) ∧ w'.cell? ⟨B2, 2, none⟩ = some (iv (fz f))) (((repeat' refine And.intro ?_ ?_) <;> (first | with_reducible assumption | ((repeat (first | with_reducible exact Gr.refl _ | with_reducible assumption | with_reducible refine Gr.alloc ?_ _ | with_reducible refine Gr.drewN ?_ _ | with_reducible refine Gr.drew ?_ | with_reducible refine Gr.setCell ?_ (by first | (dsimp only; omega) | (simp only [World.size_alloc]; omega) | (with_reducible refine Gr.size ?_; (repeat (first | with_reducible exact Gr.refl _ | with_reducible assumption | with_reducible refine Gr.alloc ?_ _ | with_reducible refine Gr.drewN ?_ _ | with_reducible refine Gr.drew ?_ | with_reducible refine Gr.trans ?_ (by with_reducible assumption))); done)) _ | with_reducible refine Gr.trans ?_ (by with_reducible assumption))); done) | (simp [go_sem, *]; done)))) (first | fail)
      all_goals
        go_wp2
        go_roundw
        case rel =>
          refine ⟨3, by omega, by omega, rfl, (by repeat (first | with_reducible exact Gr.refl _ | with_reducible assumption | with_reducible refine Gr.alloc ?_ _ | with_reducible refine Gr.drewN ?_ _ | with_reducible refine Gr.drew ?_ | with_reducible refine Gr.setCell ?_ (by first | (dsimp only; omega) | (simp only [World.size_alloc]; omega) | (with_reducible refine Gr.size ?_; (repeat (first | with_reducible exact Gr.refl _ | with_reducible assumption | with_reducible refine Gr.alloc ?_ _ | with_reducible refine Gr.drewN ?_ _ | with_reducible refine Gr.drew ?_ | with_reducible refine Gr.trans ?_ (by with_reducible assumption))); done)) _ | with_reducible refine Gr.trans ?_ (by with_reducible assumption))), ?_, ?_, ?_⟩
          · refine ⟨?_, ?_, ?_⟩ <;> simp [go_sem, *]
          · refine ⟨?_, ?_, ?_⟩ <;> simp [go_sem, *]
          · refine ⟨⟨?_, ?_, ?_⟩, ⟨?_, ?_, ?_⟩, ?_, ⟨?_, ?_, ?_⟩, ?_, ?_, ?_⟩ <;> simp [go_sem, lw, hw, *]
        case measure => simp [intOf]
    · obtain ⟨Xr, Yr, cr, fr⟩ := g.use
      have zr := g.size
      simp only [World.size_alloc] at zr
      have lr : w.heap.size + 1 < wr.heap.size := by omega
      have gw : Gr w wr := (Gr.alloc (Gr.alloc (Gr.refl w) _) _).trans g
      go_wp2
      refine bodyPost_ret (v := .tuple #[bxV f, .bool true]) (by simp [results, Try.results63, go_sem, bxV, *]) rfl ⟨rfl, (by repeat (first | with_reducible exact Gr.refl _ | with_reducible assumption | with_reducible refine Gr.alloc ?_ _ | with_reducible refine Gr.drewN ?_ _ | with_reducible refine Gr.drew ?_ | with_reducible refine Gr.setCell ?_ (by first | (dsimp only; omega) | (simp only [World.size_alloc]; omega) | (with_reducible refine Gr.size ?_; (repeat (first | with_reducible exact Gr.refl _ | with_reducible assumption | with_reducible refine Gr.alloc ?_ _ | with_reducible refine Gr.drewN ?_ _ | with_reducible refine Gr.drew ?_ | with_reducible refine Gr.trans ?_ (by with_reducible assumption))); done)) _ | with_reducible refine Gr.trans ?_ (by with_reducible assumption)))⟩
end Go.Proofs.Ytefjgfglommefaa
