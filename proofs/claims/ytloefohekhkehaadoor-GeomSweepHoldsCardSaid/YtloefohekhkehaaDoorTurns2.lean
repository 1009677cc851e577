/-
  What the reference's turned and Turn return; GeomTurns: the walk.
-/
import Derived.Test.YtloefohekhkehaaDoorTurns1
import Derived.Test.YtloefohekhkehaaDoorRects1
namespace Go.Proofs.YtloefohekhkehaaDoor
set_option linter.unusedVariables false
set_option linter.unusedSimpArgs false
open Go Go.ChangeShapes Go.WideShapes Go.ChangeAt Go.RowKit Go.Deep

set_option maxHeartbeats 1000000 in
theorem turned_any (x y : Int) (k : Nat) (w : World) (hx : Lim 1000 x) (hy : Lim 1000 y) (hk : k < 12) :
    Calls Tryd.prog 16 #[sp x y, iv k] w fun e w' => e = .returned (pt (tnA x y k) (tnB x y k) (tnC x y k) (tnD x y k)) ∧ Gr w w' := by
  have q1 : (((k : Int) + 12) % 12).toNat = k := by omega
  have q2 : (((k : Int) - 3 + 12) % 12).toNat = (k + 9) % 12 := by omega
  have K1 := fun w => cosine_any (k : Int) (by omega) (by omega) w
  have K2 := fun w => cosine_any ((k : Int) - 3) (by omega) (by omega) w
  rw [q1] at K1
  rw [q2] at K2
  have K1 := hide K1
  have K2 := hide K2
  clear q1 q2
  obtain ⟨l1', l2'⟩ := cos_lim k
  obtain ⟨l3', l4'⟩ := cos_lim ((k + 9) % 12)
  have b1 := Lim.mul hx l1'
  have b2 := Lim.mul hx l2'
  have b3 := Lim.mul hx l3'
  have b4 := Lim.mul hx l4'
  have b5 := Lim.mul hy l1'
  have b6 := Lim.mul hy l2'
  have b7 := Lim.mul hy l3'
  have b8 := Lim.mul hy l4'
  have hk0 : (0 : Int) ≤ (k : Int) := by omega
  have hk1 : (k : Int) < 12 := by omega
  go_enter Tryd.func16, Tryd.ntmps16
  go_upto_region 1 with fail
  go_cut [5, 6] (fun s5 s6 wx => ∃ B5 B6 : Nat, s5 = .pointer (some ⟨B5, 0, none⟩) ∧ s6 = .pointer (some ⟨B6, 0, none⟩) ∧ Gr ((w.alloc (Obj.cells #[iv x, iv y] 38)).alloc (Obj.cells #[iv 0, iv 0, iv 0, iv 0] 34)) wx
      ∧ w.heap.size + 1 < B5 ∧ w.heap.size + 1 < B6 ∧ wx.cell? ⟨B5, 0, none⟩ = some (iv (cosA k)) ∧ wx.cell? ⟨B5, 1, none⟩ = some (iv (cosB k)) ∧ wx.cell? ⟨B6, 0, none⟩ = some (iv (cosA ((k + 9) % 12))) ∧ wx.cell? ⟨B6, 1, none⟩ = some (iv (cosB ((k + 9) % 12))))
  case first =>
    go_wp2_with fail
    refine (K1.out _).mono ?_
    rintro e w1 ⟨rfl, g1⟩
    obtain ⟨X1, Y1, c1, f1⟩ := g1.use
    go_wp2_with fail
    refine (K2.out _).mono ?_
    rintro e w2 ⟨rfl, g2⟩
    obtain ⟨X2, Y2, c2, f2⟩ := g2.use
    have z1 := g1.size
    have z2 := g2.size
    simp only [World.size_alloc] at z1
    go_wp2_with fail
    go_meet
    exact ⟨_, _, rfl, rfl, (by repeat (first | with_reducible exact Gr.refl _ | with_reducible assumption | with_reducible refine Gr.alloc ?_ _ | with_reducible refine Gr.drewN ?_ _ | with_reducible refine Gr.drew ?_ | with_reducible refine Gr.setCell ?_ (by first | (dsimp only; omega) | (simp only [World.size_alloc]; omega) | (with_reducible refine Gr.size ?_; (repeat (first | with_reducible exact Gr.refl _ | with_reducible assumption | with_reducible refine Gr.alloc ?_ _ | with_reducible refine Gr.drewN ?_ _ | with_reducible refine Gr.drew ?_ | with_reducible refine Gr.trans ?_ (by with_reducible assumption))); done)) _ | with_reducible refine Gr.trans ?_ (by with_reducible assumption))), by omega, by omega, by simp [go_sem, *], by simp [go_sem, *], by simp [go_sem, *], by simp [go_sem, *]⟩
  case rest =>
    obtain ⟨B5, B6, rfl, rfl, g1, n5, n6, k1, k2, k3, k4⟩ := hcut
    have gw : Gr w wc := (by repeat (first | with_reducible exact Gr.refl _ | with_reducible assumption | with_reducible refine Gr.alloc ?_ _ | with_reducible refine Gr.drewN ?_ _ | with_reducible refine Gr.drew ?_ | with_reducible refine Gr.setCell ?_ (by first | (dsimp only; omega) | (simp only [World.size_alloc]; omega) | (with_reducible refine Gr.size ?_; (repeat (first | with_reducible exact Gr.refl _ | with_reducible assumption | with_reducible refine Gr.alloc ?_ _ | with_reducible refine Gr.drewN ?_ _ | with_reducible refine Gr.drew ?_ | with_reducible refine Gr.trans ?_ (by with_reducible assumption))); done)) _ | with_reducible refine Gr.trans ?_ (by with_reducible assumption)))
    have s0 : wc.cell? ⟨w.heap.size, 0, none⟩ = some (iv x) := by rw [g1.cell _ _ (by simp; omega)]; simp [go_sem]
    have s1 : wc.cell? ⟨w.heap.size, 1, none⟩ = some (iv y) := by rw [g1.cell _ _ (by simp; omega)]; simp [go_sem]
    have r0 : wc.cell? ⟨w.heap.size + 1, 0, none⟩ = some (iv 0) := by rw [g1.cell _ _ (by simp)]; simp [go_sem]
    have r1 : wc.cell? ⟨w.heap.size + 1, 1, none⟩ = some (iv 0) := by rw [g1.cell _ _ (by simp)]; simp [go_sem]
    have r2 : wc.cell? ⟨w.heap.size + 1, 2, none⟩ = some (iv 0) := by rw [g1.cell _ _ (by simp)]; simp [go_sem]
    have r3 : wc.cell? ⟨w.heap.size + 1, 3, none⟩ = some (iv 0) := by rw [g1.cell _ _ (by simp)]; simp [go_sem]
    have q0 : wc.frozen? ⟨w.heap.size + 1, 0, none⟩ = false := by rw [g1.frozen _ _ (by simp)]; simp [go_sem]
    have q1 : wc.frozen? ⟨w.heap.size + 1, 1, none⟩ = false := by rw [g1.frozen _ _ (by simp)]; simp [go_sem]
    have q2 : wc.frozen? ⟨w.heap.size + 1, 2, none⟩ = false := by rw [g1.frozen _ _ (by simp)]; simp [go_sem]
    have q3 : wc.frozen? ⟨w.heap.size + 1, 3, none⟩ = false := by rw [g1.frozen _ _ (by simp)]; simp [go_sem]
    have z5 : B5 < wc.heap.size := cell_lt (by rw [k1]; rfl)
    have z6 : B6 < wc.heap.size := cell_lt (by rw [k3]; rfl)
    clear g1 K1 K2
    go_upto_region 2 with fail
    go_region_held3 (fun w' => Gr w w' ∧ Ab (w.heap.size + 1) wc w' ∧ w'.cell? ⟨w.heap.size, 0, none⟩ = some (iv x) ∧ w'.cell? ⟨w.heap.size, 1, none⟩ = some (iv y) ∧ ∀ ii oo, w.heap.size + 1 < ii → ii < wc.heap.size → w'.cell? ⟨ii, oo, none⟩ = wc.cell? ⟨ii, oo, none⟩)
      ((refine And.intro ?_ (And.intro ?_ (And.intro ?_ (And.intro ?_ (Ab.cell ?_)))) <;> first | (simp [go_sem, *]; done) | ((repeat (first | with_reducible exact Gr.refl _ | with_reducible exact Ab.refl _ _ | with_reducible assumption | with_reducible refine Gr.alloc ?_ _ | with_reducible refine Ab.alloc ?_ _ | with_reducible refine Gr.drew ?_ | with_reducible refine Ab.drew ?_ | with_reducible refine Gr.setCell ?_ (by dsimp only; omega) _ | with_reducible refine Ab.setCell ?_ (by dsimp only; omega) _ | with_reducible refine Gr.trans ?_ (by with_reducible assumption) | with_reducible refine Ab.gr ?_ (by with_reducible assumption))); done)))
      (first
        | (go_at_call 30; refine (scaled_any _ _ _ _ (by apply Lim.mono; with_reducible assumption; omega) (by apply Lim.mono; with_reducible assumption; omega) (by apply Lim.mono; with_reducible assumption; omega)).mono ?_; rintro e w1 ⟨rfl, g1⟩; obtain ⟨X1, Y1, c1, f1⟩ := g1.use)
        | (go_at_call 29; refine (rminus_any _ _ _ _ _ (by apply Lim.mono; with_reducible assumption; omega) (by apply Lim.mono; with_reducible assumption; omega) (by apply Lim.mono; with_reducible assumption; omega) (by apply Lim.mono; with_reducible assumption; omega)).mono ?_; rintro e w1 ⟨rfl, g1⟩; obtain ⟨X1, Y1, c1, f1⟩ := g1.use)
        | (go_at_call 31; refine (rplus_any _ _ _ _ _ (by apply Lim.mono; with_reducible assumption; omega) (by apply Lim.mono; with_reducible assumption; omega) (by apply Lim.mono; with_reducible assumption; omega) (by apply Lim.mono; with_reducible assumption; omega)).mono ?_; rintro e w1 ⟨rfl, g1⟩; obtain ⟨X1, Y1, c1, f1⟩ := g1.use))
    all_goals
      go_wp2_with fail
      refine bodyPost_ret (v := pt (tnA x y k) (tnB x y k) (tnC x y k) (tnD x y k)) (by simp [results, Tryd.results16, go_sem, tnA, tnB, tnC, tnD, *]) rfl ⟨rfl, (by repeat (first | with_reducible exact Gr.refl _ | with_reducible assumption | with_reducible refine Gr.alloc ?_ _ | with_reducible refine Gr.drewN ?_ _ | with_reducible refine Gr.drew ?_ | with_reducible refine Gr.setCell ?_ (by first | (dsimp only; omega) | (simp only [World.size_alloc]; omega) | (with_reducible refine Gr.size ?_; (repeat (first | with_reducible exact Gr.refl _ | with_reducible assumption | with_reducible refine Gr.alloc ?_ _ | with_reducible refine Gr.drewN ?_ _ | with_reducible refine Gr.drew ?_ | with_reducible refine Gr.trans ?_ (by with_reducible assumption))); done)) _ | with_reducible refine Gr.trans ?_ (by with_reducible assumption)))⟩

theorem turn_norm (x y : Int) (k : Nat) (hk : k < 12) :
    (tnA x y k * tnB x y k + tnB x y k * tnA x y k) + (tnC x y k * tnD x y k + tnD x y k * tnC x y k) = 0 ∧
    (tnA x y k * tnA x y k + 3 * (tnB x y k * tnB x y k)) + (tnC x y k * tnC x y k + 3 * (tnD x y k * tnD x y k)) = 4 * (x * x + y * y) := by
  have h : k = 0 ∨ k = 1 ∨ k = 2 ∨ k = 3 ∨ k = 4 ∨ k = 5 ∨ k = 6 ∨ k = 7 ∨ k = 8 ∨ k = 9 ∨ k = 10 ∨ k = 11 := by omega
  rcases h with rfl | rfl | rfl | rfl | rfl | rfl | rfl | rfl | rfl | rfl | rfl | rfl <;> simp only [tnA, tnB, tnC, tnD, cosA, cosB, Nat.reduceAdd, Nat.reduceMod] <;> constructor <;> grind
theorem rinB_of {a b l : Int} (ha : Lim l a) (hb : Lim l b) : rinB a b l = true := by
  simp only [rinB, Bool.and_eq_true, inB_iff]
  exact ⟨ha, hb⟩
theorem tn_lim (x y : Int) (k : Nat) (hx : Lim 1000 x) (hy : Lim 1000 y) : rinB (tnA x y k) (tnB x y k) 4096 = true ∧ rinB (tnC x y k) (tnD x y k) 4096 = true := by
  obtain ⟨l1', l2'⟩ := cos_lim k
  obtain ⟨l3', l4'⟩ := cos_lim ((k + 9) % 12)
  have b1 := Lim.mul hx l1'
  have b2 := Lim.mul hx l2'
  have b3 := Lim.mul hx l3'
  have b4 := Lim.mul hx l4'
  have b5 := Lim.mul hy l1'
  have b6 := Lim.mul hy l2'
  have b7 := Lim.mul hy l3'
  have b8 := Lim.mul hy l4'
  exact ⟨rinB_of ((b1.sub b7).mono (by omega)) ((b2.sub b8).mono (by omega)), rinB_of ((b3.add b5).mono (by omega)) ((b4.add b6).mono (by omega))⟩
end Go.Proofs.YtloefohekhkehaaDoor
