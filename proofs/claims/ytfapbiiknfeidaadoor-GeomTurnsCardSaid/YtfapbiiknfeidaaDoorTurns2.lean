/-
  What the reference's turned and Turn return; GeomTurns: the walk.
-/
import Derived.Test.YtfapbiiknfeidaaDoorTurns1
import Derived.Test.YtfapbiiknfeidaaDoorRects1
namespace Go.Proofs.YtfapbiiknfeidaaDoor
set_option linter.unusedVariables false
set_option linter.unusedSimpArgs false
open Go Go.ChangeShapes Go.WideShapes Go.ChangeAt Go.RowKit Go.Deep

set_option maxHeartbeats 1000000 in
theorem turned_any (x y : Int) (k : Nat) (w : World) (hx : Lim 1000 x) (hy : Lim 1000 y) (hk : k < 12) :
    Calls Tryd.prog 61 #[sp x y, iv k] w fun e w' => e = .returned (pt (tnA x y k) (tnB x y k) (tnC x y k) (tnD x y k)) ∧ Gr w w' := by
  have q1 : (((k : Int) + 12) % 12).toNat = k := by omega
  have q2 : (((k : Int) - 3 + 12) % 12).toNat = (k + 9) % 12 := by omega
  have K1 := fun w => cosine_any (k : Int) (by omega) (by omega) w
  have K2 := fun w => cosine_any ((k : Int) - 3) (by omega) (by omega) w
  rw [q1] at K1
  rw [q2] at K2
  have K1 := hide K1
  have K2 := hide K2
  clear q1 q2
  obtain ⟨l1', l2'⟩ := cos_lim k
  obtain ⟨l3', l4'⟩ := cos_lim ((k + 9) % 12)
  have b1 := Lim.mul hx l1'
  have b2 := Lim.mul hx l2'
  have b3 := Lim.mul hx l3'
  have b4 := Lim.mul hx l4'
  have b5 := Lim.mul hy l1'
  have b6 := Lim.mul hy l2'
  have b7 := Lim.mul hy l3'
  have b8 := Lim.mul hy l4'
  have hk0 : (0 : Int) ≤ (k : Int) := by omega
  have hk1 : (k : Int) < 12 := by omega
  go_enter Tryd.func61, Tryd.ntmps61
  go_upto_region 1 with fail
  go_cut [5, 6] (fun s5 s6 wx => ∃ B5 B6 : Nat, s5 = .pointer (some ⟨B5, 0, none⟩) ∧ s6 = .pointer (some ⟨B6, 0, none⟩) ∧ Gr ((w.alloc (Obj.cells #[iv x, iv y] 34)).alloc (Obj.cells #[iv 0, iv 0, iv 0, iv 0] 36)) wx
      ∧ w.heap.size + 1 < B5 ∧ w.heap.size + 1 < B6 ∧ wx.cell? ⟨B5, 0, none⟩ = some (iv (cosA k)) ∧ wx.cell? ⟨B5, 1, none⟩ = some (iv (cosB k)) ∧ wx.cell? ⟨B6, 0, none⟩ = some (iv (cosA ((k + 9) % 12))) ∧ wx.cell? ⟨B6, 1, none⟩ = some (iv (cosB ((k + 9) % 12))))
  case first =>
    go_wp2_with fail
    refine (K1.out _).mono ?_
    rintro e w1 ⟨rfl, g1⟩
    obtain ⟨X1, Y1, c1, f1⟩ := g1.use
    go_wp2_with fail
    refine (K2.out _).mono ?_
    rintro e w2 ⟨rfl, g2⟩
    obtain ⟨X2, Y2, c2, f2⟩ := g2.use
    have z1 := g1.size
    have z2 := g2.size
    simp only [World.size_alloc] at z1
    go_wp2_with fail
    go_meet
    exact ⟨_, _, rfl, rfl, (by repeat (first | with_reducible exact Gr.refl _ | with_reducible assumption | with_reducible refine Gr.alloc ?_ _ | with_reducible refine Gr.drewN ?_ _ | with_reducible refine Gr.drew ?_ | with_reducible refine Gr.setCell ?_ (by first | (dsimp only; omega) | (simp only [World.size_alloc]; omega) | (with_reducible refine Gr.size ?_; (repeat (first | with_reducible exact Gr.refl _ | with_reducible assumption | with_reducible refine Gr.alloc ?_ _ | with_reducible refine Gr.drewN ?_ _ | with_reducible refine Gr.drew ?_ | with_reducible refine Gr.trans ?_ (by with_reducible assumption))); done)) _ | with_reducible refine Gr.trans ?_ (by with_reducible assumption))), by omega, by omega, by simp [go_sem, *], by simp [go_sem, *], by simp [go_sem, *], by simp [go_sem, *]⟩
  case rest =>
    obtain ⟨B5, B6, rfl, rfl, g1, n5, n6, k1, k2, k3, k4⟩ := hcut
    have gw : Gr w wc := (by repeat (first | with_reducible exact Gr.refl _ | with_reducible assumption | with_reducible refine Gr.alloc ?_ _ | with_reducible refine Gr.drewN ?_ _ | with_reducible refine Gr.drew ?_ | with_reducible refine Gr.setCell ?_ (by first | (dsimp only; omega) | (simp only [World.size_alloc]; omega) | (with_reducible refine Gr.size ?_; (repeat (first | with_reducible exact Gr.refl _ | with_reducible assumption | with_reducible refine Gr.alloc ?_ _ | with_reducible refine Gr.drewN ?_ _ | with_reducible refine Gr.drew ?_ | with_reducible refine Gr.trans ?_ (by with_reducible assumption))); done)) _ | with_reducible refine Gr.trans ?_ (by with_reducible assumption)))
    have s0 : wc.cell? ⟨w.heap.size, 0, none⟩ = some (iv x) := by rw [g1.cell _ _ (by simp; omega)]; simp [go_sem]
    have s1 : wc.cell? ⟨w.heap.size, 1, none⟩ = some (iv y) := by rw [g1.cell _ _ (by simp; omega)]; simp [go_sem]
    have r0 : wc.cell? ⟨w.heap.size + 1, 0, none⟩ = some (iv 0) := by rw [g1.cell _ _ (by simp)]; simp [go_sem]
    have r1 : wc.cell? ⟨w.heap.size + 1, 1, none⟩ = some (iv 0) := by rw [g1.cell _ _ (by simp)]; simp [go_sem]
    have r2 : wc.cell? ⟨w.heap.size + 1, 2, none⟩ = some (iv 0) := by rw [g1.cell _ _ (by simp)]; simp [go_sem]
    have r3 : wc.cell? ⟨w.heap.size + 1, 3, none⟩ = some (iv 0) := by rw [g1.cell _ _ (by simp)]; simp [go_sem]
    have q0 : wc.frozen? ⟨w.heap.size + 1, 0, none⟩ = false := by rw [g1.frozen _ _ (by simp)]; simp [go_sem]
    have q1 : wc.frozen? ⟨w.heap.size + 1, 1, none⟩ = false := by rw [g1.frozen _ _ (by simp)]; simp [go_sem]
    have q2 : wc.frozen? ⟨w.heap.size + 1, 2, none⟩ = false := by rw [g1.frozen _ _ (by simp)]; simp [go_sem]
    have q3 : wc.frozen? ⟨w.heap.size + 1, 3, none⟩ = false := by rw [g1.frozen _ _ (by simp)]; simp [go_sem]
    have z5 : B5 < wc.heap.size := cell_lt (by rw [k1]; rfl)
    have z6 : B6 < wc.heap.size := cell_lt (by rw [k3]; rfl)
    clear g1 K1 K2
    go_upto_region 2 with fail
    go_region_held3 (fun w' => Gr w w' ∧ Ab (w.heap.size + 1) wc w' ∧ w'.cell? ⟨w.heap.size, 0, none⟩ = some (iv x) ∧ w'.cell? ⟨w.heap.size, 1, none⟩ = some (iv y) ∧ ∀ ii oo, w.heap.size + 1 < ii → ii < wc.heap.size → w'.cell? ⟨ii, oo, none⟩ = wc.cell? ⟨ii, oo, none⟩)
      ((refine And.intro ?_ (And.intro ?_ (And.intro ?_ (And.intro ?_ (Ab.cell ?_)))) <;> first | (simp [go_sem, *]; done) | ((repeat (first | with_reducible exact Gr.refl _ | with_reducible exact Ab.refl _ _ | with_reducible assumption | with_reducible refine Gr.alloc ?_ _ | with_reducible refine Ab.alloc ?_ _ | with_reducible refine Gr.drew ?_ | with_reducible refine Ab.drew ?_ | with_reducible refine Gr.setCell ?_ (by dsimp only; omega) _ | with_reducible refine Ab.setCell ?_ (by dsimp only; omega) _ | with_reducible refine Gr.trans ?_ (by with_reducible assumption) | with_reducible refine Ab.gr ?_ (by with_reducible assumption))); done)))
      (first
        | (go_at_call 92; refine (scaled_any _ _ _ _ (by apply Lim.mono; with_reducible assumption; omega) (by apply Lim.mono; with_reducible assumption; omega) (by apply Lim.mono; with_reducible assumption; omega)).mono ?_; rintro e w1 ⟨rfl, g1⟩; obtain ⟨X1, Y1, c1, f1⟩ := g1.use)
        | (go_at_call 54; refine (rminus_any _ _ _ _ _ (by apply Lim.mono; with_reducible assumption; omega) (by apply Lim.mono; with_reducible assumption; omega) (by apply Lim.mono; with_reducible assumption; omega) (by apply Lim.mono; with_reducible assumption; omega)).mono ?_; rintro e w1 ⟨rfl, g1⟩; obtain ⟨X1, Y1, c1, f1⟩ := g1.use)
        | (go_at_call 93; refine (rplus_any _ _ _ _ _ (by apply Lim.mono; with_reducible assumption; omega) (by apply Lim.mono; with_reducible assumption; omega) (by apply Lim.mono; with_reducible assumption; omega) (by apply Lim.mono; with_reducible assumption; omega)).mono ?_; rintro e w1 ⟨rfl, g1⟩; obtain ⟨X1, Y1, c1, f1⟩ := g1.use))
    all_goals
      go_wp2_with fail
      refine bodyPost_ret (v := pt (tnA x y k) (tnB x y k) (tnC x y k) (tnD x y k)) (by simp [results, Tryd.results61, go_sem, tnA, tnB, tnC, tnD, *]) rfl ⟨rfl, (by repeat (first | with_reducible exact Gr.refl _ | with_reducible assumption | with_reducible refine Gr.alloc ?_ _ | with_reducible refine Gr.drewN ?_ _ | with_reducible refine Gr.drew ?_ | with_reducible refine Gr.setCell ?_ (by first | (dsimp only; omega) | (simp only [World.size_alloc]; omega) | (with_reducible refine Gr.size ?_; (repeat (first | with_reducible exact Gr.refl _ | with_reducible assumption | with_reducible refine Gr.alloc ?_ _ | with_reducible refine Gr.drewN ?_ _ | with_reducible refine Gr.drew ?_ | with_reducible refine Gr.trans ?_ (by with_reducible assumption))); done)) _ | with_reducible refine Gr.trans ?_ (by with_reducible assumption)))⟩

theorem rTurn_any (x y k : Int) (w : World) :
    Calls Tryd.prog 23 #[sp x y, iv k] w fun e w' => e = .returned (.tuple #[pt (tuA x y k) (tuB x y k) (tuC x y k) (tuD x y k), iv (tuE x y k)]) ∧ Gr w w' := by
  by_cases h1 : sinB x y = true
  · by_cases h2 : wiB k 0 11 = true
    · obtain ⟨hx, hy⟩ := slim_of h1
      obtain ⟨k0, k1⟩ := wiB_iff.1 h2
      obtain ⟨k, rfl⟩ := Int.eq_ofNat_of_zero_le k0
      have ok : tuOk x y k = true := by simp [tuOk, h1]; omega
      have OK := hide ok
      clear ok
      go_enter Tryd.func23, Tryd.ntmps23
      go_wp2_with (first | (go_at_call 59; refine (rspotIn_any _ _ _).mono ?_; rintro e w1 ⟨rfl, g1⟩; obtain ⟨X1, Y1, c1, f1⟩ := g1.use) | (go_at_call 60; refine (rwithin2_any _ _ _ _).mono ?_; rintro e w1 ⟨rfl, rfl⟩) | (go_at_call 61; refine (turned_any _ _ _ _ hx hy (by omega)).mono ?_; rintro e w1 ⟨rfl, g1⟩; obtain ⟨X1, Y1, c1, f1⟩ := g1.use))
      refine bodyPost_ret (v := .tuple #[pt (tnA x y k) (tnB x y k) (tnC x y k) (tnD x y k), iv 0]) (by simp [results, Tryd.results23, go_sem, *]) rfl ⟨ret_turn (by simp [tuA, OK.out]) (by simp [tuB, OK.out]) (by simp [tuC, OK.out]) (by simp [tuD, OK.out]) (by simp [tuE, errIf, OK.out]), (by repeat (first | with_reducible exact Gr.refl _ | with_reducible assumption | with_reducible refine Gr.alloc ?_ _ | with_reducible refine Gr.drewN ?_ _ | with_reducible refine Gr.drew ?_ | with_reducible refine Gr.setCell ?_ (by first | (dsimp only; omega) | (simp only [World.size_alloc]; omega) | (with_reducible refine Gr.size ?_; (repeat (first | with_reducible exact Gr.refl _ | with_reducible assumption | with_reducible refine Gr.alloc ?_ _ | with_reducible refine Gr.drewN ?_ _ | with_reducible refine Gr.drew ?_ | with_reducible refine Gr.trans ?_ (by with_reducible assumption))); done)) _ | with_reducible refine Gr.trans ?_ (by with_reducible assumption)))⟩
    · have h2' : wiB k 0 11 = false := by simpa using h2
      clear h2
      have ok : tuOk x y k = false := by rw [tuOk, show (decide (0 ≤ k) && decide (k ≤ 11)) = wiB k 0 11 from rfl, h2']; simp
      have OK := hide ok
      clear ok
      go_enter Tryd.func23, Tryd.ntmps23
      go_wp2_with (first | (go_at_call 59; refine (rspotIn_any _ _ _).mono ?_; rintro e w1 ⟨rfl, g1⟩; obtain ⟨X1, Y1, c1, f1⟩ := g1.use) | (go_at_call 60; refine (rwithin2_any _ _ _ _).mono ?_; rintro e w1 ⟨rfl, rfl⟩))
      refine bodyPost_ret (v := .tuple #[pt 0 0 0 0, iv 1]) (by simp [results, Tryd.results23, go_sem, *]) rfl ⟨ret_turn (by simp [tuA, OK.out]) (by simp [tuB, OK.out]) (by simp [tuC, OK.out]) (by simp [tuD, OK.out]) (by simp [tuE, errIf, OK.out]), (by repeat (first | with_reducible exact Gr.refl _ | with_reducible assumption | with_reducible refine Gr.alloc ?_ _ | with_reducible refine Gr.drewN ?_ _ | with_reducible refine Gr.drew ?_ | with_reducible refine Gr.setCell ?_ (by first | (dsimp only; omega) | (simp only [World.size_alloc]; omega) | (with_reducible refine Gr.size ?_; (repeat (first | with_reducible exact Gr.refl _ | with_reducible assumption | with_reducible refine Gr.alloc ?_ _ | with_reducible refine Gr.drewN ?_ _ | with_reducible refine Gr.drew ?_ | with_reducible refine Gr.trans ?_ (by with_reducible assumption))); done)) _ | with_reducible refine Gr.trans ?_ (by with_reducible assumption)))⟩
  · have h1' : sinB x y = false := by simpa using h1
    clear h1
    have ok : tuOk x y k = false := by simp [tuOk, h1']
    have OK := hide ok
    clear ok
    go_enter Tryd.func23, Tryd.ntmps23
    go_wp2_with (first | (go_at_call 59; refine (rspotIn_any _ _ _).mono ?_; rintro e w1 ⟨rfl, g1⟩; obtain ⟨X1, Y1, c1, f1⟩ := g1.use))
    refine bodyPost_ret (v := .tuple #[pt 0 0 0 0, iv 1]) (by simp [results, Tryd.results23, go_sem, *]) rfl ⟨ret_turn (by simp [tuA, OK.out]) (by simp [tuB, OK.out]) (by simp [tuC, OK.out]) (by simp [tuD, OK.out]) (by simp [tuE, errIf, OK.out]), (by repeat (first | with_reducible exact Gr.refl _ | with_reducible assumption | with_reducible refine Gr.alloc ?_ _ | with_reducible refine Gr.drewN ?_ _ | with_reducible refine Gr.drew ?_ | with_reducible refine Gr.setCell ?_ (by first | (dsimp only; omega) | (simp only [World.size_alloc]; omega) | (with_reducible refine Gr.size ?_; (repeat (first | with_reducible exact Gr.refl _ | with_reducible assumption | with_reducible refine Gr.alloc ?_ _ | with_reducible refine Gr.drewN ?_ _ | with_reducible refine Gr.drew ?_ | with_reducible refine Gr.trans ?_ (by with_reducible assumption))); done)) _ | with_reducible refine Gr.trans ?_ (by with_reducible assumption)))⟩
theorem turn_norm (x y : Int) (k : Nat) (hk : k < 12) :
    (tnA x y k * tnB x y k + tnB x y k * tnA x y k) + (tnC x y k * tnD x y k + tnD x y k * tnC x y k) = 0 ∧
    (tnA x y k * tnA x y k + 3 * (tnB x y k * tnB x y k)) + (tnC x y k * tnC x y k + 3 * (tnD x y k * tnD x y k)) = 4 * (x * x + y * y) := by
  have h : k = 0 ∨ k = 1 ∨ k = 2 ∨ k = 3 ∨ k = 4 ∨ k = 5 ∨ k = 6 ∨ k = 7 ∨ k = 8 ∨ k = 9 ∨ k = 10 ∨ k = 11 := by omega
  rcases h with rfl | rfl | rfl | rfl | rfl | rfl | rfl | rfl | rfl | rfl | rfl | rfl <;> simp only [tnA, tnB, tnC, tnD, cosA, cosB, Nat.reduceAdd, Nat.reduceMod] <;> constructor <;> grind
theorem rinB_of {a b l : Int} (ha : Lim l a) (hb : Lim l b) : rinB a b l = true := by
  simp only [rinB, Bool.and_eq_true, inB_iff]
  exact ⟨ha, hb⟩
theorem tn_lim (x y : Int) (k : Nat) (hx : Lim 1000 x) (hy : Lim 1000 y) : rinB (tnA x y k) (tnB x y k) 4096 = true ∧ rinB (tnC x y k) (tnD x y k) 4096 = true := by
  obtain ⟨l1', l2'⟩ := cos_lim k
  obtain ⟨l3', l4'⟩ := cos_lim ((k + 9) % 12)
  have b1 := Lim.mul hx l1'
  have b2 := Lim.mul hx l2'
  have b3 := Lim.mul hx l3'
  have b4 := Lim.mul hx l4'
  have b5 := Lim.mul hy l1'
  have b6 := Lim.mul hy l2'
  have b7 := Lim.mul hy l3'
  have b8 := Lim.mul hy l4'
  exact ⟨rinB_of ((b1.sub b7).mono (by omega)) ((b2.sub b8).mono (by omega)), rinB_of ((b3.add b5).mono (by omega)) ((b4.add b6).mono (by omega))⟩
set_option maxHeartbeats 1000000 in
theorem turns_ok (x y k A B C D p q r s : Int) (w : World) (ht : Tab w) (hx : Lim 1000 x) (hy : Lim 1000 y)
    (C1 : ∀ w, Tab w → Calls Tryd.prog 22 #[sp x y, iv k] w fun e w' => e = .returned (.tuple #[pt A B C D, iv 0]) ∧ Gr w w')
    (C2 : ∀ w, Calls Tryd.prog 23 #[sp x y, iv k] w fun e w' => e = .returned (.tuple #[pt A B C D, iv 0]) ∧ Gr w w')
    (C3 : ∀ w, Calls Tryd.prog 20 #[rt A B, rt A B] w fun e w' => e = .returned (.tuple #[rt p q, iv 0]) ∧ Gr w w')
    (C4 : ∀ w, Calls Tryd.prog 20 #[rt C D, rt C D] w fun e w' => e = .returned (.tuple #[rt r s, iv 0]) ∧ Gr w w')
    (lp : Lim 1073741824 p) (lq : Lim 1073741824 q) (lr : Lim 1073741824 r) (ls : Lim 1073741824 s) (e1 : q + s = 0) (e2 : p + r = 4 * (x * x + y * y)) :
    Calls Tryd.prog 5 #[sp x y, iv k] w fun e w' => e = .returned (.bool true) ∧ Gr w w' := by
  have m1 := Lim.mul hx hx
  have m2 := Lim.mul hy hy
  have E1 : ((q + s : Int) == 0) = true := by simpa using e1
  have E2 : ((p + r : Int) == 4 * (x * x + y * y)) = true := by simpa using e2
  obtain ⟨_, _⟩ := m1
  obtain ⟨_, _⟩ := m2
  obtain ⟨_, _⟩ := lp
  obtain ⟨_, _⟩ := lq
  obtain ⟨_, _⟩ := lr
  obtain ⟨_, _⟩ := ls
  clear e1 e2
  have HT := hide ht
  have C1 := hide C1
  have C2 := hide C2
  have C3 := hide C3
  have C4 := hide C4
  clear ht
  go_enter Tryd.func5, Tryd.ntmps5
  go_wp2_with fail
  refine (C1.out _ (HT.out.gr (by repeat (first | with_reducible exact Gr.refl _ | with_reducible assumption | with_reducible refine Gr.alloc ?_ _ | with_reducible refine Gr.drewN ?_ _ | with_reducible refine Gr.drew ?_ | with_reducible refine Gr.setCell ?_ (by first | (dsimp only; omega) | (simp only [World.size_alloc]; omega) | (with_reducible refine Gr.size ?_; (repeat (first | with_reducible exact Gr.refl _ | with_reducible assumption | with_reducible refine Gr.alloc ?_ _ | with_reducible refine Gr.drewN ?_ _ | with_reducible refine Gr.drew ?_ | with_reducible refine Gr.trans ?_ (by with_reducible assumption))); done)) _ | with_reducible refine Gr.trans ?_ (by with_reducible assumption))))).mono ?_
  rintro e w1 ⟨rfl, g1⟩
  obtain ⟨X1, Y1, c1, f1⟩ := g1.use
  have z1 := g1.size
  simp only [World.size_alloc] at z1
  have l1 : w.heap.size < w1.heap.size := by omega
  clear z1
  go_wp2_with fail
  refine (C2.out _).mono ?_
  rintro e w2 ⟨rfl, g2⟩
  obtain ⟨X2, Y2, c2, f2⟩ := g2.use
  have z2 := g2.size
  simp only [World.size_alloc] at z2
  have l2 : w.heap.size < w2.heap.size := by omega
  have l3 : w1.heap.size < w2.heap.size := by omega
  clear z2
  go_wp2_with fail
  refine (C3.out _).mono ?_
  rintro e w3 ⟨rfl, g3⟩
  obtain ⟨X3, Y3, c3, f3⟩ := g3.use
  have z3 := g3.size
  simp only [World.size_alloc] at z3
  have l4 : w.heap.size < w3.heap.size := by omega
  have l5 : w1.heap.size < w3.heap.size := by omega
  have l6 : w2.heap.size < w3.heap.size := by omega
  clear z3
  go_wp2_with fail
  refine (C4.out _).mono ?_
  rintro e w4 ⟨rfl, g4⟩
  obtain ⟨X4, Y4, c4, f4⟩ := g4.use
  have z4 := g4.size
  simp only [World.size_alloc] at z4
  have l7 : w.heap.size < w4.heap.size := by omega
  have l8 : w1.heap.size < w4.heap.size := by omega
  have l9 : w2.heap.size < w4.heap.size := by omega
  have l10 : w3.heap.size < w4.heap.size := by omega
  clear z4
  go_wp2_with (go_at_call 19; refine (known_any _ (HT.out.gr (by repeat (first | with_reducible exact Gr.refl _ | with_reducible assumption | with_reducible refine Gr.alloc ?_ _ | with_reducible refine Gr.drewN ?_ _ | with_reducible refine Gr.drew ?_ | with_reducible refine Gr.setCell ?_ (by first | (dsimp only; omega) | (simp only [World.size_alloc]; omega) | (with_reducible refine Gr.size ?_; (repeat (first | with_reducible exact Gr.refl _ | with_reducible assumption | with_reducible refine Gr.alloc ?_ _ | with_reducible refine Gr.drewN ?_ _ | with_reducible refine Gr.drew ?_ | with_reducible refine Gr.trans ?_ (by with_reducible assumption))); done)) _ | with_reducible refine Gr.trans ?_ (by with_reducible assumption))))).mono ?_; rintro e w5 ⟨rfl, g5⟩)
  go_ret
  exact ⟨rfl, (by repeat (first | with_reducible exact Gr.refl _ | with_reducible assumption | with_reducible refine Gr.alloc ?_ _ | with_reducible refine Gr.drewN ?_ _ | with_reducible refine Gr.drew ?_ | with_reducible refine Gr.setCell ?_ (by first | (dsimp only; omega) | (simp only [World.size_alloc]; omega) | (with_reducible refine Gr.size ?_; (repeat (first | with_reducible exact Gr.refl _ | with_reducible assumption | with_reducible refine Gr.alloc ?_ _ | with_reducible refine Gr.drewN ?_ _ | with_reducible refine Gr.drew ?_ | with_reducible refine Gr.trans ?_ (by with_reducible assumption))); done)) _ | with_reducible refine Gr.trans ?_ (by with_reducible assumption)))⟩
theorem turns_no (x y k : Int) (w : World) (ht : Tab w) (ok : tuOk x y k = false) :
    Calls Tryd.prog 5 #[sp x y, iv k] w fun e w' => e = .returned (.bool true) ∧ Gr w w' := by
  have C1 := fun w h => Turn_any x y k w h
  have C2 := fun w => rTurn_any x y k w
  have a1 : tuA x y k = 0 := by simp [tuA, ok]
  have a2 : tuB x y k = 0 := by simp [tuB, ok]
  have a3 : tuC x y k = 0 := by simp [tuC, ok]
  have a4 : tuD x y k = 0 := by simp [tuD, ok]
  have a5 : tuE x y k = 1 := by simp [tuE, errIf, ok]
  rw [a1, a2, a3, a4, a5] at C1 C2
  have HT := hide ht
  have C1 := hide C1
  have C2 := hide C2
  clear ht ok a1 a2 a3 a4 a5
  go_enter Tryd.func5, Tryd.ntmps5
  go_wp2_with fail
  refine (C1.out _ (HT.out.gr (by repeat (first | with_reducible exact Gr.refl _ | with_reducible assumption | with_reducible refine Gr.alloc ?_ _ | with_reducible refine Gr.drewN ?_ _ | with_reducible refine Gr.drew ?_ | with_reducible refine Gr.setCell ?_ (by first | (dsimp only; omega) | (simp only [World.size_alloc]; omega) | (with_reducible refine Gr.size ?_; (repeat (first | with_reducible exact Gr.refl _ | with_reducible assumption | with_reducible refine Gr.alloc ?_ _ | with_reducible refine Gr.drewN ?_ _ | with_reducible refine Gr.drew ?_ | with_reducible refine Gr.trans ?_ (by with_reducible assumption))); done)) _ | with_reducible refine Gr.trans ?_ (by with_reducible assumption))))).mono ?_
  rintro e w1 ⟨rfl, g1⟩
  obtain ⟨X1, Y1, c1, f1⟩ := g1.use
  have z1 := g1.size
  simp only [World.size_alloc] at z1
  have l1 : w.heap.size < w1.heap.size := by omega
  clear z1
  go_wp2_with fail
  refine (C2.out _).mono ?_
  rintro e w2 ⟨rfl, g2⟩
  obtain ⟨X2, Y2, c2, f2⟩ := g2.use
  have z2 := g2.size
  simp only [World.size_alloc] at z2
  have l2 : w.heap.size < w2.heap.size := by omega
  have l3 : w1.heap.size < w2.heap.size := by omega
  clear z2
  go_wp2_with (go_at_call 19; refine (known_any _ (HT.out.gr (by repeat (first | with_reducible exact Gr.refl _ | with_reducible assumption | with_reducible refine Gr.alloc ?_ _ | with_reducible refine Gr.drewN ?_ _ | with_reducible refine Gr.drew ?_ | with_reducible refine Gr.setCell ?_ (by first | (dsimp only; omega) | (simp only [World.size_alloc]; omega) | (with_reducible refine Gr.size ?_; (repeat (first | with_reducible exact Gr.refl _ | with_reducible assumption | with_reducible refine Gr.alloc ?_ _ | with_reducible refine Gr.drewN ?_ _ | with_reducible refine Gr.drew ?_ | with_reducible refine Gr.trans ?_ (by with_reducible assumption))); done)) _ | with_reducible refine Gr.trans ?_ (by with_reducible assumption))))).mono ?_; rintro e w5 ⟨rfl, g5⟩)
  go_ret
  exact ⟨rfl, (by repeat (first | with_reducible exact Gr.refl _ | with_reducible assumption | with_reducible refine Gr.alloc ?_ _ | with_reducible refine Gr.drewN ?_ _ | with_reducible refine Gr.drew ?_ | with_reducible refine Gr.setCell ?_ (by first | (dsimp only; omega) | (simp only [World.size_alloc]; omega) | (with_reducible refine Gr.size ?_; (repeat (first | with_reducible exact Gr.refl _ | with_reducible assumption | with_reducible refine Gr.alloc ?_ _ | with_reducible refine Gr.drewN ?_ _ | with_reducible refine Gr.drew ?_ | with_reducible refine Gr.trans ?_ (by with_reducible assumption))); done)) _ | with_reducible refine Gr.trans ?_ (by with_reducible assumption)))⟩
theorem turns_walk (x y k : Int) (w : World) (ht : Tab w) :
    Calls Tryd.prog 5 #[sp x y, iv k] w fun e w' => e = .returned (.bool true) ∧ Gr w w' := by
  by_cases ok : tuOk x y k = true
  · have ok' := ok
    simp only [tuOk, Bool.and_eq_true, decide_eq_true_eq] at ok'
    obtain ⟨h1, k0, k1⟩ := ok'
    obtain ⟨hx, hy⟩ := slim_of h1
    obtain ⟨k, rfl⟩ := Int.eq_ofNat_of_zero_le k0
    obtain ⟨n1, n2⟩ := turn_norm x y k (by omega)
    obtain ⟨m1, m2⟩ := tn_lim x y k hx hy
    obtain ⟨p1, p2⟩ := lims_of m1
    obtain ⟨p3, p4⟩ := lims_of m2
    obtain ⟨q1, q2⟩ := Lim.orA (p1.mono (by omega)) (p2.mono (by omega)) (p1.mono (by omega)) (p2.mono (by omega))
    obtain ⟨q3, q4⟩ := Lim.orA (p3.mono (by omega)) (p4.mono (by omega)) (p3.mono (by omega)) (p4.mono (by omega))
    have C1 := fun w h => Turn_any x y k w h
    have C2 := fun w => rTurn_any x y k w
    have C3 := fun w => Multiply_any (tnA x y k) (tnB x y k) (tnA x y k) (tnB x y k) w
    have C4 := fun w => Multiply_any (tnC x y k) (tnD x y k) (tnC x y k) (tnD x y k) w
    simp only [tuA, tuB, tuC, tuD, tuE, errIf, ok, if_true, Int.toNat_natCast] at C1 C2
    simp only [muA, muC, muE, muB, errIf, m1, m2, Bool.and_self, if_true] at C3 C4
    exact turns_ok x y k _ _ _ _ _ _ _ _ w ht hx hy C1 C2 C3 C4 q1 (q2.mono (by omega)) q3 (q4.mono (by omega)) n1 n2
  · exact turns_no x y k w ht (by simpa using ok)
end Go.Proofs.YtfapbiiknfeidaaDoor
