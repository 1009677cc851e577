/-
  What the functions of turns return.
-/
import Derived.Test.YtfbhpeedjphpaaaDoorGeo3
namespace Go.Proofs.YtfbhpeedjphpaaaDoor
set_option linter.unusedVariables false
set_option linter.unusedSimpArgs false
open Go Go.ChangeShapes Go.WideShapes Go.ChangeAt Go.RowKit Go.Deep

abbrev sp (a b : Int) : Value := .agg #[iv a, iv b]
def sinB (a b : Int) : Bool := inB a 1000 && inB b 1000
theorem spotWithin_any (a b : Int) (w : World) :
    Calls Tryd.prog 32 #[sp a b] w fun e w' => e = .returned (.bool (sinB a b)) ∧ Gr w w' := by
  go_enter Tryd.func32, Tryd.ntmps32
  go_wp2_with (go_at_call 48; refine (within_any _ _ _ (by omega) (by omega)).mono ?_; rintro e w1 ⟨rfl, rfl⟩)
  all_goals
    go_ret
    exact ⟨ret_bool (by simp [sinB, *]), (by repeat (first | with_reducible exact Gr.refl _ | with_reducible assumption | with_reducible refine Gr.alloc ?_ _ | with_reducible refine Gr.drewN ?_ _ | with_reducible refine Gr.drew ?_ | with_reducible refine Gr.setCell ?_ (by first | (dsimp only; omega) | (simp only [World.size_alloc]; omega) | (with_reducible refine Gr.size ?_; (repeat (first | with_reducible exact Gr.refl _ | with_reducible assumption | with_reducible refine Gr.alloc ?_ _ | with_reducible refine Gr.drewN ?_ _ | with_reducible refine Gr.drew ?_ | with_reducible refine Gr.trans ?_ (by with_reducible assumption))); done)) _ | with_reducible refine Gr.trans ?_ (by with_reducible assumption)))⟩
/-- the doubled cosines of the multiples of 30 degrees -/
def cosA : Nat → Int | 0 => 2 | 2 => 1 | 4 => -1 | 6 => -2 | 8 => -1 | 10 => 1 | _ => 0
def cosB : Nat → Int | 1 => 1 | 5 => -1 | 7 => -1 | 11 => 1 | _ => 0
theorem times0_any (a c d : Int) (w : World) (ha : Lim 16384 a) (hc : Lim 16384 c) (hd : Lim 16384 d) :
    Calls Tryd.prog 50 #[rt a 0, rt c d] w fun e w' => e = .returned (rt (a * c) (a * d)) ∧ Gr w w' := by
  have h := times_any a 0 c d w ha ⟨by omega, by omega⟩ hc hd
  simpa only [Int.zero_mul, Int.mul_zero, Int.add_zero] using h
/-- the table of cosines as it lies -/
def Tab (w : World) : Prop := ∀ k, k < 12 → w.cell? ⟨0, k * 2, none⟩ = some (iv (cosA k)) ∧ w.cell? ⟨0, k * 2 + 1, none⟩ = some (iv (cosB k))
theorem Tab.gr {a b : World} (h : Tab a) (g : Gr a b) : Tab b := fun k hk =>
  ⟨(g.cell _ _ (cell_lt (by rw [(h k hk).1]; rfl))).trans (h k hk).1, (g.cell _ _ (cell_lt (by rw [(h k hk).2]; rfl))).trans (h k hk).2⟩
theorem Tab.pos {w : World} (h : Tab w) : 0 < w.heap.size := cell_lt (by rw [(h 0 (by omega)).1]; rfl)
theorem cos_lim (k : Nat) : Lim 2 (cosA k) ∧ Lim 2 (cosB k) := by
  unfold Lim cosA cosB
  constructor <;> split <;> omega
/-- a spot turned by k steps -/
def tnA (x y : Int) (k : Nat) : Int := x * cosA k - y * cosA ((k + 9) % 12)
def tnB (x y : Int) (k : Nat) : Int := x * cosB k - y * cosB ((k + 9) % 12)
def tnC (x y : Int) (k : Nat) : Int := x * cosA ((k + 9) % 12) + y * cosA k
def tnD (x y : Int) (k : Nat) : Int := x * cosB ((k + 9) % 12) + y * cosB k
set_option maxHeartbeats 1000000 in
theorem turn_any (x y : Int) (k : Nat) (w : World) (hx : Lim 1000 x) (hy : Lim 1000 y) (hk : k < 12) (ht : Tab w) :
    Calls Tryd.prog 33 #[sp x y, iv k] w fun e w' => e = .returned (pt (tnA x y k) (tnB x y k) (tnC x y k) (tnD x y k)) ∧ Gr w w' := by
  obtain ⟨l1, l2⟩ := cos_lim k
  obtain ⟨l3, l4⟩ := cos_lim ((k + 9) % 12)
  have l0 : Lim 0 0 := by unfold Lim; omega
  have b1 := Lim.mul hx l1
  have b2 := Lim.mul hx l2
  have b3 := Lim.mul hx l3
  have b4 := Lim.mul hx l4
  have b5 := Lim.mul hy l1
  have b6 := Lim.mul hy l2
  have b7 := Lim.mul hy l3
  have b8 := Lim.mul hy l4
  go_enter Tryd.func33, Tryd.ntmps33
  go_upto_region 1 with fail
  go_cut [5, 6] (fun s5 s6 wx => ∃ B5 B6 : Nat, s5 = .pointer (some ⟨B5, 0, none⟩) ∧ s6 = .pointer (some ⟨B6, 0, none⟩) ∧ Gr ((w.alloc (Obj.cells #[iv x, iv y] 44)).alloc (Obj.cells #[iv 0, iv 0, iv 0, iv 0] 40)) wx
      ∧ w.heap.size + 1 < B5 ∧ w.heap.size + 1 < B6 ∧ wx.cell? ⟨B5, 0, none⟩ = some (iv x) ∧ wx.cell? ⟨B5, 1, none⟩ = some (iv 0) ∧ wx.cell? ⟨B6, 0, none⟩ = some (iv y) ∧ wx.cell? ⟨B6, 1, none⟩ = some (iv 0))
  case first =>
    go_region
    all_goals
      go_wp2_with fail
      go_meet
      refine ⟨_, _, rfl, rfl, (by repeat (first | with_reducible exact Gr.refl _ | with_reducible assumption | with_reducible refine Gr.alloc ?_ _ | with_reducible refine Gr.drewN ?_ _ | with_reducible refine Gr.drew ?_ | with_reducible refine Gr.setCell ?_ (by first | (dsimp only; omega) | (simp only [World.size_alloc]; omega) | (with_reducible refine Gr.size ?_; (repeat (first | with_reducible exact Gr.refl _ | with_reducible assumption | with_reducible refine Gr.alloc ?_ _ | with_reducible refine Gr.drewN ?_ _ | with_reducible refine Gr.drew ?_ | with_reducible refine Gr.trans ?_ (by with_reducible assumption))); done)) _ | with_reducible refine Gr.trans ?_ (by with_reducible assumption))), by omega, by omega, by simp [go_sem, *], by simp [go_sem, *], by simp [go_sem, *], by simp [go_sem, *]⟩
  case rest =>
    obtain ⟨B5, B6, rfl, rfl, g1, n5, n6, k1, k2, k3, k4⟩ := hcut
    have htc : Tab wc := ht.gr (by repeat (first | with_reducible exact Gr.refl _ | with_reducible assumption | with_reducible refine Gr.alloc ?_ _ | with_reducible refine Gr.drewN ?_ _ | with_reducible refine Gr.drew ?_ | with_reducible refine Gr.setCell ?_ (by first | (dsimp only; omega) | (simp only [World.size_alloc]; omega) | (with_reducible refine Gr.size ?_; (repeat (first | with_reducible exact Gr.refl _ | with_reducible assumption | with_reducible refine Gr.alloc ?_ _ | with_reducible refine Gr.drewN ?_ _ | with_reducible refine Gr.drew ?_ | with_reducible refine Gr.trans ?_ (by with_reducible assumption))); done)) _ | with_reducible refine Gr.trans ?_ (by with_reducible assumption)))
    have hz := htc.pos
    have hz0 := g1.size
    simp only [World.size_alloc] at hz0
    obtain ⟨m1, m2⟩ := htc k hk
    obtain ⟨m3, m4⟩ := htc ((k + 9) % 12) (by omega)
    have hk0 : (0 : Int) ≤ (k : Int) := by omega
    have hk1 : (k : Int) < 12 := by omega
    go_upto_region 2 with fail
    go_cut [7, 8] (fun s7 s8 wx => ∃ B7 B8 : Nat, s7 = .pointer (some ⟨B7, 0, none⟩) ∧ s8 = .pointer (some ⟨B8, 0, none⟩) ∧ Gr wc wx
      ∧ w.heap.size + 1 < B7 ∧ w.heap.size + 1 < B8 ∧ wx.cell? ⟨B7, 0, none⟩ = some (iv (cosA k)) ∧ wx.cell? ⟨B7, 1, none⟩ = some (iv (cosB k)) ∧ wx.cell? ⟨B8, 0, none⟩ = some (iv (cosA ((k + 9) % 12))) ∧ wx.cell? ⟨B8, 1, none⟩ = some (iv (cosB ((k + 9) % 12))))
    case first =>
      go_region
      all_goals
        go_wp2_with fail
        go_meet
        refine ⟨_, _, rfl, rfl, (by repeat (first | with_reducible exact Gr.refl _ | with_reducible assumption | with_reducible refine Gr.alloc ?_ _ | with_reducible refine Gr.drewN ?_ _ | with_reducible refine Gr.drew ?_ | with_reducible refine Gr.setCell ?_ (by first | (dsimp only; omega) | (simp only [World.size_alloc]; omega) | (with_reducible refine Gr.size ?_; (repeat (first | with_reducible exact Gr.refl _ | with_reducible assumption | with_reducible refine Gr.alloc ?_ _ | with_reducible refine Gr.drewN ?_ _ | with_reducible refine Gr.drew ?_ | with_reducible refine Gr.trans ?_ (by with_reducible assumption))); done)) _ | with_reducible refine Gr.trans ?_ (by with_reducible assumption))), by omega, by omega, by simp [go_sem, *], by simp [go_sem, *], by simp [go_sem, *], by simp [go_sem, *]⟩
    case rest =>
      obtain ⟨B7, B8, rfl, rfl, g2, n7, n8, k5, k6, k7, k8⟩ := hcut
      have j1 := (g2.cell _ _ (cell_lt (by rw [k1]; rfl))).trans k1
      have j2 := (g2.cell _ _ (cell_lt (by rw [k2]; rfl))).trans k2
      have j3 := (g2.cell _ _ (cell_lt (by rw [k3]; rfl))).trans k3
      have j4 := (g2.cell _ _ (cell_lt (by rw [k4]; rfl))).trans k4
      have g3 := g1.trans g2
      have gw : Gr w wc := (by repeat (first | with_reducible exact Gr.refl _ | with_reducible assumption | with_reducible refine Gr.alloc ?_ _ | with_reducible refine Gr.drewN ?_ _ | with_reducible refine Gr.drew ?_ | with_reducible refine Gr.setCell ?_ (by first | (dsimp only; omega) | (simp only [World.size_alloc]; omega) | (with_reducible refine Gr.size ?_; (repeat (first | with_reducible exact Gr.refl _ | with_reducible assumption | with_reducible refine Gr.alloc ?_ _ | with_reducible refine Gr.drewN ?_ _ | with_reducible refine Gr.drew ?_ | with_reducible refine Gr.trans ?_ (by with_reducible assumption))); done)) _ | with_reducible refine Gr.trans ?_ (by with_reducible assumption)))
      have r0 : wc.cell? ⟨w.heap.size + 1, 0, none⟩ = some (iv 0) := by rw [g3.cell _ _ (by simp)]; simp [go_sem]
      have r1 : wc.cell? ⟨w.heap.size + 1, 1, none⟩ = some (iv 0) := by rw [g3.cell _ _ (by simp)]; simp [go_sem]
      have r2 : wc.cell? ⟨w.heap.size + 1, 2, none⟩ = some (iv 0) := by rw [g3.cell _ _ (by simp)]; simp [go_sem]
      have r3 : wc.cell? ⟨w.heap.size + 1, 3, none⟩ = some (iv 0) := by rw [g3.cell _ _ (by simp)]; simp [go_sem]
      have q0 : wc.frozen? ⟨w.heap.size + 1, 0, none⟩ = false := by rw [g3.frozen _ _ (by simp)]; simp [go_sem]
      have q1 : wc.frozen? ⟨w.heap.size + 1, 1, none⟩ = false := by rw [g3.frozen _ _ (by simp)]; simp [go_sem]
      have q2 : wc.frozen? ⟨w.heap.size + 1, 2, none⟩ = false := by rw [g3.frozen _ _ (by simp)]; simp [go_sem]
      have q3 : wc.frozen? ⟨w.heap.size + 1, 3, none⟩ = false := by rw [g3.frozen _ _ (by simp)]; simp [go_sem]
      have z5 : B5 < wc.heap.size := cell_lt (by rw [j1]; rfl)
      have z6 : B6 < wc.heap.size := cell_lt (by rw [j3]; rfl)
      have z7 : B7 < wc.heap.size := cell_lt (by rw [k5]; rfl)
      have z8 : B8 < wc.heap.size := cell_lt (by rw [k7]; rfl)
      clear k1 k2 k3 k4 g1 g2 g3 htc hz hz0 m1 m2 m3 m4 ht
      go_upto_region 3 with fail
      go_region_held3 (fun w' => Gr w w' ∧ Ab (w.heap.size + 1) wc w' ∧ ∀ ii oo, w.heap.size + 1 < ii → ii < wc.heap.size → w'.cell? ⟨ii, oo, none⟩ = wc.cell? ⟨ii, oo, none⟩) ((refine And.intro ?_ (And.intro ?_ (Ab.cell ?_)) <;> (repeat (first | with_reducible exact Gr.refl _ | with_reducible exact Ab.refl _ _ | with_reducible assumption | with_reducible refine Gr.alloc ?_ _ | with_reducible refine Ab.alloc ?_ _ | with_reducible refine Gr.drew ?_ | with_reducible refine Ab.drew ?_ | with_reducible refine Gr.setCell ?_ (by dsimp only; omega) _ | with_reducible refine Ab.setCell ?_ (by dsimp only; omega) _ | with_reducible refine Gr.trans ?_ (by with_reducible assumption) | with_reducible refine Ab.gr ?_ (by with_reducible assumption))); done))
        (first
          | (go_at_call 50; refine (times0_any _ _ _ _ (by apply Lim.mono; with_reducible assumption; omega) (by apply Lim.mono; with_reducible assumption; omega) (by apply Lim.mono; with_reducible assumption; omega)).mono ?_; rintro e w1 ⟨rfl, g1⟩; obtain ⟨X1, Y1, c1, f1⟩ := g1.use)
          | (go_at_call 49; refine (minus_any _ _ _ _ _ (by apply Lim.mono; with_reducible assumption; omega) (by apply Lim.mono; with_reducible assumption; omega) (by apply Lim.mono; with_reducible assumption; omega) (by apply Lim.mono; with_reducible assumption; omega)).mono ?_; rintro e w1 ⟨rfl, g1⟩; obtain ⟨X1, Y1, c1, f1⟩ := g1.use)
          | (go_at_call 51; refine (plus_any _ _ _ _ _ (by apply Lim.mono; with_reducible assumption; omega) (by apply Lim.mono; with_reducible assumption; omega) (by apply Lim.mono; with_reducible assumption; omega) (by apply Lim.mono; with_reducible assumption; omega)).mono ?_; rintro e w1 ⟨rfl, g1⟩; obtain ⟨X1, Y1, c1, f1⟩ := g1.use))
      go_wp2_with fail
      refine bodyPost_ret (v := pt (tnA x y k) (tnB x y k) (tnC x y k) (tnD x y k)) (by simp [results, Tryd.results33, go_sem, tnA, tnB, tnC, tnD, *]) rfl ⟨rfl, (by repeat (first | with_reducible exact Gr.refl _ | with_reducible assumption | with_reducible refine Gr.alloc ?_ _ | with_reducible refine Gr.drewN ?_ _ | with_reducible refine Gr.drew ?_ | with_reducible refine Gr.setCell ?_ (by first | (dsimp only; omega) | (simp only [World.size_alloc]; omega) | (with_reducible refine Gr.size ?_; (repeat (first | with_reducible exact Gr.refl _ | with_reducible assumption | with_reducible refine Gr.alloc ?_ _ | with_reducible refine Gr.drewN ?_ _ | with_reducible refine Gr.drew ?_ | with_reducible refine Gr.trans ?_ (by with_reducible assumption))); done)) _ | with_reducible refine Gr.trans ?_ (by with_reducible assumption)))⟩
end Go.Proofs.YtfbhpeedjphpaaaDoor
