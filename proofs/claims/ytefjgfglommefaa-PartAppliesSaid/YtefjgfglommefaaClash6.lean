/-
  The code's Clash of two faces.
-/
import Derived.Test.YtefjgfglommefaaClash4
namespace Go.Proofs.Ytefjgfglommefaa
set_option linter.unusedVariables false
set_option linter.unusedSimpArgs false
open Go Go.ChangeShapes Go.WideShapes Go.ChangeAt Go.RowKit Go.Deep

def nrm (f : Fc) : Int := 3 - axK f.ux f.uy f.uz - axK f.vx f.vy f.vz
def lo0 (f : Fc) : Int := lw 3 0 f.ox (fx f)
def lo1 (f : Fc) : Int := lw 3 1 f.oy (fy f)
def lo2 (f : Fc) : Int := lw 3 2 f.oz (fz f)
def hi0 (f : Fc) : Int := hw 3 0 f.ox (fx f)
def hi1 (f : Fc) : Int := hw 3 1 f.oy (fy f)
def hi2 (f : Fc) : Int := hw 3 2 f.oz (fz f)
def gapB (a b c d : Int) : Bool := decide (a < d) && decide (c < b)
def clC (a b : Fc) : Bool := soB a && soB b && !(nrm a == nrm b) && (gapB (lo0 a) (hi0 a) (lo0 b) (hi0 b) && gapB (lo1 a) (hi1 a) (lo1 b) (hi1 b) && gapB (lo2 a) (hi2 a) (lo2 b) (hi2 b))
theorem box_yes (f : Fc) (w : World) (h : soB f = true) : Calls Try.prog 63 #[fv f] w fun e w' => e = .returned (.tuple #[.agg #[iv (lo0 f), iv (lo1 f), iv (lo2 f), iv (hi0 f), iv (hi1 f), iv (hi2 f), iv (nrm f)], .bool true]) ∧ Gr w w' := boxOf_yes f w h
theorem box_no (f : Fc) (w : World) (h : soB f = false) : Calls Try.prog 63 #[fv f] w fun e w' => e = .returned (.tuple #[.agg #[iv 0, iv 0, iv 0, iv 0, iv 0, iv 0, iv 0], .bool false]) ∧ Gr w w' := boxOf_no f w h
set_option maxRecDepth 100000 in
set_option maxHeartbeats 4000000 in
theorem clash_no (a b : Fc) (w : World) (h : soB a = false ∨ soB b = false ∨ (nrm a == nrm b) = true) :
    Calls Try.prog 37 #[fv a, fv b] w fun e w' => e = .returned (.bool false) ∧ Gr w w' := by
  have CA : ∃ v0 v1 v2 v3 v4 v5 v6 : Int, ∀ w, Calls Try.prog 63 #[fv a] w fun e w' => e = .returned (.tuple #[.agg #[iv v0, iv v1, iv v2, iv v3, iv v4, iv v5, iv v6], .bool (soB a)]) ∧ Gr w w' := by
    cases ha : soB a with
    | true => exact ⟨_, _, _, _, _, _, _, fun w => box_yes a w ha⟩
    | false => exact ⟨_, _, _, _, _, _, _, fun w => box_no a w ha⟩
  have CB : ∃ v0 v1 v2 v3 v4 v5 v6 : Int, ∀ w, Calls Try.prog 63 #[fv b] w fun e w' => e = .returned (.tuple #[.agg #[iv v0, iv v1, iv v2, iv v3, iv v4, iv v5, iv v6], .bool (soB b)]) ∧ Gr w w' := by
    cases hb : soB b with
    | true => exact ⟨_, _, _, _, _, _, _, fun w => box_yes b w hb⟩
    | false => exact ⟨_, _, _, _, _, _, _, fun w => box_no b w hb⟩
  by_cases h2 : soB a = true ∧ soB b = true
  · obtain ⟨ha, hb⟩ := h2
    have hn : (nrm a == nrm b) = true := by rcases h with h | h | h <;> simp_all
    have HA := hide (fun w => box_yes a w ha)
    have HB := hide (fun w => box_yes b w hb)
    clear CA CB h
    go_enter Try.func37, Try.ntmps37
    go_wp2_with fail
    refine (HA.out _).mono ?_
    rintro e w1 ⟨rfl, g1⟩
    obtain ⟨X1, Y1, c1, f1⟩ := g1.use
    have z1 := g1.size
    simp only [World.size_alloc] at z1
    have l1 : w.heap.size + 1 < w1.heap.size := by omega
    go_wp2_with fail
    refine (HB.out _).mono ?_
    rintro e w2 ⟨rfl, g2⟩
    obtain ⟨X2, Y2, c2, f2⟩ := g2.use
    have z2 := g2.size
    simp only [World.size_alloc, World.size_setCell] at z2
    have l2 : w1.heap.size < w2.heap.size := by omega
    go_wp2
    go_ret
    exact ⟨rfl, (by repeat (first | with_reducible exact Gr.refl _ | with_reducible assumption | with_reducible refine Gr.alloc ?_ _ | with_reducible refine Gr.drewN ?_ _ | with_reducible refine Gr.drew ?_ | with_reducible refine Gr.setCell ?_ (by first | (dsimp only; omega) | (simp only [World.size_alloc]; omega) | (with_reducible refine Gr.size ?_; (repeat (first | with_reducible exact Gr.refl _ | with_reducible assumption | with_reducible refine Gr.alloc ?_ _ | with_reducible refine Gr.drewN ?_ _ | with_reducible refine Gr.drew ?_ | with_reducible refine Gr.trans ?_ (by with_reducible assumption))); done)) _ | with_reducible refine Gr.trans ?_ (by with_reducible assumption)))⟩
  · obtain ⟨v0, v1, v2, v3, v4, v5, v6, HA0⟩ := CA
    obtain ⟨u0, u1, u2, u3, u4, u5, u6, HB0⟩ := CB
    have HA := hide HA0
    have HB := hide HB0
    clear HA0 HB0 h
    generalize soB a = sa at *
    generalize soB b = sb at *
    have h3 : (sa && sb) = false := by cases sa <;> cases sb <;> simp_all
    clear h2
    cases sa <;> cases sb
    case true.true => simp at h3
    all_goals
      clear h3
      go_enter Try.func37, Try.ntmps37
      go_wp2_with fail
      refine (HA.out _).mono ?_
      rintro e w1 ⟨rfl, g1⟩
      obtain ⟨X1, Y1, c1, f1⟩ := g1.use
      have z1 := g1.size
      simp only [World.size_alloc] at z1
      have l1 : w.heap.size + 1 < w1.heap.size := by omega
      go_wp2_with fail
      refine (HB.out _).mono ?_
      rintro e w2 ⟨rfl, g2⟩
      go_wp2
      go_ret
      exact ⟨rfl, (by repeat (first | with_reducible exact Gr.refl _ | with_reducible assumption | with_reducible refine Gr.alloc ?_ _ | with_reducible refine Gr.drewN ?_ _ | with_reducible refine Gr.drew ?_ | with_reducible refine Gr.setCell ?_ (by first | (dsimp only; omega) | (simp only [World.size_alloc]; omega) | (with_reducible refine Gr.size ?_; (repeat (first | with_reducible exact Gr.refl _ | with_reducible assumption | with_reducible refine Gr.alloc ?_ _ | with_reducible refine Gr.drewN ?_ _ | with_reducible refine Gr.drew ?_ | with_reducible refine Gr.trans ?_ (by with_reducible assumption))); done)) _ | with_reducible refine Gr.trans ?_ (by with_reducible assumption)))⟩
end Go.Proofs.Ytefjgfglommefaa
