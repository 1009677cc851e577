/-
  What Overlap, Inside and Distance return, of the program and of the reference.
-/
import Derived.Test.YtfapbiiknfeidaaDoorRects1
namespace Go.Proofs.YtfapbiiknfeidaaDoor
set_option linter.unusedVariables false
set_option linter.unusedSimpArgs false
open Go Go.ChangeShapes Go.WideShapes Go.ChangeAt Go.RowKit Go.Deep

structure Four (l a b c d : Int) : Prop where
  l1 : Lim l a
  l2 : Lim l b
  l3 : Lim l c
  l4 : Lim l d
theorem vr_lims {x y u h : Int} (k : vrB x y u h = true) : Four 2097152 x y u h ∧ Lim 2097152 (x + u) ∧ Lim 2097152 (y + h) := by
  simp only [vrB, Bool.and_eq_true, vsB_iff] at k
  exact ⟨⟨by unfold Lim; omega, by unfold Lim; omega, by unfold Lim; omega, by unfold Lim; omega⟩, by unfold Lim; omega, by unfold Lim; omega⟩
/-- what the functions of two rectangles return -/
def ovB (x y u h a b c d : Int) : Bool := (vrB x y u h && vrB a b c d) && (soB x u a c && soB y h b d)
def isB (x y u h a b c d : Int) : Bool := (vrB x y u h && vrB a b c d) && (siB x u a c && siB y h b d)
def diM (x y : Int) : Int := if x < y then y else x
def diV (x y u h a b c d : Int) : Int := if vrB x y u h && vrB a b c d then diM (poV (gaV x (x + u) a (a + c))) (poV (gaV y (y + h) b (b + d))) else 0
theorem Overlap_any (x y u h a b c d : Int) (w : World) :
    Calls Tryd.prog 38 #[rc x y u h, rc a b c d] w fun e w' => e = .returned (.bool (ovB x y u h a b c d)) ∧ Gr w w' := by
  by_cases h1 : vrB x y u h = true
  · by_cases h2 : vrB a b c d = true
    · obtain ⟨⟨p1, p2, p3, p4⟩, p5, p6⟩ := vr_lims h1
      obtain ⟨⟨q1, q2, q3, q4⟩, q5, q6⟩ := vr_lims h2
      go_enter Tryd.func38, Tryd.ntmps38
      go_wp2_with (first | (go_at_call 36; refine (ValidRect_any _ _ _ _ _).mono ?_; rintro e w1 ⟨rfl, g1⟩; obtain ⟨X1, Y1, c1, f1⟩ := g1.use) | (go_at_call 75; refine (spansOverlap_any _ _ _ _ _ (by apply Lim.mono; with_reducible assumption; omega) (by apply Lim.mono; with_reducible assumption; omega) (by apply Lim.mono; with_reducible assumption; omega) (by apply Lim.mono; with_reducible assumption; omega)).mono ?_; rintro e w1 ⟨rfl, rfl⟩))
      all_goals
        go_ret
        exact ⟨ret_bool (by simp [ovB, h1, h2, *]), (by repeat (first | with_reducible exact Gr.refl _ | with_reducible assumption | with_reducible refine Gr.alloc ?_ _ | with_reducible refine Gr.drewN ?_ _ | with_reducible refine Gr.drew ?_ | with_reducible refine Gr.setCell ?_ (by first | (dsimp only; omega) | (simp only [World.size_alloc]; omega) | (with_reducible refine Gr.size ?_; (repeat (first | with_reducible exact Gr.refl _ | with_reducible assumption | with_reducible refine Gr.alloc ?_ _ | with_reducible refine Gr.drewN ?_ _ | with_reducible refine Gr.drew ?_ | with_reducible refine Gr.trans ?_ (by with_reducible assumption))); done)) _ | with_reducible refine Gr.trans ?_ (by with_reducible assumption)))⟩
    · have h2' : vrB a b c d = false := by simpa using h2
      clear h2
      go_enter Tryd.func38, Tryd.ntmps38
      go_wp2_with (first | (go_at_call 36; refine (ValidRect_any _ _ _ _ _).mono ?_; rintro e w1 ⟨rfl, g1⟩; obtain ⟨X1, Y1, c1, f1⟩ := g1.use))
      go_ret
      exact ⟨ret_bool (by simp [ovB, h2']), (by repeat (first | with_reducible exact Gr.refl _ | with_reducible assumption | with_reducible refine Gr.alloc ?_ _ | with_reducible refine Gr.drewN ?_ _ | with_reducible refine Gr.drew ?_ | with_reducible refine Gr.setCell ?_ (by first | (dsimp only; omega) | (simp only [World.size_alloc]; omega) | (with_reducible refine Gr.size ?_; (repeat (first | with_reducible exact Gr.refl _ | with_reducible assumption | with_reducible refine Gr.alloc ?_ _ | with_reducible refine Gr.drewN ?_ _ | with_reducible refine Gr.drew ?_ | with_reducible refine Gr.trans ?_ (by with_reducible assumption))); done)) _ | with_reducible refine Gr.trans ?_ (by with_reducible assumption)))⟩
  · have h1' : vrB x y u h = false := by simpa using h1
    clear h1
    go_enter Tryd.func38, Tryd.ntmps38
    go_wp2_with (first | (go_at_call 36; refine (ValidRect_any _ _ _ _ _).mono ?_; rintro e w1 ⟨rfl, g1⟩; obtain ⟨X1, Y1, c1, f1⟩ := g1.use))
    go_ret
    exact ⟨ret_bool (by simp [ovB, h1']), (by repeat (first | with_reducible exact Gr.refl _ | with_reducible assumption | with_reducible refine Gr.alloc ?_ _ | with_reducible refine Gr.drewN ?_ _ | with_reducible refine Gr.drew ?_ | with_reducible refine Gr.setCell ?_ (by first | (dsimp only; omega) | (simp only [World.size_alloc]; omega) | (with_reducible refine Gr.size ?_; (repeat (first | with_reducible exact Gr.refl _ | with_reducible assumption | with_reducible refine Gr.alloc ?_ _ | with_reducible refine Gr.drewN ?_ _ | with_reducible refine Gr.drew ?_ | with_reducible refine Gr.trans ?_ (by with_reducible assumption))); done)) _ | with_reducible refine Gr.trans ?_ (by with_reducible assumption)))⟩
theorem Inside_any (x y u h a b c d : Int) (w : World) :
    Calls Tryd.prog 40 #[rc x y u h, rc a b c d] w fun e w' => e = .returned (.bool (isB x y u h a b c d)) ∧ Gr w w' := by
  by_cases h1 : vrB x y u h = true
  · by_cases h2 : vrB a b c d = true
    · obtain ⟨⟨p1, p2, p3, p4⟩, p5, p6⟩ := vr_lims h1
      obtain ⟨⟨q1, q2, q3, q4⟩, q5, q6⟩ := vr_lims h2
      go_enter Tryd.func40, Tryd.ntmps40
      go_wp2_with (first | (go_at_call 36; refine (ValidRect_any _ _ _ _ _).mono ?_; rintro e w1 ⟨rfl, g1⟩; obtain ⟨X1, Y1, c1, f1⟩ := g1.use) | (go_at_call 77; refine (spanInside_any _ _ _ _ _ (by apply Lim.mono; with_reducible assumption; omega) (by apply Lim.mono; with_reducible assumption; omega) (by apply Lim.mono; with_reducible assumption; omega) (by apply Lim.mono; with_reducible assumption; omega)).mono ?_; rintro e w1 ⟨rfl, rfl⟩))
      all_goals
        go_ret
        exact ⟨ret_bool (by simp [isB, h1, h2, *]), (by repeat (first | with_reducible exact Gr.refl _ | with_reducible assumption | with_reducible refine Gr.alloc ?_ _ | with_reducible refine Gr.drewN ?_ _ | with_reducible refine Gr.drew ?_ | with_reducible refine Gr.setCell ?_ (by first | (dsimp only; omega) | (simp only [World.size_alloc]; omega) | (with_reducible refine Gr.size ?_; (repeat (first | with_reducible exact Gr.refl _ | with_reducible assumption | with_reducible refine Gr.alloc ?_ _ | with_reducible refine Gr.drewN ?_ _ | with_reducible refine Gr.drew ?_ | with_reducible refine Gr.trans ?_ (by with_reducible assumption))); done)) _ | with_reducible refine Gr.trans ?_ (by with_reducible assumption)))⟩
    · have h2' : vrB a b c d = false := by simpa using h2
      clear h2
      go_enter Tryd.func40, Tryd.ntmps40
      go_wp2_with (first | (go_at_call 36; refine (ValidRect_any _ _ _ _ _).mono ?_; rintro e w1 ⟨rfl, g1⟩; obtain ⟨X1, Y1, c1, f1⟩ := g1.use))
      go_ret
      exact ⟨ret_bool (by simp [isB, h2']), (by repeat (first | with_reducible exact Gr.refl _ | with_reducible assumption | with_reducible refine Gr.alloc ?_ _ | with_reducible refine Gr.drewN ?_ _ | with_reducible refine Gr.drew ?_ | with_reducible refine Gr.setCell ?_ (by first | (dsimp only; omega) | (simp only [World.size_alloc]; omega) | (with_reducible refine Gr.size ?_; (repeat (first | with_reducible exact Gr.refl _ | with_reducible assumption | with_reducible refine Gr.alloc ?_ _ | with_reducible refine Gr.drewN ?_ _ | with_reducible refine Gr.drew ?_ | with_reducible refine Gr.trans ?_ (by with_reducible assumption))); done)) _ | with_reducible refine Gr.trans ?_ (by with_reducible assumption)))⟩
  · have h1' : vrB x y u h = false := by simpa using h1
    clear h1
    go_enter Tryd.func40, Tryd.ntmps40
    go_wp2_with (first | (go_at_call 36; refine (ValidRect_any _ _ _ _ _).mono ?_; rintro e w1 ⟨rfl, g1⟩; obtain ⟨X1, Y1, c1, f1⟩ := g1.use))
    go_ret
    exact ⟨ret_bool (by simp [isB, h1']), (by repeat (first | with_reducible exact Gr.refl _ | with_reducible assumption | with_reducible refine Gr.alloc ?_ _ | with_reducible refine Gr.drewN ?_ _ | with_reducible refine Gr.drew ?_ | with_reducible refine Gr.setCell ?_ (by first | (dsimp only; omega) | (simp only [World.size_alloc]; omega) | (with_reducible refine Gr.size ?_; (repeat (first | with_reducible exact Gr.refl _ | with_reducible assumption | with_reducible refine Gr.alloc ?_ _ | with_reducible refine Gr.drewN ?_ _ | with_reducible refine Gr.drew ?_ | with_reducible refine Gr.trans ?_ (by with_reducible assumption))); done)) _ | with_reducible refine Gr.trans ?_ (by with_reducible assumption)))⟩
theorem soB_gap (a l b m : Int) : soB a l b m = decide (gaV a (a + l) b (b + m) < 0) := by
  unfold soB gaV
  by_cases h1 : a < b + m <;> by_cases h2 : b < a + l <;> simp [h1, h2] <;> split <;> omega
theorem rOverlap_any (x y u h a b c d : Int) (w : World) :
    Calls Tryd.prog 39 #[rc x y u h, rc a b c d] w fun e w' => e = .returned (.bool (ovB x y u h a b c d)) ∧ Gr w w' := by
  by_cases h1 : vrB x y u h = true
  · by_cases h2 : vrB a b c d = true
    · obtain ⟨⟨p1, p2, p3, p4⟩, p5, p6⟩ := vr_lims h1
      obtain ⟨⟨q1, q2, q3, q4⟩, q5, q6⟩ := vr_lims h2
      obtain ⟨_, _⟩ := id p1
      obtain ⟨_, _⟩ := id p2
      obtain ⟨_, _⟩ := id p3
      obtain ⟨_, _⟩ := id p4
      obtain ⟨_, _⟩ := id q1
      obtain ⟨_, _⟩ := id q2
      obtain ⟨_, _⟩ := id q3
      obtain ⟨_, _⟩ := id q4
      go_enter Tryd.func39, Tryd.ntmps39
      go_wp2_with (first | (go_at_call 37; refine (rValidRect_any _ _ _ _ _).mono ?_; rintro e w1 ⟨rfl, g1⟩; obtain ⟨X1, Y1, c1, f1⟩ := g1.use) | (go_at_call 76; refine (gap_any _ _ _ _ _ (by apply Lim.mono; with_reducible assumption; omega) (by apply Lim.mono; with_reducible assumption; omega) (by apply Lim.mono; with_reducible assumption; omega) (by apply Lim.mono; with_reducible assumption; omega)).mono ?_; rintro e w1 ⟨rfl, rfl⟩))
      all_goals
        go_ret
        exact ⟨ret_bool (by first | (simp [ovB, h1, h2, soB_gap]; done) | (simp [ovB, h1, h2, soB_gap]; omega)), (by repeat (first | with_reducible exact Gr.refl _ | with_reducible assumption | with_reducible refine Gr.alloc ?_ _ | with_reducible refine Gr.drewN ?_ _ | with_reducible refine Gr.drew ?_ | with_reducible refine Gr.setCell ?_ (by first | (dsimp only; omega) | (simp only [World.size_alloc]; omega) | (with_reducible refine Gr.size ?_; (repeat (first | with_reducible exact Gr.refl _ | with_reducible assumption | with_reducible refine Gr.alloc ?_ _ | with_reducible refine Gr.drewN ?_ _ | with_reducible refine Gr.drew ?_ | with_reducible refine Gr.trans ?_ (by with_reducible assumption))); done)) _ | with_reducible refine Gr.trans ?_ (by with_reducible assumption)))⟩
    · have h2' : vrB a b c d = false := by simpa using h2
      clear h2
      go_enter Tryd.func39, Tryd.ntmps39
      go_wp2_with (first | (go_at_call 37; refine (rValidRect_any _ _ _ _ _).mono ?_; rintro e w1 ⟨rfl, g1⟩; obtain ⟨X1, Y1, c1, f1⟩ := g1.use))
      go_ret
      exact ⟨ret_bool (by simp [ovB, h2']), (by repeat (first | with_reducible exact Gr.refl _ | with_reducible assumption | with_reducible refine Gr.alloc ?_ _ | with_reducible refine Gr.drewN ?_ _ | with_reducible refine Gr.drew ?_ | with_reducible refine Gr.setCell ?_ (by first | (dsimp only; omega) | (simp only [World.size_alloc]; omega) | (with_reducible refine Gr.size ?_; (repeat (first | with_reducible exact Gr.refl _ | with_reducible assumption | with_reducible refine Gr.alloc ?_ _ | with_reducible refine Gr.drewN ?_ _ | with_reducible refine Gr.drew ?_ | with_reducible refine Gr.trans ?_ (by with_reducible assumption))); done)) _ | with_reducible refine Gr.trans ?_ (by with_reducible assumption)))⟩
  · have h1' : vrB x y u h = false := by simpa using h1
    clear h1
    go_enter Tryd.func39, Tryd.ntmps39
    go_wp2_with (first | (go_at_call 37; refine (rValidRect_any _ _ _ _ _).mono ?_; rintro e w1 ⟨rfl, g1⟩; obtain ⟨X1, Y1, c1, f1⟩ := g1.use))
    go_ret
    exact ⟨ret_bool (by simp [ovB, h1']), (by repeat (first | with_reducible exact Gr.refl _ | with_reducible assumption | with_reducible refine Gr.alloc ?_ _ | with_reducible refine Gr.drewN ?_ _ | with_reducible refine Gr.drew ?_ | with_reducible refine Gr.setCell ?_ (by first | (dsimp only; omega) | (simp only [World.size_alloc]; omega) | (with_reducible refine Gr.size ?_; (repeat (first | with_reducible exact Gr.refl _ | with_reducible assumption | with_reducible refine Gr.alloc ?_ _ | with_reducible refine Gr.drewN ?_ _ | with_reducible refine Gr.drew ?_ | with_reducible refine Gr.trans ?_ (by with_reducible assumption))); done)) _ | with_reducible refine Gr.trans ?_ (by with_reducible assumption)))⟩
theorem rInside_any (x y u h a b c d : Int) (w : World) :
    Calls Tryd.prog 41 #[rc x y u h, rc a b c d] w fun e w' => e = .returned (.bool (isB x y u h a b c d)) ∧ Gr w w' := by
  by_cases h1 : vrB x y u h = true
  · by_cases h2 : vrB a b c d = true
    · obtain ⟨⟨p1, p2, p3, p4⟩, p5, p6⟩ := vr_lims h1
      obtain ⟨⟨q1, q2, q3, q4⟩, q5, q6⟩ := vr_lims h2
      obtain ⟨_, _⟩ := id p1
      obtain ⟨_, _⟩ := id p2
      obtain ⟨_, _⟩ := id p3
      obtain ⟨_, _⟩ := id p4
      obtain ⟨_, _⟩ := id q1
      obtain ⟨_, _⟩ := id q2
      obtain ⟨_, _⟩ := id q3
      obtain ⟨_, _⟩ := id q4
      go_enter Tryd.func41, Tryd.ntmps41
      go_wp2_with (first | (go_at_call 37; refine (rValidRect_any _ _ _ _ _).mono ?_; rintro e w1 ⟨rfl, g1⟩; obtain ⟨X1, Y1, c1, f1⟩ := g1.use))
      all_goals
        go_ret
        exact ⟨ret_bool (by by_cases hh : y + h ≤ b + d <;> simp [isB, siB, h1, h2, hh] <;> omega), (by repeat (first | with_reducible exact Gr.refl _ | with_reducible assumption | with_reducible refine Gr.alloc ?_ _ | with_reducible refine Gr.drewN ?_ _ | with_reducible refine Gr.drew ?_ | with_reducible refine Gr.setCell ?_ (by first | (dsimp only; omega) | (simp only [World.size_alloc]; omega) | (with_reducible refine Gr.size ?_; (repeat (first | with_reducible exact Gr.refl _ | with_reducible assumption | with_reducible refine Gr.alloc ?_ _ | with_reducible refine Gr.drewN ?_ _ | with_reducible refine Gr.drew ?_ | with_reducible refine Gr.trans ?_ (by with_reducible assumption))); done)) _ | with_reducible refine Gr.trans ?_ (by with_reducible assumption)))⟩
    · have h2' : vrB a b c d = false := by simpa using h2
      clear h2
      go_enter Tryd.func41, Tryd.ntmps41
      go_wp2_with (first | (go_at_call 37; refine (rValidRect_any _ _ _ _ _).mono ?_; rintro e w1 ⟨rfl, g1⟩; obtain ⟨X1, Y1, c1, f1⟩ := g1.use))
      go_ret
      exact ⟨ret_bool (by simp [isB, h2']), (by repeat (first | with_reducible exact Gr.refl _ | with_reducible assumption | with_reducible refine Gr.alloc ?_ _ | with_reducible refine Gr.drewN ?_ _ | with_reducible refine Gr.drew ?_ | with_reducible refine Gr.setCell ?_ (by first | (dsimp only; omega) | (simp only [World.size_alloc]; omega) | (with_reducible refine Gr.size ?_; (repeat (first | with_reducible exact Gr.refl _ | with_reducible assumption | with_reducible refine Gr.alloc ?_ _ | with_reducible refine Gr.drewN ?_ _ | with_reducible refine Gr.drew ?_ | with_reducible refine Gr.trans ?_ (by with_reducible assumption))); done)) _ | with_reducible refine Gr.trans ?_ (by with_reducible assumption)))⟩
  · have h1' : vrB x y u h = false := by simpa using h1
    clear h1
    go_enter Tryd.func41, Tryd.ntmps41
    go_wp2_with (first | (go_at_call 37; refine (rValidRect_any _ _ _ _ _).mono ?_; rintro e w1 ⟨rfl, g1⟩; obtain ⟨X1, Y1, c1, f1⟩ := g1.use))
    go_ret
    exact ⟨ret_bool (by simp [isB, h1']), (by repeat (first | with_reducible exact Gr.refl _ | with_reducible assumption | with_reducible refine Gr.alloc ?_ _ | with_reducible refine Gr.drewN ?_ _ | with_reducible refine Gr.drew ?_ | with_reducible refine Gr.setCell ?_ (by first | (dsimp only; omega) | (simp only [World.size_alloc]; omega) | (with_reducible refine Gr.size ?_; (repeat (first | with_reducible exact Gr.refl _ | with_reducible assumption | with_reducible refine Gr.alloc ?_ _ | with_reducible refine Gr.drewN ?_ _ | with_reducible refine Gr.drew ?_ | with_reducible refine Gr.trans ?_ (by with_reducible assumption))); done)) _ | with_reducible refine Gr.trans ?_ (by with_reducible assumption)))⟩
set_option maxHeartbeats 1000000 in
theorem Distance_any (x y u h a b c d : Int) (w : World) :
    Calls Tryd.prog 42 #[rc x y u h, rc a b c d] w fun e w' => e = .returned (iv (diV x y u h a b c d)) ∧ Gr w w' := by
  by_cases h1 : vrB x y u h = true
  · by_cases h2 : vrB a b c d = true
    · obtain ⟨⟨p1, p2, p3, p4⟩, p5, p6⟩ := vr_lims h1
      obtain ⟨⟨q1, q2, q3, q4⟩, q5, q6⟩ := vr_lims h2
      go_enter Tryd.func42, Tryd.ntmps42
      go_upto_region 3 with (go_at_call 36; refine (ValidRect_any _ _ _ _ _).mono ?_; rintro e w1 ⟨rfl, g1⟩; obtain ⟨X1, Y1, c1, f1⟩ := g1.use)
      go_region_held3 (fun w' => Gr (((w.alloc (Obj.cells #[iv x, iv y, iv u, iv h] 58)).alloc (Obj.cells #[iv a, iv b, iv c, iv d] 58))) w' ∧ ∀ ii oo, ii < (((w.alloc (Obj.cells #[iv x, iv y, iv u, iv h] 58)).alloc (Obj.cells #[iv a, iv b, iv c, iv d] 58))).heap.size → w'.cell? ⟨ii, oo, none⟩ = (((w.alloc (Obj.cells #[iv x, iv y, iv u, iv h] 58)).alloc (Obj.cells #[iv a, iv b, iv c, iv d] 58))).cell? ⟨ii, oo, none⟩) ((refine And.intro ?_ (Gr.cell ?_) <;> ((repeat (first | with_reducible exact Gr.refl _ | with_reducible assumption | with_reducible refine Gr.alloc ?_ _ | with_reducible refine Gr.drewN ?_ _ | with_reducible refine Gr.drew ?_ | with_reducible refine Gr.setCell ?_ (by first | (dsimp only; omega) | (simp only [World.size_alloc]; omega) | (with_reducible refine Gr.size ?_; (repeat (first | with_reducible exact Gr.refl _ | with_reducible assumption | with_reducible refine Gr.alloc ?_ _ | with_reducible refine Gr.drewN ?_ _ | with_reducible refine Gr.drew ?_ | with_reducible refine Gr.trans ?_ (by with_reducible assumption))); done)) _ | with_reducible refine Gr.trans ?_ (by with_reducible assumption))); done)))
       (first | (go_at_call 78; refine (spanGap_any _ _ _ _ _ (by apply Lim.mono; with_reducible assumption; omega) (by apply Lim.mono; with_reducible assumption; omega) (by apply Lim.mono; with_reducible assumption; omega) (by apply Lim.mono; with_reducible assumption; omega)).mono ?_; rintro e w1 ⟨rfl, rfl⟩))
      go_wp2
      all_goals
        go_ret
        exact ⟨ret_iv (by simp only [diV, h1, h2, Bool.and_self, if_true, diM]; split <;> omega), (by repeat (first | with_reducible exact Gr.refl _ | with_reducible assumption | with_reducible refine Gr.alloc ?_ _ | with_reducible refine Gr.drewN ?_ _ | with_reducible refine Gr.drew ?_ | with_reducible refine Gr.setCell ?_ (by first | (dsimp only; omega) | (simp only [World.size_alloc]; omega) | (with_reducible refine Gr.size ?_; (repeat (first | with_reducible exact Gr.refl _ | with_reducible assumption | with_reducible refine Gr.alloc ?_ _ | with_reducible refine Gr.drewN ?_ _ | with_reducible refine Gr.drew ?_ | with_reducible refine Gr.trans ?_ (by with_reducible assumption))); done)) _ | with_reducible refine Gr.trans ?_ (by with_reducible assumption)))⟩
    · have h2' : vrB a b c d = false := by simpa using h2
      clear h2
      go_enter Tryd.func42, Tryd.ntmps42
      go_wp2_with (first | (go_at_call 36; refine (ValidRect_any _ _ _ _ _).mono ?_; rintro e w1 ⟨rfl, g1⟩; obtain ⟨X1, Y1, c1, f1⟩ := g1.use))
      go_ret
      exact ⟨ret_iv (by simp [diV, h2']), (by repeat (first | with_reducible exact Gr.refl _ | with_reducible assumption | with_reducible refine Gr.alloc ?_ _ | with_reducible refine Gr.drewN ?_ _ | with_reducible refine Gr.drew ?_ | with_reducible refine Gr.setCell ?_ (by first | (dsimp only; omega) | (simp only [World.size_alloc]; omega) | (with_reducible refine Gr.size ?_; (repeat (first | with_reducible exact Gr.refl _ | with_reducible assumption | with_reducible refine Gr.alloc ?_ _ | with_reducible refine Gr.drewN ?_ _ | with_reducible refine Gr.drew ?_ | with_reducible refine Gr.trans ?_ (by with_reducible assumption))); done)) _ | with_reducible refine Gr.trans ?_ (by with_reducible assumption)))⟩
  · have h1' : vrB x y u h = false := by simpa using h1
    clear h1
    go_enter Tryd.func42, Tryd.ntmps42
    go_wp2_with (first | (go_at_call 36; refine (ValidRect_any _ _ _ _ _).mono ?_; rintro e w1 ⟨rfl, g1⟩; obtain ⟨X1, Y1, c1, f1⟩ := g1.use))
    go_ret
    exact ⟨ret_iv (by simp [diV, h1']), (by repeat (first | with_reducible exact Gr.refl _ | with_reducible assumption | with_reducible refine Gr.alloc ?_ _ | with_reducible refine Gr.drewN ?_ _ | with_reducible refine Gr.drew ?_ | with_reducible refine Gr.setCell ?_ (by first | (dsimp only; omega) | (simp only [World.size_alloc]; omega) | (with_reducible refine Gr.size ?_; (repeat (first | with_reducible exact Gr.refl _ | with_reducible assumption | with_reducible refine Gr.alloc ?_ _ | with_reducible refine Gr.drewN ?_ _ | with_reducible refine Gr.drew ?_ | with_reducible refine Gr.trans ?_ (by with_reducible assumption))); done)) _ | with_reducible refine Gr.trans ?_ (by with_reducible assumption)))⟩
theorem diM_po (p q : Int) : diM (poV p) (poV q) = poV (diM p q) := by
  unfold diM poV
  repeat' split
  all_goals omega
set_option maxHeartbeats 1000000 in
theorem rDistance_any (x y u h a b c d : Int) (w : World) :
    Calls Tryd.prog 43 #[rc x y u h, rc a b c d] w fun e w' => e = .returned (iv (diV x y u h a b c d)) ∧ Gr w w' := by
  by_cases h1 : vrB x y u h = true
  · by_cases h2 : vrB a b c d = true
    · obtain ⟨⟨p1, p2, p3, p4⟩, p5, p6⟩ := vr_lims h1
      obtain ⟨⟨q1, q2, q3, q4⟩, q5, q6⟩ := vr_lims h2
      obtain ⟨_, _⟩ := id p1
      obtain ⟨_, _⟩ := id p2
      obtain ⟨_, _⟩ := id p3
      obtain ⟨_, _⟩ := id p4
      obtain ⟨_, _⟩ := id q1
      obtain ⟨_, _⟩ := id q2
      obtain ⟨_, _⟩ := id q3
      obtain ⟨_, _⟩ := id q4
      go_enter Tryd.func43, Tryd.ntmps43
      go_upto_region 3 with (go_at_call 37; refine (rValidRect_any _ _ _ _ _).mono ?_; rintro e w1 ⟨rfl, g1⟩; obtain ⟨X1, Y1, c1, f1⟩ := g1.use)
      have W1 : IntKind.i64.wrap (x + u) = x + u := IntWalk.i64_in _ (by omega)
      have W2 : IntKind.i64.wrap (y + h) = y + h := IntWalk.i64_in _ (by omega)
      have W3 : IntKind.i64.wrap (a + c) = a + c := IntWalk.i64_in _ (by omega)
      have W4 : IntKind.i64.wrap (b + d) = b + d := IntWalk.i64_in _ (by omega)
      go_region_held3 (fun w' => Gr (((w.alloc (Obj.cells #[iv x, iv y, iv u, iv h] 58)).alloc (Obj.cells #[iv a, iv b, iv c, iv d] 58))) w' ∧ ∀ ii oo, ii < (((w.alloc (Obj.cells #[iv x, iv y, iv u, iv h] 58)).alloc (Obj.cells #[iv a, iv b, iv c, iv d] 58))).heap.size → w'.cell? ⟨ii, oo, none⟩ = (((w.alloc (Obj.cells #[iv x, iv y, iv u, iv h] 58)).alloc (Obj.cells #[iv a, iv b, iv c, iv d] 58))).cell? ⟨ii, oo, none⟩) ((refine And.intro ?_ (Gr.cell ?_) <;> ((repeat (first | with_reducible exact Gr.refl _ | with_reducible assumption | with_reducible refine Gr.alloc ?_ _ | with_reducible refine Gr.drewN ?_ _ | with_reducible refine Gr.drew ?_ | with_reducible refine Gr.setCell ?_ (by first | (dsimp only; omega) | (simp only [World.size_alloc]; omega) | (with_reducible refine Gr.size ?_; (repeat (first | with_reducible exact Gr.refl _ | with_reducible assumption | with_reducible refine Gr.alloc ?_ _ | with_reducible refine Gr.drewN ?_ _ | with_reducible refine Gr.drew ?_ | with_reducible refine Gr.trans ?_ (by with_reducible assumption))); done)) _ | with_reducible refine Gr.trans ?_ (by with_reducible assumption))); done)))
       (first | (go_at_call 76; refine (gap_any _ _ _ _ _ (by apply Lim.mono; with_reducible assumption; decide) (by apply Lim.mono; with_reducible assumption; decide) (by apply Lim.mono; with_reducible assumption; decide) (by apply Lim.mono; with_reducible assumption; decide)).mono ?_; rintro e w1 ⟨rfl, rfl⟩))
      clear W1 W2 W3 W4
      go_wp2
      all_goals
        go_ret
        exact ⟨ret_iv (by simp only [diV, h1, h2, Bool.and_self, if_true, diM_po]; unfold diM poV; repeat' split; all_goals omega), (by repeat (first | with_reducible exact Gr.refl _ | with_reducible assumption | with_reducible refine Gr.alloc ?_ _ | with_reducible refine Gr.drewN ?_ _ | with_reducible refine Gr.drew ?_ | with_reducible refine Gr.setCell ?_ (by first | (dsimp only; omega) | (simp only [World.size_alloc]; omega) | (with_reducible refine Gr.size ?_; (repeat (first | with_reducible exact Gr.refl _ | with_reducible assumption | with_reducible refine Gr.alloc ?_ _ | with_reducible refine Gr.drewN ?_ _ | with_reducible refine Gr.drew ?_ | with_reducible refine Gr.trans ?_ (by with_reducible assumption))); done)) _ | with_reducible refine Gr.trans ?_ (by with_reducible assumption)))⟩
    · have h2' : vrB a b c d = false := by simpa using h2
      clear h2
      go_enter Tryd.func43, Tryd.ntmps43
      go_wp2_with (first | (go_at_call 37; refine (rValidRect_any _ _ _ _ _).mono ?_; rintro e w1 ⟨rfl, g1⟩; obtain ⟨X1, Y1, c1, f1⟩ := g1.use))
      go_ret
      exact ⟨ret_iv (by simp [diV, h2']), (by repeat (first | with_reducible exact Gr.refl _ | with_reducible assumption | with_reducible refine Gr.alloc ?_ _ | with_reducible refine Gr.drewN ?_ _ | with_reducible refine Gr.drew ?_ | with_reducible refine Gr.setCell ?_ (by first | (dsimp only; omega) | (simp only [World.size_alloc]; omega) | (with_reducible refine Gr.size ?_; (repeat (first | with_reducible exact Gr.refl _ | with_reducible assumption | with_reducible refine Gr.alloc ?_ _ | with_reducible refine Gr.drewN ?_ _ | with_reducible refine Gr.drew ?_ | with_reducible refine Gr.trans ?_ (by with_reducible assumption))); done)) _ | with_reducible refine Gr.trans ?_ (by with_reducible assumption)))⟩
  · have h1' : vrB x y u h = false := by simpa using h1
    clear h1
    go_enter Tryd.func43, Tryd.ntmps43
    go_wp2_with (first | (go_at_call 37; refine (rValidRect_any _ _ _ _ _).mono ?_; rintro e w1 ⟨rfl, g1⟩; obtain ⟨X1, Y1, c1, f1⟩ := g1.use))
    go_ret
    exact ⟨ret_iv (by simp [diV, h1']), (by repeat (first | with_reducible exact Gr.refl _ | with_reducible assumption | with_reducible refine Gr.alloc ?_ _ | with_reducible refine Gr.drewN ?_ _ | with_reducible refine Gr.drew ?_ | with_reducible refine Gr.setCell ?_ (by first | (dsimp only; omega) | (simp only [World.size_alloc]; omega) | (with_reducible refine Gr.size ?_; (repeat (first | with_reducible exact Gr.refl _ | with_reducible assumption | with_reducible refine Gr.alloc ?_ _ | with_reducible refine Gr.drewN ?_ _ | with_reducible refine Gr.drew ?_ | with_reducible refine Gr.trans ?_ (by with_reducible assumption))); done)) _ | with_reducible refine Gr.trans ?_ (by with_reducible assumption)))⟩
end Go.Proofs.YtfapbiiknfeidaaDoor
