/-
  Rectangles of nests: what geom's functions of them return; lists of rectangles in memory.
-/
import Derived.Test.YtddhaiaapomdjaaGreatRgcr
set_option linter.unusedVariables false
set_option linter.unusedSimpArgs false
namespace Go.Proofs.YtddhaiaapomdjaaGreat
set_option linter.unusedVariables false
set_option linter.unusedSimpArgs false
open Go Go.ChangeShapes Go.WideShapes Go.ChangeAt Go.RowKit Go.Deep

namespace RG
def Lim (l n : Int) : Prop := -l ≤ n ∧ n ≤ l
theorem Lim.mono {l m n : Int} (h : Lim l n) (hm : l ≤ m) : Lim m n := by unfold Lim at *; omega
theorem Lim.add {l m a b : Int} (h : Lim l a) (k : Lim m b) : Lim (l + m) (a + b) := by unfold Lim at *; omega
/-- a number of a side, small enough for sums -/
def soB (a l b m : Int) : Bool := decide (a < b + m) && decide (b < a + l)
def siB (a l b m : Int) : Bool := decide (b ≤ a) && decide (a + l ≤ b + m)
def gaV (a b c d : Int) : Int := if a - d < c - b then c - b else a - d
def poV (x : Int) : Int := if x < 0 then 0 else x
theorem spansOverlap_any (a l b m : Int) (w : World) (ha : Lim 4194304 a) (hl : Lim 4194304 l) (hb : Lim 4194304 b) (hm : Lim 4194304 m) :
    Calls Tryz.prog 91 #[iv a, iv l, iv b, iv m] w fun e w' => e = .returned (.bool (soB a l b m)) ∧ w = w' := by
  obtain ⟨a1, a2⟩ := ha
  obtain ⟨l1, l2⟩ := hl
  obtain ⟨b1, b2⟩ := hb
  obtain ⟨m1, m2⟩ := hm
  go_enter Tryz.func91, Tryz.ntmps91
  go_wp2
  all_goals
    go_ret
    exact ⟨ret_bool (by simp [soB]; omega), rfl⟩
theorem spanInside_any (a l b m : Int) (w : World) (ha : Lim 4194304 a) (hl : Lim 4194304 l) (hb : Lim 4194304 b) (hm : Lim 4194304 m) :
    Calls Tryz.prog 165 #[iv a, iv l, iv b, iv m] w fun e w' => e = .returned (.bool (siB a l b m)) ∧ w = w' := by
  obtain ⟨a1, a2⟩ := ha
  obtain ⟨l1, l2⟩ := hl
  obtain ⟨b1, b2⟩ := hb
  obtain ⟨m1, m2⟩ := hm
  go_enter Tryz.func165, Tryz.ntmps165
  go_wp2
  all_goals
    go_ret
    exact ⟨ret_bool (by simp [siB]; omega), rfl⟩
theorem spanGap_any (a l b m : Int) (w : World) (ha : Lim 4194304 a) (hl : Lim 4194304 l) (hb : Lim 4194304 b) (hm : Lim 4194304 m) :
    Calls Tryz.prog 141 #[iv a, iv l, iv b, iv m] w fun e w' => e = .returned (iv (poV (gaV a (a + l) b (b + m)))) ∧ w = w' := by
  obtain ⟨a1, a2⟩ := ha
  obtain ⟨l1, l2⟩ := hl
  obtain ⟨b1, b2⟩ := hb
  obtain ⟨m1, m2⟩ := hm
  go_enter Tryz.func141, Tryz.ntmps141
  go_wp2
  all_goals
    go_ret
    exact ⟨ret_iv (by simp only [gaV, poV]; split <;> split <;> omega), rfl⟩
structure Four (l a b c d : Int) : Prop where
  l1 : Lim l a
  l2 : Lim l b
  l3 : Lim l c
  l4 : Lim l d
theorem vr_lims {x y u h : Int} (k : vrB x y u h = true) : Four 2097152 x y u h ∧ Lim 2097152 (x + u) ∧ Lim 2097152 (y + h) := by
  simp only [vrB, Bool.and_eq_true, vsB_iff] at k
  exact ⟨⟨by unfold Lim; omega, by unfold Lim; omega, by unfold Lim; omega, by unfold Lim; omega⟩, by unfold Lim; omega, by unfold Lim; omega⟩
/-- what the functions of two rectangles return -/
def ovB (x y u h a b c d : Int) : Bool := (vrB x y u h && vrB a b c d) && (soB x u a c && soB y h b d)
def isB (x y u h a b c d : Int) : Bool := (vrB x y u h && vrB a b c d) && (siB x u a c && siB y h b d)
def diM (x y : Int) : Int := if x < y then y else x
def diV (x y u h a b c d : Int) : Int := if vrB x y u h && vrB a b c d then diM (poV (gaV x (x + u) a (a + c))) (poV (gaV y (y + h) b (b + d))) else 0
theorem Overlap_any (x y u h a b c d : Int) (w : World) :
    Calls Tryz.prog 46 #[rc x y u h, rc a b c d] w fun e w' => e = .returned (.bool (ovB x y u h a b c d)) ∧ Gr w w' := by
  by_cases h1 : vrB x y u h = true
  · by_cases h2 : vrB a b c d = true
    · obtain ⟨⟨p1, p2, p3, p4⟩, p5, p6⟩ := vr_lims h1
      obtain ⟨⟨q1, q2, q3, q4⟩, q5, q6⟩ := vr_lims h2
      go_enter Tryz.func46, Tryz.ntmps46
      go_wp2_with (first | (go_at_call 90; refine (ValidRect_any _ _ _ _ _).mono ?_; rintro e w1 ⟨rfl, g1⟩; obtain ⟨X1, Y1, c1, f1⟩ := g1.use) | (go_at_call 91; refine (spansOverlap_any _ _ _ _ _ (by apply Lim.mono; with_reducible assumption; omega) (by apply Lim.mono; with_reducible assumption; omega) (by apply Lim.mono; with_reducible assumption; omega) (by apply Lim.mono; with_reducible assumption; omega)).mono ?_; rintro e w1 ⟨rfl, rfl⟩))
      all_goals
        go_ret
        exact ⟨ret_bool (by simp [ovB, h1, h2, *]), (by with_reducible repeat (first | exact Gr.refl _ | assumption | refine Gr.alloc ?_ _ | refine Gr.drewN ?_ _ | refine Gr.drew ?_ | refine Gr.setCell ?_ (by first | (dsimp only; omega) | (simp only [World.size_alloc]; omega) | (refine Gr.size ?_; (repeat (first | exact Gr.refl _ | assumption | refine Gr.alloc ?_ _ | refine Gr.drewN ?_ _ | refine Gr.drew ?_ | refine Gr.trans ?_ (by assumption))); done)) _ | refine Gr.trans ?_ (by assumption)))⟩
    · have h2' : vrB a b c d = false := by simpa using h2
      clear h2
      go_enter Tryz.func46, Tryz.ntmps46
      go_wp2_with (first | (go_at_call 90; refine (ValidRect_any _ _ _ _ _).mono ?_; rintro e w1 ⟨rfl, g1⟩; obtain ⟨X1, Y1, c1, f1⟩ := g1.use))
      go_ret
      exact ⟨ret_bool (by simp [ovB, h2']), (by with_reducible repeat (first | exact Gr.refl _ | assumption | refine Gr.alloc ?_ _ | refine Gr.drewN ?_ _ | refine Gr.drew ?_ | refine Gr.setCell ?_ (by first | (dsimp only; omega) | (simp only [World.size_alloc]; omega) | (refine Gr.size ?_; (repeat (first | exact Gr.refl _ | assumption | refine Gr.alloc ?_ _ | refine Gr.drewN ?_ _ | refine Gr.drew ?_ | refine Gr.trans ?_ (by assumption))); done)) _ | refine Gr.trans ?_ (by assumption)))⟩
  · have h1' : vrB x y u h = false := by simpa using h1
    clear h1
    go_enter Tryz.func46, Tryz.ntmps46
    go_wp2_with (first | (go_at_call 90; refine (ValidRect_any _ _ _ _ _).mono ?_; rintro e w1 ⟨rfl, g1⟩; obtain ⟨X1, Y1, c1, f1⟩ := g1.use))
    go_ret
    exact ⟨ret_bool (by simp [ovB, h1']), (by with_reducible repeat (first | exact Gr.refl _ | assumption | refine Gr.alloc ?_ _ | refine Gr.drewN ?_ _ | refine Gr.drew ?_ | refine Gr.setCell ?_ (by first | (dsimp only; omega) | (simp only [World.size_alloc]; omega) | (refine Gr.size ?_; (repeat (first | exact Gr.refl _ | assumption | refine Gr.alloc ?_ _ | refine Gr.drewN ?_ _ | refine Gr.drew ?_ | refine Gr.trans ?_ (by assumption))); done)) _ | refine Gr.trans ?_ (by assumption)))⟩
theorem Inside_any (x y u h a b c d : Int) (w : World) :
    Calls Tryz.prog 133 #[rc x y u h, rc a b c d] w fun e w' => e = .returned (.bool (isB x y u h a b c d)) ∧ Gr w w' := by
  by_cases h1 : vrB x y u h = true
  · by_cases h2 : vrB a b c d = true
    · obtain ⟨⟨p1, p2, p3, p4⟩, p5, p6⟩ := vr_lims h1
      obtain ⟨⟨q1, q2, q3, q4⟩, q5, q6⟩ := vr_lims h2
      go_enter Tryz.func133, Tryz.ntmps133
      go_wp2_with (first | (go_at_call 90; refine (ValidRect_any _ _ _ _ _).mono ?_; rintro e w1 ⟨rfl, g1⟩; obtain ⟨X1, Y1, c1, f1⟩ := g1.use) | (go_at_call 165; refine (spanInside_any _ _ _ _ _ (by apply Lim.mono; with_reducible assumption; omega) (by apply Lim.mono; with_reducible assumption; omega) (by apply Lim.mono; with_reducible assumption; omega) (by apply Lim.mono; with_reducible assumption; omega)).mono ?_; rintro e w1 ⟨rfl, rfl⟩))
      all_goals
        go_ret
        exact ⟨ret_bool (by simp [isB, h1, h2, *]), (by with_reducible repeat (first | exact Gr.refl _ | assumption | refine Gr.alloc ?_ _ | refine Gr.drewN ?_ _ | refine Gr.drew ?_ | refine Gr.setCell ?_ (by first | (dsimp only; omega) | (simp only [World.size_alloc]; omega) | (refine Gr.size ?_; (repeat (first | exact Gr.refl _ | assumption | refine Gr.alloc ?_ _ | refine Gr.drewN ?_ _ | refine Gr.drew ?_ | refine Gr.trans ?_ (by assumption))); done)) _ | refine Gr.trans ?_ (by assumption)))⟩
    · have h2' : vrB a b c d = false := by simpa using h2
      clear h2
      go_enter Tryz.func133, Tryz.ntmps133
      go_wp2_with (first | (go_at_call 90; refine (ValidRect_any _ _ _ _ _).mono ?_; rintro e w1 ⟨rfl, g1⟩; obtain ⟨X1, Y1, c1, f1⟩ := g1.use))
      go_ret
      exact ⟨ret_bool (by simp [isB, h2']), (by with_reducible repeat (first | exact Gr.refl _ | assumption | refine Gr.alloc ?_ _ | refine Gr.drewN ?_ _ | refine Gr.drew ?_ | refine Gr.setCell ?_ (by first | (dsimp only; omega) | (simp only [World.size_alloc]; omega) | (refine Gr.size ?_; (repeat (first | exact Gr.refl _ | assumption | refine Gr.alloc ?_ _ | refine Gr.drewN ?_ _ | refine Gr.drew ?_ | refine Gr.trans ?_ (by assumption))); done)) _ | refine Gr.trans ?_ (by assumption)))⟩
  · have h1' : vrB x y u h = false := by simpa using h1
    clear h1
    go_enter Tryz.func133, Tryz.ntmps133
    go_wp2_with (first | (go_at_call 90; refine (ValidRect_any _ _ _ _ _).mono ?_; rintro e w1 ⟨rfl, g1⟩; obtain ⟨X1, Y1, c1, f1⟩ := g1.use))
    go_ret
    exact ⟨ret_bool (by simp [isB, h1']), (by with_reducible repeat (first | exact Gr.refl _ | assumption | refine Gr.alloc ?_ _ | refine Gr.drewN ?_ _ | refine Gr.drew ?_ | refine Gr.setCell ?_ (by first | (dsimp only; omega) | (simp only [World.size_alloc]; omega) | (refine Gr.size ?_; (repeat (first | exact Gr.refl _ | assumption | refine Gr.alloc ?_ _ | refine Gr.drewN ?_ _ | refine Gr.drew ?_ | refine Gr.trans ?_ (by assumption))); done)) _ | refine Gr.trans ?_ (by assumption)))⟩
set_option maxHeartbeats 1000000 in
theorem Distance_any (x y u h a b c d : Int) (w : World) :
    Calls Tryz.prog 104 #[rc x y u h, rc a b c d] w fun e w' => e = .returned (iv (diV x y u h a b c d)) ∧ Gr w w' := by
  by_cases h1 : vrB x y u h = true
  · by_cases h2 : vrB a b c d = true
    · obtain ⟨⟨p1, p2, p3, p4⟩, p5, p6⟩ := vr_lims h1
      obtain ⟨⟨q1, q2, q3, q4⟩, q5, q6⟩ := vr_lims h2
      go_enter Tryz.func104, Tryz.ntmps104
      go_upto_region 3 with (go_at_call 90; refine (ValidRect_any _ _ _ _ _).mono ?_; rintro e w1 ⟨rfl, g1⟩; obtain ⟨X1, Y1, c1, f1⟩ := g1.use)
      go_region_held3 (fun w' => Gr (((w.alloc (Obj.cells #[iv x, iv y, iv u, iv h] 70)).alloc (Obj.cells #[iv a, iv b, iv c, iv d] 70))) w' ∧ ∀ ii oo, ii < (((w.alloc (Obj.cells #[iv x, iv y, iv u, iv h] 70)).alloc (Obj.cells #[iv a, iv b, iv c, iv d] 70))).heap.size → w'.cell? ⟨ii, oo, none⟩ = (((w.alloc (Obj.cells #[iv x, iv y, iv u, iv h] 70)).alloc (Obj.cells #[iv a, iv b, iv c, iv d] 70))).cell? ⟨ii, oo, none⟩) ((refine And.intro ?_ (Gr.cell ?_) <;> ((with_reducible repeat (first | exact Gr.refl _ | assumption | refine Gr.alloc ?_ _ | refine Gr.drewN ?_ _ | refine Gr.drew ?_ | refine Gr.setCell ?_ (by first | (dsimp only; omega) | (simp only [World.size_alloc]; omega) | (refine Gr.size ?_; (repeat (first | exact Gr.refl _ | assumption | refine Gr.alloc ?_ _ | refine Gr.drewN ?_ _ | refine Gr.drew ?_ | refine Gr.trans ?_ (by assumption))); done)) _ | refine Gr.trans ?_ (by assumption))); done)))
       (first | (go_at_call 141; refine (spanGap_any _ _ _ _ _ (by apply Lim.mono; with_reducible assumption; omega) (by apply Lim.mono; with_reducible assumption; omega) (by apply Lim.mono; with_reducible assumption; omega) (by apply Lim.mono; with_reducible assumption; omega)).mono ?_; rintro e w1 ⟨rfl, rfl⟩))
      go_wp2
      all_goals
        go_ret
        exact ⟨ret_iv (by simp only [diV, h1, h2, Bool.and_self, if_true, diM]; split <;> omega), (by with_reducible repeat (first | exact Gr.refl _ | assumption | refine Gr.alloc ?_ _ | refine Gr.drewN ?_ _ | refine Gr.drew ?_ | refine Gr.setCell ?_ (by first | (dsimp only; omega) | (simp only [World.size_alloc]; omega) | (refine Gr.size ?_; (repeat (first | exact Gr.refl _ | assumption | refine Gr.alloc ?_ _ | refine Gr.drewN ?_ _ | refine Gr.drew ?_ | refine Gr.trans ?_ (by assumption))); done)) _ | refine Gr.trans ?_ (by assumption)))⟩
    · have h2' : vrB a b c d = false := by simpa using h2
      clear h2
      go_enter Tryz.func104, Tryz.ntmps104
      go_wp2_with (first | (go_at_call 90; refine (ValidRect_any _ _ _ _ _).mono ?_; rintro e w1 ⟨rfl, g1⟩; obtain ⟨X1, Y1, c1, f1⟩ := g1.use))
      go_ret
      exact ⟨ret_iv (by simp [diV, h2']), (by with_reducible repeat (first | exact Gr.refl _ | assumption | refine Gr.alloc ?_ _ | refine Gr.drewN ?_ _ | refine Gr.drew ?_ | refine Gr.setCell ?_ (by first | (dsimp only; omega) | (simp only [World.size_alloc]; omega) | (refine Gr.size ?_; (repeat (first | exact Gr.refl _ | assumption | refine Gr.alloc ?_ _ | refine Gr.drewN ?_ _ | refine Gr.drew ?_ | refine Gr.trans ?_ (by assumption))); done)) _ | refine Gr.trans ?_ (by assumption)))⟩
  · have h1' : vrB x y u h = false := by simpa using h1
    clear h1
    go_enter Tryz.func104, Tryz.ntmps104
    go_wp2_with (first | (go_at_call 90; refine (ValidRect_any _ _ _ _ _).mono ?_; rintro e w1 ⟨rfl, g1⟩; obtain ⟨X1, Y1, c1, f1⟩ := g1.use))
    go_ret
    exact ⟨ret_iv (by simp [diV, h1']), (by with_reducible repeat (first | exact Gr.refl _ | assumption | refine Gr.alloc ?_ _ | refine Gr.drewN ?_ _ | refine Gr.drew ?_ | refine Gr.setCell ?_ (by first | (dsimp only; omega) | (simp only [World.size_alloc]; omega) | (refine Gr.size ?_; (repeat (first | exact Gr.refl _ | assumption | refine Gr.alloc ?_ _ | refine Gr.drewN ?_ _ | refine Gr.drew ?_ | refine Gr.trans ?_ (by assumption))); done)) _ | refine Gr.trans ?_ (by assumption)))⟩
def ovQ (r s : Rc) : Bool := ovB r.x r.y r.w r.h s.x s.y s.w s.h
def isR (r s : Rc) : Bool := isB r.x r.y r.w r.h s.x s.y s.w s.h
def diR (r s : Rc) : Int := diV r.x r.y r.w r.h s.x s.y s.w s.h
end RG
end Go.Proofs.YtddhaiaapomdjaaGreat
