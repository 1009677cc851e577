/-
  What the small functions of package geom and of its reference return: numbers with the square root of 3.
-/
import Derived.Test.YtfbhpeedjphpaaaDoorFrame
import Derived.Test.YtfbhpeedjphpaaaDoorSign
import Derived.Test.YtfbhpeedjphpaaaDoorChecked
import Derived.WalkSpells
import Derived.WalkLawsBesides
namespace Go.Proofs.YtfbhpeedjphpaaaDoor
set_option linter.unusedVariables false
set_option linter.unusedSimpArgs false
open Go Go.ChangeShapes Go.WideShapes Go.ChangeAt Go.RowKit Go.Deep

abbrev rt (a b : Int) : Value := .agg #[iv a, iv b]
/-- n is from -l to l -/
def inB (n l : Int) : Bool := decide (-l ≤ n) && decide (n ≤ l)
theorem inB_iff (n l : Int) : inB n l = true ↔ -l ≤ n ∧ n ≤ l := by simp [inB]
def rinB (a b l : Int) : Bool := inB a l && inB b l
def Lim (l n : Int) : Prop := -l ≤ n ∧ n ≤ l
theorem lim_of {n l : Int} (h : inB n l = true) : Lim l n := (inB_iff n l).1 h
theorem lims_of {a b l : Int} (h : rinB a b l = true) : Lim l a ∧ Lim l b := by
  simp only [rinB, Bool.and_eq_true] at h
  exact ⟨lim_of h.1, lim_of h.2⟩
theorem Lim.mono {l m n : Int} (h : Lim l n) (hm : l ≤ m) : Lim m n := by unfold Lim at *; omega
theorem Lim.sub {l m a b : Int} (h : Lim l a) (k : Lim m b) : Lim (l + m) (a - b) := by unfold Lim at *; omega
theorem Lim.add {l m a b : Int} (h : Lim l a) (k : Lim m b) : Lim (l + m) (a + b) := by unfold Lim at *; omega
theorem Lim.mul {l m a b : Int} (h : Lim l a) (k : Lim m b) : Lim (l * m) (a * b) := by
  obtain ⟨h1, h2⟩ := h
  obtain ⟨k1, k2⟩ := k
  have p1 : 0 ≤ (l - a) * (m - b) := Int.mul_nonneg (by omega) (by omega)
  have p2 : 0 ≤ (l + a) * (m + b) := Int.mul_nonneg (by omega) (by omega)
  have p3 : 0 ≤ (l - a) * (m + b) := Int.mul_nonneg (by omega) (by omega)
  have p4 : 0 ≤ (l + a) * (m - b) := Int.mul_nonneg (by omega) (by omega)
  constructor <;> grind
theorem ret_bool {a b : Bool} (h : a = b) : Ending.returned (.bool a) = .returned (.bool b) := by rw [h]
theorem ret_iv {a b : Int} (h : a = b) : Ending.returned (iv a) = .returned (iv b) := by rw [h]

theorem within_any (n l : Int) (w : World) (h0 : 0 ≤ l) (h1 : l ≤ 1073741824) :
    Calls Tryd.prog 48 #[iv n, iv l] w fun e w' => e = .returned (.bool (inB n l)) ∧ w = w' := by
  go_enter Tryd.func48, Tryd.ntmps48
  go_wp2
  all_goals
    go_ret
    exact ⟨ret_bool (by simp [inB]; omega), rfl⟩
theorem isnan_any (n : Int) (w : World) :
    Calls Tryd.prog 56 #[iv n] w fun e w' => e = .returned (.bool false) ∧ w = w' := by
  go_enter Tryd.func56, Tryd.ntmps56
  go_wp2
  go_ret
  exact ⟨by simp, rfl⟩
theorem compare_any (n : Int) (w : World) :
    Calls Tryd.prog 36 #[iv n, iv 0] w fun e w' => e = .returned (iv (M.sg n)) ∧ w = w' := by
  go_enter Tryd.func36, Tryd.ntmps36
  go_wp2_with (go_at_call 56; refine (isnan_any _ _).mono ?_; rintro e w1 ⟨rfl, rfl⟩)
  all_goals
    go_ret
    exact ⟨ret_iv (by unfold M.sg; grind), rfl⟩
theorem sign_any (a b : Int) (w : World) (ha : Lim 2147483648 a) (hb : Lim 1073741824 b) :
    Calls Tryd.prog 31 #[rt a b] w fun e w' => e = .returned (iv (M.sgn a b)) ∧ Gr w w' := by
  have s1 := Lim.mul ha ha
  have s2 := Lim.mul hb hb
  have s3 := M.sq_nn a
  have s4 := M.sq_nn b
  have e1 : 3 * b * b = 3 * (b * b) := by rw [Int.mul_assoc]
  have s5 : 0 ≤ 3 * b * b := by omega
  unfold Lim at *
  have s6 : 3 * b * b ≤ 3458764513820540928 := by omega
  obtain ⟨a1, a2⟩ := ha
  obtain ⟨b1, b2⟩ := hb
  have E1 := hide e1
  clear e1
  by_cases h : 3 * b * b < a * a
  · go_enter Tryd.func31, Tryd.ntmps31
    go_wp2_with (go_at_call 36; refine (compare_any _ _).mono ?_; rintro e w1 ⟨rfl, rfl⟩)
    go_ret
    exact ⟨ret_iv (by unfold M.sgn; rw [← E1.out, if_pos h]), (by repeat (first | with_reducible exact Gr.refl _ | with_reducible assumption | with_reducible refine Gr.alloc ?_ _ | with_reducible refine Gr.drewN ?_ _ | with_reducible refine Gr.drew ?_ | with_reducible refine Gr.setCell ?_ (by first | (dsimp only; omega) | (simp only [World.size_alloc]; omega) | (with_reducible refine Gr.size ?_; (repeat (first | with_reducible exact Gr.refl _ | with_reducible assumption | with_reducible refine Gr.alloc ?_ _ | with_reducible refine Gr.drewN ?_ _ | with_reducible refine Gr.drew ?_ | with_reducible refine Gr.trans ?_ (by with_reducible assumption))); done)) _ | with_reducible refine Gr.trans ?_ (by with_reducible assumption)))⟩
  · go_enter Tryd.func31, Tryd.ntmps31
    go_wp2_with (go_at_call 36; refine (compare_any _ _).mono ?_; rintro e w1 ⟨rfl, rfl⟩)
    go_ret
    exact ⟨ret_iv (by unfold M.sgn; rw [← E1.out, if_neg (by omega)]), (by repeat (first | with_reducible exact Gr.refl _ | with_reducible assumption | with_reducible refine Gr.alloc ?_ _ | with_reducible refine Gr.drewN ?_ _ | with_reducible refine Gr.drew ?_ | with_reducible refine Gr.setCell ?_ (by first | (dsimp only; omega) | (simp only [World.size_alloc]; omega) | (with_reducible refine Gr.size ?_; (repeat (first | with_reducible exact Gr.refl _ | with_reducible assumption | with_reducible refine Gr.alloc ?_ _ | with_reducible refine Gr.drewN ?_ _ | with_reducible refine Gr.drew ?_ | with_reducible refine Gr.trans ?_ (by with_reducible assumption))); done)) _ | with_reducible refine Gr.trans ?_ (by with_reducible assumption)))⟩
theorem minus_any (a b c d : Int) (w : World) (ha : Lim 4294967296 a) (hb : Lim 4294967296 b) (hc : Lim 4294967296 c) (hd : Lim 4294967296 d) :
    Calls Tryd.prog 49 #[rt a b, rt c d] w fun e w' => e = .returned (rt (a - c) (b - d)) ∧ Gr w w' := by
  obtain ⟨a1, a2⟩ := ha
  obtain ⟨b1, b2⟩ := hb
  obtain ⟨c1, c2⟩ := hc
  obtain ⟨d1, d2⟩ := hd
  go_enter Tryd.func49, Tryd.ntmps49
  go_wp2
  refine bodyPost_ret (v := rt (a - c) (b - d)) (by simp [results, Tryd.results49, go_sem]) rfl ⟨rfl, (by repeat (first | with_reducible exact Gr.refl _ | with_reducible assumption | with_reducible refine Gr.alloc ?_ _ | with_reducible refine Gr.drewN ?_ _ | with_reducible refine Gr.drew ?_ | with_reducible refine Gr.setCell ?_ (by first | (dsimp only; omega) | (simp only [World.size_alloc]; omega) | (with_reducible refine Gr.size ?_; (repeat (first | with_reducible exact Gr.refl _ | with_reducible assumption | with_reducible refine Gr.alloc ?_ _ | with_reducible refine Gr.drewN ?_ _ | with_reducible refine Gr.drew ?_ | with_reducible refine Gr.trans ?_ (by with_reducible assumption))); done)) _ | with_reducible refine Gr.trans ?_ (by with_reducible assumption)))⟩
theorem rootWithin_any (a b l : Int) (w : World) (h0 : 0 ≤ l) (h1 : l ≤ 1073741824) :
    Calls Tryd.prog 30 #[rt a b, iv l] w fun e w' => e = .returned (.bool (rinB a b l)) ∧ Gr w w' := by
  go_enter Tryd.func30, Tryd.ntmps30
  go_wp2_with (go_at_call 48; refine (within_any _ _ _ h0 h1).mono ?_; rintro e w1 ⟨rfl, rfl⟩)
  all_goals
    go_ret
    exact ⟨ret_bool (by simp [rinB, *]), (by repeat (first | with_reducible exact Gr.refl _ | with_reducible assumption | with_reducible refine Gr.alloc ?_ _ | with_reducible refine Gr.drewN ?_ _ | with_reducible refine Gr.drew ?_ | with_reducible refine Gr.setCell ?_ (by first | (dsimp only; omega) | (simp only [World.size_alloc]; omega) | (with_reducible refine Gr.size ?_; (repeat (first | with_reducible exact Gr.refl _ | with_reducible assumption | with_reducible refine Gr.alloc ?_ _ | with_reducible refine Gr.drewN ?_ _ | with_reducible refine Gr.drew ?_ | with_reducible refine Gr.trans ?_ (by with_reducible assumption))); done)) _ | with_reducible refine Gr.trans ?_ (by with_reducible assumption)))⟩
/-- what SignRoot, CompareRoot and Multiply return -/
def errIf (b : Bool) (e : Int) : Int := if b then 0 else e
def srV (a b : Int) : Int := if rinB a b 268435456 then M.sgn a b else 0
def srE (a b : Int) : Int := errIf (rinB a b 268435456) 4
def crB (a b c d : Int) : Bool := rinB a b 268435456 && rinB c d 268435456
def crV (a b c d : Int) : Int := if crB a b c d then M.sgn (a - c) (b - d) else 0
def crE (a b c d : Int) : Int := errIf (crB a b c d) 4
def muB (a b c d : Int) : Bool := rinB a b 4096 && rinB c d 4096
def muA (a b c d : Int) : Int := if muB a b c d then a * c + 3 * (b * d) else 0
def muC (a b c d : Int) : Int := if muB a b c d then a * d + b * c else 0
def muE (a b c d : Int) : Int := errIf (muB a b c d) 4
theorem ret_two {a b c d : Int} (h : a = c) (k : b = d) : Ending.returned (.tuple #[iv a, iv b]) = .returned (.tuple #[iv c, iv d]) := by rw [h, k]

theorem SignRoot_any (a b : Int) (w : World) :
    Calls Tryd.prog 16 #[rt a b] w fun e w' => e = .returned (.tuple #[iv (srV a b), iv (srE a b)]) ∧ Gr w w' := by
  by_cases h : rinB a b 268435456 = true
  · obtain ⟨ha, hb⟩ := lims_of h
    go_enter Tryd.func16, Tryd.ntmps16
    go_wp2_with (first | (go_at_call 30; refine (rootWithin_any _ _ _ _ (by omega) (by omega)).mono ?_; rintro e w1 ⟨rfl, g1⟩; obtain ⟨X1, Y1, c1, f1⟩ := g1.use) | (go_at_call 31; refine (sign_any _ _ _ (ha.mono (by omega)) (hb.mono (by omega))).mono ?_; rintro e w1 ⟨rfl, g1⟩; obtain ⟨X1, Y1, c1, f1⟩ := g1.use))
    go_ret2
    exact ⟨ret_two (by simp [srV, h]) (by simp [srE, errIf, h]), (by repeat (first | with_reducible exact Gr.refl _ | with_reducible assumption | with_reducible refine Gr.alloc ?_ _ | with_reducible refine Gr.drewN ?_ _ | with_reducible refine Gr.drew ?_ | with_reducible refine Gr.setCell ?_ (by first | (dsimp only; omega) | (simp only [World.size_alloc]; omega) | (with_reducible refine Gr.size ?_; (repeat (first | with_reducible exact Gr.refl _ | with_reducible assumption | with_reducible refine Gr.alloc ?_ _ | with_reducible refine Gr.drewN ?_ _ | with_reducible refine Gr.drew ?_ | with_reducible refine Gr.trans ?_ (by with_reducible assumption))); done)) _ | with_reducible refine Gr.trans ?_ (by with_reducible assumption)))⟩
  · have h' : rinB a b 268435456 = false := by simpa using h
    clear h
    go_enter Tryd.func16, Tryd.ntmps16
    go_wp2_with (first | (go_at_call 30; refine (rootWithin_any _ _ _ _ (by omega) (by omega)).mono ?_; rintro e w1 ⟨rfl, g1⟩; obtain ⟨X1, Y1, c1, f1⟩ := g1.use))
    go_ret2
    exact ⟨ret_two (by simp [srV, h']) (by simp [srE, errIf, h']), (by repeat (first | with_reducible exact Gr.refl _ | with_reducible assumption | with_reducible refine Gr.alloc ?_ _ | with_reducible refine Gr.drewN ?_ _ | with_reducible refine Gr.drew ?_ | with_reducible refine Gr.setCell ?_ (by first | (dsimp only; omega) | (simp only [World.size_alloc]; omega) | (with_reducible refine Gr.size ?_; (repeat (first | with_reducible exact Gr.refl _ | with_reducible assumption | with_reducible refine Gr.alloc ?_ _ | with_reducible refine Gr.drewN ?_ _ | with_reducible refine Gr.drew ?_ | with_reducible refine Gr.trans ?_ (by with_reducible assumption))); done)) _ | with_reducible refine Gr.trans ?_ (by with_reducible assumption)))⟩
theorem times_any (a b c d : Int) (w : World) (ha : Lim 16384 a) (hb : Lim 16384 b) (hc : Lim 16384 c) (hd : Lim 16384 d) :
    Calls Tryd.prog 50 #[rt a b, rt c d] w fun e w' => e = .returned (rt (a * c + 3 * (b * d)) (a * d + b * c)) ∧ Gr w w' := by
  have p1 := Lim.mul ha hc
  have p2 := Lim.mul hb hd
  have p3 := Lim.mul ha hd
  have p4 := Lim.mul hb hc
  have e1 : 3 * b * d = 3 * (b * d) := by rw [Int.mul_assoc]
  have p5 : Lim 805306368 (3 * b * d) := by unfold Lim at *; omega
  unfold Lim at *
  rw [← e1]
  clear e1
  obtain ⟨b1, b2⟩ := hb
  obtain ⟨p11, p12⟩ := p1
  obtain ⟨p31, p32⟩ := p3
  obtain ⟨p41, p42⟩ := p4
  obtain ⟨p51, p52⟩ := p5
  go_enter Tryd.func50, Tryd.ntmps50
  go_wp2
  refine bodyPost_ret (v := rt (a * c + 3 * b * d) (a * d + b * c)) (by simp [results, Tryd.results50, go_sem]) rfl ⟨rfl, (by repeat (first | with_reducible exact Gr.refl _ | with_reducible assumption | with_reducible refine Gr.alloc ?_ _ | with_reducible refine Gr.drewN ?_ _ | with_reducible refine Gr.drew ?_ | with_reducible refine Gr.setCell ?_ (by first | (dsimp only; omega) | (simp only [World.size_alloc]; omega) | (with_reducible refine Gr.size ?_; (repeat (first | with_reducible exact Gr.refl _ | with_reducible assumption | with_reducible refine Gr.alloc ?_ _ | with_reducible refine Gr.drewN ?_ _ | with_reducible refine Gr.drew ?_ | with_reducible refine Gr.trans ?_ (by with_reducible assumption))); done)) _ | with_reducible refine Gr.trans ?_ (by with_reducible assumption)))⟩
theorem plus_any (a b c d : Int) (w : World) (ha : Lim 1073741824 a) (hb : Lim 1073741824 b) (hc : Lim 1073741824 c) (hd : Lim 1073741824 d) :
    Calls Tryd.prog 51 #[rt a b, rt c d] w fun e w' => e = .returned (rt (a + c) (b + d)) ∧ Gr w w' := by
  obtain ⟨a1, a2⟩ := ha
  obtain ⟨b1, b2⟩ := hb
  obtain ⟨c1, c2⟩ := hc
  obtain ⟨d1, d2⟩ := hd
  go_enter Tryd.func51, Tryd.ntmps51
  go_wp2
  refine bodyPost_ret (v := rt (a + c) (b + d)) (by simp [results, Tryd.results51, go_sem]) rfl ⟨rfl, (by repeat (first | with_reducible exact Gr.refl _ | with_reducible assumption | with_reducible refine Gr.alloc ?_ _ | with_reducible refine Gr.drewN ?_ _ | with_reducible refine Gr.drew ?_ | with_reducible refine Gr.setCell ?_ (by first | (dsimp only; omega) | (simp only [World.size_alloc]; omega) | (with_reducible refine Gr.size ?_; (repeat (first | with_reducible exact Gr.refl _ | with_reducible assumption | with_reducible refine Gr.alloc ?_ _ | with_reducible refine Gr.drewN ?_ _ | with_reducible refine Gr.drew ?_ | with_reducible refine Gr.trans ?_ (by with_reducible assumption))); done)) _ | with_reducible refine Gr.trans ?_ (by with_reducible assumption)))⟩
theorem ret_mul {a b e a' b' e' : Int} (h : a = a') (k : b = b') (l : e = e') : Ending.returned (.tuple #[rt a b, iv e]) = .returned (.tuple #[rt a' b', iv e']) := by rw [h, k, l]
end Go.Proofs.YtfbhpeedjphpaaaDoor
