/-
  What the functions of the reference of layer 1 return: numbers with the square root of 3.
-/
import Derived.Test.YtfapbiiknfeidaaDoorGeo1
namespace Go.Proofs.YtfapbiiknfeidaaDoor
set_option linter.unusedVariables false
set_option linter.unusedSimpArgs false
open Go Go.ChangeShapes Go.WideShapes Go.ChangeAt Go.RowKit Go.Deep

theorem rwithin_any (n l : Int) (w : World) :
    Calls Tryd.prog 60 #[iv n, iv (-l), iv l] w fun e w' => e = .returned (.bool (inB n l)) ∧ w = w' := by
  go_enter Tryd.func60, Tryd.ntmps60
  go_wp2
  all_goals
    go_ret
    exact ⟨ret_bool (by simp [inB]; omega), rfl⟩
theorem rrootIn_any (a b l : Int) (w : World) (h0 : 0 ≤ l) (h1 : l ≤ 1073741824) :
    Calls Tryd.prog 51 #[rt a b, iv l] w fun e w' => e = .returned (.bool (rinB a b l)) ∧ Gr w w' := by
  go_enter Tryd.func51, Tryd.ntmps51
  go_wp2_with (go_at_call 60; refine (rwithin_any _ _ _).mono ?_; rintro e w1 ⟨rfl, rfl⟩)
  all_goals
    go_ret
    exact ⟨ret_bool (by simp [rinB, *]), (by repeat (first | with_reducible exact Gr.refl _ | with_reducible assumption | with_reducible refine Gr.alloc ?_ _ | with_reducible refine Gr.drewN ?_ _ | with_reducible refine Gr.drew ?_ | with_reducible refine Gr.setCell ?_ (by first | (dsimp only; omega) | (simp only [World.size_alloc]; omega) | (with_reducible refine Gr.size ?_; (repeat (first | with_reducible exact Gr.refl _ | with_reducible assumption | with_reducible refine Gr.alloc ?_ _ | with_reducible refine Gr.drewN ?_ _ | with_reducible refine Gr.drew ?_ | with_reducible refine Gr.trans ?_ (by with_reducible assumption))); done)) _ | with_reducible refine Gr.trans ?_ (by with_reducible assumption)))⟩
theorem rsign_any (a b : Int) (w : World) (ha : Lim 2147483648 a) (hb : Lim 1073741824 b) :
    Calls Tryd.prog 52 #[rt a b] w fun e w' => e = .returned (iv (M.sgn a b)) ∧ Gr w w' := by
  rw [M.sgn_rsgn]
  have s1 := Lim.mul ha ha
  have s2 := Lim.mul hb hb
  have s3 := M.sq_nn a
  have s4 := M.sq_nn b
  have e1 : 3 * b * b = 3 * (b * b) := by rw [Int.mul_assoc]
  have s5 : 0 ≤ 3 * b * b := by omega
  unfold Lim at *
  have s6 : 3 * b * b ≤ 3458764513820540928 := by omega
  obtain ⟨a1, a2⟩ := ha
  obtain ⟨b1, b2⟩ := hb
  have E1 := hide e1
  clear e1
  go_enter Tryd.func52, Tryd.ntmps52
  go_wp2
  all_goals
    go_ret
    refine ⟨ret_iv ?_, (by repeat (first | with_reducible exact Gr.refl _ | with_reducible assumption | with_reducible refine Gr.alloc ?_ _ | with_reducible refine Gr.drewN ?_ _ | with_reducible refine Gr.drew ?_ | with_reducible refine Gr.setCell ?_ (by first | (dsimp only; omega) | (simp only [World.size_alloc]; omega) | (with_reducible refine Gr.size ?_; (repeat (first | with_reducible exact Gr.refl _ | with_reducible assumption | with_reducible refine Gr.alloc ?_ _ | with_reducible refine Gr.drewN ?_ _ | with_reducible refine Gr.drew ?_ | with_reducible refine Gr.trans ?_ (by with_reducible assumption))); done)) _ | with_reducible refine Gr.trans ?_ (by with_reducible assumption)))⟩
    unfold M.rsgn M.sg
    rw [← E1.out]
    grind
theorem rminus_any (a b c d : Int) (w : World) (ha : Lim 4294967296 a) (hb : Lim 4294967296 b) (hc : Lim 4294967296 c) (hd : Lim 4294967296 d) :
    Calls Tryd.prog 54 #[rt a b, rt c d] w fun e w' => e = .returned (rt (a - c) (b - d)) ∧ Gr w w' := by
  obtain ⟨a1, a2⟩ := ha
  obtain ⟨b1, b2⟩ := hb
  obtain ⟨c1, c2⟩ := hc
  obtain ⟨d1, d2⟩ := hd
  go_enter Tryd.func54, Tryd.ntmps54
  go_wp2
  refine bodyPost_ret (v := rt (a - c) (b - d)) (by simp [results, Tryd.results54, go_sem]) rfl ⟨rfl, (by repeat (first | with_reducible exact Gr.refl _ | with_reducible assumption | with_reducible refine Gr.alloc ?_ _ | with_reducible refine Gr.drewN ?_ _ | with_reducible refine Gr.drew ?_ | with_reducible refine Gr.setCell ?_ (by first | (dsimp only; omega) | (simp only [World.size_alloc]; omega) | (with_reducible refine Gr.size ?_; (repeat (first | with_reducible exact Gr.refl _ | with_reducible assumption | with_reducible refine Gr.alloc ?_ _ | with_reducible refine Gr.drewN ?_ _ | with_reducible refine Gr.drew ?_ | with_reducible refine Gr.trans ?_ (by with_reducible assumption))); done)) _ | with_reducible refine Gr.trans ?_ (by with_reducible assumption)))⟩
theorem rplus_any (a b c d : Int) (w : World) (ha : Lim 1073741824 a) (hb : Lim 1073741824 b) (hc : Lim 1073741824 c) (hd : Lim 1073741824 d) :
    Calls Tryd.prog 93 #[rt a b, rt c d] w fun e w' => e = .returned (rt (a + c) (b + d)) ∧ Gr w w' := by
  obtain ⟨a1, a2⟩ := ha
  obtain ⟨b1, b2⟩ := hb
  obtain ⟨c1, c2⟩ := hc
  obtain ⟨d1, d2⟩ := hd
  go_enter Tryd.func93, Tryd.ntmps93
  go_wp2
  refine bodyPost_ret (v := rt (a + c) (b + d)) (by simp [results, Tryd.results93, go_sem]) rfl ⟨rfl, (by repeat (first | with_reducible exact Gr.refl _ | with_reducible assumption | with_reducible refine Gr.alloc ?_ _ | with_reducible refine Gr.drewN ?_ _ | with_reducible refine Gr.drew ?_ | with_reducible refine Gr.setCell ?_ (by first | (dsimp only; omega) | (simp only [World.size_alloc]; omega) | (with_reducible refine Gr.size ?_; (repeat (first | with_reducible exact Gr.refl _ | with_reducible assumption | with_reducible refine Gr.alloc ?_ _ | with_reducible refine Gr.drewN ?_ _ | with_reducible refine Gr.drew ?_ | with_reducible refine Gr.trans ?_ (by with_reducible assumption))); done)) _ | with_reducible refine Gr.trans ?_ (by with_reducible assumption)))⟩
theorem rtimes_any (a b c d : Int) (w : World) (ha : Lim 16384 a) (hb : Lim 16384 b) (hc : Lim 16384 c) (hd : Lim 16384 d) :
    Calls Tryd.prog 56 #[rt a b, rt c d] w fun e w' => e = .returned (rt (a * c + 3 * (b * d)) (a * d + b * c)) ∧ Gr w w' := by
  have p1 := Lim.mul ha hc
  have p2 := Lim.mul hb hd
  have p3 := Lim.mul ha hd
  have p4 := Lim.mul hb hc
  have e1 : 3 * b * d = 3 * (b * d) := by rw [Int.mul_assoc]
  have p5 : Lim 805306368 (3 * b * d) := by unfold Lim at *; omega
  unfold Lim at *
  rw [← e1]
  clear e1
  obtain ⟨b1, b2⟩ := hb
  obtain ⟨p11, p12⟩ := p1
  obtain ⟨p31, p32⟩ := p3
  obtain ⟨p41, p42⟩ := p4
  obtain ⟨p51, p52⟩ := p5
  go_enter Tryd.func56, Tryd.ntmps56
  go_wp2
  refine bodyPost_ret (v := rt (a * c + 3 * b * d) (a * d + b * c)) (by simp [results, Tryd.results56, go_sem]) rfl ⟨rfl, (by repeat (first | with_reducible exact Gr.refl _ | with_reducible assumption | with_reducible refine Gr.alloc ?_ _ | with_reducible refine Gr.drewN ?_ _ | with_reducible refine Gr.drew ?_ | with_reducible refine Gr.setCell ?_ (by first | (dsimp only; omega) | (simp only [World.size_alloc]; omega) | (with_reducible refine Gr.size ?_; (repeat (first | with_reducible exact Gr.refl _ | with_reducible assumption | with_reducible refine Gr.alloc ?_ _ | with_reducible refine Gr.drewN ?_ _ | with_reducible refine Gr.drew ?_ | with_reducible refine Gr.trans ?_ (by with_reducible assumption))); done)) _ | with_reducible refine Gr.trans ?_ (by with_reducible assumption)))⟩
theorem rSignRoot_any (a b : Int) (w : World) :
    Calls Tryd.prog 16 #[rt a b] w fun e w' => e = .returned (.tuple #[iv (srV a b), iv (srE a b)]) ∧ Gr w w' := by
  by_cases h : rinB a b 268435456 = true
  · obtain ⟨ha, hb⟩ := lims_of h
    go_enter Tryd.func16, Tryd.ntmps16
    go_wp2_with (first | (go_at_call 51; refine (rrootIn_any _ _ _ _ (by omega) (by omega)).mono ?_; rintro e w1 ⟨rfl, g1⟩; obtain ⟨X1, Y1, c1, f1⟩ := g1.use) | (go_at_call 52; refine (rsign_any _ _ _ (ha.mono (by omega)) (hb.mono (by omega))).mono ?_; rintro e w1 ⟨rfl, g1⟩; obtain ⟨X1, Y1, c1, f1⟩ := g1.use))
    go_ret2
    exact ⟨ret_two (by simp [srV, h]) (by simp [srE, errIf, h]), (by repeat (first | with_reducible exact Gr.refl _ | with_reducible assumption | with_reducible refine Gr.alloc ?_ _ | with_reducible refine Gr.drewN ?_ _ | with_reducible refine Gr.drew ?_ | with_reducible refine Gr.setCell ?_ (by first | (dsimp only; omega) | (simp only [World.size_alloc]; omega) | (with_reducible refine Gr.size ?_; (repeat (first | with_reducible exact Gr.refl _ | with_reducible assumption | with_reducible refine Gr.alloc ?_ _ | with_reducible refine Gr.drewN ?_ _ | with_reducible refine Gr.drew ?_ | with_reducible refine Gr.trans ?_ (by with_reducible assumption))); done)) _ | with_reducible refine Gr.trans ?_ (by with_reducible assumption)))⟩
  · have h' : rinB a b 268435456 = false := by simpa using h
    clear h
    go_enter Tryd.func16, Tryd.ntmps16
    go_wp2_with (first | (go_at_call 51; refine (rrootIn_any _ _ _ _ (by omega) (by omega)).mono ?_; rintro e w1 ⟨rfl, g1⟩; obtain ⟨X1, Y1, c1, f1⟩ := g1.use))
    go_ret2
    exact ⟨ret_two (by simp [srV, h']) (by simp [srE, errIf, h']), (by repeat (first | with_reducible exact Gr.refl _ | with_reducible assumption | with_reducible refine Gr.alloc ?_ _ | with_reducible refine Gr.drewN ?_ _ | with_reducible refine Gr.drew ?_ | with_reducible refine Gr.setCell ?_ (by first | (dsimp only; omega) | (simp only [World.size_alloc]; omega) | (with_reducible refine Gr.size ?_; (repeat (first | with_reducible exact Gr.refl _ | with_reducible assumption | with_reducible refine Gr.alloc ?_ _ | with_reducible refine Gr.drewN ?_ _ | with_reducible refine Gr.drew ?_ | with_reducible refine Gr.trans ?_ (by with_reducible assumption))); done)) _ | with_reducible refine Gr.trans ?_ (by with_reducible assumption)))⟩
theorem rCompareRoot_any (a b c d : Int) (w : World) :
    Calls Tryd.prog 18 #[rt a b, rt c d] w fun e w' => e = .returned (.tuple #[iv (crV a b c d), iv (crE a b c d)]) ∧ Gr w w' := by
  by_cases h1 : rinB a b 268435456 = true
  · by_cases h2 : rinB c d 268435456 = true
    · obtain ⟨ha, hb⟩ := lims_of h1
      obtain ⟨hc, hd⟩ := lims_of h2
      go_enter Tryd.func18, Tryd.ntmps18
      go_wp2_with (first | (go_at_call 51; refine (rrootIn_any _ _ _ _ (by omega) (by omega)).mono ?_; rintro e w1 ⟨rfl, g1⟩; obtain ⟨X1, Y1, c1, f1⟩ := g1.use) | (go_at_call 54; refine (rminus_any _ _ _ _ _ (ha.mono (by omega)) (hb.mono (by omega)) (hc.mono (by omega)) (hd.mono (by omega))).mono ?_; rintro e w1 ⟨rfl, g1⟩; obtain ⟨X1, Y1, c1, f1⟩ := g1.use) | (go_at_call 52; refine (rsign_any _ _ _ ((ha.sub hc).mono (by omega)) ((hb.sub hd).mono (by omega))).mono ?_; rintro e w1 ⟨rfl, g1⟩; obtain ⟨X1, Y1, c1, f1⟩ := g1.use))
      go_ret2
      exact ⟨ret_two (by simp [crV, crB, h1, h2]) (by simp [crE, crB, errIf, h1, h2]), (by repeat (first | with_reducible exact Gr.refl _ | with_reducible assumption | with_reducible refine Gr.alloc ?_ _ | with_reducible refine Gr.drewN ?_ _ | with_reducible refine Gr.drew ?_ | with_reducible refine Gr.setCell ?_ (by first | (dsimp only; omega) | (simp only [World.size_alloc]; omega) | (with_reducible refine Gr.size ?_; (repeat (first | with_reducible exact Gr.refl _ | with_reducible assumption | with_reducible refine Gr.alloc ?_ _ | with_reducible refine Gr.drewN ?_ _ | with_reducible refine Gr.drew ?_ | with_reducible refine Gr.trans ?_ (by with_reducible assumption))); done)) _ | with_reducible refine Gr.trans ?_ (by with_reducible assumption)))⟩
    · have h2' : rinB c d 268435456 = false := by simpa using h2
      clear h2
      go_enter Tryd.func18, Tryd.ntmps18
      go_wp2_with (first | (go_at_call 51; refine (rrootIn_any _ _ _ _ (by omega) (by omega)).mono ?_; rintro e w1 ⟨rfl, g1⟩; obtain ⟨X1, Y1, c1, f1⟩ := g1.use))
      go_ret2
      exact ⟨ret_two (by simp [crV, crB, h2']) (by simp [crE, crB, errIf, h2']), (by repeat (first | with_reducible exact Gr.refl _ | with_reducible assumption | with_reducible refine Gr.alloc ?_ _ | with_reducible refine Gr.drewN ?_ _ | with_reducible refine Gr.drew ?_ | with_reducible refine Gr.setCell ?_ (by first | (dsimp only; omega) | (simp only [World.size_alloc]; omega) | (with_reducible refine Gr.size ?_; (repeat (first | with_reducible exact Gr.refl _ | with_reducible assumption | with_reducible refine Gr.alloc ?_ _ | with_reducible refine Gr.drewN ?_ _ | with_reducible refine Gr.drew ?_ | with_reducible refine Gr.trans ?_ (by with_reducible assumption))); done)) _ | with_reducible refine Gr.trans ?_ (by with_reducible assumption)))⟩
  · have h1' : rinB a b 268435456 = false := by simpa using h1
    clear h1
    go_enter Tryd.func18, Tryd.ntmps18
    go_wp2_with (first | (go_at_call 51; refine (rrootIn_any _ _ _ _ (by omega) (by omega)).mono ?_; rintro e w1 ⟨rfl, g1⟩; obtain ⟨X1, Y1, c1, f1⟩ := g1.use))
    go_ret2
    exact ⟨ret_two (by simp [crV, crB, h1']) (by simp [crE, crB, errIf, h1']), (by repeat (first | with_reducible exact Gr.refl _ | with_reducible assumption | with_reducible refine Gr.alloc ?_ _ | with_reducible refine Gr.drewN ?_ _ | with_reducible refine Gr.drew ?_ | with_reducible refine Gr.setCell ?_ (by first | (dsimp only; omega) | (simp only [World.size_alloc]; omega) | (with_reducible refine Gr.size ?_; (repeat (first | with_reducible exact Gr.refl _ | with_reducible assumption | with_reducible refine Gr.alloc ?_ _ | with_reducible refine Gr.drewN ?_ _ | with_reducible refine Gr.drew ?_ | with_reducible refine Gr.trans ?_ (by with_reducible assumption))); done)) _ | with_reducible refine Gr.trans ?_ (by with_reducible assumption)))⟩
theorem rMultiply_any (a b c d : Int) (w : World) :
    Calls Tryd.prog 21 #[rt a b, rt c d] w fun e w' => e = .returned (.tuple #[rt (muA a b c d) (muC a b c d), iv (muE a b c d)]) ∧ Gr w w' := by
  by_cases h1 : rinB a b 4096 = true
  · by_cases h2 : rinB c d 4096 = true
    · obtain ⟨ha, hb⟩ := lims_of h1
      obtain ⟨hc, hd⟩ := lims_of h2
      go_enter Tryd.func21, Tryd.ntmps21
      go_wp2_with (first | (go_at_call 51; refine (rrootIn_any _ _ _ _ (by omega) (by omega)).mono ?_; rintro e w1 ⟨rfl, g1⟩; obtain ⟨X1, Y1, c1, f1⟩ := g1.use) | (go_at_call 56; refine (rtimes_any _ _ _ _ _ (ha.mono (by omega)) (hb.mono (by omega)) (hc.mono (by omega)) (hd.mono (by omega))).mono ?_; rintro e w1 ⟨rfl, g1⟩; obtain ⟨X1, Y1, c1, f1⟩ := g1.use))
      refine bodyPost_ret (v := .tuple #[rt (a * c + 3 * (b * d)) (a * d + b * c), iv 0]) (by simp [results, Tryd.results21, go_sem, *]) rfl ⟨ret_mul (by simp [muA, muB, h1, h2]) (by simp [muC, muB, h1, h2]) (by simp [muE, muB, errIf, h1, h2]), (by repeat (first | with_reducible exact Gr.refl _ | with_reducible assumption | with_reducible refine Gr.alloc ?_ _ | with_reducible refine Gr.drewN ?_ _ | with_reducible refine Gr.drew ?_ | with_reducible refine Gr.setCell ?_ (by first | (dsimp only; omega) | (simp only [World.size_alloc]; omega) | (with_reducible refine Gr.size ?_; (repeat (first | with_reducible exact Gr.refl _ | with_reducible assumption | with_reducible refine Gr.alloc ?_ _ | with_reducible refine Gr.drewN ?_ _ | with_reducible refine Gr.drew ?_ | with_reducible refine Gr.trans ?_ (by with_reducible assumption))); done)) _ | with_reducible refine Gr.trans ?_ (by with_reducible assumption)))⟩
    · have h2' : rinB c d 4096 = false := by simpa using h2
      clear h2
      go_enter Tryd.func21, Tryd.ntmps21
      go_wp2_with (first | (go_at_call 51; refine (rrootIn_any _ _ _ _ (by omega) (by omega)).mono ?_; rintro e w1 ⟨rfl, g1⟩; obtain ⟨X1, Y1, c1, f1⟩ := g1.use))
      refine bodyPost_ret (v := .tuple #[rt 0 0, iv 4]) (by simp [results, Tryd.results21, go_sem, *]) rfl ⟨ret_mul (by simp [muA, muB, h2']) (by simp [muC, muB, h2']) (by simp [muE, muB, errIf, h2']), (by repeat (first | with_reducible exact Gr.refl _ | with_reducible assumption | with_reducible refine Gr.alloc ?_ _ | with_reducible refine Gr.drewN ?_ _ | with_reducible refine Gr.drew ?_ | with_reducible refine Gr.setCell ?_ (by first | (dsimp only; omega) | (simp only [World.size_alloc]; omega) | (with_reducible refine Gr.size ?_; (repeat (first | with_reducible exact Gr.refl _ | with_reducible assumption | with_reducible refine Gr.alloc ?_ _ | with_reducible refine Gr.drewN ?_ _ | with_reducible refine Gr.drew ?_ | with_reducible refine Gr.trans ?_ (by with_reducible assumption))); done)) _ | with_reducible refine Gr.trans ?_ (by with_reducible assumption)))⟩
  · have h1' : rinB a b 4096 = false := by simpa using h1
    clear h1
    go_enter Tryd.func21, Tryd.ntmps21
    go_wp2_with (first | (go_at_call 51; refine (rrootIn_any _ _ _ _ (by omega) (by omega)).mono ?_; rintro e w1 ⟨rfl, g1⟩; obtain ⟨X1, Y1, c1, f1⟩ := g1.use))
    refine bodyPost_ret (v := .tuple #[rt 0 0, iv 4]) (by simp [results, Tryd.results21, go_sem, *]) rfl ⟨ret_mul (by simp [muA, muB, h1']) (by simp [muC, muB, h1']) (by simp [muE, muB, errIf, h1']), (by repeat (first | with_reducible exact Gr.refl _ | with_reducible assumption | with_reducible refine Gr.alloc ?_ _ | with_reducible refine Gr.drewN ?_ _ | with_reducible refine Gr.drew ?_ | with_reducible refine Gr.setCell ?_ (by first | (dsimp only; omega) | (simp only [World.size_alloc]; omega) | (with_reducible refine Gr.size ?_; (repeat (first | with_reducible exact Gr.refl _ | with_reducible assumption | with_reducible refine Gr.alloc ?_ _ | with_reducible refine Gr.drewN ?_ _ | with_reducible refine Gr.drew ?_ | with_reducible refine Gr.trans ?_ (by with_reducible assumption))); done)) _ | with_reducible refine Gr.trans ?_ (by with_reducible assumption)))⟩
end Go.Proofs.YtfapbiiknfeidaaDoor
