/-
  What the functions of the reference of layer 1 return: numbers with the square root of 3.
-/
import Derived.Test.YtloefohekhkehaaDoorGeo1
namespace Go.Proofs.YtloefohekhkehaaDoor
set_option linter.unusedVariables false
set_option linter.unusedSimpArgs false
open Go Go.ChangeShapes Go.WideShapes Go.ChangeAt Go.RowKit Go.Deep

theorem rwithin_any (n l : Int) (w : World) :
    Calls Tryd.prog 27 #[iv n, iv (-l), iv l] w fun e w' => e = .returned (.bool (inB n l)) ∧ w = w' := by
  go_enter Tryd.func27, Tryd.ntmps27
  go_wp2
  all_goals
    go_ret
    exact ⟨ret_bool (by simp [inB]; omega), rfl⟩
theorem rsign_any (a b : Int) (w : World) (ha : Lim 2147483648 a) (hb : Lim 1073741824 b) :
    Calls Tryd.prog 44 #[rt a b] w fun e w' => e = .returned (iv (M.sgn a b)) ∧ Gr w w' := by
  rw [M.sgn_rsgn]
  have s1 := Lim.mul ha ha
  have s2 := Lim.mul hb hb
  have s3 := M.sq_nn a
  have s4 := M.sq_nn b
  have e1 : 3 * b * b = 3 * (b * b) := by rw [Int.mul_assoc]
  have s5 : 0 ≤ 3 * b * b := by omega
  unfold Lim at *
  have s6 : 3 * b * b ≤ 3458764513820540928 := by omega
  obtain ⟨a1, a2⟩ := ha
  obtain ⟨b1, b2⟩ := hb
  have E1 := hide e1
  clear e1
  go_enter Tryd.func44, Tryd.ntmps44
  go_wp2
  all_goals
    go_ret
    refine ⟨ret_iv ?_, (by repeat (first | with_reducible exact Gr.refl _ | with_reducible assumption | with_reducible refine Gr.alloc ?_ _ | with_reducible refine Gr.drewN ?_ _ | with_reducible refine Gr.drew ?_ | with_reducible refine Gr.setCell ?_ (by first | (dsimp only; omega) | (simp only [World.size_alloc]; omega) | (with_reducible refine Gr.size ?_; (repeat (first | with_reducible exact Gr.refl _ | with_reducible assumption | with_reducible refine Gr.alloc ?_ _ | with_reducible refine Gr.drewN ?_ _ | with_reducible refine Gr.drew ?_ | with_reducible refine Gr.trans ?_ (by with_reducible assumption))); done)) _ | with_reducible refine Gr.trans ?_ (by with_reducible assumption)))⟩
    unfold M.rsgn M.sg
    rw [← E1.out]
    grind
theorem rminus_any (a b c d : Int) (w : World) (ha : Lim 4294967296 a) (hb : Lim 4294967296 b) (hc : Lim 4294967296 c) (hd : Lim 4294967296 d) :
    Calls Tryd.prog 29 #[rt a b, rt c d] w fun e w' => e = .returned (rt (a - c) (b - d)) ∧ Gr w w' := by
  obtain ⟨a1, a2⟩ := ha
  obtain ⟨b1, b2⟩ := hb
  obtain ⟨c1, c2⟩ := hc
  obtain ⟨d1, d2⟩ := hd
  go_enter Tryd.func29, Tryd.ntmps29
  go_wp2
  refine bodyPost_ret (v := rt (a - c) (b - d)) (by simp [results, Tryd.results29, go_sem]) rfl ⟨rfl, (by repeat (first | with_reducible exact Gr.refl _ | with_reducible assumption | with_reducible refine Gr.alloc ?_ _ | with_reducible refine Gr.drewN ?_ _ | with_reducible refine Gr.drew ?_ | with_reducible refine Gr.setCell ?_ (by first | (dsimp only; omega) | (simp only [World.size_alloc]; omega) | (with_reducible refine Gr.size ?_; (repeat (first | with_reducible exact Gr.refl _ | with_reducible assumption | with_reducible refine Gr.alloc ?_ _ | with_reducible refine Gr.drewN ?_ _ | with_reducible refine Gr.drew ?_ | with_reducible refine Gr.trans ?_ (by with_reducible assumption))); done)) _ | with_reducible refine Gr.trans ?_ (by with_reducible assumption)))⟩
theorem rplus_any (a b c d : Int) (w : World) (ha : Lim 1073741824 a) (hb : Lim 1073741824 b) (hc : Lim 1073741824 c) (hd : Lim 1073741824 d) :
    Calls Tryd.prog 31 #[rt a b, rt c d] w fun e w' => e = .returned (rt (a + c) (b + d)) ∧ Gr w w' := by
  obtain ⟨a1, a2⟩ := ha
  obtain ⟨b1, b2⟩ := hb
  obtain ⟨c1, c2⟩ := hc
  obtain ⟨d1, d2⟩ := hd
  go_enter Tryd.func31, Tryd.ntmps31
  go_wp2
  refine bodyPost_ret (v := rt (a + c) (b + d)) (by simp [results, Tryd.results31, go_sem]) rfl ⟨rfl, (by repeat (first | with_reducible exact Gr.refl _ | with_reducible assumption | with_reducible refine Gr.alloc ?_ _ | with_reducible refine Gr.drewN ?_ _ | with_reducible refine Gr.drew ?_ | with_reducible refine Gr.setCell ?_ (by first | (dsimp only; omega) | (simp only [World.size_alloc]; omega) | (with_reducible refine Gr.size ?_; (repeat (first | with_reducible exact Gr.refl _ | with_reducible assumption | with_reducible refine Gr.alloc ?_ _ | with_reducible refine Gr.drewN ?_ _ | with_reducible refine Gr.drew ?_ | with_reducible refine Gr.trans ?_ (by with_reducible assumption))); done)) _ | with_reducible refine Gr.trans ?_ (by with_reducible assumption)))⟩
theorem rtimes_any (a b c d : Int) (w : World) (ha : Lim 16384 a) (hb : Lim 16384 b) (hc : Lim 16384 c) (hd : Lim 16384 d) :
    Calls Tryd.prog 45 #[rt a b, rt c d] w fun e w' => e = .returned (rt (a * c + 3 * (b * d)) (a * d + b * c)) ∧ Gr w w' := by
  have p1 := Lim.mul ha hc
  have p2 := Lim.mul hb hd
  have p3 := Lim.mul ha hd
  have p4 := Lim.mul hb hc
  have e1 : 3 * b * d = 3 * (b * d) := by rw [Int.mul_assoc]
  have p5 : Lim 805306368 (3 * b * d) := by unfold Lim at *; omega
  unfold Lim at *
  rw [← e1]
  clear e1
  obtain ⟨b1, b2⟩ := hb
  obtain ⟨p11, p12⟩ := p1
  obtain ⟨p31, p32⟩ := p3
  obtain ⟨p41, p42⟩ := p4
  obtain ⟨p51, p52⟩ := p5
  go_enter Tryd.func45, Tryd.ntmps45
  go_wp2
  refine bodyPost_ret (v := rt (a * c + 3 * b * d) (a * d + b * c)) (by simp [results, Tryd.results45, go_sem]) rfl ⟨rfl, (by repeat (first | with_reducible exact Gr.refl _ | with_reducible assumption | with_reducible refine Gr.alloc ?_ _ | with_reducible refine Gr.drewN ?_ _ | with_reducible refine Gr.drew ?_ | with_reducible refine Gr.setCell ?_ (by first | (dsimp only; omega) | (simp only [World.size_alloc]; omega) | (with_reducible refine Gr.size ?_; (repeat (first | with_reducible exact Gr.refl _ | with_reducible assumption | with_reducible refine Gr.alloc ?_ _ | with_reducible refine Gr.drewN ?_ _ | with_reducible refine Gr.drew ?_ | with_reducible refine Gr.trans ?_ (by with_reducible assumption))); done)) _ | with_reducible refine Gr.trans ?_ (by with_reducible assumption)))⟩
end Go.Proofs.YtloefohekhkehaaDoor
