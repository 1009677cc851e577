/-
  Axes of vectors, numbers within limits: the small functions of Clash, on both sides.
-/
import Derived.Test.YtefjgfglommefaaKnown
import Derived.Test.YtefjgfglommefaaTail
import Derived.Deep.DeepCutAuto
import Derived.StillTactics
namespace Go.Proofs.Ytefjgfglommefaa
set_option linter.unusedVariables false
set_option linter.unusedSimpArgs false
open Go Go.ChangeShapes Go.WideShapes Go.ChangeAt Go.RowKit Go.Deep

theorem ret_iv {a b : Int} (h : a = b) : Ending.returned (iv a) = .returned (iv b) := by rw [h]
theorem pwithin_any (n lo hi : Int) (w : World) :
    Calls Try.prog 52 #[iv n, iv lo, iv hi] w fun e w' => e = .returned (.bool (wiB n lo hi)) ∧ w = w' := by
  go_enter Try.func52, Try.ntmps52
  go_wp2
  all_goals
    go_ret
    exact ⟨ret_bool (by simp [wiB]; omega), rfl⟩
theorem numbers_any (x y z : Int) (w : World) :
    Calls Try.prog 93 #[vc x y z] w fun e w' => e = .returned (vc x y z) ∧ Gr w w' := by
  go_enter Try.func93, Try.ntmps93
  go_wp2
  refine bodyPost_ret (v := vc x y z) (by simp [results, Try.results93, go_sem]) rfl ⟨rfl, (by repeat (first | with_reducible exact Gr.refl _ | with_reducible assumption | with_reducible refine Gr.alloc ?_ _ | with_reducible refine Gr.drewN ?_ _ | with_reducible refine Gr.drew ?_ | with_reducible refine Gr.setCell ?_ (by first | (dsimp only; omega) | (simp only [World.size_alloc]; omega) | (with_reducible refine Gr.size ?_; (repeat (first | with_reducible exact Gr.refl _ | with_reducible assumption | with_reducible refine Gr.alloc ?_ _ | with_reducible refine Gr.drewN ?_ _ | with_reducible refine Gr.drew ?_ | with_reducible refine Gr.trans ?_ (by with_reducible assumption))); done)) _ | with_reducible refine Gr.trans ?_ (by with_reducible assumption)))⟩
theorem sizeInt (h2 : 3 < Try.prog.types.size) : (Try.prog.types[3]'h2).size = 1 := by kernel_rfl
theorem idx3 (x y z : Int) (k : Int) {v : Value} (hv : #[iv x, iv y, iv z][k.toNat]? = some v) (h2 : 3 < Try.prog.types.size) (h : k.toNat * (Try.prog.types[3]'h2).size < #[iv x, iv y, iv z].size) : #[iv x, iv y, iv z][k.toNat * (Try.prog.types[3]'h2).size]'h = v := by
  have e : k.toNat * (Try.prog.types[3]'h2).size = k.toNat := by rw [sizeInt, Nat.mul_one]
  have h3 : #[iv x, iv y, iv z][k.toNat * (Try.prog.types[3]'h2).size]? = some v := by rw [e]; exact hv
  exact (Array.getElem?_eq_some_iff.1 h3).2
theorem uTri : Try.prog.underlying 78 = some (.array 3 3) := by kernel_rfl
theorem ind30 (x y z : Int) (w : World) : (Instr.index 78 (.agg #[iv x, iv y, iv z]) (.int .i64 0)).run Try.prog w = .ok (iv x) w := by kernel_rfl
theorem ind31 (x y z : Int) (w : World) : (Instr.index 78 (.agg #[iv x, iv y, iv z]) (.int .i64 1)).run Try.prog w = .ok (iv y) w := by kernel_rfl
theorem ind32 (x y z : Int) (w : World) : (Instr.index 78 (.agg #[iv x, iv y, iv z]) (.int .i64 2)).run Try.prog w = .ok (iv z) w := by kernel_rfl
def limB (n : Int) : Bool := wiB n (-1048576) 1048576
def orgB (x y z : Int) : Bool := limB x && limB y && limB z
set_option maxRecDepth 100000 in
set_option maxHeartbeats 1000000 in
theorem origin_any (x y z : Int) (w : World) :
    Calls Try.prog 91 #[vc x y z] w fun e w' => e = .returned (.bool (orgB x y z)) ∧ Gr w w' := by
  have E0 := fun w => ind30 x y z w
  have E1 := fun w => ind31 x y z w
  have E2 := fun w => ind32 x y z w
  go_enter Try.func91, Try.ntmps91
  go_wp2_with (go_at_call 93; refine (numbers_any _ _ _ _).mono ?_; rintro e w1 ⟨rfl, g1⟩; obtain ⟨X1, Y1, c1, f1⟩ := g1.use)
  go_loopw [7] (fun i wr => ∃ k : Int, 0 ≤ k ∧ k ≤ 3 ∧ i = iv k ∧ Gr w wr ∧ Hid ((1 ≤ k → limB x = true) ∧ (2 ≤ k → limB y = true) ∧ (3 ≤ k → limB z = true))) (fun i _ => 3 - (intOf i).toNat)
  case atStart => exact ⟨0, by omega, by omega, rfl, (by repeat (first | with_reducible exact Gr.refl _ | with_reducible assumption | with_reducible refine Gr.alloc ?_ _ | with_reducible refine Gr.drewN ?_ _ | with_reducible refine Gr.drew ?_ | with_reducible refine Gr.setCell ?_ (by first | (dsimp only; omega) | (simp only [World.size_alloc]; omega) | (with_reducible refine Gr.size ?_; (repeat (first | with_reducible exact Gr.refl _ | with_reducible assumption | with_reducible refine Gr.alloc ?_ _ | with_reducible refine Gr.drewN ?_ _ | with_reducible refine Gr.drew ?_ | with_reducible refine Gr.trans ?_ (by with_reducible assumption))); done)) _ | with_reducible refine Gr.trans ?_ (by with_reducible assumption))), by omega, by omega, by omega⟩
  case round =>
    obtain ⟨k, hk0, hk, rfl, g, HT⟩ := hrel
    obtain ⟨h1, h2, h3⟩ := HT.out
    rcases (by omega : k = 0 ∨ k = 1 ∨ k = 2 ∨ k = 3) with rfl | rfl | rfl | rfl
    · clear HT h1 h2 h3
      by_cases c : limB x = true
      · have c' : wiB x (-1048576) 1048576 = true := c
        have HC := hide c
        clear c
        go_wp2_with (go_at_call 52; refine (pwithin_any _ _ _ _).mono ?_; rintro e w1 ⟨rfl, rfl⟩)
        go_roundw
        case rel => exact ⟨1, by omega, by omega, rfl, g, fun _ => HC.out, by omega, by omega⟩
        case measure => simp [intOf]
      · have c' : wiB x (-1048576) 1048576 = false := by simpa [limB] using c
        clear c
        go_wp2_with (go_at_call 52; refine (pwithin_any _ _ _ _).mono ?_; rintro e w1 ⟨rfl, rfl⟩)
        go_ret
        exact ⟨ret_bool (by simp [orgB, limB, c']), g⟩
    · have H1 := hide (h1 (by omega))
      clear HT h1 h2 h3
      by_cases c : limB y = true
      · have c' : wiB y (-1048576) 1048576 = true := c
        have HC := hide c
        clear c
        go_wp2_with (go_at_call 52; refine (pwithin_any _ _ _ _).mono ?_; rintro e w1 ⟨rfl, rfl⟩)
        go_roundw
        case rel => exact ⟨2, by omega, by omega, rfl, g, fun _ => H1.out, fun _ => HC.out, by omega⟩
        case measure => simp [intOf]
      · have c' : wiB y (-1048576) 1048576 = false := by simpa [limB] using c
        clear c
        go_wp2_with (go_at_call 52; refine (pwithin_any _ _ _ _).mono ?_; rintro e w1 ⟨rfl, rfl⟩)
        go_ret
        exact ⟨ret_bool (by simp [orgB, limB, c']), g⟩
    · have H1 := hide (h1 (by omega))
      have H2 := hide (h2 (by omega))
      clear HT h1 h2 h3
      by_cases c : limB z = true
      · have c' : wiB z (-1048576) 1048576 = true := c
        have HC := hide c
        clear c
        go_wp2_with (go_at_call 52; refine (pwithin_any _ _ _ _).mono ?_; rintro e w1 ⟨rfl, rfl⟩)
        go_roundw
        case rel => exact ⟨3, by omega, by omega, rfl, g, fun _ => H1.out, fun _ => H2.out, fun _ => HC.out⟩
        case measure => simp [intOf]
      · have c' : wiB z (-1048576) 1048576 = false := by simpa [limB] using c
        clear c
        go_wp2_with (go_at_call 52; refine (pwithin_any _ _ _ _).mono ?_; rintro e w1 ⟨rfl, rfl⟩)
        go_ret
        exact ⟨ret_bool (by simp [orgB, limB, c']), g⟩
    · have H1 := hide (show orgB x y z = true by simp [orgB, h1 (by omega), h2 (by omega), h3 (by omega)])
      clear HT h1 h2 h3
      go_wp2
      go_ret
      exact ⟨ret_bool H1.out.symm, g⟩
/-- the axis along which a vector is a unit, or -1 -/
def axI (x y z : Int) : Int := if (x = 1 ∨ x = -1) ∧ y = 0 ∧ z = 0 then 0 else if x = 0 ∧ (y = 1 ∨ y = -1) ∧ z = 0 then 1 else if x = 0 ∧ y = 0 ∧ (z = 1 ∨ z = -1) then 2 else -1
def axK (x y z : Int) : Int := if axI x y z < 0 then 0 else axI x y z
def axB (x y z : Int) : Bool := decide (0 ≤ axI x y z)
theorem ret_ax {a b : Int} {c d : Bool} (h : a = b) (k : c = d) : Ending.returned (.tuple #[iv a, .bool c]) = .returned (.tuple #[iv b, .bool d]) := by rw [h, k]
theorem veB_no {a b c x y z : Int} : veB a b c x y z = false ↔ ¬ (a = x ∧ b = y ∧ c = z) := by rw [← veB_iff]; simp
set_option maxRecDepth 100000 in
set_option maxHeartbeats 1000000 in
theorem axisOf_any (x y z : Int) (w : World) :
    Calls Try.prog 90 #[vc x y z] w fun e w' => e = .returned (.tuple #[iv (axK x y z), .bool (axB x y z)]) ∧ Gr w w' := by
  have NEV := fun a b c w => eqVec x y z a b c w
  have GV := gVec
  go_enter Try.func90, Try.ntmps90
  go_wp2
  all_goals
    go_ret2
    refine ⟨ret_ax ?_ ?_, (by repeat (first | with_reducible exact Gr.refl _ | with_reducible assumption | with_reducible refine Gr.alloc ?_ _ | with_reducible refine Gr.drewN ?_ _ | with_reducible refine Gr.drew ?_ | with_reducible refine Gr.setCell ?_ (by first | (dsimp only; omega) | (simp only [World.size_alloc]; omega) | (with_reducible refine Gr.size ?_; (repeat (first | with_reducible exact Gr.refl _ | with_reducible assumption | with_reducible refine Gr.alloc ?_ _ | with_reducible refine Gr.drewN ?_ _ | with_reducible refine Gr.drew ?_ | with_reducible refine Gr.trans ?_ (by with_reducible assumption))); done)) _ | with_reducible refine Gr.trans ?_ (by with_reducible assumption)))⟩ <;> ((try unfold axK); (try unfold axB); unfold axI; simp only [veB_iff, veB_no] at *; grind)
end Go.Proofs.Ytefjgfglommefaa
