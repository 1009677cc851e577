/-
  Rationals: what both sides' reduction returns.
-/
import Derived.Test.YtjnfodbniohkhaaName3
import Derived.IntWalk
import Derived.Deep.DeepCutAuto
import Derived.StillTactics
set_option linter.unusedVariables false
set_option linter.unusedSimpArgs false
namespace Go.Proofs.Ytjnfodbniohkhaa
set_option linter.unusedVariables false
set_option linter.unusedSimpArgs false
open Go Go.ChangeShapes Go.WideShapes Go.ChangeAt Go.RowKit Go.Deep

abbrev ra (n d : Int) : Value := .agg #[iv n, iv d]
theorem fwithin_any (n lo hi : Int) (w : World) :
    Calls Try.prog 16 #[iv n, iv lo, iv hi] w fun e w' => e = .returned (.bool (wiB n lo hi)) ∧ w = w' := by
  go_enter Try.func16, Try.ntmps16
  go_wp2
  all_goals
    go_ret
    exact ⟨ret_bool (by simp [wiB]; omega), rfl⟩
theorem r3within_any (n lo hi : Int) (w : World) :
    Calls Try.prog 55 #[iv n, iv lo, iv hi] w fun e w' => e = .returned (.bool (wiB n lo hi)) ∧ w = w' := by
  go_enter Try.func55, Try.ntmps55
  go_wp2
  all_goals
    go_ret
    exact ⟨ret_bool (by simp [wiB]; omega), rfl⟩
theorem ret_iv' {a b : Int} (h : a = b) : Ending.returned (iv a) = .returned (iv b) := by rw [h]
def raB (n d : Int) : Bool := wiB n (-16777216) 16777216 && wiB d 1 4096
theorem raB_iff {n d : Int} : raB n d = true ↔ (-16777216 ≤ n ∧ n ≤ 16777216) ∧ 1 ≤ d ∧ d ≤ 4096 := by simp [raB, wiB]
theorem validRat_any (n d : Int) (w : World) :
    Calls Try.prog 30 #[ra n d] w fun e w' => e = .returned (.bool (raB n d)) ∧ Gr w w' := by
  go_enter Try.func30, Try.ntmps30
  go_wp2_with (go_at_call 16; refine (fwithin_any _ _ _ _).mono ?_; rintro e w1 ⟨rfl, rfl⟩)
  all_goals
    go_ret
    exact ⟨ret_bool (by simp [raB, *]), (by repeat (first | with_reducible exact Gr.refl _ | with_reducible assumption | with_reducible refine Gr.alloc ?_ _ | with_reducible refine Gr.drewN ?_ _ | with_reducible refine Gr.drew ?_ | with_reducible refine Gr.setCell ?_ (by first | (dsimp only; omega) | (simp only [World.size_alloc]; omega) | (with_reducible refine Gr.size ?_; (repeat (first | with_reducible exact Gr.refl _ | with_reducible assumption | with_reducible refine Gr.alloc ?_ _ | with_reducible refine Gr.drewN ?_ _ | with_reducible refine Gr.drew ?_ | with_reducible refine Gr.trans ?_ (by with_reducible assumption))); done)) _ | with_reducible refine Gr.trans ?_ (by with_reducible assumption)))⟩
set_option maxHeartbeats 1000000 in
theorem cd_any (m n : Nat) (w : World) (hn : n ≤ 1099511627776) (hm : m ≤ 1099511627776) :
    Calls Try.prog 46 #[iv m, iv n] w fun e w' => e = .returned (iv (Nat.gcd m n : Nat)) ∧ w = w' := by
  go_enter Try.func46, Try.ntmps46
  go_wp2
  go_loop [0, 1] (fun a b => ∃ (z : Int) (x y : Nat), a = iv z ∧ z = x ∧ b = iv y ∧ x ≤ 1099511627776 ∧ y ≤ 1099511627776 ∧ Hid (Nat.gcd x y = Nat.gcd m n)) (fun a _ => (intOf a).toNat)
  case atStart => exact ⟨m, m, n, rfl, rfl, rfl, hm, hn, rfl⟩
  case round =>
    obtain ⟨z, x, y, rfl, hz, rfl, hx, hy, HG⟩ := hrel
    by_cases h0 : x = 0
    · subst h0
      obtain rfl : z = 0 := by omega
      have HE := hide (show y = Nat.gcd m n by have := HG.out; rwa [Nat.gcd_zero_left] at this)
      clear HG hx hy hz hn hm
      go_wp2
      go_ret
      exact ⟨ret_iv' (by rw [HE.out]), rfl⟩
    · obtain rfl : z = (x : Int) := hz
      go_wp2
      go_round
      case rel => exact ⟨_, y % x, x, rfl, by omega, rfl, by have := Nat.mod_lt y (show 0 < x by omega); omega, hx, by have := HG.out; rw [← Nat.gcd_rec]; exact this⟩
      case measure => simp only [intOf]; have := Nat.mod_lt y (show 0 < x by omega); omega
end Go.Proofs.Ytjnfodbniohkhaa
