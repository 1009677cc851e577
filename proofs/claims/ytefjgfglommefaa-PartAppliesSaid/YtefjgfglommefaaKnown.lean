/-
  Vectors compared; what the law's known returns; PartNames: the walk.
-/
import Derived.Test.YtefjgfglommefaaName3
import Derived.Test.YtefjgfglommefaaVec
import Derived.Laws.StructEq
namespace Go.Proofs.Ytefjgfglommefaa
set_option linter.unusedVariables false
set_option linter.unusedSimpArgs false
open Go Go.ChangeShapes Go.WideShapes Go.ChangeAt Go.RowKit Go.Deep

theorem sVec : Try.prog.underlying 41 = some (.struct (Try.prog.fieldsOf 41)) := by kernel_rfl
theorem pVec : Try.prog.stoodInHeld 41 = false := by kernel_rfl
theorem gVec : Try.prog.eqGuardType Try.prog.depth 41 = false := by kernel_rfl
def veB (a b c x y z : Int) : Bool := a == x && (b == y && c == z)
theorem veB_self (a b c : Int) : veB a b c a b c = true := by simp [veB]
theorem veB_iff {a b c x y z : Int} : veB a b c x y z = true ↔ a = x ∧ b = y ∧ c = z := by simp [veB]
theorem eqInVec (d : Nat) (a b c x y z : Int) (w : World) : (Op.equalIn (d + 2) 41 (vc a b c) (vc x y z)).run Try.prog w = .ok (veB a b c x y z) w := by
  have u3 := Try.underlying3
  have a3 := Try.isAgg3
  have z3 := Try.sizeOf3
  rw [run_equalIn_agg w (d + 1) 41 _ _ sVec pVec]
  simp only [Program.fieldsOf, Try.underlying41, veB]
  go_simp
  by_cases h1 : a = x <;> by_cases h2 : b = y <;> by_cases h3 : c = z <;> simp [h1, h2, h3]
theorem eqVec (a b c x y z : Int) (w : World) : (Op.equalIn 10000 41 (vc a b c) (vc x y z)).run Try.prog w = .ok (veB a b c x y z) w := eqInVec 9998 a b c x y z w
def oneF : Fc := ⟨0, 0, 0, 1, 0, 0, 0, 1, 0, 0, 0⟩
def uS : ByteArray := ⟨#[117]⟩
def baseS : ByteArray := ⟨#[98, 97, 115, 101]⟩
theorem name_u : nameB uS.toList = true := by rw [ByteArray.toList_eq]; decide +kernel
theorem name_base : nameB baseS.toList = false := by rw [ByteArray.toList_eq]; decide +kernel
theorem known_any (w : World) : Calls Try.prog 6 #[] w fun e w' => e = .returned (.bool true) ∧ Gr w w' := by
  have h1 := fun w => normal_any oneF w
  rw [show nx oneF = 0 from by decide +kernel, show ny oneF = 0 from by decide +kernel, show nz oneF = 1 from by decide +kernel] at h1
  have h2 : ∀ w, Calls Try.prog 13 #[.string { data := #[117] }] w fun e w' => e = .returned (.bool true) ∧ w = w' := fun w => by
    have := validName_any uS w (by decide)
    rw [name_u] at this
    exact this
  have h3 : ∀ w, Calls Try.prog 13 #[.string { data := #[98, 97, 115, 101] }] w fun e w' => e = .returned (.bool false) ∧ w = w' := fun w => by
    have := validName_any baseS w (by decide)
    rw [name_base] at this
    exact this
  have H1 := hide h1
  have H2 := hide h2
  have H3 := hide h3
  have NEQ := fun w => eqVec 0 0 1 0 0 1 w
  rw [veB_self] at NEQ
  have GP := gVec
  clear h1 h2 h3
  go_enter Try.func6, Try.ntmps6
  go_wp2_with fail
  refine (H1.out _).mono ?_
  rintro e w1 ⟨rfl, g1⟩
  obtain ⟨X1, Y1, c1, f1⟩ := g1.use
  go_wp2_with fail
  refine (H2.out _).mono ?_
  rintro e w2 ⟨rfl, rfl⟩
  go_wp2_with fail
  refine (H3.out _).mono ?_
  rintro e w2 ⟨rfl, rfl⟩
  go_wp2_with fail
  go_ret
  exact ⟨rfl, (by repeat (first | with_reducible exact Gr.refl _ | with_reducible assumption | with_reducible refine Gr.alloc ?_ _ | with_reducible refine Gr.drewN ?_ _ | with_reducible refine Gr.drew ?_ | with_reducible refine Gr.setCell ?_ (by first | (dsimp only; omega) | (simp only [World.size_alloc]; omega) | (with_reducible refine Gr.size ?_; (repeat (first | with_reducible exact Gr.refl _ | with_reducible assumption | with_reducible refine Gr.alloc ?_ _ | with_reducible refine Gr.drewN ?_ _ | with_reducible refine Gr.drew ?_ | with_reducible refine Gr.trans ?_ (by with_reducible assumption))); done)) _ | with_reducible refine Gr.trans ?_ (by with_reducible assumption)))⟩
end Go.Proofs.Ytefjgfglommefaa
