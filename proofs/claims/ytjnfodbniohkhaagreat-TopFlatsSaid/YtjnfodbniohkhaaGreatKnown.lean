/-
  Vectors compared; what the law's known returns; PartNames: the walk.
-/
import Derived.Test.YtjnfodbniohkhaaGreatName3
import Derived.Test.YtjnfodbniohkhaaGreatVec
import Derived.Laws.StructEq
namespace Go.Proofs.YtjnfodbniohkhaaGreat
set_option linter.unusedVariables false
set_option linter.unusedSimpArgs false
open Go Go.ChangeShapes Go.WideShapes Go.ChangeAt Go.RowKit Go.Deep

theorem sVec : Tryz.prog.underlying 145 = some (.struct (Tryz.prog.fieldsOf 145)) := by kernel_rfl
theorem pVec : Tryz.prog.stoodInHeld 145 = false := by kernel_rfl
theorem gVec : Tryz.prog.eqGuardType Tryz.prog.depth 145 = false := by kernel_rfl
def veB (a b c x y z : Int) : Bool := a == x && (b == y && c == z)
theorem veB_self (a b c : Int) : veB a b c a b c = true := by simp [veB]
theorem veB_iff {a b c x y z : Int} : veB a b c x y z = true ↔ a = x ∧ b = y ∧ c = z := by simp [veB]
theorem eqInVec (d : Nat) (a b c x y z : Int) (w : World) : (Op.equalIn (d + 2) 145 (vc a b c) (vc x y z)).run Tryz.prog w = .ok (veB a b c x y z) w := by
  have u3 := Tryz.underlying3
  have a3 := Tryz.isAgg3
  have z3 := Tryz.sizeOf3
  rw [run_equalIn_agg w (d + 1) 145 _ _ sVec pVec]
  simp only [Program.fieldsOf, Tryz.underlying145, veB]
  go_simp
  by_cases h1 : a = x <;> by_cases h2 : b = y <;> by_cases h3 : c = z <;> simp [h1, h2, h3]
theorem eqVec (a b c x y z : Int) (w : World) : (Op.equalIn 10000 145 (vc a b c) (vc x y z)).run Tryz.prog w = .ok (veB a b c x y z) w := eqInVec 9998 a b c x y z w
def oneF : Fc := ⟨0, 0, 0, 1, 0, 0, 0, 1, 0, 0, 0⟩
def uS : ByteArray := ⟨#[117]⟩
def baseS : ByteArray := ⟨#[98, 97, 115, 101]⟩
theorem name_u : nameB uS.toList = true := by rw [ByteArray.toList_eq]; decide +kernel
theorem name_base : nameB baseS.toList = false := by rw [ByteArray.toList_eq]; decide +kernel
end Go.Proofs.YtjnfodbniohkhaaGreat
