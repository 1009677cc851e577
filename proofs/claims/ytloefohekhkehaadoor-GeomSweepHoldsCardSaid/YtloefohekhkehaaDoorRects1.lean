/-
  What the functions of rectangles return, of the program and of the reference.
-/
import Derived.Test.YtloefohekhkehaaDoorLaid
namespace Go.Proofs.YtloefohekhkehaaDoor
set_option linter.unusedVariables false
set_option linter.unusedSimpArgs false
open Go Go.ChangeShapes Go.WideShapes Go.ChangeAt Go.RowKit Go.Deep

/-- an interval from s of length n is valid -/
def vsB (s n : Int) : Bool := decide (0 < n) && (inB s 1048576 && decide (n ≤ 1048576 - s))
def vrB (x y w h : Int) : Bool := vsB x w && vsB y h
theorem vsB_iff (s n : Int) : vsB s n = true ↔ 0 < n ∧ -1048576 ≤ s ∧ s ≤ 1048576 ∧ n ≤ 1048576 - s := by
  simp only [vsB, inB, Bool.and_eq_true, decide_eq_true_eq]
  constructor <;> (rintro ⟨h1, h2⟩; omega)
def wiB (n l m : Int) : Bool := decide (l ≤ n) && decide (n ≤ m)
theorem rwithin2_any (n l m : Int) (w : World) :
    Calls Tryd.prog 27 #[iv n, iv l, iv m] w fun e w' => e = .returned (.bool (wiB n l m)) ∧ w = w' := by
  go_enter Tryd.func27, Tryd.ntmps27
  go_wp2
  all_goals
    go_ret
    exact ⟨ret_bool (by simp [wiB]; omega), rfl⟩
theorem wiB_iff {n l m : Int} : wiB n l m = true ↔ l ≤ n ∧ n ≤ m := by simp [wiB]
/-- a number of a side, small enough for sums -/
def soB (a l b m : Int) : Bool := decide (a < b + m) && decide (b < a + l)
def siB (a l b m : Int) : Bool := decide (b ≤ a) && decide (a + l ≤ b + m)
def gaV (a b c d : Int) : Int := if a - d < c - b then c - b else a - d
def poV (x : Int) : Int := if x < 0 then 0 else x
end Go.Proofs.YtloefohekhkehaaDoor
