/-
  Areas, plainly: sums over unit cells; the sum over a grid is the number of unit cells that are covered.
-/
import Derived.Test.YtddhaiaapomdjaaGreatRg1n
set_option linter.unusedVariables false
set_option linter.unusedSimpArgs false
namespace Go.Proofs.YtddhaiaapomdjaaGreat
set_option linter.unusedVariables false
set_option linter.unusedSimpArgs false
open Go Go.ChangeShapes Go.WideShapes Go.ChangeAt Go.RowKit Go.Deep

namespace RG
def sm (f : Int → Int) (a : Int) : Nat → Int
  | 0 => 0
  | n + 1 => sm f a n + f (a + n)
def gs (X : List Int) (f : Int → Int) : Nat → Int
  | 0 => 0
  | i + 1 => gs X f i + (X[i + 1]?.getD 0 - X[i]?.getD 0) * f (X[i]?.getD 0)
def ib (b : Bool) : Int := if b then 1 else 0
def s2 (M : Nat) (f : Int → Int → Int) : Int := sm (fun x => sm (fun y => f x y) (-M) (2 * M)) (-M) (2 * M)
structure InM (M : Nat) (r : Rc) : Prop where
  w : 0 < r.w
  h : 0 < r.h
  x : -(M : Int) ≤ r.x
  y : -(M : Int) ≤ r.y
  x' : r.x + r.w ≤ M
  y' : r.y + r.h ≤ M
end RG
end Go.Proofs.YtddhaiaapomdjaaGreat
