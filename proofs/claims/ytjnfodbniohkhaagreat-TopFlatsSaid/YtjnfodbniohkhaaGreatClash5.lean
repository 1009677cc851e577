/-
  The reference's box of a face along an axis.
-/
import Derived.Test.YtjnfodbniohkhaaGreatClash2
namespace Go.Proofs.YtjnfodbniohkhaaGreat
set_option linter.unusedVariables false
set_option linter.unusedSimpArgs false
open Go Go.ChangeShapes Go.WideShapes Go.ChangeAt Go.RowKit Go.Deep

def sel (i x y z : Int) : Int := if i = 0 then x else if i = 1 then y else z
def mn (a n : Int) : Int := if n < a then n else a
def mx (a n : Int) : Int := if a < n then n else a
/-- the corners' numbers along an axis -/
def cn (f : Fc) (i k : Int) : Int := if k = 0 then sel i f.ox f.oy f.oz else if k = 1 then sel i (po f.ox f.w f.ux 0 f.vx) (po f.oy f.w f.uy 0 f.vy) (po f.oz f.w f.uz 0 f.vz) else if k = 2 then sel i (po f.ox f.w f.ux f.h f.vx) (po f.oy f.w f.uy f.h f.vy) (po f.oz f.w f.uz f.h f.vz) else sel i (po f.ox 0 f.ux f.h f.vx) (po f.oy 0 f.uy f.h f.vy) (po f.oz 0 f.uz f.h f.vz)
def boL (f : Fc) (i : Int) : Int := mn (mn (mn (cn f i 0) (cn f i 1)) (cn f i 2)) (cn f i 3)
def boH (f : Fc) (i : Int) : Int := mx (mx (mx (cn f i 0) (cn f i 1)) (cn f i 2)) (cn f i 3)
def boI (f : Fc) (i k a b : Int) : Prop :=
  (k = 1 ∧ a = cn f i 0 ∧ b = cn f i 0) ∨ (k = 2 ∧ a = mn (cn f i 0) (cn f i 1) ∧ b = mx (cn f i 0) (cn f i 1)) ∨
  (k = 3 ∧ a = mn (mn (cn f i 0) (cn f i 1)) (cn f i 2) ∧ b = mx (mx (cn f i 0) (cn f i 1)) (cn f i 2)) ∨
  (k = 4 ∧ a = mn (mn (mn (cn f i 0) (cn f i 1)) (cn f i 2)) (cn f i 3) ∧ b = mx (mx (mx (cn f i 0) (cn f i 1)) (cn f i 2)) (cn f i 3))
end Go.Proofs.YtjnfodbniohkhaaGreat
