/-
  What the functions of points return: orientation, turns.
-/
import Derived.Test.YtfbhpeedjphpaaaDoorGeo2
import Derived.Deep.RegionHeld3
import Derived.StillTactics
import Derived.Deep.DeepCutAuto
namespace Go.Proofs.YtfbhpeedjphpaaaDoor
set_option linter.unusedVariables false
set_option linter.unusedSimpArgs false
open Go Go.ChangeShapes Go.WideShapes Go.ChangeAt Go.RowKit Go.Deep

abbrev pt (a b c d : Int) : Value := .agg #[iv a, iv b, iv c, iv d]
def pinB (a b c d : Int) : Bool := rinB a b 4096 && rinB c d 4096
/-- the doubled area of three points, in its two numbers -/
def orA (a b c d e f g h i j k l : Int) : Int := (e - a) * (k - c) + 3 * ((f - b) * (l - d)) - ((g - c) * (i - a) + 3 * ((h - d) * (j - b)))
def orB (a b c d e f g h i j k l : Int) : Int := (e - a) * (l - d) + (f - b) * (k - c) - ((g - c) * (j - b) + (h - d) * (i - a))
structure PLim (a b c d : Int) : Prop where
  l1 : Lim 8192 a
  l2 : Lim 8192 b
  l3 : Lim 8192 c
  l4 : Lim 8192 d
theorem Lim.orA {a b c d : Int} (ha : Lim 16384 a) (hb : Lim 16384 b) (hc : Lim 16384 c) (hd : Lim 16384 d) : Lim 1073741824 (a * c + 3 * (b * d)) ∧ Lim 536870912 (a * d + b * c) := by
  have p1 := Lim.mul ha hc
  have p2 := Lim.mul hb hd
  have p3 := Lim.mul ha hd
  have p4 := Lim.mul hb hc
  unfold Lim at *
  omega
end Go.Proofs.YtfbhpeedjphpaaaDoor
