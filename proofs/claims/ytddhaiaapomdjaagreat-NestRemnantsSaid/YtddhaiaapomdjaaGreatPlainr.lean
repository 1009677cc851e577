/-
  What a plain seat (no listed variable) gives the walks: types, arguments opened.
-/
import Derived.Test.YtddhaiaapomdjaaGreatFramer
import Derived.Test.YtddhaiaapomdjaaGreatChecked
import Derived.Test.YtddhaiaapomdjaaGreatRows
import Derived.WalkSpells
import Derived.WalkLawsBesides
import Derived.ChangeMaps
namespace Go.Proofs.YtddhaiaapomdjaaGreat
set_option linter.unusedVariables false
set_option linter.unusedSimpArgs false
open Go Go.ChangeShapes Go.WideShapes Go.ChangeAt Go.RowKit Go.Deep

theorem own : ownKnob Tryz.prog.godebug = none := by kernel_rfl
theorem laidOut : laidOutB Tryz.prog = true := by kernel_rfl
abbrev vc (x y z : Int) : Value := .agg #[iv x, iv y, iv z]
/-- A face's eleven numbers. -/
structure Fc where
  ox : Int
  oy : Int
  oz : Int
  ux : Int
  uy : Int
  uz : Int
  vx : Int
  vy : Int
  vz : Int
  w : Int
  h : Int
theorem Fc.ext {a b : Fc} (h0 : a.ox = b.ox) (h1 : a.oy = b.oy) (h2 : a.oz = b.oz) (h3 : a.ux = b.ux) (h4 : a.uy = b.uy) (h5 : a.uz = b.uz) (h6 : a.vx = b.vx) (h7 : a.vy = b.vy) (h8 : a.vz = b.vz) (h9 : a.w = b.w) (h10 : a.h = b.h) : a = b := by
  cases a
  cases b
  simp_all
end Go.Proofs.YtddhaiaapomdjaaGreat
