/-
  Nests: lists of sheets and pieces, and what lies well on a sheet, of the reference.
  Nests: what lies well on a sheet, of the reference.
-/
import Derived.Test.YtddhaiaapomdjaaGreatGQr
import Derived.Test.YtddhaiaapomdjaaGreatGNr
set_option linter.unusedVariables false
set_option linter.unusedSimpArgs false
namespace Go.Proofs.YtddhaiaapomdjaaGreat
set_option linter.unusedVariables false
set_option linter.unusedSimpArgs false
open Go Go.ChangeShapes Go.WideShapes Go.ChangeAt Go.RowKit Go.Deep

namespace RG
end RG
end Go.Proofs.YtddhaiaapomdjaaGreat
set_option linter.unusedVariables false
set_option linter.unusedSimpArgs false
namespace Go.Proofs.YtddhaiaapomdjaaGreat
set_option linter.unusedVariables false
set_option linter.unusedSimpArgs false
open Go Go.ChangeShapes Go.WideShapes Go.ChangeAt Go.RowKit Go.Deep

namespace RG
/-- the rectangles of a piece lie well on a sheet -/
def weB (l : List Rc) (s : ShT) (m : Int) : Bool := aiB l (inmR s.wd s.ht m) && !npB ovQ l (s.cl ++ s.us)
theorem npB_me (l m : List Rc) : npB ovQ l m = l.any fun r => meB r m := rfl
theorem meB_app (r : Rc) (l m : List Rc) : meB r (l ++ m) = (meB r l || meB r m) := by unfold meB; rw [List.any_append]
end RG
end Go.Proofs.YtddhaiaapomdjaaGreat
