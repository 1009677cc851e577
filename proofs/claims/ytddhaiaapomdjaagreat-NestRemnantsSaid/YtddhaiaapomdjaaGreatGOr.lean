/-
  Nests: ValidatePiece of the reference.
  Nests: ValidatePiece of the reference, at any piece; the law NestValidates.
-/
import Derived.Test.YtddhaiaapomdjaaGreatGNr
set_option linter.unusedVariables false
set_option linter.unusedSimpArgs false
namespace Go.Proofs.YtddhaiaapomdjaaGreat
set_option linter.unusedVariables false
set_option linter.unusedSimpArgs false
open Go Go.ChangeShapes Go.WideShapes Go.ChangeAt Go.RowKit Go.Deep

namespace RG
structure SlC (w0 : World) (A : Option Addr) (c : Nat) (l : List Rc) : Prop where
  use : ∀ w', Gr w0 w' → SlR w' A c l
end RG
end Go.Proofs.YtddhaiaapomdjaaGreat
set_option linter.unusedVariables false
set_option linter.unusedSimpArgs false
namespace Go.Proofs.YtddhaiaapomdjaaGreat
set_option linter.unusedVariables false
set_option linter.unusedSimpArgs false
open Go Go.ChangeShapes Go.WideShapes Go.ChangeAt Go.RowKit Go.Deep

namespace RG
end RG
end Go.Proofs.YtddhaiaapomdjaaGreat
