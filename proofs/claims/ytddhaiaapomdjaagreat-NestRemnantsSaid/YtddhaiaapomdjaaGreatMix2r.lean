/-
  A region that draws its order and lays one new block out of what its calls and reads gave ('append(out, T{f(..), g(..)})'): one walk of the calls and reads in the order of the text; then what follows the block. No program.
-/
import Derived.Test.YtddhaiaapomdjaaGreatMixr
namespace Go.Proofs.YtddhaiaapomdjaaGreat
set_option linter.unusedVariables false
set_option linter.unusedSimpArgs false
open Go Go.ChangeShapes Go.WideShapes Go.ChangeAt Go.RowKit Go.Deep

section
variable {P : Program} {ops : Array Oper} {md : Region.Mode}
end
end Go.Proofs.YtddhaiaapomdjaaGreat
