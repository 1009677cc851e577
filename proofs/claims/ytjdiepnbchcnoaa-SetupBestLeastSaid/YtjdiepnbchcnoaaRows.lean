/-
  No cell of these rows narrows 'for every input' (looked for: loops, veiled, ifaces, maps, wideKeys, modest, calm, conditions, laid).
  DERIVED. THE GIVEN ROWS OF THIS SEAT. 3 by the template 'for every input the law returns true; each argument reads behind the call as it read before'; 0 by the template 'total and deterministic' (their statements: YtjdiepnbchcnoaaTotals.lean).
  GIVEN WITH THE SEED: the statements are not yours to turn. If you find one false, say at which input.
  Laid BY PROGRAM, IN A SANDBOX (cutbox-rows.mjs): the forced cells as the released guide's own fill.sh prints them over the translation 80cf6204779137e7… (all of the seat's roots in one cut). By AI agents, Wed Nov 11 2026. No macro, syntax, notation, axiom, sorry.
-/
import Derived.Test.YtjdiepnbchcnoaaChecked
import GoSem.Claim
import GoSem.ClaimJoined
import GoSem.ClaimMapViews
import Derived.JoinedTies
import Derived.KernelRfl
namespace Go.Proofs.Ytjdiepnbchcnoaa
/- THE CELL 'sum', in the pinned program and in every row, IS THE sha256 OF THE DUMP (.gsa) THAT YtjdiepnbchcnoaaProg.lean LOADS. Nothing in Lean hashes anything: it is a label: what it is worth is what the hold of that sum in a sandbox is worth. -/
noncomputable def Try.pinned : Pinned := { name := "ytjdiepnbchcnoaa", sum := "80cf6204779137e70067d158b5ad0d2532a3be4c84e11bb3c92e279b66f96c20", checked := Try.checked }
namespace Rows
def none {H : Type} : Left H := { results := [], args := [] }

/-- 'sheetmetallaw05.SetupPlans': WHATEVER THE INPUT: true; the input reads as it did. -/
def setupPlansSpec : ChangeSpec := { name := "setupPlans", fn := fun _ => fun
  | [d1, d2] => { results := [.lit (.bool true)], args := [d1, d2] }
  | _ => none }
def setupPlansRow : OpenClaim := { program := "ytjdiepnbchcnoaa", sum := "80cf6204779137e70067d158b5ad0d2532a3be4c84e11bb3c92e279b66f96c20", func := "sheetmetal/sheetmetallaw05.SetupPlans", spec := "setupPlans", apart := false }
def SetupPlansSaid : Prop := setupPlansRow.holds Try.pinned (OpenSpec.ofChange setupPlansSpec)

/-- ITS FALSE NEIGHBOUR: 'it returns false'. Refute it at one input. -/
def setupPlansWrong : ChangeSpec := { name := "setupPlans", fn := fun _ => fun
  | [d1, d2] => { results := [.lit (.bool false)], args := [d1, d2] }
  | _ => none }
def SetupPlansWrongFalsely : Prop := setupPlansRow.holds Try.pinned (OpenSpec.ofChange setupPlansWrong)

/-- 'sheetmetallaw05.SetupBest': WHATEVER THE INPUT: true; the input reads as it did. -/
def setupBestSpec : ChangeSpec := { name := "setupBest", fn := fun _ => fun
  | [d1, d2] => { results := [.lit (.bool true)], args := [d1, d2] }
  | _ => none }
def setupBestRow : OpenClaim := { program := "ytjdiepnbchcnoaa", sum := "80cf6204779137e70067d158b5ad0d2532a3be4c84e11bb3c92e279b66f96c20", func := "sheetmetal/sheetmetallaw05.SetupBest", spec := "setupBest", unfollowed := true, recurses := true, apart := false }
def SetupBestSaid : Prop := setupBestRow.holds Try.pinned (OpenSpec.ofChange setupBestSpec)

/-- ITS FALSE NEIGHBOUR: 'it returns false'. Refute it at one input. -/
def setupBestWrong : ChangeSpec := { name := "setupBest", fn := fun _ => fun
  | [d1, d2] => { results := [.lit (.bool false)], args := [d1, d2] }
  | _ => none }
def SetupBestWrongFalsely : Prop := setupBestRow.holds Try.pinned (OpenSpec.ofChange setupBestWrong)

/-- 'sheetmetallaw05.SetupBestLeast': WHATEVER THE INPUT: true; the input reads as it did. -/
def setupBestLeastSpec : ChangeSpec := { name := "setupBestLeast", fn := fun _ => fun
  | [d1, d2, d3] => { results := [.lit (.bool true)], args := [d1, d2, d3] }
  | _ => none }
def setupBestLeastRow : OpenClaim := { program := "ytjdiepnbchcnoaa", sum := "80cf6204779137e70067d158b5ad0d2532a3be4c84e11bb3c92e279b66f96c20", func := "sheetmetal/sheetmetallaw05.SetupBestLeast", spec := "setupBestLeast", unfollowed := true, recurses := true, apart := false }
def SetupBestLeastSaid : Prop := setupBestLeastRow.holds Try.pinned (OpenSpec.ofChange setupBestLeastSpec)

/-- ITS FALSE NEIGHBOUR: 'it returns false'. Refute it at one input. -/
def setupBestLeastWrong : ChangeSpec := { name := "setupBestLeast", fn := fun _ => fun
  | [d1, d2, d3] => { results := [.lit (.bool false)], args := [d1, d2, d3] }
  | _ => none }
def SetupBestLeastWrongFalsely : Prop := setupBestLeastRow.holds Try.pinned (OpenSpec.ofChange setupBestLeastWrong)

/- THE SECOND FORM. 'bulk': how many values and letters a reading holds, each counted each time it is reached (what is shared counts as often as it is met; a slice's spare places count too). A statement '..UptoSaid' is the law's where the arguments, and the package variables that the reading takes, are together of bulk at most 1048576: NARROWER than '..Said'. Prove '..Said' where nothing that the law and all that it calls make is longer than what came in: it says more and counts as full. Else prove '..UptoSaid'. A law counts once. -/
mutual
def uptoBulk {H : Type} : DataW H → Nat
  | .lit (.string bytes) => bytes.length + 1
  | .lit _ => 1
  | .nil => 1
  | .ptr d => uptoBulk d + 1
  | .slice elems spare => uptoBulkAll elems + uptoBulkAll spare + 1
  | .agg parts => uptoBulkAll parts + 1
  | .iface _ d => uptoBulk d + 1
  | .map entries => uptoBulkEntries entries + 1
  | .held _ => 1
def uptoBulkAll {H : Type} : List (DataW H) → Nat
  | [] => 0
  | d :: r => uptoBulk d + uptoBulkAll r
def uptoBulkEntries {H : Type} : List (Lit × DataW H) → Nat
  | [] => 0
  | x :: r => uptoBulkEntry x + uptoBulkEntries r
def uptoBulkEntry {H : Type} : Lit × DataW H → Nat
  | (.string bytes, d) => bytes.length + uptoBulk d + 1
  | (_, d) => uptoBulk d + 1
 end
def uptoSmall : (H : Type) → List (DataW H) → Bool := fun _ ds => decide (uptoBulkAll ds ≤ 1048576)
def OpenSpec.upto (s : _root_.Go.ChangeSpec) : _root_.Go.OpenSpec := { _root_.Go.OpenSpec.ofChange s with cond := some uptoSmall }

/-- 'sheetmetallaw05.SetupPlans', WHERE WHAT IT READS IS OF BULK AT MOST 1048576: true; the input reads as it did. -/
def setupPlansUptoRow : OpenClaim := { program := "ytjdiepnbchcnoaa", sum := "80cf6204779137e70067d158b5ad0d2532a3be4c84e11bb3c92e279b66f96c20", func := "sheetmetal/sheetmetallaw05.SetupPlans", spec := "setupPlans", apart := false, narrowed := true }
def SetupPlansUptoSaid : Prop := setupPlansUptoRow.holds Try.pinned (OpenSpec.upto setupPlansSpec)

/-- 'sheetmetallaw05.SetupBest', WHERE WHAT IT READS IS OF BULK AT MOST 1048576: true; the input reads as it did. -/
def setupBestUptoRow : OpenClaim := { program := "ytjdiepnbchcnoaa", sum := "80cf6204779137e70067d158b5ad0d2532a3be4c84e11bb3c92e279b66f96c20", func := "sheetmetal/sheetmetallaw05.SetupBest", spec := "setupBest", unfollowed := true, recurses := true, apart := false, narrowed := true }
def SetupBestUptoSaid : Prop := setupBestUptoRow.holds Try.pinned (OpenSpec.upto setupBestSpec)

/-- 'sheetmetallaw05.SetupBestLeast', WHERE WHAT IT READS IS OF BULK AT MOST 1048576: true; the input reads as it did. -/
def setupBestLeastUptoRow : OpenClaim := { program := "ytjdiepnbchcnoaa", sum := "80cf6204779137e70067d158b5ad0d2532a3be4c84e11bb3c92e279b66f96c20", func := "sheetmetal/sheetmetallaw05.SetupBestLeast", spec := "setupBestLeast", unfollowed := true, recurses := true, apart := false, narrowed := true }
def SetupBestLeastUptoSaid : Prop := setupBestLeastUptoRow.holds Try.pinned (OpenSpec.upto setupBestLeastSpec)

end Rows
end Go.Proofs.Ytjdiepnbchcnoaa
