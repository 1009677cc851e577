/-
  No cell of these rows narrows 'for every input' (looked for: loops, veiled, ifaces, maps, wideKeys, modest, calm, conditions, laid).
  DERIVED. THE GIVEN ROWS OF THIS SEAT. 11 by the template 'for every input the law returns true; each argument reads behind the call as it read before'; 0 by the template 'total and deterministic' (their statements: YtfoihnhcodmhnaaTotals.lean).
  GIVEN WITH THE SEED: the statements are not yours to turn. If you find one false, say at which input.
  Laid BY PROGRAM, IN A SANDBOX (cutbox-rows.mjs): the forced cells as the released guide's own fill.sh prints them over the translation 6a17de5588aede29… (all of the seat's roots in one cut). By AI agents, Wed Nov 11 2026. No macro, syntax, notation, axiom, sorry.
-/
import Derived.Test.YtfoihnhcodmhnaaChecked
import GoSem.Claim
import GoSem.ClaimJoined
import GoSem.ClaimMapViews
import Derived.JoinedTies
import Derived.KernelRfl
namespace Go.Proofs.Ytfoihnhcodmhnaa
/- THE CELL 'sum', in the pinned program and in every row, IS THE sha256 OF THE DUMP (.gsa) THAT YtfoihnhcodmhnaaProg.lean LOADS. Nothing in Lean hashes anything: it is a label: what it is worth is what the hold of that sum in a sandbox is worth. -/
noncomputable def Try.pinned : Pinned := { name := "ytfoihnhcodmhnaa", sum := "6a17de5588aede294b2a96294244153843ebcd07a62bf5221515c1f2bb41b016", checked := Try.checked }
namespace Rows
def none {H : Type} : Left H := { results := [], args := [] }

/-- 'sheetmetallaw05.SetupMounts': WHATEVER THE INPUT: true; the input reads as it did. -/
def setupMountsSpec : ChangeSpec := { name := "setupMounts", fn := fun _ => fun
  | [d1, d2, d3] => { results := [.lit (.bool true)], args := [d1, d2, d3] }
  | _ => none }
def setupMountsRow : OpenClaim := { program := "ytfoihnhcodmhnaa", sum := "6a17de5588aede294b2a96294244153843ebcd07a62bf5221515c1f2bb41b016", func := "sheetmetal/sheetmetallaw05.SetupMounts", spec := "setupMounts", apart := false }
def SetupMountsSaid : Prop := setupMountsRow.holds Try.pinned (OpenSpec.ofChange setupMountsSpec)

/-- ITS FALSE NEIGHBOUR: 'it returns false'. Refute it at one input. -/
def setupMountsWrong : ChangeSpec := { name := "setupMounts", fn := fun _ => fun
  | [d1, d2, d3] => { results := [.lit (.bool false)], args := [d1, d2, d3] }
  | _ => none }
def SetupMountsWrongFalsely : Prop := setupMountsRow.holds Try.pinned (OpenSpec.ofChange setupMountsWrong)

/-- 'sheetmetallaw05.SetupChecks': WHATEVER THE INPUT: true; the input reads as it did. -/
def setupChecksSpec : ChangeSpec := { name := "setupChecks", fn := fun _ => fun
  | [d1, d2, d3] => { results := [.lit (.bool true)], args := [d1, d2, d3] }
  | _ => none }
def setupChecksRow : OpenClaim := { program := "ytfoihnhcodmhnaa", sum := "6a17de5588aede294b2a96294244153843ebcd07a62bf5221515c1f2bb41b016", func := "sheetmetal/sheetmetallaw05.SetupChecks", spec := "setupChecks", apart := false }
def SetupChecksSaid : Prop := setupChecksRow.holds Try.pinned (OpenSpec.ofChange setupChecksSpec)

/-- ITS FALSE NEIGHBOUR: 'it returns false'. Refute it at one input. -/
def setupChecksWrong : ChangeSpec := { name := "setupChecks", fn := fun _ => fun
  | [d1, d2, d3] => { results := [.lit (.bool false)], args := [d1, d2, d3] }
  | _ => none }
def SetupChecksWrongFalsely : Prop := setupChecksRow.holds Try.pinned (OpenSpec.ofChange setupChecksWrong)

/-- 'sheetmetallaw05.SetupPlans': WHATEVER THE INPUT: true; the input reads as it did. -/
def setupPlansSpec : ChangeSpec := { name := "setupPlans", fn := fun _ => fun
  | [d1, d2] => { results := [.lit (.bool true)], args := [d1, d2] }
  | _ => none }
def setupPlansRow : OpenClaim := { program := "ytfoihnhcodmhnaa", sum := "6a17de5588aede294b2a96294244153843ebcd07a62bf5221515c1f2bb41b016", func := "sheetmetal/sheetmetallaw05.SetupPlans", spec := "setupPlans", apart := false }
def SetupPlansSaid : Prop := setupPlansRow.holds Try.pinned (OpenSpec.ofChange setupPlansSpec)

/-- ITS FALSE NEIGHBOUR: 'it returns false'. Refute it at one input. -/
def setupPlansWrong : ChangeSpec := { name := "setupPlans", fn := fun _ => fun
  | [d1, d2] => { results := [.lit (.bool false)], args := [d1, d2] }
  | _ => none }
def SetupPlansWrongFalsely : Prop := setupPlansRow.holds Try.pinned (OpenSpec.ofChange setupPlansWrong)

/-- 'sheetmetallaw05.SetupNoFewer': WHATEVER THE INPUT: true; the input reads as it did. -/
def setupNoFewerSpec : ChangeSpec := { name := "setupNoFewer", fn := fun _ => fun
  | [d1, d2, d3] => { results := [.lit (.bool true)], args := [d1, d2, d3] }
  | _ => none }
def setupNoFewerRow : OpenClaim := { program := "ytfoihnhcodmhnaa", sum := "6a17de5588aede294b2a96294244153843ebcd07a62bf5221515c1f2bb41b016", func := "sheetmetal/sheetmetallaw05.SetupNoFewer", spec := "setupNoFewer", apart := false }
def SetupNoFewerSaid : Prop := setupNoFewerRow.holds Try.pinned (OpenSpec.ofChange setupNoFewerSpec)

/-- ITS FALSE NEIGHBOUR: 'it returns false'. Refute it at one input. -/
def setupNoFewerWrong : ChangeSpec := { name := "setupNoFewer", fn := fun _ => fun
  | [d1, d2, d3] => { results := [.lit (.bool false)], args := [d1, d2, d3] }
  | _ => none }
def SetupNoFewerWrongFalsely : Prop := setupNoFewerRow.holds Try.pinned (OpenSpec.ofChange setupNoFewerWrong)

/-- 'sheetmetallaw05.SetupStations': WHATEVER THE INPUT: true; the input reads as it did. -/
def setupStationsSpec : ChangeSpec := { name := "setupStations", fn := fun _ => fun
  | [d1, d2] => { results := [.lit (.bool true)], args := [d1, d2] }
  | _ => none }
def setupStationsRow : OpenClaim := { program := "ytfoihnhcodmhnaa", sum := "6a17de5588aede294b2a96294244153843ebcd07a62bf5221515c1f2bb41b016", func := "sheetmetal/sheetmetallaw05.SetupStations", spec := "setupStations", apart := false }
def SetupStationsSaid : Prop := setupStationsRow.holds Try.pinned (OpenSpec.ofChange setupStationsSpec)

/-- ITS FALSE NEIGHBOUR: 'it returns false'. Refute it at one input. -/
def setupStationsWrong : ChangeSpec := { name := "setupStations", fn := fun _ => fun
  | [d1, d2] => { results := [.lit (.bool false)], args := [d1, d2] }
  | _ => none }
def SetupStationsWrongFalsely : Prop := setupStationsRow.holds Try.pinned (OpenSpec.ofChange setupStationsWrong)

/-- 'sheetmetallaw05.SetupServes': WHATEVER THE INPUT: true; the input reads as it did. -/
def setupServesSpec : ChangeSpec := { name := "setupServes", fn := fun _ => fun
  | [d1, d2, d3] => { results := [.lit (.bool true)], args := [d1, d2, d3] }
  | _ => none }
def setupServesRow : OpenClaim := { program := "ytfoihnhcodmhnaa", sum := "6a17de5588aede294b2a96294244153843ebcd07a62bf5221515c1f2bb41b016", func := "sheetmetal/sheetmetallaw05.SetupServes", spec := "setupServes", apart := false }
def SetupServesSaid : Prop := setupServesRow.holds Try.pinned (OpenSpec.ofChange setupServesSpec)

/-- ITS FALSE NEIGHBOUR: 'it returns false'. Refute it at one input. -/
def setupServesWrong : ChangeSpec := { name := "setupServes", fn := fun _ => fun
  | [d1, d2, d3] => { results := [.lit (.bool false)], args := [d1, d2, d3] }
  | _ => none }
def SetupServesWrongFalsely : Prop := setupServesRow.holds Try.pinned (OpenSpec.ofChange setupServesWrong)

/-- 'sheetmetallaw05.SetupBounds': WHATEVER THE INPUT: true; the input reads as it did. -/
def setupBoundsSpec : ChangeSpec := { name := "setupBounds", fn := fun _ => fun
  | [d1, d2, d3] => { results := [.lit (.bool true)], args := [d1, d2, d3] }
  | _ => none }
def setupBoundsRow : OpenClaim := { program := "ytfoihnhcodmhnaa", sum := "6a17de5588aede294b2a96294244153843ebcd07a62bf5221515c1f2bb41b016", func := "sheetmetal/sheetmetallaw05.SetupBounds", spec := "setupBounds", apart := false }
def SetupBoundsSaid : Prop := setupBoundsRow.holds Try.pinned (OpenSpec.ofChange setupBoundsSpec)

/-- ITS FALSE NEIGHBOUR: 'it returns false'. Refute it at one input. -/
def setupBoundsWrong : ChangeSpec := { name := "setupBounds", fn := fun _ => fun
  | [d1, d2, d3] => { results := [.lit (.bool false)], args := [d1, d2, d3] }
  | _ => none }
def SetupBoundsWrongFalsely : Prop := setupBoundsRow.holds Try.pinned (OpenSpec.ofChange setupBoundsWrong)

/-- 'sheetmetallaw05.SetupFinds': WHATEVER THE INPUT: true; the input reads as it did. -/
def setupFindsSpec : ChangeSpec := { name := "setupFinds", fn := fun _ => fun
  | [d1, d2] => { results := [.lit (.bool true)], args := [d1, d2] }
  | _ => none }
def setupFindsRow : OpenClaim := { program := "ytfoihnhcodmhnaa", sum := "6a17de5588aede294b2a96294244153843ebcd07a62bf5221515c1f2bb41b016", func := "sheetmetal/sheetmetallaw05.SetupFinds", spec := "setupFinds", apart := false }
def SetupFindsSaid : Prop := setupFindsRow.holds Try.pinned (OpenSpec.ofChange setupFindsSpec)

/-- ITS FALSE NEIGHBOUR: 'it returns false'. Refute it at one input. -/
def setupFindsWrong : ChangeSpec := { name := "setupFinds", fn := fun _ => fun
  | [d1, d2] => { results := [.lit (.bool false)], args := [d1, d2] }
  | _ => none }
def SetupFindsWrongFalsely : Prop := setupFindsRow.holds Try.pinned (OpenSpec.ofChange setupFindsWrong)

/-- 'sheetmetallaw05.SetupJoins': WHATEVER THE INPUT: true; the input reads as it did. -/
def setupJoinsSpec : ChangeSpec := { name := "setupJoins", fn := fun _ => fun
  | [d1, d2] => { results := [.lit (.bool true)], args := [d1, d2] }
  | _ => none }
def setupJoinsRow : OpenClaim := { program := "ytfoihnhcodmhnaa", sum := "6a17de5588aede294b2a96294244153843ebcd07a62bf5221515c1f2bb41b016", func := "sheetmetal/sheetmetallaw05.SetupJoins", spec := "setupJoins", apart := false }
def SetupJoinsSaid : Prop := setupJoinsRow.holds Try.pinned (OpenSpec.ofChange setupJoinsSpec)

/-- ITS FALSE NEIGHBOUR: 'it returns false'. Refute it at one input. -/
def setupJoinsWrong : ChangeSpec := { name := "setupJoins", fn := fun _ => fun
  | [d1, d2] => { results := [.lit (.bool false)], args := [d1, d2] }
  | _ => none }
def SetupJoinsWrongFalsely : Prop := setupJoinsRow.holds Try.pinned (OpenSpec.ofChange setupJoinsWrong)

/-- 'sheetmetallaw05.SetupBest': WHATEVER THE INPUT: true; the input reads as it did. -/
def setupBestSpec : ChangeSpec := { name := "setupBest", fn := fun _ => fun
  | [d1, d2] => { results := [.lit (.bool true)], args := [d1, d2] }
  | _ => none }
def setupBestRow : OpenClaim := { program := "ytfoihnhcodmhnaa", sum := "6a17de5588aede294b2a96294244153843ebcd07a62bf5221515c1f2bb41b016", func := "sheetmetal/sheetmetallaw05.SetupBest", spec := "setupBest", unfollowed := true, recurses := true, apart := false }
def SetupBestSaid : Prop := setupBestRow.holds Try.pinned (OpenSpec.ofChange setupBestSpec)

/-- ITS FALSE NEIGHBOUR: 'it returns false'. Refute it at one input. -/
def setupBestWrong : ChangeSpec := { name := "setupBest", fn := fun _ => fun
  | [d1, d2] => { results := [.lit (.bool false)], args := [d1, d2] }
  | _ => none }
def SetupBestWrongFalsely : Prop := setupBestRow.holds Try.pinned (OpenSpec.ofChange setupBestWrong)

/-- 'sheetmetallaw05.SetupBestLeast': WHATEVER THE INPUT: true; the input reads as it did. -/
def setupBestLeastSpec : ChangeSpec := { name := "setupBestLeast", fn := fun _ => fun
  | [d1, d2, d3] => { results := [.lit (.bool true)], args := [d1, d2, d3] }
  | _ => none }
def setupBestLeastRow : OpenClaim := { program := "ytfoihnhcodmhnaa", sum := "6a17de5588aede294b2a96294244153843ebcd07a62bf5221515c1f2bb41b016", func := "sheetmetal/sheetmetallaw05.SetupBestLeast", spec := "setupBestLeast", unfollowed := true, recurses := true, apart := false }
def SetupBestLeastSaid : Prop := setupBestLeastRow.holds Try.pinned (OpenSpec.ofChange setupBestLeastSpec)

/-- ITS FALSE NEIGHBOUR: 'it returns false'. Refute it at one input. -/
def setupBestLeastWrong : ChangeSpec := { name := "setupBestLeast", fn := fun _ => fun
  | [d1, d2, d3] => { results := [.lit (.bool false)], args := [d1, d2, d3] }
  | _ => none }
def SetupBestLeastWrongFalsely : Prop := setupBestLeastRow.holds Try.pinned (OpenSpec.ofChange setupBestLeastWrong)

/- THE SECOND FORM. 'bulk': how many values and letters a reading holds, each counted each time it is reached (what is shared counts as often as it is met; a slice's spare places count too). A statement '..UptoSaid' is the law's where the arguments, and the package variables that the reading takes, are together of bulk at most 1048576: NARROWER than '..Said'. Prove '..Said' where nothing that the law and all that it calls make is longer than what came in: it says more and counts as full. Else prove '..UptoSaid'. A law counts once. -/
mutual
def uptoBulk {H : Type} : DataW H → Nat
  | .lit (.string bytes) => bytes.length + 1
  | .lit _ => 1
  | .nil => 1
  | .ptr d => uptoBulk d + 1
  | .slice elems spare => uptoBulkAll elems + uptoBulkAll spare + 1
  | .agg parts => uptoBulkAll parts + 1
  | .iface _ d => uptoBulk d + 1
  | .map entries => uptoBulkEntries entries + 1
  | .held _ => 1
def uptoBulkAll {H : Type} : List (DataW H) → Nat
  | [] => 0
  | d :: r => uptoBulk d + uptoBulkAll r
def uptoBulkEntries {H : Type} : List (Lit × DataW H) → Nat
  | [] => 0
  | x :: r => uptoBulkEntry x + uptoBulkEntries r
def uptoBulkEntry {H : Type} : Lit × DataW H → Nat
  | (.string bytes, d) => bytes.length + uptoBulk d + 1
  | (_, d) => uptoBulk d + 1
 end
def uptoSmall : (H : Type) → List (DataW H) → Bool := fun _ ds => decide (uptoBulkAll ds ≤ 1048576)
def OpenSpec.upto (s : _root_.Go.ChangeSpec) : _root_.Go.OpenSpec := { _root_.Go.OpenSpec.ofChange s with cond := some uptoSmall }

/-- 'sheetmetallaw05.SetupMounts', WHERE WHAT IT READS IS OF BULK AT MOST 1048576: true; the input reads as it did. -/
def setupMountsUptoRow : OpenClaim := { program := "ytfoihnhcodmhnaa", sum := "6a17de5588aede294b2a96294244153843ebcd07a62bf5221515c1f2bb41b016", func := "sheetmetal/sheetmetallaw05.SetupMounts", spec := "setupMounts", apart := false, narrowed := true }
def SetupMountsUptoSaid : Prop := setupMountsUptoRow.holds Try.pinned (OpenSpec.upto setupMountsSpec)

/-- 'sheetmetallaw05.SetupChecks', WHERE WHAT IT READS IS OF BULK AT MOST 1048576: true; the input reads as it did. -/
def setupChecksUptoRow : OpenClaim := { program := "ytfoihnhcodmhnaa", sum := "6a17de5588aede294b2a96294244153843ebcd07a62bf5221515c1f2bb41b016", func := "sheetmetal/sheetmetallaw05.SetupChecks", spec := "setupChecks", apart := false, narrowed := true }
def SetupChecksUptoSaid : Prop := setupChecksUptoRow.holds Try.pinned (OpenSpec.upto setupChecksSpec)

/-- 'sheetmetallaw05.SetupPlans', WHERE WHAT IT READS IS OF BULK AT MOST 1048576: true; the input reads as it did. -/
def setupPlansUptoRow : OpenClaim := { program := "ytfoihnhcodmhnaa", sum := "6a17de5588aede294b2a96294244153843ebcd07a62bf5221515c1f2bb41b016", func := "sheetmetal/sheetmetallaw05.SetupPlans", spec := "setupPlans", apart := false, narrowed := true }
def SetupPlansUptoSaid : Prop := setupPlansUptoRow.holds Try.pinned (OpenSpec.upto setupPlansSpec)

/-- 'sheetmetallaw05.SetupNoFewer', WHERE WHAT IT READS IS OF BULK AT MOST 1048576: true; the input reads as it did. -/
def setupNoFewerUptoRow : OpenClaim := { program := "ytfoihnhcodmhnaa", sum := "6a17de5588aede294b2a96294244153843ebcd07a62bf5221515c1f2bb41b016", func := "sheetmetal/sheetmetallaw05.SetupNoFewer", spec := "setupNoFewer", apart := false, narrowed := true }
def SetupNoFewerUptoSaid : Prop := setupNoFewerUptoRow.holds Try.pinned (OpenSpec.upto setupNoFewerSpec)

/-- 'sheetmetallaw05.SetupStations', WHERE WHAT IT READS IS OF BULK AT MOST 1048576: true; the input reads as it did. -/
def setupStationsUptoRow : OpenClaim := { program := "ytfoihnhcodmhnaa", sum := "6a17de5588aede294b2a96294244153843ebcd07a62bf5221515c1f2bb41b016", func := "sheetmetal/sheetmetallaw05.SetupStations", spec := "setupStations", apart := false, narrowed := true }
def SetupStationsUptoSaid : Prop := setupStationsUptoRow.holds Try.pinned (OpenSpec.upto setupStationsSpec)

/-- 'sheetmetallaw05.SetupServes', WHERE WHAT IT READS IS OF BULK AT MOST 1048576: true; the input reads as it did. -/
def setupServesUptoRow : OpenClaim := { program := "ytfoihnhcodmhnaa", sum := "6a17de5588aede294b2a96294244153843ebcd07a62bf5221515c1f2bb41b016", func := "sheetmetal/sheetmetallaw05.SetupServes", spec := "setupServes", apart := false, narrowed := true }
def SetupServesUptoSaid : Prop := setupServesUptoRow.holds Try.pinned (OpenSpec.upto setupServesSpec)

/-- 'sheetmetallaw05.SetupBounds', WHERE WHAT IT READS IS OF BULK AT MOST 1048576: true; the input reads as it did. -/
def setupBoundsUptoRow : OpenClaim := { program := "ytfoihnhcodmhnaa", sum := "6a17de5588aede294b2a96294244153843ebcd07a62bf5221515c1f2bb41b016", func := "sheetmetal/sheetmetallaw05.SetupBounds", spec := "setupBounds", apart := false, narrowed := true }
def SetupBoundsUptoSaid : Prop := setupBoundsUptoRow.holds Try.pinned (OpenSpec.upto setupBoundsSpec)

/-- 'sheetmetallaw05.SetupFinds', WHERE WHAT IT READS IS OF BULK AT MOST 1048576: true; the input reads as it did. -/
def setupFindsUptoRow : OpenClaim := { program := "ytfoihnhcodmhnaa", sum := "6a17de5588aede294b2a96294244153843ebcd07a62bf5221515c1f2bb41b016", func := "sheetmetal/sheetmetallaw05.SetupFinds", spec := "setupFinds", apart := false, narrowed := true }
def SetupFindsUptoSaid : Prop := setupFindsUptoRow.holds Try.pinned (OpenSpec.upto setupFindsSpec)

/-- 'sheetmetallaw05.SetupJoins', WHERE WHAT IT READS IS OF BULK AT MOST 1048576: true; the input reads as it did. -/
def setupJoinsUptoRow : OpenClaim := { program := "ytfoihnhcodmhnaa", sum := "6a17de5588aede294b2a96294244153843ebcd07a62bf5221515c1f2bb41b016", func := "sheetmetal/sheetmetallaw05.SetupJoins", spec := "setupJoins", apart := false, narrowed := true }
def SetupJoinsUptoSaid : Prop := setupJoinsUptoRow.holds Try.pinned (OpenSpec.upto setupJoinsSpec)

/-- 'sheetmetallaw05.SetupBest', WHERE WHAT IT READS IS OF BULK AT MOST 1048576: true; the input reads as it did. -/
def setupBestUptoRow : OpenClaim := { program := "ytfoihnhcodmhnaa", sum := "6a17de5588aede294b2a96294244153843ebcd07a62bf5221515c1f2bb41b016", func := "sheetmetal/sheetmetallaw05.SetupBest", spec := "setupBest", unfollowed := true, recurses := true, apart := false, narrowed := true }
def SetupBestUptoSaid : Prop := setupBestUptoRow.holds Try.pinned (OpenSpec.upto setupBestSpec)

/-- 'sheetmetallaw05.SetupBestLeast', WHERE WHAT IT READS IS OF BULK AT MOST 1048576: true; the input reads as it did. -/
def setupBestLeastUptoRow : OpenClaim := { program := "ytfoihnhcodmhnaa", sum := "6a17de5588aede294b2a96294244153843ebcd07a62bf5221515c1f2bb41b016", func := "sheetmetal/sheetmetallaw05.SetupBestLeast", spec := "setupBestLeast", unfollowed := true, recurses := true, apart := false, narrowed := true }
def SetupBestLeastUptoSaid : Prop := setupBestLeastUptoRow.holds Try.pinned (OpenSpec.upto setupBestLeastSpec)

end Rows
end Go.Proofs.Ytfoihnhcodmhnaa
