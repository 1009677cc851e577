/-
  No cell of these rows narrows 'for every input' (looked for: loops, veiled, ifaces, maps, wideKeys, modest, calm, conditions, laid).
  DERIVED. THE GIVEN ROWS OF THIS SEAT. 7 by the template 'for every input the law returns true; each argument reads behind the call as it read before'; 0 by the template 'total and deterministic' (their statements: YtocbcbfniiioaaaGreatTotals.lean).
  GIVEN WITH THE SEED: the statements are not yours to turn. If you find one false, say at which input.
  Laid BY PROGRAM, IN A SANDBOX (cutbox-rows.mjs): the forced cells as the released guide's own fill.sh prints them over the translation 37ee43e76e1f26d3… (all of the seat's roots in one cut). By AI agents, Wed Nov 11 2026. No macro, syntax, notation, axiom, sorry.
-/
import Derived.Test.YtocbcbfniiioaaaGreatChecked
import GoSem.Claim
import GoSem.ClaimJoined
import GoSem.ClaimMapViews
import Derived.JoinedTies
import Derived.KernelRfl
namespace Go.Proofs.YtocbcbfniiioaaaGreat
/- THE CELL 'sum', in the pinned program and in every row, IS THE sha256 OF THE DUMP (.gsa) THAT YtocbcbfniiioaaaGreatProg.lean LOADS. Nothing in Lean hashes anything: it is a label: what it is worth is what the hold of that sum in a sandbox is worth. -/
noncomputable def Tryz.pinned : Pinned := { name := "ytocbcbfniiioaaagreat", sum := "37ee43e76e1f26d34974aa766b271796e328baa46c9082e5593fd5fcccc6ea46", checked := Tryz.checked }
namespace Rows
def none {H : Type} : Left H := { results := [], args := [] }

/-- 'sheetmetallaw06.NestValidates': WHATEVER THE INPUT: true; the input reads as it did. -/
def nestValidatesSpec : ChangeSpec := { name := "nestValidates", fn := fun _ => fun
  | [d1, d2, d3] => { results := [.lit (.bool true)], args := [d1, d2, d3] }
  | _ => none }
def nestValidatesRow : OpenClaim := { program := "ytocbcbfniiioaaagreat", sum := "37ee43e76e1f26d34974aa766b271796e328baa46c9082e5593fd5fcccc6ea46", func := "sheetmetal/sheetmetallaw06.NestValidates", spec := "nestValidates", unfollowed := true, recurses := true, apart := false }
def NestValidatesSaid : Prop := nestValidatesRow.holds Tryz.pinned (OpenSpec.ofChange nestValidatesSpec)

/-- ITS FALSE NEIGHBOUR: 'it returns false'. Refute it at one input. -/
def nestValidatesWrong : ChangeSpec := { name := "nestValidates", fn := fun _ => fun
  | [d1, d2, d3] => { results := [.lit (.bool false)], args := [d1, d2, d3] }
  | _ => none }
def NestValidatesWrongFalsely : Prop := nestValidatesRow.holds Tryz.pinned (OpenSpec.ofChange nestValidatesWrong)

/-- 'sheetmetallaw06.NestPuts': WHATEVER THE INPUT: true; the input reads as it did. -/
def nestPutsSpec : ChangeSpec := { name := "nestPuts", fn := fun _ => fun
  | [d1, d2] => { results := [.lit (.bool true)], args := [d1, d2] }
  | _ => none }
def nestPutsRow : OpenClaim := { program := "ytocbcbfniiioaaagreat", sum := "37ee43e76e1f26d34974aa766b271796e328baa46c9082e5593fd5fcccc6ea46", func := "sheetmetal/sheetmetallaw06.NestPuts", spec := "nestPuts", unfollowed := true, recurses := true, apart := false }
def NestPutsSaid : Prop := nestPutsRow.holds Tryz.pinned (OpenSpec.ofChange nestPutsSpec)

/-- ITS FALSE NEIGHBOUR: 'it returns false'. Refute it at one input. -/
def nestPutsWrong : ChangeSpec := { name := "nestPuts", fn := fun _ => fun
  | [d1, d2] => { results := [.lit (.bool false)], args := [d1, d2] }
  | _ => none }
def NestPutsWrongFalsely : Prop := nestPutsRow.holds Tryz.pinned (OpenSpec.ofChange nestPutsWrong)

/-- 'sheetmetallaw06.NestTurns': WHATEVER THE INPUT: true; the input reads as it did. -/
def nestTurnsSpec : ChangeSpec := { name := "nestTurns", fn := fun _ => fun
  | [d1, d2, d3] => { results := [.lit (.bool true)], args := [d1, d2, d3] }
  | _ => none }
def nestTurnsRow : OpenClaim := { program := "ytocbcbfniiioaaagreat", sum := "37ee43e76e1f26d34974aa766b271796e328baa46c9082e5593fd5fcccc6ea46", func := "sheetmetal/sheetmetallaw06.NestTurns", spec := "nestTurns", unfollowed := true, recurses := true, apart := false }
def NestTurnsSaid : Prop := nestTurnsRow.holds Tryz.pinned (OpenSpec.ofChange nestTurnsSpec)

/-- ITS FALSE NEIGHBOUR: 'it returns false'. Refute it at one input. -/
def nestTurnsWrong : ChangeSpec := { name := "nestTurns", fn := fun _ => fun
  | [d1, d2, d3] => { results := [.lit (.bool false)], args := [d1, d2, d3] }
  | _ => none }
def NestTurnsWrongFalsely : Prop := nestTurnsRow.holds Tryz.pinned (OpenSpec.ofChange nestTurnsWrong)

/-- 'sheetmetallaw06.NestAllows': WHATEVER THE INPUT: true; the input reads as it did. -/
def nestAllowsSpec : ChangeSpec := { name := "nestAllows", fn := fun _ => fun
  | [d1, d2, d3] => { results := [.lit (.bool true)], args := [d1, d2, d3] }
  | _ => none }
def nestAllowsRow : OpenClaim := { program := "ytocbcbfniiioaaagreat", sum := "37ee43e76e1f26d34974aa766b271796e328baa46c9082e5593fd5fcccc6ea46", func := "sheetmetal/sheetmetallaw06.NestAllows", spec := "nestAllows", unfollowed := true, recurses := true, apart := false }
def NestAllowsSaid : Prop := nestAllowsRow.holds Tryz.pinned (OpenSpec.ofChange nestAllowsSpec)

/-- ITS FALSE NEIGHBOUR: 'it returns false'. Refute it at one input. -/
def nestAllowsWrong : ChangeSpec := { name := "nestAllows", fn := fun _ => fun
  | [d1, d2, d3] => { results := [.lit (.bool false)], args := [d1, d2, d3] }
  | _ => none }
def NestAllowsWrongFalsely : Prop := nestAllowsRow.holds Tryz.pinned (OpenSpec.ofChange nestAllowsWrong)

/-- 'sheetmetallaw06.NestClears': WHATEVER THE INPUT: true; the input reads as it did. -/
def nestClearsSpec : ChangeSpec := { name := "nestClears", fn := fun _ => fun
  | [d1, d2, d3] => { results := [.lit (.bool true)], args := [d1, d2, d3] }
  | _ => none }
def nestClearsRow : OpenClaim := { program := "ytocbcbfniiioaaagreat", sum := "37ee43e76e1f26d34974aa766b271796e328baa46c9082e5593fd5fcccc6ea46", func := "sheetmetal/sheetmetallaw06.NestClears", spec := "nestClears", unfollowed := true, recurses := true, apart := false }
def NestClearsSaid : Prop := nestClearsRow.holds Tryz.pinned (OpenSpec.ofChange nestClearsSpec)

/-- ITS FALSE NEIGHBOUR: 'it returns false'. Refute it at one input. -/
def nestClearsWrong : ChangeSpec := { name := "nestClears", fn := fun _ => fun
  | [d1, d2, d3] => { results := [.lit (.bool false)], args := [d1, d2, d3] }
  | _ => none }
def NestClearsWrongFalsely : Prop := nestClearsRow.holds Tryz.pinned (OpenSpec.ofChange nestClearsWrong)

/-- 'sheetmetallaw06.NestChecks': WHATEVER THE INPUT: true; the input reads as it did. -/
def nestChecksSpec : ChangeSpec := { name := "nestChecks", fn := fun _ => fun
  | [d1, d2] => { results := [.lit (.bool true)], args := [d1, d2] }
  | _ => none }
def nestChecksRow : OpenClaim := { program := "ytocbcbfniiioaaagreat", sum := "37ee43e76e1f26d34974aa766b271796e328baa46c9082e5593fd5fcccc6ea46", func := "sheetmetal/sheetmetallaw06.NestChecks", spec := "nestChecks", unfollowed := true, recurses := true, apart := false }
def NestChecksSaid : Prop := nestChecksRow.holds Tryz.pinned (OpenSpec.ofChange nestChecksSpec)

/-- ITS FALSE NEIGHBOUR: 'it returns false'. Refute it at one input. -/
def nestChecksWrong : ChangeSpec := { name := "nestChecks", fn := fun _ => fun
  | [d1, d2] => { results := [.lit (.bool false)], args := [d1, d2] }
  | _ => none }
def NestChecksWrongFalsely : Prop := nestChecksRow.holds Tryz.pinned (OpenSpec.ofChange nestChecksWrong)

/-- 'sheetmetallaw06.NestLowest': WHATEVER THE INPUT: true; the input reads as it did. -/
def nestLowestSpec : ChangeSpec := { name := "nestLowest", fn := fun _ => fun
  | [d1, d2, d3] => { results := [.lit (.bool true)], args := [d1, d2, d3] }
  | _ => none }
def nestLowestRow : OpenClaim := { program := "ytocbcbfniiioaaagreat", sum := "37ee43e76e1f26d34974aa766b271796e328baa46c9082e5593fd5fcccc6ea46", func := "sheetmetal/sheetmetallaw06.NestLowest", spec := "nestLowest", unfollowed := true, recurses := true, apart := false }
def NestLowestSaid : Prop := nestLowestRow.holds Tryz.pinned (OpenSpec.ofChange nestLowestSpec)

/-- ITS FALSE NEIGHBOUR: 'it returns false'. Refute it at one input. -/
def nestLowestWrong : ChangeSpec := { name := "nestLowest", fn := fun _ => fun
  | [d1, d2, d3] => { results := [.lit (.bool false)], args := [d1, d2, d3] }
  | _ => none }
def NestLowestWrongFalsely : Prop := nestLowestRow.holds Tryz.pinned (OpenSpec.ofChange nestLowestWrong)

/- THE SECOND FORM. 'bulk': how many values and letters a reading holds, each counted each time it is reached (what is shared counts as often as it is met; a slice's spare places count too). A statement '..UptoSaid' is the law's where the arguments, and the package variables that the reading takes, are together of bulk at most 1048576: NARROWER than '..Said'. Prove '..Said' where nothing that the law and all that it calls make is longer than what came in: it says more and counts as full. Else prove '..UptoSaid'. A law counts once. -/
mutual
def uptoBulk {H : Type} : DataW H → Nat
  | .lit (.string bytes) => bytes.length + 1
  | .lit _ => 1
  | .nil => 1
  | .ptr d => uptoBulk d + 1
  | .slice elems spare => uptoBulkAll elems + uptoBulkAll spare + 1
  | .agg parts => uptoBulkAll parts + 1
  | .iface _ d => uptoBulk d + 1
  | .map entries => uptoBulkEntries entries + 1
  | .held _ => 1
def uptoBulkAll {H : Type} : List (DataW H) → Nat
  | [] => 0
  | d :: r => uptoBulk d + uptoBulkAll r
def uptoBulkEntries {H : Type} : List (Lit × DataW H) → Nat
  | [] => 0
  | x :: r => uptoBulkEntry x + uptoBulkEntries r
def uptoBulkEntry {H : Type} : Lit × DataW H → Nat
  | (.string bytes, d) => bytes.length + uptoBulk d + 1
  | (_, d) => uptoBulk d + 1
 end
def uptoSmall : (H : Type) → List (DataW H) → Bool := fun _ ds => decide (uptoBulkAll ds ≤ 1048576)
def OpenSpec.upto (s : _root_.Go.ChangeSpec) : _root_.Go.OpenSpec := { _root_.Go.OpenSpec.ofChange s with cond := some uptoSmall }

/-- 'sheetmetallaw06.NestValidates', WHERE WHAT IT READS IS OF BULK AT MOST 1048576: true; the input reads as it did. -/
def nestValidatesUptoRow : OpenClaim := { program := "ytocbcbfniiioaaagreat", sum := "37ee43e76e1f26d34974aa766b271796e328baa46c9082e5593fd5fcccc6ea46", func := "sheetmetal/sheetmetallaw06.NestValidates", spec := "nestValidates", unfollowed := true, recurses := true, apart := false, narrowed := true }
def NestValidatesUptoSaid : Prop := nestValidatesUptoRow.holds Tryz.pinned (OpenSpec.upto nestValidatesSpec)

/-- 'sheetmetallaw06.NestPuts', WHERE WHAT IT READS IS OF BULK AT MOST 1048576: true; the input reads as it did. -/
def nestPutsUptoRow : OpenClaim := { program := "ytocbcbfniiioaaagreat", sum := "37ee43e76e1f26d34974aa766b271796e328baa46c9082e5593fd5fcccc6ea46", func := "sheetmetal/sheetmetallaw06.NestPuts", spec := "nestPuts", unfollowed := true, recurses := true, apart := false, narrowed := true }
def NestPutsUptoSaid : Prop := nestPutsUptoRow.holds Tryz.pinned (OpenSpec.upto nestPutsSpec)

/-- 'sheetmetallaw06.NestTurns', WHERE WHAT IT READS IS OF BULK AT MOST 1048576: true; the input reads as it did. -/
def nestTurnsUptoRow : OpenClaim := { program := "ytocbcbfniiioaaagreat", sum := "37ee43e76e1f26d34974aa766b271796e328baa46c9082e5593fd5fcccc6ea46", func := "sheetmetal/sheetmetallaw06.NestTurns", spec := "nestTurns", unfollowed := true, recurses := true, apart := false, narrowed := true }
def NestTurnsUptoSaid : Prop := nestTurnsUptoRow.holds Tryz.pinned (OpenSpec.upto nestTurnsSpec)

/-- 'sheetmetallaw06.NestAllows', WHERE WHAT IT READS IS OF BULK AT MOST 1048576: true; the input reads as it did. -/
def nestAllowsUptoRow : OpenClaim := { program := "ytocbcbfniiioaaagreat", sum := "37ee43e76e1f26d34974aa766b271796e328baa46c9082e5593fd5fcccc6ea46", func := "sheetmetal/sheetmetallaw06.NestAllows", spec := "nestAllows", unfollowed := true, recurses := true, apart := false, narrowed := true }
def NestAllowsUptoSaid : Prop := nestAllowsUptoRow.holds Tryz.pinned (OpenSpec.upto nestAllowsSpec)

/-- 'sheetmetallaw06.NestClears', WHERE WHAT IT READS IS OF BULK AT MOST 1048576: true; the input reads as it did. -/
def nestClearsUptoRow : OpenClaim := { program := "ytocbcbfniiioaaagreat", sum := "37ee43e76e1f26d34974aa766b271796e328baa46c9082e5593fd5fcccc6ea46", func := "sheetmetal/sheetmetallaw06.NestClears", spec := "nestClears", unfollowed := true, recurses := true, apart := false, narrowed := true }
def NestClearsUptoSaid : Prop := nestClearsUptoRow.holds Tryz.pinned (OpenSpec.upto nestClearsSpec)

/-- 'sheetmetallaw06.NestChecks', WHERE WHAT IT READS IS OF BULK AT MOST 1048576: true; the input reads as it did. -/
def nestChecksUptoRow : OpenClaim := { program := "ytocbcbfniiioaaagreat", sum := "37ee43e76e1f26d34974aa766b271796e328baa46c9082e5593fd5fcccc6ea46", func := "sheetmetal/sheetmetallaw06.NestChecks", spec := "nestChecks", unfollowed := true, recurses := true, apart := false, narrowed := true }
def NestChecksUptoSaid : Prop := nestChecksUptoRow.holds Tryz.pinned (OpenSpec.upto nestChecksSpec)

/-- 'sheetmetallaw06.NestLowest', WHERE WHAT IT READS IS OF BULK AT MOST 1048576: true; the input reads as it did. -/
def nestLowestUptoRow : OpenClaim := { program := "ytocbcbfniiioaaagreat", sum := "37ee43e76e1f26d34974aa766b271796e328baa46c9082e5593fd5fcccc6ea46", func := "sheetmetal/sheetmetallaw06.NestLowest", spec := "nestLowest", unfollowed := true, recurses := true, apart := false, narrowed := true }
def NestLowestUptoSaid : Prop := nestLowestUptoRow.holds Tryz.pinned (OpenSpec.upto nestLowestSpec)

end Rows
end Go.Proofs.YtocbcbfniiioaaaGreat
