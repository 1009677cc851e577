/-
  NARROWER THAN 'FOR EVERY INPUT', by the rows' own cells (each row's printed sentence says how): GeomAreas: laid · GeomOutlines: laid.
  DERIVED. THE GIVEN ROWS OF THIS SEAT. 2 by the template 'for every input the law returns true; each argument reads behind the call as it read before'; 0 by the template 'total and deterministic' (their statements: YtfbhpeedjphpaaaDoorTotals.lean).
  GIVEN WITH THE SEED: the statements are not yours to turn. If you find one false, say at which input.
  Laid BY PROGRAM, IN A SANDBOX (cutbox-rows.mjs): the forced cells as the released guide's own fill.sh prints them over the translation d73c4f8975ac4b68… (all of the seat's roots in one cut). By AI agents, Wed Nov 11 2026. No macro, syntax, notation, axiom, sorry.
-/
import Derived.Test.YtfbhpeedjphpaaaDoorChecked
import GoSem.Claim
import GoSem.ClaimJoined
import GoSem.ClaimMapViews
import Derived.JoinedTies
import Derived.KernelRfl
namespace Go.Proofs.YtfbhpeedjphpaaaDoor
/- THE CELL 'sum', in the pinned program and in every row, IS THE sha256 OF THE DUMP (.gsa) THAT YtfbhpeedjphpaaaDoorProg.lean LOADS. Nothing in Lean hashes anything: it is a label: what it is worth is what the hold of that sum in a sandbox is worth. -/
noncomputable def Tryd.pinned : Pinned := { name := "ytfbhpeedjphpaaadoor", sum := "d73c4f8975ac4b68a973b6c90e97426e4a0cc2139fce202d2f76c60280fccc98", checked := Tryd.checked }
namespace Rows
def none {H : Type} : Left H := { results := [], args := [] }

/- WHAT THE LISTED PACKAGE-LEVEL VARIABLES READ AS WHEN THE CALL BEGINS. Each datum BY PROGRAM (the guide's laid-datum.mjs) off the statement by which the dump's own 'gosem.cut.vars' lays the variable. In a bare row this is a premise. The card (YtfbhpeedjphpaaaDoorCards.lean) ties it to the program's text. -/
def laid_sheetmetal_geom_cosines {H : Type} : DataW H := .agg [.agg [.lit (.int .i64 2), .lit (.int .i64 0)], .agg [.lit (.int .i64 0), .lit (.int .i64 1)], .agg [.lit (.int .i64 1), .lit (.int .i64 0)], .agg [.lit (.int .i64 0), .lit (.int .i64 0)], .agg [.lit (.int .i64 (-1)), .lit (.int .i64 0)], .agg [.lit (.int .i64 0), .lit (.int .i64 (-1))], .agg [.lit (.int .i64 (-2)), .lit (.int .i64 0)], .agg [.lit (.int .i64 0), .lit (.int .i64 (-1))], .agg [.lit (.int .i64 (-1)), .lit (.int .i64 0)], .agg [.lit (.int .i64 0), .lit (.int .i64 0)], .agg [.lit (.int .i64 1), .lit (.int .i64 0)], .agg [.lit (.int .i64 0), .lit (.int .i64 1)]]

/-- 'sheetmetallaw01.GeomAreas': WHATEVER THE INPUT: true; the input reads as it did. -/
def geomAreasSpec : ChangeSpec := { name := "geomAreas", fn := fun _ => fun
  | [d1, d2] => { results := [.lit (.bool true)], args := [d1, d2] }
  | _ => none }
def geomAreasRow : OpenClaim := { program := "ytfbhpeedjphpaaadoor", sum := "d73c4f8975ac4b68a973b6c90e97426e4a0cc2139fce202d2f76c60280fccc98", func := "sheetmetal/sheetmetallaw01.GeomAreas", spec := "geomAreas", unfollowed := true, recurses := true, named := ["sheetmetal/geom.cosines"], apart := false, laid := [("sheetmetal/geom.cosines", laid_sheetmetal_geom_cosines)] }
def GeomAreasSaid : Prop := geomAreasRow.holds Tryd.pinned (OpenSpec.ofChange geomAreasSpec)

/-- ITS FALSE NEIGHBOUR: 'it returns false'. Refute it at one input. -/
def geomAreasWrong : ChangeSpec := { name := "geomAreas", fn := fun _ => fun
  | [d1, d2] => { results := [.lit (.bool false)], args := [d1, d2] }
  | _ => none }
def GeomAreasWrongFalsely : Prop := geomAreasRow.holds Tryd.pinned (OpenSpec.ofChange geomAreasWrong)

/-- 'sheetmetallaw01.GeomOutlines': WHATEVER THE INPUT: true; the input reads as it did. -/
def geomOutlinesSpec : ChangeSpec := { name := "geomOutlines", fn := fun _ => fun
  | [d] => { results := [.lit (.bool true)], args := [d] }
  | _ => none }
def geomOutlinesRow : OpenClaim := { program := "ytfbhpeedjphpaaadoor", sum := "d73c4f8975ac4b68a973b6c90e97426e4a0cc2139fce202d2f76c60280fccc98", func := "sheetmetal/sheetmetallaw01.GeomOutlines", spec := "geomOutlines", unfollowed := true, recurses := true, named := ["sheetmetal/geom.cosines"], apart := false, laid := [("sheetmetal/geom.cosines", laid_sheetmetal_geom_cosines)] }
def GeomOutlinesSaid : Prop := geomOutlinesRow.holds Tryd.pinned (OpenSpec.ofChange geomOutlinesSpec)

/-- ITS FALSE NEIGHBOUR: 'it returns false'. Refute it at one input. -/
def geomOutlinesWrong : ChangeSpec := { name := "geomOutlines", fn := fun _ => fun
  | [d] => { results := [.lit (.bool false)], args := [d] }
  | _ => none }
def GeomOutlinesWrongFalsely : Prop := geomOutlinesRow.holds Tryd.pinned (OpenSpec.ofChange geomOutlinesWrong)

/- THE SECOND FORM. 'bulk': how many values and letters a reading holds, each counted each time it is reached (what is shared counts as often as it is met; a slice's spare places count too). A statement '..UptoSaid' is the law's where the arguments, and the package variables that the reading takes, are together of bulk at most 1048576: NARROWER than '..Said'. Prove '..Said' where nothing that the law and all that it calls make is longer than what came in: it says more and counts as full. Else prove '..UptoSaid'. A law counts once. -/
mutual
def uptoBulk {H : Type} : DataW H → Nat
  | .lit (.string bytes) => bytes.length + 1
  | .lit _ => 1
  | .nil => 1
  | .ptr d => uptoBulk d + 1
  | .slice elems spare => uptoBulkAll elems + uptoBulkAll spare + 1
  | .agg parts => uptoBulkAll parts + 1
  | .iface _ d => uptoBulk d + 1
  | .map entries => uptoBulkEntries entries + 1
  | .held _ => 1
def uptoBulkAll {H : Type} : List (DataW H) → Nat
  | [] => 0
  | d :: r => uptoBulk d + uptoBulkAll r
def uptoBulkEntries {H : Type} : List (Lit × DataW H) → Nat
  | [] => 0
  | x :: r => uptoBulkEntry x + uptoBulkEntries r
def uptoBulkEntry {H : Type} : Lit × DataW H → Nat
  | (.string bytes, d) => bytes.length + uptoBulk d + 1
  | (_, d) => uptoBulk d + 1
 end
def uptoSmall : (H : Type) → List (DataW H) → Bool := fun _ ds => decide (uptoBulkAll ds ≤ 1048576)
def OpenSpec.upto (s : _root_.Go.ChangeSpec) : _root_.Go.OpenSpec := { _root_.Go.OpenSpec.ofChange s with cond := some uptoSmall }

/-- 'sheetmetallaw01.GeomAreas', WHERE WHAT IT READS IS OF BULK AT MOST 1048576: true; the input reads as it did. -/
def geomAreasUptoRow : OpenClaim := { program := "ytfbhpeedjphpaaadoor", sum := "d73c4f8975ac4b68a973b6c90e97426e4a0cc2139fce202d2f76c60280fccc98", func := "sheetmetal/sheetmetallaw01.GeomAreas", spec := "geomAreas", unfollowed := true, recurses := true, named := ["sheetmetal/geom.cosines"], apart := false, laid := [("sheetmetal/geom.cosines", laid_sheetmetal_geom_cosines)], narrowed := true }
def GeomAreasUptoSaid : Prop := geomAreasUptoRow.holds Tryd.pinned (OpenSpec.upto geomAreasSpec)

/-- 'sheetmetallaw01.GeomOutlines', WHERE WHAT IT READS IS OF BULK AT MOST 1048576: true; the input reads as it did. -/
def geomOutlinesUptoRow : OpenClaim := { program := "ytfbhpeedjphpaaadoor", sum := "d73c4f8975ac4b68a973b6c90e97426e4a0cc2139fce202d2f76c60280fccc98", func := "sheetmetal/sheetmetallaw01.GeomOutlines", spec := "geomOutlines", unfollowed := true, recurses := true, named := ["sheetmetal/geom.cosines"], apart := false, laid := [("sheetmetal/geom.cosines", laid_sheetmetal_geom_cosines)], narrowed := true }
def GeomOutlinesUptoSaid : Prop := geomOutlinesUptoRow.holds Tryd.pinned (OpenSpec.upto geomOutlinesSpec)

end Rows
end Go.Proofs.YtfbhpeedjphpaaaDoor
