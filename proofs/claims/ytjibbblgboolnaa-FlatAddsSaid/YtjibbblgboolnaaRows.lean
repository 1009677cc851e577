/-
  No cell of these rows narrows 'for every input' (looked for: loops, veiled, ifaces, maps, wideKeys, modest, calm, conditions, laid).
  DERIVED. THE GIVEN ROWS OF THIS SEAT. 8 by the template 'for every input the law returns true; each argument reads behind the call as it read before'; 0 by the template 'total and deterministic' (their statements: YtjibbblgboolnaaTotals.lean).
  GIVEN WITH THE SEED: the statements are not yours to turn. If you find one false, say at which input.
  Laid BY PROGRAM, IN A SANDBOX (cutbox-rows.mjs): the forced cells as the released guide's own fill.sh prints them over the translation 0a083415571a4a9c… (all of the seat's roots in one cut). By AI agents, Wed Nov 11 2026. No macro, syntax, notation, axiom, sorry.
-/
import Derived.Test.YtjibbblgboolnaaChecked
import GoSem.Claim
import GoSem.ClaimJoined
import GoSem.ClaimMapViews
import Derived.JoinedTies
import Derived.KernelRfl
namespace Go.Proofs.Ytjibbblgboolnaa
/- THE CELL 'sum', in the pinned program and in every row, IS THE sha256 OF THE DUMP (.gsa) THAT YtjibbblgboolnaaProg.lean LOADS. Nothing in Lean hashes anything: it is a label: what it is worth is what the hold of that sum in a sandbox is worth. -/
noncomputable def Try.pinned : Pinned := { name := "ytjibbblgboolnaa", sum := "0a083415571a4a9c99cc5a446ab01e986f9cc3072391b204f7275fe25232b1f2", checked := Try.checked }
namespace Rows
def none {H : Type} : Left H := { results := [], args := [] }

/-- 'sheetmetallaw02.PartValidates': WHATEVER THE INPUT: true; the input reads as it did. -/
def partValidatesSpec : ChangeSpec := { name := "partValidates", fn := fun _ => fun
  | [d] => { results := [.lit (.bool true)], args := [d] }
  | _ => none }
def partValidatesRow : OpenClaim := { program := "ytjibbblgboolnaa", sum := "0a083415571a4a9c99cc5a446ab01e986f9cc3072391b204f7275fe25232b1f2", func := "sheetmetal/sheetmetallaw02.PartValidates", spec := "partValidates", unfollowed := true, recurses := true, apart := false }
def PartValidatesSaid : Prop := partValidatesRow.holds Try.pinned (OpenSpec.ofChange partValidatesSpec)

/-- ITS FALSE NEIGHBOUR: 'it returns false'. Refute it at one input. -/
def partValidatesWrong : ChangeSpec := { name := "partValidates", fn := fun _ => fun
  | [d] => { results := [.lit (.bool false)], args := [d] }
  | _ => none }
def PartValidatesWrongFalsely : Prop := partValidatesRow.holds Try.pinned (OpenSpec.ofChange partValidatesWrong)

/-- 'sheetmetallaw02.PartClashes': WHATEVER THE INPUT: true; the input reads as it did. -/
def partClashesSpec : ChangeSpec := { name := "partClashes", fn := fun _ => fun
  | [d1, d2] => { results := [.lit (.bool true)], args := [d1, d2] }
  | _ => none }
def partClashesRow : OpenClaim := { program := "ytjibbblgboolnaa", sum := "0a083415571a4a9c99cc5a446ab01e986f9cc3072391b204f7275fe25232b1f2", func := "sheetmetal/sheetmetallaw02.PartClashes", spec := "partClashes", apart := false }
def PartClashesSaid : Prop := partClashesRow.holds Try.pinned (OpenSpec.ofChange partClashesSpec)

/-- ITS FALSE NEIGHBOUR: 'it returns false'. Refute it at one input. -/
def partClashesWrong : ChangeSpec := { name := "partClashes", fn := fun _ => fun
  | [d1, d2] => { results := [.lit (.bool false)], args := [d1, d2] }
  | _ => none }
def PartClashesWrongFalsely : Prop := partClashesRow.holds Try.pinned (OpenSpec.ofChange partClashesWrong)

/-- 'sheetmetallaw03.FlatRationals': WHATEVER THE INPUT: true; the input reads as it did. -/
def flatRationalsSpec : ChangeSpec := { name := "flatRationals", fn := fun _ => fun
  | [d1, d2] => { results := [.lit (.bool true)], args := [d1, d2] }
  | _ => none }
def flatRationalsRow : OpenClaim := { program := "ytjibbblgboolnaa", sum := "0a083415571a4a9c99cc5a446ab01e986f9cc3072391b204f7275fe25232b1f2", func := "sheetmetal/sheetmetallaw03.FlatRationals", spec := "flatRationals", apart := false }
def FlatRationalsSaid : Prop := flatRationalsRow.holds Try.pinned (OpenSpec.ofChange flatRationalsSpec)

/-- ITS FALSE NEIGHBOUR: 'it returns false'. Refute it at one input. -/
def flatRationalsWrong : ChangeSpec := { name := "flatRationals", fn := fun _ => fun
  | [d1, d2] => { results := [.lit (.bool false)], args := [d1, d2] }
  | _ => none }
def FlatRationalsWrongFalsely : Prop := flatRationalsRow.holds Try.pinned (OpenSpec.ofChange flatRationalsWrong)

/-- 'sheetmetallaw03.FlatAdds': WHATEVER THE INPUT: true; the input reads as it did. -/
def flatAddsSpec : ChangeSpec := { name := "flatAdds", fn := fun _ => fun
  | [d1, d2, d3] => { results := [.lit (.bool true)], args := [d1, d2, d3] }
  | _ => none }
def flatAddsRow : OpenClaim := { program := "ytjibbblgboolnaa", sum := "0a083415571a4a9c99cc5a446ab01e986f9cc3072391b204f7275fe25232b1f2", func := "sheetmetal/sheetmetallaw03.FlatAdds", spec := "flatAdds", apart := false }
def FlatAddsSaid : Prop := flatAddsRow.holds Try.pinned (OpenSpec.ofChange flatAddsSpec)

/-- ITS FALSE NEIGHBOUR: 'it returns false'. Refute it at one input. -/
def flatAddsWrong : ChangeSpec := { name := "flatAdds", fn := fun _ => fun
  | [d1, d2, d3] => { results := [.lit (.bool false)], args := [d1, d2, d3] }
  | _ => none }
def FlatAddsWrongFalsely : Prop := flatAddsRow.holds Try.pinned (OpenSpec.ofChange flatAddsWrong)

/-- 'sheetmetallaw03.FlatTables': WHATEVER THE INPUT: true; the input reads as it did. -/
def flatTablesSpec : ChangeSpec := { name := "flatTables", fn := fun _ => fun
  | [d1, d2] => { results := [.lit (.bool true)], args := [d1, d2] }
  | _ => none }
def flatTablesRow : OpenClaim := { program := "ytjibbblgboolnaa", sum := "0a083415571a4a9c99cc5a446ab01e986f9cc3072391b204f7275fe25232b1f2", func := "sheetmetal/sheetmetallaw03.FlatTables", spec := "flatTables", unfollowed := true, recurses := true, apart := false }
def FlatTablesSaid : Prop := flatTablesRow.holds Try.pinned (OpenSpec.ofChange flatTablesSpec)

/-- ITS FALSE NEIGHBOUR: 'it returns false'. Refute it at one input. -/
def flatTablesWrong : ChangeSpec := { name := "flatTables", fn := fun _ => fun
  | [d1, d2] => { results := [.lit (.bool false)], args := [d1, d2] }
  | _ => none }
def FlatTablesWrongFalsely : Prop := flatTablesRow.holds Try.pinned (OpenSpec.ofChange flatTablesWrong)

/-- 'sheetmetallaw03.FlatDeductions': WHATEVER THE INPUT: true; the input reads as it did. -/
def flatDeductionsSpec : ChangeSpec := { name := "flatDeductions", fn := fun _ => fun
  | [d1, d2] => { results := [.lit (.bool true)], args := [d1, d2] }
  | _ => none }
def flatDeductionsRow : OpenClaim := { program := "ytjibbblgboolnaa", sum := "0a083415571a4a9c99cc5a446ab01e986f9cc3072391b204f7275fe25232b1f2", func := "sheetmetal/sheetmetallaw03.FlatDeductions", spec := "flatDeductions", unfollowed := true, recurses := true, apart := false }
def FlatDeductionsSaid : Prop := flatDeductionsRow.holds Try.pinned (OpenSpec.ofChange flatDeductionsSpec)

/-- ITS FALSE NEIGHBOUR: 'it returns false'. Refute it at one input. -/
def flatDeductionsWrong : ChangeSpec := { name := "flatDeductions", fn := fun _ => fun
  | [d1, d2] => { results := [.lit (.bool false)], args := [d1, d2] }
  | _ => none }
def FlatDeductionsWrongFalsely : Prop := flatDeductionsRow.holds Try.pinned (OpenSpec.ofChange flatDeductionsWrong)

/-- 'sheetmetallaw03.FlatTurnsBack': WHATEVER THE INPUT: true; the input reads as it did. -/
def flatTurnsBackSpec : ChangeSpec := { name := "flatTurnsBack", fn := fun _ => fun
  | [d1, d2, d3] => { results := [.lit (.bool true)], args := [d1, d2, d3] }
  | _ => none }
def flatTurnsBackRow : OpenClaim := { program := "ytjibbblgboolnaa", sum := "0a083415571a4a9c99cc5a446ab01e986f9cc3072391b204f7275fe25232b1f2", func := "sheetmetal/sheetmetallaw03.FlatTurnsBack", spec := "flatTurnsBack", unfollowed := true, recurses := true, apart := false }
def FlatTurnsBackSaid : Prop := flatTurnsBackRow.holds Try.pinned (OpenSpec.ofChange flatTurnsBackSpec)

/-- ITS FALSE NEIGHBOUR: 'it returns false'. Refute it at one input. -/
def flatTurnsBackWrong : ChangeSpec := { name := "flatTurnsBack", fn := fun _ => fun
  | [d1, d2, d3] => { results := [.lit (.bool false)], args := [d1, d2, d3] }
  | _ => none }
def FlatTurnsBackWrongFalsely : Prop := flatTurnsBackRow.holds Try.pinned (OpenSpec.ofChange flatTurnsBackWrong)

/-- 'sheetmetallaw03.FlatSurfaces': WHATEVER THE INPUT: true; the input reads as it did. -/
def flatSurfacesSpec : ChangeSpec := { name := "flatSurfaces", fn := fun _ => fun
  | [d] => { results := [.lit (.bool true)], args := [d] }
  | _ => none }
def flatSurfacesRow : OpenClaim := { program := "ytjibbblgboolnaa", sum := "0a083415571a4a9c99cc5a446ab01e986f9cc3072391b204f7275fe25232b1f2", func := "sheetmetal/sheetmetallaw03.FlatSurfaces", spec := "flatSurfaces", unfollowed := true, recurses := true, apart := false }
def FlatSurfacesSaid : Prop := flatSurfacesRow.holds Try.pinned (OpenSpec.ofChange flatSurfacesSpec)

/-- ITS FALSE NEIGHBOUR: 'it returns false'. Refute it at one input. -/
def flatSurfacesWrong : ChangeSpec := { name := "flatSurfaces", fn := fun _ => fun
  | [d] => { results := [.lit (.bool false)], args := [d] }
  | _ => none }
def FlatSurfacesWrongFalsely : Prop := flatSurfacesRow.holds Try.pinned (OpenSpec.ofChange flatSurfacesWrong)

/- THE SECOND FORM. 'bulk': how many values and letters a reading holds, each counted each time it is reached (what is shared counts as often as it is met; a slice's spare places count too). A statement '..UptoSaid' is the law's where the arguments, and the package variables that the reading takes, are together of bulk at most 1048576: NARROWER than '..Said'. Prove '..Said' where nothing that the law and all that it calls make is longer than what came in: it says more and counts as full. Else prove '..UptoSaid'. A law counts once. -/
mutual
def uptoBulk {H : Type} : DataW H → Nat
  | .lit (.string bytes) => bytes.length + 1
  | .lit _ => 1
  | .nil => 1
  | .ptr d => uptoBulk d + 1
  | .slice elems spare => uptoBulkAll elems + uptoBulkAll spare + 1
  | .agg parts => uptoBulkAll parts + 1
  | .iface _ d => uptoBulk d + 1
  | .map entries => uptoBulkEntries entries + 1
  | .held _ => 1
def uptoBulkAll {H : Type} : List (DataW H) → Nat
  | [] => 0
  | d :: r => uptoBulk d + uptoBulkAll r
def uptoBulkEntries {H : Type} : List (Lit × DataW H) → Nat
  | [] => 0
  | x :: r => uptoBulkEntry x + uptoBulkEntries r
def uptoBulkEntry {H : Type} : Lit × DataW H → Nat
  | (.string bytes, d) => bytes.length + uptoBulk d + 1
  | (_, d) => uptoBulk d + 1
 end
def uptoSmall : (H : Type) → List (DataW H) → Bool := fun _ ds => decide (uptoBulkAll ds ≤ 1048576)
def OpenSpec.upto (s : _root_.Go.ChangeSpec) : _root_.Go.OpenSpec := { _root_.Go.OpenSpec.ofChange s with cond := some uptoSmall }

/-- 'sheetmetallaw02.PartValidates', WHERE WHAT IT READS IS OF BULK AT MOST 1048576: true; the input reads as it did. -/
def partValidatesUptoRow : OpenClaim := { program := "ytjibbblgboolnaa", sum := "0a083415571a4a9c99cc5a446ab01e986f9cc3072391b204f7275fe25232b1f2", func := "sheetmetal/sheetmetallaw02.PartValidates", spec := "partValidates", unfollowed := true, recurses := true, apart := false, narrowed := true }
def PartValidatesUptoSaid : Prop := partValidatesUptoRow.holds Try.pinned (OpenSpec.upto partValidatesSpec)

/-- 'sheetmetallaw02.PartClashes', WHERE WHAT IT READS IS OF BULK AT MOST 1048576: true; the input reads as it did. -/
def partClashesUptoRow : OpenClaim := { program := "ytjibbblgboolnaa", sum := "0a083415571a4a9c99cc5a446ab01e986f9cc3072391b204f7275fe25232b1f2", func := "sheetmetal/sheetmetallaw02.PartClashes", spec := "partClashes", apart := false, narrowed := true }
def PartClashesUptoSaid : Prop := partClashesUptoRow.holds Try.pinned (OpenSpec.upto partClashesSpec)

/-- 'sheetmetallaw03.FlatRationals', WHERE WHAT IT READS IS OF BULK AT MOST 1048576: true; the input reads as it did. -/
def flatRationalsUptoRow : OpenClaim := { program := "ytjibbblgboolnaa", sum := "0a083415571a4a9c99cc5a446ab01e986f9cc3072391b204f7275fe25232b1f2", func := "sheetmetal/sheetmetallaw03.FlatRationals", spec := "flatRationals", apart := false, narrowed := true }
def FlatRationalsUptoSaid : Prop := flatRationalsUptoRow.holds Try.pinned (OpenSpec.upto flatRationalsSpec)

/-- 'sheetmetallaw03.FlatAdds', WHERE WHAT IT READS IS OF BULK AT MOST 1048576: true; the input reads as it did. -/
def flatAddsUptoRow : OpenClaim := { program := "ytjibbblgboolnaa", sum := "0a083415571a4a9c99cc5a446ab01e986f9cc3072391b204f7275fe25232b1f2", func := "sheetmetal/sheetmetallaw03.FlatAdds", spec := "flatAdds", apart := false, narrowed := true }
def FlatAddsUptoSaid : Prop := flatAddsUptoRow.holds Try.pinned (OpenSpec.upto flatAddsSpec)

/-- 'sheetmetallaw03.FlatTables', WHERE WHAT IT READS IS OF BULK AT MOST 1048576: true; the input reads as it did. -/
def flatTablesUptoRow : OpenClaim := { program := "ytjibbblgboolnaa", sum := "0a083415571a4a9c99cc5a446ab01e986f9cc3072391b204f7275fe25232b1f2", func := "sheetmetal/sheetmetallaw03.FlatTables", spec := "flatTables", unfollowed := true, recurses := true, apart := false, narrowed := true }
def FlatTablesUptoSaid : Prop := flatTablesUptoRow.holds Try.pinned (OpenSpec.upto flatTablesSpec)

/-- 'sheetmetallaw03.FlatDeductions', WHERE WHAT IT READS IS OF BULK AT MOST 1048576: true; the input reads as it did. -/
def flatDeductionsUptoRow : OpenClaim := { program := "ytjibbblgboolnaa", sum := "0a083415571a4a9c99cc5a446ab01e986f9cc3072391b204f7275fe25232b1f2", func := "sheetmetal/sheetmetallaw03.FlatDeductions", spec := "flatDeductions", unfollowed := true, recurses := true, apart := false, narrowed := true }
def FlatDeductionsUptoSaid : Prop := flatDeductionsUptoRow.holds Try.pinned (OpenSpec.upto flatDeductionsSpec)

/-- 'sheetmetallaw03.FlatTurnsBack', WHERE WHAT IT READS IS OF BULK AT MOST 1048576: true; the input reads as it did. -/
def flatTurnsBackUptoRow : OpenClaim := { program := "ytjibbblgboolnaa", sum := "0a083415571a4a9c99cc5a446ab01e986f9cc3072391b204f7275fe25232b1f2", func := "sheetmetal/sheetmetallaw03.FlatTurnsBack", spec := "flatTurnsBack", unfollowed := true, recurses := true, apart := false, narrowed := true }
def FlatTurnsBackUptoSaid : Prop := flatTurnsBackUptoRow.holds Try.pinned (OpenSpec.upto flatTurnsBackSpec)

/-- 'sheetmetallaw03.FlatSurfaces', WHERE WHAT IT READS IS OF BULK AT MOST 1048576: true; the input reads as it did. -/
def flatSurfacesUptoRow : OpenClaim := { program := "ytjibbblgboolnaa", sum := "0a083415571a4a9c99cc5a446ab01e986f9cc3072391b204f7275fe25232b1f2", func := "sheetmetal/sheetmetallaw03.FlatSurfaces", spec := "flatSurfaces", unfollowed := true, recurses := true, apart := false, narrowed := true }
def FlatSurfacesUptoSaid : Prop := flatSurfacesUptoRow.holds Try.pinned (OpenSpec.upto flatSurfacesSpec)

end Rows
end Go.Proofs.Ytjibbblgboolnaa
