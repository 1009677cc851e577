/-
  No cell of these rows narrows 'for every input' (looked for: loops, veiled, ifaces, maps, wideKeys, modest, calm, conditions, laid).
  DERIVED. THE GIVEN ROWS OF THIS SEAT. 12 by the template 'for every input the law returns true; each argument reads behind the call as it read before'; 0 by the template 'total and deterministic' (their statements: YtpmomgfepkegnaaTotals.lean).
  GIVEN WITH THE SEED: the statements are not yours to turn. If you find one false, say at which input.
  Laid BY PROGRAM, IN A SANDBOX (cutbox-rows.mjs): the forced cells as the released guide's own fill.sh prints them over the translation eb1a64cd8c0c1491… (all of the seat's roots in one cut). By AI agents, Wed Nov 11 2026. No macro, syntax, notation, axiom, sorry.
-/
import Derived.Test.YtpmomgfepkegnaaChecked
import GoSem.Claim
import GoSem.ClaimJoined
import GoSem.ClaimMapViews
import Derived.JoinedTies
import Derived.KernelRfl
namespace Go.Proofs.Ytpmomgfepkegnaa
/- THE CELL 'sum', in the pinned program and in every row, IS THE sha256 OF THE DUMP (.gsa) THAT YtpmomgfepkegnaaProg.lean LOADS. Nothing in Lean hashes anything: it is a label: what it is worth is what the hold of that sum in a sandbox is worth. -/
noncomputable def Try.pinned : Pinned := { name := "ytpmomgfepkegnaa", sum := "eb1a64cd8c0c14913fce4b09e3e2f6a672642c4c2e23a5b46283cc02973086c7", checked := Try.checked }
namespace Rows
def none {H : Type} : Left H := { results := [], args := [] }

/-- 'sheetmetallaw02.PartValidates': WHATEVER THE INPUT: true; the input reads as it did. -/
def partValidatesSpec : ChangeSpec := { name := "partValidates", fn := fun _ => fun
  | [d] => { results := [.lit (.bool true)], args := [d] }
  | _ => none }
def partValidatesRow : OpenClaim := { program := "ytpmomgfepkegnaa", sum := "eb1a64cd8c0c14913fce4b09e3e2f6a672642c4c2e23a5b46283cc02973086c7", func := "sheetmetal/sheetmetallaw02.PartValidates", spec := "partValidates", unfollowed := true, recurses := true, apart := false }
def PartValidatesSaid : Prop := partValidatesRow.holds Try.pinned (OpenSpec.ofChange partValidatesSpec)

/-- ITS FALSE NEIGHBOUR: 'it returns false'. Refute it at one input. -/
def partValidatesWrong : ChangeSpec := { name := "partValidates", fn := fun _ => fun
  | [d] => { results := [.lit (.bool false)], args := [d] }
  | _ => none }
def PartValidatesWrongFalsely : Prop := partValidatesRow.holds Try.pinned (OpenSpec.ofChange partValidatesWrong)

/-- 'sheetmetallaw02.PartFaces': WHATEVER THE INPUT: true; the input reads as it did. -/
def partFacesSpec : ChangeSpec := { name := "partFaces", fn := fun _ => fun
  | [d1, d2] => { results := [.lit (.bool true)], args := [d1, d2] }
  | _ => none }
def partFacesRow : OpenClaim := { program := "ytpmomgfepkegnaa", sum := "eb1a64cd8c0c14913fce4b09e3e2f6a672642c4c2e23a5b46283cc02973086c7", func := "sheetmetal/sheetmetallaw02.PartFaces", spec := "partFaces", unfollowed := true, recurses := true, apart := false }
def PartFacesSaid : Prop := partFacesRow.holds Try.pinned (OpenSpec.ofChange partFacesSpec)

/-- ITS FALSE NEIGHBOUR: 'it returns false'. Refute it at one input. -/
def partFacesWrong : ChangeSpec := { name := "partFaces", fn := fun _ => fun
  | [d1, d2] => { results := [.lit (.bool false)], args := [d1, d2] }
  | _ => none }
def PartFacesWrongFalsely : Prop := partFacesRow.holds Try.pinned (OpenSpec.ofChange partFacesWrong)

/-- 'sheetmetallaw02.PartMoves': WHATEVER THE INPUT: true; the input reads as it did. -/
def partMovesSpec : ChangeSpec := { name := "partMoves", fn := fun _ => fun
  | [d1, d2, d3] => { results := [.lit (.bool true)], args := [d1, d2, d3] }
  | _ => none }
def partMovesRow : OpenClaim := { program := "ytpmomgfepkegnaa", sum := "eb1a64cd8c0c14913fce4b09e3e2f6a672642c4c2e23a5b46283cc02973086c7", func := "sheetmetal/sheetmetallaw02.PartMoves", spec := "partMoves", unfollowed := true, recurses := true, apart := false }
def PartMovesSaid : Prop := partMovesRow.holds Try.pinned (OpenSpec.ofChange partMovesSpec)

/-- ITS FALSE NEIGHBOUR: 'it returns false'. Refute it at one input. -/
def partMovesWrong : ChangeSpec := { name := "partMoves", fn := fun _ => fun
  | [d1, d2, d3] => { results := [.lit (.bool false)], args := [d1, d2, d3] }
  | _ => none }
def PartMovesWrongFalsely : Prop := partMovesRow.holds Try.pinned (OpenSpec.ofChange partMovesWrong)

/-- 'sheetmetallaw02.PartRigid': WHATEVER THE INPUT: true; the input reads as it did. -/
def partRigidSpec : ChangeSpec := { name := "partRigid", fn := fun _ => fun
  | [d1, d2, d3] => { results := [.lit (.bool true)], args := [d1, d2, d3] }
  | _ => none }
def partRigidRow : OpenClaim := { program := "ytpmomgfepkegnaa", sum := "eb1a64cd8c0c14913fce4b09e3e2f6a672642c4c2e23a5b46283cc02973086c7", func := "sheetmetal/sheetmetallaw02.PartRigid", spec := "partRigid", unfollowed := true, recurses := true, apart := false }
def PartRigidSaid : Prop := partRigidRow.holds Try.pinned (OpenSpec.ofChange partRigidSpec)

/-- ITS FALSE NEIGHBOUR: 'it returns false'. Refute it at one input. -/
def partRigidWrong : ChangeSpec := { name := "partRigid", fn := fun _ => fun
  | [d1, d2, d3] => { results := [.lit (.bool false)], args := [d1, d2, d3] }
  | _ => none }
def PartRigidWrongFalsely : Prop := partRigidRow.holds Try.pinned (OpenSpec.ofChange partRigidWrong)

/-- 'sheetmetallaw02.PartHoles': WHATEVER THE INPUT: true; the input reads as it did. -/
def partHolesSpec : ChangeSpec := { name := "partHoles", fn := fun _ => fun
  | [d1, d2, d3] => { results := [.lit (.bool true)], args := [d1, d2, d3] }
  | _ => none }
def partHolesRow : OpenClaim := { program := "ytpmomgfepkegnaa", sum := "eb1a64cd8c0c14913fce4b09e3e2f6a672642c4c2e23a5b46283cc02973086c7", func := "sheetmetal/sheetmetallaw02.PartHoles", spec := "partHoles", unfollowed := true, recurses := true, apart := false }
def PartHolesSaid : Prop := partHolesRow.holds Try.pinned (OpenSpec.ofChange partHolesSpec)

/-- ITS FALSE NEIGHBOUR: 'it returns false'. Refute it at one input. -/
def partHolesWrong : ChangeSpec := { name := "partHoles", fn := fun _ => fun
  | [d1, d2, d3] => { results := [.lit (.bool false)], args := [d1, d2, d3] }
  | _ => none }
def PartHolesWrongFalsely : Prop := partHolesRow.holds Try.pinned (OpenSpec.ofChange partHolesWrong)

/-- 'sheetmetallaw02.PartApplies': WHATEVER THE INPUT: true; the input reads as it did. -/
def partAppliesSpec : ChangeSpec := { name := "partApplies", fn := fun _ => fun
  | [d1, d2] => { results := [.lit (.bool true)], args := [d1, d2] }
  | _ => none }
def partAppliesRow : OpenClaim := { program := "ytpmomgfepkegnaa", sum := "eb1a64cd8c0c14913fce4b09e3e2f6a672642c4c2e23a5b46283cc02973086c7", func := "sheetmetal/sheetmetallaw02.PartApplies", spec := "partApplies", unfollowed := true, recurses := true, apart := false }
def PartAppliesSaid : Prop := partAppliesRow.holds Try.pinned (OpenSpec.ofChange partAppliesSpec)

/-- ITS FALSE NEIGHBOUR: 'it returns false'. Refute it at one input. -/
def partAppliesWrong : ChangeSpec := { name := "partApplies", fn := fun _ => fun
  | [d1, d2] => { results := [.lit (.bool false)], args := [d1, d2] }
  | _ => none }
def PartAppliesWrongFalsely : Prop := partAppliesRow.holds Try.pinned (OpenSpec.ofChange partAppliesWrong)

/-- 'sheetmetallaw02.PartEditsBack': WHATEVER THE INPUT: true; the input reads as it did. -/
def partEditsBackSpec : ChangeSpec := { name := "partEditsBack", fn := fun _ => fun
  | [d1, d2] => { results := [.lit (.bool true)], args := [d1, d2] }
  | _ => none }
def partEditsBackRow : OpenClaim := { program := "ytpmomgfepkegnaa", sum := "eb1a64cd8c0c14913fce4b09e3e2f6a672642c4c2e23a5b46283cc02973086c7", func := "sheetmetal/sheetmetallaw02.PartEditsBack", spec := "partEditsBack", unfollowed := true, recurses := true, apart := false }
def PartEditsBackSaid : Prop := partEditsBackRow.holds Try.pinned (OpenSpec.ofChange partEditsBackSpec)

/-- ITS FALSE NEIGHBOUR: 'it returns false'. Refute it at one input. -/
def partEditsBackWrong : ChangeSpec := { name := "partEditsBack", fn := fun _ => fun
  | [d1, d2] => { results := [.lit (.bool false)], args := [d1, d2] }
  | _ => none }
def PartEditsBackWrongFalsely : Prop := partEditsBackRow.holds Try.pinned (OpenSpec.ofChange partEditsBackWrong)

/-- 'sheetmetallaw02.PartChanges': WHATEVER THE INPUT: true; the input reads as it did. -/
def partChangesSpec : ChangeSpec := { name := "partChanges", fn := fun _ => fun
  | [d1, d2] => { results := [.lit (.bool true)], args := [d1, d2] }
  | _ => none }
def partChangesRow : OpenClaim := { program := "ytpmomgfepkegnaa", sum := "eb1a64cd8c0c14913fce4b09e3e2f6a672642c4c2e23a5b46283cc02973086c7", func := "sheetmetal/sheetmetallaw02.PartChanges", spec := "partChanges", unfollowed := true, recurses := true, apart := false }
def PartChangesSaid : Prop := partChangesRow.holds Try.pinned (OpenSpec.ofChange partChangesSpec)

/-- ITS FALSE NEIGHBOUR: 'it returns false'. Refute it at one input. -/
def partChangesWrong : ChangeSpec := { name := "partChanges", fn := fun _ => fun
  | [d1, d2] => { results := [.lit (.bool false)], args := [d1, d2] }
  | _ => none }
def PartChangesWrongFalsely : Prop := partChangesRow.holds Try.pinned (OpenSpec.ofChange partChangesWrong)

/-- 'sheetmetallaw03.FlatTables': WHATEVER THE INPUT: true; the input reads as it did. -/
def flatTablesSpec : ChangeSpec := { name := "flatTables", fn := fun _ => fun
  | [d1, d2] => { results := [.lit (.bool true)], args := [d1, d2] }
  | _ => none }
def flatTablesRow : OpenClaim := { program := "ytpmomgfepkegnaa", sum := "eb1a64cd8c0c14913fce4b09e3e2f6a672642c4c2e23a5b46283cc02973086c7", func := "sheetmetal/sheetmetallaw03.FlatTables", spec := "flatTables", unfollowed := true, recurses := true, apart := false }
def FlatTablesSaid : Prop := flatTablesRow.holds Try.pinned (OpenSpec.ofChange flatTablesSpec)

/-- ITS FALSE NEIGHBOUR: 'it returns false'. Refute it at one input. -/
def flatTablesWrong : ChangeSpec := { name := "flatTables", fn := fun _ => fun
  | [d1, d2] => { results := [.lit (.bool false)], args := [d1, d2] }
  | _ => none }
def FlatTablesWrongFalsely : Prop := flatTablesRow.holds Try.pinned (OpenSpec.ofChange flatTablesWrong)

/-- 'sheetmetallaw03.FlatDeductions': WHATEVER THE INPUT: true; the input reads as it did. -/
def flatDeductionsSpec : ChangeSpec := { name := "flatDeductions", fn := fun _ => fun
  | [d1, d2] => { results := [.lit (.bool true)], args := [d1, d2] }
  | _ => none }
def flatDeductionsRow : OpenClaim := { program := "ytpmomgfepkegnaa", sum := "eb1a64cd8c0c14913fce4b09e3e2f6a672642c4c2e23a5b46283cc02973086c7", func := "sheetmetal/sheetmetallaw03.FlatDeductions", spec := "flatDeductions", unfollowed := true, recurses := true, apart := false }
def FlatDeductionsSaid : Prop := flatDeductionsRow.holds Try.pinned (OpenSpec.ofChange flatDeductionsSpec)

/-- ITS FALSE NEIGHBOUR: 'it returns false'. Refute it at one input. -/
def flatDeductionsWrong : ChangeSpec := { name := "flatDeductions", fn := fun _ => fun
  | [d1, d2] => { results := [.lit (.bool false)], args := [d1, d2] }
  | _ => none }
def FlatDeductionsWrongFalsely : Prop := flatDeductionsRow.holds Try.pinned (OpenSpec.ofChange flatDeductionsWrong)

/-- 'sheetmetallaw03.FlatTurnsBack': WHATEVER THE INPUT: true; the input reads as it did. -/
def flatTurnsBackSpec : ChangeSpec := { name := "flatTurnsBack", fn := fun _ => fun
  | [d1, d2, d3] => { results := [.lit (.bool true)], args := [d1, d2, d3] }
  | _ => none }
def flatTurnsBackRow : OpenClaim := { program := "ytpmomgfepkegnaa", sum := "eb1a64cd8c0c14913fce4b09e3e2f6a672642c4c2e23a5b46283cc02973086c7", func := "sheetmetal/sheetmetallaw03.FlatTurnsBack", spec := "flatTurnsBack", unfollowed := true, recurses := true, apart := false }
def FlatTurnsBackSaid : Prop := flatTurnsBackRow.holds Try.pinned (OpenSpec.ofChange flatTurnsBackSpec)

/-- ITS FALSE NEIGHBOUR: 'it returns false'. Refute it at one input. -/
def flatTurnsBackWrong : ChangeSpec := { name := "flatTurnsBack", fn := fun _ => fun
  | [d1, d2, d3] => { results := [.lit (.bool false)], args := [d1, d2, d3] }
  | _ => none }
def FlatTurnsBackWrongFalsely : Prop := flatTurnsBackRow.holds Try.pinned (OpenSpec.ofChange flatTurnsBackWrong)

/-- 'sheetmetallaw03.FlatSurfaces': WHATEVER THE INPUT: true; the input reads as it did. -/
def flatSurfacesSpec : ChangeSpec := { name := "flatSurfaces", fn := fun _ => fun
  | [d] => { results := [.lit (.bool true)], args := [d] }
  | _ => none }
def flatSurfacesRow : OpenClaim := { program := "ytpmomgfepkegnaa", sum := "eb1a64cd8c0c14913fce4b09e3e2f6a672642c4c2e23a5b46283cc02973086c7", func := "sheetmetal/sheetmetallaw03.FlatSurfaces", spec := "flatSurfaces", unfollowed := true, recurses := true, apart := false }
def FlatSurfacesSaid : Prop := flatSurfacesRow.holds Try.pinned (OpenSpec.ofChange flatSurfacesSpec)

/-- ITS FALSE NEIGHBOUR: 'it returns false'. Refute it at one input. -/
def flatSurfacesWrong : ChangeSpec := { name := "flatSurfaces", fn := fun _ => fun
  | [d] => { results := [.lit (.bool false)], args := [d] }
  | _ => none }
def FlatSurfacesWrongFalsely : Prop := flatSurfacesRow.holds Try.pinned (OpenSpec.ofChange flatSurfacesWrong)

/- THE SECOND FORM. 'bulk': how many values and letters a reading holds, each counted each time it is reached (what is shared counts as often as it is met; a slice's spare places count too). A statement '..UptoSaid' is the law's where the arguments, and the package variables that the reading takes, are together of bulk at most 1048576: NARROWER than '..Said'. Prove '..Said' where nothing that the law and all that it calls make is longer than what came in: it says more and counts as full. Else prove '..UptoSaid'. A law counts once. -/
mutual
def uptoBulk {H : Type} : DataW H → Nat
  | .lit (.string bytes) => bytes.length + 1
  | .lit _ => 1
  | .nil => 1
  | .ptr d => uptoBulk d + 1
  | .slice elems spare => uptoBulkAll elems + uptoBulkAll spare + 1
  | .agg parts => uptoBulkAll parts + 1
  | .iface _ d => uptoBulk d + 1
  | .map entries => uptoBulkEntries entries + 1
  | .held _ => 1
def uptoBulkAll {H : Type} : List (DataW H) → Nat
  | [] => 0
  | d :: r => uptoBulk d + uptoBulkAll r
def uptoBulkEntries {H : Type} : List (Lit × DataW H) → Nat
  | [] => 0
  | x :: r => uptoBulkEntry x + uptoBulkEntries r
def uptoBulkEntry {H : Type} : Lit × DataW H → Nat
  | (.string bytes, d) => bytes.length + uptoBulk d + 1
  | (_, d) => uptoBulk d + 1
 end
def uptoSmall : (H : Type) → List (DataW H) → Bool := fun _ ds => decide (uptoBulkAll ds ≤ 1048576)
def OpenSpec.upto (s : _root_.Go.ChangeSpec) : _root_.Go.OpenSpec := { _root_.Go.OpenSpec.ofChange s with cond := some uptoSmall }

/-- 'sheetmetallaw02.PartValidates', WHERE WHAT IT READS IS OF BULK AT MOST 1048576: true; the input reads as it did. -/
def partValidatesUptoRow : OpenClaim := { program := "ytpmomgfepkegnaa", sum := "eb1a64cd8c0c14913fce4b09e3e2f6a672642c4c2e23a5b46283cc02973086c7", func := "sheetmetal/sheetmetallaw02.PartValidates", spec := "partValidates", unfollowed := true, recurses := true, apart := false, narrowed := true }
def PartValidatesUptoSaid : Prop := partValidatesUptoRow.holds Try.pinned (OpenSpec.upto partValidatesSpec)

/-- 'sheetmetallaw02.PartFaces', WHERE WHAT IT READS IS OF BULK AT MOST 1048576: true; the input reads as it did. -/
def partFacesUptoRow : OpenClaim := { program := "ytpmomgfepkegnaa", sum := "eb1a64cd8c0c14913fce4b09e3e2f6a672642c4c2e23a5b46283cc02973086c7", func := "sheetmetal/sheetmetallaw02.PartFaces", spec := "partFaces", unfollowed := true, recurses := true, apart := false, narrowed := true }
def PartFacesUptoSaid : Prop := partFacesUptoRow.holds Try.pinned (OpenSpec.upto partFacesSpec)

/-- 'sheetmetallaw02.PartMoves', WHERE WHAT IT READS IS OF BULK AT MOST 1048576: true; the input reads as it did. -/
def partMovesUptoRow : OpenClaim := { program := "ytpmomgfepkegnaa", sum := "eb1a64cd8c0c14913fce4b09e3e2f6a672642c4c2e23a5b46283cc02973086c7", func := "sheetmetal/sheetmetallaw02.PartMoves", spec := "partMoves", unfollowed := true, recurses := true, apart := false, narrowed := true }
def PartMovesUptoSaid : Prop := partMovesUptoRow.holds Try.pinned (OpenSpec.upto partMovesSpec)

/-- 'sheetmetallaw02.PartRigid', WHERE WHAT IT READS IS OF BULK AT MOST 1048576: true; the input reads as it did. -/
def partRigidUptoRow : OpenClaim := { program := "ytpmomgfepkegnaa", sum := "eb1a64cd8c0c14913fce4b09e3e2f6a672642c4c2e23a5b46283cc02973086c7", func := "sheetmetal/sheetmetallaw02.PartRigid", spec := "partRigid", unfollowed := true, recurses := true, apart := false, narrowed := true }
def PartRigidUptoSaid : Prop := partRigidUptoRow.holds Try.pinned (OpenSpec.upto partRigidSpec)

/-- 'sheetmetallaw02.PartHoles', WHERE WHAT IT READS IS OF BULK AT MOST 1048576: true; the input reads as it did. -/
def partHolesUptoRow : OpenClaim := { program := "ytpmomgfepkegnaa", sum := "eb1a64cd8c0c14913fce4b09e3e2f6a672642c4c2e23a5b46283cc02973086c7", func := "sheetmetal/sheetmetallaw02.PartHoles", spec := "partHoles", unfollowed := true, recurses := true, apart := false, narrowed := true }
def PartHolesUptoSaid : Prop := partHolesUptoRow.holds Try.pinned (OpenSpec.upto partHolesSpec)

/-- 'sheetmetallaw02.PartApplies', WHERE WHAT IT READS IS OF BULK AT MOST 1048576: true; the input reads as it did. -/
def partAppliesUptoRow : OpenClaim := { program := "ytpmomgfepkegnaa", sum := "eb1a64cd8c0c14913fce4b09e3e2f6a672642c4c2e23a5b46283cc02973086c7", func := "sheetmetal/sheetmetallaw02.PartApplies", spec := "partApplies", unfollowed := true, recurses := true, apart := false, narrowed := true }
def PartAppliesUptoSaid : Prop := partAppliesUptoRow.holds Try.pinned (OpenSpec.upto partAppliesSpec)

/-- 'sheetmetallaw02.PartEditsBack', WHERE WHAT IT READS IS OF BULK AT MOST 1048576: true; the input reads as it did. -/
def partEditsBackUptoRow : OpenClaim := { program := "ytpmomgfepkegnaa", sum := "eb1a64cd8c0c14913fce4b09e3e2f6a672642c4c2e23a5b46283cc02973086c7", func := "sheetmetal/sheetmetallaw02.PartEditsBack", spec := "partEditsBack", unfollowed := true, recurses := true, apart := false, narrowed := true }
def PartEditsBackUptoSaid : Prop := partEditsBackUptoRow.holds Try.pinned (OpenSpec.upto partEditsBackSpec)

/-- 'sheetmetallaw02.PartChanges', WHERE WHAT IT READS IS OF BULK AT MOST 1048576: true; the input reads as it did. -/
def partChangesUptoRow : OpenClaim := { program := "ytpmomgfepkegnaa", sum := "eb1a64cd8c0c14913fce4b09e3e2f6a672642c4c2e23a5b46283cc02973086c7", func := "sheetmetal/sheetmetallaw02.PartChanges", spec := "partChanges", unfollowed := true, recurses := true, apart := false, narrowed := true }
def PartChangesUptoSaid : Prop := partChangesUptoRow.holds Try.pinned (OpenSpec.upto partChangesSpec)

/-- 'sheetmetallaw03.FlatTables', WHERE WHAT IT READS IS OF BULK AT MOST 1048576: true; the input reads as it did. -/
def flatTablesUptoRow : OpenClaim := { program := "ytpmomgfepkegnaa", sum := "eb1a64cd8c0c14913fce4b09e3e2f6a672642c4c2e23a5b46283cc02973086c7", func := "sheetmetal/sheetmetallaw03.FlatTables", spec := "flatTables", unfollowed := true, recurses := true, apart := false, narrowed := true }
def FlatTablesUptoSaid : Prop := flatTablesUptoRow.holds Try.pinned (OpenSpec.upto flatTablesSpec)

/-- 'sheetmetallaw03.FlatDeductions', WHERE WHAT IT READS IS OF BULK AT MOST 1048576: true; the input reads as it did. -/
def flatDeductionsUptoRow : OpenClaim := { program := "ytpmomgfepkegnaa", sum := "eb1a64cd8c0c14913fce4b09e3e2f6a672642c4c2e23a5b46283cc02973086c7", func := "sheetmetal/sheetmetallaw03.FlatDeductions", spec := "flatDeductions", unfollowed := true, recurses := true, apart := false, narrowed := true }
def FlatDeductionsUptoSaid : Prop := flatDeductionsUptoRow.holds Try.pinned (OpenSpec.upto flatDeductionsSpec)

/-- 'sheetmetallaw03.FlatTurnsBack', WHERE WHAT IT READS IS OF BULK AT MOST 1048576: true; the input reads as it did. -/
def flatTurnsBackUptoRow : OpenClaim := { program := "ytpmomgfepkegnaa", sum := "eb1a64cd8c0c14913fce4b09e3e2f6a672642c4c2e23a5b46283cc02973086c7", func := "sheetmetal/sheetmetallaw03.FlatTurnsBack", spec := "flatTurnsBack", unfollowed := true, recurses := true, apart := false, narrowed := true }
def FlatTurnsBackUptoSaid : Prop := flatTurnsBackUptoRow.holds Try.pinned (OpenSpec.upto flatTurnsBackSpec)

/-- 'sheetmetallaw03.FlatSurfaces', WHERE WHAT IT READS IS OF BULK AT MOST 1048576: true; the input reads as it did. -/
def flatSurfacesUptoRow : OpenClaim := { program := "ytpmomgfepkegnaa", sum := "eb1a64cd8c0c14913fce4b09e3e2f6a672642c4c2e23a5b46283cc02973086c7", func := "sheetmetal/sheetmetallaw03.FlatSurfaces", spec := "flatSurfaces", unfollowed := true, recurses := true, apart := false, narrowed := true }
def FlatSurfacesUptoSaid : Prop := flatSurfacesUptoRow.holds Try.pinned (OpenSpec.upto flatSurfacesSpec)

end Rows
end Go.Proofs.Ytpmomgfepkegnaa
