/-
  DERIVED. GIVEN WITH THE SEED: THE CARDS: each row of YtfbhpeedjphpaaaDoorRows.lean that lists a variable, with what it lists TIED to the program's text (the seventh form; the later family's looks); each row that meets fmt, with fmt's text TOLD by the authors' own Lean function (tested against real Go, not proved from fmt's source: count such statements apart). THE CARD IS WHAT COUNTS. Prove the row's statement (the work); the ties are given (YtfbhpeedjphpaaaDoorTie.lean); close each card by the builder's one call (the guide's Derived/Test/ToyasCard.lean, 'card_holds'). Laid BY PROGRAM, IN A SANDBOX (cutbox-door.mjs). By AI agents, Wed Nov 11 2026. No macro, syntax, notation, axiom, sorry.
-/
import Derived.Test.YtfbhpeedjphpaaaDoorRows
import GoSem.ClaimSeven
namespace Go.Proofs.YtfbhpeedjphpaaaDoor
namespace Rows

/-- THE TIED CARD OF 'sheetmetallaw01.GeomAreas'. -/
def geomAreasCard : Claim7 := { stood := { row := geomAreasRow, standIns := [], harness := (true, "4a0fbc5c95e214e2a18948a3de58d58bccd4b68b532a47c157a88cb9577948c2"), looks := false }, kinds := [], alts := [], laidByText := true, laidKinds := [.data], laidTests := true, laidLooks := .later }
def GeomAreasCardSaid : Prop := Claim7.holds Tryd.pinned (.plain (OpenSpec.ofChange geomAreasSpec)) geomAreasCard

/-- THE TIED CARD OF 'sheetmetallaw01.GeomOutlines'. -/
def geomOutlinesCard : Claim7 := { stood := { row := geomOutlinesRow, standIns := [], harness := (true, "4a0fbc5c95e214e2a18948a3de58d58bccd4b68b532a47c157a88cb9577948c2"), looks := false }, kinds := [], alts := [], laidByText := true, laidKinds := [.data], laidTests := true, laidLooks := .later }
def GeomOutlinesCardSaid : Prop := Claim7.holds Tryd.pinned (.plain (OpenSpec.ofChange geomOutlinesSpec)) geomOutlinesCard

/-- THE SECOND FORM's CARD OF 'sheetmetallaw01.GeomAreas'. -/
def geomAreasUptoCard : Claim7 := { stood := { row := geomAreasUptoRow, standIns := [], harness := (true, "4a0fbc5c95e214e2a18948a3de58d58bccd4b68b532a47c157a88cb9577948c2"), looks := false }, kinds := [], alts := [], laidByText := true, laidKinds := [.data], laidTests := true, laidLooks := .later }
def GeomAreasUptoCardSaid : Prop := Claim7.holds Tryd.pinned (.plain (OpenSpec.upto geomAreasSpec)) geomAreasUptoCard

/-- THE SECOND FORM's CARD OF 'sheetmetallaw01.GeomOutlines'. -/
def geomOutlinesUptoCard : Claim7 := { stood := { row := geomOutlinesUptoRow, standIns := [], harness := (true, "4a0fbc5c95e214e2a18948a3de58d58bccd4b68b532a47c157a88cb9577948c2"), looks := false }, kinds := [], alts := [], laidByText := true, laidKinds := [.data], laidTests := true, laidLooks := .later }
def GeomOutlinesUptoCardSaid : Prop := Claim7.holds Tryd.pinned (.plain (OpenSpec.upto geomOutlinesSpec)) geomOutlinesUptoCard
end Rows
end Go.Proofs.YtfbhpeedjphpaaaDoor
