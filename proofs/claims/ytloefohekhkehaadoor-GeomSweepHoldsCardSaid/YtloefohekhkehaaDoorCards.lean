/-
  DERIVED. GIVEN WITH THE SEED: THE CARDS: each row of YtloefohekhkehaaDoorRows.lean that lists a variable, with what it lists TIED to the program's text (the seventh form; the later family's looks); each row that meets fmt, with fmt's text TOLD by the authors' own Lean function (tested against real Go, not proved from fmt's source: count such statements apart). THE CARD IS WHAT COUNTS. Prove the row's statement (the work); the ties are given (YtloefohekhkehaaDoorTie.lean); close each card by the builder's one call (the guide's Derived/Test/ToyasCard.lean, 'card_holds'). Laid BY PROGRAM, IN A SANDBOX (cutbox-door.mjs). By AI agents, Wed Nov 11 2026. No macro, syntax, notation, axiom, sorry.
-/
import Derived.Test.YtloefohekhkehaaDoorRows
import GoSem.ClaimSeven
namespace Go.Proofs.YtloefohekhkehaaDoor
namespace Rows

/-- THE TIED CARD OF 'sheetmetallaw01.GeomSweeps'. -/
def geomSweepsCard : Claim7 := { stood := { row := geomSweepsRow, standIns := [], harness := (true, "cbef135ee6721d9932c07519a1861d1c86ebb752a68e9fcf8822c8c3e9e521d5"), looks := false }, kinds := [], alts := [], laidByText := true, laidKinds := [.data], laidTests := true, laidLooks := .later }
def GeomSweepsCardSaid : Prop := Claim7.holds Tryd.pinned (.plain (OpenSpec.ofChange geomSweepsSpec)) geomSweepsCard

/-- THE TIED CARD OF 'sheetmetallaw01.GeomSweepHolds'. -/
def geomSweepHoldsCard : Claim7 := { stood := { row := geomSweepHoldsRow, standIns := [], harness := (true, "cbef135ee6721d9932c07519a1861d1c86ebb752a68e9fcf8822c8c3e9e521d5"), looks := false }, kinds := [], alts := [], laidByText := true, laidKinds := [.data], laidTests := true, laidLooks := .later }
def GeomSweepHoldsCardSaid : Prop := Claim7.holds Tryd.pinned (.plain (OpenSpec.ofChange geomSweepHoldsSpec)) geomSweepHoldsCard

/-- THE SECOND FORM's CARD OF 'sheetmetallaw01.GeomSweeps'. -/
def geomSweepsUptoCard : Claim7 := { stood := { row := geomSweepsUptoRow, standIns := [], harness := (true, "cbef135ee6721d9932c07519a1861d1c86ebb752a68e9fcf8822c8c3e9e521d5"), looks := false }, kinds := [], alts := [], laidByText := true, laidKinds := [.data], laidTests := true, laidLooks := .later }
def GeomSweepsUptoCardSaid : Prop := Claim7.holds Tryd.pinned (.plain (OpenSpec.upto geomSweepsSpec)) geomSweepsUptoCard

/-- THE SECOND FORM's CARD OF 'sheetmetallaw01.GeomSweepHolds'. -/
def geomSweepHoldsUptoCard : Claim7 := { stood := { row := geomSweepHoldsUptoRow, standIns := [], harness := (true, "cbef135ee6721d9932c07519a1861d1c86ebb752a68e9fcf8822c8c3e9e521d5"), looks := false }, kinds := [], alts := [], laidByText := true, laidKinds := [.data], laidTests := true, laidLooks := .later }
def GeomSweepHoldsUptoCardSaid : Prop := Claim7.holds Tryd.pinned (.plain (OpenSpec.upto geomSweepHoldsSpec)) geomSweepHoldsUptoCard
end Rows
end Go.Proofs.YtloefohekhkehaaDoor
