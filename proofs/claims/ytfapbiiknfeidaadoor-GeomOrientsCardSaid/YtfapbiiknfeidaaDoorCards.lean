/-
  DERIVED. GIVEN WITH THE SEED: THE CARDS: each row of YtfapbiiknfeidaaDoorRows.lean that lists a variable, with what it lists TIED to the program's text (the seventh form; the later family's looks); each row that meets fmt, with fmt's text TOLD by the authors' own Lean function (tested against real Go, not proved from fmt's source: count such statements apart). THE CARD IS WHAT COUNTS. Prove the row's statement (the work); the ties are given (YtfapbiiknfeidaaDoorTie.lean); close each card by the builder's one call (the guide's Derived/Test/ToyasCard.lean, 'card_holds'). Laid BY PROGRAM, IN A SANDBOX (cutbox-door.mjs). By AI agents, Wed Nov 11 2026. No macro, syntax, notation, axiom, sorry.
-/
import Derived.Test.YtfapbiiknfeidaaDoorRows
import GoSem.ClaimSeven
namespace Go.Proofs.YtfapbiiknfeidaaDoor
namespace Rows

/-- THE TIED CARD OF 'sheetmetallaw01.GeomSigns'. -/
def geomSignsCard : Claim7 := { stood := { row := geomSignsRow, standIns := [], harness := (true, "2b9ed0ead2ab98db20530cf78be269898de03ae0b4a58ed790f600ff783f860f"), looks := false }, kinds := [], alts := [], laidByText := true, laidKinds := [.data], laidTests := true, laidLooks := .later }
def GeomSignsCardSaid : Prop := Claim7.holds Tryd.pinned (.plain (OpenSpec.ofChange geomSignsSpec)) geomSignsCard

/-- THE TIED CARD OF 'sheetmetallaw01.GeomMultiplies'. -/
def geomMultipliesCard : Claim7 := { stood := { row := geomMultipliesRow, standIns := [], harness := (true, "2b9ed0ead2ab98db20530cf78be269898de03ae0b4a58ed790f600ff783f860f"), looks := false }, kinds := [], alts := [], laidByText := true, laidKinds := [.data], laidTests := true, laidLooks := .later }
def GeomMultipliesCardSaid : Prop := Claim7.holds Tryd.pinned (.plain (OpenSpec.ofChange geomMultipliesSpec)) geomMultipliesCard

/-- THE TIED CARD OF 'sheetmetallaw01.GeomTurns'. -/
def geomTurnsCard : Claim7 := { stood := { row := geomTurnsRow, standIns := [], harness := (true, "2b9ed0ead2ab98db20530cf78be269898de03ae0b4a58ed790f600ff783f860f"), looks := false }, kinds := [], alts := [], laidByText := true, laidKinds := [.data], laidTests := true, laidLooks := .later }
def GeomTurnsCardSaid : Prop := Claim7.holds Tryd.pinned (.plain (OpenSpec.ofChange geomTurnsSpec)) geomTurnsCard

/-- THE TIED CARD OF 'sheetmetallaw01.GeomOrients'. -/
def geomOrientsCard : Claim7 := { stood := { row := geomOrientsRow, standIns := [], harness := (true, "2b9ed0ead2ab98db20530cf78be269898de03ae0b4a58ed790f600ff783f860f"), looks := false }, kinds := [], alts := [], laidByText := true, laidKinds := [.data], laidTests := true, laidLooks := .later }
def GeomOrientsCardSaid : Prop := Claim7.holds Tryd.pinned (.plain (OpenSpec.ofChange geomOrientsSpec)) geomOrientsCard

/-- THE TIED CARD OF 'sheetmetallaw01.GeomHulls'. -/
def geomHullsCard : Claim7 := { stood := { row := geomHullsRow, standIns := [], harness := (true, "2b9ed0ead2ab98db20530cf78be269898de03ae0b4a58ed790f600ff783f860f"), looks := false }, kinds := [], alts := [], laidByText := true, laidKinds := [.data], laidTests := true, laidLooks := .later }
def GeomHullsCardSaid : Prop := Claim7.holds Tryd.pinned (.plain (OpenSpec.ofChange geomHullsSpec)) geomHullsCard

/-- THE TIED CARD OF 'sheetmetallaw01.GeomHullHolds'. -/
def geomHullHoldsCard : Claim7 := { stood := { row := geomHullHoldsRow, standIns := [], harness := (true, "2b9ed0ead2ab98db20530cf78be269898de03ae0b4a58ed790f600ff783f860f"), looks := false }, kinds := [], alts := [], laidByText := true, laidKinds := [.data], laidTests := true, laidLooks := .later }
def GeomHullHoldsCardSaid : Prop := Claim7.holds Tryd.pinned (.plain (OpenSpec.ofChange geomHullHoldsSpec)) geomHullHoldsCard

/-- THE TIED CARD OF 'sheetmetallaw01.GeomMeets'. -/
def geomMeetsCard : Claim7 := { stood := { row := geomMeetsRow, standIns := [], harness := (true, "2b9ed0ead2ab98db20530cf78be269898de03ae0b4a58ed790f600ff783f860f"), looks := false }, kinds := [], alts := [], laidByText := true, laidKinds := [.data], laidTests := true, laidLooks := .later }
def GeomMeetsCardSaid : Prop := Claim7.holds Tryd.pinned (.plain (OpenSpec.ofChange geomMeetsSpec)) geomMeetsCard

/-- THE TIED CARD OF 'sheetmetallaw01.GeomMeetsMore'. -/
def geomMeetsMoreCard : Claim7 := { stood := { row := geomMeetsMoreRow, standIns := [], harness := (true, "2b9ed0ead2ab98db20530cf78be269898de03ae0b4a58ed790f600ff783f860f"), looks := false }, kinds := [], alts := [], laidByText := true, laidKinds := [.data], laidTests := true, laidLooks := .later }
def GeomMeetsMoreCardSaid : Prop := Claim7.holds Tryd.pinned (.plain (OpenSpec.ofChange geomMeetsMoreSpec)) geomMeetsMoreCard

/-- THE TIED CARD OF 'sheetmetallaw01.GeomSweeps'. -/
def geomSweepsCard : Claim7 := { stood := { row := geomSweepsRow, standIns := [], harness := (true, "2b9ed0ead2ab98db20530cf78be269898de03ae0b4a58ed790f600ff783f860f"), looks := false }, kinds := [], alts := [], laidByText := true, laidKinds := [.data], laidTests := true, laidLooks := .later }
def GeomSweepsCardSaid : Prop := Claim7.holds Tryd.pinned (.plain (OpenSpec.ofChange geomSweepsSpec)) geomSweepsCard

/-- THE TIED CARD OF 'sheetmetallaw01.GeomSweepHolds'. -/
def geomSweepHoldsCard : Claim7 := { stood := { row := geomSweepHoldsRow, standIns := [], harness := (true, "2b9ed0ead2ab98db20530cf78be269898de03ae0b4a58ed790f600ff783f860f"), looks := false }, kinds := [], alts := [], laidByText := true, laidKinds := [.data], laidTests := true, laidLooks := .later }
def GeomSweepHoldsCardSaid : Prop := Claim7.holds Tryd.pinned (.plain (OpenSpec.ofChange geomSweepHoldsSpec)) geomSweepHoldsCard

/-- THE TIED CARD OF 'sheetmetallaw01.GeomRects'. -/
def geomRectsCard : Claim7 := { stood := { row := geomRectsRow, standIns := [], harness := (true, "2b9ed0ead2ab98db20530cf78be269898de03ae0b4a58ed790f600ff783f860f"), looks := false }, kinds := [], alts := [], laidByText := true, laidKinds := [.data], laidTests := true, laidLooks := .later }
def GeomRectsCardSaid : Prop := Claim7.holds Tryd.pinned (.plain (OpenSpec.ofChange geomRectsSpec)) geomRectsCard

/-- THE TIED CARD OF 'sheetmetallaw01.GeomAreas'. -/
def geomAreasCard : Claim7 := { stood := { row := geomAreasRow, standIns := [], harness := (true, "2b9ed0ead2ab98db20530cf78be269898de03ae0b4a58ed790f600ff783f860f"), looks := false }, kinds := [], alts := [], laidByText := true, laidKinds := [.data], laidTests := true, laidLooks := .later }
def GeomAreasCardSaid : Prop := Claim7.holds Tryd.pinned (.plain (OpenSpec.ofChange geomAreasSpec)) geomAreasCard

/-- THE SECOND FORM's CARD OF 'sheetmetallaw01.GeomSigns'. -/
def geomSignsUptoCard : Claim7 := { stood := { row := geomSignsUptoRow, standIns := [], harness := (true, "2b9ed0ead2ab98db20530cf78be269898de03ae0b4a58ed790f600ff783f860f"), looks := false }, kinds := [], alts := [], laidByText := true, laidKinds := [.data], laidTests := true, laidLooks := .later }
def GeomSignsUptoCardSaid : Prop := Claim7.holds Tryd.pinned (.plain (OpenSpec.upto geomSignsSpec)) geomSignsUptoCard

/-- THE SECOND FORM's CARD OF 'sheetmetallaw01.GeomMultiplies'. -/
def geomMultipliesUptoCard : Claim7 := { stood := { row := geomMultipliesUptoRow, standIns := [], harness := (true, "2b9ed0ead2ab98db20530cf78be269898de03ae0b4a58ed790f600ff783f860f"), looks := false }, kinds := [], alts := [], laidByText := true, laidKinds := [.data], laidTests := true, laidLooks := .later }
def GeomMultipliesUptoCardSaid : Prop := Claim7.holds Tryd.pinned (.plain (OpenSpec.upto geomMultipliesSpec)) geomMultipliesUptoCard

/-- THE SECOND FORM's CARD OF 'sheetmetallaw01.GeomTurns'. -/
def geomTurnsUptoCard : Claim7 := { stood := { row := geomTurnsUptoRow, standIns := [], harness := (true, "2b9ed0ead2ab98db20530cf78be269898de03ae0b4a58ed790f600ff783f860f"), looks := false }, kinds := [], alts := [], laidByText := true, laidKinds := [.data], laidTests := true, laidLooks := .later }
def GeomTurnsUptoCardSaid : Prop := Claim7.holds Tryd.pinned (.plain (OpenSpec.upto geomTurnsSpec)) geomTurnsUptoCard

/-- THE SECOND FORM's CARD OF 'sheetmetallaw01.GeomOrients'. -/
def geomOrientsUptoCard : Claim7 := { stood := { row := geomOrientsUptoRow, standIns := [], harness := (true, "2b9ed0ead2ab98db20530cf78be269898de03ae0b4a58ed790f600ff783f860f"), looks := false }, kinds := [], alts := [], laidByText := true, laidKinds := [.data], laidTests := true, laidLooks := .later }
def GeomOrientsUptoCardSaid : Prop := Claim7.holds Tryd.pinned (.plain (OpenSpec.upto geomOrientsSpec)) geomOrientsUptoCard

/-- THE SECOND FORM's CARD OF 'sheetmetallaw01.GeomHulls'. -/
def geomHullsUptoCard : Claim7 := { stood := { row := geomHullsUptoRow, standIns := [], harness := (true, "2b9ed0ead2ab98db20530cf78be269898de03ae0b4a58ed790f600ff783f860f"), looks := false }, kinds := [], alts := [], laidByText := true, laidKinds := [.data], laidTests := true, laidLooks := .later }
def GeomHullsUptoCardSaid : Prop := Claim7.holds Tryd.pinned (.plain (OpenSpec.upto geomHullsSpec)) geomHullsUptoCard

/-- THE SECOND FORM's CARD OF 'sheetmetallaw01.GeomHullHolds'. -/
def geomHullHoldsUptoCard : Claim7 := { stood := { row := geomHullHoldsUptoRow, standIns := [], harness := (true, "2b9ed0ead2ab98db20530cf78be269898de03ae0b4a58ed790f600ff783f860f"), looks := false }, kinds := [], alts := [], laidByText := true, laidKinds := [.data], laidTests := true, laidLooks := .later }
def GeomHullHoldsUptoCardSaid : Prop := Claim7.holds Tryd.pinned (.plain (OpenSpec.upto geomHullHoldsSpec)) geomHullHoldsUptoCard

/-- THE SECOND FORM's CARD OF 'sheetmetallaw01.GeomMeets'. -/
def geomMeetsUptoCard : Claim7 := { stood := { row := geomMeetsUptoRow, standIns := [], harness := (true, "2b9ed0ead2ab98db20530cf78be269898de03ae0b4a58ed790f600ff783f860f"), looks := false }, kinds := [], alts := [], laidByText := true, laidKinds := [.data], laidTests := true, laidLooks := .later }
def GeomMeetsUptoCardSaid : Prop := Claim7.holds Tryd.pinned (.plain (OpenSpec.upto geomMeetsSpec)) geomMeetsUptoCard

/-- THE SECOND FORM's CARD OF 'sheetmetallaw01.GeomMeetsMore'. -/
def geomMeetsMoreUptoCard : Claim7 := { stood := { row := geomMeetsMoreUptoRow, standIns := [], harness := (true, "2b9ed0ead2ab98db20530cf78be269898de03ae0b4a58ed790f600ff783f860f"), looks := false }, kinds := [], alts := [], laidByText := true, laidKinds := [.data], laidTests := true, laidLooks := .later }
def GeomMeetsMoreUptoCardSaid : Prop := Claim7.holds Tryd.pinned (.plain (OpenSpec.upto geomMeetsMoreSpec)) geomMeetsMoreUptoCard

/-- THE SECOND FORM's CARD OF 'sheetmetallaw01.GeomSweeps'. -/
def geomSweepsUptoCard : Claim7 := { stood := { row := geomSweepsUptoRow, standIns := [], harness := (true, "2b9ed0ead2ab98db20530cf78be269898de03ae0b4a58ed790f600ff783f860f"), looks := false }, kinds := [], alts := [], laidByText := true, laidKinds := [.data], laidTests := true, laidLooks := .later }
def GeomSweepsUptoCardSaid : Prop := Claim7.holds Tryd.pinned (.plain (OpenSpec.upto geomSweepsSpec)) geomSweepsUptoCard

/-- THE SECOND FORM's CARD OF 'sheetmetallaw01.GeomSweepHolds'. -/
def geomSweepHoldsUptoCard : Claim7 := { stood := { row := geomSweepHoldsUptoRow, standIns := [], harness := (true, "2b9ed0ead2ab98db20530cf78be269898de03ae0b4a58ed790f600ff783f860f"), looks := false }, kinds := [], alts := [], laidByText := true, laidKinds := [.data], laidTests := true, laidLooks := .later }
def GeomSweepHoldsUptoCardSaid : Prop := Claim7.holds Tryd.pinned (.plain (OpenSpec.upto geomSweepHoldsSpec)) geomSweepHoldsUptoCard

/-- THE SECOND FORM's CARD OF 'sheetmetallaw01.GeomRects'. -/
def geomRectsUptoCard : Claim7 := { stood := { row := geomRectsUptoRow, standIns := [], harness := (true, "2b9ed0ead2ab98db20530cf78be269898de03ae0b4a58ed790f600ff783f860f"), looks := false }, kinds := [], alts := [], laidByText := true, laidKinds := [.data], laidTests := true, laidLooks := .later }
def GeomRectsUptoCardSaid : Prop := Claim7.holds Tryd.pinned (.plain (OpenSpec.upto geomRectsSpec)) geomRectsUptoCard

/-- THE SECOND FORM's CARD OF 'sheetmetallaw01.GeomAreas'. -/
def geomAreasUptoCard : Claim7 := { stood := { row := geomAreasUptoRow, standIns := [], harness := (true, "2b9ed0ead2ab98db20530cf78be269898de03ae0b4a58ed790f600ff783f860f"), looks := false }, kinds := [], alts := [], laidByText := true, laidKinds := [.data], laidTests := true, laidLooks := .later }
def GeomAreasUptoCardSaid : Prop := Claim7.holds Tryd.pinned (.plain (OpenSpec.upto geomAreasSpec)) geomAreasUptoCard
end Rows
end Go.Proofs.YtfapbiiknfeidaaDoor
