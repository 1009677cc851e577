/-
  DERIVED. GIVEN WITH THE SEED: THE CARDS: each row of YthfbdieodfilkaaDoorRows.lean that lists a variable, with what it lists TIED to the program's text (the seventh form; the later family's looks); each row that meets fmt, with fmt's text TOLD by the authors' own Lean function (tested against real Go, not proved from fmt's source: count such statements apart). THE CARD IS WHAT COUNTS. Prove the row's statement (the work); the ties are given (YthfbdieodfilkaaDoorTie.lean); close each card by the builder's one call (the guide's Derived/Test/ToyasCard.lean, 'card_holds'). Laid BY PROGRAM, IN A SANDBOX (cutbox-door.mjs). By AI agents, Wed Nov 11 2026. No macro, syntax, notation, axiom, sorry.
-/
import Derived.Test.YthfbdieodfilkaaDoorRows
import GoSem.ClaimSeven
namespace Go.Proofs.YthfbdieodfilkaaDoor
namespace Rows

/-- THE TIED CARD OF 'sheetmetallaw01.GeomHulls'. -/
def geomHullsCard : Claim7 := { stood := { row := geomHullsRow, standIns := [], harness := (true, "a79bb50ddee878710a8d1896d77581e7e74d05469a90efa3ff8849aeb604b081"), looks := false }, kinds := [], alts := [], laidByText := true, laidKinds := [.data], laidTests := true, laidLooks := .later }
def GeomHullsCardSaid : Prop := Claim7.holds Tryd.pinned (.plain (OpenSpec.ofChange geomHullsSpec)) geomHullsCard

/-- THE TIED CARD OF 'sheetmetallaw01.GeomHullHolds'. -/
def geomHullHoldsCard : Claim7 := { stood := { row := geomHullHoldsRow, standIns := [], harness := (true, "a79bb50ddee878710a8d1896d77581e7e74d05469a90efa3ff8849aeb604b081"), looks := false }, kinds := [], alts := [], laidByText := true, laidKinds := [.data], laidTests := true, laidLooks := .later }
def GeomHullHoldsCardSaid : Prop := Claim7.holds Tryd.pinned (.plain (OpenSpec.ofChange geomHullHoldsSpec)) geomHullHoldsCard

/-- THE TIED CARD OF 'sheetmetallaw01.GeomMeets'. -/
def geomMeetsCard : Claim7 := { stood := { row := geomMeetsRow, standIns := [], harness := (true, "a79bb50ddee878710a8d1896d77581e7e74d05469a90efa3ff8849aeb604b081"), looks := false }, kinds := [], alts := [], laidByText := true, laidKinds := [.data], laidTests := true, laidLooks := .later }
def GeomMeetsCardSaid : Prop := Claim7.holds Tryd.pinned (.plain (OpenSpec.ofChange geomMeetsSpec)) geomMeetsCard

/-- THE TIED CARD OF 'sheetmetallaw01.GeomMeetsMore'. -/
def geomMeetsMoreCard : Claim7 := { stood := { row := geomMeetsMoreRow, standIns := [], harness := (true, "a79bb50ddee878710a8d1896d77581e7e74d05469a90efa3ff8849aeb604b081"), looks := false }, kinds := [], alts := [], laidByText := true, laidKinds := [.data], laidTests := true, laidLooks := .later }
def GeomMeetsMoreCardSaid : Prop := Claim7.holds Tryd.pinned (.plain (OpenSpec.ofChange geomMeetsMoreSpec)) geomMeetsMoreCard

/-- THE TIED CARD OF 'sheetmetallaw01.GeomSweeps'. -/
def geomSweepsCard : Claim7 := { stood := { row := geomSweepsRow, standIns := [], harness := (true, "a79bb50ddee878710a8d1896d77581e7e74d05469a90efa3ff8849aeb604b081"), looks := false }, kinds := [], alts := [], laidByText := true, laidKinds := [.data], laidTests := true, laidLooks := .later }
def GeomSweepsCardSaid : Prop := Claim7.holds Tryd.pinned (.plain (OpenSpec.ofChange geomSweepsSpec)) geomSweepsCard

/-- THE TIED CARD OF 'sheetmetallaw01.GeomSweepHolds'. -/
def geomSweepHoldsCard : Claim7 := { stood := { row := geomSweepHoldsRow, standIns := [], harness := (true, "a79bb50ddee878710a8d1896d77581e7e74d05469a90efa3ff8849aeb604b081"), looks := false }, kinds := [], alts := [], laidByText := true, laidKinds := [.data], laidTests := true, laidLooks := .later }
def GeomSweepHoldsCardSaid : Prop := Claim7.holds Tryd.pinned (.plain (OpenSpec.ofChange geomSweepHoldsSpec)) geomSweepHoldsCard

/-- THE TIED CARD OF 'sheetmetallaw01.GeomAreas'. -/
def geomAreasCard : Claim7 := { stood := { row := geomAreasRow, standIns := [], harness := (true, "a79bb50ddee878710a8d1896d77581e7e74d05469a90efa3ff8849aeb604b081"), looks := false }, kinds := [], alts := [], laidByText := true, laidKinds := [.data], laidTests := true, laidLooks := .later }
def GeomAreasCardSaid : Prop := Claim7.holds Tryd.pinned (.plain (OpenSpec.ofChange geomAreasSpec)) geomAreasCard

/-- THE TIED CARD OF 'sheetmetallaw01.GeomOutlines'. -/
def geomOutlinesCard : Claim7 := { stood := { row := geomOutlinesRow, standIns := [], harness := (true, "a79bb50ddee878710a8d1896d77581e7e74d05469a90efa3ff8849aeb604b081"), looks := false }, kinds := [], alts := [], laidByText := true, laidKinds := [.data], laidTests := true, laidLooks := .later }
def GeomOutlinesCardSaid : Prop := Claim7.holds Tryd.pinned (.plain (OpenSpec.ofChange geomOutlinesSpec)) geomOutlinesCard

/-- THE SECOND FORM's CARD OF 'sheetmetallaw01.GeomHulls'. -/
def geomHullsUptoCard : Claim7 := { stood := { row := geomHullsUptoRow, standIns := [], harness := (true, "a79bb50ddee878710a8d1896d77581e7e74d05469a90efa3ff8849aeb604b081"), looks := false }, kinds := [], alts := [], laidByText := true, laidKinds := [.data], laidTests := true, laidLooks := .later }
def GeomHullsUptoCardSaid : Prop := Claim7.holds Tryd.pinned (.plain (OpenSpec.upto geomHullsSpec)) geomHullsUptoCard

/-- THE SECOND FORM's CARD OF 'sheetmetallaw01.GeomHullHolds'. -/
def geomHullHoldsUptoCard : Claim7 := { stood := { row := geomHullHoldsUptoRow, standIns := [], harness := (true, "a79bb50ddee878710a8d1896d77581e7e74d05469a90efa3ff8849aeb604b081"), looks := false }, kinds := [], alts := [], laidByText := true, laidKinds := [.data], laidTests := true, laidLooks := .later }
def GeomHullHoldsUptoCardSaid : Prop := Claim7.holds Tryd.pinned (.plain (OpenSpec.upto geomHullHoldsSpec)) geomHullHoldsUptoCard

/-- THE SECOND FORM's CARD OF 'sheetmetallaw01.GeomMeets'. -/
def geomMeetsUptoCard : Claim7 := { stood := { row := geomMeetsUptoRow, standIns := [], harness := (true, "a79bb50ddee878710a8d1896d77581e7e74d05469a90efa3ff8849aeb604b081"), looks := false }, kinds := [], alts := [], laidByText := true, laidKinds := [.data], laidTests := true, laidLooks := .later }
def GeomMeetsUptoCardSaid : Prop := Claim7.holds Tryd.pinned (.plain (OpenSpec.upto geomMeetsSpec)) geomMeetsUptoCard

/-- THE SECOND FORM's CARD OF 'sheetmetallaw01.GeomMeetsMore'. -/
def geomMeetsMoreUptoCard : Claim7 := { stood := { row := geomMeetsMoreUptoRow, standIns := [], harness := (true, "a79bb50ddee878710a8d1896d77581e7e74d05469a90efa3ff8849aeb604b081"), looks := false }, kinds := [], alts := [], laidByText := true, laidKinds := [.data], laidTests := true, laidLooks := .later }
def GeomMeetsMoreUptoCardSaid : Prop := Claim7.holds Tryd.pinned (.plain (OpenSpec.upto geomMeetsMoreSpec)) geomMeetsMoreUptoCard

/-- THE SECOND FORM's CARD OF 'sheetmetallaw01.GeomSweeps'. -/
def geomSweepsUptoCard : Claim7 := { stood := { row := geomSweepsUptoRow, standIns := [], harness := (true, "a79bb50ddee878710a8d1896d77581e7e74d05469a90efa3ff8849aeb604b081"), looks := false }, kinds := [], alts := [], laidByText := true, laidKinds := [.data], laidTests := true, laidLooks := .later }
def GeomSweepsUptoCardSaid : Prop := Claim7.holds Tryd.pinned (.plain (OpenSpec.upto geomSweepsSpec)) geomSweepsUptoCard

/-- THE SECOND FORM's CARD OF 'sheetmetallaw01.GeomSweepHolds'. -/
def geomSweepHoldsUptoCard : Claim7 := { stood := { row := geomSweepHoldsUptoRow, standIns := [], harness := (true, "a79bb50ddee878710a8d1896d77581e7e74d05469a90efa3ff8849aeb604b081"), looks := false }, kinds := [], alts := [], laidByText := true, laidKinds := [.data], laidTests := true, laidLooks := .later }
def GeomSweepHoldsUptoCardSaid : Prop := Claim7.holds Tryd.pinned (.plain (OpenSpec.upto geomSweepHoldsSpec)) geomSweepHoldsUptoCard

/-- THE SECOND FORM's CARD OF 'sheetmetallaw01.GeomAreas'. -/
def geomAreasUptoCard : Claim7 := { stood := { row := geomAreasUptoRow, standIns := [], harness := (true, "a79bb50ddee878710a8d1896d77581e7e74d05469a90efa3ff8849aeb604b081"), looks := false }, kinds := [], alts := [], laidByText := true, laidKinds := [.data], laidTests := true, laidLooks := .later }
def GeomAreasUptoCardSaid : Prop := Claim7.holds Tryd.pinned (.plain (OpenSpec.upto geomAreasSpec)) geomAreasUptoCard

/-- THE SECOND FORM's CARD OF 'sheetmetallaw01.GeomOutlines'. -/
def geomOutlinesUptoCard : Claim7 := { stood := { row := geomOutlinesUptoRow, standIns := [], harness := (true, "a79bb50ddee878710a8d1896d77581e7e74d05469a90efa3ff8849aeb604b081"), looks := false }, kinds := [], alts := [], laidByText := true, laidKinds := [.data], laidTests := true, laidLooks := .later }
def GeomOutlinesUptoCardSaid : Prop := Claim7.holds Tryd.pinned (.plain (OpenSpec.upto geomOutlinesSpec)) geomOutlinesUptoCard
end Rows
end Go.Proofs.YthfbdieodfilkaaDoor
