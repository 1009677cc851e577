/-
  DERIVED. GIVEN WITH THE SEED: THE CARDS: each row of YtegehdidfmcflaaDoorRows.lean that lists a variable, with what it lists TIED to the program's text (the seventh form; the later family's looks); each row that meets fmt, with fmt's text TOLD by the authors' own Lean function (tested against real Go, not proved from fmt's source: count such statements apart). THE CARD IS WHAT COUNTS. Prove the row's statement (the work); the ties are given (YtegehdidfmcflaaDoorTie.lean); close each card by the builder's one call (the guide's Derived/Test/ToyasCard.lean, 'card_holds'). Laid BY PROGRAM, IN A SANDBOX (cutbox-door.mjs). By AI agents, Wed Nov 11 2026. No macro, syntax, notation, axiom, sorry.
-/
import Derived.Test.YtegehdidfmcflaaDoorRows
import GoSem.ClaimSeven
namespace Go.Proofs.YtegehdidfmcflaaDoor
namespace Rows

/-- THE TIED CARD OF 'sheetmetallaw01.GeomHulls'. -/
def geomHullsCard : Claim7 := { stood := { row := geomHullsRow, standIns := [], harness := (true, "8b33c89c9520843d08df4603511cb7e897d3e5837be42616c7c672553386a208"), looks := false }, kinds := [], alts := [], laidByText := true, laidKinds := [.data], laidTests := true, laidLooks := .later }
def GeomHullsCardSaid : Prop := Claim7.holds Tryd.pinned (.plain (OpenSpec.ofChange geomHullsSpec)) geomHullsCard

/-- THE TIED CARD OF 'sheetmetallaw01.GeomMeets'. -/
def geomMeetsCard : Claim7 := { stood := { row := geomMeetsRow, standIns := [], harness := (true, "8b33c89c9520843d08df4603511cb7e897d3e5837be42616c7c672553386a208"), looks := false }, kinds := [], alts := [], laidByText := true, laidKinds := [.data], laidTests := true, laidLooks := .later }
def GeomMeetsCardSaid : Prop := Claim7.holds Tryd.pinned (.plain (OpenSpec.ofChange geomMeetsSpec)) geomMeetsCard

/-- THE SECOND FORM's CARD OF 'sheetmetallaw01.GeomHulls'. -/
def geomHullsUptoCard : Claim7 := { stood := { row := geomHullsUptoRow, standIns := [], harness := (true, "8b33c89c9520843d08df4603511cb7e897d3e5837be42616c7c672553386a208"), looks := false }, kinds := [], alts := [], laidByText := true, laidKinds := [.data], laidTests := true, laidLooks := .later }
def GeomHullsUptoCardSaid : Prop := Claim7.holds Tryd.pinned (.plain (OpenSpec.upto geomHullsSpec)) geomHullsUptoCard

/-- THE SECOND FORM's CARD OF 'sheetmetallaw01.GeomMeets'. -/
def geomMeetsUptoCard : Claim7 := { stood := { row := geomMeetsUptoRow, standIns := [], harness := (true, "8b33c89c9520843d08df4603511cb7e897d3e5837be42616c7c672553386a208"), looks := false }, kinds := [], alts := [], laidByText := true, laidKinds := [.data], laidTests := true, laidLooks := .later }
def GeomMeetsUptoCardSaid : Prop := Claim7.holds Tryd.pinned (.plain (OpenSpec.upto geomMeetsSpec)) geomMeetsUptoCard
end Rows
end Go.Proofs.YtegehdidfmcflaaDoor
