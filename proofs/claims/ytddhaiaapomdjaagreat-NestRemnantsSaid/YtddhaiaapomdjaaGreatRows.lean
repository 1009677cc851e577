/-
  No cell of these rows narrows 'for every input' (looked for: loops, veiled, ifaces, maps, wideKeys, modest, calm, conditions, laid).
  DERIVED. THE GIVEN ROWS OF THIS SEAT. 4 by the template 'for every input the law returns true; each argument reads behind the call as it read before'; 0 by the template 'total and deterministic' (their statements: YtddhaiaapomdjaaGreatTotals.lean).
  GIVEN WITH THE SEED: the statements are not yours to turn. If you find one false, say at which input.
  Laid BY PROGRAM, IN A SANDBOX (cutbox-rows.mjs): the forced cells as the released guide's own fill.sh prints them over the translation 003fdc08b9148aea… (all of the seat's roots in one cut). By AI agents, Wed Nov 11 2026. No macro, syntax, notation, axiom, sorry.
-/
import Derived.Test.YtddhaiaapomdjaaGreatChecked
import GoSem.Claim
import GoSem.ClaimJoined
import GoSem.ClaimMapViews
import Derived.JoinedTies
import Derived.KernelRfl
namespace Go.Proofs.YtddhaiaapomdjaaGreat
/- THE CELL 'sum', in the pinned program and in every row, IS THE sha256 OF THE DUMP (.gsa) THAT YtddhaiaapomdjaaGreatProg.lean LOADS. Nothing in Lean hashes anything: it is a label: what it is worth is what the hold of that sum in a sandbox is worth. -/
noncomputable def Tryz.pinned : Pinned := { name := "ytddhaiaapomdjaagreat", sum := "003fdc08b9148aea2768dfcf5a85c26ca0ba8aa1d3404ec0fdbf41eb57df2735", checked := Tryz.checked }
namespace Rows
def none {H : Type} : Left H := { results := [], args := [] }

/-- 'sheetmetallaw06.NestFits': WHATEVER THE INPUT: true; the input reads as it did. -/
def nestFitsSpec : ChangeSpec := { name := "nestFits", fn := fun _ => fun
  | [d1, d2, d3] => { results := [.lit (.bool true)], args := [d1, d2, d3] }
  | _ => none }
def nestFitsRow : OpenClaim := { program := "ytddhaiaapomdjaagreat", sum := "003fdc08b9148aea2768dfcf5a85c26ca0ba8aa1d3404ec0fdbf41eb57df2735", func := "sheetmetal/sheetmetallaw06.NestFits", spec := "nestFits", unfollowed := true, recurses := true, apart := false }
def NestFitsSaid : Prop := nestFitsRow.holds Tryz.pinned (OpenSpec.ofChange nestFitsSpec)

/-- ITS FALSE NEIGHBOUR: 'it returns false'. Refute it at one input. -/
def nestFitsWrong : ChangeSpec := { name := "nestFits", fn := fun _ => fun
  | [d1, d2, d3] => { results := [.lit (.bool false)], args := [d1, d2, d3] }
  | _ => none }
def NestFitsWrongFalsely : Prop := nestFitsRow.holds Tryz.pinned (OpenSpec.ofChange nestFitsWrong)

/-- 'sheetmetallaw06.NestNests': WHATEVER THE INPUT: true; the input reads as it did. -/
def nestNestsSpec : ChangeSpec := { name := "nestNests", fn := fun _ => fun
  | [d] => { results := [.lit (.bool true)], args := [d] }
  | _ => none }
def nestNestsRow : OpenClaim := { program := "ytddhaiaapomdjaagreat", sum := "003fdc08b9148aea2768dfcf5a85c26ca0ba8aa1d3404ec0fdbf41eb57df2735", func := "sheetmetal/sheetmetallaw06.NestNests", spec := "nestNests", unfollowed := true, recurses := true, apart := false }
def NestNestsSaid : Prop := nestNestsRow.holds Tryz.pinned (OpenSpec.ofChange nestNestsSpec)

/-- ITS FALSE NEIGHBOUR: 'it returns false'. Refute it at one input. -/
def nestNestsWrong : ChangeSpec := { name := "nestNests", fn := fun _ => fun
  | [d] => { results := [.lit (.bool false)], args := [d] }
  | _ => none }
def NestNestsWrongFalsely : Prop := nestNestsRow.holds Tryz.pinned (OpenSpec.ofChange nestNestsWrong)

/-- 'sheetmetallaw06.NestRemnants': WHATEVER THE INPUT: true; the input reads as it did. -/
def nestRemnantsSpec : ChangeSpec := { name := "nestRemnants", fn := fun _ => fun
  | [d1, d2] => { results := [.lit (.bool true)], args := [d1, d2] }
  | _ => none }
def nestRemnantsRow : OpenClaim := { program := "ytddhaiaapomdjaagreat", sum := "003fdc08b9148aea2768dfcf5a85c26ca0ba8aa1d3404ec0fdbf41eb57df2735", func := "sheetmetal/sheetmetallaw06.NestRemnants", spec := "nestRemnants", unfollowed := true, recurses := true, apart := false }
def NestRemnantsSaid : Prop := nestRemnantsRow.holds Tryz.pinned (OpenSpec.ofChange nestRemnantsSpec)

/-- ITS FALSE NEIGHBOUR: 'it returns false'. Refute it at one input. -/
def nestRemnantsWrong : ChangeSpec := { name := "nestRemnants", fn := fun _ => fun
  | [d1, d2] => { results := [.lit (.bool false)], args := [d1, d2] }
  | _ => none }
def NestRemnantsWrongFalsely : Prop := nestRemnantsRow.holds Tryz.pinned (OpenSpec.ofChange nestRemnantsWrong)

/-- 'sheetmetallaw06.NestExceeds': WHATEVER THE INPUT: true; the input reads as it did. -/
def nestExceedsSpec : ChangeSpec := { name := "nestExceeds", fn := fun _ => fun
  | [d1, d2] => { results := [.lit (.bool true)], args := [d1, d2] }
  | _ => none }
def nestExceedsRow : OpenClaim := { program := "ytddhaiaapomdjaagreat", sum := "003fdc08b9148aea2768dfcf5a85c26ca0ba8aa1d3404ec0fdbf41eb57df2735", func := "sheetmetal/sheetmetallaw06.NestExceeds", spec := "nestExceeds", unfollowed := true, recurses := true, apart := false }
def NestExceedsSaid : Prop := nestExceedsRow.holds Tryz.pinned (OpenSpec.ofChange nestExceedsSpec)

/-- ITS FALSE NEIGHBOUR: 'it returns false'. Refute it at one input. -/
def nestExceedsWrong : ChangeSpec := { name := "nestExceeds", fn := fun _ => fun
  | [d1, d2] => { results := [.lit (.bool false)], args := [d1, d2] }
  | _ => none }
def NestExceedsWrongFalsely : Prop := nestExceedsRow.holds Tryz.pinned (OpenSpec.ofChange nestExceedsWrong)

/- THE SECOND FORM. 'bulk': how many values and letters a reading holds, each counted each time it is reached (what is shared counts as often as it is met; a slice's spare places count too). A statement '..UptoSaid' is the law's where the arguments, and the package variables that the reading takes, are together of bulk at most 1048576: NARROWER than '..Said'. Prove '..Said' where nothing that the law and all that it calls make is longer than what came in: it says more and counts as full. Else prove '..UptoSaid'. A law counts once. -/
mutual
def uptoBulk {H : Type} : DataW H → Nat
  | .lit (.string bytes) => bytes.length + 1
  | .lit _ => 1
  | .nil => 1
  | .ptr d => uptoBulk d + 1
  | .slice elems spare => uptoBulkAll elems + uptoBulkAll spare + 1
  | .agg parts => uptoBulkAll parts + 1
  | .iface _ d => uptoBulk d + 1
  | .map entries => uptoBulkEntries entries + 1
  | .held _ => 1
def uptoBulkAll {H : Type} : List (DataW H) → Nat
  | [] => 0
  | d :: r => uptoBulk d + uptoBulkAll r
def uptoBulkEntries {H : Type} : List (Lit × DataW H) → Nat
  | [] => 0
  | x :: r => uptoBulkEntry x + uptoBulkEntries r
def uptoBulkEntry {H : Type} : Lit × DataW H → Nat
  | (.string bytes, d) => bytes.length + uptoBulk d + 1
  | (_, d) => uptoBulk d + 1
 end
def uptoSmall : (H : Type) → List (DataW H) → Bool := fun _ ds => decide (uptoBulkAll ds ≤ 1048576)
def OpenSpec.upto (s : _root_.Go.ChangeSpec) : _root_.Go.OpenSpec := { _root_.Go.OpenSpec.ofChange s with cond := some uptoSmall }

/-- 'sheetmetallaw06.NestFits', WHERE WHAT IT READS IS OF BULK AT MOST 1048576: true; the input reads as it did. -/
def nestFitsUptoRow : OpenClaim := { program := "ytddhaiaapomdjaagreat", sum := "003fdc08b9148aea2768dfcf5a85c26ca0ba8aa1d3404ec0fdbf41eb57df2735", func := "sheetmetal/sheetmetallaw06.NestFits", spec := "nestFits", unfollowed := true, recurses := true, apart := false, narrowed := true }
def NestFitsUptoSaid : Prop := nestFitsUptoRow.holds Tryz.pinned (OpenSpec.upto nestFitsSpec)

/-- 'sheetmetallaw06.NestNests', WHERE WHAT IT READS IS OF BULK AT MOST 1048576: true; the input reads as it did. -/
def nestNestsUptoRow : OpenClaim := { program := "ytddhaiaapomdjaagreat", sum := "003fdc08b9148aea2768dfcf5a85c26ca0ba8aa1d3404ec0fdbf41eb57df2735", func := "sheetmetal/sheetmetallaw06.NestNests", spec := "nestNests", unfollowed := true, recurses := true, apart := false, narrowed := true }
def NestNestsUptoSaid : Prop := nestNestsUptoRow.holds Tryz.pinned (OpenSpec.upto nestNestsSpec)

/-- 'sheetmetallaw06.NestRemnants', WHERE WHAT IT READS IS OF BULK AT MOST 1048576: true; the input reads as it did. -/
def nestRemnantsUptoRow : OpenClaim := { program := "ytddhaiaapomdjaagreat", sum := "003fdc08b9148aea2768dfcf5a85c26ca0ba8aa1d3404ec0fdbf41eb57df2735", func := "sheetmetal/sheetmetallaw06.NestRemnants", spec := "nestRemnants", unfollowed := true, recurses := true, apart := false, narrowed := true }
def NestRemnantsUptoSaid : Prop := nestRemnantsUptoRow.holds Tryz.pinned (OpenSpec.upto nestRemnantsSpec)

/-- 'sheetmetallaw06.NestExceeds', WHERE WHAT IT READS IS OF BULK AT MOST 1048576: true; the input reads as it did. -/
def nestExceedsUptoRow : OpenClaim := { program := "ytddhaiaapomdjaagreat", sum := "003fdc08b9148aea2768dfcf5a85c26ca0ba8aa1d3404ec0fdbf41eb57df2735", func := "sheetmetal/sheetmetallaw06.NestExceeds", spec := "nestExceeds", unfollowed := true, recurses := true, apart := false, narrowed := true }
def NestExceedsUptoSaid : Prop := nestExceedsUptoRow.holds Tryz.pinned (OpenSpec.upto nestExceedsSpec)

end Rows
end Go.Proofs.YtddhaiaapomdjaaGreat
