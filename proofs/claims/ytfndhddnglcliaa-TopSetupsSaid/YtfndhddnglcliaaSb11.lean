/-
  Serves and Blocked, on both sides; the law of serving.
-/
import Derived.Test.YtfndhddnglcliaaSb10
set_option linter.unusedVariables false
set_option linter.unusedSimpArgs false
namespace Go.Proofs.Ytfndhddnglcliaa
set_option linter.unusedVariables false
set_option linter.unusedSimpArgs false
open Go Go.ChangeShapes Go.WideShapes Go.ChangeAt Go.RowKit Go.Deep

abbrev berr (a : Bool) (b : Int) : Value := .tuple #[.bool a, iv b]
theorem ret_be {a b : Bool} {c d : Int} (h : a = b) (k : c = d) : Ending.returned (berr a c) = .returned (berr b d) := by rw [h, k]
/-- the error of Serves, and what it says -/
def srE (ns : List Nd) (x : Wd) (l : List Int) : Int := if vaE ns ≠ 0 then vaE ns else if wnB x ns.length && stB l then 0 else 1
def srV (ns : List Nd) (x : Wd) (l : List Int) : Bool := if srE ns x l = 0 then svB (mks ns) x.fm.toNat x.tl.toNat (mk l) else false
def bkE (ns : List Nd) (s : Int) (x : Wd) : Int := if chE ns s ≠ 0 then chE ns s else if wnB x ns.length then 0 else 1
def bkV (ns : List Nd) (s : Int) (x : Wd) : Bool := if bkE ns s x = 0 then bkB (mks ns) s.toNat x.fm.toNat x.tl.toNat else false
theorem bkE_bad {ns : List Nd} {s : Int} {x : Wd} (h : ¬ chE ns s = 0) : bkE ns s x = chE ns s := by unfold bkE; rw [if_pos h]
theorem bkE_good {ns : List Nd} {s : Int} {x : Wd} (h : chE ns s = 0) : bkE ns s x = if wnB x ns.length then 0 else 1 := by unfold bkE; rw [if_neg (by simpa using h)]
theorem bkV_no {ns : List Nd} {s : Int} {x : Wd} (h : ¬ bkE ns s x = 0) : bkV ns s x = false := by unfold bkV; rw [if_neg h]
theorem bkV_yes {ns : List Nd} {s : Int} {x : Wd} (h : bkE ns s x = 0) : bkV ns s x = bkB (mks ns) s.toNat x.fm.toNat x.tl.toNat := by unfold bkV; rw [if_pos h]
end Go.Proofs.Ytfndhddnglcliaa
