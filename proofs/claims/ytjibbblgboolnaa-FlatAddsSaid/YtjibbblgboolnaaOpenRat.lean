/-
  An argument that is a rational, opened.
-/
import Derived.Test.YtjibbblgboolnaaRat1
set_option linter.unusedVariables false
set_option linter.unusedSimpArgs false
namespace Go.Proofs.Ytjibbblgboolnaa
set_option linter.unusedVariables false
set_option linter.unusedSimpArgs false
open Go Go.ChangeShapes Go.WideShapes Go.ChangeAt Go.RowKit Go.Deep

theorem cellsRat : Try.prog.cellsOf 38 = 2 := by kernel_rfl
theorem intsRat : IntsAt Try.prog 38 2 :=
  intsAt_struct (m := 2) (k := 1) Try.underlying38 intsInt cellsInt rfl cellsRat (fun i hi => by
    match i, hi with
    | 0, _ => exact ⟨_, rfl, rfl, rfl⟩
    | 1, _ => exact ⟨_, rfl, rfl, rfl⟩)
set_option maxRecDepth 100000 in
theorem open_rat {base : Nat} {W : World} {H : Type} {enc : TypeId × Value → H} {v : Value} {d : DataW H} {ps : List MemPlace} (hv : Value.okWide Try.prog W .any base 38 v) (hd : DataW.Trod enc Try.prog W 0 (fun _ => true) true 38 v d ps) :
    ∃ a b : Int, v = ra a b := by
  obtain ⟨zs, hl, hv', hb⟩ := open_ints_struct Try.underlying38 intsRat hv hd
  match zs, hl with
  | [a, b], _ => exact ⟨a, b, hv'⟩
end Go.Proofs.Ytjibbblgboolnaa
