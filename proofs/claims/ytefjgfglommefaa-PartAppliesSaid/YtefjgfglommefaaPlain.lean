/-
  What a plain seat (no listed variable) gives the walks: types, arguments opened.
-/
import Derived.Test.YtefjgfglommefaaFrame
import Derived.Test.YtefjgfglommefaaChecked
import Derived.Test.YtefjgfglommefaaRows
import Derived.WalkSpells
import Derived.WalkLawsBesides
import Derived.ChangeMaps
namespace Go.Proofs.Ytefjgfglommefaa
set_option linter.unusedVariables false
set_option linter.unusedSimpArgs false
open Go Go.ChangeShapes Go.WideShapes Go.ChangeAt Go.RowKit Go.Deep

theorem own : ownKnob Try.prog.godebug = none := by kernel_rfl
theorem laidOut : laidOutB Try.prog = true := by kernel_rfl
theorem cellsInt : Try.prog.cellsOf 3 = 1 := by kernel_rfl
theorem cellsVec : Try.prog.cellsOf 41 = 3 := by kernel_rfl
theorem cellsFace : Try.prog.cellsOf 44 = 11 := by kernel_rfl
theorem intsInt : IntsAt Try.prog 3 1 := intsAt_int Try.underlying3
theorem intsVec : IntsAt Try.prog 41 3 :=
  intsAt_struct (m := 3) (k := 1) Try.underlying41 intsInt cellsInt rfl cellsVec (fun i hi => by
    match i, hi with
    | 0, _ => exact ⟨_, rfl, rfl, rfl⟩
    | 1, _ => exact ⟨_, rfl, rfl, rfl⟩
    | 2, _ => exact ⟨_, rfl, rfl, rfl⟩)
set_option maxRecDepth 100000 in
theorem intsFace : IntsAt Try.prog 44 11 := by
  intro H enc w base spare held fuel cs x hx
  obtain ⟨xs, n, _, _, hl, hxl, hg⟩ := DataW.trod_struct Try.underlying44 hx
  rw [cellsFace] at hl
  have hxl : xs.length = 5 := hxl
  have el : ∀ i : Nat, i < 5 → xs[i]? = some (xs[i]?.getD (.nil, [])) := fun i hi => by rw [List.getElem?_eq_getElem (by omega)]; rfl
  have f0 := field_use hg 0 41 0 rfl
  have f1 := field_use hg 1 41 3 rfl
  have f2 := field_use hg 2 41 6 rfl
  have f3 := field_use hg 3 3 9 rfl
  have f4 := field_use hg 4 3 10 rfl
  rw [cellsVec, el 0 (by omega)] at f0
  rw [cellsVec, el 1 (by omega)] at f1
  rw [cellsVec, el 2 (by omega)] at f2
  rw [cellsInt, el 3 (by omega)] at f3
  rw [cellsInt, el 4 (by omega)] at f4
  obtain ⟨z0, l0, e0, b0⟩ := intsVec enc w base spare held n _ _ f0
  obtain ⟨z1, l1, e1, b1⟩ := intsVec enc w base spare held n _ _ f1
  obtain ⟨z2, l2, e2, b2⟩ := intsVec enc w base spare held n _ _ f2
  obtain ⟨z3, l3, e3, b3⟩ := intsInt enc w base spare held n _ _ f3
  obtain ⟨z4, l4, e4, b4⟩ := intsInt enc w base spare held n _ _ f4
  refine ⟨z0 ++ (z1 ++ (z2 ++ (z3 ++ z4))), by simp [l0, l1, l2, l3, l4], ?_, ?_⟩
  · simp only [List.map_append, ← e0, ← e1, ← e2, ← e3, ← e4]
    match cs, hl with
    | [_, _, _, _, _, _, _, _, _, _, _], _ => rfl
  · intro z hz
    simp only [List.mem_append] at hz
    rcases hz with h | h | h | h | h
    · exact b0 z h
    · exact b1 z h
    · exact b2 z h
    · exact b3 z h
    · exact b4 z h
abbrev vc (x y z : Int) : Value := .agg #[iv x, iv y, iv z]
/-- A face's eleven numbers. -/
structure Fc where
  ox : Int
  oy : Int
  oz : Int
  ux : Int
  uy : Int
  uz : Int
  vx : Int
  vy : Int
  vz : Int
  w : Int
  h : Int
theorem Fc.ext {a b : Fc} (h0 : a.ox = b.ox) (h1 : a.oy = b.oy) (h2 : a.oz = b.oz) (h3 : a.ux = b.ux) (h4 : a.uy = b.uy) (h5 : a.uz = b.uz) (h6 : a.vx = b.vx) (h7 : a.vy = b.vy) (h8 : a.vz = b.vz) (h9 : a.w = b.w) (h10 : a.h = b.h) : a = b := by
  cases a
  cases b
  simp_all
abbrev fv (f : Fc) : Value := .agg #[iv f.ox, iv f.oy, iv f.oz, iv f.ux, iv f.uy, iv f.uz, iv f.vx, iv f.vy, iv f.vz, iv f.w, iv f.h]
set_option maxRecDepth 100000 in
theorem open_face {base : Nat} {W : World} {H : Type} {enc : TypeId × Value → H} {v : Value} {d : DataW H} {ps : List MemPlace} (hv : Value.okWide Try.prog W .any base 44 v) (hd : DataW.Trod enc Try.prog W 0 (fun _ => true) true 44 v d ps) :
    ∃ f : Fc, v = fv f ∧ I64 f.w ∧ I64 f.h := by
  obtain ⟨zs, hl, hv', hb⟩ := open_ints_struct Try.underlying44 intsFace hv hd
  match zs, hl with
  | [a, b, c, d, e, f, g, h, i, j, k], _ => exact ⟨⟨a, b, c, d, e, f, g, h, i, j, k⟩, hv', hb j (by simp), hb k (by simp)⟩
end Go.Proofs.Ytefjgfglommefaa
