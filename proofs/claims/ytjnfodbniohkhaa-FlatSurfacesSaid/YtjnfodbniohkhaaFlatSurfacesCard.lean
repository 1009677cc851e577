/-
  FlatSurfaces, proved: for every flat pattern, Surface returns what the document's reference returns. No condition.
-/
import Derived.Test.YtjnfodbniohkhaaSf11
set_option linter.unusedVariables false
set_option linter.unusedSimpArgs false
namespace Go.Proofs.Ytjnfodbniohkhaa
set_option linter.unusedVariables false
set_option linter.unusedSimpArgs false
open Go Go.ChangeShapes Go.WideShapes Go.ChangeAt Go.RowKit Go.Deep


set_option maxRecDepth 100000 in
theorem flatSurfaces_spec : LawSpec Rows.flatSurfacesSpec 1 := ⟨rfl, fun H ds h => by
  match ds, h with
  | [_], _ => rfl⟩
set_option maxRecDepth 100000 in
theorem flatSurfaces_lifted (os : Os) (started : os.Started) (H : Type) (enc : TypeId × Value → H) :
    ReturnsInHanded {} Try.checked os 4 .any (Rows.flatSurfacesSpec.pre6 enc Try.prog Try.f4 Rows.flatSurfacesRow.domain false) (Rows.flatSurfacesSpec.post enc Try.prog Try.f4 false true false false) := by
  refine returnsInHanded_of_change_sized (C := Try.checked) own started (by kernel_rfl) Try.func4
    (ChangeSpec.witness6 (enc := enc) (C := Try.checked) false ⟨#[], #[.agg #[.slice none 0 0, .slice none 0 0, .slice none 0 0, .slice none 0 0]], []⟩ 8 (by kernel_rfl) (by kernel_rfl) (by kernel_rfl) (by kernel_rfl)) ?_
  intro W base args ds gs before hval0 hW _ hreach0 _
  have hreach : (DataW.weightsEach Try.prog (Try.f4.params.toList ++ Rows.flatSurfacesSpec.plain.varTypes Try.prog) (ds ++ gs)).all (· ≤ reachBytes) = true := hreach0
  clear hreach0
  refine law_step (n := 1) flatSurfaces_spec (by kernel_rfl) laidOut Try.underlying4 (by kernel_rfl) (by kernel_rfl) hW ?_
  have hval : ∀ (j : Nat) t v, Try.f4.params[j]? = some t → args[j]? = some v → Value.okWide Try.prog W .any base t v := hval0
  have hlt0 : ∀ x ∈ before, x.block < W.heap.size := fun x hx => hW.lt x hx
  obtain ⟨p, q, hA0, hV, rfl, hfz, hnd⟩ := hW
  have hA : DataW.TrodAll enc Try.prog W 0 (fun _ => true) true Try.f4.params.toList args.toList ds p := hA0
  rw [Try.params4] at hA hval
  obtain ⟨v0, vs0, d0, ds0, p0, q0, hargs, rfl, rfl, h0, r0⟩ := trodAll_cons hA
  obtain ⟨rfl, rfl, rfl⟩ := trodAll_nil r0
  obtain rfl : args = #[v0] := by cases args; simp_all
  obtain ⟨A1, c1, A2, c2, A3, c3, A4, c4, F0, rfl, hF0, _⟩ := RG.open_pat (hval 0 _ _ rfl rfl) h0
  exact surfaces_walk A1 A2 A3 A4 c1 c2 c3 c4 F0 W hF0
theorem flatSurfaces_holds : Rows.FlatSurfacesSaid :=
  OpenClaim.holds_of_wide 4 Try.f4 rfl rfl rfl rfl rfl rfl rfl ⟨rfl, rfl, rfl, rfl, rfl⟩ rfl rfl rfl rfl rfl (by kernel_rfl) Try.func4 (by kernel_rfl)
    (of_decide_eq_true (by kernel_rfl)) (by unfold Func.isWrapper; rw [if_neg (of_decide_eq_false (by kernel_rfl))]; exact ⟨rfl, rfl⟩)
    (fun os started H enc _ => flatSurfaces_lifted os started H enc)

end Go.Proofs.Ytjnfodbniohkhaa
