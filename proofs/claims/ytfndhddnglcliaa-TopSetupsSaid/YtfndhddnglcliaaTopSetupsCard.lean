/-
  TopSetups, proved: for all needs, stations, changes and windows that the statement doesn't leave out, a plan has as many changes as the least number and serves, no list that serves has fewer, no checked bound is higher, and joined with a job without steps nothing changes. No condition.
-/
import Derived.Test.YtfndhddnglcliaaTop
set_option linter.unusedVariables false
set_option linter.unusedSimpArgs false
namespace Go.Proofs.Ytfndhddnglcliaa
set_option linter.unusedVariables false
set_option linter.unusedSimpArgs false
open Go Go.ChangeShapes Go.WideShapes Go.ChangeAt Go.RowKit Go.Deep


set_option maxRecDepth 100000 in
theorem topSetups_spec : LawSpec Rows.topSetupsSpec 3 := ⟨rfl, fun H ds h => by
  match ds, h with
  | [_, _, _], _ => rfl⟩
set_option maxRecDepth 100000 in
theorem topSetups_lifted (os : Os) (started : os.Started) (H : Type) (enc : TypeId × Value → H) :
    ReturnsInHanded {} Try.checked os 3 .any (Rows.topSetupsSpec.pre6 enc Try.prog Try.f3 Rows.topSetupsRow.domain false) (Rows.topSetupsSpec.post enc Try.prog Try.f3 false true false false) := by
  refine returnsInHanded_of_change_sized (C := Try.checked) own started (by kernel_rfl) Try.func3
    (ChangeSpec.witness6 (enc := enc) (C := Try.checked) false ⟨#[], #[.agg #[.slice none 0 0, .int .i64 0], .slice none 0 0, .slice none 0 0], []⟩ 8 (by kernel_rfl) (by kernel_rfl) (by kernel_rfl) (by kernel_rfl)) ?_
  intro W base args ds gs before hval0 hW _ hreach0 _
  have hreach : (DataW.weightsEach Try.prog (Try.f3.params.toList ++ Rows.topSetupsSpec.plain.varTypes Try.prog) (ds ++ gs)).all (· ≤ reachBytes) = true := hreach0
  clear hreach0
  refine law_step (n := 3) topSetups_spec (by kernel_rfl) laidOut Try.underlying4 (by kernel_rfl) (by kernel_rfl) hW ?_
  have hval : ∀ (j : Nat) t v, Try.f3.params[j]? = some t → args[j]? = some v → Value.okWide Try.prog W .any base t v := hval0
  have hlt0 : ∀ x ∈ before, x.block < W.heap.size := fun x hx => hW.lt x hx
  obtain ⟨p, q, hA0, hV, rfl, hfz, hnd⟩ := hW
  have hA : DataW.TrodAll enc Try.prog W 0 (fun _ => true) true Try.f3.params.toList args.toList ds p := hA0
  rw [Try.params3] at hA hval
  obtain ⟨v0, vs0, d0, ds0, p0, q0, hargs, rfl, rfl, h0, r0⟩ := trodAll_cons hA
  obtain ⟨v1, vs1, d1, ds1, p1, q1, rfl, rfl, rfl, h1, r1⟩ := trodAll_cons r0
  obtain ⟨v2, vs2, d2, ds2, p2, q2, rfl, rfl, rfl, h2, r2⟩ := trodAll_cons r1
  obtain ⟨rfl, rfl, rfl⟩ := trodAll_nil r2
  obtain rfl : args = #[v0, v1, v2] := by cases args; simp_all
  obtain ⟨A0, c0, ns0, s0, rfl, hn0, _, _⟩ := open_rig (hval 0 _ _ rfl rfl) h0
  obtain ⟨A1, c1, l1, rfl, hl1, _⟩ := open_changes (hval 1 _ _ rfl rfl) h1
  obtain ⟨A2, c2, l2, rfl, hl2, _⟩ := open_windows (hval 2 _ _ rfl rfl) h2
  exact topsetups_walk A0 c0 ns0 s0 A1 c1 l1 A2 c2 l2 W hn0 hl1 hl2
theorem topSetups_holds : Rows.TopSetupsSaid :=
  OpenClaim.holds_of_wide 3 Try.f3 rfl rfl rfl rfl rfl rfl rfl ⟨rfl, rfl, rfl, rfl, rfl⟩ rfl rfl rfl rfl rfl (by kernel_rfl) Try.func3 (by kernel_rfl)
    (of_decide_eq_true (by kernel_rfl)) (by unfold Func.isWrapper; rw [if_neg (of_decide_eq_false (by kernel_rfl))]; exact ⟨rfl, rfl⟩)
    (fun os started H enc _ => topSetups_lifted os started H enc)

end Go.Proofs.Ytfndhddnglcliaa
