/-
 NestExceeds, proved: for all sheets, pieces, settings and placements, whether the pieces have more area than is free, and the error, are the document's; and where they have, no placements of all of them are right. No condition.
-/
import Derived.Test.YtddhaiaapomdjaaGreatGYe
set_option linter.unusedVariables false
set_option linter.unusedSimpArgs false
namespace Go.Proofs.YtddhaiaapomdjaaGreat
set_option linter.unusedVariables false
set_option linter.unusedSimpArgs false
open Go Go.ChangeShapes Go.WideShapes Go.ChangeAt Go.RowKit Go.Deep


set_option maxRecDepth 100000 in
theorem nestExceeds_spec : LawSpec Rows.nestExceedsSpec 2 := ⟨rfl, fun H ds h => by
 match ds, h with
 | [_, _], _ => rfl⟩
set_option maxRecDepth 100000 in
theorem nestExceeds_lifted (os : Os) (started : os.Started) (H : Type) (enc : TypeId × Value → H) :
  ReturnsInHanded {} Tryz.checked os 6 .any (Rows.nestExceedsSpec.pre6 enc Tryz.prog Tryz.f6 Rows.nestExceedsRow.domain false) (Rows.nestExceedsSpec.post enc Tryz.prog Tryz.f6 false true false false) := by
 refine returnsInHanded_of_change_sized (C := Tryz.checked) own started (by kernel_rfl) Tryz.func6
  (ChangeSpec.witness6 (enc := enc) (C := Tryz.checked) false ⟨#[], #[.agg #[.slice none 0 0, .slice none 0 0, .int .i64 0, .int .i64 0, .bool false], .slice none 0 0], []⟩ 8 (by kernel_rfl) (by kernel_rfl) (by kernel_rfl) (by kernel_rfl)) ?_
 intro W base args ds gs before hval0 hW _ hreach0 _
 have hreach : (DataW.weightsEach Tryz.prog (Tryz.f6.params.toList ++ Rows.nestExceedsSpec.plain.varTypes Tryz.prog) (ds ++ gs)).all (· ≤ reachBytes) = true := hreach0
 clear hreach0
 refine law_step (n := 2) nestExceeds_spec (by kernel_rfl) laidOut Tryz.underlying4 (by kernel_rfl) (by kernel_rfl) hW ?_
 have hval : ∀ (j : Nat) t v, Tryz.f6.params[j]? = some t → args[j]? = some v → Value.okWide Tryz.prog W .any base t v := hval0
 have hlt0 : ∀ x ∈ before, x.block < W.heap.size := fun x hx => hW.lt x hx
 obtain ⟨p, q, hA0, hV, rfl, hfz, hnd⟩ := hW
 have hA : DataW.TrodAll enc Tryz.prog W 0 (fun _ => true) true Tryz.f6.params.toList args.toList ds p := hA0
 rw [Tryz.params6] at hA hval
 obtain ⟨v0, vs0, d0, ds0, p0, q0, hargs, rfl, rfl, h0, r0⟩ := trodAll_cons hA
 obtain ⟨v1, vs1, d1, ds1, p1, q1, rfl, rfl, rfl, h1, r1⟩ := trodAll_cons r0
 obtain ⟨rfl, rfl, rfl⟩ := trodAll_nil r1
 obtain rfl : args = #[v0, v1] := by cases args; simp_all
 obtain ⟨A0, c0, S0, B0, d0, P0, t0, rfl, hS0, hP0⟩ := RG.o8_job (hval 0 _ _ rfl rfl) h0
 obtain ⟨A1, c1, l1, rfl, hA1⟩ := RG.o8_places (hval 1 _ _ rfl rfl) h1
 exact RG.exceeds_walk A0 c0 S0 B0 d0 P0 t0 A1 c1 l1 W hS0 hP0 hA1
theorem nestExceeds_holds : Rows.NestExceedsSaid :=
 OpenClaim.holds_of_wide 6 Tryz.f6 rfl rfl rfl rfl rfl rfl rfl ⟨rfl, rfl, rfl, rfl, rfl⟩ rfl rfl rfl rfl rfl (by kernel_rfl) Tryz.func6 (by kernel_rfl)
  (of_decide_eq_true (by kernel_rfl)) (by unfold Func.isWrapper; rw [if_neg (of_decide_eq_false (by kernel_rfl))]; exact ⟨rfl, rfl⟩)
  (fun os started H enc _ => nestExceeds_lifted os started H enc)

end Go.Proofs.YtddhaiaapomdjaaGreat
