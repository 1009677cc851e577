/-
  PartClashes, proved: for every two faces, Clash answers as the document's reference does, whichever comes first, and no face crosses itself. No condition.
-/
import Derived.Test.YtjibbblgboolnaaClash9
set_option linter.unusedVariables false
set_option linter.unusedSimpArgs false
namespace Go.Proofs.Ytjibbblgboolnaa
set_option linter.unusedVariables false
set_option linter.unusedSimpArgs false
open Go Go.ChangeShapes Go.WideShapes Go.ChangeAt Go.RowKit Go.Deep

theorem rclash_any (a b : Fc) (w : World) :
    Calls Try.prog 18 #[fv a, fv b] w fun e w' => e = .returned (.bool (clR a b)) ∧ Gr w w' := by
  cases ha : soB a with
  | false =>
    have : clR a b = false := by unfold clR; simp [ha]
    rw [this]
    exact rclash_no a b w (.inl ha)
  | true =>
    cases hb : soB b with
    | false =>
      have : clR a b = false := by unfold clR; simp [hb]
      rw [this]
      exact rclash_no a b w (.inr (.inl ⟨ha, hb⟩))
    | true =>
      cases hn : (axN a == axN b) with
      | true =>
        have : clR a b = false := by unfold clR; rw [hn]; simp
        rw [this]
        exact rclash_no a b w (.inr (.inr ⟨ha, hb, hn⟩))
      | false =>
        have := rclash_yes a b w ha hb hn
        unfold clR
        rw [ha, hb, hn]
        exact this
set_option maxHeartbeats 1000000 in
theorem clashes_walk (a b : Fc) (w : World) :
    Calls Try.prog 4 #[fv a, fv b] w fun x w' => x = .returned (.bool true) ∧ Gr w w' := by
  have HX := hide (fun w => clash_any a b w)
  have R0 := fun w => rclash_any a b w
  have M0 := fun w => clash_any b a w
  have S0 := fun w => clash_any a a w
  rw [← cl_eq] at R0
  rw [cl_comm] at M0
  rw [cl_self] at S0
  have HR := hide R0
  have HM := hide M0
  have HS := hide S0
  clear R0 M0 S0
  generalize clC a b = c at *
  go_enter Try.func4, Try.ntmps4
  go_wp2_with fail
  refine (HX.out _).mono ?_
  rintro e w1 ⟨rfl, g1⟩
  obtain ⟨X1, Y1, c1, f1⟩ := g1.use
  have z1 := g1.size
  simp only [World.size_alloc] at z1
  have l1 : w.heap.size + 1 < w1.heap.size := by omega
  go_wp2_with fail
  refine (HR.out _).mono ?_
  rintro e w2 ⟨rfl, g2⟩
  obtain ⟨X2, Y2, c2, f2⟩ := g2.use
  have l2 : w.heap.size + 1 < w2.heap.size := Nat.lt_of_lt_of_le l1 g2.size
  have e1 : (c == c) = true := by simp
  go_wp2_with fail
  refine (HM.out _).mono ?_
  rintro e w3 ⟨rfl, g3⟩
  obtain ⟨X3, Y3, c3, f3⟩ := g3.use
  have l3 : w.heap.size + 1 < w3.heap.size := Nat.lt_of_lt_of_le l2 g3.size
  go_wp2_with fail
  refine (HS.out _).mono ?_
  rintro e w4 ⟨rfl, g4⟩
  go_wp2_with (go_at_call 12; refine (known_any _).mono ?_; rintro e w1 ⟨rfl, g1⟩; obtain ⟨X1, Y1, c1, f1⟩ := g1.use)
  go_ret
  exact ⟨rfl, (by repeat (first | with_reducible exact Gr.refl _ | with_reducible assumption | with_reducible refine Gr.alloc ?_ _ | with_reducible refine Gr.drewN ?_ _ | with_reducible refine Gr.drew ?_ | with_reducible refine Gr.setCell ?_ (by first | (dsimp only; omega) | (simp only [World.size_alloc]; omega) | (with_reducible refine Gr.size ?_; (repeat (first | with_reducible exact Gr.refl _ | with_reducible assumption | with_reducible refine Gr.alloc ?_ _ | with_reducible refine Gr.drewN ?_ _ | with_reducible refine Gr.drew ?_ | with_reducible refine Gr.trans ?_ (by with_reducible assumption))); done)) _ | with_reducible refine Gr.trans ?_ (by with_reducible assumption)))⟩

set_option maxRecDepth 100000 in
theorem partClashes_spec : LawSpec Rows.partClashesSpec 2 := ⟨rfl, fun H ds h => by
  match ds, h with
  | [_, _], _ => rfl⟩
set_option maxRecDepth 100000 in
theorem partClashes_lifted (os : Os) (started : os.Started) (H : Type) (enc : TypeId × Value → H) :
    ReturnsInHanded {} Try.checked os 4 .any (Rows.partClashesSpec.pre6 enc Try.prog Try.f4 Rows.partClashesRow.domain false) (Rows.partClashesSpec.post enc Try.prog Try.f4 false true false false) := by
  refine returnsInHanded_of_change_sized (C := Try.checked) own started (by kernel_rfl) Try.func4
    (ChangeSpec.witness6 (enc := enc) (C := Try.checked) false ⟨#[], #[.agg #[.int .i64 0, .int .i64 0, .int .i64 0, .int .i64 0, .int .i64 0, .int .i64 0, .int .i64 0, .int .i64 0, .int .i64 0, .int .i64 0, .int .i64 0], .agg #[.int .i64 0, .int .i64 0, .int .i64 0, .int .i64 0, .int .i64 0, .int .i64 0, .int .i64 0, .int .i64 0, .int .i64 0, .int .i64 0, .int .i64 0]], []⟩ 8 (by kernel_rfl) (by kernel_rfl) (by kernel_rfl) (by kernel_rfl)) ?_
  intro W base args ds gs before hval0 hW _ hreach0 _
  have hreach : (DataW.weightsEach Try.prog (Try.f4.params.toList ++ Rows.partClashesSpec.plain.varTypes Try.prog) (ds ++ gs)).all (· ≤ reachBytes) = true := hreach0
  clear hreach0
  refine law_step (n := 2) partClashes_spec (by kernel_rfl) laidOut Try.underlying4 (by kernel_rfl) (by kernel_rfl) hW ?_
  have hval : ∀ (j : Nat) t v, Try.f4.params[j]? = some t → args[j]? = some v → Value.okWide Try.prog W .any base t v := hval0
  have hlt0 : ∀ x ∈ before, x.block < W.heap.size := fun x hx => hW.lt x hx
  obtain ⟨p, q, hA0, hV, rfl, hfz, hnd⟩ := hW
  have hA : DataW.TrodAll enc Try.prog W 0 (fun _ => true) true Try.f4.params.toList args.toList ds p := hA0
  rw [Try.params4] at hA hval
  obtain ⟨v0, vs0, d0, ds0, p0, q0, hargs, rfl, rfl, h0, r0⟩ := trodAll_cons hA
  obtain ⟨v1, vs1, d1, ds1, p1, q1, rfl, rfl, rfl, h1, r1⟩ := trodAll_cons r0
  obtain ⟨rfl, rfl, rfl⟩ := trodAll_nil r1
  obtain rfl : args = #[v0, v1] := by cases args; simp_all
  obtain ⟨f0, rfl, _, _⟩ := open_face (hval 0 _ _ rfl rfl) h0
  obtain ⟨f1, rfl, _, _⟩ := open_face (hval 1 _ _ rfl rfl) h1
  exact clashes_walk f0 f1 W
theorem partClashes_holds : Rows.PartClashesSaid :=
  OpenClaim.holds_of_wide 4 Try.f4 rfl rfl rfl rfl rfl rfl rfl ⟨rfl, rfl, rfl, rfl, rfl⟩ rfl rfl rfl rfl rfl (by kernel_rfl) Try.func4 (by kernel_rfl)
    (of_decide_eq_true (by kernel_rfl)) (by unfold Func.isWrapper; rw [if_neg (of_decide_eq_false (by kernel_rfl))]; exact ⟨rfl, rfl⟩)
    (fun os started H enc _ => partClashes_lifted os started H enc)

end Go.Proofs.Ytjibbblgboolnaa
