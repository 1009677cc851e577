/-
  FlatRationals, proved: for every two rationals, Reduce, Add, Compare and Ticks answer as the document's reference does. No condition.
-/
import Derived.Test.YtjibbblgboolnaaRat5
import Derived.Test.YtjibbblgboolnaaOpenRat
set_option linter.unusedVariables false
set_option linter.constructorNameAsVariable false
set_option linter.unusedSimpArgs false
namespace Go.Proofs.Ytjibbblgboolnaa
set_option linter.unusedVariables false
set_option linter.unusedSimpArgs false
open Go Go.ChangeShapes Go.WideShapes Go.ChangeAt Go.RowKit Go.Deep

set_option maxRecDepth 100000 in
set_option maxHeartbeats 4000000 in
theorem rationals_walk (a b c d : Int) (w : World) :
    Calls Try.prog 5 #[ra a b, ra c d] w fun x w' => x = .returned (.bool true) ∧ Gr w w' := by
  have h1 := fun w => Reduce_any a b w
  have h2 := fun w => rReduce_any a b w
  have h3 := fun w => Add_any a b c d w
  have h4 := fun w => rAdd_any a b c d w
  have h5 := fun w => Compare_any a b c d w
  have h6 := fun w => rCompare_any a b c d w
  have h7 := fun w => Ticks_any a b w
  have h8 := fun w => rTicks_any a b w
  generalize redV a b = x at *
  generalize addV a b c d = y at *
  generalize cmpV a b c d = u at *
  generalize tikV a b = v at *
  obtain ⟨x1, x2, x3⟩ := x
  obtain ⟨y1, y2, y3⟩ := y
  obtain ⟨u1, u2⟩ := u
  obtain ⟨v1, v2⟩ := v
  have H1 := hide h1
  have H2 := hide h2
  have H3 := hide h3
  have H4 := hide h4
  have H5 := hide h5
  have H6 := hide h6
  have H7 := hide h7
  have H8 := hide h8
  clear h1 h2 h3 h4 h5 h6 h7 h8
  have N1 := fun w => eqRat1 x1 x2 w
  have N2 := fun w => eqRat1 y1 y2 w
  have GP := gRat
  go_enter Try.func5, Try.ntmps5
  go_wp2_with fail
  refine (H1.out _).mono ?_
  rintro e w1 ⟨rfl, g1⟩
  obtain ⟨X1, Y1, c1, f1⟩ := g1.use
  have z1 := g1.size
  try simp only [World.size_alloc, World.size_setCell] at z1
  have l1 : w.heap.size + 1 < w1.heap.size := by omega
  have m1 : w.heap.size < w1.heap.size := by omega
  go_wp2_with fail
  refine (H2.out _).mono ?_
  rintro e w2 ⟨rfl, g2⟩
  obtain ⟨X2, Y2, c2, f2⟩ := g2.use
  have z2 := g2.size
  try simp only [World.size_alloc, World.size_setCell] at z2
  have l2 : w.heap.size + 1 < w2.heap.size := by omega
  have m2 : w.heap.size < w2.heap.size := by omega
  have k12 : w1.heap.size < w2.heap.size := by omega
  go_wp2_with fail
  refine (H3.out _).mono ?_
  rintro e w3 ⟨rfl, g3⟩
  obtain ⟨X3, Y3, c3, f3⟩ := g3.use
  have z3 := g3.size
  try simp only [World.size_alloc, World.size_setCell] at z3
  have l3 : w.heap.size + 1 < w3.heap.size := by omega
  have m3 : w.heap.size < w3.heap.size := by omega
  have k13 : w1.heap.size < w3.heap.size := by omega
  have k23 : w2.heap.size < w3.heap.size := by omega
  go_wp2_with fail
  refine (H4.out _).mono ?_
  rintro e w4 ⟨rfl, g4⟩
  obtain ⟨X4, Y4, c4, f4⟩ := g4.use
  have z4 := g4.size
  try simp only [World.size_alloc, World.size_setCell] at z4
  have l4 : w.heap.size + 1 < w4.heap.size := by omega
  have m4 : w.heap.size < w4.heap.size := by omega
  have k14 : w1.heap.size < w4.heap.size := by omega
  have k24 : w2.heap.size < w4.heap.size := by omega
  have k34 : w3.heap.size < w4.heap.size := by omega
  go_wp2_with fail
  refine (H5.out _).mono ?_
  rintro e w5 ⟨rfl, g5⟩
  obtain ⟨X5, Y5, c5, f5⟩ := g5.use
  have z5 := g5.size
  try simp only [World.size_alloc, World.size_setCell] at z5
  have l5 : w.heap.size + 1 < w5.heap.size := by omega
  have m5 : w.heap.size < w5.heap.size := by omega
  have k15 : w1.heap.size < w5.heap.size := by omega
  have k25 : w2.heap.size < w5.heap.size := by omega
  have k35 : w3.heap.size < w5.heap.size := by omega
  have k45 : w4.heap.size < w5.heap.size := by omega
  go_wp2_with fail
  refine (H6.out _).mono ?_
  rintro e w6 ⟨rfl, g6⟩
  obtain ⟨X6, Y6, c6, f6⟩ := g6.use
  have z6 := g6.size
  try simp only [World.size_alloc, World.size_setCell] at z6
  have l6 : w.heap.size + 1 < w6.heap.size := by omega
  have m6 : w.heap.size < w6.heap.size := by omega
  have k16 : w1.heap.size < w6.heap.size := by omega
  have k26 : w2.heap.size < w6.heap.size := by omega
  have k36 : w3.heap.size < w6.heap.size := by omega
  have k46 : w4.heap.size < w6.heap.size := by omega
  go_wp2_with fail
  refine (H7.out _).mono ?_
  rintro e w7 ⟨rfl, g7⟩
  obtain ⟨X7, Y7, c7, f7⟩ := g7.use
  have z7 := g7.size
  try simp only [World.size_alloc, World.size_setCell] at z7
  have l7 : w.heap.size + 1 < w7.heap.size := by omega
  have m7 : w.heap.size < w7.heap.size := by omega
  have k17 : w1.heap.size < w7.heap.size := by omega
  have k27 : w2.heap.size < w7.heap.size := by omega
  have k37 : w3.heap.size < w7.heap.size := by omega
  have k47 : w4.heap.size < w7.heap.size := by omega
  go_wp2_with fail
  refine (H8.out _).mono ?_
  rintro e w8 ⟨rfl, g8⟩
  obtain ⟨X8, Y8, c8, f8⟩ := g8.use
  have z8 := g8.size
  try simp only [World.size_alloc, World.size_setCell] at z8
  have l8 : w.heap.size + 1 < w8.heap.size := by omega
  have m8 : w.heap.size < w8.heap.size := by omega
  have k18 : w1.heap.size < w8.heap.size := by omega
  have k28 : w2.heap.size < w8.heap.size := by omega
  have k38 : w3.heap.size < w8.heap.size := by omega
  have k48 : w4.heap.size < w8.heap.size := by omega
  go_wp2_with (go_at_call 27; refine (known3_any _).mono ?_; rintro e w1 ⟨rfl, g1⟩; obtain ⟨X1, Y1, c1, f1⟩ := g1.use)
  go_ret
  exact ⟨rfl, (by repeat (first | with_reducible exact Gr.refl _ | with_reducible assumption | with_reducible refine Gr.alloc ?_ _ | with_reducible refine Gr.drewN ?_ _ | with_reducible refine Gr.drew ?_ | with_reducible refine Gr.setCell ?_ (by first | (dsimp only; omega) | (simp only [World.size_alloc]; omega) | (with_reducible refine Gr.size ?_; (repeat (first | with_reducible exact Gr.refl _ | with_reducible assumption | with_reducible refine Gr.alloc ?_ _ | with_reducible refine Gr.drewN ?_ _ | with_reducible refine Gr.drew ?_ | with_reducible refine Gr.trans ?_ (by with_reducible assumption))); done)) _ | with_reducible refine Gr.trans ?_ (by with_reducible assumption)))⟩

set_option maxRecDepth 100000 in
theorem flatRationals_spec : LawSpec Rows.flatRationalsSpec 2 := ⟨rfl, fun H ds h => by
  match ds, h with
  | [_, _], _ => rfl⟩
set_option maxRecDepth 100000 in
theorem flatRationals_lifted (os : Os) (started : os.Started) (H : Type) (enc : TypeId × Value → H) :
    ReturnsInHanded {} Try.checked os 5 .any (Rows.flatRationalsSpec.pre6 enc Try.prog Try.f5 Rows.flatRationalsRow.domain false) (Rows.flatRationalsSpec.post enc Try.prog Try.f5 false true false false) := by
  refine returnsInHanded_of_change_sized (C := Try.checked) own started (by kernel_rfl) Try.func5
    (ChangeSpec.witness6 (enc := enc) (C := Try.checked) false ⟨#[], #[.agg #[.int .i64 0, .int .i64 0], .agg #[.int .i64 0, .int .i64 0]], []⟩ 8 (by kernel_rfl) (by kernel_rfl) (by kernel_rfl) (by kernel_rfl)) ?_
  intro W base args ds gs before hval0 hW _ hreach0 _
  have hreach : (DataW.weightsEach Try.prog (Try.f5.params.toList ++ Rows.flatRationalsSpec.plain.varTypes Try.prog) (ds ++ gs)).all (· ≤ reachBytes) = true := hreach0
  clear hreach0
  refine law_step (n := 2) flatRationals_spec (by kernel_rfl) laidOut Try.underlying4 (by kernel_rfl) (by kernel_rfl) hW ?_
  have hval : ∀ (j : Nat) t v, Try.f5.params[j]? = some t → args[j]? = some v → Value.okWide Try.prog W .any base t v := hval0
  have hlt0 : ∀ x ∈ before, x.block < W.heap.size := fun x hx => hW.lt x hx
  obtain ⟨p, q, hA0, hV, rfl, hfz, hnd⟩ := hW
  have hA : DataW.TrodAll enc Try.prog W 0 (fun _ => true) true Try.f5.params.toList args.toList ds p := hA0
  rw [Try.params5] at hA hval
  obtain ⟨v0, vs0, d0, ds0, p0, q0, hargs, rfl, rfl, h0, r0⟩ := trodAll_cons hA
  obtain ⟨v1, vs1, d1, ds1, p1, q1, rfl, rfl, rfl, h1, r1⟩ := trodAll_cons r0
  obtain ⟨rfl, rfl, rfl⟩ := trodAll_nil r1
  obtain rfl : args = #[v0, v1] := by cases args; simp_all
  obtain ⟨a, b, rfl⟩ := open_rat (hval 0 _ _ rfl rfl) h0
  obtain ⟨c, d, rfl⟩ := open_rat (hval 1 _ _ rfl rfl) h1
  exact rationals_walk a b c d W
theorem flatRationals_holds : Rows.FlatRationalsSaid :=
  OpenClaim.holds_of_wide 5 Try.f5 rfl rfl rfl rfl rfl rfl rfl ⟨rfl, rfl, rfl, rfl, rfl⟩ rfl rfl rfl rfl rfl (by kernel_rfl) Try.func5 (by kernel_rfl)
    (of_decide_eq_true (by kernel_rfl)) (by unfold Func.isWrapper; rw [if_neg (of_decide_eq_false (by kernel_rfl))]; exact ⟨rfl, rfl⟩)
    (fun os started H enc _ => flatRationals_lifted os started H enc)

end Go.Proofs.Ytjibbblgboolnaa
