/-
  FlatAdds, proved: for every three rationals, sums do not depend on the order, keep the order of rationals, and have the sum of the ticks. No condition.
-/
import Derived.Test.YtjibbblgboolnaaRat5
import Derived.Test.YtjibbblgboolnaaAdds1
import Derived.Test.YtjibbblgboolnaaOpenRat
set_option linter.unusedVariables false
set_option linter.unusedSimpArgs false
set_option linter.constructorNameAsVariable false
namespace Go.Proofs.Ytjibbblgboolnaa
set_option linter.unusedVariables false
set_option linter.unusedSimpArgs false
open Go Go.ChangeShapes Go.WideShapes Go.ChangeAt Go.RowKit Go.Deep

theorem bne0 {k : Int} (h : (k != 0) = false) : k = 0 := by simpa using h
set_option maxRecDepth 100000 in
set_option maxHeartbeats 8000000 in
theorem adds_walk (a b c d p q : Int) (w : World) :
    Calls Try.prog 6 #[ra a b, ra c d, ra p q] w fun x w' => x = .returned (.bool true) ∧ Gr w w' := by
  have h1 := fun w => Add_any a b c d w
  have h2 := fun w => Add_any c d a b w
  rw [← add_comm'] at h2
  have h3 := fun w => Compare_any a b p q w
  have h4 := fun w => Add_any p q c d w
  have h6 := fun w => Ticks_any a b w
  have h7 := fun w => Ticks_any c d w
  rcases hx : addV a b c d with ⟨x1, x2, e⟩
  rcases hz : addV p q c d with ⟨z1, z2, h⟩
  rcases hs : cmpV a b p q with ⟨s1, g⟩
  rcases hm : tikV a b with ⟨m1, i⟩
  rcases hn : tikV c d with ⟨n1, k⟩
  rw [hx] at h1 h2
  rw [hz] at h4
  rw [hs] at h3
  rw [hm] at h6
  rw [hn] at h7
  have H5 := hide (show e = 0 → g = 0 → h = 0 → ∀ w, Calls Try.prog 23 #[ra x1 x2, ra z1 z2] w fun e w' => e = .returned (prV (s1, 0)) ∧ Gr w w' by
    intro he hg hh w
    have := Compare_any x1 x2 z1 z2 w
    rw [he] at hx
    rw [hg] at hs
    rw [hh] at hz
    rwa [adds_cmp hx hz hs] at this)
  have H8 := hide (show e = 0 → i = 0 → k = 0 → ∀ w, Calls Try.prog 25 #[ra x1 x2] w fun e w' => e = .returned (prV (m1 + n1, 0)) ∧ Gr w w' by
    intro he hi hk w
    have := Ticks_any x1 x2 w
    rw [he] at hx
    rw [hi] at hm
    rw [hk] at hn
    rwa [(adds_tik hx hm hn).1] at this)
  have H9 := hide (show e = 0 → i = 0 → k = 0 → -9223372036854775808 ≤ m1 + n1 ∧ m1 + n1 ≤ 9223372036854775807 by
    intro he hi hk
    rw [he] at hx
    rw [hi] at hm
    rw [hk] at hn
    exact (adds_tik hx hm hn).2)
  have H1 := hide h1
  have H2 := hide h2
  have H3 := hide h3
  have H4 := hide h4
  have H6 := hide h6
  have H7 := hide h7
  clear h1 h2 h3 h4 h6 h7 hx hz hs hm hn
  have N1 := fun w => eqRat1 x1 x2 w
  have GP := gRat
  go_enter Try.func6, Try.ntmps6
  go_wp2_with fail
  refine (H1.out _).mono ?_
  rintro e' w1 ⟨rfl, g1⟩
  obtain ⟨X1, Y1, c1, f1⟩ := g1.use
  have sz1 := g1.size
  try simp only [World.size_alloc, World.size_setCell] at sz1
  have l1 : w.heap.size + 1 + 1 < w1.heap.size := by omega
  have lm1 : w.heap.size < w1.heap.size := by omega
  have ln1 : w.heap.size + 1 < w1.heap.size := by omega
  go_wp2_with fail
  refine (H2.out _).mono ?_
  rintro e' w2 ⟨rfl, g2⟩
  obtain ⟨X2, Y2, c2, f2⟩ := g2.use
  have sz2 := g2.size
  try simp only [World.size_alloc, World.size_setCell] at sz2
  have l2 : w.heap.size + 1 + 1 < w2.heap.size := by omega
  have lm2 : w.heap.size < w2.heap.size := by omega
  have ln2 : w.heap.size + 1 < w2.heap.size := by omega
  have k12 : w1.heap.size < w2.heap.size := by omega
  go_wp2_with fail
  refine (H3.out _).mono ?_
  rintro e' w3 ⟨rfl, g3⟩
  obtain ⟨X3, Y3, c3, f3⟩ := g3.use
  have sz3 := g3.size
  try simp only [World.size_alloc, World.size_setCell] at sz3
  have l3 : w.heap.size + 1 + 1 < w3.heap.size := by omega
  have lm3 : w.heap.size < w3.heap.size := by omega
  have ln3 : w.heap.size + 1 < w3.heap.size := by omega
  have k13 : w1.heap.size < w3.heap.size := by omega
  have k23 : w2.heap.size < w3.heap.size := by omega
  go_wp2_with fail
  refine (H4.out _).mono ?_
  rintro e' w4 ⟨rfl, g4⟩
  obtain ⟨X4, Y4, c4, f4⟩ := g4.use
  have sz4 := g4.size
  try simp only [World.size_alloc, World.size_setCell] at sz4
  have l4 : w.heap.size + 1 + 1 < w4.heap.size := by omega
  have lm4 : w.heap.size < w4.heap.size := by omega
  have ln4 : w.heap.size + 1 < w4.heap.size := by omega
  have k14 : w1.heap.size < w4.heap.size := by omega
  have k24 : w2.heap.size < w4.heap.size := by omega
  go_wp2_with fail
  all_goals first
    | (refine (H6.out _).mono ?_
       rintro e' w6 ⟨rfl, g6⟩
       obtain ⟨X6, Y6, c6, f6⟩ := g6.use
       have sz6 := g6.size
       try simp only [World.size_alloc, World.size_setCell] at sz6
       have l6 : w.heap.size + 1 + 1 < w6.heap.size := by omega
       have lm6 : w.heap.size < w6.heap.size := by omega
       have ln6 : w.heap.size + 1 < w6.heap.size := by omega
       have k16 : w1.heap.size < w6.heap.size := by omega
       have k26 : w2.heap.size < w6.heap.size := by omega
       have k46 : w4.heap.size < w6.heap.size := by omega
       go_wp2_with fail
       refine (H7.out _).mono ?_
       rintro e' w7 ⟨rfl, g7⟩
       obtain ⟨X7, Y7, c7, f7⟩ := g7.use
       have sz7 := g7.size
       try simp only [World.size_alloc, World.size_setCell] at sz7
       have l7 : w.heap.size + 1 + 1 < w7.heap.size := by omega
       have lm7 : w.heap.size < w7.heap.size := by omega
       have ln7 : w.heap.size + 1 < w7.heap.size := by omega
       have k17 : w1.heap.size < w7.heap.size := by omega
       have k27 : w2.heap.size < w7.heap.size := by omega
       have k47 : w4.heap.size < w7.heap.size := by omega
       go_wp2_with fail)
    | (refine (H5.out (by first | assumption | exact eq_of_beq (by assumption) | exact bne0 (by assumption) | rfl) (by first | assumption | exact eq_of_beq (by assumption) | exact bne0 (by assumption) | rfl) (by first | assumption | exact eq_of_beq (by assumption) | exact bne0 (by assumption) | rfl) _).mono ?_
       rintro e' w5 ⟨rfl, g5⟩
       obtain ⟨X5, Y5, c5, f5⟩ := g5.use
       have sz5 := g5.size
       try simp only [World.size_alloc, World.size_setCell] at sz5
       have l5 : w.heap.size + 1 + 1 < w5.heap.size := by omega
       have lm5 : w.heap.size < w5.heap.size := by omega
       have ln5 : w.heap.size + 1 < w5.heap.size := by omega
       have k15 : w1.heap.size < w5.heap.size := by omega
       have k25 : w2.heap.size < w5.heap.size := by omega
       have k45 : w4.heap.size < w5.heap.size := by omega
       go_wp2_with fail
       refine (H6.out _).mono ?_
       rintro e' w6 ⟨rfl, g6⟩
       obtain ⟨X6, Y6, c6, f6⟩ := g6.use
       have sz6 := g6.size
       try simp only [World.size_alloc, World.size_setCell] at sz6
       have l6 : w.heap.size + 1 + 1 < w6.heap.size := by omega
       have lm6 : w.heap.size < w6.heap.size := by omega
       have ln6 : w.heap.size + 1 < w6.heap.size := by omega
       have k16 : w1.heap.size < w6.heap.size := by omega
       have k26 : w2.heap.size < w6.heap.size := by omega
       have k46 : w4.heap.size < w6.heap.size := by omega
       go_wp2_with fail
       refine (H7.out _).mono ?_
       rintro e' w7 ⟨rfl, g7⟩
       obtain ⟨X7, Y7, c7, f7⟩ := g7.use
       have sz7 := g7.size
       try simp only [World.size_alloc, World.size_setCell] at sz7
       have l7 : w.heap.size + 1 + 1 < w7.heap.size := by omega
       have lm7 : w.heap.size < w7.heap.size := by omega
       have ln7 : w.heap.size + 1 < w7.heap.size := by omega
       have k17 : w1.heap.size < w7.heap.size := by omega
       have k27 : w2.heap.size < w7.heap.size := by omega
       have k47 : w4.heap.size < w7.heap.size := by omega
       go_wp2_with fail)
  all_goals first
    | (go_wp2_with (go_at_call 27; refine (known3_any _).mono ?_; rintro e w1 ⟨rfl, g1⟩; obtain ⟨X1, Y1, c1, f1⟩ := g1.use)
       go_ret
       exact ⟨rfl, (by repeat (first | with_reducible exact Gr.refl _ | with_reducible assumption | with_reducible refine Gr.alloc ?_ _ | with_reducible refine Gr.drewN ?_ _ | with_reducible refine Gr.drew ?_ | with_reducible refine Gr.setCell ?_ (by first | (dsimp only; omega) | (simp only [World.size_alloc]; omega) | (with_reducible refine Gr.size ?_; (repeat (first | with_reducible exact Gr.refl _ | with_reducible assumption | with_reducible refine Gr.alloc ?_ _ | with_reducible refine Gr.drewN ?_ _ | with_reducible refine Gr.drew ?_ | with_reducible refine Gr.trans ?_ (by with_reducible assumption))); done)) _ | with_reducible refine Gr.trans ?_ (by with_reducible assumption)))⟩)
    | (have hb := H9.out (by first | assumption | exact eq_of_beq (by assumption) | exact bne0 (by assumption) | rfl) (by first | assumption | exact eq_of_beq (by assumption) | exact bne0 (by assumption) | rfl) (by first | assumption | exact eq_of_beq (by assumption) | exact bne0 (by assumption) | rfl)
       refine (H8.out (by first | assumption | exact eq_of_beq (by assumption) | exact bne0 (by assumption) | rfl) (by first | assumption | exact eq_of_beq (by assumption) | exact bne0 (by assumption) | rfl) (by first | assumption | exact eq_of_beq (by assumption) | exact bne0 (by assumption) | rfl) _).mono ?_
       rintro e' w8 ⟨rfl, g8⟩
       obtain ⟨X8, Y8, c8, f8⟩ := g8.use
       have sz8 := g8.size
       try simp only [World.size_alloc, World.size_setCell] at sz8
       have l8 : w.heap.size + 1 + 1 < w8.heap.size := by omega
       have lm8 : w.heap.size < w8.heap.size := by omega
       have ln8 : w.heap.size + 1 < w8.heap.size := by omega
       have k18 : w1.heap.size < w8.heap.size := by omega
       have k28 : w2.heap.size < w8.heap.size := by omega
       have k48 : w4.heap.size < w8.heap.size := by omega
       go_wp2_with (go_at_call 27; refine (known3_any _).mono ?_; rintro e w1 ⟨rfl, g1⟩; obtain ⟨X1, Y1, c1, f1⟩ := g1.use)
       go_ret
       exact ⟨rfl, (by repeat (first | with_reducible exact Gr.refl _ | with_reducible assumption | with_reducible refine Gr.alloc ?_ _ | with_reducible refine Gr.drewN ?_ _ | with_reducible refine Gr.drew ?_ | with_reducible refine Gr.setCell ?_ (by first | (dsimp only; omega) | (simp only [World.size_alloc]; omega) | (with_reducible refine Gr.size ?_; (repeat (first | with_reducible exact Gr.refl _ | with_reducible assumption | with_reducible refine Gr.alloc ?_ _ | with_reducible refine Gr.drewN ?_ _ | with_reducible refine Gr.drew ?_ | with_reducible refine Gr.trans ?_ (by with_reducible assumption))); done)) _ | with_reducible refine Gr.trans ?_ (by with_reducible assumption)))⟩)

set_option maxRecDepth 100000 in
theorem flatAdds_spec : LawSpec Rows.flatAddsSpec 3 := ⟨rfl, fun H ds h => by
  match ds, h with
  | [_, _, _], _ => rfl⟩
set_option maxRecDepth 100000 in
theorem flatAdds_lifted (os : Os) (started : os.Started) (H : Type) (enc : TypeId × Value → H) :
    ReturnsInHanded {} Try.checked os 6 .any (Rows.flatAddsSpec.pre6 enc Try.prog Try.f6 Rows.flatAddsRow.domain false) (Rows.flatAddsSpec.post enc Try.prog Try.f6 false true false false) := by
  refine returnsInHanded_of_change_sized (C := Try.checked) own started (by kernel_rfl) Try.func6
    (ChangeSpec.witness6 (enc := enc) (C := Try.checked) false ⟨#[], #[.agg #[.int .i64 0, .int .i64 0], .agg #[.int .i64 0, .int .i64 0], .agg #[.int .i64 0, .int .i64 0]], []⟩ 8 (by kernel_rfl) (by kernel_rfl) (by kernel_rfl) (by kernel_rfl)) ?_
  intro W base args ds gs before hval0 hW _ hreach0 _
  have hreach : (DataW.weightsEach Try.prog (Try.f6.params.toList ++ Rows.flatAddsSpec.plain.varTypes Try.prog) (ds ++ gs)).all (· ≤ reachBytes) = true := hreach0
  clear hreach0
  refine law_step (n := 3) flatAdds_spec (by kernel_rfl) laidOut Try.underlying4 (by kernel_rfl) (by kernel_rfl) hW ?_
  have hval : ∀ (j : Nat) t v, Try.f6.params[j]? = some t → args[j]? = some v → Value.okWide Try.prog W .any base t v := hval0
  have hlt0 : ∀ x ∈ before, x.block < W.heap.size := fun x hx => hW.lt x hx
  obtain ⟨p, q, hA0, hV, rfl, hfz, hnd⟩ := hW
  have hA : DataW.TrodAll enc Try.prog W 0 (fun _ => true) true Try.f6.params.toList args.toList ds p := hA0
  rw [Try.params6] at hA hval
  obtain ⟨v0, vs0, d0, ds0, p0, q0, hargs, rfl, rfl, h0, r0⟩ := trodAll_cons hA
  obtain ⟨v1, vs1, d1, ds1, p1, q1, rfl, rfl, rfl, h1, r1⟩ := trodAll_cons r0
  obtain ⟨v2, vs2, d2, ds2, p2, q2, rfl, rfl, rfl, h2, r2⟩ := trodAll_cons r1
  obtain ⟨rfl, rfl, rfl⟩ := trodAll_nil r2
  obtain rfl : args = #[v0, v1, v2] := by cases args; simp_all
  obtain ⟨a, b, rfl⟩ := open_rat (hval 0 _ _ rfl rfl) h0
  obtain ⟨c, d, rfl⟩ := open_rat (hval 1 _ _ rfl rfl) h1
  obtain ⟨p, q, rfl⟩ := open_rat (hval 2 _ _ rfl rfl) h2
  exact adds_walk a b c d p q W
theorem flatAdds_holds : Rows.FlatAddsSaid :=
  OpenClaim.holds_of_wide 6 Try.f6 rfl rfl rfl rfl rfl rfl rfl ⟨rfl, rfl, rfl, rfl, rfl⟩ rfl rfl rfl rfl rfl (by kernel_rfl) Try.func6 (by kernel_rfl)
    (of_decide_eq_true (by kernel_rfl)) (by unfold Func.isWrapper; rw [if_neg (of_decide_eq_false (by kernel_rfl))]; exact ⟨rfl, rfl⟩)
    (fun os started H enc _ => flatAdds_lifted os started H enc)

end Go.Proofs.Ytjibbblgboolnaa
