/-
  Rationals: ticks; the law's known; FlatRationals: the walk.
-/
import Derived.Test.YtjnfodbniohkhaaRat4
set_option linter.unusedVariables false
set_option linter.unusedSimpArgs false
namespace Go.Proofs.Ytjnfodbniohkhaa
set_option linter.unusedVariables false
set_option linter.unusedSimpArgs false
open Go Go.ChangeShapes Go.WideShapes Go.ChangeAt Go.RowKit Go.Deep

set_option maxHeartbeats 1000000 in
theorem Ticks_any (n d : Int) (w : World) :
    Calls Try.prog 14 #[ra n d] w fun e w' => e = .returned (prV (tikV n d)) ∧ Gr w w' := by
  by_cases h : raB n d = true
  · obtain ⟨h1, h2⟩ := raB_iff.1 h
    have W1 : IntKind.i64.wrap (n * 720) = n * 720 := IntWalk.i64_in _ (by omega)
    have W2 : IntKind.i64.wrap ((n * 720).tdiv d) = (n * 720).tdiv d := IntWalk.i64_quo' _ _ (by omega)
    have hz : ¬ d = 0 := by omega
    have hz2 : (d == 0) = false := by simpa using hz
    have E := hide (show tikV n d = if (n * 720).tmod d = 0 then ((n * 720).tdiv d, 0) else (0, 5) by simp [tikV, h])
    generalize hm : (n * 720).tmod d = m at *
    generalize hq : (n * 720).tdiv d = q at *
    clear h1 h2
    by_cases k : m = 0
    · rw [E.out, if_pos k]
      go_enter Try.func14, Try.ntmps14
      go_wp2_with (first | (go_at_call 30; refine (validRat_any _ _ _).mono ?_; rintro e w1 ⟨rfl, g1⟩; obtain ⟨X1, Y1, c1, f1⟩ := g1.use; have z1 := g1.size; (try simp only [World.size_alloc, World.size_setCell, World.heap_drewN, Nat.add_one_le_iff] at z1); (try have l0 : w.heap.size < w1.heap.size := by omega); (try have l1 : w.heap.size + 1 < w1.heap.size := by omega); (try have l2 : w.heap.size + 1 + 1 < w1.heap.size := by omega)))
      go_ret2
      exact ⟨rfl, (by repeat (first | with_reducible exact Gr.refl _ | with_reducible assumption | with_reducible refine Gr.alloc ?_ _ | with_reducible refine Gr.drewN ?_ _ | with_reducible refine Gr.drew ?_ | with_reducible refine Gr.setCell ?_ (by first | (dsimp only; omega) | (simp only [World.size_alloc]; omega) | (with_reducible refine Gr.size ?_; (repeat (first | with_reducible exact Gr.refl _ | with_reducible assumption | with_reducible refine Gr.alloc ?_ _ | with_reducible refine Gr.drewN ?_ _ | with_reducible refine Gr.drew ?_ | with_reducible refine Gr.trans ?_ (by with_reducible assumption))); done)) _ | with_reducible refine Gr.trans ?_ (by with_reducible assumption)))⟩
    · rw [E.out, if_neg k]
      go_enter Try.func14, Try.ntmps14
      go_wp2_with (first | (go_at_call 30; refine (validRat_any _ _ _).mono ?_; rintro e w1 ⟨rfl, g1⟩; obtain ⟨X1, Y1, c1, f1⟩ := g1.use; have z1 := g1.size; (try simp only [World.size_alloc, World.size_setCell, World.heap_drewN, Nat.add_one_le_iff] at z1); (try have l0 : w.heap.size < w1.heap.size := by omega); (try have l1 : w.heap.size + 1 < w1.heap.size := by omega); (try have l2 : w.heap.size + 1 + 1 < w1.heap.size := by omega)))
      go_ret2
      exact ⟨rfl, (by repeat (first | with_reducible exact Gr.refl _ | with_reducible assumption | with_reducible refine Gr.alloc ?_ _ | with_reducible refine Gr.drewN ?_ _ | with_reducible refine Gr.drew ?_ | with_reducible refine Gr.setCell ?_ (by first | (dsimp only; omega) | (simp only [World.size_alloc]; omega) | (with_reducible refine Gr.size ?_; (repeat (first | with_reducible exact Gr.refl _ | with_reducible assumption | with_reducible refine Gr.alloc ?_ _ | with_reducible refine Gr.drewN ?_ _ | with_reducible refine Gr.drew ?_ | with_reducible refine Gr.trans ?_ (by with_reducible assumption))); done)) _ | with_reducible refine Gr.trans ?_ (by with_reducible assumption)))⟩
  · have h' : raB n d = false := by simpa using h
    rw [show tikV n d = (0, 1) by simp [tikV, h']]
    clear h
    go_enter Try.func14, Try.ntmps14
    go_wp2_with (first | (go_at_call 30; refine (validRat_any _ _ _).mono ?_; rintro e w1 ⟨rfl, g1⟩; obtain ⟨X1, Y1, c1, f1⟩ := g1.use; have z1 := g1.size; (try simp only [World.size_alloc, World.size_setCell, World.heap_drewN, Nat.add_one_le_iff] at z1); (try have l0 : w.heap.size < w1.heap.size := by omega); (try have l1 : w.heap.size + 1 < w1.heap.size := by omega); (try have l2 : w.heap.size + 1 + 1 < w1.heap.size := by omega)))
    go_ret2
    exact ⟨rfl, (by repeat (first | with_reducible exact Gr.refl _ | with_reducible assumption | with_reducible refine Gr.alloc ?_ _ | with_reducible refine Gr.drewN ?_ _ | with_reducible refine Gr.drew ?_ | with_reducible refine Gr.setCell ?_ (by first | (dsimp only; omega) | (simp only [World.size_alloc]; omega) | (with_reducible refine Gr.size ?_; (repeat (first | with_reducible exact Gr.refl _ | with_reducible assumption | with_reducible refine Gr.alloc ?_ _ | with_reducible refine Gr.drewN ?_ _ | with_reducible refine Gr.drew ?_ | with_reducible refine Gr.trans ?_ (by with_reducible assumption))); done)) _ | with_reducible refine Gr.trans ?_ (by with_reducible assumption)))⟩
theorem sRat : Try.prog.underlying 37 = some (.struct (Try.prog.fieldsOf 37)) := by kernel_rfl
theorem pRat : Try.prog.stoodInHeld 37 = false := by kernel_rfl
theorem gRat : Try.prog.eqGuardType Try.prog.depth 37 = false := by kernel_rfl
theorem eqInRat (d : Nat) (a b x y : Int) (w : World) : (Op.equalIn (d + 2) 37 (ra a b) (ra x y)).run Try.prog w = .ok (a == x && b == y) w := by
  have u3 := Try.underlying3
  have a3 := Try.isAgg3
  have z3 := Try.sizeOf3
  rw [run_equalIn_agg w (d + 1) 37 _ _ sRat pRat]
  simp only [Program.fieldsOf, Try.underlying37]
  go_simp
  by_cases h1 : a = x <;> by_cases h2 : b = y <;> simp [h1, h2]
theorem eqRat (a b x y : Int) (w : World) : (Op.equalIn 10000 37 (ra a b) (ra x y)).run Try.prog w = .ok (a == x && b == y) w := eqInRat 9998 a b x y w
theorem eqRat1 (a b : Int) (w : World) : (Op.equalIn 10000 37 (ra a b) (ra a b)).run Try.prog w = .ok true w := by
  have := eqRat a b a b w
  simpa using this
set_option maxHeartbeats 1000000 in
theorem known3_any (w : World) : Calls Try.prog 6 #[] w fun e w' => e = .returned (.bool true) ∧ Gr w w' := by
  have h1 := fun w => Reduce_any 14 4 w
  rw [show redV 14 4 = (7, 2, 0) from by decide +kernel] at h1
  have h2 := fun w => Ticks_any 7 2 w
  rw [show tikV 7 2 = (2520, 0) from by decide +kernel] at h2
  have H1 := hide h1
  have H2 := hide h2
  clear h1 h2
  have NEQ := fun w => eqRat1 7 2 w
  have GP := gRat
  go_enter Try.func6, Try.ntmps6
  go_wp2_with fail
  refine (H1.out _).mono ?_
  rintro e w1 ⟨rfl, g1⟩
  obtain ⟨X1, Y1, c1, f1⟩ := g1.use
  go_wp2_with fail
  refine (H2.out _).mono ?_
  rintro e w2 ⟨rfl, g2⟩
  obtain ⟨X2, Y2, c2, f2⟩ := g2.use
  have l2 : w1.heap.size < w2.heap.size := by have := g2.size; simp only [World.size_alloc, World.size_setCell] at this; omega
  go_wp2_with fail
  go_ret
  exact ⟨rfl, (by repeat (first | with_reducible exact Gr.refl _ | with_reducible assumption | with_reducible refine Gr.alloc ?_ _ | with_reducible refine Gr.drewN ?_ _ | with_reducible refine Gr.drew ?_ | with_reducible refine Gr.setCell ?_ (by first | (dsimp only; omega) | (simp only [World.size_alloc]; omega) | (with_reducible refine Gr.size ?_; (repeat (first | with_reducible exact Gr.refl _ | with_reducible assumption | with_reducible refine Gr.alloc ?_ _ | with_reducible refine Gr.drewN ?_ _ | with_reducible refine Gr.drew ?_ | with_reducible refine Gr.trans ?_ (by with_reducible assumption))); done)) _ | with_reducible refine Gr.trans ?_ (by with_reducible assumption)))⟩
end Go.Proofs.Ytjnfodbniohkhaa
