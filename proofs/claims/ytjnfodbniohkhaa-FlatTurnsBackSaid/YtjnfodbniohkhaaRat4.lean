/-
  Rationals: the exported functions of both sides; what the law's known returns.
-/
import Derived.Test.YtjnfodbniohkhaaRat3
import Derived.Laws.StructEq
set_option linter.unusedVariables false
set_option linter.unusedSimpArgs false
namespace Go.Proofs.Ytjnfodbniohkhaa
set_option linter.unusedVariables false
set_option linter.unusedSimpArgs false
open Go Go.ChangeShapes Go.WideShapes Go.ChangeAt Go.RowKit Go.Deep

theorem ret_pr {a b c d : Int} (h : a = b) (k : c = d) : Ending.returned (.tuple #[iv a, iv c]) = .returned (.tuple #[iv b, iv d]) := by rw [h, k]
theorem cm_cases (p q : Int) : (p < q ∧ cmI p q = -1) ∨ (q < p ∧ cmI p q = 1) ∨ (p = q ∧ cmI p q = 0) := by
  unfold cmI
  split
  · exact .inl ⟨by assumption, rfl⟩
  · split
    · exact .inr (.inl ⟨by assumption, rfl⟩)
    · exact .inr (.inr ⟨by omega, rfl⟩)
theorem mul_bd {a d A D : Int} (h1 : -A ≤ a ∧ a ≤ A) (h2 : 1 ≤ d ∧ d ≤ D) (hA : 0 ≤ A) : -(A * D) ≤ a * d ∧ a * d ≤ A * D := by
  have e1 : a * d ≤ A * d := Int.mul_le_mul_of_nonneg_right h1.2 (by omega)
  have e2 : A * d ≤ A * D := Int.mul_le_mul_of_nonneg_left h2.2 hA
  have e3 : -A * d ≤ a * d := Int.mul_le_mul_of_nonneg_right h1.1 (by omega)
  rw [Int.neg_mul] at e3
  omega
theorem mul_bp {a d A D : Int} (h1 : 1 ≤ a ∧ a ≤ A) (h2 : 1 ≤ d ∧ d ≤ D) : 1 ≤ a * d ∧ a * d ≤ A * D := by
  have e1 : a * d ≤ A * d := Int.mul_le_mul_of_nonneg_right h1.2 (by omega)
  have e2 : A * d ≤ A * D := Int.mul_le_mul_of_nonneg_left h2.2 (by omega)
  have e3 : 0 < a * d := Int.mul_pos (by omega) (by omega)
  omega
abbrev trV (p : R3) : Value := .tuple #[ra p.1 p.2.1, iv p.2.2]
abbrev prV (p : Int × Int) : Value := .tuple #[iv p.1, iv p.2]
theorem Reduce_any (n d : Int) (w : World) :
    Calls Try.prog 13 #[ra n d] w fun e w' => e = .returned (trV (redV n d)) ∧ Gr w w' := by
  by_cases h : raB n d = true
  · rw [show redV n d = (rdN n d, rdD n d, 0) by simp [redV, h]]
    obtain ⟨h1, h2⟩ := raB_iff.1 h
    have HR := hide (fun w => reduced_any n d w (by omega) (by omega))
    generalize rdN n d = x at *
    generalize rdD n d = y at *
    go_enter Try.func13, Try.ntmps13
    go_wp2_with (first | (go_at_call 30; refine (validRat_any _ _ _).mono ?_; rintro e w1 ⟨rfl, g1⟩; obtain ⟨X1, Y1, c1, f1⟩ := g1.use; have z1 := g1.size; (try simp only [World.size_alloc, World.size_setCell, World.heap_drewN, Nat.add_one_le_iff] at z1); (try have l0 : w.heap.size < w1.heap.size := by omega); (try have l1 : w.heap.size + 1 < w1.heap.size := by omega); (try have l2 : w.heap.size + 1 + 1 < w1.heap.size := by omega)) | (go_at_call 31; refine (HR.out _).mono ?_; rintro e w1 ⟨rfl, g1⟩; obtain ⟨X1, Y1, c1, f1⟩ := g1.use; have z1 := g1.size; (try simp only [World.size_alloc, World.size_setCell, World.heap_drewN, Nat.add_one_le_iff] at z1); (try have l0 : w.heap.size < w1.heap.size := by omega); (try have l1 : w.heap.size + 1 < w1.heap.size := by omega); (try have l2 : w.heap.size + 1 + 1 < w1.heap.size := by omega)))
    refine bodyPost_ret (v := trV (x, y, 0)) (by simp [results, Try.results13, go_sem, *]) rfl ⟨rfl, (by repeat (first | with_reducible exact Gr.refl _ | with_reducible assumption | with_reducible refine Gr.alloc ?_ _ | with_reducible refine Gr.drewN ?_ _ | with_reducible refine Gr.drew ?_ | with_reducible refine Gr.setCell ?_ (by first | (dsimp only; omega) | (simp only [World.size_alloc]; omega) | (with_reducible refine Gr.size ?_; (repeat (first | with_reducible exact Gr.refl _ | with_reducible assumption | with_reducible refine Gr.alloc ?_ _ | with_reducible refine Gr.drewN ?_ _ | with_reducible refine Gr.drew ?_ | with_reducible refine Gr.trans ?_ (by with_reducible assumption))); done)) _ | with_reducible refine Gr.trans ?_ (by with_reducible assumption)))⟩
  · have h' : raB n d = false := by simpa using h
    rw [show redV n d = (0, 0, 1) by simp [redV, h']]
    clear h
    go_enter Try.func13, Try.ntmps13
    go_wp2_with (first | (go_at_call 30; refine (validRat_any _ _ _).mono ?_; rintro e w1 ⟨rfl, g1⟩; obtain ⟨X1, Y1, c1, f1⟩ := g1.use; have z1 := g1.size; (try simp only [World.size_alloc, World.size_setCell, World.heap_drewN, Nat.add_one_le_iff] at z1); (try have l0 : w.heap.size < w1.heap.size := by omega); (try have l1 : w.heap.size + 1 < w1.heap.size := by omega); (try have l2 : w.heap.size + 1 + 1 < w1.heap.size := by omega)))
    refine bodyPost_ret (v := trV (0, 0, 1)) (by simp [results, Try.results13, go_sem, *]) rfl ⟨rfl, (by repeat (first | with_reducible exact Gr.refl _ | with_reducible assumption | with_reducible refine Gr.alloc ?_ _ | with_reducible refine Gr.drewN ?_ _ | with_reducible refine Gr.drew ?_ | with_reducible refine Gr.setCell ?_ (by first | (dsimp only; omega) | (simp only [World.size_alloc]; omega) | (with_reducible refine Gr.size ?_; (repeat (first | with_reducible exact Gr.refl _ | with_reducible assumption | with_reducible refine Gr.alloc ?_ _ | with_reducible refine Gr.drewN ?_ _ | with_reducible refine Gr.drew ?_ | with_reducible refine Gr.trans ?_ (by with_reducible assumption))); done)) _ | with_reducible refine Gr.trans ?_ (by with_reducible assumption)))⟩
theorem isNaN_any (x : Int) (w : World) :
    Calls Try.prog 53 #[iv x] w fun e w' => e = .returned (.bool false) ∧ w = w' := by
  go_enter Try.func53, Try.ntmps53
  go_wp2
  go_ret
  exact ⟨rfl, rfl⟩
theorem cmpC_any (x y : Int) (w : World) :
    Calls Try.prog 41 #[iv x, iv y] w fun e w' => e = .returned (iv (cmI x y)) ∧ w = w' := by
  go_enter Try.func41, Try.ntmps41
  go_wp2_with (go_at_call 53; refine (isNaN_any _ _).mono ?_; rintro e w1 ⟨rfl, rfl⟩)
  all_goals
    go_ret
    exact ⟨ret_iv' (by unfold cmI; grind), rfl⟩
end Go.Proofs.Ytjnfodbniohkhaa
