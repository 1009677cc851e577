/-
  boxOf of a face that is not sound.
-/
import Derived.Test.YtefjgfglommefaaClash3
namespace Go.Proofs.Ytefjgfglommefaa
set_option linter.unusedVariables false
set_option linter.unusedSimpArgs false
open Go Go.ChangeShapes Go.WideShapes Go.ChangeAt Go.RowKit Go.Deep

def bx0 : Value := .agg #[iv 0, iv 0, iv 0, iv 0, iv 0, iv 0, iv 0]
set_option maxRecDepth 100000 in
set_option maxHeartbeats 4000000 in
theorem boxOf_no (f : Fc) (w : World) (hs : soB f = false) :
    Calls Try.prog 63 #[fv f] w fun e w' => e = .returned (.tuple #[bx0, .bool false]) ∧ Gr w w' := by
  have hcases : axB f.ux f.uy f.uz = false ∨ (axB f.ux f.uy f.uz = true ∧ axB f.vx f.vy f.vz = false) ∨
      (axB f.ux f.uy f.uz = true ∧ axB f.vx f.vy f.vz = true ∧ (axK f.ux f.uy f.uz == axK f.vx f.vy f.vz) = true) ∨
      (axB f.ux f.uy f.uz = true ∧ axB f.vx f.vy f.vz = true ∧ (axK f.ux f.uy f.uz == axK f.vx f.vy f.vz) = false ∧ wiB f.w 1 1048576 = false) ∨
      (axB f.ux f.uy f.uz = true ∧ axB f.vx f.vy f.vz = true ∧ (axK f.ux f.uy f.uz == axK f.vx f.vy f.vz) = false ∧ wiB f.w 1 1048576 = true ∧ wiB f.h 1 1048576 = false) ∨
      (axB f.ux f.uy f.uz = true ∧ axB f.vx f.vy f.vz = true ∧ (axK f.ux f.uy f.uz == axK f.vx f.vy f.vz) = false ∧ wiB f.w 1 1048576 = true ∧ wiB f.h 1 1048576 = true ∧ orgB f.ox f.oy f.oz = false) := by
    cases s1 : axB f.ux f.uy f.uz with
    | false => exact .inl rfl
    | true =>
      cases s2 : axB f.vx f.vy f.vz with
      | false => exact .inr (.inl ⟨rfl, rfl⟩)
      | true =>
        cases s3 : (axK f.ux f.uy f.uz == axK f.vx f.vy f.vz) with
        | true => exact .inr (.inr (.inl ⟨rfl, rfl, rfl⟩))
        | false =>
          cases s4 : wiB f.w 1 1048576 with
          | false => exact .inr (.inr (.inr (.inl ⟨rfl, rfl, rfl, rfl⟩)))
          | true =>
            cases s5 : wiB f.h 1 1048576 with
            | false => exact .inr (.inr (.inr (.inr (.inl ⟨rfl, rfl, rfl, rfl, rfl⟩))))
            | true =>
              cases s6 : orgB f.ox f.oy f.oz with
              | false => exact .inr (.inr (.inr (.inr (.inr ⟨rfl, rfl, rfl, rfl, rfl, rfl⟩))))
              | true =>
                rw [axK_eq s1, axK_eq s2, beq_eq_false_iff_ne] at s3
                have : soB f = true := by
                  unfold soB
                  rw [s1, s2, s4, s5, s6, decide_eq_false s3]
                  rfl
                rw [this] at hs
                cases hs
  clear hs
  rcases hcases with s1 | ⟨s1, s2⟩ | ⟨s1, s2, s3⟩ | ⟨s1, s2, s3, s4⟩ | ⟨s1, s2, s3, s4, s5⟩ | ⟨s1, s2, s3, s4, s5, s6⟩
  all_goals
    go_enter Try.func63, Try.ntmps63
    go_wp2_with (first | (go_at_call 90; refine (axisOf_any _ _ _ _).mono ?_; rintro e w1 ⟨rfl, g1⟩; obtain ⟨X1, Y1, c1, f1⟩ := g1.use; have z1 := g1.size; (try simp only [World.size_alloc, World.size_setCell, World.heap_drewN, Nat.add_one_le_iff] at z1); (try have l0 : w.heap.size < w1.heap.size := by omega); (try have l1 : w.heap.size + 1 < w1.heap.size := by omega); (try have l2 : w.heap.size + 1 + 1 < w1.heap.size := by omega)) | (go_at_call 52; refine (pwithin_any _ _ _ _).mono ?_; rintro e w1 ⟨rfl, rfl⟩) | (go_at_call 91; refine (origin_any _ _ _ _).mono ?_; rintro e w1 ⟨rfl, g1⟩; obtain ⟨X1, Y1, c1, f1⟩ := g1.use; have z1 := g1.size; (try simp only [World.size_alloc, World.size_setCell, World.heap_drewN, Nat.add_one_le_iff] at z1); (try have l0 : w.heap.size < w1.heap.size := by omega); (try have l1 : w.heap.size + 1 < w1.heap.size := by omega); (try have l2 : w.heap.size + 1 + 1 < w1.heap.size := by omega)))
    refine bodyPost_ret (v := .tuple #[bx0, .bool false]) (by simp [results, Try.results63, go_sem, bx0, *]) rfl ⟨rfl, (by repeat (first | with_reducible exact Gr.refl _ | with_reducible assumption | with_reducible refine Gr.alloc ?_ _ | with_reducible refine Gr.drewN ?_ _ | with_reducible refine Gr.drew ?_ | with_reducible refine Gr.setCell ?_ (by first | (dsimp only; omega) | (simp only [World.size_alloc]; omega) | (with_reducible refine Gr.size ?_; (repeat (first | with_reducible exact Gr.refl _ | with_reducible assumption | with_reducible refine Gr.alloc ?_ _ | with_reducible refine Gr.drewN ?_ _ | with_reducible refine Gr.drew ?_ | with_reducible refine Gr.trans ?_ (by with_reducible assumption))); done)) _ | with_reducible refine Gr.trans ?_ (by with_reducible assumption)))⟩
theorem boxOf_any (f : Fc) (w : World) :
    Calls Try.prog 63 #[fv f] w fun e w' => e = .returned (.tuple #[cond (soB f) (bxV f) bx0, .bool (soB f)]) ∧ Gr w w' := by
  cases h : soB f with
  | true => exact boxOf_yes f w h
  | false => exact boxOf_no f w h
end Go.Proofs.Ytefjgfglommefaa
