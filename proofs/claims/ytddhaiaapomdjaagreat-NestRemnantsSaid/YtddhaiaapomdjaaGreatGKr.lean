/-
  Nests: the reference's functions of rectangles.
  Nests: two lists of rectangles that keep their distance: the reference's function.
  Nests: the laws NestAllows and NestClears.
-/
import Derived.Test.YtddhaiaapomdjaaGreatNs2r
import Derived.Test.YtddhaiaapomdjaaGreatNs4r
import Derived.Test.YtddhaiaapomdjaaGreatGJr
import Derived.Test.YtddhaiaapomdjaaGreatGGr
set_option linter.unusedVariables false
set_option linter.unusedSimpArgs false
namespace Go.Proofs.YtddhaiaapomdjaaGreat
set_option linter.unusedVariables false
set_option linter.unusedSimpArgs false
open Go Go.ChangeShapes Go.WideShapes Go.ChangeAt Go.RowKit Go.Deep

namespace RG
theorem near_any (n : Int) (w : World) :
    Calls Tryz.prog 82 #[iv n] w fun e w' => e = .returned (.bool (wiB n (-1048576) 1048576)) ∧ w = w' := by
  go_enter Tryz.func82, Tryz.ntmps82
  go_wp2
  all_goals
    go_ret
    exact ⟨ret_bool (by simp [wiB]; omega), rfl⟩
theorem vrB_eq (x y u h : Int) : vrB x y u h = (wiB x (-1048576) 1048576 && wiB y (-1048576) 1048576 && wiB u 1 2097152 && wiB h 1 2097152 && wiB (x + u) (-1048576) 1048576 && wiB (y + h) (-1048576) 1048576) := by
  rw [Bool.eq_iff_iff]
  simp only [vrB, Bool.and_eq_true, vsB_iff, wiB_iff]
  omega
set_option maxHeartbeats 1000000 in
theorem Right_any (x y u h : Int) (w : World) :
    Calls Tryz.prog 73 #[rc x y u h] w fun e w' => e = .returned (.bool (vrB x y u h)) ∧ Gr w w' := by
  rw [vrB_eq]
  cases h1 : wiB x (-1048576) 1048576 with
  | false =>
    go_enter Tryz.func73, Tryz.ntmps73
    go_wp2_with (first | (go_at_call 82; refine (near_any _ _).mono ?_; rintro e w1 ⟨rfl, rfl⟩))
    go_ret
    exact ⟨ret_bool (by simp), (by with_reducible repeat (first | exact Gr.refl _ | assumption | refine Gr.alloc ?_ _ | refine Gr.drewN ?_ _ | refine Gr.drew ?_ | refine Gr.setCell ?_ (by first | (dsimp only; omega) | (simp only [World.size_alloc]; omega) | (refine Gr.size ?_; (repeat (first | exact Gr.refl _ | assumption | refine Gr.alloc ?_ _ | refine Gr.drewN ?_ _ | refine Gr.drew ?_ | refine Gr.trans ?_ (by assumption))); done)) _ | refine Gr.trans ?_ (by assumption)))⟩
  | true =>
    cases h2 : wiB y (-1048576) 1048576 with
    | false =>
      go_enter Tryz.func73, Tryz.ntmps73
      go_wp2_with (first | (go_at_call 82; refine (near_any _ _).mono ?_; rintro e w1 ⟨rfl, rfl⟩))
      go_ret
      exact ⟨ret_bool (by simp), (by with_reducible repeat (first | exact Gr.refl _ | assumption | refine Gr.alloc ?_ _ | refine Gr.drewN ?_ _ | refine Gr.drew ?_ | refine Gr.setCell ?_ (by first | (dsimp only; omega) | (simp only [World.size_alloc]; omega) | (refine Gr.size ?_; (repeat (first | exact Gr.refl _ | assumption | refine Gr.alloc ?_ _ | refine Gr.drewN ?_ _ | refine Gr.drew ?_ | refine Gr.trans ?_ (by assumption))); done)) _ | refine Gr.trans ?_ (by assumption)))⟩
    | true =>
      obtain ⟨a1, a2⟩ := wiB_iff.1 h1
      obtain ⟨b1, b2⟩ := wiB_iff.1 h2
      by_cases h3 : 1 ≤ u ∧ u ≤ 2097152 ∧ 1 ≤ h ∧ h ≤ 2097152
      · obtain ⟨c1, c2, d1, d2⟩ := h3
        have e3 : wiB u 1 2097152 = true := wiB_iff.2 ⟨c1, c2⟩
        have e4 : wiB h 1 2097152 = true := wiB_iff.2 ⟨d1, d2⟩
        have W1 : IntKind.i64.wrap (x + u) = x + u := IntWalk.i64_in _ (by omega)
        have W2 : IntKind.i64.wrap (y + h) = y + h := IntWalk.i64_in _ (by omega)
        rw [e3, e4]
        cases k1 : wiB (x + u) (-1048576) 1048576 <;>
        · go_enter Tryz.func73, Tryz.ntmps73
          go_wp2_with (first | (go_at_call 82; refine (near_any _ _).mono ?_; rintro e w1 ⟨rfl, rfl⟩))
          all_goals
            go_ret
            exact ⟨ret_bool (by simp [*]), (by with_reducible repeat (first | exact Gr.refl _ | assumption | refine Gr.alloc ?_ _ | refine Gr.drewN ?_ _ | refine Gr.drew ?_ | refine Gr.setCell ?_ (by first | (dsimp only; omega) | (simp only [World.size_alloc]; omega) | (refine Gr.size ?_; (repeat (first | exact Gr.refl _ | assumption | refine Gr.alloc ?_ _ | refine Gr.drewN ?_ _ | refine Gr.drew ?_ | refine Gr.trans ?_ (by assumption))); done)) _ | refine Gr.trans ?_ (by assumption)))⟩
      · have HE := hide (show (wiB u 1 2097152 && wiB h 1 2097152) = false by
          rw [← Bool.not_eq_true, Bool.and_eq_true, wiB_iff, wiB_iff]
          omega)
        go_enter Tryz.func73, Tryz.ntmps73
        go_wp2_with (first | (go_at_call 82; refine (near_any _ _).mono ?_; rintro e w1 ⟨rfl, rfl⟩))
        all_goals first
          | (exfalso; omega)
          | (go_ret; exact ⟨ret_bool (by
              have := HE.out
              cases p : wiB u 1 2097152 <;> cases q : wiB h 1 2097152 <;> simp_all), (by with_reducible repeat (first | exact Gr.refl _ | assumption | refine Gr.alloc ?_ _ | refine Gr.drewN ?_ _ | refine Gr.drew ?_ | refine Gr.setCell ?_ (by first | (dsimp only; omega) | (simp only [World.size_alloc]; omega) | (refine Gr.size ?_; (repeat (first | exact Gr.refl _ | assumption | refine Gr.alloc ?_ _ | refine Gr.drewN ?_ _ | refine Gr.drew ?_ | refine Gr.trans ?_ (by assumption))); done)) _ | refine Gr.trans ?_ (by assumption)))⟩)
set_option maxHeartbeats 2000000 in
theorem Overlaps_any (x y u h a b c d : Int) (w : World) :
    Calls Tryz.prog 93 #[rc x y u h, rc a b c d] w fun e w' => e = .returned (.bool (ovB x y u h a b c d)) ∧ Gr w w' := by
  cases h1 : vrB x y u h with
  | true =>
    cases h2 : vrB a b c d with
    | true =>
      obtain ⟨⟨p1, p2, p3, p4⟩, p5, p6⟩ := vr_lims h1
      obtain ⟨⟨q1, q2, q3, q4⟩, q5, q6⟩ := vr_lims h2
      obtain ⟨_, _⟩ := p1
      obtain ⟨_, _⟩ := p2
      obtain ⟨_, _⟩ := p3
      obtain ⟨_, _⟩ := p4
      obtain ⟨_, _⟩ := q1
      obtain ⟨_, _⟩ := q2
      obtain ⟨_, _⟩ := q3
      obtain ⟨_, _⟩ := q4
      have W1 : IntKind.i64.wrap (x + u) = x + u := IntWalk.i64_in _ (by omega)
      have W2 : IntKind.i64.wrap (y + h) = y + h := IntWalk.i64_in _ (by omega)
      have W3 : IntKind.i64.wrap (a + c) = a + c := IntWalk.i64_in _ (by omega)
      have W4 : IntKind.i64.wrap (b + d) = b + d := IntWalk.i64_in _ (by omega)
      have HE := hide (show ovB x y u h a b c d = (decide (x < a + c) && decide (a < x + u) && (decide (y < b + d) && decide (b < y + h))) by unfold ovB soB; rw [h1, h2]; rfl)
      go_enter Tryz.func93, Tryz.ntmps93
      go_wp2_with (first | (go_at_call 73; refine (Right_any _ _ _ _ _).mono ?_; rintro e w1 ⟨rfl, g1⟩; obtain ⟨X1, Y1, c1, f1⟩ := g1.use; have z1 := g1.size; (try simp only [World.size_alloc, World.size_setCell, World.heap_drewN, Nat.add_one_le_iff] at z1); (try have l0 : w.heap.size < w1.heap.size := by omega); (try have l1 : w.heap.size + 1 < w1.heap.size := by omega); (try have l2 : w.heap.size + 1 + 1 < w1.heap.size := by omega)))
      all_goals
        go_ret
        exact ⟨ret_bool (by rw [HE.out]; simp [*] <;> omega), (by with_reducible repeat (first | exact Gr.refl _ | assumption | refine Gr.alloc ?_ _ | refine Gr.drewN ?_ _ | refine Gr.drew ?_ | refine Gr.setCell ?_ (by first | (dsimp only; omega) | (simp only [World.size_alloc]; omega) | (refine Gr.size ?_; (repeat (first | exact Gr.refl _ | assumption | refine Gr.alloc ?_ _ | refine Gr.drewN ?_ _ | refine Gr.drew ?_ | refine Gr.trans ?_ (by assumption))); done)) _ | refine Gr.trans ?_ (by assumption)))⟩
    | false =>
      have HE := hide (show ovB x y u h a b c d = false by unfold ovB; rw [h2]; simp)
      go_enter Tryz.func93, Tryz.ntmps93
      go_wp2_with (first | (go_at_call 73; refine (Right_any _ _ _ _ _).mono ?_; rintro e w1 ⟨rfl, g1⟩; obtain ⟨X1, Y1, c1, f1⟩ := g1.use; have z1 := g1.size; (try simp only [World.size_alloc, World.size_setCell, World.heap_drewN, Nat.add_one_le_iff] at z1); (try have l0 : w.heap.size < w1.heap.size := by omega); (try have l1 : w.heap.size + 1 < w1.heap.size := by omega); (try have l2 : w.heap.size + 1 + 1 < w1.heap.size := by omega)))
      go_ret
      exact ⟨ret_bool HE.out.symm, (by with_reducible repeat (first | exact Gr.refl _ | assumption | refine Gr.alloc ?_ _ | refine Gr.drewN ?_ _ | refine Gr.drew ?_ | refine Gr.setCell ?_ (by first | (dsimp only; omega) | (simp only [World.size_alloc]; omega) | (refine Gr.size ?_; (repeat (first | exact Gr.refl _ | assumption | refine Gr.alloc ?_ _ | refine Gr.drewN ?_ _ | refine Gr.drew ?_ | refine Gr.trans ?_ (by assumption))); done)) _ | refine Gr.trans ?_ (by assumption)))⟩
  | false =>
    have HE := hide (show ovB x y u h a b c d = false by unfold ovB; rw [h1]; simp)
    go_enter Tryz.func93, Tryz.ntmps93
    go_wp2_with (first | (go_at_call 73; refine (Right_any _ _ _ _ _).mono ?_; rintro e w1 ⟨rfl, g1⟩; obtain ⟨X1, Y1, c1, f1⟩ := g1.use; have z1 := g1.size; (try simp only [World.size_alloc, World.size_setCell, World.heap_drewN, Nat.add_one_le_iff] at z1); (try have l0 : w.heap.size < w1.heap.size := by omega); (try have l1 : w.heap.size + 1 < w1.heap.size := by omega); (try have l2 : w.heap.size + 1 + 1 < w1.heap.size := by omega)))
    go_ret
    exact ⟨ret_bool HE.out.symm, (by with_reducible repeat (first | exact Gr.refl _ | assumption | refine Gr.alloc ?_ _ | refine Gr.drewN ?_ _ | refine Gr.drew ?_ | refine Gr.setCell ?_ (by first | (dsimp only; omega) | (simp only [World.size_alloc]; omega) | (refine Gr.size ?_; (repeat (first | exact Gr.refl _ | assumption | refine Gr.alloc ?_ _ | refine Gr.drewN ?_ _ | refine Gr.drew ?_ | refine Gr.trans ?_ (by assumption))); done)) _ | refine Gr.trans ?_ (by assumption)))⟩
end RG
end Go.Proofs.YtddhaiaapomdjaaGreat
set_option linter.unusedVariables false
set_option linter.unusedSimpArgs false
namespace Go.Proofs.YtddhaiaapomdjaaGreat
set_option linter.unusedVariables false
set_option linter.unusedSimpArgs false
open Go Go.ChangeShapes Go.WideShapes Go.ChangeAt Go.RowKit Go.Deep

namespace RG
end RG
end Go.Proofs.YtddhaiaapomdjaaGreat
set_option linter.unusedVariables false
set_option linter.unusedSimpArgs false
namespace Go.Proofs.YtddhaiaapomdjaaGreat
set_option linter.unusedVariables false
set_option linter.unusedSimpArgs false
open Go Go.ChangeShapes Go.WideShapes Go.ChangeAt Go.RowKit Go.Deep

namespace RG
/-- clear goes both ways -/
theorem ovB_comm (x y w h x' y' w' h' : Int) : ovB x y w h x' y' w' h' = ovB x' y' w' h' x y w h := by
  unfold ovB
  rw [Bool.and_comm (vrB x y w h)]
  congr 1
  unfold soB
  rw [Bool.eq_iff_iff]
  simp only [Bool.and_eq_true, decide_eq_true_eq]
  omega
structure ClC (w0 : World) (A : Option Addr) (n c : Nat) (B : Option Addr) (k d : Nat) (g m : Int) (cm b : Bool) : Prop where
  use : ∀ w', Gr w0 w' → Calls Tryz.prog 123 #[.slice A n c, .slice B k d, stvv ⟨g, m, cm⟩] w' fun e w'' => e = .returned (.bool b) ∧ Gr w' w''
end RG
end Go.Proofs.YtddhaiaapomdjaaGreat
