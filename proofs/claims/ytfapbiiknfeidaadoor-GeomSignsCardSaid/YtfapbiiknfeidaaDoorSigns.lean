/-
  GeomSigns: for every three roots, SignRoot and CompareRoot answer as the document's reference does, and the order is total. On the condition that the table of cosines lies as the program's text lays it (the card ties that).
-/
import Derived.Test.YtfapbiiknfeidaaDoorLaid
namespace Go.Proofs.YtfapbiiknfeidaaDoor
set_option linter.unusedVariables false
set_option linter.unusedSimpArgs false
open Go Go.ChangeShapes Go.WideShapes Go.ChangeAt Go.RowKit Go.Deep

theorem crE_ok {a b c d : Int} (h : crE a b c d = 0) : crB a b c d = true := by
  unfold crE errIf at h
  split at h
  · assumption
  · omega
theorem crB_swap (a b c d : Int) : crB c d a b = crB a b c d := by unfold crB; rw [Bool.and_comm]
theorem crV_back (a b c d : Int) : crV c d a b = - crV a b c d := by
  unfold crV
  rw [crB_swap]
  split
  · rw [← M.sgn_neg, show -(a - c) = c - a by omega, show -(b - d) = d - b by omega]
  · rfl
theorem crV_total (a b c d e f : Int) (h1 : crE a b c d = 0) (h2 : crE c d e f = 0) (h3 : crE a b e f = 0) (h4 : crV a b c d ≤ 0) (h5 : crV c d e f ≤ 0) : crV a b e f ≤ 0 := by
  simp only [crV, crE_ok h1, crE_ok h2, crE_ok h3, if_true] at *
  have := M.sgn_trans (a - c) (b - d) (c - e) (d - f) (by omega) (by omega)
  rwa [show a - c + (c - e) = a - e by omega, show b - d + (d - f) = b - f by omega] at this
theorem crV_range (a b c d : Int) : -1 ≤ crV a b c d ∧ crV a b c d ≤ 1 := by
  unfold crV
  split
  · have := M.sgn_range (a - c) (b - d); omega
  · omega

set_option maxHeartbeats 1000000 in
theorem signs_walk (a b c d e f : Int) (w : World) (ht : Tab w) :
    Calls Tryd.prog 3 #[rt a b, rt c d, rt e f] w fun x w' => x = .returned (.bool true) ∧ Gr w w' := by
  have e1 := crV_back a b c d
  have e2 := crV_total a b c d e f
  obtain ⟨r1, r2⟩ := crV_range a b c d
  have HT := hide ht
  have E1 := hide e1
  have E2 := hide e2
  clear e1 e2 ht
  go_enter Tryd.func3, Tryd.ntmps3
  go_wp2_with (first | (go_at_call 15; refine (SignRoot_any _ _ _).mono ?_; rintro e w1 ⟨rfl, g1⟩; obtain ⟨X1, Y1, c1, f1⟩ := g1.use) | (go_at_call 16; refine (rSignRoot_any _ _ _).mono ?_; rintro e w1 ⟨rfl, g1⟩; obtain ⟨X1, Y1, c1, f1⟩ := g1.use) | (go_at_call 17; refine (CompareRoot_any _ _ _ _ _).mono ?_; rintro e w1 ⟨rfl, g1⟩; obtain ⟨X1, Y1, c1, f1⟩ := g1.use) | (go_at_call 18; refine (rCompareRoot_any _ _ _ _ _).mono ?_; rintro e w1 ⟨rfl, g1⟩; obtain ⟨X1, Y1, c1, f1⟩ := g1.use) | (go_at_call 19; refine (known_any _ (HT.out.gr (by repeat (first | with_reducible exact Gr.refl _ | with_reducible assumption | with_reducible refine Gr.alloc ?_ _ | with_reducible refine Gr.drewN ?_ _ | with_reducible refine Gr.drew ?_ | with_reducible refine Gr.setCell ?_ (by first | (dsimp only; omega) | (simp only [World.size_alloc]; omega) | (with_reducible refine Gr.size ?_; (repeat (first | with_reducible exact Gr.refl _ | with_reducible assumption | with_reducible refine Gr.alloc ?_ _ | with_reducible refine Gr.drewN ?_ _ | with_reducible refine Gr.drew ?_ | with_reducible refine Gr.trans ?_ (by with_reducible assumption))); done)) _ | with_reducible refine Gr.trans ?_ (by with_reducible assumption))))).mono ?_; rintro e w1 ⟨rfl, g1⟩; obtain ⟨X1, Y1, c1, f1⟩ := g1.use))
  all_goals first
    | (exfalso; have h1 := E1.out; have h2 := E2.out; omega)
    | (go_ret; exact ⟨by first | rfl | simp [*], (by repeat (first | with_reducible exact Gr.refl _ | with_reducible assumption | with_reducible refine Gr.alloc ?_ _ | with_reducible refine Gr.drewN ?_ _ | with_reducible refine Gr.drew ?_ | with_reducible refine Gr.setCell ?_ (by first | (dsimp only; omega) | (simp only [World.size_alloc]; omega) | (with_reducible refine Gr.size ?_; (repeat (first | with_reducible exact Gr.refl _ | with_reducible assumption | with_reducible refine Gr.alloc ?_ _ | with_reducible refine Gr.drewN ?_ _ | with_reducible refine Gr.drew ?_ | with_reducible refine Gr.trans ?_ (by with_reducible assumption))); done)) _ | with_reducible refine Gr.trans ?_ (by with_reducible assumption)))⟩)
end Go.Proofs.YtfapbiiknfeidaaDoor
