/-
  GeomHullHolds: the walk.
-/
import Derived.Test.YthfbdieodfilkaaDoorHolds1
import Derived.Test.YthfbdieodfilkaaDoorLaid
namespace Go.Proofs.YthfbdieodfilkaaDoor
set_option linter.unusedVariables false
set_option linter.unusedSimpArgs false
open Go Go.ChangeShapes Go.WideShapes Go.ChangeAt Go.RowKit Go.Deep

theorem long_any (A : Option Addr) (n c : Nat) (w : World) :
    Calls Tryd.prog 11 #[.slice A n c] w fun e w' => e = .returned (.bool (decide (60 < n))) ∧ w = w' := by
  go_enter Tryd.func11, Tryd.ntmps11
  go_wp2
  go_ret
  exact ⟨ret_bool (by simp; omega), rfl⟩
theorem orient_pts (p q x : Pt) (w : World) (hp : pB p = true) (hq : pB q = true) (hx : pB x = true) :
    Calls Tryd.prog 17 #[pv p, pv q, pv x] w fun e w' => e = .returned (.tuple #[iv (orP p q x), iv 0]) ∧ Gr w w' := by
  refine (Orient_any _ _ _ _ _ _ _ _ _ _ _ _ w).mono ?_
  rintro e w' ⟨rfl, g⟩
  unfold pB at hp hq hx
  have ho : orOk p.1 p.2.1 p.2.2.1 p.2.2.2 q.1 q.2.1 q.2.2.1 q.2.2.2 x.1 x.2.1 x.2.2.1 x.2.2.2 = true := by simp [orOk, hp, hq, hx]
  exact ⟨ret_two (by simp [orV, ho, orP]) (by simp [orE, ho, errIf]), g⟩
set_option maxHeartbeats 1000000 in
set_option maxRecDepth 100000 in
theorem holds_no (A : Option Addr) (c : Nat) (xs : List Pt) (w : World) (ht : Tab w) (hx : Rd w A xs) (hno : 60 < xs.length ∨ ckP xs ≠ 0) :
    Calls Tryd.prog 4 #[.slice A xs.length c] w fun x w' => x = .returned (.bool true) ∧ Gr w w' := by
  have HT := hide ht
  have HX := hide hx
  clear ht hx
  have hno' := hide hno
  clear hno
  by_cases h60 : 60 < xs.length
  · go_enter Tryd.func4, Tryd.ntmps4
    go_wp2_with (first | (go_at_call 11; refine (long_any _ _ _ _).mono ?_; rintro e w1 ⟨rfl, rfl⟩) | (go_at_call 12; refine (known_any _ (HT.out.gr (by repeat (first | with_reducible exact Gr.refl _ | with_reducible assumption | with_reducible refine Gr.alloc ?_ _ | with_reducible refine Gr.drewN ?_ _ | with_reducible refine Gr.drew ?_ | with_reducible refine Gr.setCell ?_ (by first | (dsimp only; omega) | (simp only [World.size_alloc]; omega) | (with_reducible refine Gr.size ?_; (repeat (first | with_reducible exact Gr.refl _ | with_reducible assumption | with_reducible refine Gr.alloc ?_ _ | with_reducible refine Gr.drewN ?_ _ | with_reducible refine Gr.drew ?_ | with_reducible refine Gr.trans ?_ (by with_reducible assumption))); done)) _ | with_reducible refine Gr.trans ?_ (by with_reducible assumption))))).mono ?_; rintro e w1 ⟨rfl, g1⟩; obtain ⟨X1, Y1, c1, f1⟩ := g1.use; have z1 := g1.size; (try simp only [World.size_alloc, World.size_setCell, World.heap_drewN, Nat.add_one_le_iff] at z1); (try have l0 : w.heap.size < w1.heap.size := by omega); (try have l1 : w.heap.size + 1 < w1.heap.size := by omega); (try have l2 : w.heap.size + 1 + 1 < w1.heap.size := by omega)))
    all_goals first
      | (exfalso; omega)
      | (go_ret; exact ⟨rfl, (by repeat (first | with_reducible exact Gr.refl _ | with_reducible assumption | with_reducible refine Gr.alloc ?_ _ | with_reducible refine Gr.drewN ?_ _ | with_reducible refine Gr.drew ?_ | with_reducible refine Gr.setCell ?_ (by first | (dsimp only; omega) | (simp only [World.size_alloc]; omega) | (with_reducible refine Gr.size ?_; (repeat (first | with_reducible exact Gr.refl _ | with_reducible assumption | with_reducible refine Gr.alloc ?_ _ | with_reducible refine Gr.drewN ?_ _ | with_reducible refine Gr.drew ?_ | with_reducible refine Gr.trans ?_ (by with_reducible assumption))); done)) _ | with_reducible refine Gr.trans ?_ (by with_reducible assumption)))⟩)
  by_cases hz : ckP xs = 0
  · exact absurd hno'.out (by rw [hz]; simp; omega)
  · have hcon : Calls Tryd.prog 14 #[.slice A xs.length c] w fun e w' => ∃ A1 c1, e = .returned (.tuple #[.slice A1 0 c1, iv (ckP xs)]) ∧ Gr w w' := by
      refine (Hull_any A c xs w HX.out (by omega)).mono ?_
      rintro e w' ⟨v, ys, rfl, ho, g, hr⟩
      rcases hr with ⟨_, rfl⟩ | ⟨hr, _⟩
      · obtain ⟨A1, c1, rfl⟩ := ho.slice
        exact ⟨A1, c1, rfl, g⟩
      · exact absurd hr hz
    have hzb : (ckP xs != 0) = true := by simp [hz]
    have hdl : decide (60 < xs.length) = false := by simp; omega
    generalize hk : ckP xs = z at *
    have HK := hide hk
    clear hk
    go_enter Tryd.func4, Tryd.ntmps4
    go_wp2_with (first | (go_at_call 11; refine (long_any _ _ _ _).mono ?_; rintro e w1 ⟨rfl, rfl⟩) | (go_at_call 14; refine hcon.mono ?_; rintro e w1 ⟨A1, c1, rfl, g1⟩) | (go_at_call 12; refine (known_any _ (HT.out.gr (by repeat (first | with_reducible exact Gr.refl _ | with_reducible assumption | with_reducible refine Gr.alloc ?_ _ | with_reducible refine Gr.drewN ?_ _ | with_reducible refine Gr.drew ?_ | with_reducible refine Gr.setCell ?_ (by first | (dsimp only; omega) | (simp only [World.size_alloc]; omega) | (with_reducible refine Gr.size ?_; (repeat (first | with_reducible exact Gr.refl _ | with_reducible assumption | with_reducible refine Gr.alloc ?_ _ | with_reducible refine Gr.drewN ?_ _ | with_reducible refine Gr.drew ?_ | with_reducible refine Gr.trans ?_ (by with_reducible assumption))); done)) _ | with_reducible refine Gr.trans ?_ (by with_reducible assumption))))).mono ?_; rintro e w1 ⟨rfl, g1⟩; obtain ⟨X1, Y1, c1, f1⟩ := g1.use; have z1 := g1.size; (try simp only [World.size_alloc, World.size_setCell, World.heap_drewN, Nat.add_one_le_iff] at z1); (try have l0 : w.heap.size < w1.heap.size := by omega); (try have l1 : w.heap.size + 1 < w1.heap.size := by omega); (try have l2 : w.heap.size + 1 + 1 < w1.heap.size := by omega)))
    all_goals
      go_ret
      exact ⟨rfl, (by repeat (first | with_reducible exact Gr.refl _ | with_reducible assumption | with_reducible refine Gr.alloc ?_ _ | with_reducible refine Gr.drewN ?_ _ | with_reducible refine Gr.drew ?_ | with_reducible refine Gr.setCell ?_ (by first | (dsimp only; omega) | (simp only [World.size_alloc]; omega) | (with_reducible refine Gr.size ?_; (repeat (first | with_reducible exact Gr.refl _ | with_reducible assumption | with_reducible refine Gr.alloc ?_ _ | with_reducible refine Gr.drewN ?_ _ | with_reducible refine Gr.drew ?_ | with_reducible refine Gr.trans ?_ (by with_reducible assumption))); done)) _ | with_reducible refine Gr.trans ?_ (by with_reducible assumption)))⟩
end Go.Proofs.YthfbdieodfilkaaDoor
