/-
  The reference's Meets; GeomMeets: the walk.
-/
import Derived.Test.YtegehdidfmcflaaDoorWrap5
set_option linter.unusedVariables false
set_option linter.unusedSimpArgs false
namespace Go.Proofs.YtegehdidfmcflaaDoor
set_option linter.unusedVariables false
set_option linter.unusedSimpArgs false
open Go Go.ChangeShapes Go.WideShapes Go.ChangeAt Go.RowKit Go.Deep

theorem ckP2_eq (xs ys : List Pt) : ckP2 xs ys = if badLen xs.length || badLen ys.length then 1 else if anyBad xs || anyBad ys then 4 else 0 := by
  unfold ckP2 ckE anyBad
  simp only [List.any_cons, List.any_nil, Bool.or_false]
set_option maxHeartbeats 4000000 in
set_option maxRecDepth 100000 in
theorem rMeets_any (A B : Option Addr) (c d : Nat) (xs ys : List Pt) (w : World) (hx : Rd w A xs) (hy : Rd w B ys) (lx : xs.length ≤ 1000000) (ly : ys.length ≤ 1000000) :
    Calls Tryd.prog 12 #[.slice A xs.length c, .slice B ys.length d] w fun e w' => ∃ b r, e = .returned (.tuple #[.bool b, iv r]) ∧ Gr w w' ∧ MeetsRes xs ys b r := by
  have HPX := hide (fun w' => rpointsIn_any A xs.length c w' lx)
  have HPY := hide (fun w' => rpointsIn_any B ys.length d w' ly)
  have HAX := hide (fun (w' : World) (g : Gr w w') => rallSmall_any A c xs w' (hx.gr g) lx)
  have HAY := hide (fun (w' : World) (g : Gr w w') => rallSmall_any B d ys w' (hy.gr g) ly)
  cases hbx : badLen xs.length with
  | true =>
    have hR := hide (show MeetsRes xs ys false 1 from .inl ⟨by rw [ckP2_eq, hbx]; simp, by rw [ckP2_eq, hbx]; rfl, rfl⟩)
    rw [hbx] at HPX
    clear hbx hx hy
    go_enter Tryd.func12, Tryd.ntmps12
    go_wp2_with fail
    refine (HPX.out _).mono ?_
    rintro e w1 ⟨rfl, g1⟩
    go_wp2
    go_ret2
    exact ⟨false, 1, rfl, (by repeat (first | with_reducible exact Gr.refl _ | with_reducible assumption | with_reducible refine Gr.alloc ?_ _ | with_reducible refine Gr.drewN ?_ _ | with_reducible refine Gr.drew ?_ | with_reducible refine Gr.setCell ?_ (by first | (dsimp only; omega) | (simp only [World.size_alloc]; omega) | (with_reducible refine Gr.size ?_; (repeat (first | with_reducible exact Gr.refl _ | with_reducible assumption | with_reducible refine Gr.alloc ?_ _ | with_reducible refine Gr.drewN ?_ _ | with_reducible refine Gr.drew ?_ | with_reducible refine Gr.trans ?_ (by with_reducible assumption))); done)) _ | with_reducible refine Gr.trans ?_ (by with_reducible assumption))), hR.out⟩
  | false =>
    cases hby : badLen ys.length with
    | true =>
      have hR := hide (show MeetsRes xs ys false 1 from .inl ⟨by rw [ckP2_eq, hbx, hby]; simp, by rw [ckP2_eq, hbx, hby]; rfl, rfl⟩)
      rw [hbx] at HPX
      rw [hby] at HPY
      clear hbx hby hx hy
      go_enter Tryd.func12, Tryd.ntmps12
      go_wp2_with fail
      refine (HPX.out _).mono ?_
      rintro e w1 ⟨rfl, g1⟩
      go_wp2_with fail
      refine (HPY.out _).mono ?_
      rintro e w2 ⟨rfl, g2⟩
      go_wp2
      go_ret2
      exact ⟨false, 1, rfl, (by repeat (first | with_reducible exact Gr.refl _ | with_reducible assumption | with_reducible refine Gr.alloc ?_ _ | with_reducible refine Gr.drewN ?_ _ | with_reducible refine Gr.drew ?_ | with_reducible refine Gr.setCell ?_ (by first | (dsimp only; omega) | (simp only [World.size_alloc]; omega) | (with_reducible refine Gr.size ?_; (repeat (first | with_reducible exact Gr.refl _ | with_reducible assumption | with_reducible refine Gr.alloc ?_ _ | with_reducible refine Gr.drewN ?_ _ | with_reducible refine Gr.drew ?_ | with_reducible refine Gr.trans ?_ (by with_reducible assumption))); done)) _ | with_reducible refine Gr.trans ?_ (by with_reducible assumption))), hR.out⟩
    | false =>
      cases hsx : anyBad xs with
      | true =>
        have hR := hide (show MeetsRes xs ys false 4 from .inl ⟨by rw [ckP2_eq, hbx, hby, hsx]; simp, by rw [ckP2_eq, hbx, hby, hsx]; rfl, rfl⟩)
        rw [hbx] at HPX
        rw [hby] at HPY
        rw [hsx] at HAX
        clear hbx hby hx hy hsx
        go_enter Tryd.func12, Tryd.ntmps12
        go_wp2_with fail
        refine (HPX.out _).mono ?_
        rintro e w1 ⟨rfl, g1⟩
        go_wp2_with fail
        refine (HPY.out _).mono ?_
        rintro e w2 ⟨rfl, g2⟩
        go_wp2_with fail
        refine (HAX.out _ (g1.trans g2)).mono ?_
        rintro e w3 ⟨rfl, g3⟩
        go_wp2
        go_ret2
        exact ⟨false, 4, rfl, (by repeat (first | with_reducible exact Gr.refl _ | with_reducible assumption | with_reducible refine Gr.alloc ?_ _ | with_reducible refine Gr.drewN ?_ _ | with_reducible refine Gr.drew ?_ | with_reducible refine Gr.setCell ?_ (by first | (dsimp only; omega) | (simp only [World.size_alloc]; omega) | (with_reducible refine Gr.size ?_; (repeat (first | with_reducible exact Gr.refl _ | with_reducible assumption | with_reducible refine Gr.alloc ?_ _ | with_reducible refine Gr.drewN ?_ _ | with_reducible refine Gr.drew ?_ | with_reducible refine Gr.trans ?_ (by with_reducible assumption))); done)) _ | with_reducible refine Gr.trans ?_ (by with_reducible assumption))), hR.out⟩
      | false =>
        cases hsy : anyBad ys with
        | true =>
          have hR := hide (show MeetsRes xs ys false 4 from .inl ⟨by rw [ckP2_eq, hbx, hby, hsx, hsy]; simp, by rw [ckP2_eq, hbx, hby, hsx, hsy]; rfl, rfl⟩)
          rw [hbx] at HPX
          rw [hby] at HPY
          rw [hsx] at HAX
          rw [hsy] at HAY
          clear hbx hby hx hy hsx hsy
          go_enter Tryd.func12, Tryd.ntmps12
          go_wp2_with fail
          refine (HPX.out _).mono ?_
          rintro e w1 ⟨rfl, g1⟩
          go_wp2_with fail
          refine (HPY.out _).mono ?_
          rintro e w2 ⟨rfl, g2⟩
          go_wp2_with fail
          refine (HAX.out _ (g1.trans g2)).mono ?_
          rintro e w3 ⟨rfl, g3⟩
          go_wp2_with fail
          refine (HAY.out _ ((g1.trans g2).trans g3)).mono ?_
          rintro e w4 ⟨rfl, g4⟩
          go_wp2
          go_ret2
          exact ⟨false, 4, rfl, (by repeat (first | with_reducible exact Gr.refl _ | with_reducible assumption | with_reducible refine Gr.alloc ?_ _ | with_reducible refine Gr.drewN ?_ _ | with_reducible refine Gr.drew ?_ | with_reducible refine Gr.setCell ?_ (by first | (dsimp only; omega) | (simp only [World.size_alloc]; omega) | (with_reducible refine Gr.size ?_; (repeat (first | with_reducible exact Gr.refl _ | with_reducible assumption | with_reducible refine Gr.alloc ?_ _ | with_reducible refine Gr.drewN ?_ _ | with_reducible refine Gr.drew ?_ | with_reducible refine Gr.trans ?_ (by with_reducible assumption))); done)) _ | with_reducible refine Gr.trans ?_ (by with_reducible assumption))), hR.out⟩
        | false =>
          have e1 := ckP_ok hbx hsx
          have e2 := ckP_ok hby hsy
          have e3 : ckP2 xs ys = 0 := ckP2_zero.2 ⟨e1, e2⟩
          obtain ⟨y1, y2, y3⟩ := ckP_zero e2
          obtain ⟨a, t, ra⟩ := run_pts (ckP_ne e1)
          obtain ⟨u, s, rb⟩ := run_pts (ckP_ne e2)
          have HW := hide (fun (w' : World) (g : Gr w w') => wrap_any B d ys w' u s (hy.gr g) (fun p hp => pIn_of (y3 p hp)) y1 (by omega) rb)
          rw [hbx] at HPX
          rw [hby] at HPY
          rw [hsx] at HAX
          rw [hsy] at HAY
          by_cases hs2 : s.length < 2
          · have hR := hide (show MeetsRes xs ys false 6 from .inr ⟨e3, a, t, u, s, ra, rb, .inl ⟨hs2, rfl, rfl⟩⟩)
            have hls : (u :: s).length < 3 := by simp; omega
            generalize u :: s = us at *
            have hl3 : (us.length : Int) < 3 := by omega
            clear hbx hby hx hy hsx hsy ra rb y3 e1 e2 e3
            go_enter Tryd.func12, Tryd.ntmps12
            go_wp2_with fail
            refine (HPX.out _).mono ?_
            rintro e w1 ⟨rfl, g1⟩
            go_wp2_with fail
            refine (HPY.out _).mono ?_
            rintro e w2 ⟨rfl, g2⟩
            go_wp2_with fail
            refine (HAX.out _ (g1.trans g2)).mono ?_
            rintro e w3 ⟨rfl, g3⟩
            go_wp2_with fail
            refine (HAY.out _ ((g1.trans g2).trans g3)).mono ?_
            rintro e w4 ⟨rfl, g4⟩
            go_wp2_with fail
            refine (HW.out _ (((g1.trans g2).trans g3).trans g4)).mono ?_
            rintro e w5 ⟨v5, rfl, o5, g5⟩
            obtain ⟨A5, c5, rfl⟩ := o5.slice
            clear o5
            go_wp2
            go_ret2
            exact ⟨false, 6, rfl, (by repeat (first | with_reducible exact Gr.refl _ | with_reducible assumption | with_reducible refine Gr.alloc ?_ _ | with_reducible refine Gr.drewN ?_ _ | with_reducible refine Gr.drew ?_ | with_reducible refine Gr.setCell ?_ (by first | (dsimp only; omega) | (simp only [World.size_alloc]; omega) | (with_reducible refine Gr.size ?_; (repeat (first | with_reducible exact Gr.refl _ | with_reducible assumption | with_reducible refine Gr.alloc ?_ _ | with_reducible refine Gr.drewN ?_ _ | with_reducible refine Gr.drew ?_ | with_reducible refine Gr.trans ?_ (by with_reducible assumption))); done)) _ | with_reducible refine Gr.trans ?_ (by with_reducible assumption))), hR.out⟩
          · have hsn : s ≠ [] := by rintro rfl; simp at hs2
            have HM := hide (fun (w' : World) (g : Gr w w') => rmeets_any A B c d xs ys w' (hx.gr g) (hy.gr g) e1 e2 a u t s ra rb hsn)
            have HR := hide (fun (b : Bool) (h : b = true ↔ G.Meet ((a :: t).map vOf) ((u :: s).map vOf)) => (show MeetsRes xs ys b 0 from .inr ⟨e3, a, t, u, s, ra, rb, .inr ⟨by omega, rfl, h⟩⟩))
            have hls : ¬ (u :: s).length < 3 := by simp; omega
            generalize G.Meet ((a :: t).map vOf) ((u :: s).map vOf) = MEET at *
            generalize u :: s = us at *
            have hl3 : ¬ (us.length : Int) < 3 := by omega
            clear hbx hby hx hy hsx hsy ra rb y3 e1 e2 e3
            go_enter Tryd.func12, Tryd.ntmps12
            go_wp2_with fail
            refine (HPX.out _).mono ?_
            rintro e w1 ⟨rfl, g1⟩
            go_wp2_with fail
            refine (HPY.out _).mono ?_
            rintro e w2 ⟨rfl, g2⟩
            go_wp2_with fail
            refine (HAX.out _ (g1.trans g2)).mono ?_
            rintro e w3 ⟨rfl, g3⟩
            go_wp2_with fail
            refine (HAY.out _ ((g1.trans g2).trans g3)).mono ?_
            rintro e w4 ⟨rfl, g4⟩
            go_wp2_with fail
            refine (HW.out _ (((g1.trans g2).trans g3).trans g4)).mono ?_
            rintro e w5 ⟨v5, rfl, o5, g5⟩
            obtain ⟨A5, c5, rfl⟩ := o5.slice
            have g15 := (((g1.trans g2).trans g3).trans g4).trans g5
            clear o5
            go_wp2_with fail
            refine (HM.out _ g15).mono ?_
            rintro e w6 ⟨b, rfl, hb, g6⟩
            have HB := hide (HR.out b hb)
            clear hb
            go_wp2
            go_ret2
            exact ⟨b, 0, rfl, g15.trans g6, HB.out⟩
theorem rMeets_at {xs ys : List Pt} {b : Bool} {r : Int} (h : MeetsRes xs ys b r) (A B : Option Addr) (c d : Nat) (w : World) (hx : Rd w A xs) (hy : Rd w B ys) (lx : xs.length ≤ 1000000) (ly : ys.length ≤ 1000000) :
    Calls Tryd.prog 12 #[.slice A xs.length c, .slice B ys.length d] w fun e w' => e = .returned (.tuple #[.bool b, iv r]) ∧ Gr w w' :=
  (rMeets_any A B c d xs ys w hx hy lx ly).mono fun e w' ⟨b', r', he, g, k⟩ => by
    obtain ⟨rfl, rfl⟩ := h.uniq k
    exact ⟨he, g⟩
set_option maxHeartbeats 4000000 in
set_option maxRecDepth 100000 in
theorem meets_walk (A B : Option Addr) (c d : Nat) (xs ys : List Pt) (w : World) (ht : Tab w) (hx : Rd w A xs) (hy : Rd w B ys) :
    Calls Tryd.prog 4 #[.slice A xs.length c, .slice B ys.length d] w fun x w' => x = .returned (.bool true) ∧ Gr w w' := by
  have HT := hide ht
  have HX := hide hx
  have HY := hide hy
  clear ht hx hy
  by_cases hlo : 60 < xs.length
  · have hdl : decide (60 < xs.length) = true := by simpa using hlo
    go_enter Tryd.func4, Tryd.ntmps4
    go_wp2_with (first | (go_at_call 5; refine (long_any _ _ _ _).mono ?_; rintro e w1 ⟨rfl, rfl⟩) | (go_at_call 6; refine (known_any _ (HT.out.gr (by repeat (first | with_reducible exact Gr.refl _ | with_reducible assumption | with_reducible refine Gr.alloc ?_ _ | with_reducible refine Gr.drewN ?_ _ | with_reducible refine Gr.drew ?_ | with_reducible refine Gr.setCell ?_ (by first | (dsimp only; omega) | (simp only [World.size_alloc]; omega) | (with_reducible refine Gr.size ?_; (repeat (first | with_reducible exact Gr.refl _ | with_reducible assumption | with_reducible refine Gr.alloc ?_ _ | with_reducible refine Gr.drewN ?_ _ | with_reducible refine Gr.drew ?_ | with_reducible refine Gr.trans ?_ (by with_reducible assumption))); done)) _ | with_reducible refine Gr.trans ?_ (by with_reducible assumption))))).mono ?_; rintro e w1 ⟨rfl, g1⟩; obtain ⟨X1, Y1, c1, f1⟩ := g1.use; have z1 := g1.size; (try simp only [World.size_alloc, World.size_setCell, World.heap_drewN, Nat.add_one_le_iff] at z1); (try have l0 : w.heap.size < w1.heap.size := by omega); (try have l1 : w.heap.size + 1 < w1.heap.size := by omega); (try have l2 : w.heap.size + 1 + 1 < w1.heap.size := by omega)))
    go_ret
    exact ⟨rfl, (by repeat (first | with_reducible exact Gr.refl _ | with_reducible assumption | with_reducible refine Gr.alloc ?_ _ | with_reducible refine Gr.drewN ?_ _ | with_reducible refine Gr.drew ?_ | with_reducible refine Gr.setCell ?_ (by first | (dsimp only; omega) | (simp only [World.size_alloc]; omega) | (with_reducible refine Gr.size ?_; (repeat (first | with_reducible exact Gr.refl _ | with_reducible assumption | with_reducible refine Gr.alloc ?_ _ | with_reducible refine Gr.drewN ?_ _ | with_reducible refine Gr.drew ?_ | with_reducible refine Gr.trans ?_ (by with_reducible assumption))); done)) _ | with_reducible refine Gr.trans ?_ (by with_reducible assumption)))⟩
  · have hdl : decide (60 < xs.length) = false := by simpa using hlo
    by_cases hlo2 : 60 < ys.length
    · have hdl2 : decide (60 < ys.length) = true := by simpa using hlo2
      go_enter Tryd.func4, Tryd.ntmps4
      go_wp2_with (first | (go_at_call 5; refine (long_any _ _ _ _).mono ?_; rintro e w1 ⟨rfl, rfl⟩) | (go_at_call 6; refine (known_any _ (HT.out.gr (by repeat (first | with_reducible exact Gr.refl _ | with_reducible assumption | with_reducible refine Gr.alloc ?_ _ | with_reducible refine Gr.drewN ?_ _ | with_reducible refine Gr.drew ?_ | with_reducible refine Gr.setCell ?_ (by first | (dsimp only; omega) | (simp only [World.size_alloc]; omega) | (with_reducible refine Gr.size ?_; (repeat (first | with_reducible exact Gr.refl _ | with_reducible assumption | with_reducible refine Gr.alloc ?_ _ | with_reducible refine Gr.drewN ?_ _ | with_reducible refine Gr.drew ?_ | with_reducible refine Gr.trans ?_ (by with_reducible assumption))); done)) _ | with_reducible refine Gr.trans ?_ (by with_reducible assumption))))).mono ?_; rintro e w1 ⟨rfl, g1⟩; obtain ⟨X1, Y1, c1, f1⟩ := g1.use; have z1 := g1.size; (try simp only [World.size_alloc, World.size_setCell, World.heap_drewN, Nat.add_one_le_iff] at z1); (try have l0 : w.heap.size < w1.heap.size := by omega); (try have l1 : w.heap.size + 1 < w1.heap.size := by omega); (try have l2 : w.heap.size + 1 + 1 < w1.heap.size := by omega)))
      go_ret
      exact ⟨rfl, (by repeat (first | with_reducible exact Gr.refl _ | with_reducible assumption | with_reducible refine Gr.alloc ?_ _ | with_reducible refine Gr.drewN ?_ _ | with_reducible refine Gr.drew ?_ | with_reducible refine Gr.setCell ?_ (by first | (dsimp only; omega) | (simp only [World.size_alloc]; omega) | (with_reducible refine Gr.size ?_; (repeat (first | with_reducible exact Gr.refl _ | with_reducible assumption | with_reducible refine Gr.alloc ?_ _ | with_reducible refine Gr.drewN ?_ _ | with_reducible refine Gr.drew ?_ | with_reducible refine Gr.trans ?_ (by with_reducible assumption))); done)) _ | with_reducible refine Gr.trans ?_ (by with_reducible assumption)))⟩
    · have hdl2 : decide (60 < ys.length) = false := by simpa using hlo2
      obtain ⟨b, r, h⟩ := MeetsRes.ex xs ys
      have HM1 := hide (fun (w' : World) (g : Gr w w') => Meets_at h A B c d w' (HX.out.gr g) (HY.out.gr g) (by omega) (by omega))
      have HM2 := hide (fun (w' : World) (g : Gr w w') => rMeets_at h A B c d w' (HX.out.gr g) (HY.out.gr g) (by omega) (by omega))
      clear h
      go_enter Tryd.func4, Tryd.ntmps4
      go_wp2_with (go_at_call 5; refine (long_any _ _ _ _).mono ?_; rintro e w1 ⟨rfl, rfl⟩)
      refine (HM1.out _ (Gr.refl _)).mono ?_
      rintro e w1 ⟨rfl, g1⟩
      go_wp2_with fail
      refine (HM2.out _ g1).mono ?_
      rintro e w2 ⟨rfl, g2⟩
      go_wp2_with (first | (go_at_call 6; refine (known_any _ (HT.out.gr (by repeat (first | with_reducible exact Gr.refl _ | with_reducible assumption | with_reducible refine Gr.alloc ?_ _ | with_reducible refine Gr.drewN ?_ _ | with_reducible refine Gr.drew ?_ | with_reducible refine Gr.setCell ?_ (by first | (dsimp only; omega) | (simp only [World.size_alloc]; omega) | (with_reducible refine Gr.size ?_; (repeat (first | with_reducible exact Gr.refl _ | with_reducible assumption | with_reducible refine Gr.alloc ?_ _ | with_reducible refine Gr.drewN ?_ _ | with_reducible refine Gr.drew ?_ | with_reducible refine Gr.trans ?_ (by with_reducible assumption))); done)) _ | with_reducible refine Gr.trans ?_ (by with_reducible assumption))))).mono ?_; rintro e w1 ⟨rfl, g1⟩; obtain ⟨X1, Y1, c1, f1⟩ := g1.use; have z1 := g1.size; (try simp only [World.size_alloc, World.size_setCell, World.heap_drewN, Nat.add_one_le_iff] at z1); (try have l0 : w.heap.size < w1.heap.size := by omega); (try have l1 : w.heap.size + 1 < w1.heap.size := by omega); (try have l2 : w.heap.size + 1 + 1 < w1.heap.size := by omega)))
      go_ret
      exact ⟨rfl, (by repeat (first | with_reducible exact Gr.refl _ | with_reducible assumption | with_reducible refine Gr.alloc ?_ _ | with_reducible refine Gr.drewN ?_ _ | with_reducible refine Gr.drew ?_ | with_reducible refine Gr.setCell ?_ (by first | (dsimp only; omega) | (simp only [World.size_alloc]; omega) | (with_reducible refine Gr.size ?_; (repeat (first | with_reducible exact Gr.refl _ | with_reducible assumption | with_reducible refine Gr.alloc ?_ _ | with_reducible refine Gr.drewN ?_ _ | with_reducible refine Gr.drew ?_ | with_reducible refine Gr.trans ?_ (by with_reducible assumption))); done)) _ | with_reducible refine Gr.trans ?_ (by with_reducible assumption)))⟩
end Go.Proofs.YtegehdidfmcflaaDoor
