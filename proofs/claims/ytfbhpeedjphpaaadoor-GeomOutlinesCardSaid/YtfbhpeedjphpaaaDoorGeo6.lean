/-
  What Turn returns, and that 'known' says true where the table of cosines lies.
-/
import Derived.Test.YtfbhpeedjphpaaaDoorGeo5
namespace Go.Proofs.YtfbhpeedjphpaaaDoor
set_option linter.unusedVariables false
set_option linter.unusedSimpArgs false
open Go Go.ChangeShapes Go.WideShapes Go.ChangeAt Go.RowKit Go.Deep

def tuOk (x y k : Int) : Bool := sinB x y && (decide (0 ≤ k) && decide (k ≤ 11))
def tuA (x y k : Int) : Int := if tuOk x y k then tnA x y k.toNat else 0
def tuB (x y k : Int) : Int := if tuOk x y k then tnB x y k.toNat else 0
def tuC (x y k : Int) : Int := if tuOk x y k then tnC x y k.toNat else 0
def tuD (x y k : Int) : Int := if tuOk x y k then tnD x y k.toNat else 0
def tuE (x y k : Int) : Int := errIf (tuOk x y k) 1
theorem slim_of {x y : Int} (h : sinB x y = true) : Lim 1000 x ∧ Lim 1000 y := by
  simp only [sinB, Bool.and_eq_true] at h
  exact ⟨lim_of h.1, lim_of h.2⟩
theorem ret_turn {a b c d e a' b' c' d' e' : Int} (h1 : a = a') (h2 : b = b') (h3 : c = c') (h4 : d = d') (h5 : e = e') : Ending.returned (.tuple #[pt a b c d, iv e]) = .returned (.tuple #[pt a' b' c' d', iv e']) := by rw [h1, h2, h3, h4, h5]
theorem Turn_any (x y k : Int) (w : World) (ht : Tab w) :
    Calls Tryd.prog 17 #[sp x y, iv k] w fun e w' => e = .returned (.tuple #[pt (tuA x y k) (tuB x y k) (tuC x y k) (tuD x y k), iv (tuE x y k)]) ∧ Gr w w' := by
  by_cases h1 : sinB x y = true
  · by_cases h2 : 0 ≤ k
    · by_cases h3 : k < 12
      · obtain ⟨hx, hy⟩ := slim_of h1
        obtain ⟨k, rfl⟩ := Int.eq_ofNat_of_zero_le h2
        have ok : tuOk x y k = true := by simp [tuOk, h1]; omega
        have OK := hide ok
        clear ok
        have HT := hide ht
        go_enter Tryd.func17, Tryd.ntmps17
        go_wp2_with (first | (go_at_call 32; refine (spotWithin_any _ _ _).mono ?_; rintro e w1 ⟨rfl, g1⟩; obtain ⟨X1, Y1, c1, f1⟩ := g1.use) | (go_at_call 33; refine (turn_any _ _ _ _ hx hy (by omega) (HT.out.gr (by repeat (first | with_reducible exact Gr.refl _ | with_reducible assumption | with_reducible refine Gr.alloc ?_ _ | with_reducible refine Gr.drewN ?_ _ | with_reducible refine Gr.drew ?_ | with_reducible refine Gr.setCell ?_ (by first | (dsimp only; omega) | (simp only [World.size_alloc]; omega) | (with_reducible refine Gr.size ?_; (repeat (first | with_reducible exact Gr.refl _ | with_reducible assumption | with_reducible refine Gr.alloc ?_ _ | with_reducible refine Gr.drewN ?_ _ | with_reducible refine Gr.drew ?_ | with_reducible refine Gr.trans ?_ (by with_reducible assumption))); done)) _ | with_reducible refine Gr.trans ?_ (by with_reducible assumption))))).mono ?_; rintro e w1 ⟨rfl, g1⟩; obtain ⟨X1, Y1, c1, f1⟩ := g1.use))
        refine bodyPost_ret (v := .tuple #[pt (tnA x y k) (tnB x y k) (tnC x y k) (tnD x y k), iv 0]) (by simp [results, Tryd.results17, go_sem, *]) rfl ⟨ret_turn (by simp [tuA, OK.out]) (by simp [tuB, OK.out]) (by simp [tuC, OK.out]) (by simp [tuD, OK.out]) (by simp [tuE, errIf, OK.out]), (by repeat (first | with_reducible exact Gr.refl _ | with_reducible assumption | with_reducible refine Gr.alloc ?_ _ | with_reducible refine Gr.drewN ?_ _ | with_reducible refine Gr.drew ?_ | with_reducible refine Gr.setCell ?_ (by first | (dsimp only; omega) | (simp only [World.size_alloc]; omega) | (with_reducible refine Gr.size ?_; (repeat (first | with_reducible exact Gr.refl _ | with_reducible assumption | with_reducible refine Gr.alloc ?_ _ | with_reducible refine Gr.drewN ?_ _ | with_reducible refine Gr.drew ?_ | with_reducible refine Gr.trans ?_ (by with_reducible assumption))); done)) _ | with_reducible refine Gr.trans ?_ (by with_reducible assumption)))⟩
      · have ok : tuOk x y k = false := by simp [tuOk]; omega
        have OK := hide ok
        clear ok
        go_enter Tryd.func17, Tryd.ntmps17
        go_wp2_with (first | (go_at_call 32; refine (spotWithin_any _ _ _).mono ?_; rintro e w1 ⟨rfl, g1⟩; obtain ⟨X1, Y1, c1, f1⟩ := g1.use))
        refine bodyPost_ret (v := .tuple #[pt 0 0 0 0, iv 1]) (by simp [results, Tryd.results17, go_sem, *]) rfl ⟨ret_turn (by simp [tuA, OK.out]) (by simp [tuB, OK.out]) (by simp [tuC, OK.out]) (by simp [tuD, OK.out]) (by simp [tuE, errIf, OK.out]), (by repeat (first | with_reducible exact Gr.refl _ | with_reducible assumption | with_reducible refine Gr.alloc ?_ _ | with_reducible refine Gr.drewN ?_ _ | with_reducible refine Gr.drew ?_ | with_reducible refine Gr.setCell ?_ (by first | (dsimp only; omega) | (simp only [World.size_alloc]; omega) | (with_reducible refine Gr.size ?_; (repeat (first | with_reducible exact Gr.refl _ | with_reducible assumption | with_reducible refine Gr.alloc ?_ _ | with_reducible refine Gr.drewN ?_ _ | with_reducible refine Gr.drew ?_ | with_reducible refine Gr.trans ?_ (by with_reducible assumption))); done)) _ | with_reducible refine Gr.trans ?_ (by with_reducible assumption)))⟩
    · have ok : tuOk x y k = false := by simp [tuOk]; omega
      have OK := hide ok
      clear ok
      go_enter Tryd.func17, Tryd.ntmps17
      go_wp2_with (first | (go_at_call 32; refine (spotWithin_any _ _ _).mono ?_; rintro e w1 ⟨rfl, g1⟩; obtain ⟨X1, Y1, c1, f1⟩ := g1.use))
      refine bodyPost_ret (v := .tuple #[pt 0 0 0 0, iv 1]) (by simp [results, Tryd.results17, go_sem, *]) rfl ⟨ret_turn (by simp [tuA, OK.out]) (by simp [tuB, OK.out]) (by simp [tuC, OK.out]) (by simp [tuD, OK.out]) (by simp [tuE, errIf, OK.out]), (by repeat (first | with_reducible exact Gr.refl _ | with_reducible assumption | with_reducible refine Gr.alloc ?_ _ | with_reducible refine Gr.drewN ?_ _ | with_reducible refine Gr.drew ?_ | with_reducible refine Gr.setCell ?_ (by first | (dsimp only; omega) | (simp only [World.size_alloc]; omega) | (with_reducible refine Gr.size ?_; (repeat (first | with_reducible exact Gr.refl _ | with_reducible assumption | with_reducible refine Gr.alloc ?_ _ | with_reducible refine Gr.drewN ?_ _ | with_reducible refine Gr.drew ?_ | with_reducible refine Gr.trans ?_ (by with_reducible assumption))); done)) _ | with_reducible refine Gr.trans ?_ (by with_reducible assumption)))⟩
  · have h1' : sinB x y = false := by simpa using h1
    clear h1
    have ok : tuOk x y k = false := by simp [tuOk, h1']
    have OK := hide ok
    clear ok
    go_enter Tryd.func17, Tryd.ntmps17
    go_wp2_with (first | (go_at_call 32; refine (spotWithin_any _ _ _).mono ?_; rintro e w1 ⟨rfl, g1⟩; obtain ⟨X1, Y1, c1, f1⟩ := g1.use))
    refine bodyPost_ret (v := .tuple #[pt 0 0 0 0, iv 1]) (by simp [results, Tryd.results17, go_sem, *]) rfl ⟨ret_turn (by simp [tuA, OK.out]) (by simp [tuB, OK.out]) (by simp [tuC, OK.out]) (by simp [tuD, OK.out]) (by simp [tuE, errIf, OK.out]), (by repeat (first | with_reducible exact Gr.refl _ | with_reducible assumption | with_reducible refine Gr.alloc ?_ _ | with_reducible refine Gr.drewN ?_ _ | with_reducible refine Gr.drew ?_ | with_reducible refine Gr.setCell ?_ (by first | (dsimp only; omega) | (simp only [World.size_alloc]; omega) | (with_reducible refine Gr.size ?_; (repeat (first | with_reducible exact Gr.refl _ | with_reducible assumption | with_reducible refine Gr.alloc ?_ _ | with_reducible refine Gr.drewN ?_ _ | with_reducible refine Gr.drew ?_ | with_reducible refine Gr.trans ?_ (by with_reducible assumption))); done)) _ | with_reducible refine Gr.trans ?_ (by with_reducible assumption)))⟩
theorem known_any (w : World) (ht : Tab w) : Calls Tryd.prog 6 #[] w fun e w' => e = .returned (.bool true) ∧ Gr w w' := by
  have e1 : srV 7 (-4) = 1 := by decide
  have e2 : srE 7 (-4) = 0 := by decide
  have e3 : tuA 2 0 1 = 0 := by decide
  have e4 : tuB 2 0 1 = 2 := by decide
  have e5 : tuC 2 0 1 = 2 := by decide
  have e6 : tuD 2 0 1 = 0 := by decide
  have e7 : tuE 2 0 1 = 0 := by decide
  have HT := hide ht
  have C1 := SignRoot_any 7 (-4)
  rw [e1, e2] at C1
  have C2 := fun w h => Turn_any 2 0 1 w h
  rw [e3, e4, e5, e6, e7] at C2
  have C1 := hide C1
  have C2 := hide C2
  clear e1 e2 e3 e4 e5 e6 e7 ht
  go_enter Tryd.func6, Tryd.ntmps6
  go_wp2_with (first | (go_at_call 16; refine (C1.out _).mono ?_; rintro e w1 ⟨rfl, g1⟩; obtain ⟨X1, Y1, c1, f1⟩ := g1.use) | (go_at_call 17; refine (C2.out _ (HT.out.gr (by repeat (first | with_reducible exact Gr.refl _ | with_reducible assumption | with_reducible refine Gr.alloc ?_ _ | with_reducible refine Gr.drewN ?_ _ | with_reducible refine Gr.drew ?_ | with_reducible refine Gr.setCell ?_ (by first | (dsimp only; omega) | (simp only [World.size_alloc]; omega) | (with_reducible refine Gr.size ?_; (repeat (first | with_reducible exact Gr.refl _ | with_reducible assumption | with_reducible refine Gr.alloc ?_ _ | with_reducible refine Gr.drewN ?_ _ | with_reducible refine Gr.drew ?_ | with_reducible refine Gr.trans ?_ (by with_reducible assumption))); done)) _ | with_reducible refine Gr.trans ?_ (by with_reducible assumption))))).mono ?_; rintro e w1 ⟨rfl, g1⟩; obtain ⟨X1, Y1, c1, f1⟩ := g1.use))
  go_ret
  exact ⟨rfl, (by repeat (first | with_reducible exact Gr.refl _ | with_reducible assumption | with_reducible refine Gr.alloc ?_ _ | with_reducible refine Gr.drewN ?_ _ | with_reducible refine Gr.drew ?_ | with_reducible refine Gr.setCell ?_ (by first | (dsimp only; omega) | (simp only [World.size_alloc]; omega) | (with_reducible refine Gr.size ?_; (repeat (first | with_reducible exact Gr.refl _ | with_reducible assumption | with_reducible refine Gr.alloc ?_ _ | with_reducible refine Gr.drewN ?_ _ | with_reducible refine Gr.drew ?_ | with_reducible refine Gr.trans ?_ (by with_reducible assumption))); done)) _ | with_reducible refine Gr.trans ?_ (by with_reducible assumption)))⟩
end Go.Proofs.YtfbhpeedjphpaaaDoor
