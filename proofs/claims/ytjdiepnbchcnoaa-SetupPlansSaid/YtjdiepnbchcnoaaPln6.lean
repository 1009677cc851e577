/-
  The law of plans.
-/
import Derived.Test.YtjdiepnbchcnoaaPln5
set_option linter.unusedVariables false
set_option linter.unusedSimpArgs false
namespace Go.Proofs.Ytjdiepnbchcnoaa
set_option linter.unusedVariables false
set_option linter.unusedSimpArgs false
open Go Go.ChangeShapes Go.WideShapes Go.ChangeAt Go.RowKit Go.Deep

set_option maxRecDepth 100000 in
set_option maxHeartbeats 2000000 in
theorem plans_walk (A : Option Addr) (c : Nat) (ns : List Nd) (s : Int) (w : World) (hl : SlN w A c ns) :
    Calls Try.prog 3 #[.slice A ns.length c, iv s] w fun e w' => e = .returned (.bool true) ∧ Gr w w' := by
  have HLG := hide (fun (w' : World) (g : Gr w w') => heavy_any A c ns w' (hl.gr g))
  have HN := hide (fun (w' : World) (g : Gr w w') => Least_any A c ns s w' (hl.gr g))
  have HM := hide (fun (w' : World) (g : Gr w w') => rLeast_any A c ns s w' (hl.gr g))
  have HP := hide (fun (w' : World) (g : Gr w w') => Plan_any A c ns s w' (hl.gr g))
  cases hlg : hvB ns with
  | true =>
    rw [hlg] at HLG
    clear hl
    go_enter Try.func3, Try.ntmps3
    go_wp2_with (first | (go_at_call 6; refine (HLG.out _ (by repeat (first | with_reducible exact Gr.refl _ | with_reducible assumption | with_reducible refine Gr.alloc ?_ _ | with_reducible refine Gr.drewN ?_ _ | with_reducible refine Gr.drew ?_ | with_reducible refine Gr.setCell ?_ (by first | (dsimp only; omega) | (simp only [World.size_alloc]; omega) | (with_reducible refine Gr.size ?_; (repeat (first | with_reducible exact Gr.refl _ | with_reducible assumption | with_reducible refine Gr.alloc ?_ _ | with_reducible refine Gr.drewN ?_ _ | with_reducible refine Gr.drew ?_ | with_reducible refine Gr.trans ?_ (by with_reducible assumption))); done)) _ | with_reducible refine Gr.trans ?_ (by with_reducible assumption)))).mono ?_; rintro e w1 ⟨rfl, rfl⟩) | (go_at_call 7; refine (known_any _).mono ?_; rintro e w1 ⟨rfl, g1⟩; obtain ⟨X1, Y1, c1, f1⟩ := g1.use))
    go_ret
    exact ⟨rfl, (by repeat (first | with_reducible exact Gr.refl _ | with_reducible assumption | with_reducible refine Gr.alloc ?_ _ | with_reducible refine Gr.drewN ?_ _ | with_reducible refine Gr.drew ?_ | with_reducible refine Gr.setCell ?_ (by first | (dsimp only; omega) | (simp only [World.size_alloc]; omega) | (with_reducible refine Gr.size ?_; (repeat (first | with_reducible exact Gr.refl _ | with_reducible assumption | with_reducible refine Gr.alloc ?_ _ | with_reducible refine Gr.drewN ?_ _ | with_reducible refine Gr.drew ?_ | with_reducible refine Gr.trans ?_ (by with_reducible assumption))); done)) _ | with_reducible refine Gr.trans ?_ (by with_reducible assumption)))⟩
  | false =>
    rw [hlg] at HLG
    have HCK := hide (fun (A' : Option Addr) (d' : Nat) (L : List Chg) (w' : World) (g : Gr w w') (h : SlC w' A' d' L) => rCheck_any A A' c d' ns s L w' (hl.gr g) h)
    have hx0 : ((leN ns s : Int) != (leN ns s : Int)) = false := by simp
    have hxx : ((chE ns s) != (chE ns s)) = false := by simp
    have HPP := hide (fun (L : List Chg) (h : PlnP ns s L) => show (chE ns s = 0 → L.length = leN ns s ∧ ckE ns s L = 0) ∧ (¬ chE ns s = 0 → L = []) from ⟨fun e => by have := h.2; rwa [if_pos e] at this, fun e => by have := h.2; rwa [if_neg e] at this⟩)
    clear hl hlg
    generalize leN ns s = n at *
    generalize chE ns s = E at *
    go_enter Try.func3, Try.ntmps3
    go_wp2_with (first | (go_at_call 6; refine (HLG.out _ (by repeat (first | with_reducible exact Gr.refl _ | with_reducible assumption | with_reducible refine Gr.alloc ?_ _ | with_reducible refine Gr.drewN ?_ _ | with_reducible refine Gr.drew ?_ | with_reducible refine Gr.setCell ?_ (by first | (dsimp only; omega) | (simp only [World.size_alloc]; omega) | (with_reducible refine Gr.size ?_; (repeat (first | with_reducible exact Gr.refl _ | with_reducible assumption | with_reducible refine Gr.alloc ?_ _ | with_reducible refine Gr.drewN ?_ _ | with_reducible refine Gr.drew ?_ | with_reducible refine Gr.trans ?_ (by with_reducible assumption))); done)) _ | with_reducible refine Gr.trans ?_ (by with_reducible assumption)))).mono ?_; rintro e w1 ⟨rfl, rfl⟩) | fail)
    refine (HN.out _ (Gr.refl _)).mono ?_
    rintro e w1 ⟨rfl, g1⟩
    go_wp2_with fail
    refine (HM.out _ g1).mono ?_
    rintro e w2 ⟨rfl, g2⟩
    have gw2 : Gr w w2 := g1.trans g2
    go_wp2_with fail
    refine (HP.out _ gw2).mono ?_
    rintro e w3 ⟨A3, d3, L, rfl, s3, hP, g3⟩
    have gw3 : Gr w w3 := gw2.trans g3
    have S3 := hide s3
    have k1 := s3.cap
    have k2 := s3.capB
    obtain ⟨p1, p2⟩ := HPP.out L hP
    clear s3 hP g1 g2 g3 gw2
    by_cases hE : E = 0
    · obtain ⟨p3, p4⟩ := p1 hE
      subst hE
      subst p3
      have p5 : ((L.length : Int) == (L.length : Int)) = true := by simp
      have HC4 := hide (HCK.out A3 d3 L w3 gw3 S3.out)
      rw [p4] at HC4
      clear p1 p2 p4
      go_wp2_with (first | (go_at_call 11; refine (HC4.out).mono ?_; rintro e w1 ⟨rfl, g1⟩; obtain ⟨X1, Y1, c1, f1⟩ := g1.use) | (go_at_call 7; refine (known_any _).mono ?_; rintro e w1 ⟨rfl, g1⟩; obtain ⟨X1, Y1, c1, f1⟩ := g1.use) | fail)
      go_ret
      exact ⟨rfl, (by repeat (first | with_reducible exact Gr.refl _ | with_reducible assumption | with_reducible refine Gr.alloc ?_ _ | with_reducible refine Gr.drewN ?_ _ | with_reducible refine Gr.drew ?_ | with_reducible refine Gr.setCell ?_ (by first | (dsimp only; omega) | (simp only [World.size_alloc]; omega) | (with_reducible refine Gr.size ?_; (repeat (first | with_reducible exact Gr.refl _ | with_reducible assumption | with_reducible refine Gr.alloc ?_ _ | with_reducible refine Gr.drewN ?_ _ | with_reducible refine Gr.drew ?_ | with_reducible refine Gr.trans ?_ (by with_reducible assumption))); done)) _ | with_reducible refine Gr.trans ?_ (by with_reducible assumption)))⟩
    · have p3 := p2 hE
      subst p3
      have hE' : (E != 0) = true := by simpa using hE
      clear hE p1 p2
      go_wp2_with (first | (go_at_call 7; refine (known_any _).mono ?_; rintro e w1 ⟨rfl, g1⟩; obtain ⟨X1, Y1, c1, f1⟩ := g1.use) | fail)
      go_ret
      exact ⟨rfl, (by repeat (first | with_reducible exact Gr.refl _ | with_reducible assumption | with_reducible refine Gr.alloc ?_ _ | with_reducible refine Gr.drewN ?_ _ | with_reducible refine Gr.drew ?_ | with_reducible refine Gr.setCell ?_ (by first | (dsimp only; omega) | (simp only [World.size_alloc]; omega) | (with_reducible refine Gr.size ?_; (repeat (first | with_reducible exact Gr.refl _ | with_reducible assumption | with_reducible refine Gr.alloc ?_ _ | with_reducible refine Gr.drewN ?_ _ | with_reducible refine Gr.drew ?_ | with_reducible refine Gr.trans ?_ (by with_reducible assumption))); done)) _ | with_reducible refine Gr.trans ?_ (by with_reducible assumption)))⟩
end Go.Proofs.Ytjdiepnbchcnoaa
