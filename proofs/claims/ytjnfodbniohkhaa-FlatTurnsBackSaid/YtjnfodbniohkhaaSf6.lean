/-
  Flat patterns: check of the code.
-/
import Derived.Test.YtjnfodbniohkhaaSf5
set_option linter.unusedVariables false
set_option linter.unusedSimpArgs false
namespace Go.Proofs.Ytjnfodbniohkhaa
set_option linter.unusedVariables false
set_option linter.unusedSimpArgs false
open Go Go.ChangeShapes Go.WideShapes Go.ChangeAt Go.RowKit Go.Deep

namespace RG
theorem ch_no {F : Pat} (h : ¬ ((1 ≤ F.r.length ∧ F.r.length ≤ 48) ∧ F.c.length ≤ 48 ∧ F.f.length ≤ 48 ∧ lmB F = true)) : chE F = 1 := if_neg h
theorem ch_yes {F : Pat} (h : chE F = 0) : (1 ≤ F.r.length ∧ F.r.length ≤ 48) ∧ F.c.length ≤ 48 ∧ F.f.length ≤ 48 ∧ lmB F = true := by
  unfold chE at h
  split at h
  · assumption
  · cases h
theorem ch_01 (F : Pat) : chE F = 0 ∨ chE F = 1 := by
  unfold chE
  split
  · exact .inl rfl
  · exact .inr rfl
theorem lm_in {F : Pat} (h : lmB F = true) : (∀ r ∈ F.r, InM 1048576 r) ∧ (∀ r ∈ F.c, InM 1048576 r) ∧ (∀ r ∈ F.f, InM 1048576 r) ∧ ∀ x ∈ F.b, bdB x = true := by
  unfold lmB at h
  simp only [Bool.and_eq_true, List.all_eq_true] at h
  exact ⟨fun r hr => vrR_iff.1 (h.1.1.1 r hr), fun r hr => vrR_iff.1 (h.1.1.2 r hr), fun r hr => vrR_iff.1 (h.1.2 r hr), h.2⟩
set_option maxHeartbeats 4000000 in
set_option maxRecDepth 100000 in
theorem check_any (A1 A2 A3 A4 : Option Addr) (c1 c2 c3 c4 : Nat) (F : Pat) (w : World) (hF : PatW w A1 c1 A2 c2 A3 c3 A4 c4 F) :
    Calls Try.prog 15 #[ptv A1 F.r.length c1 A2 F.c.length c2 A3 F.f.length c3 A4 F.b.length c4] w fun e w' => e = .returned (iv (chE F)) ∧ Gr w w' := by
  have HI := hide (fun (w' : World) (g : Gr w w') => inLimits_any A1 A2 A3 A4 c1 c2 c3 c4 F w' (hF.gr g))
  have HW := hide (fun w' => fwithin_any (F.r.length : Int) 1 48 w')
  have n1 := hF.r.cap
  have n2 := hF.r.capB
  have n3 := hF.c.cap
  have n4 := hF.c.capB
  have n5 := hF.f.cap
  have n6 := hF.f.capB
  clear hF
  by_cases h1 : 1 ≤ F.r.length ∧ F.r.length ≤ 48
  case neg =>
    have HE := hide (ch_no (F := F) fun h => h1 h.1)
    have e1 : wiB (F.r.length : Int) 1 48 = false := by
      cases hh : wiB (F.r.length : Int) 1 48 with
      | false => rfl
      | true => rw [wiB_iff] at hh; omega
    rw [e1] at HW
    clear h1 e1
    go_enter Try.func15, Try.ntmps15
    go_wp2_with (first | (go_at_call 16; refine (HW.out _).mono ?_; rintro e w1 ⟨rfl, rfl⟩))
    go_ret
    exact ⟨ret_iv HE.out.symm, (by repeat (first | with_reducible exact Gr.refl _ | with_reducible assumption | with_reducible refine Gr.alloc ?_ _ | with_reducible refine Gr.drewN ?_ _ | with_reducible refine Gr.drew ?_ | with_reducible refine Gr.setCell ?_ (by first | (dsimp only; omega) | (simp only [World.size_alloc]; omega) | (with_reducible refine Gr.size ?_; (repeat (first | with_reducible exact Gr.refl _ | with_reducible assumption | with_reducible refine Gr.alloc ?_ _ | with_reducible refine Gr.drewN ?_ _ | with_reducible refine Gr.drew ?_ | with_reducible refine Gr.trans ?_ (by with_reducible assumption))); done)) _ | with_reducible refine Gr.trans ?_ (by with_reducible assumption)))⟩
  case pos =>
  have e1 : wiB (F.r.length : Int) 1 48 = true := wiB_iff.2 (by omega)
  rw [e1] at HW
  clear e1
  by_cases h2 : F.c.length ≤ 48
  case neg =>
    have HE := hide (ch_no (F := F) fun h => h2 h.2.1)
    have e2 : decide ((48 : Int) < (F.c.length : Int)) = true := by simp only [decide_eq_true_iff]; omega
    have e2' : decide (48 < F.c.length) = true := by simp only [decide_eq_true_iff]; omega
    clear h1 h2
    go_enter Try.func15, Try.ntmps15
    go_wp2_with (first | (go_at_call 16; refine (HW.out _).mono ?_; rintro e w1 ⟨rfl, rfl⟩))
    go_ret
    exact ⟨ret_iv HE.out.symm, (by repeat (first | with_reducible exact Gr.refl _ | with_reducible assumption | with_reducible refine Gr.alloc ?_ _ | with_reducible refine Gr.drewN ?_ _ | with_reducible refine Gr.drew ?_ | with_reducible refine Gr.setCell ?_ (by first | (dsimp only; omega) | (simp only [World.size_alloc]; omega) | (with_reducible refine Gr.size ?_; (repeat (first | with_reducible exact Gr.refl _ | with_reducible assumption | with_reducible refine Gr.alloc ?_ _ | with_reducible refine Gr.drewN ?_ _ | with_reducible refine Gr.drew ?_ | with_reducible refine Gr.trans ?_ (by with_reducible assumption))); done)) _ | with_reducible refine Gr.trans ?_ (by with_reducible assumption)))⟩
  case pos =>
  have e2 : decide ((48 : Int) < (F.c.length : Int)) = false := by simp only [decide_eq_false_iff_not]; omega
  have e2' : decide (48 < F.c.length) = false := by simp only [decide_eq_false_iff_not]; omega
  by_cases h3 : F.f.length ≤ 48
  case neg =>
    have HE := hide (ch_no (F := F) fun h => h3 h.2.2.1)
    have e3 : decide ((48 : Int) < (F.f.length : Int)) = true := by simp only [decide_eq_true_iff]; omega
    have e3' : decide (48 < F.f.length) = true := by simp only [decide_eq_true_iff]; omega
    clear h1 h2 h3
    go_enter Try.func15, Try.ntmps15
    go_wp2_with (first | (go_at_call 16; refine (HW.out _).mono ?_; rintro e w1 ⟨rfl, rfl⟩))
    go_ret
    exact ⟨ret_iv HE.out.symm, (by repeat (first | with_reducible exact Gr.refl _ | with_reducible assumption | with_reducible refine Gr.alloc ?_ _ | with_reducible refine Gr.drewN ?_ _ | with_reducible refine Gr.drew ?_ | with_reducible refine Gr.setCell ?_ (by first | (dsimp only; omega) | (simp only [World.size_alloc]; omega) | (with_reducible refine Gr.size ?_; (repeat (first | with_reducible exact Gr.refl _ | with_reducible assumption | with_reducible refine Gr.alloc ?_ _ | with_reducible refine Gr.drewN ?_ _ | with_reducible refine Gr.drew ?_ | with_reducible refine Gr.trans ?_ (by with_reducible assumption))); done)) _ | with_reducible refine Gr.trans ?_ (by with_reducible assumption)))⟩
  case pos =>
  have e3 : decide ((48 : Int) < (F.f.length : Int)) = false := by simp only [decide_eq_false_iff_not]; omega
  have e3' : decide (48 < F.f.length) = false := by simp only [decide_eq_false_iff_not]; omega
  cases h4 : lmB F with
  | false =>
    have HE := hide (ch_no (F := F) fun h => by rw [h4] at h; cases h.2.2.2)
    rw [h4] at HI
    clear h1 h2 h3 h4
    go_enter Try.func15, Try.ntmps15
    go_wp2_with (first | (go_at_call 16; refine (HW.out _).mono ?_; rintro e w1 ⟨rfl, rfl⟩))
    refine (HI.out _ (Gr.alloc (Gr.refl _) _)).mono ?_
    rintro e w1 ⟨rfl, g1⟩
    go_wp2_with fail
    go_ret
    exact ⟨ret_iv HE.out.symm, (Gr.alloc (Gr.refl _) _).trans g1⟩
  | true =>
    have HE := hide (show chE F = 0 from if_pos ⟨h1, h2, h3, h4⟩)
    rw [h4] at HI
    clear h1 h2 h3 h4
    go_enter Try.func15, Try.ntmps15
    go_wp2_with (first | (go_at_call 16; refine (HW.out _).mono ?_; rintro e w1 ⟨rfl, rfl⟩))
    refine (HI.out _ (Gr.alloc (Gr.refl _) _)).mono ?_
    rintro e w1 ⟨rfl, g1⟩
    go_wp2_with fail
    go_ret
    exact ⟨ret_iv HE.out.symm, (Gr.alloc (Gr.refl _) _).trans g1⟩
end RG
end Go.Proofs.Ytjnfodbniohkhaa
