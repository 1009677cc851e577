/-
  Flat patterns: Whole of the document.
-/
import Derived.Test.YtjnfodbniohkhaaSf6
set_option linter.unusedVariables false
set_option linter.unusedSimpArgs false
namespace Go.Proofs.Ytjnfodbniohkhaa
set_option linter.unusedVariables false
set_option linter.unusedSimpArgs false
open Go Go.ChangeShapes Go.WideShapes Go.ChangeAt Go.RowKit Go.Deep

namespace RG
theorem r3w_any (n l m : Int) (w : World) : Calls Try.prog 55 #[iv n, iv l, iv m] w fun e w' => e = .returned (.bool (wiB n l m)) ∧ w = w' := by
  go_enter Try.func55, Try.ntmps55
  go_wp2
  all_goals
    go_ret
    exact ⟨ret_bool (by simp [wiB]; try omega), rfl⟩
theorem rectsIn_any (A : Option Addr) (c : Nat) (l : List Rc) (w : World) (hl : SlR w A c l) :
    Calls Try.prog 42 #[.slice A l.length c] w fun e w' => e = .returned (.bool (ceL l == 0)) ∧ Gr w w' := by
  have HC := hide (rCheck_any A c l w hl)
  clear hl
  generalize ceL l = z at *
  go_enter Try.func42, Try.ntmps42
  go_wp2_with fail
  refine HC.out.mono ?_
  rintro e w1 ⟨rfl, g1⟩
  go_wp2_with fail
  go_ret
  exact ⟨rfl, g1⟩
set_option maxHeartbeats 2000000 in
theorem lineIn_any (x : Bd) (w : World) : Calls Try.prog 43 #[.agg #[iv x.a, iv x.b, iv x.c, iv x.d]] w fun e w' => e = .returned (.bool (bdB x)) ∧ Gr w w' := by
  have HE := hide (show bdB x = (wiB x.a (-1048576) 1048576 && (wiB x.b (-1048576) 1048576 && (wiB x.c (-1048576) 1048576 && wiB x.d (-1048576) 1048576))) by unfold bdB nsL; simp [List.all_cons])
  have H1 := hide (fun n w' => r3w_any n (-1048576) 1048576 w')
  obtain ⟨p, a, b, c, d, q, r, s⟩ : True ∧ True ∧ True ∧ True ∧ True ∧ True ∧ True ∧ True := ⟨trivial, trivial, trivial, trivial, trivial, trivial, trivial, trivial⟩
  cases h1 : wiB x.a (-1048576) 1048576 <;> cases h2 : wiB x.b (-1048576) 1048576 <;> cases h3 : wiB x.c (-1048576) 1048576 <;> cases h4 : wiB x.d (-1048576) 1048576
  all_goals
    go_enter Try.func43, Try.ntmps43
    go_wp2_with (first | (go_at_call 55; refine (H1.out _ _).mono ?_; simp only [h1, h2, h3, h4]; rintro e w1 ⟨rfl, rfl⟩))
    go_ret
    exact ⟨ret_bool (by rw [HE.out, h1, h2, h3, h4]; rfl), Gr.alloc (Gr.refl _) _⟩
theorem ch_iff (F : Pat) : chE F = 0 ↔ F.r.length ≠ 0 ∧ ceL F.r = 0 ∧ ceL F.c = 0 ∧ ceL F.f = 0 ∧ F.b.all bdB = true := by
  have hc : ∀ l : List Rc, ceL l = 0 ↔ l.length ≤ 48 ∧ l.all vrR = true := by
    intro l
    unfold ceL
    by_cases h : 48 < l.length
    · rw [if_pos h]
      constructor
      · intro h; cases h
      · intro h; omega
    · rw [if_neg h]
      cases hv : l.all vrR
      · simp
      · simp; omega
  constructor
  · intro h
    obtain ⟨⟨h1, h2⟩, h3, h4, h5⟩ := ch_yes h
    unfold lmB at h5
    simp only [Bool.and_eq_true] at h5
    exact ⟨by omega, (hc _).2 ⟨h2, h5.1.1.1⟩, (hc _).2 ⟨h3, h5.1.1.2⟩, (hc _).2 ⟨h4, h5.1.2⟩, h5.2⟩
  · rintro ⟨h1, h2, h3, h4, h5⟩
    have a := (hc _).1 h2
    have b := (hc _).1 h3
    have c := (hc _).1 h4
    unfold chE
    rw [if_pos ⟨⟨by omega, a.1⟩, b.1, c.1, by unfold lmB; rw [a.2, b.2, c.2, h5]; rfl⟩]
theorem whV {F : Pat} {b : Bool} (h : b = true ↔ chE F = 0) : b = (chE F == 0) := by
  rw [Bool.eq_iff_iff, h, beq_iff_eq]
set_option maxHeartbeats 4000000 in
set_option maxRecDepth 100000 in
theorem Whole_any (A1 A2 A3 A4 : Option Addr) (c1 c2 c3 c4 : Nat) (F : Pat) (w : World) (hF : PatW w A1 c1 A2 c2 A3 c3 A4 c4 F) :
    Calls Try.prog 26 #[ptv A1 F.r.length c1 A2 F.c.length c2 A3 F.f.length c3 A4 F.b.length c4] w fun e w' => e = .returned (.bool (chE F == 0)) ∧ Gr w w' := by
  have HR := hide (fun (w' : World) (g : Gr w w') => rectsIn_any A1 c1 F.r w' (hF.r.gr g))
  have HC := hide (fun (w' : World) (g : Gr w w') => rectsIn_any A2 c2 F.c w' (hF.c.gr g))
  have HFo := hide (fun (w' : World) (g : Gr w w') => rectsIn_any A3 c3 F.f w' (hF.f.gr g))
  have HF := hide hF
  have n7 := hF.b.cap
  have n8 := hF.b.capB
  have HI := hide (ch_iff F)
  have g0 : Gr w (w.alloc (.cells #[.slice A1 F.r.length c1, .slice A2 F.c.length c2, .slice A3 F.f.length c3, .slice A4 F.b.length c4] 25)) := Gr.alloc (Gr.refl _) _
  clear hF
  by_cases h0 : F.r.length = 0
  · have HE := hide (show (chE F == 0) = false by rw [beq_eq_false_iff_ne]; exact fun h => (HI.out.1 h).1 h0)
    have e0 : ((F.r.length : Int) == 0) = true := by rw [beq_iff_eq]; omega
    clear h0
    go_enter Try.func26, Try.ntmps26
    go_wp2_with fail
    go_ret
    exact ⟨ret_bool HE.out.symm, g0⟩
  have e0 : ((F.r.length : Int) == 0) = false := by rw [beq_eq_false_iff_ne]; omega
  cases h1 : (ceL F.r == 0) with
  | false =>
    have HE := hide (show (chE F == 0) = false by rw [beq_eq_false_iff_ne]; exact fun h => by rw [(HI.out.1 h).2.1] at h1; cases h1)
    rw [h1] at HR
    clear h0 h1
    go_enter Try.func26, Try.ntmps26
    go_wp2_with fail
    refine (HR.out _ g0).mono ?_
    rintro e w1 ⟨rfl, g1⟩
    go_wp2_with fail
    go_ret
    exact ⟨ret_bool HE.out.symm, g0.trans g1⟩
  | true =>
  rw [h1] at HR
  cases h2 : (ceL F.c == 0) with
  | false =>
    have HE := hide (show (chE F == 0) = false by rw [beq_eq_false_iff_ne]; exact fun h => by rw [(HI.out.1 h).2.2.1] at h2; cases h2)
    rw [h2] at HC
    clear h0 h1 h2
    go_enter Try.func26, Try.ntmps26
    go_wp2_with fail
    refine (HR.out _ g0).mono ?_
    rintro e w1 ⟨rfl, g1⟩
    obtain ⟨s1, b0, b1, b2, b3⟩ := box4 g1
    go_wp2_with fail
    refine (HC.out _ (g0.trans g1)).mono ?_
    rintro e w2 ⟨rfl, g2⟩
    go_wp2_with fail
    go_ret
    exact ⟨ret_bool HE.out.symm, (g0.trans g1).trans g2⟩
  | true =>
  rw [h2] at HC
  cases h3 : (ceL F.f == 0) with
  | false =>
    have HE := hide (show (chE F == 0) = false by rw [beq_eq_false_iff_ne]; exact fun h => by rw [(HI.out.1 h).2.2.2.1] at h3; cases h3)
    rw [h3] at HFo
    clear h0 h1 h2 h3
    go_enter Try.func26, Try.ntmps26
    go_wp2_with fail
    refine (HR.out _ g0).mono ?_
    rintro e w1 ⟨rfl, g1⟩
    obtain ⟨s1, b0, b1, b2, b3⟩ := box4 g1
    go_wp2_with fail
    refine (HC.out _ (g0.trans g1)).mono ?_
    rintro e w2 ⟨rfl, g2⟩
    clear b0 b1 b2 b3 s1
    obtain ⟨s1, b0, b1, b2, b3⟩ := box4 (g1.trans g2)
    go_wp2_with fail
    refine (HFo.out _ ((g0.trans g1).trans g2)).mono ?_
    rintro e w3 ⟨rfl, g3⟩
    go_wp2_with fail
    go_ret
    exact ⟨ret_bool HE.out.symm, ((g0.trans g1).trans g2).trans g3⟩
  | true =>
  rw [h3] at HFo
  have HG := hide (show chE F = 0 ↔ F.b.all bdB = true by
    rw [HI.out]
    rw [beq_iff_eq] at h1 h2 h3
    exact ⟨fun h => h.2.2.2.2, fun h => ⟨h0, h1, h2, h3, h⟩⟩)
  clear h0 h1 h2 h3 HI
  go_enter Try.func26, Try.ntmps26
  go_wp2_with fail
  refine (HR.out _ g0).mono ?_
  rintro e w1 ⟨rfl, g1⟩
  obtain ⟨s1, b0, b1, b2, b3⟩ := box4 g1
  go_wp2_with fail
  refine (HC.out _ (g0.trans g1)).mono ?_
  rintro e w2 ⟨rfl, g2⟩
  clear b0 b1 b2 b3 s1
  obtain ⟨s1, b0, b1, b2, b3⟩ := box4 (g1.trans g2)
  go_wp2_with fail
  refine (HFo.out _ ((g0.trans g1).trans g2)).mono ?_
  rintro e w3 ⟨rfl, g3⟩
  clear b0 b1 b2 b3 s1 HR HC HFo
  have g13 := (g1.trans g2).trans g3
  obtain ⟨s1, b0, b1, b2, b3⟩ := box4 g13
  have B3 := hide b3
  clear b0 b1 b2 b3 g1 g2 g3
  go_wp2_with fail
  go_loopw [3] (fun i wr => ∃ k : Nat, k ≤ F.b.length ∧ i = iv k ∧ Gr w3 wr ∧ Hid (∀ (j : Nat) (x : Bd), j < k → F.b[j]? = some x → bdB x = true)) (fun i _ => F.b.length - (intOf i).toNat)
  case atStart => exact ⟨0, by omega, rfl, Gr.refl _, hide (fun j r h => absurd h (Nat.not_lt_zero j))⟩
  case round =>
    obtain ⟨k, hk, rfl, g, HS⟩ := hrel
    have b3 := (g.cell _ _ s1).trans B3.out
    have s2 : w.heap.size < wr.heap.size := Nat.lt_of_lt_of_le s1 g.size
    by_cases hkl : k < F.b.length
    · obtain ⟨x, hx⟩ : ∃ x, F.b[k]? = some x := ⟨_, List.getElem?_eq_getElem hkl⟩
      obtain ⟨bb, ob, hA, y0, y1, y2, y3, y4, y5, y6, y7⟩ := (HF.out.b.gr ((g0.trans g13).trans g)).at_ hx
      have HX := hide hx
      have HLI := hide (fun w' => lineIn_any x w')
      have hk0 : (0 : Int) ≤ (k : Int) := by omega
      have hk1 : (k : Int) < (F.b.length : Int) := by omega
      have s3 : IntKind.i64.wrap ((k : Int) + 1) = (k : Int) + 1 := IntWalk.i64_in _ (by omega)
      have ga := g0.trans g13
      have HA := hide hA
      rw [hA] at b3
      clear hx hA
      cases hv : bdB x with
      | true =>
        have HS2 := hide (more (Q := fun x => bdB x = true) HS.out HX.out hv)
        rw [hv] at HLI
        clear hv
        go_wp2_with fail
        refine (HLI.out _).mono ?_
        rintro e w4 ⟨rfl, g4⟩
        go_wp2_with fail
        go_roundw
        case rel => exact ⟨k + 1, by omega, by go_num, g.trans g4, HS2⟩
        case measure => simp only [intOf]; omega
      | false =>
        have HE := hide (show (chE F == 0) = false by
          rw [beq_eq_false_iff_ne]
          intro h
          have := HG.out.1 h
          rw [all_no HX.out hv] at this
          cases this)
        rw [hv] at HLI
        clear hv
        go_wp2_with fail
        refine (HLI.out _).mono ?_
        rintro e w4 ⟨rfl, g4⟩
        go_wp2_with fail
        go_ret
        exact ⟨ret_bool HE.out.symm, (ga.trans g).trans g4⟩
    · obtain rfl : k = F.b.length := by omega
      have hk1 : ¬ ((F.b.length : Int) < (F.b.length : Int)) := by omega
      have HE := hide (show (chE F == 0) = true by rw [beq_iff_eq]; exact HG.out.2 (all_yes HS.out))
      go_wp2
      go_ret
      exact ⟨ret_bool HE.out.symm, (g0.trans g13).trans g⟩
end RG
end Go.Proofs.Ytjnfodbniohkhaa
