/-
  Parts: the code's Validate behind the limits.
-/
import Derived.Test.YtdabhnefoigebaaGreatVal11
set_option linter.unusedVariables false
set_option linter.unusedSimpArgs false
namespace Go.Proofs.YtdabhnefoigebaaGreat
set_option linter.unusedVariables false
set_option linter.unusedSimpArgs false
open Go Go.ChangeShapes Go.WideShapes Go.ChangeAt Go.RowKit Go.Deep

theorem flSm_of {p : Pa} (h : FlOk p p.fl.length) : ∀ g ∈ p.fl, FlSm g := by
  intro g hg
  obtain ⟨i, hi⟩ := List.mem_iff_getElem?.1 hg
  obtain ⟨_, _, _, a, _, b⟩ := h.fl i g (List.getElem?_eq_some_iff.1 hi).1 hi
  exact ⟨a, b⟩
theorem flA_at {p : Pa} {k : Nat} {f : Fl} (h : p.fl[k]? = some f) : flA p k = flE p k f := by
  unfold flA
  rw [h]
theorem slC_of {w : World} {base : Nat} {A : Option Addr} {d : Nat} {xs : List Fc} (h : OwnL w base 119 11 fcL (.slice A xs.length d) xs) (hl : xs.length ≤ 1000) : SlC w A d xs := by
  obtain ⟨-, h1, h2, h3⟩ := OwnL.rdC h
  exact ⟨h1, h2, by unfold maxLen at h3; omega, hl⟩
set_option maxRecDepth 100000 in
set_option maxHeartbeats 4000000 in
theorem validate_late (p : Pa) (A B : Option Addr) (c d : Nat) (w : World) (hP : PaW w p A c B d) (h : (nameB p.nm.toList && nameB p.mt.toList) = true) (hb : basB p = true) (hl : ¬ (5 < p.fl.length ∨ 6 < p.ho.length)) :
    Calls Tryz.prog 31 #[pav p A c B d] w fun e w' => e = .returned (iv (valE p)) ∧ Gr w w' := by
  have hn := hP.nm
  have hm := hP.mt
  have HP := hide hP
  have HE := hide (valE_rest h hb hl)
  have HB := hide hb
  have hl5 : p.fl.length ≤ 5 := by omega
  have hl6 : p.ho.length ≤ 6 := by omega
  simp only [Bool.and_eq_true] at h
  obtain ⟨h1, h2⟩ := h
  clear hP hl
  go_enter Tryz.func31, Tryz.ntmps31
  go_upto_region 8 with (first | (go_at_call 56; refine (validName_any _ _ (by omega)).mono ?_; rintro e w1 ⟨rfl, rfl⟩) | (go_at_call 57; refine (validBase_any _ _ _ _ _ _).mono ?_; rintro e w1 ⟨rfl, g1⟩; obtain ⟨X1, Y1, c1, f1⟩ := g1.use; have z1 := g1.size; (try simp only [World.size_alloc, World.size_setCell, World.heap_drewN, Nat.add_one_le_iff] at z1); (try have l0 : w.heap.size < w1.heap.size := by omega); (try have l1 : w.heap.size + 1 < w1.heap.size := by omega); (try have l2 : w.heap.size + 1 + 1 < w1.heap.size := by omega)))
  have g01 : Gr (w.alloc (.cells #[.string p.nm, .string p.mt, iv p.ga, iv p.gr, iv p.wd, iv p.ht, .slice A p.fl.length c, .slice B p.ho.length d] 25)) w1 := (by repeat (first | with_reducible exact Gr.refl _ | with_reducible assumption | with_reducible refine Gr.alloc ?_ _ | with_reducible refine Gr.drewN ?_ _ | with_reducible refine Gr.drew ?_ | with_reducible refine Gr.setCell ?_ (by first | (dsimp only; omega) | (simp only [World.size_alloc]; omega) | (with_reducible refine Gr.size ?_; (repeat (first | with_reducible exact Gr.refl _ | with_reducible assumption | with_reducible refine Gr.alloc ?_ _ | with_reducible refine Gr.drewN ?_ _ | with_reducible refine Gr.drew ?_ | with_reducible refine Gr.trans ?_ (by with_reducible assumption))); done)) _ | with_reducible refine Gr.trans ?_ (by with_reducible assumption)))
  go_wp2
  clear c1 f1 g1
  obtain ⟨wS, rfl⟩ : ∃ wS, wS = w1 := ⟨_, rfl⟩
  go_loopw [34] (fun i wr => ∃ k : Nat, k ≤ p.fl.length ∧ i = iv k ∧ Gr (w.alloc (.cells #[.string p.nm, .string p.mt, iv p.ga, iv p.gr, iv p.wd, iv p.ht, .slice A p.fl.length c, .slice B p.ho.length d] 25)) wr ∧ Hid (FlOk p k) ∧ Hid (∀ j, j < k → flA p j = 0)) (fun i _ => p.fl.length - (intOf i).toNat)
  case atStart => exact ⟨0, by omega, rfl, g01, FlOk.zero HB.out, by intro j hj; omega⟩
  case round =>
    obtain ⟨k, hk, rfl, g, HOK, HZ⟩ := hrel
    clear g01
    have gW : Gr w wr := (by repeat (first | with_reducible exact Gr.refl _ | with_reducible assumption | with_reducible refine Gr.alloc ?_ _ | with_reducible refine Gr.drewN ?_ _ | with_reducible refine Gr.drew ?_ | with_reducible refine Gr.setCell ?_ (by first | (dsimp only; omega) | (simp only [World.size_alloc]; omega) | (with_reducible refine Gr.size ?_; (repeat (first | with_reducible exact Gr.refl _ | with_reducible assumption | with_reducible refine Gr.alloc ?_ _ | with_reducible refine Gr.drewN ?_ _ | with_reducible refine Gr.drew ?_ | with_reducible refine Gr.trans ?_ (by with_reducible assumption))); done)) _ | with_reducible refine Gr.trans ?_ (by with_reducible assumption)))
    obtain ⟨Xr, Yr, cr, fr⟩ := g.use
    have zr := g.size
    simp only [World.size_alloc] at zr
    have l0 : w.heap.size < wr.heap.size := by omega
    by_cases hkl : k < p.fl.length
    · obtain ⟨f, hf⟩ : ∃ f, p.fl[k]? = some f := ⟨_, List.getElem?_eq_getElem hkl⟩
      have HC := hide (checkFlange_any p A B c d k f wr (HP.out.fl.gr gW) hf HOK.out)
      have HF := hide hf
      by_cases h0 : flE p k f = 0
      · have HO' := hide (HOK.out.succ hf h0)
        have HZ' := hide (show ∀ j, j < k + 1 → flA p j = 0 by
          intro j hj
          rcases Nat.lt_or_ge j k with h | h
          · exact HZ.out j h
          · obtain rfl : j = k := by omega
            rw [flA_at HF.out, h0])
        rw [h0] at HC
        clear hf
        go_wp2_with fail
        refine HC.out.mono ?_
        rintro e w2 ⟨rfl, g2⟩
        go_wp2_with fail
        go_roundw
        case rel => exact ⟨k + 1, by omega, by go_num, (by repeat (first | with_reducible exact Gr.refl _ | with_reducible assumption | with_reducible refine Gr.alloc ?_ _ | with_reducible refine Gr.drewN ?_ _ | with_reducible refine Gr.drew ?_ | with_reducible refine Gr.setCell ?_ (by first | (dsimp only; omega) | (simp only [World.size_alloc]; omega) | (with_reducible refine Gr.size ?_; (repeat (first | with_reducible exact Gr.refl _ | with_reducible assumption | with_reducible refine Gr.alloc ?_ _ | with_reducible refine Gr.drewN ?_ _ | with_reducible refine Gr.drew ?_ | with_reducible refine Gr.trans ?_ (by with_reducible assumption))); done)) _ | with_reducible refine Gr.trans ?_ (by with_reducible assumption))), HO', HZ'⟩
        case measure => simp only [intOf]; omega
      · have HE3 := hide (show valE p = flE p k f by
          have := firE_at (e := flA p) (k := k) (fun j hj => HZ.out j hj) (by rw [flA_at HF.out]; exact h0) hkl
          rw [HE.out, this, flA_at HF.out, if_pos h0])
        have h0' : (flE p k f != 0) = true := by simpa using h0
        clear hf
        generalize flE p k f = x at *
        go_wp2_with fail
        refine HC.out.mono ?_
        rintro e w2 ⟨rfl, g2⟩
        go_wp2_with fail
        go_ret
        exact ⟨ret_iv HE3.out.symm, (by repeat (first | with_reducible exact Gr.refl _ | with_reducible assumption | with_reducible refine Gr.alloc ?_ _ | with_reducible refine Gr.drewN ?_ _ | with_reducible refine Gr.drew ?_ | with_reducible refine Gr.setCell ?_ (by first | (dsimp only; omega) | (simp only [World.size_alloc]; omega) | (with_reducible refine Gr.size ?_; (repeat (first | with_reducible exact Gr.refl _ | with_reducible assumption | with_reducible refine Gr.alloc ?_ _ | with_reducible refine Gr.drewN ?_ _ | with_reducible refine Gr.drew ?_ | with_reducible refine Gr.trans ?_ (by with_reducible assumption))); done)) _ | with_reducible refine Gr.trans ?_ (by with_reducible assumption)))⟩
    · obtain rfl : k = p.fl.length := by omega
      have ok := HOK.out
      have HE2 := hide (show valE p = if anyB ovF p.fl then 7 else if !(p.ho.all (hoB p)) then 1 else if anyB touB p.ho then 7 else if anyB clC (facs flC p.wd p.ht p.fl allT p.fl.length) then 6 else 0 by
        rw [HE.out, firE_none (fun j hj => HZ.out j hj)]; rfl)
      have HAF := hide (fun (w' : World) (g : Gr w w') => anyF_any A c p.fl w' (HP.out.fl.gr g) (flSm_of ok))
      have HVH := hide (fun (w' : World) (g : Gr w w') => validHoles_any p A B c d w' (HP.out.fl.gr g) (HP.out.ho.gr g) ok)
      have HAH := hide (fun (w' : World) (g : Gr w w') => anyH_any B d p.ho w' (HP.out.ho.gr g))
      have HFC := hide (fun (w' : World) (g : Gr w w') => faces_any p A B c d (2 ^ p.fl.length - 1) w' (HP.out.fl.gr g) hl5 (by have : 2 ^ p.fl.length ≤ 2 ^ 5 := Nat.pow_le_pow_right (by omega) hl5; omega) ok.fit)
      clear ok HE HZ HOK hb
      cases e1 : anyB ovF p.fl with
      | true =>
        have HE3 := hide (show valE p = 7 by rw [HE2.out, e1]; rfl)
        rw [e1] at HAF
        clear e1 HE2
        go_wp2_with fail
        refine (HAF.out _ gW).mono ?_
        rintro e w2 ⟨rfl, g2⟩
        have q2 := g2.size
        obtain ⟨X2, Y2, c2, f2⟩ := g2.use
        go_wp2_with fail
        go_ret
        exact ⟨ret_iv HE3.out.symm, (by repeat (first | with_reducible exact Gr.refl _ | with_reducible assumption | with_reducible refine Gr.alloc ?_ _ | with_reducible refine Gr.drewN ?_ _ | with_reducible refine Gr.drew ?_ | with_reducible refine Gr.setCell ?_ (by first | (dsimp only; omega) | (simp only [World.size_alloc]; omega) | (with_reducible refine Gr.size ?_; (repeat (first | with_reducible exact Gr.refl _ | with_reducible assumption | with_reducible refine Gr.alloc ?_ _ | with_reducible refine Gr.drewN ?_ _ | with_reducible refine Gr.drew ?_ | with_reducible refine Gr.trans ?_ (by with_reducible assumption))); done)) _ | with_reducible refine Gr.trans ?_ (by with_reducible assumption)))⟩
      | false =>
        rw [e1] at HAF HE2
        cases e2 : p.ho.all (hoB p) with
        | false =>
          have HE3 := hide (show valE p = 1 by rw [HE2.out, e2]; rfl)
          rw [e2] at HVH
          clear e1 e2 HE2
          go_wp2_with fail
          refine (HAF.out _ gW).mono ?_
          rintro e w2 ⟨rfl, g2⟩
          have q2 := g2.size
          obtain ⟨X2, Y2, c2, f2⟩ := g2.use
          have m2 : w.heap.size < w2.heap.size := by omega
          go_wp2_with fail
          refine (HVH.out _ (gW.trans g2)).mono ?_
          rintro e w3 ⟨rfl, g3⟩
          have q3 := g3.size
          obtain ⟨X3, Y3, c3, f3⟩ := g3.use
          go_wp2_with fail
          go_ret
          exact ⟨ret_iv HE3.out.symm, (by repeat (first | with_reducible exact Gr.refl _ | with_reducible assumption | with_reducible refine Gr.alloc ?_ _ | with_reducible refine Gr.drewN ?_ _ | with_reducible refine Gr.drew ?_ | with_reducible refine Gr.setCell ?_ (by first | (dsimp only; omega) | (simp only [World.size_alloc]; omega) | (with_reducible refine Gr.size ?_; (repeat (first | with_reducible exact Gr.refl _ | with_reducible assumption | with_reducible refine Gr.alloc ?_ _ | with_reducible refine Gr.drewN ?_ _ | with_reducible refine Gr.drew ?_ | with_reducible refine Gr.trans ?_ (by with_reducible assumption))); done)) _ | with_reducible refine Gr.trans ?_ (by with_reducible assumption)))⟩
        | true =>
          rw [e2] at HVH HE2
          cases e3 : anyB touB p.ho with
          | true =>
            have HE3 := hide (show valE p = 7 by rw [HE2.out, e3]; rfl)
            rw [e3] at HAH
            clear e1 e2 e3 HE2
            go_wp2_with fail
            refine (HAF.out _ gW).mono ?_
            rintro e w2 ⟨rfl, g2⟩
            have q2 := g2.size
            obtain ⟨X2, Y2, c2, f2⟩ := g2.use
            have m2 : w.heap.size < w2.heap.size := by omega
            go_wp2_with fail
            refine (HVH.out _ (gW.trans g2)).mono ?_
            rintro e w3 ⟨rfl, g3⟩
            have q3 := g3.size
            obtain ⟨X3, Y3, c3, f3⟩ := g3.use
            have m3 : w.heap.size < w3.heap.size := by omega
            go_wp2_with fail
            refine (HAH.out _ ((gW.trans g2).trans g3)).mono ?_
            rintro e w4 ⟨rfl, g4⟩
            have q4 := g4.size
            obtain ⟨X4, Y4, c4, f4⟩ := g4.use
            go_wp2_with fail
            go_ret
            exact ⟨ret_iv HE3.out.symm, (by repeat (first | with_reducible exact Gr.refl _ | with_reducible assumption | with_reducible refine Gr.alloc ?_ _ | with_reducible refine Gr.drewN ?_ _ | with_reducible refine Gr.drew ?_ | with_reducible refine Gr.setCell ?_ (by first | (dsimp only; omega) | (simp only [World.size_alloc]; omega) | (with_reducible refine Gr.size ?_; (repeat (first | with_reducible exact Gr.refl _ | with_reducible assumption | with_reducible refine Gr.alloc ?_ _ | with_reducible refine Gr.drewN ?_ _ | with_reducible refine Gr.drew ?_ | with_reducible refine Gr.trans ?_ (by with_reducible assumption))); done)) _ | with_reducible refine Gr.trans ?_ (by with_reducible assumption)))⟩
          | false =>
            rw [e3] at HAH HE2
            clear e1 e2 e3
            go_wp2_with fail
            refine (HAF.out _ gW).mono ?_
            rintro e w2 ⟨rfl, g2⟩
            have q2 := g2.size
            obtain ⟨X2, Y2, c2, f2⟩ := g2.use
            have m2 : w.heap.size < w2.heap.size := by omega
            go_wp2_with fail
            refine (HVH.out _ (gW.trans g2)).mono ?_
            rintro e w3 ⟨rfl, g3⟩
            have q3 := g3.size
            obtain ⟨X3, Y3, c3, f3⟩ := g3.use
            have m3 : w.heap.size < w3.heap.size := by omega
            go_wp2_with fail
            refine (HAH.out _ ((gW.trans g2).trans g3)).mono ?_
            rintro e w4 ⟨rfl, g4⟩
            have q4 := g4.size
            obtain ⟨X4, Y4, c4, f4⟩ := g4.use
            have m4 : w.heap.size < w4.heap.size := by omega
            have gW4 : Gr w w4 := ((gW.trans g2).trans g3).trans g4
            have hlen : (facs flC p.wd p.ht p.fl (fun i => (2 ^ p.fl.length - 1).testBit i) p.fl.length).length = p.fl.length + 1 := facs_len (Nat.le_refl _)
            have HAC := hide (fun (A6 : Option Addr) (d6 : Nat) (w' : World) (hs : SlC w' A6 d6 (facs flC p.wd p.ht p.fl allT p.fl.length)) => anyC_any A6 d6 (facs flC p.wd p.ht p.fl allT p.fl.length) w' hs)
            rw [facs_full] at hlen
            simp only [facs_full] at HFC
            generalize facs flC p.wd p.ht p.fl allT p.fl.length = FS at *
            have HFM := hide (fun w' => fullMask_any p A B c d w' hl5)
            generalize 2 ^ p.fl.length - 1 = M at *
            have HLEN := hide hlen
            clear hlen
            clear HP HB hn hm
            cases e4 : anyB clC FS with
            | true =>
              have HE3 := hide (show valE p = 6 by rw [HE2.out, e4]; rfl)
              rw [e4] at HAC
              clear e4 HE2
              go_upto_region 20 with fail
              go_region_law (first
                | (go_simp; go_at_call 66; refine (HFM.out _).mono ?_; rintro e w5 ⟨rfl, g5⟩; (have m5 : w.heap.size < w5.heap.size := Nat.lt_of_lt_of_le m4 (Gr.size (by repeat (first | with_reducible exact Gr.refl _ | with_reducible assumption | with_reducible refine Gr.alloc ?_ _ | with_reducible refine Gr.drewN ?_ _ | with_reducible refine Gr.drew ?_ | with_reducible refine Gr.setCell ?_ (by first | (dsimp only; omega) | (simp only [World.size_alloc]; omega) | (with_reducible refine Gr.size ?_; (repeat (first | with_reducible exact Gr.refl _ | with_reducible assumption | with_reducible refine Gr.alloc ?_ _ | with_reducible refine Gr.drewN ?_ _ | with_reducible refine Gr.drew ?_ | with_reducible refine Gr.trans ?_ (by with_reducible assumption))); done)) _ | with_reducible refine Gr.trans ?_ (by with_reducible assumption))))); obtain ⟨X5, Y5, c5, f5⟩ := g5.use)
                | (go_simp; go_at_call 65; refine (HFC.out _ (gW4.trans (by repeat (first | with_reducible exact Gr.refl _ | with_reducible assumption | with_reducible refine Gr.alloc ?_ _ | with_reducible refine Gr.drewN ?_ _ | with_reducible refine Gr.drew ?_ | with_reducible refine Gr.setCell ?_ (by first | (dsimp only; omega) | (simp only [World.size_alloc]; omega) | (with_reducible refine Gr.size ?_; (repeat (first | with_reducible exact Gr.refl _ | with_reducible assumption | with_reducible refine Gr.alloc ?_ _ | with_reducible refine Gr.drewN ?_ _ | with_reducible refine Gr.drew ?_ | with_reducible refine Gr.trans ?_ (by with_reducible assumption))); done)) _ | with_reducible refine Gr.trans ?_ (by with_reducible assumption))))).mono ?_; rintro e w6 ⟨v6, rfl, ho6, g6⟩; obtain ⟨A6, d6, rfl⟩ := ho6.slice; (have hsl := slC_of ho6 (by rw [HLEN.out]; omega)); (have HSL := hide hsl); clear hsl ho6; (have m6 : w.heap.size < w6.heap.size := Nat.lt_of_lt_of_le m4 (Gr.size (by repeat (first | with_reducible exact Gr.refl _ | with_reducible assumption | with_reducible refine Gr.alloc ?_ _ | with_reducible refine Gr.drewN ?_ _ | with_reducible refine Gr.drew ?_ | with_reducible refine Gr.setCell ?_ (by first | (dsimp only; omega) | (simp only [World.size_alloc]; omega) | (with_reducible refine Gr.size ?_; (repeat (first | with_reducible exact Gr.refl _ | with_reducible assumption | with_reducible refine Gr.alloc ?_ _ | with_reducible refine Gr.drewN ?_ _ | with_reducible refine Gr.drew ?_ | with_reducible refine Gr.trans ?_ (by with_reducible assumption))); done)) _ | with_reducible refine Gr.trans ?_ (by with_reducible assumption))))); obtain ⟨X6, Y6, c6, f6⟩ := g6.use)
                | (go_simp; go_at_call 64; refine (HAC.out A6 d6 _ (HSL.out.gr (by repeat (first | with_reducible exact Gr.refl _ | with_reducible assumption | with_reducible refine Gr.alloc ?_ _ | with_reducible refine Gr.drewN ?_ _ | with_reducible refine Gr.drew ?_ | with_reducible refine Gr.setCell ?_ (by first | (dsimp only; omega) | (simp only [World.size_alloc]; omega) | (with_reducible refine Gr.size ?_; (repeat (first | with_reducible exact Gr.refl _ | with_reducible assumption | with_reducible refine Gr.alloc ?_ _ | with_reducible refine Gr.drewN ?_ _ | with_reducible refine Gr.drew ?_ | with_reducible refine Gr.trans ?_ (by with_reducible assumption))); done)) _ | with_reducible refine Gr.trans ?_ (by with_reducible assumption))))).mono ?_; rintro e w7 ⟨rfl, g7⟩; obtain ⟨X7, Y7, c7, f7⟩ := g7.use))
              all_goals
                go_wp2
                go_ret
                exact ⟨ret_iv HE3.out.symm, (by repeat (first | with_reducible exact Gr.refl _ | with_reducible assumption | with_reducible refine Gr.alloc ?_ _ | with_reducible refine Gr.drewN ?_ _ | with_reducible refine Gr.drew ?_ | with_reducible refine Gr.setCell ?_ (by first | (dsimp only; omega) | (simp only [World.size_alloc]; omega) | (with_reducible refine Gr.size ?_; (repeat (first | with_reducible exact Gr.refl _ | with_reducible assumption | with_reducible refine Gr.alloc ?_ _ | with_reducible refine Gr.drewN ?_ _ | with_reducible refine Gr.drew ?_ | with_reducible refine Gr.trans ?_ (by with_reducible assumption))); done)) _ | with_reducible refine Gr.trans ?_ (by with_reducible assumption)))⟩
            | false =>
              have HE3 := hide (show valE p = 0 by rw [HE2.out, e4]; rfl)
              rw [e4] at HAC
              clear e4 HE2
              go_upto_region 20 with fail
              go_region_law (first
                | (go_simp; go_at_call 66; refine (HFM.out _).mono ?_; rintro e w5 ⟨rfl, g5⟩; (have m5 : w.heap.size < w5.heap.size := Nat.lt_of_lt_of_le m4 (Gr.size (by repeat (first | with_reducible exact Gr.refl _ | with_reducible assumption | with_reducible refine Gr.alloc ?_ _ | with_reducible refine Gr.drewN ?_ _ | with_reducible refine Gr.drew ?_ | with_reducible refine Gr.setCell ?_ (by first | (dsimp only; omega) | (simp only [World.size_alloc]; omega) | (with_reducible refine Gr.size ?_; (repeat (first | with_reducible exact Gr.refl _ | with_reducible assumption | with_reducible refine Gr.alloc ?_ _ | with_reducible refine Gr.drewN ?_ _ | with_reducible refine Gr.drew ?_ | with_reducible refine Gr.trans ?_ (by with_reducible assumption))); done)) _ | with_reducible refine Gr.trans ?_ (by with_reducible assumption))))); obtain ⟨X5, Y5, c5, f5⟩ := g5.use)
                | (go_simp; go_at_call 65; refine (HFC.out _ (gW4.trans (by repeat (first | with_reducible exact Gr.refl _ | with_reducible assumption | with_reducible refine Gr.alloc ?_ _ | with_reducible refine Gr.drewN ?_ _ | with_reducible refine Gr.drew ?_ | with_reducible refine Gr.setCell ?_ (by first | (dsimp only; omega) | (simp only [World.size_alloc]; omega) | (with_reducible refine Gr.size ?_; (repeat (first | with_reducible exact Gr.refl _ | with_reducible assumption | with_reducible refine Gr.alloc ?_ _ | with_reducible refine Gr.drewN ?_ _ | with_reducible refine Gr.drew ?_ | with_reducible refine Gr.trans ?_ (by with_reducible assumption))); done)) _ | with_reducible refine Gr.trans ?_ (by with_reducible assumption))))).mono ?_; rintro e w6 ⟨v6, rfl, ho6, g6⟩; obtain ⟨A6, d6, rfl⟩ := ho6.slice; (have hsl := slC_of ho6 (by rw [HLEN.out]; omega)); (have HSL := hide hsl); clear hsl ho6; (have m6 : w.heap.size < w6.heap.size := Nat.lt_of_lt_of_le m4 (Gr.size (by repeat (first | with_reducible exact Gr.refl _ | with_reducible assumption | with_reducible refine Gr.alloc ?_ _ | with_reducible refine Gr.drewN ?_ _ | with_reducible refine Gr.drew ?_ | with_reducible refine Gr.setCell ?_ (by first | (dsimp only; omega) | (simp only [World.size_alloc]; omega) | (with_reducible refine Gr.size ?_; (repeat (first | with_reducible exact Gr.refl _ | with_reducible assumption | with_reducible refine Gr.alloc ?_ _ | with_reducible refine Gr.drewN ?_ _ | with_reducible refine Gr.drew ?_ | with_reducible refine Gr.trans ?_ (by with_reducible assumption))); done)) _ | with_reducible refine Gr.trans ?_ (by with_reducible assumption))))); obtain ⟨X6, Y6, c6, f6⟩ := g6.use)
                | (go_simp; go_at_call 64; refine (HAC.out A6 d6 _ (HSL.out.gr (by repeat (first | with_reducible exact Gr.refl _ | with_reducible assumption | with_reducible refine Gr.alloc ?_ _ | with_reducible refine Gr.drewN ?_ _ | with_reducible refine Gr.drew ?_ | with_reducible refine Gr.setCell ?_ (by first | (dsimp only; omega) | (simp only [World.size_alloc]; omega) | (with_reducible refine Gr.size ?_; (repeat (first | with_reducible exact Gr.refl _ | with_reducible assumption | with_reducible refine Gr.alloc ?_ _ | with_reducible refine Gr.drewN ?_ _ | with_reducible refine Gr.drew ?_ | with_reducible refine Gr.trans ?_ (by with_reducible assumption))); done)) _ | with_reducible refine Gr.trans ?_ (by with_reducible assumption))))).mono ?_; rintro e w7 ⟨rfl, g7⟩; obtain ⟨X7, Y7, c7, f7⟩ := g7.use))
              all_goals
                go_wp2
                go_ret
                exact ⟨ret_iv HE3.out.symm, (by repeat (first | with_reducible exact Gr.refl _ | with_reducible assumption | with_reducible refine Gr.alloc ?_ _ | with_reducible refine Gr.drewN ?_ _ | with_reducible refine Gr.drew ?_ | with_reducible refine Gr.setCell ?_ (by first | (dsimp only; omega) | (simp only [World.size_alloc]; omega) | (with_reducible refine Gr.size ?_; (repeat (first | with_reducible exact Gr.refl _ | with_reducible assumption | with_reducible refine Gr.alloc ?_ _ | with_reducible refine Gr.drewN ?_ _ | with_reducible refine Gr.drew ?_ | with_reducible refine Gr.trans ?_ (by with_reducible assumption))); done)) _ | with_reducible refine Gr.trans ?_ (by with_reducible assumption)))⟩
end Go.Proofs.YtdabhnefoigebaaGreat
