/-
  Parts: the reference's Validate.
  Parts: the reference's Validate behind the limits.
-/
import Derived.Test.YtdabhnefoigebaaGreatVal17
import Derived.Test.YtdabhnefoigebaaGreatPlc1
import Derived.Test.YtdabhnefoigebaaGreatClash9
set_option linter.unusedVariables false
set_option linter.unusedSimpArgs false
namespace Go.Proofs.YtdabhnefoigebaaGreat
set_option linter.unusedVariables false
set_option linter.unusedSimpArgs false
open Go Go.ChangeShapes Go.WideShapes Go.ChangeAt Go.RowKit Go.Deep

theorem rclashB_any (a b : Fc) (w : World) :
    Calls Tryz.prog 84 #[fv a, fv b] w fun e w' => e = .returned (.bool (clC b a)) ∧ Gr w w' := by
  rw [cl_comm, cl_eq]
  cases ha : soB a with
  | false =>
    have : clR a b = false := by unfold clR; simp [ha]
    rw [this]
    exact rclash_no a b w (.inl ha)
  | true =>
    cases hb : soB b with
    | false =>
      have : clR a b = false := by unfold clR; simp [hb]
      rw [this]
      exact rclash_no a b w (.inr (.inl ⟨ha, hb⟩))
    | true =>
      cases hn : (axN a == axN b) with
      | true =>
        have : clR a b = false := by unfold clR; rw [hn]; simp
        rw [this]
        exact rclash_no a b w (.inr (.inr ⟨ha, hb, hn⟩))
      | false =>
        have := rclash_yes a b w ha hb hn
        unfold clR
        rw [ha, hb, hn]
        exact this
theorem nb_tr {b : Bool} (h : (!b) = false) : b = true := by simpa using h
theorem basB_parts {p : Pa} : basB p = true ↔ wiB p.ga 1 60 = true ∧ wiB p.gr 0 2 = true ∧ wiB p.wd 1 150 = true ∧ wiB p.ht 1 150 = true := by
  unfold basB lenB
  simp only [Bool.and_eq_true, and_assoc]
theorem fls_zero {p : Pa} (h : flsE p = 0) : firE (flA p) p.fl.length = 0 ∧ anyB ovF p.fl = false := by
  unfold flsE at h
  split at h
  · rename_i h1
    exact absurd h h1
  · rename_i h1
    split at h
    · cases h
    · rename_i h2
      exact ⟨by simpa using h1, by simpa using h2⟩
theorem hos_zero {p : Pa} (h : hosE p = 0) : p.ho.all (hoB p) = true ∧ anyB touB p.ho = false := by
  unfold hosE at h
  split at h
  · cases h
  · rename_i h1
    split at h
    · cases h
    · rename_i h2
      exact ⟨by simpa using h1, by simpa using h2⟩
theorem valE_fls {p : Pa} (h : (nameB p.nm.toList && nameB p.mt.toList) = true) (hb : basB p = true) (hl : ¬ (5 < p.fl.length ∨ 6 < p.ho.length)) (k : ¬ flsE p = 0) : valE p = flsE p := by
  rw [valE_rest h hb hl]
  unfold flsE at *
  split at k
  · rename_i h1
    rw [if_pos h1, if_pos h1]
  · rename_i h1
    rw [if_neg h1, if_neg h1]
    split at k
    · rename_i h2
      rw [if_pos h2, if_pos h2]
    · exact absurd rfl k
theorem valE_hos {p : Pa} (h : (nameB p.nm.toList && nameB p.mt.toList) = true) (hb : basB p = true) (hl : ¬ (5 < p.fl.length ∨ 6 < p.ho.length)) (k : flsE p = 0) (m : ¬ hosE p = 0) : valE p = hosE p := by
  obtain ⟨k1, k2⟩ := fls_zero k
  rw [valE_rest h hb hl, k1, k2]
  unfold hosE at *
  simp only [ne_eq, not_true_eq_false, if_false, Bool.false_eq_true] at *
  split at m
  · rename_i h1
    rw [if_pos h1, if_pos h1]
  · rename_i h1
    rw [if_neg h1, if_neg h1]
    split at m
    · rename_i h2
      rw [if_pos h2, if_pos h2]
    · exact absurd rfl m
theorem valE_clash {p : Pa} (h : (nameB p.nm.toList && nameB p.mt.toList) = true) (hb : basB p = true) (hl : ¬ (5 < p.fl.length ∨ 6 < p.ho.length)) (k : flsE p = 0) (m : hosE p = 0) :
    valE p = if anyB clC (facs flC p.wd p.ht p.fl allT p.fl.length) then 6 else 0 := by
  obtain ⟨k1, k2⟩ := fls_zero k
  obtain ⟨m1, m2⟩ := hos_zero m
  rw [valE_rest h hb hl, k1, k2, m1, m2]
  rfl
theorem facs_fullR (p : Pa) (ok : Fit p.fl) : facs flR p.wd p.ht p.fl (fun i => (2 ^ p.fl.length - 1).testBit i) p.fl.length = facs flC p.wd p.ht p.fl allT p.fl.length := by
  rw [← (facs_eq ok p.fl.length (Nat.le_refl _)).1]
  exact facs_congr fun i hi => full_bit hi
set_option maxRecDepth 100000 in
set_option maxHeartbeats 4000000 in
theorem rvalidate_early (p : Pa) (A B : Option Addr) (c d : Nat) (w : World) (hP : PaW w p A c B d) (h : (nameB p.nm.toList && nameB p.mt.toList) = false ∨ basB p = false ∨ 5 < p.fl.length ∨ 6 < p.ho.length) :
    Calls Tryz.prog 50 #[pav p A c B d] w fun e w' => e = .returned (iv (valE p)) ∧ Gr w w' := by
  have hn := hP.nm
  have hm := hP.mt
  have HP := hide hP
  clear hP
  cases h1 : nameB p.nm.toList with
  | false =>
    have HE := hide (valE_names (p := p) (by rw [h1]; rfl))
    go_enter Tryz.func50, Tryz.ntmps50
    go_wp2_with (first | (go_at_call 78; refine (rvalidName_any _ _ (by omega)).mono ?_; rintro e w1 ⟨rfl, rfl⟩))
    go_ret
    exact ⟨ret_iv HE.out.symm, (by repeat (first | with_reducible exact Gr.refl _ | with_reducible assumption | with_reducible refine Gr.alloc ?_ _ | with_reducible refine Gr.drewN ?_ _ | with_reducible refine Gr.drew ?_ | with_reducible refine Gr.setCell ?_ (by first | (dsimp only; omega) | (simp only [World.size_alloc]; omega) | (with_reducible refine Gr.size ?_; (repeat (first | with_reducible exact Gr.refl _ | with_reducible assumption | with_reducible refine Gr.alloc ?_ _ | with_reducible refine Gr.drewN ?_ _ | with_reducible refine Gr.drew ?_ | with_reducible refine Gr.trans ?_ (by with_reducible assumption))); done)) _ | with_reducible refine Gr.trans ?_ (by with_reducible assumption)))⟩
  | true =>
    cases h2 : nameB p.mt.toList with
    | false =>
      have HE := hide (valE_names (p := p) (by rw [h1, h2]; rfl))
      go_enter Tryz.func50, Tryz.ntmps50
      go_wp2_with (first | (go_at_call 78; refine (rvalidName_any _ _ (by omega)).mono ?_; rintro e w1 ⟨rfl, rfl⟩))
      go_ret
      exact ⟨ret_iv HE.out.symm, (by repeat (first | with_reducible exact Gr.refl _ | with_reducible assumption | with_reducible refine Gr.alloc ?_ _ | with_reducible refine Gr.drewN ?_ _ | with_reducible refine Gr.drew ?_ | with_reducible refine Gr.setCell ?_ (by first | (dsimp only; omega) | (simp only [World.size_alloc]; omega) | (with_reducible refine Gr.size ?_; (repeat (first | with_reducible exact Gr.refl _ | with_reducible assumption | with_reducible refine Gr.alloc ?_ _ | with_reducible refine Gr.drewN ?_ _ | with_reducible refine Gr.drew ?_ | with_reducible refine Gr.trans ?_ (by with_reducible assumption))); done)) _ | with_reducible refine Gr.trans ?_ (by with_reducible assumption)))⟩
    | true =>
      cases h3 : basB p with
      | false =>
        have HE := hide (valE_base (p := p) (by rw [h1, h2]; rfl) h3)
        have HN := hide (show ¬ (wiB p.ga 1 60 = true ∧ wiB p.gr 0 2 = true ∧ wiB p.wd 1 150 = true ∧ wiB p.ht 1 150 = true) by rw [← basB_parts, h3]; simp)
        clear h h3
        go_enter Tryz.func50, Tryz.ntmps50
        go_upto_region 5 with (first | (go_at_call 78; refine (rvalidName_any _ _ (by omega)).mono ?_; rintro e w1 ⟨rfl, rfl⟩) | (go_at_call 79; refine (rwithin_any _ _ _ _).mono ?_; rintro e w1 ⟨rfl, rfl⟩))
        all_goals first
          | (exfalso
             exact HN.out ⟨by assumption, by assumption, by assumption, by first | assumption | exact nb_tr (by assumption)⟩)
          | (go_ret
             exact ⟨ret_iv HE.out.symm, (by repeat (first | with_reducible exact Gr.refl _ | with_reducible assumption | with_reducible refine Gr.alloc ?_ _ | with_reducible refine Gr.drewN ?_ _ | with_reducible refine Gr.drew ?_ | with_reducible refine Gr.setCell ?_ (by first | (dsimp only; omega) | (simp only [World.size_alloc]; omega) | (with_reducible refine Gr.size ?_; (repeat (first | with_reducible exact Gr.refl _ | with_reducible assumption | with_reducible refine Gr.alloc ?_ _ | with_reducible refine Gr.drewN ?_ _ | with_reducible refine Gr.drew ?_ | with_reducible refine Gr.trans ?_ (by with_reducible assumption))); done)) _ | with_reducible refine Gr.trans ?_ (by with_reducible assumption)))⟩)
      | true =>
        have hl : 5 < p.fl.length ∨ 6 < p.ho.length := by
          rcases h with h | h | h
          · rw [h1, h2] at h; cases h
          · rw [h3] at h; cases h
          · exact h
        have HE := hide (valE_large (p := p) (by rw [h1, h2]; rfl) h3 hl)
        obtain ⟨q1, q2, q3, q4⟩ := basB_parts.1 h3
        clear h h3
        by_cases hl5 : 5 < p.fl.length
        · clear hl
          go_enter Tryz.func50, Tryz.ntmps50
          go_wp2_with (first | (go_at_call 78; refine (rvalidName_any _ _ (by omega)).mono ?_; rintro e w1 ⟨rfl, rfl⟩) | (go_at_call 79; refine (rwithin_any _ _ _ _).mono ?_; rintro e w1 ⟨rfl, rfl⟩))
          go_ret
          exact ⟨ret_iv HE.out.symm, (by repeat (first | with_reducible exact Gr.refl _ | with_reducible assumption | with_reducible refine Gr.alloc ?_ _ | with_reducible refine Gr.drewN ?_ _ | with_reducible refine Gr.drew ?_ | with_reducible refine Gr.setCell ?_ (by first | (dsimp only; omega) | (simp only [World.size_alloc]; omega) | (with_reducible refine Gr.size ?_; (repeat (first | with_reducible exact Gr.refl _ | with_reducible assumption | with_reducible refine Gr.alloc ?_ _ | with_reducible refine Gr.drewN ?_ _ | with_reducible refine Gr.drew ?_ | with_reducible refine Gr.trans ?_ (by with_reducible assumption))); done)) _ | with_reducible refine Gr.trans ?_ (by with_reducible assumption)))⟩
        · have hl6 : 6 < p.ho.length := by omega
          clear hl
          go_enter Tryz.func50, Tryz.ntmps50
          go_wp2_with (first | (go_at_call 78; refine (rvalidName_any _ _ (by omega)).mono ?_; rintro e w1 ⟨rfl, rfl⟩) | (go_at_call 79; refine (rwithin_any _ _ _ _).mono ?_; rintro e w1 ⟨rfl, rfl⟩))
          go_ret
          exact ⟨ret_iv HE.out.symm, (by repeat (first | with_reducible exact Gr.refl _ | with_reducible assumption | with_reducible refine Gr.alloc ?_ _ | with_reducible refine Gr.drewN ?_ _ | with_reducible refine Gr.drew ?_ | with_reducible refine Gr.setCell ?_ (by first | (dsimp only; omega) | (simp only [World.size_alloc]; omega) | (with_reducible refine Gr.size ?_; (repeat (first | with_reducible exact Gr.refl _ | with_reducible assumption | with_reducible refine Gr.alloc ?_ _ | with_reducible refine Gr.drewN ?_ _ | with_reducible refine Gr.drew ?_ | with_reducible refine Gr.trans ?_ (by with_reducible assumption))); done)) _ | with_reducible refine Gr.trans ?_ (by with_reducible assumption)))⟩
end Go.Proofs.YtdabhnefoigebaaGreat
set_option linter.unusedVariables false
set_option linter.unusedSimpArgs false
namespace Go.Proofs.YtdabhnefoigebaaGreat
set_option linter.unusedVariables false
set_option linter.unusedSimpArgs false
open Go Go.ChangeShapes Go.WideShapes Go.ChangeAt Go.RowKit Go.Deep

set_option maxRecDepth 100000 in
set_option maxHeartbeats 4000000 in
theorem rvalidate_late (p : Pa) (A B : Option Addr) (c d : Nat) (w : World) (hP : PaW w p A c B d) (h : (nameB p.nm.toList && nameB p.mt.toList) = true) (hb : basB p = true) (hl : ¬ (5 < p.fl.length ∨ 6 < p.ho.length)) :
    Calls Tryz.prog 50 #[pav p A c B d] w fun e w' => e = .returned (iv (valE p)) ∧ Gr w w' := by
  have hn := hP.nm
  have hm := hP.mt
  have HP := hide hP
  have HB := hide hb
  have HV := hide h
  have HL := hide hl
  have hl5 : p.fl.length ≤ 5 := by omega
  have hl6 : p.ho.length ≤ 6 := by omega
  have HFE := hide (fun (w' : World) (g : Gr w w') => flangesError_any p A B c d w' (HP.out.fl.gr g) HB.out)
  obtain ⟨q1, q2, q3, q4⟩ := basB_parts.1 hb
  simp only [Bool.and_eq_true] at h
  obtain ⟨h1, h2⟩ := h
  clear hP hl hb
  by_cases hf0 : flsE p = 0
  · obtain ⟨e1, e2⟩ := fls_zero hf0
    have ok := FlOk.all HB.out e1
    have HHE := hide (fun (w' : World) (g : Gr w w') => holesError_any p A B c d w' (HP.out.fl.gr g) (HP.out.ho.gr g) ok)
    have HPL := hide (fun (w' : World) (g : Gr w w') => place_any p A B c d (2 ^ p.fl.length - 1) w' (HP.out.fl.gr g) hl5 (by have : 2 ^ p.fl.length ≤ 2 ^ 5 := Nat.pow_le_pow_right (by omega) hl5; omega) ok.fit)
    rw [facs_fullR p ok.fit] at HPL
    have hlen : (facs flC p.wd p.ht p.fl allT p.fl.length).length = p.fl.length + 1 := facs_len (Nat.le_refl _)
    rw [hf0] at HFE
    have HF0 := hide hf0
    clear e1 e2 ok hf0
    by_cases hh0 : hosE p = 0
    · have HE := hide (valE_clash HV.out HB.out HL.out HF0.out hh0)
      rw [hh0] at HHE
      clear hh0
      generalize facs flC p.wd p.ht p.fl allT p.fl.length = FS at *
      have HFM := hide (fun w' => full_any p A B c d w' hl5)
      generalize 2 ^ p.fl.length - 1 = M at *
      have hFS : FS.length ≤ 6 := by omega
      have HLEN := hide hlen
      clear hlen HP HB HV HL HF0
      go_enter Tryz.func50, Tryz.ntmps50
      go_upto_region 7 with (first | (go_at_call 78; refine (rvalidName_any _ _ (by omega)).mono ?_; rintro e w1 ⟨rfl, rfl⟩) | (go_at_call 79; refine (rwithin_any _ _ _ _).mono ?_; rintro e w1 ⟨rfl, rfl⟩))
      clear h1 h2 q1 q2 q3 q4 hn hm
      go_wp2_with fail
      refine (HFE.out _ (by repeat (first | with_reducible exact Gr.refl _ | with_reducible assumption | with_reducible refine Gr.alloc ?_ _ | with_reducible refine Gr.drewN ?_ _ | with_reducible refine Gr.drew ?_ | with_reducible refine Gr.setCell ?_ (by first | (dsimp only; omega) | (simp only [World.size_alloc]; omega) | (with_reducible refine Gr.size ?_; (repeat (first | with_reducible exact Gr.refl _ | with_reducible assumption | with_reducible refine Gr.alloc ?_ _ | with_reducible refine Gr.drewN ?_ _ | with_reducible refine Gr.drew ?_ | with_reducible refine Gr.trans ?_ (by with_reducible assumption))); done)) _ | with_reducible refine Gr.trans ?_ (by with_reducible assumption)))).mono ?_
      rintro e w1 ⟨rfl, g1⟩
      have z1 := g1.size
      have gW1 : Gr w w1 := (by repeat (first | with_reducible exact Gr.refl _ | with_reducible assumption | with_reducible refine Gr.alloc ?_ _ | with_reducible refine Gr.drewN ?_ _ | with_reducible refine Gr.drew ?_ | with_reducible refine Gr.setCell ?_ (by first | (dsimp only; omega) | (simp only [World.size_alloc]; omega) | (with_reducible refine Gr.size ?_; (repeat (first | with_reducible exact Gr.refl _ | with_reducible assumption | with_reducible refine Gr.alloc ?_ _ | with_reducible refine Gr.drewN ?_ _ | with_reducible refine Gr.drew ?_ | with_reducible refine Gr.trans ?_ (by with_reducible assumption))); done)) _ | with_reducible refine Gr.trans ?_ (by with_reducible assumption)))
      obtain ⟨X1, Y1, c1, f1⟩ := g1.use
      have l1 : w.heap.size < w1.heap.size := Nat.lt_of_lt_of_le (by simp) z1
      go_wp2_with fail
      refine (HHE.out _ gW1).mono ?_
      rintro e w2 ⟨rfl, g2⟩
      have z2 := g2.size
      have gW2 : Gr w w2 := gW1.trans g2
      obtain ⟨X2, Y2, c2, f2⟩ := g2.use
      have l2 : w.heap.size < w2.heap.size := by omega
      go_upto_region 13 with fail
      clear HFE HHE
      go_region_law (first
        | (go_simp; go_at_call 83; refine (HFM.out _).mono ?_; rintro e w5 ⟨rfl, g5⟩; (have m5 : w.heap.size < w5.heap.size := Nat.lt_of_lt_of_le l2 (Gr.size (by repeat (first | with_reducible exact Gr.refl _ | with_reducible assumption | with_reducible refine Gr.alloc ?_ _ | with_reducible refine Gr.drewN ?_ _ | with_reducible refine Gr.drew ?_ | with_reducible refine Gr.setCell ?_ (by first | (dsimp only; omega) | (simp only [World.size_alloc]; omega) | (with_reducible refine Gr.size ?_; (repeat (first | with_reducible exact Gr.refl _ | with_reducible assumption | with_reducible refine Gr.alloc ?_ _ | with_reducible refine Gr.drewN ?_ _ | with_reducible refine Gr.drew ?_ | with_reducible refine Gr.trans ?_ (by with_reducible assumption))); done)) _ | with_reducible refine Gr.trans ?_ (by with_reducible assumption))))); obtain ⟨X5, Y5, c5, f5⟩ := g5.use)
        | (go_simp; go_at_call 82; refine (HPL.out _ (gW2.trans (by repeat (first | with_reducible exact Gr.refl _ | with_reducible assumption | with_reducible refine Gr.alloc ?_ _ | with_reducible refine Gr.drewN ?_ _ | with_reducible refine Gr.drew ?_ | with_reducible refine Gr.setCell ?_ (by first | (dsimp only; omega) | (simp only [World.size_alloc]; omega) | (with_reducible refine Gr.size ?_; (repeat (first | with_reducible exact Gr.refl _ | with_reducible assumption | with_reducible refine Gr.alloc ?_ _ | with_reducible refine Gr.drewN ?_ _ | with_reducible refine Gr.drew ?_ | with_reducible refine Gr.trans ?_ (by with_reducible assumption))); done)) _ | with_reducible refine Gr.trans ?_ (by with_reducible assumption))))).mono ?_; rintro e w6 ⟨v6, rfl, ho6, g6⟩; obtain ⟨A6, d6, rfl⟩ := ho6.slice; (have hsl := slC_of ho6 (by omega)); (have HSL := hide hsl); clear hsl ho6; (have m6 : w.heap.size < w6.heap.size := Nat.lt_of_lt_of_le l2 (Gr.size (by repeat (first | with_reducible exact Gr.refl _ | with_reducible assumption | with_reducible refine Gr.alloc ?_ _ | with_reducible refine Gr.drewN ?_ _ | with_reducible refine Gr.drew ?_ | with_reducible refine Gr.setCell ?_ (by first | (dsimp only; omega) | (simp only [World.size_alloc]; omega) | (with_reducible refine Gr.size ?_; (repeat (first | with_reducible exact Gr.refl _ | with_reducible assumption | with_reducible refine Gr.alloc ?_ _ | with_reducible refine Gr.drewN ?_ _ | with_reducible refine Gr.drew ?_ | with_reducible refine Gr.trans ?_ (by with_reducible assumption))); done)) _ | with_reducible refine Gr.trans ?_ (by with_reducible assumption))))); (have gW6 : Gr w w6 := gW2.trans (by repeat (first | with_reducible exact Gr.refl _ | with_reducible assumption | with_reducible refine Gr.alloc ?_ _ | with_reducible refine Gr.drewN ?_ _ | with_reducible refine Gr.drew ?_ | with_reducible refine Gr.setCell ?_ (by first | (dsimp only; omega) | (simp only [World.size_alloc]; omega) | (with_reducible refine Gr.size ?_; (repeat (first | with_reducible exact Gr.refl _ | with_reducible assumption | with_reducible refine Gr.alloc ?_ _ | with_reducible refine Gr.drewN ?_ _ | with_reducible refine Gr.drew ?_ | with_reducible refine Gr.trans ?_ (by with_reducible assumption))); done)) _ | with_reducible refine Gr.trans ?_ (by with_reducible assumption))))))
      all_goals
        go_wp2
        clear c1 f1 c2 f2 c5 f5
        go_loopw [6] (fun i wr => ∃ i' : Nat, i' ≤ FS.length ∧ i = iv i' ∧ Gr w6 wr ∧ Hid (∀ i, i < i' → ∀ k a b, k < i → FS[k]? = some a → FS[i]? = some b → clC a b = false)) (fun i _ => FS.length - (intOf i).toNat)
        case atStart => exact ⟨0, by omega, rfl, Gr.refl _, by intro i hi; omega⟩
        case round =>
          obtain ⟨i, hi, rfl, g, HI⟩ := hrel
          obtain ⟨wo, rfl⟩ : ∃ wo, wo = wr := ⟨_, rfl⟩
          by_cases hlt : i < FS.length
          · obtain ⟨f, hf⟩ : ∃ f, FS[i]? = some f := ⟨_, List.getElem?_eq_getElem hlt⟩
            go_wp2
            go_loopw [7] (fun k wk => ∃ k' : Nat, k' ≤ i ∧ k = iv k' ∧ Gr w6 wk ∧ Hid (∀ k a, k < k' → FS[k]? = some a → clC a f = false)) (fun k _ => i - (intOf k).toNat)
            case atStart => exact ⟨0, by omega, rfl, g, by intro k a hk; omega⟩
            case round =>
              obtain ⟨k, hk, rfl, gk, HK⟩ := hrel
              by_cases hki : k < i
              · obtain ⟨a, ha⟩ : ∃ a, FS[k]? = some a := ⟨_, List.getElem?_eq_getElem (by omega)⟩
                obtain ⟨b, off, hA, x0, x1, x2, x3, x4, x5, x6, x7, x8, x9, x10⟩ := (HSL.out.gr gk).rd.fc hf
                obtain ⟨b', off', hA', y0, y1, y2, y3, y4, y5, y6, y7, y8, y9, y10⟩ := (HSL.out.gr gk).rd.fc ha
                subst hA
                obtain ⟨rfl, rfl⟩ : b = b' ∧ off = off' := by simpa using hA'
                clear hA'
                have hb : b < wr.heap.size := cell_lt (by rw [x0]; rfl)
                have hi0 : (0 : Int) ≤ (i : Int) := by omega
                have hi1 : (i : Int) < (FS.length : Int) := by omega
                have hk0 : (0 : Int) ≤ (k : Int) := by omega
                have hk1 : (k : Int) < (FS.length : Int) := by omega
                have HLf := hide hf
                have HLa := hide ha
                have HCL := hide (fun w => rclashB_any f a w)
                clear hf ha
                cases hv : clC a f with
                | true =>
                  have HE2 := hide (show valE p = 6 by rw [HE.out, if_pos (anyB_yes hki HLa.out HLf.out hv)])
                  rw [hv] at HCL
                  clear hv
                  go_upto_region 20 with fail
                  have GC := @GrW.cell
                  refine wp_region_grw _ (by kernel_rfl) (by kernel_rfl) (Gr.refl _) ?_
                  repeat (go_big_quiet_step ((first | (go_at_call 84; exact quiet_grw (HCL.out _)))))
                  refine wpQuiet_nil ?_
                  intro wq hwq
                  obtain ⟨gq, hwq'⟩ := hwq
                  subst hwq'
                  clear GC
                  have gq1 := gq.gr
                  generalize gq.w = wq at gq1 ⊢
                  obtain ⟨Xq, Yq, cq, fq⟩ := gq1.use
                  have sq := gq1.size
                  (try simp only [World.size_alloc, World.size_setCell, World.heap_drewN] at sq)
                  go_wp2
                  go_ret
                  exact ⟨ret_iv HE2.out.symm, gW6.trans (gk.trans gq1)⟩
                | false =>
                  have HK' := hide (show ∀ j x, j < k + 1 → FS[j]? = some x → clC x f = false by
                    intro j x hj hx
                    rcases Nat.lt_or_ge j k with h | h
                    · exact HK.out j x h hx
                    · obtain rfl : j = k := by omega
                      rw [HLa.out] at hx
                      obtain rfl := Option.some.inj hx
                      exact hv)
                  rw [hv] at HCL
                  clear hv
                  go_upto_region 20 with fail
                  have GC := @GrW.cell
                  refine wp_region_grw _ (by kernel_rfl) (by kernel_rfl) (Gr.refl _) ?_
                  repeat (go_big_quiet_step ((first | (go_at_call 84; exact quiet_grw (HCL.out _)))))
                  refine wpQuiet_nil ?_
                  intro wq hwq
                  obtain ⟨gq, hwq'⟩ := hwq
                  subst hwq'
                  clear GC
                  have gq1 := gq.gr
                  generalize gq.w = wq at gq1 ⊢
                  obtain ⟨Xq, Yq, cq, fq⟩ := gq1.use
                  have sq := gq1.size
                  (try simp only [World.size_alloc, World.size_setCell, World.heap_drewN] at sq)
                  go_wp2
                  go_roundw
                  case rel => exact ⟨k + 1, by omega, by go_num, gk.trans gq1, HK'⟩
                  case measure => simp only [intOf]; omega
              · obtain rfl : k = i := by omega
                have HI' := hide (show ∀ j, j < k + 1 → ∀ m a b, m < j → FS[m]? = some a → FS[j]? = some b → clC a b = false by
                  intro j hj m a b hm hx hy
                  rcases Nat.lt_or_ge j k with h | h
                  · exact HI.out j h m a b hm hx hy
                  · obtain rfl : j = k := by omega
                    rw [hf] at hy
                    obtain rfl := Option.some.inj hy
                    exact HK.out m a hm hx)
                go_wp2
                go_roundw
                case rel => exact ⟨k + 1, by omega, by go_num, gk, HI'⟩
                case measure => simp only [intOf]; omega
          · obtain rfl : i = FS.length := by omega
            have HE2 := hide (show valE p = 0 by rw [HE.out, anyB_no HI.out]; rfl)
            go_wp2
            go_ret
            exact ⟨ret_iv HE2.out.symm, gW6.trans g⟩
    · have HE := hide (valE_hos HV.out HB.out HL.out HF0.out hh0)
      have h0' : (hosE p != 0) = true := by simpa using hh0
      generalize hosE p = x at *
      clear hh0
      go_enter Tryz.func50, Tryz.ntmps50
      go_upto_region 7 with (first | (go_at_call 78; refine (rvalidName_any _ _ (by omega)).mono ?_; rintro e w1 ⟨rfl, rfl⟩) | (go_at_call 79; refine (rwithin_any _ _ _ _).mono ?_; rintro e w1 ⟨rfl, rfl⟩))
      go_wp2_with fail
      refine (HFE.out _ (by repeat (first | with_reducible exact Gr.refl _ | with_reducible assumption | with_reducible refine Gr.alloc ?_ _ | with_reducible refine Gr.drewN ?_ _ | with_reducible refine Gr.drew ?_ | with_reducible refine Gr.setCell ?_ (by first | (dsimp only; omega) | (simp only [World.size_alloc]; omega) | (with_reducible refine Gr.size ?_; (repeat (first | with_reducible exact Gr.refl _ | with_reducible assumption | with_reducible refine Gr.alloc ?_ _ | with_reducible refine Gr.drewN ?_ _ | with_reducible refine Gr.drew ?_ | with_reducible refine Gr.trans ?_ (by with_reducible assumption))); done)) _ | with_reducible refine Gr.trans ?_ (by with_reducible assumption)))).mono ?_
      rintro e w1 ⟨rfl, g1⟩
      have z1 := g1.size
      have gW1 : Gr w w1 := (by repeat (first | with_reducible exact Gr.refl _ | with_reducible assumption | with_reducible refine Gr.alloc ?_ _ | with_reducible refine Gr.drewN ?_ _ | with_reducible refine Gr.drew ?_ | with_reducible refine Gr.setCell ?_ (by first | (dsimp only; omega) | (simp only [World.size_alloc]; omega) | (with_reducible refine Gr.size ?_; (repeat (first | with_reducible exact Gr.refl _ | with_reducible assumption | with_reducible refine Gr.alloc ?_ _ | with_reducible refine Gr.drewN ?_ _ | with_reducible refine Gr.drew ?_ | with_reducible refine Gr.trans ?_ (by with_reducible assumption))); done)) _ | with_reducible refine Gr.trans ?_ (by with_reducible assumption)))
      obtain ⟨X1, Y1, c1, f1⟩ := g1.use
      have l1 : w.heap.size < w1.heap.size := Nat.lt_of_lt_of_le (by simp) z1
      go_wp2_with fail
      refine (HHE.out _ gW1).mono ?_
      rintro e w2 ⟨rfl, g2⟩
      go_wp2_with fail
      go_ret
      exact ⟨ret_iv HE.out.symm, (by repeat (first | with_reducible exact Gr.refl _ | with_reducible assumption | with_reducible refine Gr.alloc ?_ _ | with_reducible refine Gr.drewN ?_ _ | with_reducible refine Gr.drew ?_ | with_reducible refine Gr.setCell ?_ (by first | (dsimp only; omega) | (simp only [World.size_alloc]; omega) | (with_reducible refine Gr.size ?_; (repeat (first | with_reducible exact Gr.refl _ | with_reducible assumption | with_reducible refine Gr.alloc ?_ _ | with_reducible refine Gr.drewN ?_ _ | with_reducible refine Gr.drew ?_ | with_reducible refine Gr.trans ?_ (by with_reducible assumption))); done)) _ | with_reducible refine Gr.trans ?_ (by with_reducible assumption)))⟩
  · have HE := hide (valE_fls HV.out HB.out HL.out hf0)
    have h0' : (flsE p != 0) = true := by simpa using hf0
    generalize flsE p = x at *
    clear hf0
    go_enter Tryz.func50, Tryz.ntmps50
    go_upto_region 7 with (first | (go_at_call 78; refine (rvalidName_any _ _ (by omega)).mono ?_; rintro e w1 ⟨rfl, rfl⟩) | (go_at_call 79; refine (rwithin_any _ _ _ _).mono ?_; rintro e w1 ⟨rfl, rfl⟩))
    go_wp2_with fail
    refine (HFE.out _ (by repeat (first | with_reducible exact Gr.refl _ | with_reducible assumption | with_reducible refine Gr.alloc ?_ _ | with_reducible refine Gr.drewN ?_ _ | with_reducible refine Gr.drew ?_ | with_reducible refine Gr.setCell ?_ (by first | (dsimp only; omega) | (simp only [World.size_alloc]; omega) | (with_reducible refine Gr.size ?_; (repeat (first | with_reducible exact Gr.refl _ | with_reducible assumption | with_reducible refine Gr.alloc ?_ _ | with_reducible refine Gr.drewN ?_ _ | with_reducible refine Gr.drew ?_ | with_reducible refine Gr.trans ?_ (by with_reducible assumption))); done)) _ | with_reducible refine Gr.trans ?_ (by with_reducible assumption)))).mono ?_
    rintro e w1 ⟨rfl, g1⟩
    go_wp2_with fail
    go_ret
    exact ⟨ret_iv HE.out.symm, (by repeat (first | with_reducible exact Gr.refl _ | with_reducible assumption | with_reducible refine Gr.alloc ?_ _ | with_reducible refine Gr.drewN ?_ _ | with_reducible refine Gr.drew ?_ | with_reducible refine Gr.setCell ?_ (by first | (dsimp only; omega) | (simp only [World.size_alloc]; omega) | (with_reducible refine Gr.size ?_; (repeat (first | with_reducible exact Gr.refl _ | with_reducible assumption | with_reducible refine Gr.alloc ?_ _ | with_reducible refine Gr.drewN ?_ _ | with_reducible refine Gr.drew ?_ | with_reducible refine Gr.trans ?_ (by with_reducible assumption))); done)) _ | with_reducible refine Gr.trans ?_ (by with_reducible assumption)))⟩
theorem rValidate_any (p : Pa) (A B : Option Addr) (c d : Nat) (w : World) (hP : PaW w p A c B d) :
    Calls Tryz.prog 50 #[pav p A c B d] w fun e w' => e = .returned (iv (valE p)) ∧ Gr w w' := by
  by_cases h : (nameB p.nm.toList && nameB p.mt.toList) = true
  · by_cases hb : basB p = true
    · by_cases hl : 5 < p.fl.length ∨ 6 < p.ho.length
      · exact rvalidate_early p A B c d w hP (.inr (.inr hl))
      · exact rvalidate_late p A B c d w hP h hb hl
    · exact rvalidate_early p A B c d w hP (.inr (.inl (by simpa using hb)))
  · exact rvalidate_early p A B c d w hP (.inl (by simpa using h))
theorem Validate_any (p : Pa) (A B : Option Addr) (c d : Nat) (w : World) (hP : PaW w p A c B d) :
    Calls Tryz.prog 31 #[pav p A c B d] w fun e w' => e = .returned (iv (valE p)) ∧ Gr w w' := by
  by_cases h : (nameB p.nm.toList && nameB p.mt.toList) = true
  · by_cases hb : basB p = true
    · by_cases hl : 5 < p.fl.length ∨ 6 < p.ho.length
      · exact validate_early p A B c d w hP (.inr (.inr hl))
      · exact validate_late p A B c d w hP h hb hl
    · exact validate_early p A B c d w hP (.inr (.inl (by simpa using hb)))
  · exact validate_early p A B c d w hP (.inl (by simpa using h))
end Go.Proofs.YtdabhnefoigebaaGreat
