/-
  Parts: the reference's Validate.
-/
import Derived.Test.YtpmomgfepkegnaaVal17
import Derived.Test.YtpmomgfepkegnaaPlc1
import Derived.Test.YtpmomgfepkegnaaClash9
set_option linter.unusedVariables false
set_option linter.unusedSimpArgs false
namespace Go.Proofs.Ytpmomgfepkegnaa
set_option linter.unusedVariables false
set_option linter.unusedSimpArgs false
open Go Go.ChangeShapes Go.WideShapes Go.ChangeAt Go.RowKit Go.Deep

theorem rclashB_any (a b : Fc) (w : World) :
    Calls Try.prog 71 #[fv a, fv b] w fun e w' => e = .returned (.bool (clC b a)) ∧ Gr w w' := by
  rw [cl_comm, cl_eq]
  cases ha : soB a with
  | false =>
    have : clR a b = false := by unfold clR; simp [ha]
    rw [this]
    exact rclash_no a b w (.inl ha)
  | true =>
    cases hb : soB b with
    | false =>
      have : clR a b = false := by unfold clR; simp [hb]
      rw [this]
      exact rclash_no a b w (.inr (.inl ⟨ha, hb⟩))
    | true =>
      cases hn : (axN a == axN b) with
      | true =>
        have : clR a b = false := by unfold clR; rw [hn]; simp
        rw [this]
        exact rclash_no a b w (.inr (.inr ⟨ha, hb, hn⟩))
      | false =>
        have := rclash_yes a b w ha hb hn
        unfold clR
        rw [ha, hb, hn]
        exact this
theorem nb_tr {b : Bool} (h : (!b) = false) : b = true := by simpa using h
theorem basB_parts {p : Pa} : basB p = true ↔ wiB p.ga 1 60 = true ∧ wiB p.gr 0 2 = true ∧ wiB p.wd 1 150 = true ∧ wiB p.ht 1 150 = true := by
  unfold basB lenB
  simp only [Bool.and_eq_true, and_assoc]
theorem fls_zero {p : Pa} (h : flsE p = 0) : firE (flA p) p.fl.length = 0 ∧ anyB ovF p.fl = false := by
  unfold flsE at h
  split at h
  · rename_i h1
    exact absurd h h1
  · rename_i h1
    split at h
    · cases h
    · rename_i h2
      exact ⟨by simpa using h1, by simpa using h2⟩
theorem hos_zero {p : Pa} (h : hosE p = 0) : p.ho.all (hoB p) = true ∧ anyB touB p.ho = false := by
  unfold hosE at h
  split at h
  · cases h
  · rename_i h1
    split at h
    · cases h
    · rename_i h2
      exact ⟨by simpa using h1, by simpa using h2⟩
theorem valE_fls {p : Pa} (h : (nameB p.nm.toList && nameB p.mt.toList) = true) (hb : basB p = true) (hl : ¬ (5 < p.fl.length ∨ 6 < p.ho.length)) (k : ¬ flsE p = 0) : valE p = flsE p := by
  rw [valE_rest h hb hl]
  unfold flsE at *
  split at k
  · rename_i h1
    rw [if_pos h1, if_pos h1]
  · rename_i h1
    rw [if_neg h1, if_neg h1]
    split at k
    · rename_i h2
      rw [if_pos h2, if_pos h2]
    · exact absurd rfl k
theorem valE_hos {p : Pa} (h : (nameB p.nm.toList && nameB p.mt.toList) = true) (hb : basB p = true) (hl : ¬ (5 < p.fl.length ∨ 6 < p.ho.length)) (k : flsE p = 0) (m : ¬ hosE p = 0) : valE p = hosE p := by
  obtain ⟨k1, k2⟩ := fls_zero k
  rw [valE_rest h hb hl, k1, k2]
  unfold hosE at *
  simp only [ne_eq, not_true_eq_false, if_false, Bool.false_eq_true] at *
  split at m
  · rename_i h1
    rw [if_pos h1, if_pos h1]
  · rename_i h1
    rw [if_neg h1, if_neg h1]
    split at m
    · rename_i h2
      rw [if_pos h2, if_pos h2]
    · exact absurd rfl m
theorem valE_clash {p : Pa} (h : (nameB p.nm.toList && nameB p.mt.toList) = true) (hb : basB p = true) (hl : ¬ (5 < p.fl.length ∨ 6 < p.ho.length)) (k : flsE p = 0) (m : hosE p = 0) :
    valE p = if anyB clC (facs flC p.wd p.ht p.fl allT p.fl.length) then 6 else 0 := by
  obtain ⟨k1, k2⟩ := fls_zero k
  obtain ⟨m1, m2⟩ := hos_zero m
  rw [valE_rest h hb hl, k1, k2, m1, m2]
  rfl
theorem facs_fullR (p : Pa) (ok : Fit p.fl) : facs flR p.wd p.ht p.fl (fun i => (2 ^ p.fl.length - 1).testBit i) p.fl.length = facs flC p.wd p.ht p.fl allT p.fl.length := by
  rw [← (facs_eq ok p.fl.length (Nat.le_refl _)).1]
  exact facs_congr fun i hi => full_bit hi
set_option maxRecDepth 100000 in
set_option maxHeartbeats 4000000 in
theorem rvalidate_early (p : Pa) (A B : Option Addr) (c d : Nat) (w : World) (hP : PaW w p A c B d) (h : (nameB p.nm.toList && nameB p.mt.toList) = false ∨ basB p = false ∨ 5 < p.fl.length ∨ 6 < p.ho.length) :
    Calls Try.prog 19 #[pav p A c B d] w fun e w' => e = .returned (iv (valE p)) ∧ Gr w w' := by
  have hn := hP.nm
  have hm := hP.mt
  have HP := hide hP
  clear hP
  cases h1 : nameB p.nm.toList with
  | false =>
    have HE := hide (valE_names (p := p) (by rw [h1]; rfl))
    go_enter Try.func19, Try.ntmps19
    go_wp2_with (first | (go_at_call 65; refine (rvalidName_any _ _ (by omega)).mono ?_; rintro e w1 ⟨rfl, rfl⟩))
    go_ret
    exact ⟨ret_iv HE.out.symm, (by repeat (first | with_reducible exact Gr.refl _ | with_reducible assumption | with_reducible refine Gr.alloc ?_ _ | with_reducible refine Gr.drewN ?_ _ | with_reducible refine Gr.drew ?_ | with_reducible refine Gr.setCell ?_ (by first | (dsimp only; omega) | (simp only [World.size_alloc]; omega) | (with_reducible refine Gr.size ?_; (repeat (first | with_reducible exact Gr.refl _ | with_reducible assumption | with_reducible refine Gr.alloc ?_ _ | with_reducible refine Gr.drewN ?_ _ | with_reducible refine Gr.drew ?_ | with_reducible refine Gr.trans ?_ (by with_reducible assumption))); done)) _ | with_reducible refine Gr.trans ?_ (by with_reducible assumption)))⟩
  | true =>
    cases h2 : nameB p.mt.toList with
    | false =>
      have HE := hide (valE_names (p := p) (by rw [h1, h2]; rfl))
      go_enter Try.func19, Try.ntmps19
      go_wp2_with (first | (go_at_call 65; refine (rvalidName_any _ _ (by omega)).mono ?_; rintro e w1 ⟨rfl, rfl⟩))
      go_ret
      exact ⟨ret_iv HE.out.symm, (by repeat (first | with_reducible exact Gr.refl _ | with_reducible assumption | with_reducible refine Gr.alloc ?_ _ | with_reducible refine Gr.drewN ?_ _ | with_reducible refine Gr.drew ?_ | with_reducible refine Gr.setCell ?_ (by first | (dsimp only; omega) | (simp only [World.size_alloc]; omega) | (with_reducible refine Gr.size ?_; (repeat (first | with_reducible exact Gr.refl _ | with_reducible assumption | with_reducible refine Gr.alloc ?_ _ | with_reducible refine Gr.drewN ?_ _ | with_reducible refine Gr.drew ?_ | with_reducible refine Gr.trans ?_ (by with_reducible assumption))); done)) _ | with_reducible refine Gr.trans ?_ (by with_reducible assumption)))⟩
    | true =>
      cases h3 : basB p with
      | false =>
        have HE := hide (valE_base (p := p) (by rw [h1, h2]; rfl) h3)
        have HN := hide (show ¬ (wiB p.ga 1 60 = true ∧ wiB p.gr 0 2 = true ∧ wiB p.wd 1 150 = true ∧ wiB p.ht 1 150 = true) by rw [← basB_parts, h3]; simp)
        clear h h3
        go_enter Try.func19, Try.ntmps19
        go_upto_region 5 with (first | (go_at_call 65; refine (rvalidName_any _ _ (by omega)).mono ?_; rintro e w1 ⟨rfl, rfl⟩) | (go_at_call 66; refine (rwithin_any _ _ _ _).mono ?_; rintro e w1 ⟨rfl, rfl⟩))
        all_goals first
          | (exfalso
             exact HN.out ⟨by assumption, by assumption, by assumption, by first | assumption | exact nb_tr (by assumption)⟩)
          | (go_ret
             exact ⟨ret_iv HE.out.symm, (by repeat (first | with_reducible exact Gr.refl _ | with_reducible assumption | with_reducible refine Gr.alloc ?_ _ | with_reducible refine Gr.drewN ?_ _ | with_reducible refine Gr.drew ?_ | with_reducible refine Gr.setCell ?_ (by first | (dsimp only; omega) | (simp only [World.size_alloc]; omega) | (with_reducible refine Gr.size ?_; (repeat (first | with_reducible exact Gr.refl _ | with_reducible assumption | with_reducible refine Gr.alloc ?_ _ | with_reducible refine Gr.drewN ?_ _ | with_reducible refine Gr.drew ?_ | with_reducible refine Gr.trans ?_ (by with_reducible assumption))); done)) _ | with_reducible refine Gr.trans ?_ (by with_reducible assumption)))⟩)
      | true =>
        have hl : 5 < p.fl.length ∨ 6 < p.ho.length := by
          rcases h with h | h | h
          · rw [h1, h2] at h; cases h
          · rw [h3] at h; cases h
          · exact h
        have HE := hide (valE_large (p := p) (by rw [h1, h2]; rfl) h3 hl)
        obtain ⟨q1, q2, q3, q4⟩ := basB_parts.1 h3
        clear h h3
        by_cases hl5 : 5 < p.fl.length
        · clear hl
          go_enter Try.func19, Try.ntmps19
          go_wp2_with (first | (go_at_call 65; refine (rvalidName_any _ _ (by omega)).mono ?_; rintro e w1 ⟨rfl, rfl⟩) | (go_at_call 66; refine (rwithin_any _ _ _ _).mono ?_; rintro e w1 ⟨rfl, rfl⟩))
          go_ret
          exact ⟨ret_iv HE.out.symm, (by repeat (first | with_reducible exact Gr.refl _ | with_reducible assumption | with_reducible refine Gr.alloc ?_ _ | with_reducible refine Gr.drewN ?_ _ | with_reducible refine Gr.drew ?_ | with_reducible refine Gr.setCell ?_ (by first | (dsimp only; omega) | (simp only [World.size_alloc]; omega) | (with_reducible refine Gr.size ?_; (repeat (first | with_reducible exact Gr.refl _ | with_reducible assumption | with_reducible refine Gr.alloc ?_ _ | with_reducible refine Gr.drewN ?_ _ | with_reducible refine Gr.drew ?_ | with_reducible refine Gr.trans ?_ (by with_reducible assumption))); done)) _ | with_reducible refine Gr.trans ?_ (by with_reducible assumption)))⟩
        · have hl6 : 6 < p.ho.length := by omega
          clear hl
          go_enter Try.func19, Try.ntmps19
          go_wp2_with (first | (go_at_call 65; refine (rvalidName_any _ _ (by omega)).mono ?_; rintro e w1 ⟨rfl, rfl⟩) | (go_at_call 66; refine (rwithin_any _ _ _ _).mono ?_; rintro e w1 ⟨rfl, rfl⟩))
          go_ret
          exact ⟨ret_iv HE.out.symm, (by repeat (first | with_reducible exact Gr.refl _ | with_reducible assumption | with_reducible refine Gr.alloc ?_ _ | with_reducible refine Gr.drewN ?_ _ | with_reducible refine Gr.drew ?_ | with_reducible refine Gr.setCell ?_ (by first | (dsimp only; omega) | (simp only [World.size_alloc]; omega) | (with_reducible refine Gr.size ?_; (repeat (first | with_reducible exact Gr.refl _ | with_reducible assumption | with_reducible refine Gr.alloc ?_ _ | with_reducible refine Gr.drewN ?_ _ | with_reducible refine Gr.drew ?_ | with_reducible refine Gr.trans ?_ (by with_reducible assumption))); done)) _ | with_reducible refine Gr.trans ?_ (by with_reducible assumption)))⟩
end Go.Proofs.Ytpmomgfepkegnaa
