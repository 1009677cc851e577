/-
  Bend tables: both sides' Validate.
-/
import Derived.Test.YtpmomgfepkegnaaOpenTb
import Derived.Test.YtpmomgfepkegnaaRat5
set_option linter.unusedVariables false
set_option linter.unusedSimpArgs false
namespace Go.Proofs.Ytpmomgfepkegnaa
set_option linter.unusedVariables false
set_option linter.unusedSimpArgs false
open Go Go.ChangeShapes Go.WideShapes Go.ChangeAt Go.RowKit Go.Deep

theorem fvalidAngle_any (n : Int) (w : World) :
    Calls Try.prog 93 #[iv n] w fun e w' => e = .returned (.bool (a6B n)) ∧ w = w' := by
  go_enter Try.func93, Try.ntmps93
  go_wp2
  all_goals
    go_ret
    exact ⟨ret_bool (by unfold a6B; simp at *; omega), rfl⟩
theorem validDen_any (n : Int) (w : World) :
    Calls Try.prog 156 #[iv n] w fun e w' => e = .returned (.bool (dnB n)) ∧ w = w' := by
  go_enter Try.func156, Try.ntmps156
  go_wp2
  all_goals
    go_ret
    exact ⟨ret_bool (by unfold dnB; simp at *; omega), rfl⟩
theorem validEntry_any (x : En) (w : World) :
    Calls Try.prog 101 #[env x] w fun e w' => e = .returned (.bool (enB x)) ∧ Gr w w' := by
  cases h : dnB x.dn with
  | false =>
    go_enter Try.func101, Try.ntmps101
    go_wp2_with (first | (go_at_call 93; refine (fvalidAngle_any _ _).mono ?_; rintro e w1 ⟨rfl, rfl⟩) | (go_at_call 156; refine (validDen_any _ _).mono ?_; rintro e w1 ⟨rfl, rfl⟩))
    all_goals
      go_ret
      exact ⟨ret_bool (by unfold enB; simp [*]), (by repeat (first | with_reducible exact Gr.refl _ | with_reducible assumption | with_reducible refine Gr.alloc ?_ _ | with_reducible refine Gr.drewN ?_ _ | with_reducible refine Gr.drew ?_ | with_reducible refine Gr.setCell ?_ (by first | (dsimp only; omega) | (simp only [World.size_alloc]; omega) | (with_reducible refine Gr.size ?_; (repeat (first | with_reducible exact Gr.refl _ | with_reducible assumption | with_reducible refine Gr.alloc ?_ _ | with_reducible refine Gr.drewN ?_ _ | with_reducible refine Gr.drew ?_ | with_reducible refine Gr.trans ?_ (by with_reducible assumption))); done)) _ | with_reducible refine Gr.trans ?_ (by with_reducible assumption)))⟩
  | true =>
    have hd := dnB_iff.1 h
    have h1 : 1 ≤ x.dn := by omega
    have h2 : x.dn ≤ 12 := by omega
    clear hd
    go_enter Try.func101, Try.ntmps101
    go_wp2_with (first | (go_at_call 93; refine (fvalidAngle_any _ _).mono ?_; rintro e w1 ⟨rfl, rfl⟩) | (go_at_call 156; refine (validDen_any _ _).mono ?_; rintro e w1 ⟨rfl, rfl⟩) | (go_at_call 100; refine (fwithin_any _ _ _ _).mono ?_; rintro e w1 ⟨rfl, rfl⟩))
    all_goals
      go_ret
      exact ⟨ret_bool (by unfold enB; simp [*]), (by repeat (first | with_reducible exact Gr.refl _ | with_reducible assumption | with_reducible refine Gr.alloc ?_ _ | with_reducible refine Gr.drewN ?_ _ | with_reducible refine Gr.drew ?_ | with_reducible refine Gr.setCell ?_ (by first | (dsimp only; omega) | (simp only [World.size_alloc]; omega) | (with_reducible refine Gr.size ?_; (repeat (first | with_reducible exact Gr.refl _ | with_reducible assumption | with_reducible refine Gr.alloc ?_ _ | with_reducible refine Gr.drewN ?_ _ | with_reducible refine Gr.drew ?_ | with_reducible refine Gr.trans ?_ (by with_reducible assumption))); done)) _ | with_reducible refine Gr.trans ?_ (by with_reducible assumption)))⟩
theorem nb_t {b : Bool} (h : (!b) = false) : b = true := by simpa using h
theorem tbE_bad {t : Tb} (h : hdB t = false) : tbE t = 9 := by
  unfold tbE
  rw [h]
  rfl
theorem tbE_stop {t : Tb} (h : okB t.en t.en.length = false) : tbE t = 9 := by
  unfold tbE
  rw [h]
  simp
theorem tbE_good {t : Tb} (h : hdB t = true) (k : okB t.en t.en.length = true) : tbE t = 0 := by
  unfold tbE
  rw [h, k]
  rfl
theorem hdB_parts {t : Tb} : hdB t = true ↔ nameB t.mt.toList = true ∧ wiB t.ga 1 60 = true ∧ wiB t.di 1 1000 = true ∧ wiB t.en.length 1 6 = true := by
  unfold hdB
  simp only [Bool.and_eq_true, and_assoc]
theorem laI_succ {l : List En} {k : Nat} {x : En} (hx : l[k]? = some x) : laI l (k + 1) = x.an := by
  unfold laI
  rw [if_neg (by omega), Nat.add_sub_cancel, hx]
  rfl
set_option maxRecDepth 100000 in
set_option maxHeartbeats 2000000 in
theorem fValidate_any (t : Tb) (A : Option Addr) (c : Nat) (w : World) (hE : SlE w A c t.en) (hs : t.mt.size ≤ 1000) :
    Calls Try.prog 42 #[tbv t A c] w fun e w' => e = .returned (iv (tbE t)) ∧ Gr w w' := by
  have hlen := hE.len
  have HF := hide hE
  clear hE
  cases hh : hdB t with
  | false =>
    have HE := hide (tbE_bad hh)
    have HN := hide (show ¬ (nameB t.mt.toList = true ∧ wiB t.ga 1 60 = true ∧ wiB t.di 1 1000 = true ∧ wiB t.en.length 1 6 = true) by rw [← hdB_parts, hh]; simp)
    clear hh
    go_enter Try.func42, Try.ntmps42
    go_upto_region 3 with (first | (go_at_call 53; refine (validName_any _ _ (by omega)).mono ?_; rintro e w1 ⟨rfl, rfl⟩) | (go_at_call 100; refine (fwithin_any _ _ _ _).mono ?_; rintro e w1 ⟨rfl, rfl⟩))
    all_goals first
      | (exfalso
         exact HN.out ⟨by assumption, by assumption, by assumption, by first | assumption | exact nb_t (by assumption)⟩)
      | (go_ret
         exact ⟨ret_iv' HE.out.symm, (by repeat (first | with_reducible exact Gr.refl _ | with_reducible assumption | with_reducible refine Gr.alloc ?_ _ | with_reducible refine Gr.drewN ?_ _ | with_reducible refine Gr.drew ?_ | with_reducible refine Gr.setCell ?_ (by first | (dsimp only; omega) | (simp only [World.size_alloc]; omega) | (with_reducible refine Gr.size ?_; (repeat (first | with_reducible exact Gr.refl _ | with_reducible assumption | with_reducible refine Gr.alloc ?_ _ | with_reducible refine Gr.drewN ?_ _ | with_reducible refine Gr.drew ?_ | with_reducible refine Gr.trans ?_ (by with_reducible assumption))); done)) _ | with_reducible refine Gr.trans ?_ (by with_reducible assumption)))⟩)
  | true =>
    obtain ⟨h1, h2, h3, h4⟩ := hdB_parts.1 hh
    have HH := hide hh
    clear hh
    go_enter Try.func42, Try.ntmps42
    go_upto_region 3 with (first | (go_at_call 53; refine (validName_any _ _ (by omega)).mono ?_; rintro e w1 ⟨rfl, rfl⟩) | (go_at_call 100; refine (fwithin_any _ _ _ _).mono ?_; rintro e w1 ⟨rfl, rfl⟩))
    go_wp2
    clear h1 h2 h3 h4
    go_loopw [3, 32] (fun l i wr => ∃ k : Nat, k ≤ t.en.length ∧ i = iv k ∧ l = iv (laI t.en k) ∧ Gr (w.alloc (.cells #[.string t.mt, iv t.ga, iv t.di, .slice A t.en.length c] 71)) wr ∧ Hid (okB t.en k = true)) (fun _ i _ => t.en.length - (intOf i).toNat)
    case atStart => exact ⟨0, by omega, rfl, rfl, Gr.refl _, rfl⟩
    case round =>
      obtain ⟨k, hk, rfl, rfl, g, HO⟩ := hrel
      have gW : Gr w wr := (by repeat (first | with_reducible exact Gr.refl _ | with_reducible assumption | with_reducible refine Gr.alloc ?_ _ | with_reducible refine Gr.drewN ?_ _ | with_reducible refine Gr.drew ?_ | with_reducible refine Gr.setCell ?_ (by first | (dsimp only; omega) | (simp only [World.size_alloc]; omega) | (with_reducible refine Gr.size ?_; (repeat (first | with_reducible exact Gr.refl _ | with_reducible assumption | with_reducible refine Gr.alloc ?_ _ | with_reducible refine Gr.drewN ?_ _ | with_reducible refine Gr.drew ?_ | with_reducible refine Gr.trans ?_ (by with_reducible assumption))); done)) _ | with_reducible refine Gr.trans ?_ (by with_reducible assumption)))
      obtain ⟨Xr, Yr, cr, fr⟩ := g.use
      have zr := g.size
      simp only [World.size_alloc] at zr
      have l0 : w.heap.size < wr.heap.size := by omega
      by_cases hkl : k < t.en.length
      · obtain ⟨x, hx⟩ : ∃ x, t.en[k]? = some x := ⟨_, List.getElem?_eq_getElem hkl⟩
        obtain ⟨b, off, rfl, x0, x1, x2⟩ := HF.out.rd.en hx
        have hb : b < w.heap.size := cell_lt (by rw [x0]; rfl)
        have HL := hide hx
        clear hx
        have HR := hide (laI_succ HL.out)
        cases he : etB (laI t.en k) x with
        | false =>
          have HE := hide (tbE_stop (okB_stop HL.out he hkl))
          unfold etB at he
          rw [Bool.and_eq_false_iff] at he
          generalize laI t.en k = L at *
          by_cases h1 : L < x.an
          · have h2 : enB x = false := by
              rcases he with h | h
              · exact absurd h1 (by simpa using h)
              · exact h
            clear he
            go_wp2_with (first | (go_at_call 101; refine (validEntry_any _ _).mono ?_; rintro e w1 ⟨rfl, g1⟩; obtain ⟨X1, Y1, c1, f1⟩ := g1.use))
            go_ret
            exact ⟨ret_iv' HE.out.symm, (by repeat (first | with_reducible exact Gr.refl _ | with_reducible assumption | with_reducible refine Gr.alloc ?_ _ | with_reducible refine Gr.drewN ?_ _ | with_reducible refine Gr.drew ?_ | with_reducible refine Gr.setCell ?_ (by first | (dsimp only; omega) | (simp only [World.size_alloc]; omega) | (with_reducible refine Gr.size ?_; (repeat (first | with_reducible exact Gr.refl _ | with_reducible assumption | with_reducible refine Gr.alloc ?_ _ | with_reducible refine Gr.drewN ?_ _ | with_reducible refine Gr.drew ?_ | with_reducible refine Gr.trans ?_ (by with_reducible assumption))); done)) _ | with_reducible refine Gr.trans ?_ (by with_reducible assumption)))⟩
          · clear he
            go_wp2_with (first | (go_at_call 101; refine (validEntry_any _ _).mono ?_; rintro e w1 ⟨rfl, g1⟩; obtain ⟨X1, Y1, c1, f1⟩ := g1.use))
            go_ret
            exact ⟨ret_iv' HE.out.symm, (by repeat (first | with_reducible exact Gr.refl _ | with_reducible assumption | with_reducible refine Gr.alloc ?_ _ | with_reducible refine Gr.drewN ?_ _ | with_reducible refine Gr.drew ?_ | with_reducible refine Gr.setCell ?_ (by first | (dsimp only; omega) | (simp only [World.size_alloc]; omega) | (with_reducible refine Gr.size ?_; (repeat (first | with_reducible exact Gr.refl _ | with_reducible assumption | with_reducible refine Gr.alloc ?_ _ | with_reducible refine Gr.drewN ?_ _ | with_reducible refine Gr.drew ?_ | with_reducible refine Gr.trans ?_ (by with_reducible assumption))); done)) _ | with_reducible refine Gr.trans ?_ (by with_reducible assumption)))⟩
        | true =>
          have HO' := hide (show okB t.en (k + 1) = true by rw [okB_at HL.out, HO.out, he]; rfl)
          unfold etB at he
          simp only [Bool.and_eq_true, decide_eq_true_eq] at he
          obtain ⟨h1, h2⟩ := he
          generalize laI t.en k = L at *
          go_wp2_with (first | (go_at_call 101; refine (validEntry_any _ _).mono ?_; rintro e w1 ⟨rfl, g1⟩; obtain ⟨X1, Y1, c1, f1⟩ := g1.use; have z1 := g1.size; (try simp only [World.size_alloc, World.size_setCell, World.heap_drewN, Nat.add_one_le_iff] at z1); (try have l0 : w.heap.size < w1.heap.size := by omega); (try have l1 : w.heap.size + 1 < w1.heap.size := by omega); (try have l2 : w.heap.size + 1 + 1 < w1.heap.size := by omega)))
          go_roundw
          case rel => exact ⟨k + 1, by omega, by go_num, by rw [HR.out], (by repeat (first | with_reducible exact Gr.refl _ | with_reducible assumption | with_reducible refine Gr.alloc ?_ _ | with_reducible refine Gr.drewN ?_ _ | with_reducible refine Gr.drew ?_ | with_reducible refine Gr.setCell ?_ (by first | (dsimp only; omega) | (simp only [World.size_alloc]; omega) | (with_reducible refine Gr.size ?_; (repeat (first | with_reducible exact Gr.refl _ | with_reducible assumption | with_reducible refine Gr.alloc ?_ _ | with_reducible refine Gr.drewN ?_ _ | with_reducible refine Gr.drew ?_ | with_reducible refine Gr.trans ?_ (by with_reducible assumption))); done)) _ | with_reducible refine Gr.trans ?_ (by with_reducible assumption))), HO'⟩
          case measure => simp only [intOf]; omega
      · obtain rfl : k = t.en.length := by omega
        have HE := hide (tbE_good HH.out HO.out)
        go_wp2
        go_ret
        exact ⟨ret_iv' HE.out.symm, (by repeat (first | with_reducible exact Gr.refl _ | with_reducible assumption | with_reducible refine Gr.alloc ?_ _ | with_reducible refine Gr.drewN ?_ _ | with_reducible refine Gr.drew ?_ | with_reducible refine Gr.setCell ?_ (by first | (dsimp only; omega) | (simp only [World.size_alloc]; omega) | (with_reducible refine Gr.size ?_; (repeat (first | with_reducible exact Gr.refl _ | with_reducible assumption | with_reducible refine Gr.alloc ?_ _ | with_reducible refine Gr.drewN ?_ _ | with_reducible refine Gr.drew ?_ | with_reducible refine Gr.trans ?_ (by with_reducible assumption))); done)) _ | with_reducible refine Gr.trans ?_ (by with_reducible assumption)))⟩
end Go.Proofs.Ytpmomgfepkegnaa
