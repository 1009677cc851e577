/-
  What is mounted at a step, in the reference; the law of mounting.
-/
import Derived.Test.YtjdiepnbchcnoaaSb15
set_option linter.unusedVariables false
set_option linter.unusedSimpArgs false
namespace Go.Proofs.Ytjdiepnbchcnoaa
set_option linter.unusedVariables false
set_option linter.unusedSimpArgs false
open Go Go.ChangeShapes Go.WideShapes Go.ChangeAt Go.RowKit Go.Deep

theorem moL_succ (k : Nat) (l : List Chg) (step : Int) : moL k l step ++ [mo1 l step (k : Int)] = moL (k + 1) l step := by
  unfold moL
  rw [List.range_succ, List.map_append]
  rfl
theorem moF_yes {step i a : Int} {x : Chg} (h : x.st ≤ step) (k : x.sn = i) : moF step i a x = x.pr := if_pos ⟨h, k⟩
theorem moF_no1 {step i a : Int} {x : Chg} (h : ¬ x.st ≤ step) : moF step i a x = a := if_neg fun q => h q.1
theorem moF_no2 {step i a : Int} {x : Chg} (h : ¬ x.sn = i) : moF step i a x = a := if_neg fun q => h q.2
set_option maxRecDepth 100000 in
set_option maxHeartbeats 2000000 in
theorem rmounted_any (B : Option Addr) (d : Nat) (q : Nat) (l : List Chg) (step : Int) (w : World) (hp : SlC w B d l) (hq : q ≤ 3) :
    Calls Try.prog 29 #[iv q, .slice B l.length d, iv step] w fun e w' => ∃ A' d', e = .returned (.slice A' (moL q l step).length d') ∧ SlI w' A' d' (moL q l step) ∧ Gr w w' := by
  have n1 := hp.cap
  have n2 := hp.capB
  have HP := hide hp
  clear hp
  go_enter Try.func29, Try.ntmps29
  go_wp2
  go_loopw [7, 8] (fun v i wr => ∃ (k : Nat) (A' : Option Addr) (d' : Nat), k ≤ q ∧ i = iv k ∧ v = .slice A' (moL k l step).length d' ∧ Gr w wr ∧ Hid (OwnL wr w.heap.size 3 1 inL (.slice A' (moL k l step).length d') (moL k l step))) (fun _ i _ => q - (intOf i).toNat)
  case atStart => exact ⟨0, none, 0, by omega, rfl, rfl, Gr.refl _, own_nil _ _ _ _ _⟩
  case round =>
    obtain ⟨k, A1, d1, hk, rfl, rfl, g, HO⟩ := hrel
    by_cases hkq : k < q
    · have hkl : (moL k l step).length ≤ 3 := by rw [moL_len]; omega
      have sz := g.size
      have HMS := hide (moL_succ k l step)
      obtain ⟨wo, rfl⟩ : ∃ wo, wo = wr := ⟨_, rfl⟩
      go_wp2
      go_loopw [9, 10] (fun p i wr => ∃ r : Nat, r ≤ l.length ∧ i = iv r ∧ p = iv (mo1 (l.take r) step (k : Int)) ∧ Gr wo wr) (fun _ i _ => l.length - (intOf i).toNat)
      case atStart => exact ⟨0, by omega, rfl, rfl, Gr.refl _⟩
      case round =>
        obtain ⟨r, hr, rfl, rfl, g'⟩ := hrel
        have gz : Gr w wr := g.trans g'
        by_cases hrl : r < l.length
        · obtain ⟨x, hx⟩ : ∃ z, l[r]? = some z := ⟨_, List.getElem?_eq_getElem hrl⟩
          obtain ⟨b, o, rfl, x0, x1, x2⟩ := (HP.out.gr gz).at_ hx
          have HT := hide (mo1_at (step := step) (i := (k : Int)) hx)
          have r0 : (0 : Int) ≤ (r : Int) := by omega
          have r1 : (r : Int) < (l.length : Int) := by omega
          clear hx
          by_cases h1 : x.st ≤ step
          · have h1' : decide (x.st ≤ step) = true := by simpa using h1
            by_cases h2 : x.sn = (k : Int)
            · have h2' : (x.sn == (k : Int)) = true := by rw [beq_iff_eq]; exact h2
              have HE := hide (show mo1 (l.take (r + 1)) step (k : Int) = x.pr by rw [HT.out, moF_yes h1 h2])
              clear h1 h2
              go_wp2
              go_roundw
              case rel => exact ⟨r + 1, by omega, by go_num, by rw [HE.out], (by repeat (first | with_reducible exact Gr.refl _ | with_reducible assumption | with_reducible refine Gr.alloc ?_ _ | with_reducible refine Gr.drewN ?_ _ | with_reducible refine Gr.drew ?_ | with_reducible refine Gr.setCell ?_ (by first | (dsimp only; omega) | (simp only [World.size_alloc]; omega) | (with_reducible refine Gr.size ?_; (repeat (first | with_reducible exact Gr.refl _ | with_reducible assumption | with_reducible refine Gr.alloc ?_ _ | with_reducible refine Gr.drewN ?_ _ | with_reducible refine Gr.drew ?_ | with_reducible refine Gr.trans ?_ (by with_reducible assumption))); done)) _ | with_reducible refine Gr.trans ?_ (by with_reducible assumption)))⟩
              case measure => simp only [intOf]; omega
            · have h2' : (x.sn == (k : Int)) = false := by rw [beq_eq_false_iff_ne]; exact h2
              have HE := hide (show mo1 (l.take (r + 1)) step (k : Int) = mo1 (l.take r) step (k : Int) by rw [HT.out, moF_no2 h2])
              clear h1 h2
              go_wp2
              go_roundw
              case rel => exact ⟨r + 1, by omega, by go_num, by rw [HE.out], (by repeat (first | with_reducible exact Gr.refl _ | with_reducible assumption | with_reducible refine Gr.alloc ?_ _ | with_reducible refine Gr.drewN ?_ _ | with_reducible refine Gr.drew ?_ | with_reducible refine Gr.setCell ?_ (by first | (dsimp only; omega) | (simp only [World.size_alloc]; omega) | (with_reducible refine Gr.size ?_; (repeat (first | with_reducible exact Gr.refl _ | with_reducible assumption | with_reducible refine Gr.alloc ?_ _ | with_reducible refine Gr.drewN ?_ _ | with_reducible refine Gr.drew ?_ | with_reducible refine Gr.trans ?_ (by with_reducible assumption))); done)) _ | with_reducible refine Gr.trans ?_ (by with_reducible assumption)))⟩
              case measure => simp only [intOf]; omega
          · have h1' : decide (x.st ≤ step) = false := by simpa using h1
            have HE := hide (show mo1 (l.take (r + 1)) step (k : Int) = mo1 (l.take r) step (k : Int) by rw [HT.out, moF_no1 h1])
            clear h1
            go_wp2
            go_roundw
            case rel => exact ⟨r + 1, by omega, by go_num, by rw [HE.out], (by repeat (first | with_reducible exact Gr.refl _ | with_reducible assumption | with_reducible refine Gr.alloc ?_ _ | with_reducible refine Gr.drewN ?_ _ | with_reducible refine Gr.drew ?_ | with_reducible refine Gr.setCell ?_ (by first | (dsimp only; omega) | (simp only [World.size_alloc]; omega) | (with_reducible refine Gr.size ?_; (repeat (first | with_reducible exact Gr.refl _ | with_reducible assumption | with_reducible refine Gr.alloc ?_ _ | with_reducible refine Gr.drewN ?_ _ | with_reducible refine Gr.drew ?_ | with_reducible refine Gr.trans ?_ (by with_reducible assumption))); done)) _ | with_reducible refine Gr.trans ?_ (by with_reducible assumption)))⟩
            case measure => simp only [intOf]; omega
        · obtain rfl : r = l.length := by omega
          rw [List.take_length]
          have sz' := g'.size
          generalize mo1 l step (k : Int) = M at *
          go_wp2_with (refine wpList_app1 rfl _ _ _ rfl inL w.heap.size 3 1 8 elInt (by decide) (moL k l step) M (moL (k + 1) l step) HMS.out _ rfl (OwnL.gr HO.out (by repeat (first | with_reducible exact Gr.refl _ | with_reducible assumption | with_reducible refine Gr.alloc ?_ _ | with_reducible refine Gr.drewN ?_ _ | with_reducible refine Gr.drew ?_ | with_reducible refine Gr.setCell ?_ (by first | (dsimp only; omega) | (simp only [World.size_alloc]; omega) | (with_reducible refine Gr.size ?_; (repeat (first | with_reducible exact Gr.refl _ | with_reducible assumption | with_reducible refine Gr.alloc ?_ _ | with_reducible refine Gr.drewN ?_ _ | with_reducible refine Gr.drew ?_ | with_reducible refine Gr.trans ?_ (by with_reducible assumption))); done)) _ | with_reducible refine Gr.trans ?_ (by with_reducible assumption)))) _ 1 rfl rfl (by intro j u hu; refine newsA wr #[iv M] 3 j u ?_; exact hu) (by intro u hu; simp at hu; subst hu; rfl) (by omega) (by decide) (by simp only [World.size_alloc]; omega) ?_; intro gg cap1 w8 hO8 hG8 _ _ _)
          go_roundw
          case rel => exact ⟨k + 1, some ⟨gg, 0, none⟩, cap1, by omega, by go_num, rfl, hG8 _ (by repeat (first | with_reducible exact Gr.refl _ | with_reducible assumption | with_reducible refine Gr.alloc ?_ _ | with_reducible refine Gr.drewN ?_ _ | with_reducible refine Gr.drew ?_ | with_reducible refine Gr.setCell ?_ (by first | (dsimp only; omega) | (simp only [World.size_alloc]; omega) | (with_reducible refine Gr.size ?_; (repeat (first | with_reducible exact Gr.refl _ | with_reducible assumption | with_reducible refine Gr.alloc ?_ _ | with_reducible refine Gr.drewN ?_ _ | with_reducible refine Gr.drew ?_ | with_reducible refine Gr.trans ?_ (by with_reducible assumption))); done)) _ | with_reducible refine Gr.trans ?_ (by with_reducible assumption))) (Nat.le_refl _), hO8⟩
          case measure => simp only [intOf]; omega
    · obtain rfl : k = q := by omega
      have HS := hide (own_sli HO.out)
      go_wp2
      go_ret
      exact ⟨A1, d1, rfl, HS.out, (by repeat (first | with_reducible exact Gr.refl _ | with_reducible assumption | with_reducible refine Gr.alloc ?_ _ | with_reducible refine Gr.drewN ?_ _ | with_reducible refine Gr.drew ?_ | with_reducible refine Gr.setCell ?_ (by first | (dsimp only; omega) | (simp only [World.size_alloc]; omega) | (with_reducible refine Gr.size ?_; (repeat (first | with_reducible exact Gr.refl _ | with_reducible assumption | with_reducible refine Gr.alloc ?_ _ | with_reducible refine Gr.drewN ?_ _ | with_reducible refine Gr.drew ?_ | with_reducible refine Gr.trans ?_ (by with_reducible assumption))); done)) _ | with_reducible refine Gr.trans ?_ (by with_reducible assumption)))⟩
set_option maxRecDepth 100000 in
set_option maxHeartbeats 2000000 in
theorem sameInts_self (A B : Option Addr) (c d : Nat) (l : List Int) (w : World) (ha : SlI w A c l) (hb : SlI w B d l) :
    Calls Try.prog 16 #[.slice A l.length c, .slice B l.length d] w fun e w' => e = .returned (.bool true) ∧ Gr w w' := by
  have n1 := ha.cap
  have n2 := ha.capB
  have n3 := hb.cap
  have n4 := hb.capB
  have HA := hide ha
  have HB := hide hb
  clear ha hb
  have hq : ((l.length : Int) != (l.length : Int)) = false := by simp
  go_enter Try.func16, Try.ntmps16
  go_wp2
  go_loopw [5] (fun i wr => ∃ k : Nat, k ≤ l.length ∧ i = iv k ∧ Gr w wr) (fun i _ => l.length - (intOf i).toNat)
  case atStart => exact ⟨0, by omega, rfl, Gr.refl _⟩
  case round =>
    obtain ⟨k, hk, rfl, g⟩ := hrel
    by_cases hkl : k < l.length
    · obtain ⟨z, hz⟩ : ∃ z, l[k]? = some z := ⟨_, List.getElem?_eq_getElem hkl⟩
      obtain ⟨b, o, rfl, x0⟩ := (HA.out.gr g).rd.in_ hz
      obtain ⟨b', o', rfl, y0⟩ := (HB.out.gr g).rd.in_ hz
      have hk0 : (0 : Int) ≤ (k : Int) := by omega
      have hk1 : (k : Int) < (l.length : Int) := by omega
      have hzz : (z != z) = false := by simp
      clear hz
      go_upto_region 6 with fail
      have GC := @GrW.cell
      refine wp_region_grw _ (by kernel_rfl) (by kernel_rfl) (Gr.refl _) ?_
      repeat (go_big_quiet_step ((first | fail)))
      refine wpQuiet_nil ?_
      intro wq hwq
      obtain ⟨gq, hwq'⟩ := hwq
      subst hwq'
      clear GC
      have gq1 := gq.gr
      generalize gq.w = wq at gq1 ⊢
      obtain ⟨Xq, Yq, cq, fq⟩ := gq1.use
      have sq := gq1.size
      (try simp only [World.size_alloc, World.size_setCell, World.heap_drewN] at sq)
      go_wp2
      go_roundw
      case rel => exact ⟨k + 1, by omega, by go_num, (by repeat (first | with_reducible exact Gr.refl _ | with_reducible assumption | with_reducible refine Gr.alloc ?_ _ | with_reducible refine Gr.drewN ?_ _ | with_reducible refine Gr.drew ?_ | with_reducible refine Gr.setCell ?_ (by first | (dsimp only; omega) | (simp only [World.size_alloc]; omega) | (with_reducible refine Gr.size ?_; (repeat (first | with_reducible exact Gr.refl _ | with_reducible assumption | with_reducible refine Gr.alloc ?_ _ | with_reducible refine Gr.drewN ?_ _ | with_reducible refine Gr.drew ?_ | with_reducible refine Gr.trans ?_ (by with_reducible assumption))); done)) _ | with_reducible refine Gr.trans ?_ (by with_reducible assumption)))⟩
      case measure => simp only [intOf]; omega
    · obtain rfl : k = l.length := by omega
      go_wp2
      go_ret
      exact ⟨rfl, (by repeat (first | with_reducible exact Gr.refl _ | with_reducible assumption | with_reducible refine Gr.alloc ?_ _ | with_reducible refine Gr.drewN ?_ _ | with_reducible refine Gr.drew ?_ | with_reducible refine Gr.setCell ?_ (by first | (dsimp only; omega) | (simp only [World.size_alloc]; omega) | (with_reducible refine Gr.size ?_; (repeat (first | with_reducible exact Gr.refl _ | with_reducible assumption | with_reducible refine Gr.alloc ?_ _ | with_reducible refine Gr.drewN ?_ _ | with_reducible refine Gr.drew ?_ | with_reducible refine Gr.trans ?_ (by with_reducible assumption))); done)) _ | with_reducible refine Gr.trans ?_ (by with_reducible assumption)))⟩
end Go.Proofs.Ytjdiepnbchcnoaa
