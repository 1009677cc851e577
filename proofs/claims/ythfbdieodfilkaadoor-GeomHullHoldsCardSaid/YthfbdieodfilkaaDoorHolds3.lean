/-
  GeomHullHolds where there is a hull.
-/
import Derived.Test.YthfbdieodfilkaaDoorHolds2
namespace Go.Proofs.YthfbdieodfilkaaDoor
set_option linter.unusedVariables false
set_option linter.unusedSimpArgs false
open Go Go.ChangeShapes Go.WideShapes Go.ChangeAt Go.RowKit Go.Deep

theorem any_take_succ' {α : Type} (f : α → Bool) (l : List α) (k : Nat) (x : α) (h : l[k]? = some x) : (l.take (k + 1)).any f = ((l.take k).any f || f x) := any_take_succ f l k x h
set_option maxHeartbeats 1000000 in
set_option maxRecDepth 100000 in
theorem holds_yes (A : Option Addr) (c : Nat) (xs : List Pt) (w : World) (ht : Tab w) (hx : Rd w A xs) (hz : ckP xs = 0) :
    Calls Tryd.prog 4 #[.slice A xs.length c] w fun x w' => x = .returned (.bool true) ∧ Gr w w' := by
  have HT := hide ht
  have HX := hide hx
  clear ht hx
  obtain ⟨h1, h2, h3⟩ := ckP_zero hz
  have H3 := hide h3
  clear h3
  have hcon : Calls Tryd.prog 14 #[.slice A xs.length c] w fun e w' => ∃ g cap ys, e = .returned (.tuple #[.slice (some ⟨g, 0, none⟩) ys.length cap, iv 0]) ∧ OwnAt w' w.heap.size g cap ys ∧ Gr w w' ∧ HullRes xs ys ∧ 0 < ys.length ∧ ys.length ≤ 24 := by
    refine (Hull_any A c xs w HX.out (by omega)).mono ?_
    rintro e w' ⟨v, ys, rfl, ho, g, hr⟩
    obtain ⟨_, _, a1, a2⟩ := hr.again hz
    obtain ⟨b, cap, rfl, h3, _, _⟩ := ho.form a1
    exact ⟨b, cap, ys, by rw [hz], h3, g, hr, a1, a2⟩
  have hdl : decide (60 < xs.length) = false := by simp; omega
  have HZ := hide hz
  clear hz
  go_enter Tryd.func4, Tryd.ntmps4
  go_upto_region 7 with (first | (go_at_call 11; refine (long_any _ _ _ _).mono ?_; rintro e w1 ⟨rfl, rfl⟩) | (go_at_call 14; refine hcon.mono ?_; rintro e w1 ⟨g, cap, ys, rfl, ho, g1, hr, n1, n2⟩; (have HO := hide ho); (have HR := hide hr); clear ho hr))
  go_wp2
  go_loopw [6] (fun i wr => ∃ k : Nat, k ≤ ys.length ∧ i = iv k ∧ Gr w1 wr) (fun i _ => ys.length - (intOf i).toNat)
  case atStart => exact ⟨0, by omega, rfl, Gr.refl _⟩
  case round =>
    obtain ⟨k, hk, rfl, g2⟩ := hrel
    by_cases hlt : k < ys.length
    · obtain ⟨p, hp⟩ : ∃ p, ys[k]? = some p := ⟨_, List.getElem?_eq_getElem hlt⟩
      obtain ⟨r1, hr1⟩ : ∃ r1, r1 = (k + 1) % ys.length := ⟨_, rfl⟩
      obtain ⟨r2, hr2⟩ : ∃ r2, r2 = (k + 2) % ys.length := ⟨_, rfl⟩
      have hk1 : r1 < ys.length := hr1 ▸ Nat.mod_lt _ n1
      have hk2 : r2 < ys.length := hr2 ▸ Nat.mod_lt _ n1
      obtain ⟨q, hq⟩ : ∃ q, ys[r1]? = some q := ⟨_, List.getElem?_eq_getElem hk1⟩
      obtain ⟨s, hs⟩ : ∃ s, ys[r2]? = some s := ⟨_, List.getElem?_eq_getElem hk2⟩
      have t1 : Int.tmod ((k : Int) + 1) (ys.length : Int) = (r1 : Int) := by rw [hr1, Int.tmod_eq_emod_of_nonneg (by omega)]; simp
      have t2 : Int.tmod ((k : Int) + 2) (ys.length : Int) = (r2 : Int) := by rw [hr2, Int.tmod_eq_emod_of_nonneg (by omega)]; simp
      have HR1 := hide hr1
      have HR2 := hide hr2
      clear hr1 hr2
      have HPp := H3.out p (HR.out.mem p (List.mem_of_getElem? hp))
      have HPq := H3.out q (HR.out.mem q (List.mem_of_getElem? hq))
      have HPs := H3.out s (HR.out.mem s (List.mem_of_getElem? hs))
      have HMp := hide (HR.out.mem p (List.mem_of_getElem? hp))
      have HP := hide hp
      have HQ := hide hq
      have HS := hide hs
      clear hp hq hs
      have m1 : IntKind.i64.wrap ((k : Int) + 1) = (k : Int) + 1 := IntWalk.i64_in _ (by omega)
      have m2 : IntKind.i64.wrap ((k : Int) + 2) = (k : Int) + 2 := IntWalk.i64_in _ (by omega)
      have m3 : IntKind.i64.wrap (r1 : Int) = (r1 : Int) := IntWalk.i64_in _ (by omega)
      have m4 : IntKind.i64.wrap (r2 : Int) = (r2 : Int) := IntWalk.i64_in _ (by omega)
      have z0 : ((ys.length : Int) == 0) = false := by rw [beq_eq_false_iff_ne]; omega
      go_wp2
      go_loopw [7, 8] (fun is jv wq => ∃ (b : Bool) (j : Nat), j ≤ xs.length ∧ jv = iv j ∧ is = .bool b ∧ Gr wr wq ∧ Hid (b = (xs.take j).any (fun x => decide (x = p)))) (fun _ i _ => xs.length - (intOf i).toNat)
      case atStart => exact ⟨false, 0, by omega, rfl, rfl, Gr.refl _, by simp [Hid]⟩
      case round =>
        obtain ⟨b, j, hj, rfl, rfl, g3, HB⟩ := hrel
        obtain ⟨p0, p1, p2, p3, _, _, _, _⟩ := (OwnAt.cells (Own.gr HO.out (g2.trans g3))) _ p HP.out
        obtain ⟨q0, q1, q2, q3, _, _, _, _⟩ := (OwnAt.cells (Own.gr HO.out (g2.trans g3))) _ q HQ.out
        obtain ⟨s0, s1, s2, s3, _, _, _, _⟩ := (OwnAt.cells (Own.gr HO.out (g2.trans g3))) _ s HS.out
        by_cases hlt2 : j < xs.length
        · obtain ⟨x, hx⟩ : ∃ x, xs[j]? = some x := ⟨_, List.getElem?_eq_getElem hlt2⟩
          obtain ⟨bb, off, rfl, x0, x1, x2, x3⟩ := (HX.out.gr (g1.trans (g2.trans g3))) j x hx
          have HPx := H3.out x (List.mem_of_getElem? hx)
          have hnn : ¬ orP p q x < 0 := by
            have := orP_nonneg HR.out HP.out (by rw [← HR1.out]; exact HQ.out) (List.mem_of_getElem? hx)
            omega
          have HN := hide (any_take_succ' (fun x => decide (x = p)) xs j x hx)
          have NEQ := fun w => eqInPt x p w
          have GP := gPt
          clear hx
          cases b
          · have HE : Hid (decide (x = p) = (xs.take (j + 1)).any (fun x => decide (x = p))) := by unfold Hid; rw [HN.out, ← HB.out]; rfl
            generalize decide (x = p) = bx at *
            go_wp2_with fail
            go_quiet (fail)
            go_wp2_with fail
            have GC := fun (g : GrW (wr)) i o => g.cell i o
            refine wp_region_grw (wr) (by kernel_rfl) (by kernel_rfl) (by repeat (first | with_reducible exact Gr.refl _ | with_reducible assumption | with_reducible refine Gr.alloc ?_ _ | with_reducible refine Gr.drewN ?_ _ | with_reducible refine Gr.drew ?_ | with_reducible refine Gr.setCell ?_ (by first | (dsimp only; omega) | (simp only [World.size_alloc]; omega) | (with_reducible refine Gr.size ?_; (repeat (first | with_reducible exact Gr.refl _ | with_reducible assumption | with_reducible refine Gr.alloc ?_ _ | with_reducible refine Gr.drewN ?_ _ | with_reducible refine Gr.drew ?_ | with_reducible refine Gr.trans ?_ (by with_reducible assumption))); done)) _ | with_reducible refine Gr.trans ?_ (by with_reducible assumption))) ?_
            repeat (go_big_quiet_step ((first | (go_at_call 17; exact quiet_grw (orient_pts _ _ _ _ HPp HPq HPx)))))
            refine wpQuiet_nil ?_
            intro wq hwq
            obtain ⟨gq, hwq'⟩ := hwq
            subst hwq'
            clear GC
            have gq1 := gq.gr
            generalize gq.w = wq at gq1 ⊢
            obtain ⟨Xq, Yq, cq, fq⟩ := gq1.use
            go_wp2
            go_roundw
            case rel => exact ⟨bx, j + 1, by omega, by go_num, rfl, g3.trans gq1, HE⟩
            case measure => simp [intOf]; omega
          · have HE : Hid (true = (xs.take (j + 1)).any (fun x => decide (x = p))) := by unfold Hid; rw [HN.out, ← HB.out]; rfl
            go_wp2_with fail
            go_quiet (fail)
            go_wp2_with fail
            have GC := fun (g : GrW (wr)) i o => g.cell i o
            refine wp_region_grw (wr) (by kernel_rfl) (by kernel_rfl) (by repeat (first | with_reducible exact Gr.refl _ | with_reducible assumption | with_reducible refine Gr.alloc ?_ _ | with_reducible refine Gr.drewN ?_ _ | with_reducible refine Gr.drew ?_ | with_reducible refine Gr.setCell ?_ (by first | (dsimp only; omega) | (simp only [World.size_alloc]; omega) | (with_reducible refine Gr.size ?_; (repeat (first | with_reducible exact Gr.refl _ | with_reducible assumption | with_reducible refine Gr.alloc ?_ _ | with_reducible refine Gr.drewN ?_ _ | with_reducible refine Gr.drew ?_ | with_reducible refine Gr.trans ?_ (by with_reducible assumption))); done)) _ | with_reducible refine Gr.trans ?_ (by with_reducible assumption))) ?_
            repeat (go_big_quiet_step ((first | (go_at_call 17; exact quiet_grw (orient_pts _ _ _ _ HPp HPq HPx)))))
            refine wpQuiet_nil ?_
            intro wq hwq
            obtain ⟨gq, hwq'⟩ := hwq
            subst hwq'
            clear GC
            have gq1 := gq.gr
            generalize gq.w = wq at gq1 ⊢
            obtain ⟨Xq, Yq, cq, fq⟩ := gq1.use
            go_wp2
            go_roundw
            case rel => exact ⟨true, j + 1, by omega, by go_num, rfl, g3.trans gq1, HE⟩
            case measure => simp [intOf]; omega
        · obtain rfl : j = xs.length := by omega
          have hb : b = true := by
            rw [HB.out, List.take_length]
            exact List.any_eq_true.2 ⟨p, HMp.out, by simp⟩
          subst hb
          have hto : 2 < ys.length → orP p q s = 1 := fun h => orP_turn HR.out h HP.out (by rw [← HR1.out]; exact HQ.out) (by rw [← HR2.out]; exact HS.out)
          by_cases h22 : 2 < ys.length
          · have hto1 := hto h22
            have hto2 : (orP p q s != 1) = false := by simp [hto1]
            clear hto
            have h22i : (2 : Int) < (ys.length : Int) := by omega
            go_wp2_with fail
            have GC := fun (g : GrW (wr)) i o => g.cell i o
            refine wp_region_grw (wr) (by kernel_rfl) (by kernel_rfl) (by repeat (first | with_reducible exact Gr.refl _ | with_reducible assumption | with_reducible refine Gr.alloc ?_ _ | with_reducible refine Gr.drewN ?_ _ | with_reducible refine Gr.drew ?_ | with_reducible refine Gr.setCell ?_ (by first | (dsimp only; omega) | (simp only [World.size_alloc]; omega) | (with_reducible refine Gr.size ?_; (repeat (first | with_reducible exact Gr.refl _ | with_reducible assumption | with_reducible refine Gr.alloc ?_ _ | with_reducible refine Gr.drewN ?_ _ | with_reducible refine Gr.drew ?_ | with_reducible refine Gr.trans ?_ (by with_reducible assumption))); done)) _ | with_reducible refine Gr.trans ?_ (by with_reducible assumption))) ?_
            repeat (go_big_quiet_step ((first | (go_at_call 17; exact quiet_grw (orient_pts _ _ _ _ HPp HPq HPs)))))
            refine wpQuiet_nil ?_
            intro wq hwq
            obtain ⟨gq, hwq'⟩ := hwq
            subst hwq'
            clear GC
            have gq1 := gq.gr
            generalize gq.w = wq at gq1 ⊢
            obtain ⟨Xq, Yq, cq, fq⟩ := gq1.use
            go_wp2
            go_roundw
            case rel => exact ⟨k + 1, by omega, by go_num, g2.trans (g3.trans gq1)⟩
            case measure => simp [intOf]; omega
          · clear hto
            have h22i : ¬ (2 : Int) < (ys.length : Int) := by omega
            go_wp2_with fail
            have GC := fun (g : GrW (wr)) i o => g.cell i o
            refine wp_region_grw (wr) (by kernel_rfl) (by kernel_rfl) (by repeat (first | with_reducible exact Gr.refl _ | with_reducible assumption | with_reducible refine Gr.alloc ?_ _ | with_reducible refine Gr.drewN ?_ _ | with_reducible refine Gr.drew ?_ | with_reducible refine Gr.setCell ?_ (by first | (dsimp only; omega) | (simp only [World.size_alloc]; omega) | (with_reducible refine Gr.size ?_; (repeat (first | with_reducible exact Gr.refl _ | with_reducible assumption | with_reducible refine Gr.alloc ?_ _ | with_reducible refine Gr.drewN ?_ _ | with_reducible refine Gr.drew ?_ | with_reducible refine Gr.trans ?_ (by with_reducible assumption))); done)) _ | with_reducible refine Gr.trans ?_ (by with_reducible assumption))) ?_
            repeat (go_big_quiet_step ((first | (go_at_call 17; exact quiet_grw (orient_pts _ _ _ _ HPp HPq HPs)))))
            refine wpQuiet_nil ?_
            intro wq hwq
            obtain ⟨gq, hwq'⟩ := hwq
            subst hwq'
            clear GC
            have gq1 := gq.gr
            generalize gq.w = wq at gq1 ⊢
            obtain ⟨Xq, Yq, cq, fq⟩ := gq1.use
            go_wp2
            go_roundw
            case rel => exact ⟨k + 1, by omega, by go_num, g2.trans (g3.trans gq1)⟩
            case measure => simp [intOf]; omega
    · obtain rfl : k = ys.length := by omega
      have hcon2 : Calls Tryd.prog 14 #[.slice (some ⟨g, 0, none⟩) ys.length cap] wr fun e w' => ∃ A2 c2, e = .returned (.tuple #[.slice A2 ys.length c2, iv 0]) ∧ Rd w' A2 ys ∧ Gr wr w' := by
        obtain ⟨b1, b2, b3, b4⟩ := HR.out.again HZ.out
        refine (Hull_any _ cap ys wr (OwnAt.rd (Own.gr HO.out g2)) (by omega)).mono ?_
        rintro e w' ⟨v, zs, rfl, ho, g, hr⟩
        have e := hr.uniq b2
        subst e
        obtain ⟨A2, c2, rfl⟩ := ho.slice
        exact ⟨A2, c2, by rw [b1], (Own.rd ho).2, g⟩
      have HRD := hide (OwnAt.rd (Own.gr HO.out g2))
      have hsm : sameB ys ys = true := by simp [sameB]
      go_wp2_with (first | (go_at_call 14; refine hcon2.mono ?_; rintro e w2 ⟨A2, c2, rfl, hr2, g3⟩; (have HRE := hide hr2); clear hr2) | (go_at_call 16; refine (samePoints_any _ _ _ _ ys ys _ HRE.out (HRD.out.gr g3) (by omega)).mono ?_; rintro e w3 ⟨rfl, g4⟩; rw [hsm]) | (go_at_call 12; refine (known_any _ (HT.out.gr (by repeat (first | with_reducible exact Gr.refl _ | with_reducible assumption | with_reducible refine Gr.alloc ?_ _ | with_reducible refine Gr.drewN ?_ _ | with_reducible refine Gr.drew ?_ | with_reducible refine Gr.setCell ?_ (by first | (dsimp only; omega) | (simp only [World.size_alloc]; omega) | (with_reducible refine Gr.size ?_; (repeat (first | with_reducible exact Gr.refl _ | with_reducible assumption | with_reducible refine Gr.alloc ?_ _ | with_reducible refine Gr.drewN ?_ _ | with_reducible refine Gr.drew ?_ | with_reducible refine Gr.trans ?_ (by with_reducible assumption))); done)) _ | with_reducible refine Gr.trans ?_ (by with_reducible assumption))))).mono ?_; rintro e w1 ⟨rfl, g1⟩; obtain ⟨X1, Y1, c1, f1⟩ := g1.use; have z1 := g1.size; (try simp only [World.size_alloc, World.size_setCell, World.heap_drewN, Nat.add_one_le_iff] at z1); (try have l0 : w.heap.size < w1.heap.size := by omega); (try have l1 : w.heap.size + 1 < w1.heap.size := by omega); (try have l2 : w.heap.size + 1 + 1 < w1.heap.size := by omega)))
      all_goals
        go_ret
        exact ⟨rfl, (by repeat (first | with_reducible exact Gr.refl _ | with_reducible assumption | with_reducible refine Gr.alloc ?_ _ | with_reducible refine Gr.drewN ?_ _ | with_reducible refine Gr.drew ?_ | with_reducible refine Gr.setCell ?_ (by first | (dsimp only; omega) | (simp only [World.size_alloc]; omega) | (with_reducible refine Gr.size ?_; (repeat (first | with_reducible exact Gr.refl _ | with_reducible assumption | with_reducible refine Gr.alloc ?_ _ | with_reducible refine Gr.drewN ?_ _ | with_reducible refine Gr.drew ?_ | with_reducible refine Gr.trans ?_ (by with_reducible assumption))); done)) _ | with_reducible refine Gr.trans ?_ (by with_reducible assumption)))⟩
theorem holds_walk (A : Option Addr) (c : Nat) (xs : List Pt) (w : World) (ht : Tab w) (hx : Rd w A xs) :
    Calls Tryd.prog 4 #[.slice A xs.length c] w fun x w' => x = .returned (.bool true) ∧ Gr w w' := by
  by_cases h : ckP xs = 0
  · exact holds_yes A c xs w ht hx h
  · exact holds_no A c xs w ht hx (.inr h)
end Go.Proofs.YthfbdieodfilkaaDoor
