/-
  Bend tables: the reference's Validate.
-/
import Derived.Test.YtpmomgfepkegnaaTab4
set_option linter.unusedVariables false
set_option linter.unusedSimpArgs false
namespace Go.Proofs.Ytpmomgfepkegnaa
set_option linter.unusedVariables false
set_option linter.unusedSimpArgs false
open Go Go.ChangeShapes Go.WideShapes Go.ChangeAt Go.RowKit Go.Deep

theorem eq_bn' {x y : Int} (h : x = y) : (x != y) = false := by
  unfold bne
  rw [h, beq_self_eq_true]
  rfl
theorem etB_bad {l : Int} {x : En} (h : enB x = false) : etB l x = false := by
  unfold etB
  rw [h, Bool.and_false]
theorem enB_ang {x : En} (h : a6B x.an = false) : enB x = false := by
  unfold enB
  rw [h]
  rfl
theorem enB_den {x : En} (h : dnB x.dn = false) : enB x = false := by
  unfold enB
  rw [h]
  simp
theorem enB_num {x : En} (h : wiB x.nm 0 (20 * x.dn) = false) : enB x = false := by
  unfold enB
  rw [h]
  simp
theorem etB_good {l : Int} {x : En} (h0 : l < x.an) (h1 : a6B x.an = true) (h2 : dnB x.dn = true) (h3 : wiB x.nm 0 (20 * x.dn) = true) : etB l x = true := by
  unfold etB enB
  rw [h1, h2, h3]
  simpa using h0
theorem a6_no1 {a : Int} (h : wiB a 30 180 = false) : a6B a = false := by
  rw [← Bool.not_eq_true, a6_mod]
  rw [← Bool.not_eq_true, wiB_iff] at h
  omega
theorem a6_no2 {a : Int} (h : wiB a 30 180 = true) (k : ¬ a.tmod 30 = 0) : a6B a = false := by
  rw [← Bool.not_eq_true, a6_mod]
  rw [wiB_iff] at h
  rw [Int.tmod_eq_emod_of_nonneg (by omega)] at k
  omega
theorem a6_yes {a : Int} (h : wiB a 30 180 = true) (k : a.tmod 30 = 0) : a6B a = true := by
  rw [a6_mod]
  rw [wiB_iff] at h
  rw [Int.tmod_eq_emod_of_nonneg (by omega)] at k
  omega
theorem dn_no1 {a : Int} (h : wiB a 1 12 = false) : dnB a = false := by
  rw [← Bool.not_eq_true, dn_mod]
  rw [← Bool.not_eq_true, wiB_iff] at h
  omega
theorem dn_no2 {a : Int} (h : wiB a 1 12 = true) (k : ¬ (12 : Int).tmod a = 0) : dnB a = false := by
  rw [← Bool.not_eq_true, dn_mod]
  rw [Int.tmod_eq_emod_of_nonneg (by omega)] at k
  omega
theorem dn_yes {a : Int} (h : wiB a 1 12 = true) (k : (12 : Int).tmod a = 0) : dnB a = true := by
  rw [dn_mod]
  rw [wiB_iff] at h
  rw [Int.tmod_eq_emod_of_nonneg (by omega)] at k
  omega
set_option maxRecDepth 100000 in
set_option maxHeartbeats 4000000 in
theorem r3Validate_any (t : Tb) (A : Option Addr) (c : Nat) (w : World) (hE : SlE w A c t.en) (hs : t.mt.size ≤ 1000) :
    Calls Try.prog 43 #[tbv t A c] w fun e w' => e = .returned (iv (tbE t)) ∧ Gr w w' := by
  have hlen := hE.len
  have HF := hide hE
  clear hE
  cases hh : hdB t with
  | false =>
    have HE := hide (tbE_bad hh)
    have HN := hide (show ¬ (nameB t.mt.toList = true ∧ wiB t.ga 1 60 = true ∧ wiB t.di 1 1000 = true ∧ wiB t.en.length 1 6 = true) by rw [← hdB_parts, hh]; simp)
    clear hh
    go_enter Try.func43, Try.ntmps43
    go_upto_region 3 with (first | (go_at_call 65; refine (rvalidName_any _ _ (by omega)).mono ?_; rintro e w1 ⟨rfl, rfl⟩) | (go_at_call 98; refine (r3within_any _ _ _ _).mono ?_; rintro e w1 ⟨rfl, rfl⟩))
    all_goals first
      | (exfalso
         exact HN.out ⟨by assumption, by assumption, by assumption, by first | assumption | exact nb_t (by assumption)⟩)
      | (go_ret
         exact ⟨ret_iv' HE.out.symm, (by repeat (first | with_reducible exact Gr.refl _ | with_reducible assumption | with_reducible refine Gr.alloc ?_ _ | with_reducible refine Gr.drewN ?_ _ | with_reducible refine Gr.drew ?_ | with_reducible refine Gr.setCell ?_ (by first | (dsimp only; omega) | (simp only [World.size_alloc]; omega) | (with_reducible refine Gr.size ?_; (repeat (first | with_reducible exact Gr.refl _ | with_reducible assumption | with_reducible refine Gr.alloc ?_ _ | with_reducible refine Gr.drewN ?_ _ | with_reducible refine Gr.drew ?_ | with_reducible refine Gr.trans ?_ (by with_reducible assumption))); done)) _ | with_reducible refine Gr.trans ?_ (by with_reducible assumption)))⟩)
  | true =>
    obtain ⟨h1, h2, h3, h4⟩ := hdB_parts.1 hh
    have HH := hide hh
    have hl6 := hdB_len hh
    clear hh
    go_enter Try.func43, Try.ntmps43
    go_upto_region 3 with (first | (go_at_call 65; refine (rvalidName_any _ _ (by omega)).mono ?_; rintro e w1 ⟨rfl, rfl⟩) | (go_at_call 98; refine (r3within_any _ _ _ _).mono ?_; rintro e w1 ⟨rfl, rfl⟩))
    go_wp2
    clear h1 h2 h3 h4
    go_loopw [3] (fun i wr => ∃ k : Nat, k ≤ t.en.length ∧ i = iv k ∧ Gr (w.alloc (.cells #[.string t.mt, iv t.ga, iv t.di, .slice A t.en.length c] 71)) wr ∧ Hid (okB t.en k = true)) (fun i _ => t.en.length - (intOf i).toNat)
    case atStart => exact ⟨0, by omega, rfl, Gr.refl _, rfl⟩
    case round =>
      obtain ⟨k, hk, rfl, g, HO⟩ := hrel
      have gW : Gr w wr := (by repeat (first | with_reducible exact Gr.refl _ | with_reducible assumption | with_reducible refine Gr.alloc ?_ _ | with_reducible refine Gr.drewN ?_ _ | with_reducible refine Gr.drew ?_ | with_reducible refine Gr.setCell ?_ (by first | (dsimp only; omega) | (simp only [World.size_alloc]; omega) | (with_reducible refine Gr.size ?_; (repeat (first | with_reducible exact Gr.refl _ | with_reducible assumption | with_reducible refine Gr.alloc ?_ _ | with_reducible refine Gr.drewN ?_ _ | with_reducible refine Gr.drew ?_ | with_reducible refine Gr.trans ?_ (by with_reducible assumption))); done)) _ | with_reducible refine Gr.trans ?_ (by with_reducible assumption)))
      obtain ⟨Xr, Yr, cr, fr⟩ := g.use
      have zr := g.size
      simp only [World.size_alloc] at zr
      have l0 : w.heap.size < wr.heap.size := by omega
      by_cases hkl : k < t.en.length
      · obtain ⟨x, hx⟩ : ∃ x, t.en[k]? = some x := ⟨_, List.getElem?_eq_getElem hkl⟩
        obtain ⟨b, off, rfl, x0, x1, x2⟩ := HF.out.rd.en hx
        have hb : b < w.heap.size := cell_lt (by rw [x0]; rfl)
        have hbr : b < wr.heap.size := by omega
        have HL := hide hx
        have HST := hide (fun (h : etB (laI t.en k) x = false) => tbE_stop (okB_stop HL.out h hkl))
        have HGO := hide (fun (h : etB (laI t.en k) x = true) => show okB t.en (k + 1) = true by rw [okB_at HL.out, HO.out, h]; rfl)
        clear hx
        have hk0 : (0 : Int) ≤ (k : Int) := by omega
        have hk1 : (k : Int) < (t.en.length : Int) := by omega
        -- the angle
        cases ha1 : wiB x.an 30 180 with
        | false =>
          have HE := hide (HST.out (etB_bad (enB_ang (a6_no1 ha1))))
          clear HGO HST
          go_upto_region 7 with fail
          have GC := @GrW.cell
          refine wp_region_grw _ (by kernel_rfl) (by kernel_rfl) (Gr.refl _) ?_
          repeat (go_big_quiet_step ((first | (go_at_call 98; exact quiet_grs (r3within_any _ _ _ _)))))
          refine wpQuiet_nil ?_
          intro wq hwq
          obtain ⟨gq, hwq'⟩ := hwq
          subst hwq'
          clear GC
          have gq1 := gq.gr
          generalize gq.w = wq at gq1 ⊢
          obtain ⟨Xq, Yq, cq, fq⟩ := gq1.use
          have sq := gq1.size
          (try simp only [World.size_alloc, World.size_setCell, World.heap_drewN] at sq)
          go_wp2
          go_ret
          exact ⟨ret_iv' HE.out.symm, (by repeat (first | with_reducible exact Gr.refl _ | with_reducible assumption | with_reducible refine Gr.alloc ?_ _ | with_reducible refine Gr.drewN ?_ _ | with_reducible refine Gr.drew ?_ | with_reducible refine Gr.setCell ?_ (by first | (dsimp only; omega) | (simp only [World.size_alloc]; omega) | (with_reducible refine Gr.size ?_; (repeat (first | with_reducible exact Gr.refl _ | with_reducible assumption | with_reducible refine Gr.alloc ?_ _ | with_reducible refine Gr.drewN ?_ _ | with_reducible refine Gr.drew ?_ | with_reducible refine Gr.trans ?_ (by with_reducible assumption))); done)) _ | with_reducible refine Gr.trans ?_ (by with_reducible assumption)))⟩
        | true =>
          by_cases ham : x.an.tmod 30 = 0
          · have hmz : (x.an.tmod 30 != 0) = false := eq_bn' ham
            by_cases hk : k = 0
            · have hkk : decide (0 < k) = false := by rw [decide_eq_false_iff_not]; omega
              have hla : laI t.en k < x.an := by
                rw [hk]
                have := wiB_iff.1 ha1
                show (0 : Int) < x.an
                omega
              have HLA := hide hla
              clear hla hk
              cases hd1 : wiB x.dn 1 12 with
              | false =>
                have HE := hide (HST.out (etB_bad (enB_den (dn_no1 hd1))))
                clear HGO HST
                go_upto_region 7 with fail
                have GC := @GrW.cell
                refine wp_region_grw _ (by kernel_rfl) (by kernel_rfl) (Gr.refl _) ?_
                repeat (go_big_quiet_step ((first | (go_at_call 98; exact quiet_grs (r3within_any _ _ _ _)))))
                refine wpQuiet_nil ?_
                intro wq hwq
                obtain ⟨gq, hwq'⟩ := hwq
                subst hwq'
                clear GC
                have gq1 := gq.gr
                generalize gq.w = wq at gq1 ⊢
                obtain ⟨Xq, Yq, cq, fq⟩ := gq1.use
                have sq := gq1.size
                (try simp only [World.size_alloc, World.size_setCell, World.heap_drewN] at sq)
                go_wp2_with (first | (go_at_call 98; refine (r3within_any _ _ _ _).mono ?_; rintro e w1 ⟨rfl, rfl⟩))
                go_ret
                exact ⟨ret_iv' HE.out.symm, (by repeat (first | with_reducible exact Gr.refl _ | with_reducible assumption | with_reducible refine Gr.alloc ?_ _ | with_reducible refine Gr.drewN ?_ _ | with_reducible refine Gr.drew ?_ | with_reducible refine Gr.setCell ?_ (by first | (dsimp only; omega) | (simp only [World.size_alloc]; omega) | (with_reducible refine Gr.size ?_; (repeat (first | with_reducible exact Gr.refl _ | with_reducible assumption | with_reducible refine Gr.alloc ?_ _ | with_reducible refine Gr.drewN ?_ _ | with_reducible refine Gr.drew ?_ | with_reducible refine Gr.trans ?_ (by with_reducible assumption))); done)) _ | with_reducible refine Gr.trans ?_ (by with_reducible assumption)))⟩
              | true =>
                obtain ⟨hd2, hd3⟩ := wiB_iff.1 hd1
                have hz : ¬ x.dn = 0 := by omega
                have hz2 : (x.dn == 0) = false := by rw [beq_eq_false_iff_ne]; exact hz
                by_cases hdm : (12 : Int).tmod x.dn = 0
                · have hdn := dn_yes hd1 hdm
                  cases hnm : wiB x.nm 0 (20 * x.dn) with
                  | false =>
                    have HE := hide (HST.out (etB_bad (enB_num hnm)))
                    clear HGO HST hdn
                    generalize hq : (12 : Int).tmod x.dn = dq at *
                    have hq0 : (dq != 0) = false := eq_bn' hdm
                    clear hdm
                    go_upto_region 7 with fail
                    have GC := @GrW.cell
                    refine wp_region_grw _ (by kernel_rfl) (by kernel_rfl) (Gr.refl _) ?_
                    repeat (go_big_quiet_step ((first | (go_at_call 98; exact quiet_grs (r3within_any _ _ _ _)))))
                    refine wpQuiet_nil ?_
                    intro wq hwq
                    obtain ⟨gq, hwq'⟩ := hwq
                    subst hwq'
                    clear GC
                    have gq1 := gq.gr
                    generalize gq.w = wq at gq1 ⊢
                    obtain ⟨Xq, Yq, cq, fq⟩ := gq1.use
                    have sq := gq1.size
                    (try simp only [World.size_alloc, World.size_setCell, World.heap_drewN] at sq)
                    go_wp2_with (first | (go_at_call 98; refine (r3within_any _ _ _ _).mono ?_; rintro e w1 ⟨rfl, rfl⟩))
                    go_ret
                    exact ⟨ret_iv' HE.out.symm, (by repeat (first | with_reducible exact Gr.refl _ | with_reducible assumption | with_reducible refine Gr.alloc ?_ _ | with_reducible refine Gr.drewN ?_ _ | with_reducible refine Gr.drew ?_ | with_reducible refine Gr.setCell ?_ (by first | (dsimp only; omega) | (simp only [World.size_alloc]; omega) | (with_reducible refine Gr.size ?_; (repeat (first | with_reducible exact Gr.refl _ | with_reducible assumption | with_reducible refine Gr.alloc ?_ _ | with_reducible refine Gr.drewN ?_ _ | with_reducible refine Gr.drew ?_ | with_reducible refine Gr.trans ?_ (by with_reducible assumption))); done)) _ | with_reducible refine Gr.trans ?_ (by with_reducible assumption)))⟩
                  | true =>
                    have HO' := hide (HGO.out (etB_good HLA.out (a6_yes ha1 ham) hdn hnm))
                    clear HGO HST hdn
                    generalize hq : (12 : Int).tmod x.dn = dq at *
                    have hq0 : (dq != 0) = false := eq_bn' hdm
                    clear hdm
                    go_upto_region 7 with fail
                    have GC := @GrW.cell
                    refine wp_region_grw _ (by kernel_rfl) (by kernel_rfl) (Gr.refl _) ?_
                    repeat (go_big_quiet_step ((first | (go_at_call 98; exact quiet_grs (r3within_any _ _ _ _)))))
                    refine wpQuiet_nil ?_
                    intro wq hwq
                    obtain ⟨gq, hwq'⟩ := hwq
                    subst hwq'
                    clear GC
                    have gq1 := gq.gr
                    generalize gq.w = wq at gq1 ⊢
                    obtain ⟨Xq, Yq, cq, fq⟩ := gq1.use
                    have sq := gq1.size
                    (try simp only [World.size_alloc, World.size_setCell, World.heap_drewN] at sq)
                    go_wp2_with (first | (go_at_call 98; refine (r3within_any _ _ _ _).mono ?_; rintro e w1 ⟨rfl, rfl⟩))
                    go_roundw
                    case rel => exact ⟨_, by omega, by go_num, (by repeat (first | with_reducible exact Gr.refl _ | with_reducible assumption | with_reducible refine Gr.alloc ?_ _ | with_reducible refine Gr.drewN ?_ _ | with_reducible refine Gr.drew ?_ | with_reducible refine Gr.setCell ?_ (by first | (dsimp only; omega) | (simp only [World.size_alloc]; omega) | (with_reducible refine Gr.size ?_; (repeat (first | with_reducible exact Gr.refl _ | with_reducible assumption | with_reducible refine Gr.alloc ?_ _ | with_reducible refine Gr.drewN ?_ _ | with_reducible refine Gr.drew ?_ | with_reducible refine Gr.trans ?_ (by with_reducible assumption))); done)) _ | with_reducible refine Gr.trans ?_ (by with_reducible assumption))), HO'⟩
                    case measure => simp only [intOf]; omega
                · have HE := hide (HST.out (etB_bad (enB_den (dn_no2 hd1 hdm))))
                  clear HGO HST
                  generalize hq : (12 : Int).tmod x.dn = dq at *
                  have hq0 : (dq != 0) = true := by rw [bne_iff_ne]; exact hdm
                  clear hdm
                  go_upto_region 7 with fail
                  have GC := @GrW.cell
                  refine wp_region_grw _ (by kernel_rfl) (by kernel_rfl) (Gr.refl _) ?_
                  repeat (go_big_quiet_step ((first | (go_at_call 98; exact quiet_grs (r3within_any _ _ _ _)))))
                  refine wpQuiet_nil ?_
                  intro wq hwq
                  obtain ⟨gq, hwq'⟩ := hwq
                  subst hwq'
                  clear GC
                  have gq1 := gq.gr
                  generalize gq.w = wq at gq1 ⊢
                  obtain ⟨Xq, Yq, cq, fq⟩ := gq1.use
                  have sq := gq1.size
                  (try simp only [World.size_alloc, World.size_setCell, World.heap_drewN] at sq)
                  go_wp2_with (first | (go_at_call 98; refine (r3within_any _ _ _ _).mono ?_; rintro e w1 ⟨rfl, rfl⟩))
                  go_ret
                  exact ⟨ret_iv' HE.out.symm, (by repeat (first | with_reducible exact Gr.refl _ | with_reducible assumption | with_reducible refine Gr.alloc ?_ _ | with_reducible refine Gr.drewN ?_ _ | with_reducible refine Gr.drew ?_ | with_reducible refine Gr.setCell ?_ (by first | (dsimp only; omega) | (simp only [World.size_alloc]; omega) | (with_reducible refine Gr.size ?_; (repeat (first | with_reducible exact Gr.refl _ | with_reducible assumption | with_reducible refine Gr.alloc ?_ _ | with_reducible refine Gr.drewN ?_ _ | with_reducible refine Gr.drew ?_ | with_reducible refine Gr.trans ?_ (by with_reducible assumption))); done)) _ | with_reducible refine Gr.trans ?_ (by with_reducible assumption)))⟩
            · obtain ⟨j, rfl⟩ : ∃ j, k = j + 1 := ⟨k - 1, by omega⟩
              obtain ⟨z, hz'⟩ : ∃ z, t.en[j]? = some z := ⟨_, List.getElem?_eq_getElem (by omega)⟩
              obtain ⟨b', off', hA', y0, y1, y2⟩ := HF.out.rd.en hz'
              obtain ⟨rfl, rfl⟩ : b = b' ∧ off = off' := by simpa using hA'
              have W1 : IntKind.i64.wrap ((j : Int) + 1 - 1) = (j : Int) := by rw [IntWalk.i64_in _ (by omega)]; omega
              have hj0 : (0 : Int) ≤ (j : Int) := by omega
              have hj1 : (j : Int) < (t.en.length : Int) := by omega
              have hkk : decide ((0 : Int) < (j : Int) + 1) = true := by rw [decide_eq_true_eq]; omega
              have HLS := hide (laI_succ hz')
              clear hA' hz' hk
              by_cases hlt : x.an ≤ z.an
              · have hlt' : decide (x.an ≤ z.an) = true := by simpa using hlt
                have HE := hide (HST.out (by unfold etB; rw [HLS.out, decide_eq_false (by omega)]; rfl))
                clear HGO HST hlt
                go_upto_region 7 with fail
                have GC := @GrW.cell
                refine wp_region_grw _ (by kernel_rfl) (by kernel_rfl) (Gr.refl _) ?_
                repeat (go_big_quiet_step ((first | (go_at_call 98; exact quiet_grs (r3within_any _ _ _ _)))))
                refine wpQuiet_nil ?_
                intro wq hwq
                obtain ⟨gq, hwq'⟩ := hwq
                subst hwq'
                clear GC
                have gq1 := gq.gr
                generalize gq.w = wq at gq1 ⊢
                obtain ⟨Xq, Yq, cq, fq⟩ := gq1.use
                have sq := gq1.size
                (try simp only [World.size_alloc, World.size_setCell, World.heap_drewN] at sq)
                go_wp2_with (first | (go_at_call 98; refine (r3within_any _ _ _ _).mono ?_; rintro e w1 ⟨rfl, rfl⟩))
                go_ret
                exact ⟨ret_iv' HE.out.symm, (by repeat (first | with_reducible exact Gr.refl _ | with_reducible assumption | with_reducible refine Gr.alloc ?_ _ | with_reducible refine Gr.drewN ?_ _ | with_reducible refine Gr.drew ?_ | with_reducible refine Gr.setCell ?_ (by first | (dsimp only; omega) | (simp only [World.size_alloc]; omega) | (with_reducible refine Gr.size ?_; (repeat (first | with_reducible exact Gr.refl _ | with_reducible assumption | with_reducible refine Gr.alloc ?_ _ | with_reducible refine Gr.drewN ?_ _ | with_reducible refine Gr.drew ?_ | with_reducible refine Gr.trans ?_ (by with_reducible assumption))); done)) _ | with_reducible refine Gr.trans ?_ (by with_reducible assumption)))⟩
              · have hlt' : decide (x.an ≤ z.an) = false := by rw [decide_eq_false_iff_not]; exact hlt
                have HLA := hide (show laI t.en (j + 1) < x.an by rw [HLS.out]; omega)
                clear hlt
                cases hd1 : wiB x.dn 1 12 with
                | false =>
                  have HE := hide (HST.out (etB_bad (enB_den (dn_no1 hd1))))
                  clear HGO HST
                  go_upto_region 7 with fail
                  have GC := @GrW.cell
                  refine wp_region_grw _ (by kernel_rfl) (by kernel_rfl) (Gr.refl _) ?_
                  repeat (go_big_quiet_step ((first | (go_at_call 98; exact quiet_grs (r3within_any _ _ _ _)))))
                  refine wpQuiet_nil ?_
                  intro wq hwq
                  obtain ⟨gq, hwq'⟩ := hwq
                  subst hwq'
                  clear GC
                  have gq1 := gq.gr
                  generalize gq.w = wq at gq1 ⊢
                  obtain ⟨Xq, Yq, cq, fq⟩ := gq1.use
                  have sq := gq1.size
                  (try simp only [World.size_alloc, World.size_setCell, World.heap_drewN] at sq)
                  go_wp2_with (first | (go_at_call 98; refine (r3within_any _ _ _ _).mono ?_; rintro e w1 ⟨rfl, rfl⟩))
                  go_ret
                  exact ⟨ret_iv' HE.out.symm, (by repeat (first | with_reducible exact Gr.refl _ | with_reducible assumption | with_reducible refine Gr.alloc ?_ _ | with_reducible refine Gr.drewN ?_ _ | with_reducible refine Gr.drew ?_ | with_reducible refine Gr.setCell ?_ (by first | (dsimp only; omega) | (simp only [World.size_alloc]; omega) | (with_reducible refine Gr.size ?_; (repeat (first | with_reducible exact Gr.refl _ | with_reducible assumption | with_reducible refine Gr.alloc ?_ _ | with_reducible refine Gr.drewN ?_ _ | with_reducible refine Gr.drew ?_ | with_reducible refine Gr.trans ?_ (by with_reducible assumption))); done)) _ | with_reducible refine Gr.trans ?_ (by with_reducible assumption)))⟩
                | true =>
                  obtain ⟨hd2, hd3⟩ := wiB_iff.1 hd1
                  have hz : ¬ x.dn = 0 := by omega
                  have hz2 : (x.dn == 0) = false := by rw [beq_eq_false_iff_ne]; exact hz
                  by_cases hdm : (12 : Int).tmod x.dn = 0
                  · have hdn := dn_yes hd1 hdm
                    cases hnm : wiB x.nm 0 (20 * x.dn) with
                    | false =>
                      have HE := hide (HST.out (etB_bad (enB_num hnm)))
                      clear HGO HST hdn
                      generalize hq : (12 : Int).tmod x.dn = dq at *
                      have hq0 : (dq != 0) = false := eq_bn' hdm
                      clear hdm
                      go_upto_region 7 with fail
                      have GC := @GrW.cell
                      refine wp_region_grw _ (by kernel_rfl) (by kernel_rfl) (Gr.refl _) ?_
                      repeat (go_big_quiet_step ((first | (go_at_call 98; exact quiet_grs (r3within_any _ _ _ _)))))
                      refine wpQuiet_nil ?_
                      intro wq hwq
                      obtain ⟨gq, hwq'⟩ := hwq
                      subst hwq'
                      clear GC
                      have gq1 := gq.gr
                      generalize gq.w = wq at gq1 ⊢
                      obtain ⟨Xq, Yq, cq, fq⟩ := gq1.use
                      have sq := gq1.size
                      (try simp only [World.size_alloc, World.size_setCell, World.heap_drewN] at sq)
                      go_wp2_with (first | (go_at_call 98; refine (r3within_any _ _ _ _).mono ?_; rintro e w1 ⟨rfl, rfl⟩))
                      go_ret
                      exact ⟨ret_iv' HE.out.symm, (by repeat (first | with_reducible exact Gr.refl _ | with_reducible assumption | with_reducible refine Gr.alloc ?_ _ | with_reducible refine Gr.drewN ?_ _ | with_reducible refine Gr.drew ?_ | with_reducible refine Gr.setCell ?_ (by first | (dsimp only; omega) | (simp only [World.size_alloc]; omega) | (with_reducible refine Gr.size ?_; (repeat (first | with_reducible exact Gr.refl _ | with_reducible assumption | with_reducible refine Gr.alloc ?_ _ | with_reducible refine Gr.drewN ?_ _ | with_reducible refine Gr.drew ?_ | with_reducible refine Gr.trans ?_ (by with_reducible assumption))); done)) _ | with_reducible refine Gr.trans ?_ (by with_reducible assumption)))⟩
                    | true =>
                      have HO' := hide (HGO.out (etB_good HLA.out (a6_yes ha1 ham) hdn hnm))
                      clear HGO HST hdn
                      generalize hq : (12 : Int).tmod x.dn = dq at *
                      have hq0 : (dq != 0) = false := eq_bn' hdm
                      clear hdm
                      go_upto_region 7 with fail
                      have GC := @GrW.cell
                      refine wp_region_grw _ (by kernel_rfl) (by kernel_rfl) (Gr.refl _) ?_
                      repeat (go_big_quiet_step ((first | (go_at_call 98; exact quiet_grs (r3within_any _ _ _ _)))))
                      refine wpQuiet_nil ?_
                      intro wq hwq
                      obtain ⟨gq, hwq'⟩ := hwq
                      subst hwq'
                      clear GC
                      have gq1 := gq.gr
                      generalize gq.w = wq at gq1 ⊢
                      obtain ⟨Xq, Yq, cq, fq⟩ := gq1.use
                      have sq := gq1.size
                      (try simp only [World.size_alloc, World.size_setCell, World.heap_drewN] at sq)
                      go_wp2_with (first | (go_at_call 98; refine (r3within_any _ _ _ _).mono ?_; rintro e w1 ⟨rfl, rfl⟩))
                      go_roundw
                      case rel => exact ⟨_, by omega, by go_num, (by repeat (first | with_reducible exact Gr.refl _ | with_reducible assumption | with_reducible refine Gr.alloc ?_ _ | with_reducible refine Gr.drewN ?_ _ | with_reducible refine Gr.drew ?_ | with_reducible refine Gr.setCell ?_ (by first | (dsimp only; omega) | (simp only [World.size_alloc]; omega) | (with_reducible refine Gr.size ?_; (repeat (first | with_reducible exact Gr.refl _ | with_reducible assumption | with_reducible refine Gr.alloc ?_ _ | with_reducible refine Gr.drewN ?_ _ | with_reducible refine Gr.drew ?_ | with_reducible refine Gr.trans ?_ (by with_reducible assumption))); done)) _ | with_reducible refine Gr.trans ?_ (by with_reducible assumption))), HO'⟩
                      case measure => simp only [intOf]; omega
                  · have HE := hide (HST.out (etB_bad (enB_den (dn_no2 hd1 hdm))))
                    clear HGO HST
                    generalize hq : (12 : Int).tmod x.dn = dq at *
                    have hq0 : (dq != 0) = true := by rw [bne_iff_ne]; exact hdm
                    clear hdm
                    go_upto_region 7 with fail
                    have GC := @GrW.cell
                    refine wp_region_grw _ (by kernel_rfl) (by kernel_rfl) (Gr.refl _) ?_
                    repeat (go_big_quiet_step ((first | (go_at_call 98; exact quiet_grs (r3within_any _ _ _ _)))))
                    refine wpQuiet_nil ?_
                    intro wq hwq
                    obtain ⟨gq, hwq'⟩ := hwq
                    subst hwq'
                    clear GC
                    have gq1 := gq.gr
                    generalize gq.w = wq at gq1 ⊢
                    obtain ⟨Xq, Yq, cq, fq⟩ := gq1.use
                    have sq := gq1.size
                    (try simp only [World.size_alloc, World.size_setCell, World.heap_drewN] at sq)
                    go_wp2_with (first | (go_at_call 98; refine (r3within_any _ _ _ _).mono ?_; rintro e w1 ⟨rfl, rfl⟩))
                    go_ret
                    exact ⟨ret_iv' HE.out.symm, (by repeat (first | with_reducible exact Gr.refl _ | with_reducible assumption | with_reducible refine Gr.alloc ?_ _ | with_reducible refine Gr.drewN ?_ _ | with_reducible refine Gr.drew ?_ | with_reducible refine Gr.setCell ?_ (by first | (dsimp only; omega) | (simp only [World.size_alloc]; omega) | (with_reducible refine Gr.size ?_; (repeat (first | with_reducible exact Gr.refl _ | with_reducible assumption | with_reducible refine Gr.alloc ?_ _ | with_reducible refine Gr.drewN ?_ _ | with_reducible refine Gr.drew ?_ | with_reducible refine Gr.trans ?_ (by with_reducible assumption))); done)) _ | with_reducible refine Gr.trans ?_ (by with_reducible assumption)))⟩
          · have hmz : (x.an.tmod 30 != 0) = true := by rw [bne_iff_ne]; exact ham
            have HE := hide (HST.out (etB_bad (enB_ang (a6_no2 ha1 ham))))
            clear HGO HST ham
            go_upto_region 7 with fail
            have GC := @GrW.cell
            refine wp_region_grw _ (by kernel_rfl) (by kernel_rfl) (Gr.refl _) ?_
            repeat (go_big_quiet_step ((first | (go_at_call 98; exact quiet_grs (r3within_any _ _ _ _)))))
            refine wpQuiet_nil ?_
            intro wq hwq
            obtain ⟨gq, hwq'⟩ := hwq
            subst hwq'
            clear GC
            have gq1 := gq.gr
            generalize gq.w = wq at gq1 ⊢
            obtain ⟨Xq, Yq, cq, fq⟩ := gq1.use
            have sq := gq1.size
            (try simp only [World.size_alloc, World.size_setCell, World.heap_drewN] at sq)
            go_wp2_with (first | (go_at_call 98; refine (r3within_any _ _ _ _).mono ?_; rintro e w1 ⟨rfl, rfl⟩))
            go_ret
            exact ⟨ret_iv' HE.out.symm, (by repeat (first | with_reducible exact Gr.refl _ | with_reducible assumption | with_reducible refine Gr.alloc ?_ _ | with_reducible refine Gr.drewN ?_ _ | with_reducible refine Gr.drew ?_ | with_reducible refine Gr.setCell ?_ (by first | (dsimp only; omega) | (simp only [World.size_alloc]; omega) | (with_reducible refine Gr.size ?_; (repeat (first | with_reducible exact Gr.refl _ | with_reducible assumption | with_reducible refine Gr.alloc ?_ _ | with_reducible refine Gr.drewN ?_ _ | with_reducible refine Gr.drew ?_ | with_reducible refine Gr.trans ?_ (by with_reducible assumption))); done)) _ | with_reducible refine Gr.trans ?_ (by with_reducible assumption)))⟩
      · obtain rfl : k = t.en.length := by omega
        have HE := hide (tbE_good HH.out HO.out)
        go_wp2
        go_ret
        exact ⟨ret_iv' HE.out.symm, (by repeat (first | with_reducible exact Gr.refl _ | with_reducible assumption | with_reducible refine Gr.alloc ?_ _ | with_reducible refine Gr.drewN ?_ _ | with_reducible refine Gr.drew ?_ | with_reducible refine Gr.setCell ?_ (by first | (dsimp only; omega) | (simp only [World.size_alloc]; omega) | (with_reducible refine Gr.size ?_; (repeat (first | with_reducible exact Gr.refl _ | with_reducible assumption | with_reducible refine Gr.alloc ?_ _ | with_reducible refine Gr.drewN ?_ _ | with_reducible refine Gr.drew ?_ | with_reducible refine Gr.trans ?_ (by with_reducible assumption))); done)) _ | with_reducible refine Gr.trans ?_ (by with_reducible assumption)))⟩
end Go.Proofs.Ytpmomgfepkegnaa
