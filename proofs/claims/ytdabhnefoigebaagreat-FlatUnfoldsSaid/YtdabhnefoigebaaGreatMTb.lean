/-
  Bend tables: the reference's Validate.
  Bend tables: the deduction of an angle, in the reference.
  Bend tables: the reference's Deduction; FlatTables: the walk.
  Bend tables, plain: the ticks of a deduction.
-/
import Derived.Test.YtdabhnefoigebaaGreatMT
set_option linter.unusedVariables false
set_option linter.unusedSimpArgs false
namespace Go.Proofs.YtdabhnefoigebaaGreat
set_option linter.unusedVariables false
set_option linter.unusedSimpArgs false
open Go Go.ChangeShapes Go.WideShapes Go.ChangeAt Go.RowKit Go.Deep

theorem eq_bn' {x y : Int} (h : x = y) : (x != y) = false := by
  unfold bne
  rw [h, beq_self_eq_true]
  rfl
theorem etB_bad {l : Int} {x : En} (h : enB x = false) : etB l x = false := by
  unfold etB
  rw [h, Bool.and_false]
theorem enB_ang {x : En} (h : a6B x.an = false) : enB x = false := by
  unfold enB
  rw [h]
  rfl
theorem enB_den {x : En} (h : dnB x.dn = false) : enB x = false := by
  unfold enB
  rw [h]
  simp
theorem enB_num {x : En} (h : wiB x.nm 0 (20 * x.dn) = false) : enB x = false := by
  unfold enB
  rw [h]
  simp
theorem etB_good {l : Int} {x : En} (h0 : l < x.an) (h1 : a6B x.an = true) (h2 : dnB x.dn = true) (h3 : wiB x.nm 0 (20 * x.dn) = true) : etB l x = true := by
  unfold etB enB
  rw [h1, h2, h3]
  simpa using h0
theorem a6_no1 {a : Int} (h : wiB a 30 180 = false) : a6B a = false := by
  rw [← Bool.not_eq_true, a6_mod]
  rw [← Bool.not_eq_true, wiB_iff] at h
  omega
theorem a6_no2 {a : Int} (h : wiB a 30 180 = true) (k : ¬ a.tmod 30 = 0) : a6B a = false := by
  rw [← Bool.not_eq_true, a6_mod]
  rw [wiB_iff] at h
  rw [Int.tmod_eq_emod_of_nonneg (by omega)] at k
  omega
theorem a6_yes {a : Int} (h : wiB a 30 180 = true) (k : a.tmod 30 = 0) : a6B a = true := by
  rw [a6_mod]
  rw [wiB_iff] at h
  rw [Int.tmod_eq_emod_of_nonneg (by omega)] at k
  omega
theorem dn_no1 {a : Int} (h : wiB a 1 12 = false) : dnB a = false := by
  rw [← Bool.not_eq_true, dn_mod]
  rw [← Bool.not_eq_true, wiB_iff] at h
  omega
theorem dn_no2 {a : Int} (h : wiB a 1 12 = true) (k : ¬ (12 : Int).tmod a = 0) : dnB a = false := by
  rw [← Bool.not_eq_true, dn_mod]
  rw [Int.tmod_eq_emod_of_nonneg (by omega)] at k
  omega
theorem dn_yes {a : Int} (h : wiB a 1 12 = true) (k : (12 : Int).tmod a = 0) : dnB a = true := by
  rw [dn_mod]
  rw [wiB_iff] at h
  rw [Int.tmod_eq_emod_of_nonneg (by omega)] at k
  omega
set_option maxRecDepth 100000 in
set_option maxHeartbeats 4000000 in
theorem r3Validate_any (t : Tb) (A : Option Addr) (c : Nat) (w : World) (hE : SlE w A c t.en) (hs : t.mt.size ≤ 1000) :
    Calls Tryz.prog 51 #[tbv t A c] w fun e w' => e = .returned (iv (tbE t)) ∧ Gr w w' := by
  have hlen := hE.len
  have HF := hide hE
  clear hE
  cases hh : hdB t with
  | false =>
    have HE := hide (tbE_bad hh)
    have HN := hide (show ¬ (nameB t.mt.toList = true ∧ wiB t.ga 1 60 = true ∧ wiB t.di 1 1000 = true ∧ wiB t.en.length 1 6 = true) by rw [← hdB_parts, hh]; simp)
    clear hh
    go_enter Tryz.func51, Tryz.ntmps51
    go_upto_region 3 with (first | (go_at_call 78; refine (rvalidName_any _ _ (by omega)).mono ?_; rintro e w1 ⟨rfl, rfl⟩) | (go_at_call 85; refine (r3within_any _ _ _ _).mono ?_; rintro e w1 ⟨rfl, rfl⟩))
    all_goals first
      | (exfalso
         exact HN.out ⟨by assumption, by assumption, by assumption, by first | assumption | exact nb_t (by assumption)⟩)
      | (go_ret
         exact ⟨ret_iv' HE.out.symm, (by repeat (first | with_reducible exact Gr.refl _ | with_reducible assumption | with_reducible refine Gr.alloc ?_ _ | with_reducible refine Gr.drewN ?_ _ | with_reducible refine Gr.drew ?_ | with_reducible refine Gr.setCell ?_ (by first | (dsimp only; omega) | (simp only [World.size_alloc]; omega) | (with_reducible refine Gr.size ?_; (repeat (first | with_reducible exact Gr.refl _ | with_reducible assumption | with_reducible refine Gr.alloc ?_ _ | with_reducible refine Gr.drewN ?_ _ | with_reducible refine Gr.drew ?_ | with_reducible refine Gr.trans ?_ (by with_reducible assumption))); done)) _ | with_reducible refine Gr.trans ?_ (by with_reducible assumption)))⟩)
  | true =>
    obtain ⟨h1, h2, h3, h4⟩ := hdB_parts.1 hh
    have HH := hide hh
    have hl6 := hdB_len hh
    clear hh
    go_enter Tryz.func51, Tryz.ntmps51
    go_upto_region 3 with (first | (go_at_call 78; refine (rvalidName_any _ _ (by omega)).mono ?_; rintro e w1 ⟨rfl, rfl⟩) | (go_at_call 85; refine (r3within_any _ _ _ _).mono ?_; rintro e w1 ⟨rfl, rfl⟩))
    go_wp2
    clear h1 h2 h3 h4
    go_loopw [3] (fun i wr => ∃ k : Nat, k ≤ t.en.length ∧ i = iv k ∧ Gr (w.alloc (.cells #[.string t.mt, iv t.ga, iv t.di, .slice A t.en.length c] 28)) wr ∧ Hid (okB t.en k = true)) (fun i _ => t.en.length - (intOf i).toNat)
    case atStart => exact ⟨0, by omega, rfl, Gr.refl _, rfl⟩
    case round =>
      obtain ⟨k, hk, rfl, g, HO⟩ := hrel
      have gW : Gr w wr := (by repeat (first | with_reducible exact Gr.refl _ | with_reducible assumption | with_reducible refine Gr.alloc ?_ _ | with_reducible refine Gr.drewN ?_ _ | with_reducible refine Gr.drew ?_ | with_reducible refine Gr.setCell ?_ (by first | (dsimp only; omega) | (simp only [World.size_alloc]; omega) | (with_reducible refine Gr.size ?_; (repeat (first | with_reducible exact Gr.refl _ | with_reducible assumption | with_reducible refine Gr.alloc ?_ _ | with_reducible refine Gr.drewN ?_ _ | with_reducible refine Gr.drew ?_ | with_reducible refine Gr.trans ?_ (by with_reducible assumption))); done)) _ | with_reducible refine Gr.trans ?_ (by with_reducible assumption)))
      obtain ⟨Xr, Yr, cr, fr⟩ := g.use
      have zr := g.size
      simp only [World.size_alloc] at zr
      have l0 : w.heap.size < wr.heap.size := by omega
      by_cases hkl : k < t.en.length
      · obtain ⟨x, hx⟩ : ∃ x, t.en[k]? = some x := ⟨_, List.getElem?_eq_getElem hkl⟩
        obtain ⟨b, off, rfl, x0, x1, x2⟩ := HF.out.rd.en hx
        have hb : b < w.heap.size := cell_lt (by rw [x0]; rfl)
        have hbr : b < wr.heap.size := by omega
        have HL := hide hx
        have HST := hide (fun (h : etB (laI t.en k) x = false) => tbE_stop (okB_stop HL.out h hkl))
        have HGO := hide (fun (h : etB (laI t.en k) x = true) => show okB t.en (k + 1) = true by rw [okB_at HL.out, HO.out, h]; rfl)
        clear hx
        have hk0 : (0 : Int) ≤ (k : Int) := by omega
        have hk1 : (k : Int) < (t.en.length : Int) := by omega
        -- the angle
        cases ha1 : wiB x.an 30 180 with
        | false =>
          have HE := hide (HST.out (etB_bad (enB_ang (a6_no1 ha1))))
          clear HGO HST
          go_upto_region 7 with fail
          have GC := @GrW.cell
          refine wp_region_grw _ (by kernel_rfl) (by kernel_rfl) (Gr.refl _) ?_
          repeat (go_big_quiet_step ((first | (go_at_call 85; exact quiet_grs (r3within_any _ _ _ _)))))
          refine wpQuiet_nil ?_
          intro wq hwq
          obtain ⟨gq, hwq'⟩ := hwq
          subst hwq'
          clear GC
          have gq1 := gq.gr
          generalize gq.w = wq at gq1 ⊢
          obtain ⟨Xq, Yq, cq, fq⟩ := gq1.use
          have sq := gq1.size
          (try simp only [World.size_alloc, World.size_setCell, World.heap_drewN] at sq)
          go_wp2
          go_ret
          exact ⟨ret_iv' HE.out.symm, (by repeat (first | with_reducible exact Gr.refl _ | with_reducible assumption | with_reducible refine Gr.alloc ?_ _ | with_reducible refine Gr.drewN ?_ _ | with_reducible refine Gr.drew ?_ | with_reducible refine Gr.setCell ?_ (by first | (dsimp only; omega) | (simp only [World.size_alloc]; omega) | (with_reducible refine Gr.size ?_; (repeat (first | with_reducible exact Gr.refl _ | with_reducible assumption | with_reducible refine Gr.alloc ?_ _ | with_reducible refine Gr.drewN ?_ _ | with_reducible refine Gr.drew ?_ | with_reducible refine Gr.trans ?_ (by with_reducible assumption))); done)) _ | with_reducible refine Gr.trans ?_ (by with_reducible assumption)))⟩
        | true =>
          by_cases ham : x.an.tmod 30 = 0
          · have hmz : (x.an.tmod 30 != 0) = false := eq_bn' ham
            by_cases hk : k = 0
            · have hkk : decide (0 < k) = false := by rw [decide_eq_false_iff_not]; omega
              have hla : laI t.en k < x.an := by
                rw [hk]
                have := wiB_iff.1 ha1
                show (0 : Int) < x.an
                omega
              have HLA := hide hla
              clear hla hk
              cases hd1 : wiB x.dn 1 12 with
              | false =>
                have HE := hide (HST.out (etB_bad (enB_den (dn_no1 hd1))))
                clear HGO HST
                go_upto_region 7 with fail
                have GC := @GrW.cell
                refine wp_region_grw _ (by kernel_rfl) (by kernel_rfl) (Gr.refl _) ?_
                repeat (go_big_quiet_step ((first | (go_at_call 85; exact quiet_grs (r3within_any _ _ _ _)))))
                refine wpQuiet_nil ?_
                intro wq hwq
                obtain ⟨gq, hwq'⟩ := hwq
                subst hwq'
                clear GC
                have gq1 := gq.gr
                generalize gq.w = wq at gq1 ⊢
                obtain ⟨Xq, Yq, cq, fq⟩ := gq1.use
                have sq := gq1.size
                (try simp only [World.size_alloc, World.size_setCell, World.heap_drewN] at sq)
                go_wp2_with (first | (go_at_call 85; refine (r3within_any _ _ _ _).mono ?_; rintro e w1 ⟨rfl, rfl⟩))
                go_ret
                exact ⟨ret_iv' HE.out.symm, (by repeat (first | with_reducible exact Gr.refl _ | with_reducible assumption | with_reducible refine Gr.alloc ?_ _ | with_reducible refine Gr.drewN ?_ _ | with_reducible refine Gr.drew ?_ | with_reducible refine Gr.setCell ?_ (by first | (dsimp only; omega) | (simp only [World.size_alloc]; omega) | (with_reducible refine Gr.size ?_; (repeat (first | with_reducible exact Gr.refl _ | with_reducible assumption | with_reducible refine Gr.alloc ?_ _ | with_reducible refine Gr.drewN ?_ _ | with_reducible refine Gr.drew ?_ | with_reducible refine Gr.trans ?_ (by with_reducible assumption))); done)) _ | with_reducible refine Gr.trans ?_ (by with_reducible assumption)))⟩
              | true =>
                obtain ⟨hd2, hd3⟩ := wiB_iff.1 hd1
                have hz : ¬ x.dn = 0 := by omega
                have hz2 : (x.dn == 0) = false := by rw [beq_eq_false_iff_ne]; exact hz
                by_cases hdm : (12 : Int).tmod x.dn = 0
                · have hdn := dn_yes hd1 hdm
                  cases hnm : wiB x.nm 0 (20 * x.dn) with
                  | false =>
                    have HE := hide (HST.out (etB_bad (enB_num hnm)))
                    clear HGO HST hdn
                    generalize hq : (12 : Int).tmod x.dn = dq at *
                    have hq0 : (dq != 0) = false := eq_bn' hdm
                    clear hdm
                    go_upto_region 7 with fail
                    have GC := @GrW.cell
                    refine wp_region_grw _ (by kernel_rfl) (by kernel_rfl) (Gr.refl _) ?_
                    repeat (go_big_quiet_step ((first | (go_at_call 85; exact quiet_grs (r3within_any _ _ _ _)))))
                    refine wpQuiet_nil ?_
                    intro wq hwq
                    obtain ⟨gq, hwq'⟩ := hwq
                    subst hwq'
                    clear GC
                    have gq1 := gq.gr
                    generalize gq.w = wq at gq1 ⊢
                    obtain ⟨Xq, Yq, cq, fq⟩ := gq1.use
                    have sq := gq1.size
                    (try simp only [World.size_alloc, World.size_setCell, World.heap_drewN] at sq)
                    go_wp2_with (first | (go_at_call 85; refine (r3within_any _ _ _ _).mono ?_; rintro e w1 ⟨rfl, rfl⟩))
                    go_ret
                    exact ⟨ret_iv' HE.out.symm, (by repeat (first | with_reducible exact Gr.refl _ | with_reducible assumption | with_reducible refine Gr.alloc ?_ _ | with_reducible refine Gr.drewN ?_ _ | with_reducible refine Gr.drew ?_ | with_reducible refine Gr.setCell ?_ (by first | (dsimp only; omega) | (simp only [World.size_alloc]; omega) | (with_reducible refine Gr.size ?_; (repeat (first | with_reducible exact Gr.refl _ | with_reducible assumption | with_reducible refine Gr.alloc ?_ _ | with_reducible refine Gr.drewN ?_ _ | with_reducible refine Gr.drew ?_ | with_reducible refine Gr.trans ?_ (by with_reducible assumption))); done)) _ | with_reducible refine Gr.trans ?_ (by with_reducible assumption)))⟩
                  | true =>
                    have HO' := hide (HGO.out (etB_good HLA.out (a6_yes ha1 ham) hdn hnm))
                    clear HGO HST hdn
                    generalize hq : (12 : Int).tmod x.dn = dq at *
                    have hq0 : (dq != 0) = false := eq_bn' hdm
                    clear hdm
                    go_upto_region 7 with fail
                    have GC := @GrW.cell
                    refine wp_region_grw _ (by kernel_rfl) (by kernel_rfl) (Gr.refl _) ?_
                    repeat (go_big_quiet_step ((first | (go_at_call 85; exact quiet_grs (r3within_any _ _ _ _)))))
                    refine wpQuiet_nil ?_
                    intro wq hwq
                    obtain ⟨gq, hwq'⟩ := hwq
                    subst hwq'
                    clear GC
                    have gq1 := gq.gr
                    generalize gq.w = wq at gq1 ⊢
                    obtain ⟨Xq, Yq, cq, fq⟩ := gq1.use
                    have sq := gq1.size
                    (try simp only [World.size_alloc, World.size_setCell, World.heap_drewN] at sq)
                    go_wp2_with (first | (go_at_call 85; refine (r3within_any _ _ _ _).mono ?_; rintro e w1 ⟨rfl, rfl⟩))
                    go_roundw
                    case rel => exact ⟨_, by omega, by go_num, (by repeat (first | with_reducible exact Gr.refl _ | with_reducible assumption | with_reducible refine Gr.alloc ?_ _ | with_reducible refine Gr.drewN ?_ _ | with_reducible refine Gr.drew ?_ | with_reducible refine Gr.setCell ?_ (by first | (dsimp only; omega) | (simp only [World.size_alloc]; omega) | (with_reducible refine Gr.size ?_; (repeat (first | with_reducible exact Gr.refl _ | with_reducible assumption | with_reducible refine Gr.alloc ?_ _ | with_reducible refine Gr.drewN ?_ _ | with_reducible refine Gr.drew ?_ | with_reducible refine Gr.trans ?_ (by with_reducible assumption))); done)) _ | with_reducible refine Gr.trans ?_ (by with_reducible assumption))), HO'⟩
                    case measure => simp only [intOf]; omega
                · have HE := hide (HST.out (etB_bad (enB_den (dn_no2 hd1 hdm))))
                  clear HGO HST
                  generalize hq : (12 : Int).tmod x.dn = dq at *
                  have hq0 : (dq != 0) = true := by rw [bne_iff_ne]; exact hdm
                  clear hdm
                  go_upto_region 7 with fail
                  have GC := @GrW.cell
                  refine wp_region_grw _ (by kernel_rfl) (by kernel_rfl) (Gr.refl _) ?_
                  repeat (go_big_quiet_step ((first | (go_at_call 85; exact quiet_grs (r3within_any _ _ _ _)))))
                  refine wpQuiet_nil ?_
                  intro wq hwq
                  obtain ⟨gq, hwq'⟩ := hwq
                  subst hwq'
                  clear GC
                  have gq1 := gq.gr
                  generalize gq.w = wq at gq1 ⊢
                  obtain ⟨Xq, Yq, cq, fq⟩ := gq1.use
                  have sq := gq1.size
                  (try simp only [World.size_alloc, World.size_setCell, World.heap_drewN] at sq)
                  go_wp2_with (first | (go_at_call 85; refine (r3within_any _ _ _ _).mono ?_; rintro e w1 ⟨rfl, rfl⟩))
                  go_ret
                  exact ⟨ret_iv' HE.out.symm, (by repeat (first | with_reducible exact Gr.refl _ | with_reducible assumption | with_reducible refine Gr.alloc ?_ _ | with_reducible refine Gr.drewN ?_ _ | with_reducible refine Gr.drew ?_ | with_reducible refine Gr.setCell ?_ (by first | (dsimp only; omega) | (simp only [World.size_alloc]; omega) | (with_reducible refine Gr.size ?_; (repeat (first | with_reducible exact Gr.refl _ | with_reducible assumption | with_reducible refine Gr.alloc ?_ _ | with_reducible refine Gr.drewN ?_ _ | with_reducible refine Gr.drew ?_ | with_reducible refine Gr.trans ?_ (by with_reducible assumption))); done)) _ | with_reducible refine Gr.trans ?_ (by with_reducible assumption)))⟩
            · obtain ⟨j, rfl⟩ : ∃ j, k = j + 1 := ⟨k - 1, by omega⟩
              obtain ⟨z, hz'⟩ : ∃ z, t.en[j]? = some z := ⟨_, List.getElem?_eq_getElem (by omega)⟩
              obtain ⟨b', off', hA', y0, y1, y2⟩ := HF.out.rd.en hz'
              obtain ⟨rfl, rfl⟩ : b = b' ∧ off = off' := by simpa using hA'
              have W1 : IntKind.i64.wrap ((j : Int) + 1 - 1) = (j : Int) := by rw [IntWalk.i64_in _ (by omega)]; omega
              have hj0 : (0 : Int) ≤ (j : Int) := by omega
              have hj1 : (j : Int) < (t.en.length : Int) := by omega
              have hkk : decide ((0 : Int) < (j : Int) + 1) = true := by rw [decide_eq_true_eq]; omega
              have HLS := hide (laI_succ hz')
              clear hA' hz' hk
              by_cases hlt : x.an ≤ z.an
              · have hlt' : decide (x.an ≤ z.an) = true := by simpa using hlt
                have HE := hide (HST.out (by unfold etB; rw [HLS.out, decide_eq_false (by omega)]; rfl))
                clear HGO HST hlt
                go_upto_region 7 with fail
                have GC := @GrW.cell
                refine wp_region_grw _ (by kernel_rfl) (by kernel_rfl) (Gr.refl _) ?_
                repeat (go_big_quiet_step ((first | (go_at_call 85; exact quiet_grs (r3within_any _ _ _ _)))))
                refine wpQuiet_nil ?_
                intro wq hwq
                obtain ⟨gq, hwq'⟩ := hwq
                subst hwq'
                clear GC
                have gq1 := gq.gr
                generalize gq.w = wq at gq1 ⊢
                obtain ⟨Xq, Yq, cq, fq⟩ := gq1.use
                have sq := gq1.size
                (try simp only [World.size_alloc, World.size_setCell, World.heap_drewN] at sq)
                go_wp2_with (first | (go_at_call 85; refine (r3within_any _ _ _ _).mono ?_; rintro e w1 ⟨rfl, rfl⟩))
                go_ret
                exact ⟨ret_iv' HE.out.symm, (by repeat (first | with_reducible exact Gr.refl _ | with_reducible assumption | with_reducible refine Gr.alloc ?_ _ | with_reducible refine Gr.drewN ?_ _ | with_reducible refine Gr.drew ?_ | with_reducible refine Gr.setCell ?_ (by first | (dsimp only; omega) | (simp only [World.size_alloc]; omega) | (with_reducible refine Gr.size ?_; (repeat (first | with_reducible exact Gr.refl _ | with_reducible assumption | with_reducible refine Gr.alloc ?_ _ | with_reducible refine Gr.drewN ?_ _ | with_reducible refine Gr.drew ?_ | with_reducible refine Gr.trans ?_ (by with_reducible assumption))); done)) _ | with_reducible refine Gr.trans ?_ (by with_reducible assumption)))⟩
              · have hlt' : decide (x.an ≤ z.an) = false := by rw [decide_eq_false_iff_not]; exact hlt
                have HLA := hide (show laI t.en (j + 1) < x.an by rw [HLS.out]; omega)
                clear hlt
                cases hd1 : wiB x.dn 1 12 with
                | false =>
                  have HE := hide (HST.out (etB_bad (enB_den (dn_no1 hd1))))
                  clear HGO HST
                  go_upto_region 7 with fail
                  have GC := @GrW.cell
                  refine wp_region_grw _ (by kernel_rfl) (by kernel_rfl) (Gr.refl _) ?_
                  repeat (go_big_quiet_step ((first | (go_at_call 85; exact quiet_grs (r3within_any _ _ _ _)))))
                  refine wpQuiet_nil ?_
                  intro wq hwq
                  obtain ⟨gq, hwq'⟩ := hwq
                  subst hwq'
                  clear GC
                  have gq1 := gq.gr
                  generalize gq.w = wq at gq1 ⊢
                  obtain ⟨Xq, Yq, cq, fq⟩ := gq1.use
                  have sq := gq1.size
                  (try simp only [World.size_alloc, World.size_setCell, World.heap_drewN] at sq)
                  go_wp2_with (first | (go_at_call 85; refine (r3within_any _ _ _ _).mono ?_; rintro e w1 ⟨rfl, rfl⟩))
                  go_ret
                  exact ⟨ret_iv' HE.out.symm, (by repeat (first | with_reducible exact Gr.refl _ | with_reducible assumption | with_reducible refine Gr.alloc ?_ _ | with_reducible refine Gr.drewN ?_ _ | with_reducible refine Gr.drew ?_ | with_reducible refine Gr.setCell ?_ (by first | (dsimp only; omega) | (simp only [World.size_alloc]; omega) | (with_reducible refine Gr.size ?_; (repeat (first | with_reducible exact Gr.refl _ | with_reducible assumption | with_reducible refine Gr.alloc ?_ _ | with_reducible refine Gr.drewN ?_ _ | with_reducible refine Gr.drew ?_ | with_reducible refine Gr.trans ?_ (by with_reducible assumption))); done)) _ | with_reducible refine Gr.trans ?_ (by with_reducible assumption)))⟩
                | true =>
                  obtain ⟨hd2, hd3⟩ := wiB_iff.1 hd1
                  have hz : ¬ x.dn = 0 := by omega
                  have hz2 : (x.dn == 0) = false := by rw [beq_eq_false_iff_ne]; exact hz
                  by_cases hdm : (12 : Int).tmod x.dn = 0
                  · have hdn := dn_yes hd1 hdm
                    cases hnm : wiB x.nm 0 (20 * x.dn) with
                    | false =>
                      have HE := hide (HST.out (etB_bad (enB_num hnm)))
                      clear HGO HST hdn
                      generalize hq : (12 : Int).tmod x.dn = dq at *
                      have hq0 : (dq != 0) = false := eq_bn' hdm
                      clear hdm
                      go_upto_region 7 with fail
                      have GC := @GrW.cell
                      refine wp_region_grw _ (by kernel_rfl) (by kernel_rfl) (Gr.refl _) ?_
                      repeat (go_big_quiet_step ((first | (go_at_call 85; exact quiet_grs (r3within_any _ _ _ _)))))
                      refine wpQuiet_nil ?_
                      intro wq hwq
                      obtain ⟨gq, hwq'⟩ := hwq
                      subst hwq'
                      clear GC
                      have gq1 := gq.gr
                      generalize gq.w = wq at gq1 ⊢
                      obtain ⟨Xq, Yq, cq, fq⟩ := gq1.use
                      have sq := gq1.size
                      (try simp only [World.size_alloc, World.size_setCell, World.heap_drewN] at sq)
                      go_wp2_with (first | (go_at_call 85; refine (r3within_any _ _ _ _).mono ?_; rintro e w1 ⟨rfl, rfl⟩))
                      go_ret
                      exact ⟨ret_iv' HE.out.symm, (by repeat (first | with_reducible exact Gr.refl _ | with_reducible assumption | with_reducible refine Gr.alloc ?_ _ | with_reducible refine Gr.drewN ?_ _ | with_reducible refine Gr.drew ?_ | with_reducible refine Gr.setCell ?_ (by first | (dsimp only; omega) | (simp only [World.size_alloc]; omega) | (with_reducible refine Gr.size ?_; (repeat (first | with_reducible exact Gr.refl _ | with_reducible assumption | with_reducible refine Gr.alloc ?_ _ | with_reducible refine Gr.drewN ?_ _ | with_reducible refine Gr.drew ?_ | with_reducible refine Gr.trans ?_ (by with_reducible assumption))); done)) _ | with_reducible refine Gr.trans ?_ (by with_reducible assumption)))⟩
                    | true =>
                      have HO' := hide (HGO.out (etB_good HLA.out (a6_yes ha1 ham) hdn hnm))
                      clear HGO HST hdn
                      generalize hq : (12 : Int).tmod x.dn = dq at *
                      have hq0 : (dq != 0) = false := eq_bn' hdm
                      clear hdm
                      go_upto_region 7 with fail
                      have GC := @GrW.cell
                      refine wp_region_grw _ (by kernel_rfl) (by kernel_rfl) (Gr.refl _) ?_
                      repeat (go_big_quiet_step ((first | (go_at_call 85; exact quiet_grs (r3within_any _ _ _ _)))))
                      refine wpQuiet_nil ?_
                      intro wq hwq
                      obtain ⟨gq, hwq'⟩ := hwq
                      subst hwq'
                      clear GC
                      have gq1 := gq.gr
                      generalize gq.w = wq at gq1 ⊢
                      obtain ⟨Xq, Yq, cq, fq⟩ := gq1.use
                      have sq := gq1.size
                      (try simp only [World.size_alloc, World.size_setCell, World.heap_drewN] at sq)
                      go_wp2_with (first | (go_at_call 85; refine (r3within_any _ _ _ _).mono ?_; rintro e w1 ⟨rfl, rfl⟩))
                      go_roundw
                      case rel => exact ⟨_, by omega, by go_num, (by repeat (first | with_reducible exact Gr.refl _ | with_reducible assumption | with_reducible refine Gr.alloc ?_ _ | with_reducible refine Gr.drewN ?_ _ | with_reducible refine Gr.drew ?_ | with_reducible refine Gr.setCell ?_ (by first | (dsimp only; omega) | (simp only [World.size_alloc]; omega) | (with_reducible refine Gr.size ?_; (repeat (first | with_reducible exact Gr.refl _ | with_reducible assumption | with_reducible refine Gr.alloc ?_ _ | with_reducible refine Gr.drewN ?_ _ | with_reducible refine Gr.drew ?_ | with_reducible refine Gr.trans ?_ (by with_reducible assumption))); done)) _ | with_reducible refine Gr.trans ?_ (by with_reducible assumption))), HO'⟩
                      case measure => simp only [intOf]; omega
                  · have HE := hide (HST.out (etB_bad (enB_den (dn_no2 hd1 hdm))))
                    clear HGO HST
                    generalize hq : (12 : Int).tmod x.dn = dq at *
                    have hq0 : (dq != 0) = true := by rw [bne_iff_ne]; exact hdm
                    clear hdm
                    go_upto_region 7 with fail
                    have GC := @GrW.cell
                    refine wp_region_grw _ (by kernel_rfl) (by kernel_rfl) (Gr.refl _) ?_
                    repeat (go_big_quiet_step ((first | (go_at_call 85; exact quiet_grs (r3within_any _ _ _ _)))))
                    refine wpQuiet_nil ?_
                    intro wq hwq
                    obtain ⟨gq, hwq'⟩ := hwq
                    subst hwq'
                    clear GC
                    have gq1 := gq.gr
                    generalize gq.w = wq at gq1 ⊢
                    obtain ⟨Xq, Yq, cq, fq⟩ := gq1.use
                    have sq := gq1.size
                    (try simp only [World.size_alloc, World.size_setCell, World.heap_drewN] at sq)
                    go_wp2_with (first | (go_at_call 85; refine (r3within_any _ _ _ _).mono ?_; rintro e w1 ⟨rfl, rfl⟩))
                    go_ret
                    exact ⟨ret_iv' HE.out.symm, (by repeat (first | with_reducible exact Gr.refl _ | with_reducible assumption | with_reducible refine Gr.alloc ?_ _ | with_reducible refine Gr.drewN ?_ _ | with_reducible refine Gr.drew ?_ | with_reducible refine Gr.setCell ?_ (by first | (dsimp only; omega) | (simp only [World.size_alloc]; omega) | (with_reducible refine Gr.size ?_; (repeat (first | with_reducible exact Gr.refl _ | with_reducible assumption | with_reducible refine Gr.alloc ?_ _ | with_reducible refine Gr.drewN ?_ _ | with_reducible refine Gr.drew ?_ | with_reducible refine Gr.trans ?_ (by with_reducible assumption))); done)) _ | with_reducible refine Gr.trans ?_ (by with_reducible assumption)))⟩
          · have hmz : (x.an.tmod 30 != 0) = true := by rw [bne_iff_ne]; exact ham
            have HE := hide (HST.out (etB_bad (enB_ang (a6_no2 ha1 ham))))
            clear HGO HST ham
            go_upto_region 7 with fail
            have GC := @GrW.cell
            refine wp_region_grw _ (by kernel_rfl) (by kernel_rfl) (Gr.refl _) ?_
            repeat (go_big_quiet_step ((first | (go_at_call 85; exact quiet_grs (r3within_any _ _ _ _)))))
            refine wpQuiet_nil ?_
            intro wq hwq
            obtain ⟨gq, hwq'⟩ := hwq
            subst hwq'
            clear GC
            have gq1 := gq.gr
            generalize gq.w = wq at gq1 ⊢
            obtain ⟨Xq, Yq, cq, fq⟩ := gq1.use
            have sq := gq1.size
            (try simp only [World.size_alloc, World.size_setCell, World.heap_drewN] at sq)
            go_wp2_with (first | (go_at_call 85; refine (r3within_any _ _ _ _).mono ?_; rintro e w1 ⟨rfl, rfl⟩))
            go_ret
            exact ⟨ret_iv' HE.out.symm, (by repeat (first | with_reducible exact Gr.refl _ | with_reducible assumption | with_reducible refine Gr.alloc ?_ _ | with_reducible refine Gr.drewN ?_ _ | with_reducible refine Gr.drew ?_ | with_reducible refine Gr.setCell ?_ (by first | (dsimp only; omega) | (simp only [World.size_alloc]; omega) | (with_reducible refine Gr.size ?_; (repeat (first | with_reducible exact Gr.refl _ | with_reducible assumption | with_reducible refine Gr.alloc ?_ _ | with_reducible refine Gr.drewN ?_ _ | with_reducible refine Gr.drew ?_ | with_reducible refine Gr.trans ?_ (by with_reducible assumption))); done)) _ | with_reducible refine Gr.trans ?_ (by with_reducible assumption)))⟩
      · obtain rfl : k = t.en.length := by omega
        have HE := hide (tbE_good HH.out HO.out)
        go_wp2
        go_ret
        exact ⟨ret_iv' HE.out.symm, (by repeat (first | with_reducible exact Gr.refl _ | with_reducible assumption | with_reducible refine Gr.alloc ?_ _ | with_reducible refine Gr.drewN ?_ _ | with_reducible refine Gr.drew ?_ | with_reducible refine Gr.setCell ?_ (by first | (dsimp only; omega) | (simp only [World.size_alloc]; omega) | (with_reducible refine Gr.size ?_; (repeat (first | with_reducible exact Gr.refl _ | with_reducible assumption | with_reducible refine Gr.alloc ?_ _ | with_reducible refine Gr.drewN ?_ _ | with_reducible refine Gr.drew ?_ | with_reducible refine Gr.trans ?_ (by with_reducible assumption))); done)) _ | with_reducible refine Gr.trans ?_ (by with_reducible assumption)))⟩
end Go.Proofs.YtdabhnefoigebaaGreat
set_option linter.unusedVariables false
set_option linter.unusedSimpArgs false
namespace Go.Proofs.YtdabhnefoigebaaGreat
set_option linter.unusedVariables false
set_option linter.unusedSimpArgs false
open Go Go.ChangeShapes Go.WideShapes Go.ChangeAt Go.RowKit Go.Deep

/-- the reference's two places behind k entries -/
def loI (l : List En) (a : Int) (k : Nat) : Int := (if k ≤ cutI l a then (k : Int) else if fdB l a then (cutI l a : Int) + 1 else (cutI l a : Int)) - 1
def hiI (l : List En) (a : Int) (k : Nat) : Int := if k ≤ cutI l a then -1 else (cutI l a : Int)
theorem lohi_low {l : List En} {a : Int} {k : Nat} (h : k < cutI l a) : loI l a (k + 1) = k ∧ hiI l a (k + 1) = hiI l a k := by
  unfold loI hiI
  rw [if_pos (by omega), if_pos (by omega), if_pos (by omega)]
  omega
theorem lohi_eq {l : List En} {a : Int} {x : En} (hx : l[cutI l a]? = some x) (h : x.an = a) : loI l a (cutI l a + 1) = cutI l a ∧ hiI l a (cutI l a) = -1 ∧ hiI l a (cutI l a + 1) = cutI l a := by
  have hf : fdB l a = true := by rw [fdB_some hx]; simpa using h
  unfold loI hiI
  rw [if_neg (by omega), hf, if_pos rfl, if_pos (by omega), if_neg (by omega)]
  omega
theorem lohi_gt {l : List En} {a : Int} {x : En} (hx : l[cutI l a]? = some x) (h : ¬ x.an = a) : loI l a (cutI l a + 1) = loI l a (cutI l a) ∧ hiI l a (cutI l a) = -1 ∧ hiI l a (cutI l a + 1) = cutI l a := by
  have hf : fdB l a = false := by rw [fdB_some hx]; simpa using h
  have h1 : ¬ cutI l a + 1 ≤ cutI l a := by omega
  have h2 : cutI l a ≤ cutI l a := Nat.le_refl _
  simp only [loI, hiI, if_neg h1, if_pos h2, hf, Bool.false_eq_true, if_false, and_self]
theorem lohi_up {l : List En} {a : Int} {k : Nat} (h : cutI l a < k) : loI l a (k + 1) = loI l a k ∧ hiI l a k = cutI l a ∧ hiI l a (k + 1) = cutI l a := by
  have h1 : ¬ k + 1 ≤ cutI l a := by omega
  have h2 : ¬ k ≤ cutI l a := by omega
  simp only [loI, hiI, if_neg h1, if_neg h2, and_self]
set_option maxRecDepth 100000 in
set_option maxHeartbeats 4000000 in
theorem deduction_any (t : Tb) (A : Option Addr) (c : Nat) (a : Int) (w : World) (hE : SlE w A c t.en) (hok : okB t.en t.en.length = true) (h6 : t.en.length ≤ 6) :
    Calls Tryz.prog 52 #[tbv t A c, iv a] w fun e w' => e = .returned (trV (dedV t.en a)) ∧ Gr w w' := by
  have hlen := hE.len
  have HF := hide hE
  have HS := hide (asc_of hok)
  have HEN := hide (fun (k : Nat) (x : En) (hx : t.en[k]? = some x) => en_of hok hx)
  have hcl := cut_le t.en a
  clear hE hok
  go_enter Tryz.func52, Tryz.ntmps52
  go_wp2
  go_loopw [6, 7, 8] (fun lo hi i wr => ∃ (k : Nat) (u v : Int), k ≤ t.en.length ∧ i = iv k ∧ lo = iv u ∧ hi = iv v ∧ Gr ((w.alloc (.cells #[.string t.mt, iv t.ga, iv t.di, .slice A t.en.length c] 28)).alloc (.cells #[iv 0, iv 0] 52)) wr ∧ Hid (u = loI t.en a k) ∧ Hid (v = hiI t.en a k)) (fun _ _ i _ => t.en.length - (intOf i).toNat)
  case atStart => exact ⟨0, -1, -1, by omega, rfl, rfl, rfl, Gr.refl _, by unfold Hid loI; rw [if_pos (by omega)]; rfl, by unfold Hid hiI; rw [if_pos (by omega)]⟩
  case round =>
    obtain ⟨k, u, v, hk, rfl, rfl, rfl, g, HU, HV⟩ := hrel
    have gW : Gr w wr := (by repeat (first | with_reducible exact Gr.refl _ | with_reducible assumption | with_reducible refine Gr.alloc ?_ _ | with_reducible refine Gr.drewN ?_ _ | with_reducible refine Gr.drew ?_ | with_reducible refine Gr.setCell ?_ (by first | (dsimp only; omega) | (simp only [World.size_alloc]; omega) | (with_reducible refine Gr.size ?_; (repeat (first | with_reducible exact Gr.refl _ | with_reducible assumption | with_reducible refine Gr.alloc ?_ _ | with_reducible refine Gr.drewN ?_ _ | with_reducible refine Gr.drew ?_ | with_reducible refine Gr.trans ?_ (by with_reducible assumption))); done)) _ | with_reducible refine Gr.trans ?_ (by with_reducible assumption)))
    obtain ⟨Xr, Yr, cr, fr⟩ := g.use
    have zr := g.size
    simp only [World.size_alloc] at zr
    have l0 : w.heap.size < wr.heap.size := by omega
    have l1 : w.heap.size + 1 < wr.heap.size := by omega
    by_cases hkl : k < t.en.length
    · obtain ⟨x, hx⟩ : ∃ x, t.en[k]? = some x := ⟨_, List.getElem?_eq_getElem hkl⟩
      obtain ⟨b, off, rfl, x0, x1, x2⟩ := HF.out.rd.en hx
      have hb : b < w.heap.size := cell_lt (by rw [x0]; rfl)
      have hbr : b < wr.heap.size := by omega
      have hk0 : (0 : Int) ≤ (k : Int) := by omega
      have hk1 : (k : Int) < (t.en.length : Int) := by omega
      rcases Nat.lt_trichotomy k (cutI t.en a) with h | h | h
      · have hxa := cut_lt h hx
        obtain ⟨e1, e2⟩ := lohi_low h
        have HU' := hide e1.symm
        have HV' := hide (HV.out.trans e2.symm)
        clear hx e1 e2 h hcl
        go_wp2
        go_roundw
        case rel => exact ⟨k + 1, k, v, by omega, by go_num, rfl, rfl, (by repeat (first | with_reducible exact Gr.refl _ | with_reducible assumption | with_reducible refine Gr.alloc ?_ _ | with_reducible refine Gr.drewN ?_ _ | with_reducible refine Gr.drew ?_ | with_reducible refine Gr.setCell ?_ (by first | (dsimp only; omega) | (simp only [World.size_alloc]; omega) | (with_reducible refine Gr.size ?_; (repeat (first | with_reducible exact Gr.refl _ | with_reducible assumption | with_reducible refine Gr.alloc ?_ _ | with_reducible refine Gr.drewN ?_ _ | with_reducible refine Gr.drew ?_ | with_reducible refine Gr.trans ?_ (by with_reducible assumption))); done)) _ | with_reducible refine Gr.trans ?_ (by with_reducible assumption))), HU', HV'⟩
        case measure => simp only [intOf]; omega
      · have hx2 := hx
        rw [h] at hx2
        by_cases hxa : x.an = a
        · obtain ⟨e1, e2, e3⟩ := lohi_eq hx2 hxa
          rw [← h] at e1 e2 e3
          have HU' := hide e1.symm
          have HV' := hide e3.symm
          obtain rfl : v = -1 := HV.out.trans e2
          have q1 : x.an ≤ a := by omega
          have q2 : a ≤ x.an := by omega
          clear hx e1 e2 e3 h hx2 hxa hcl HV
          go_wp2
          go_roundw
          case rel => exact ⟨k + 1, k, k, by omega, by go_num, rfl, rfl, (by repeat (first | with_reducible exact Gr.refl _ | with_reducible assumption | with_reducible refine Gr.alloc ?_ _ | with_reducible refine Gr.drewN ?_ _ | with_reducible refine Gr.drew ?_ | with_reducible refine Gr.setCell ?_ (by first | (dsimp only; omega) | (simp only [World.size_alloc]; omega) | (with_reducible refine Gr.size ?_; (repeat (first | with_reducible exact Gr.refl _ | with_reducible assumption | with_reducible refine Gr.alloc ?_ _ | with_reducible refine Gr.drewN ?_ _ | with_reducible refine Gr.drew ?_ | with_reducible refine Gr.trans ?_ (by with_reducible assumption))); done)) _ | with_reducible refine Gr.trans ?_ (by with_reducible assumption))), HU', HV'⟩
          case measure => simp only [intOf]; omega
        · obtain ⟨e1, e2, e3⟩ := lohi_gt hx2 hxa
          rw [← h] at e1 e2 e3
          have hge := cut_at hx2
          have HU' := hide (HU.out.trans e1.symm)
          have HV' := hide e3.symm
          obtain rfl : v = -1 := HV.out.trans e2
          have q1 : ¬ x.an ≤ a := by omega
          have q2 : a ≤ x.an := by omega
          clear hx e1 e2 e3 h hx2 hxa hcl HV hge
          go_wp2
          go_roundw
          case rel => exact ⟨k + 1, u, k, by omega, by go_num, rfl, rfl, (by repeat (first | with_reducible exact Gr.refl _ | with_reducible assumption | with_reducible refine Gr.alloc ?_ _ | with_reducible refine Gr.drewN ?_ _ | with_reducible refine Gr.drew ?_ | with_reducible refine Gr.setCell ?_ (by first | (dsimp only; omega) | (simp only [World.size_alloc]; omega) | (with_reducible refine Gr.size ?_; (repeat (first | with_reducible exact Gr.refl _ | with_reducible assumption | with_reducible refine Gr.alloc ?_ _ | with_reducible refine Gr.drewN ?_ _ | with_reducible refine Gr.drew ?_ | with_reducible refine Gr.trans ?_ (by with_reducible assumption))); done)) _ | with_reducible refine Gr.trans ?_ (by with_reducible assumption))), HU', HV'⟩
          case measure => simp only [intOf]; omega
      · have hge := cut_gt HS.out h hx
        obtain ⟨e1, e2, e3⟩ := lohi_up h
        have HU' := hide (HU.out.trans e1.symm)
        have HV' := hide e3.symm
        have hv := HV.out.trans e2
        have q1 : ¬ x.an ≤ a := by omega
        have q2 : a ≤ x.an := by omega
        have q3 : ¬ v < 0 := by omega
        have HVV := hide hv
        clear hx e1 e2 e3 h hcl HV hge hv
        go_wp2
        go_roundw
        case rel => exact ⟨k + 1, u, v, by omega, by go_num, rfl, rfl, (by repeat (first | with_reducible exact Gr.refl _ | with_reducible assumption | with_reducible refine Gr.alloc ?_ _ | with_reducible refine Gr.drewN ?_ _ | with_reducible refine Gr.drew ?_ | with_reducible refine Gr.setCell ?_ (by first | (dsimp only; omega) | (simp only [World.size_alloc]; omega) | (with_reducible refine Gr.size ?_; (repeat (first | with_reducible exact Gr.refl _ | with_reducible assumption | with_reducible refine Gr.alloc ?_ _ | with_reducible refine Gr.drewN ?_ _ | with_reducible refine Gr.drew ?_ | with_reducible refine Gr.trans ?_ (by with_reducible assumption))); done)) _ | with_reducible refine Gr.trans ?_ (by with_reducible assumption))), HU', by unfold Hid; rw [HVV.out]; exact HV'.out⟩
        case measure => simp only [intOf]; omega
    · obtain rfl : k = t.en.length := by omega
      cases hy : t.en[cutI t.en a]? with
      | none =>
        have hn : cutI t.en a = t.en.length := by have := List.getElem?_eq_none_iff.1 hy; omega
        obtain rfl : v = -1 := by rw [HV.out]; unfold hiI; rw [if_pos (by omega)]
        have HE := hide (dedV_none hy)
        clear hy hn hcl HU HV
        go_wp2
        all_goals
          refine bodyPost_ret (v := trV (0, 0, 5)) (by simp [results, Tryz.results52, go_sem, *]) rfl ⟨by rw [HE.out], (by repeat (first | with_reducible exact Gr.refl _ | with_reducible assumption | with_reducible refine Gr.alloc ?_ _ | with_reducible refine Gr.drewN ?_ _ | with_reducible refine Gr.drew ?_ | with_reducible refine Gr.setCell ?_ (by first | (dsimp only; omega) | (simp only [World.size_alloc]; omega) | (with_reducible refine Gr.size ?_; (repeat (first | with_reducible exact Gr.refl _ | with_reducible assumption | with_reducible refine Gr.alloc ?_ _ | with_reducible refine Gr.drewN ?_ _ | with_reducible refine Gr.drew ?_ | with_reducible refine Gr.trans ?_ (by with_reducible assumption))); done)) _ | with_reducible refine Gr.trans ?_ (by with_reducible assumption)))⟩
      | some y =>
        have hn : cutI t.en a < t.en.length := (List.getElem?_eq_some_iff.1 hy).1
        have hv : v = (cutI t.en a : Int) := by rw [HV.out]; unfold hiI; rw [if_neg (by omega)]
        obtain ⟨b, off, hA, y0, y1, y2⟩ := HF.out.rd.en hy
        subst hA
        have hb : b < w.heap.size := cell_lt (by rw [y0]; rfl)
        have hbr : b < wr.heap.size := by omega
        have hbr1 : b < wr.heap.size + 1 := by omega
        have hey := HEN.out _ _ hy
        by_cases hya : y.an = a
        · have hu : u = (cutI t.en a : Int) := by rw [HU.out]; unfold loI; rw [if_neg (by omega), fdB_some hy, if_pos (by simpa using hya)]; omega
          have HE := hide (dedV_found hy hya)
          obtain ⟨-, m1, m2⟩ := en_ra hey
          have HLW := hide (fun w => lowest_any y.nm y.dn w (by omega) (by omega))
          generalize rdN y.nm y.dn = rn at *
          generalize rdD y.nm y.dn = rd at *
          clear hy hya hey m1 m2 HU HV hcl hkl
          have HC := hide hn
          generalize cutI t.en a = n at *
          subst hu
          subst hv
          have hn0 : (0 : Int) ≤ (n : Int) := by omega
          have hn1 : (n : Int) < (t.en.length : Int) := by omega
          go_upto_region 11 with fail
          go_region
          all_goals
            go_wp2_with (first | (go_at_call 86; refine (HLW.out _).mono ?_; rintro e w1 ⟨rfl, g1⟩; obtain ⟨X1, Y1, c1, f1⟩ := g1.use; have z1 := g1.size; (try simp only [World.size_alloc, World.size_setCell, World.heap_drewN, Nat.add_one_le_iff] at z1); (try have l0 : w.heap.size < w1.heap.size := by omega); (try have l1 : w.heap.size + 1 < w1.heap.size := by omega); (try have l2 : w.heap.size + 1 + 1 < w1.heap.size := by omega)))
            refine bodyPost_ret (v := trV (rn, rd, 0)) (by simp [results, Tryz.results52, go_sem, *]) rfl ⟨by rw [HE.out], (by repeat (first | with_reducible exact Gr.refl _ | with_reducible assumption | with_reducible refine Gr.alloc ?_ _ | with_reducible refine Gr.drewN ?_ _ | with_reducible refine Gr.drew ?_ | with_reducible refine Gr.setCell ?_ (by first | (dsimp only; omega) | (simp only [World.size_alloc]; omega) | (with_reducible refine Gr.size ?_; (repeat (first | with_reducible exact Gr.refl _ | with_reducible assumption | with_reducible refine Gr.alloc ?_ _ | with_reducible refine Gr.drewN ?_ _ | with_reducible refine Gr.drew ?_ | with_reducible refine Gr.trans ?_ (by with_reducible assumption))); done)) _ | with_reducible refine Gr.trans ?_ (by with_reducible assumption)))⟩
        · have hu : u = (cutI t.en a : Int) - 1 := by rw [HU.out]; unfold loI; rw [if_neg (by omega), fdB_some hy, if_neg (by simpa using hya)]
          by_cases hn0 : cutI t.en a = 0
          · have HE := hide (dedV_zero hy hya hn0)
            obtain rfl : u = -1 := by omega
            clear hy hya hey HU HV hcl hkl hu hn0
            go_wp2
            refine bodyPost_ret (v := trV (0, 0, 5)) (by simp [results, Tryz.results52, go_sem, *]) rfl ⟨by rw [HE.out], (by repeat (first | with_reducible exact Gr.refl _ | with_reducible assumption | with_reducible refine Gr.alloc ?_ _ | with_reducible refine Gr.drewN ?_ _ | with_reducible refine Gr.drew ?_ | with_reducible refine Gr.setCell ?_ (by first | (dsimp only; omega) | (simp only [World.size_alloc]; omega) | (with_reducible refine Gr.size ?_; (repeat (first | with_reducible exact Gr.refl _ | with_reducible assumption | with_reducible refine Gr.alloc ?_ _ | with_reducible refine Gr.drewN ?_ _ | with_reducible refine Gr.drew ?_ | with_reducible refine Gr.trans ?_ (by with_reducible assumption))); done)) _ | with_reducible refine Gr.trans ?_ (by with_reducible assumption)))⟩
          · obtain ⟨n, hn'⟩ : ∃ n : Nat, cutI t.en a = n + 1 := ⟨cutI t.en a - 1, by omega⟩
            obtain ⟨x, hx⟩ : ∃ x, t.en[n]? = some x := ⟨_, List.getElem?_eq_getElem (by omega)⟩
            have hx' : t.en[cutI t.en a - 1]? = some x := by rw [hn']; exact hx
            have HE := hide (dedV_mid hy hya hn0 hx')
            have hex := HEN.out _ _ hx
            have hxa : x.an < a := cut_lt (by omega) hx
            have hay : a < y.an := by have := cut_at hy; omega
            obtain ⟨-, ⟨b1, b2⟩, b3, b4⟩ := be_ok hex hey hxa hay
            obtain ⟨ax, dx, nx0, nx1⟩ := enB_use hex
            obtain ⟨ay, dy, ny0, ny1⟩ := enB_use hey
            have HLW := hide (fun w => lowest_any (beN x y a) (beD x y) w (by omega) (by omega))
            obtain ⟨b', off', hA', x0, x1, x2⟩ := HF.out.rd.en hx
            obtain ⟨rfl, rfl⟩ : b = b' ∧ off = off' := by simpa using hA'
            have tx := tw_bd hex
            have ty := tw_bd hey
            have ex : x.nm * (12 : Int).tdiv x.dn = twI x := by rw [tw_eq dx]; rcases dx with h | h | h | h | h | h <;> rw [h] <;> rfl
            have ey : y.nm * (12 : Int).tdiv y.dn = twI y := by rw [tw_eq dy]; rcases dy with h | h | h | h | h | h <;> rw [h] <;> rfl
            have dx0 : (x.dn == 0) = false := by rw [beq_eq_false_iff_ne]; omega
            have dy0 : (y.dn == 0) = false := by rw [beq_eq_false_iff_ne]; omega
            have zx : ¬ x.dn = 0 := by omega
            have zy : ¬ y.dn = 0 := by omega
            have Wx : IntKind.i64.wrap ((12 : Int).tdiv x.dn) = (12 : Int).tdiv x.dn := by rcases dx with h | h | h | h | h | h <;> rw [h] <;> rfl
            have Wy : IntKind.i64.wrap ((12 : Int).tdiv y.dn) = (12 : Int).tdiv y.dn := by rcases dy with h | h | h | h | h | h <;> rw [h] <;> rfl
            have Vx : IntKind.i64.wrap (x.nm * (12 : Int).tdiv x.dn) = twI x := by rw [ex, IntWalk.i64_in _ (by omega)]
            have Vy : IntKind.i64.wrap (y.nm * (12 : Int).tdiv y.dn) = twI y := by rw [ey, IntWalk.i64_in _ (by omega)]
            have p1 : 0 ≤ twI x * (y.an - a) := Int.mul_nonneg (by omega) (by omega)
            have p2 : 0 ≤ twI y * (a - x.an) := Int.mul_nonneg (by omega) (by omega)
            have p3 : twI x * (y.an - a) ≤ 240 * (y.an - a) := Int.mul_le_mul_of_nonneg_right tx.2 (by omega)
            have p4 : twI y * (a - x.an) ≤ 240 * (a - x.an) := Int.mul_le_mul_of_nonneg_right ty.2 (by omega)
            unfold beN beD at HLW HE
            generalize rdN (twI x * (y.an - a) + twI y * (a - x.an)) (12 * (y.an - x.an)) = rn at *
            generalize rdD (twI x * (y.an - a) + twI y * (a - x.an)) (12 * (y.an - x.an)) = rd at *
            generalize twI x = tx' at *
            generalize twI y = ty' at *
            clear hA' hy hya hn0 hx hx' hex hey HU HV hcl hkl ex ey dx dy b1 b2 b3 b4 nx0 nx1 ny0 ny1 tx ty
            rw [hn'] at hu hv hn y0 y1 y2
            have HC := hide hn'
            clear hn'
            obtain rfl : u = (n : Int) := by omega
            obtain rfl : v = (n : Int) + 1 := by omega
            clear hu hv
            have hk0 : (0 : Int) ≤ (n : Int) := by omega
            have hk1 : (n : Int) < (t.en.length : Int) := by omega
            have hk2 : (0 : Int) ≤ (n : Int) + 1 := by omega
            have hk3 : (n : Int) + 1 < (t.en.length : Int) := by omega
            have hne : ((n : Int) == (n : Int) + 1) = false := by rw [beq_eq_false_iff_ne]; omega
            go_upto_region 11 with fail
            go_region
            all_goals
              go_upto_region 14 with fail
              have GC := @GrW.cell
              refine wp_region_grw _ (by kernel_rfl) (by kernel_rfl) (Gr.refl _) ?_
              repeat (go_big_quiet_step ((first | fail)))
              refine wpQuiet_nil ?_
              intro wq hwq
              obtain ⟨gq, hwq'⟩ := hwq
              subst hwq'
              clear GC
              have gq1 := gq.gr
              generalize gq.w = wq at gq1 ⊢
              obtain ⟨Xq, Yq, cq, fq⟩ := gq1.use
              have sq := gq1.size
              (try simp only [World.size_alloc, World.size_setCell, World.heap_drewN] at sq)
              clear Wx Wy Vx Vy
              go_wp2_with (first | (go_at_call 86; refine (HLW.out _).mono ?_; rintro e w1 ⟨rfl, g1⟩; obtain ⟨X1, Y1, c1, f1⟩ := g1.use; have z1 := g1.size; (try simp only [World.size_alloc, World.size_setCell, World.heap_drewN, Nat.add_one_le_iff] at z1); (try have l0 : w.heap.size < w1.heap.size := by omega); (try have l1 : w.heap.size + 1 < w1.heap.size := by omega); (try have l2 : w.heap.size + 1 + 1 < w1.heap.size := by omega)))
              refine bodyPost_ret (v := trV (rn, rd, 0)) (by simp [results, Tryz.results52, go_sem, *]) rfl ⟨by rw [HE.out], (by repeat (first | with_reducible exact Gr.refl _ | with_reducible assumption | with_reducible refine Gr.alloc ?_ _ | with_reducible refine Gr.drewN ?_ _ | with_reducible refine Gr.drew ?_ | with_reducible refine Gr.setCell ?_ (by first | (dsimp only; omega) | (simp only [World.size_alloc]; omega) | (with_reducible refine Gr.size ?_; (repeat (first | with_reducible exact Gr.refl _ | with_reducible assumption | with_reducible refine Gr.alloc ?_ _ | with_reducible refine Gr.drewN ?_ _ | with_reducible refine Gr.drew ?_ | with_reducible refine Gr.trans ?_ (by with_reducible assumption))); done)) _ | with_reducible refine Gr.trans ?_ (by with_reducible assumption)))⟩
end Go.Proofs.YtdabhnefoigebaaGreat
set_option linter.unusedVariables false
set_option linter.unusedSimpArgs false
namespace Go.Proofs.YtdabhnefoigebaaGreat
set_option linter.unusedVariables false
set_option linter.unusedSimpArgs false
open Go Go.ChangeShapes Go.WideShapes Go.ChangeAt Go.RowKit Go.Deep

/-- whether a table is wide -/
def wdB (t : Tb) : Bool := decide (300 < t.mt.size) || decide (40 < t.en.length)
theorem wide_any (t : Tb) (A : Option Addr) (c : Nat) (w : World) (h1 : t.mt.size ≤ 9223372036854775807) (h2 : t.en.length ≤ 9223372036854775807) :
    Calls Tryz.prog 6 #[tbv t A c] w fun e w' => e = .returned (.bool (wdB t)) ∧ Gr w w' := by
  by_cases hm : 300 < t.mt.size
  · go_enter Tryz.func6, Tryz.ntmps6
    go_wp2
    go_ret
    exact ⟨ret_bool (by unfold wdB; first | (congr 1 <;> exact decide_eq_decide.mpr (by omega)) | (simp; omega)), (by repeat (first | with_reducible exact Gr.refl _ | with_reducible assumption | with_reducible refine Gr.alloc ?_ _ | with_reducible refine Gr.drewN ?_ _ | with_reducible refine Gr.drew ?_ | with_reducible refine Gr.setCell ?_ (by first | (dsimp only; omega) | (simp only [World.size_alloc]; omega) | (with_reducible refine Gr.size ?_; (repeat (first | with_reducible exact Gr.refl _ | with_reducible assumption | with_reducible refine Gr.alloc ?_ _ | with_reducible refine Gr.drewN ?_ _ | with_reducible refine Gr.drew ?_ | with_reducible refine Gr.trans ?_ (by with_reducible assumption))); done)) _ | with_reducible refine Gr.trans ?_ (by with_reducible assumption)))⟩
  · by_cases hn : 40 < t.en.length
    · go_enter Tryz.func6, Tryz.ntmps6
      go_wp2
      go_ret
      exact ⟨ret_bool (by unfold wdB; first | (congr 1 <;> exact decide_eq_decide.mpr (by omega)) | (simp; omega)), (by repeat (first | with_reducible exact Gr.refl _ | with_reducible assumption | with_reducible refine Gr.alloc ?_ _ | with_reducible refine Gr.drewN ?_ _ | with_reducible refine Gr.drew ?_ | with_reducible refine Gr.setCell ?_ (by first | (dsimp only; omega) | (simp only [World.size_alloc]; omega) | (with_reducible refine Gr.size ?_; (repeat (first | with_reducible exact Gr.refl _ | with_reducible assumption | with_reducible refine Gr.alloc ?_ _ | with_reducible refine Gr.drewN ?_ _ | with_reducible refine Gr.drew ?_ | with_reducible refine Gr.trans ?_ (by with_reducible assumption))); done)) _ | with_reducible refine Gr.trans ?_ (by with_reducible assumption)))⟩
    · go_enter Tryz.func6, Tryz.ntmps6
      go_wp2
      go_ret
      exact ⟨ret_bool (by unfold wdB; first | (congr 1 <;> exact decide_eq_decide.mpr (by omega)) | (simp; omega)), (by repeat (first | with_reducible exact Gr.refl _ | with_reducible assumption | with_reducible refine Gr.alloc ?_ _ | with_reducible refine Gr.drewN ?_ _ | with_reducible refine Gr.drew ?_ | with_reducible refine Gr.setCell ?_ (by first | (dsimp only; omega) | (simp only [World.size_alloc]; omega) | (with_reducible refine Gr.size ?_; (repeat (first | with_reducible exact Gr.refl _ | with_reducible assumption | with_reducible refine Gr.alloc ?_ _ | with_reducible refine Gr.drewN ?_ _ | with_reducible refine Gr.drew ?_ | with_reducible refine Gr.trans ?_ (by with_reducible assumption))); done)) _ | with_reducible refine Gr.trans ?_ (by with_reducible assumption)))⟩
end Go.Proofs.YtdabhnefoigebaaGreat
set_option linter.unusedVariables false
set_option linter.unusedSimpArgs false
namespace Go.Proofs.YtdabhnefoigebaaGreat
set_option linter.unusedVariables false
set_option linter.unusedSimpArgs false
open Go Go.ChangeShapes Go.WideShapes Go.ChangeAt Go.RowKit Go.Deep

theorem ra_red {n d : Int} (h : raB n d = true) : raB (rdN n d) (rdD n d) = true := by
  obtain ⟨h1, h2⟩ := raB_iff.1 h
  have e1 := rdN_mul n d
  have e2 := rdD_mul n d
  have g1 := gn_pos (n := n) h2.1
  have p := rdD_pos (n := n) h2.1
  generalize rdN n d = x at *
  generalize rdD n d = y at *
  generalize gn n d = g at *
  have a1 : y * 1 ≤ y * g := Int.mul_le_mul_of_nonneg_left g1 (by omega)
  have a2 : x ≤ 16777216 := by
    rcases Int.lt_or_le 0 x with h | h
    · have : x * 1 ≤ x * g := Int.mul_le_mul_of_nonneg_left g1 (by omega)
      omega
    · omega
  have a3 : -16777216 ≤ x := by
    rcases Int.lt_or_le x 0 with h | h
    · have : (-x) * 1 ≤ (-x) * g := Int.mul_le_mul_of_nonneg_left g1 (by omega)
      simp only [Int.neg_mul] at this
      omega
    · omega
  exact raB_iff.2 ⟨⟨a3, a2⟩, p, by omega⟩
theorem tik_red {n d m : Int} (h : raB n d = true) (e : m * d = n * 720) : tikV (rdN n d) (rdD n d) = (m, 0) := by
  have h2 := (raB_iff.1 h).2
  have hr := ra_red h
  have e1 := rdN_mul n d
  have e2 := rdD_mul n d
  have g1 := gn_pos (n := n) h2.1
  have p := rdD_pos (n := n) h2.1
  have key : m * rdD n d = rdN n d * 720 := by
    generalize rdN n d = x at *
    generalize rdD n d = y at *
    generalize gn n d = g at *
    have : g * (m * y) = g * (x * 720) := by
      have f1 : g * (m * y) = m * (y * g) := by grind
      have f2 : g * (x * 720) = (x * g) * 720 := by grind
      rw [f1, f2, e1, e2, e]
    exact Int.eq_of_mul_eq_mul_left (by omega) this
  obtain ⟨u1, u2⟩ := tik_at p key
  unfold tikV
  rw [hr, if_pos rfl, if_pos u1, u2]
/-- the ticks of an entry -/
def tkI (x : En) : Int := twI x * 60
theorem tk_mul {x : En} (h : enB x = true) : tkI x * x.dn = x.nm * 720 := by
  obtain ⟨_, h1, _⟩ := enB_use h
  unfold tkI
  rw [tw_eq h1]
  rcases h1 with h | h | h | h | h | h <;> rw [h] <;> omega
theorem tk_tik {x : En} (h : enB x = true) : tikV x.nm x.dn = (tkI x, 0) := by
  obtain ⟨hr, _, h2⟩ := en_ra h
  obtain ⟨u1, u2⟩ := tik_at h2.1 (tk_mul h)
  unfold tikV
  rw [hr, if_pos rfl, if_pos u1, u2]
theorem tk_bd {x : En} (h : enB x = true) : 0 ≤ tkI x ∧ tkI x ≤ 14400 := by
  have := tw_bd h
  unfold tkI
  omega
/-- the ticks of a deduction between two entries -/
theorem mid_tik {x y : En} {a : Int} (hx : enB x = true) (hy : enB y = true) (ha : a6B a = true) (h1 : x.an < a) (h2 : a < y.an) :
    ∃ n : Int, tikV (rdN (beN x y a) (beD x y)) (rdD (beN x y a) (beD x y)) = (n, 0) ∧ (0 ≤ n ∧ n ≤ 14400) ∧ ((tkI x ≤ n ∧ n ≤ tkI y) ∨ (tkI y ≤ n ∧ n ≤ tkI x)) := by
  obtain ⟨hr, _⟩ := be_ok hx hy h1 h2
  have t1 := tw_bd hx
  have t2 := tw_bd hy
  have a1 : a6B x.an = true := by unfold enB at hx; simp only [Bool.and_eq_true] at hx; exact hx.1.1
  have a2 : a6B y.an = true := by unfold enB at hy; simp only [Bool.and_eq_true] at hy; exact hy.1.1
  rw [a6_mod] at a1 a2 ha
  obtain ⟨u, hu⟩ : ∃ u : Int, y.an - a = 30 * u := ⟨(y.an - a) / 30, by omega⟩
  obtain ⟨v, hv⟩ : ∃ v : Int, a - x.an = 30 * v := ⟨(a - x.an) / 30, by omega⟩
  have hN : beN x y a = twI x * (30 * u) + twI y * (30 * v) := by unfold beN; rw [hu, hv]
  have hD : beD x y = 12 * (30 * (u + v)) := by unfold beD; omega
  rw [hN, hD] at hr ⊢
  unfold tkI
  generalize twI x = p at *
  generalize twI y = q at *
  have go : ∀ n : Int, n * (12 * (30 * (u + v))) = (p * (30 * u) + q * (30 * v)) * 720 → (0 ≤ n ∧ n ≤ 14400) → ((p * 60 ≤ n ∧ n ≤ q * 60) ∨ (q * 60 ≤ n ∧ n ≤ p * 60)) →
      ∃ n : Int, tikV (rdN (p * (30 * u) + q * (30 * v)) (12 * (30 * (u + v)))) (rdD (p * (30 * u) + q * (30 * v)) (12 * (30 * (u + v)))) = (n, 0) ∧ (0 ≤ n ∧ n ≤ 14400) ∧ ((p * 60 ≤ n ∧ n ≤ q * 60) ∨ (q * 60 ≤ n ∧ n ≤ p * 60)) := fun n e1 e2 e3 => ⟨n, tik_red hr e1, e2, e3⟩
  clear hN hD hr hx hy
  have hu' : u = 1 ∨ u = 2 ∨ u = 3 ∨ u = 4 := by omega
  have hv' : v = 1 ∨ v = 2 ∨ v = 3 ∨ v = 4 := by omega
  have huv : u + v ≤ 5 := by omega
  clear hu hv a1 a2 ha h1 h2
  rcases hu' with rfl | rfl | rfl | rfl <;> rcases hv' with rfl | rfl | rfl | rfl <;> first
    | (exfalso; omega)
    | exact go (30 * (p * 1 + q * 1)) (by omega) (by omega) (by omega)
    | exact go (20 * (p * 1 + q * 2)) (by omega) (by omega) (by omega)
    | exact go (20 * (p * 2 + q * 1)) (by omega) (by omega) (by omega)
    | exact go (15 * (p * 1 + q * 3)) (by omega) (by omega) (by omega)
    | exact go (15 * (p * 3 + q * 1)) (by omega) (by omega) (by omega)
    | exact go (15 * (p * 2 + q * 2)) (by omega) (by omega) (by omega)
    | exact go (12 * (p * 1 + q * 4)) (by omega) (by omega) (by omega)
    | exact go (12 * (p * 4 + q * 1)) (by omega) (by omega) (by omega)
    | exact go (12 * (p * 2 + q * 3)) (by omega) (by omega) (by omega)
    | exact go (12 * (p * 3 + q * 2)) (by omega) (by omega) (by omega)
theorem ded_err {t : Tb} {a d1 d2 e : Int} (h : dedA t a = (d1, d2, e)) (he : ¬ e = 0) : d1 = 0 ∧ d2 = 0 := by
  unfold dedA at h
  split at h
  · simp at h; omega
  split at h
  · simp at h; omega
  unfold dedV at h
  split at h
  · simp at h; omega
  split at h
  · simp at h; omega
  split at h
  · simp at h; omega
  split at h
  · simp at h; omega
  · simp at h; omega
/-- what a deduction has -/
structure Ded (t : Tb) (a d1 d2 n : Int) (y : En) : Prop where
  ok : okB t.en t.en.length = true
  len : 1 ≤ t.en.length ∧ t.en.length ≤ 6
  tik : tikV d1 d2 = (n, 0)
  nn : 0 ≤ n ∧ n ≤ 14400
  at_ : t.en[cutI t.en a]? = some y
  or : (y.an = a ∧ n = tkI y) ∨ (¬ y.an = a ∧ ∃ j x, cutI t.en a = j + 1 ∧ t.en[j]? = some x ∧ ((tkI x ≤ n ∧ n ≤ tkI y) ∨ (tkI y ≤ n ∧ n ≤ tkI x)))
theorem ded_ok {t : Tb} {a d1 d2 : Int} (h : dedA t a = (d1, d2, 0)) : ∃ n y, Ded t a d1 d2 n y := by
  rcases tbE_cases t with h0 | h0
  · obtain ⟨k1, k2⟩ := tbE_ok h0
    cases ha : a6B a with
    | false => rw [dedA_ang h0 ha] at h; simp at h
    | true =>
      rw [dedA_good h0 ha] at h
      cases hy : t.en[cutI t.en a]? with
      | none => rw [dedV_none hy] at h; simp at h
      | some y =>
        have hey := en_of k2 hy
        by_cases hya : y.an = a
        · rw [dedV_found hy hya] at h
          simp only [Prod.mk.injEq, and_true] at h
          obtain ⟨rfl, rfl⟩ := h
          exact ⟨tkI y, y, k2, hdB_len k1, tik_red (en_ra hey).1 (tk_mul hey), tk_bd hey, hy, .inl ⟨hya, rfl⟩⟩
        · by_cases hn0 : cutI t.en a = 0
          · rw [dedV_zero hy hya hn0] at h; simp at h
          · obtain ⟨j, hj⟩ : ∃ j : Nat, cutI t.en a = j + 1 := ⟨cutI t.en a - 1, by omega⟩
            have hlt := (List.getElem?_eq_some_iff.1 hy).1
            obtain ⟨x, hx⟩ : ∃ x, t.en[j]? = some x := ⟨_, List.getElem?_eq_getElem (by omega)⟩
            rw [dedV_mid hy hya hn0 (by rw [hj]; exact hx)] at h
            simp only [Prod.mk.injEq, and_true] at h
            obtain ⟨rfl, rfl⟩ := h
            have hxa : x.an < a := cut_lt (by omega) hx
            have hay : a < y.an := by have := cut_at hy; omega
            obtain ⟨n, e1, e2, e3⟩ := mid_tik (en_of k2 hx) hey ha hxa hay
            exact ⟨n, y, k2, hdB_len k1, e1, e2, hy, .inr ⟨hya, j, x, hj, hx, e3⟩⟩
  · rw [dedA_bad h0] at h; simp at h
end Go.Proofs.YtdabhnefoigebaaGreat
