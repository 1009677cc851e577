/-
  What the reference's Wrap returns: the way around its points.
-/
import Derived.Test.YtloefohekhkehaaDoorWrap2
import Derived.Test.YtloefohekhkehaaDoorHolds1
set_option linter.unusedVariables false
set_option linter.unusedSimpArgs false
namespace Go.Proofs.YtloefohekhkehaaDoor
set_option linter.unusedVariables false
set_option linter.unusedSimpArgs false
open Go Go.ChangeShapes Go.WideShapes Go.ChangeAt Go.RowKit Go.Deep

theorem between_pts (p q r : Pt) (w : World) (hp : PIn p) (hq : PIn q) (hr : PIn r) :
    Calls Tryd.prog 34 #[pv p, pv q, pv r] w fun e w' => e = .returned (.bool (btB p q r)) ∧ Gr w w' := between_any p q r w hp hq hr
theorem rorient_pts (p q x : Pt) (w : World) (hp : PIn p) (hq : PIn q) (hx : PIn x) :
    Calls Tryd.prog 33 #[pv p, pv q, pv x] w fun e w' => e = .returned (iv (orP p q x)) ∧ Gr w w' := rorient_any _ _ _ _ _ _ _ _ _ _ _ _ w hp hq hx
theorem cmp_ne (x y : Pt) (h : x ≠ y) : (cmpI x y != 0) = true := by
  rw [bne_iff_ne]
  exact fun e => h ((cmpI_zero x y).1 e)
theorem cmp_eq (x y : Pt) (h : x = y) : (cmpI x y != 0) = false := by
  have := (cmpI_zero x y).2 h
  simp [this]
theorem own_one (w : World) (base : Nat) (a : Pt) (hb : base ≤ w.heap.size) : Own (w.alloc (.cells #[iv a.1, iv a.2.1, iv a.2.2.1, iv a.2.2.2] 34)) base (.slice (some ⟨w.heap.size, 0, none⟩) 1 1) [a] :=
  ⟨rfl, .inr ⟨w.heap.size, 1, #[iv a.1, iv a.2.1, iv a.2.2.1, iv a.2.2.2], rfl, hb, heap_alloc_new w _, Nat.le_refl _, by unfold maxLen; omega, rfl, rfl⟩⟩
theorem own_weak {w : World} {base lo : Nat} {v : Value} {xs : List Pt} (h : Own w base v xs) (hb : lo ≤ base) : Own w lo v xs :=
  ⟨h.1, h.2.imp id fun ⟨k, cap, cur, e, hb', h'⟩ => ⟨k, cap, cur, e, Nat.le_trans hb hb', h'⟩⟩
set_option maxHeartbeats 4000000 in
set_option maxRecDepth 100000 in
theorem wrap_any (A : Option Addr) (c : Nat) (xs : List Pt) (w : World) (a : Pt) (t : List Pt) (hx : Rd w A xs) (hp : ∀ p ∈ xs, PIn p) (h0 : 0 < xs.length) (lx : xs.length ≤ 1000) (r : G.Run (xs.map vOf) (vOf a) (t.map vOf)) :
    Calls Tryd.prog 17 #[.slice A xs.length c] w fun e w' => ∃ v, e = .returned v ∧ Own w' w.heap.size v (a :: t) ∧ Gr w w' := by
  obtain ⟨i0, hi0, hz0, hz1, hz2⟩ := info_parts infoPt
  have HX := hide hx
  have HP := hide hp
  have HR := hide r
  clear hx hp r
  go_enter Tryd.func17, Tryd.ntmps17
  go_wp2
  go_loopw [3, 4] (fun f i wr => ∃ f' k : Nat, 1 ≤ k ∧ k ≤ xs.length ∧ f' < xs.length ∧ f = iv f' ∧ i = iv k ∧ Gr w wr ∧ Hid (LeI xs f' k)) (fun _ i _ => xs.length - (intOf i).toNat)
  case atStart =>
    refine ⟨0, 1, by omega, by omega, h0, rfl, rfl, Gr.refl _, xs[0], List.getElem?_eq_getElem h0, fun j z hj hz => ?_⟩
    obtain rfl : j = 0 := by omega
    have : z = xs[0] := by rw [List.getElem?_eq_getElem h0] at hz; exact (Option.some.inj hz).symm
    have := (cmpI_zero xs[0] z).2 this.symm
    omega
  case round =>
    obtain ⟨f, k, h1, hk, hf, rfl, rfl, g, HL⟩ := hrel
    by_cases hlt : k < xs.length
    · obtain ⟨x, hxk⟩ : ∃ x, xs[k]? = some x := ⟨_, List.getElem?_eq_getElem hlt⟩
      obtain ⟨y, hyk⟩ : ∃ y, xs[f]? = some y := ⟨_, List.getElem?_eq_getElem hf⟩
      obtain ⟨b, off, rfl, x0, x1, x2, x3⟩ := (HX.out.gr g) k x hxk
      obtain ⟨b', off', e', y0, y1, y2, y3⟩ := (HX.out.gr g) f y hyk
      cases e'
      have HPx := HP.out x (List.mem_of_getElem? hxk)
      have HPy := HP.out y (List.mem_of_getElem? hyk)
      by_cases hc : cmpI x y < 0
      · have HN := hide (HL.out.take hxk hyk hc)
        clear hxk hyk
        generalize hz : cmpI x y = z at *
        have HZ := hide hz
        clear hz
        go_wp2_with fail
        have GC := @GrW.cell
        refine wp_region_grw _ (by kernel_rfl) (by kernel_rfl) (Gr.refl _) ?_
        repeat (go_big_quiet_step ((first | (go_at_call 32; exact quiet_grw ((HZ.out ▸ rcompare_pts x y _ HPx HPy))))))
        refine wpQuiet_nil ?_
        intro wq hwq
        obtain ⟨gq, hwq'⟩ := hwq
        subst hwq'
        clear GC
        have gq1 := gq.gr
        generalize gq.w = wq at gq1 ⊢
        obtain ⟨Xq, Yq, cq, fq⟩ := gq1.use
        have sq := gq1.size
        (try simp only [World.size_alloc, World.size_setCell, World.heap_drewN] at sq)
        go_wp2
        go_roundw
        case rel => exact ⟨k, k + 1, by omega, by omega, hlt, rfl, by go_num, (by repeat (first | with_reducible exact Gr.refl _ | with_reducible assumption | with_reducible refine Gr.alloc ?_ _ | with_reducible refine Gr.drewN ?_ _ | with_reducible refine Gr.drew ?_ | with_reducible refine Gr.setCell ?_ (by first | (dsimp only; omega) | (simp only [World.size_alloc]; omega) | (with_reducible refine Gr.size ?_; (repeat (first | with_reducible exact Gr.refl _ | with_reducible assumption | with_reducible refine Gr.alloc ?_ _ | with_reducible refine Gr.drewN ?_ _ | with_reducible refine Gr.drew ?_ | with_reducible refine Gr.trans ?_ (by with_reducible assumption))); done)) _ | with_reducible refine Gr.trans ?_ (by with_reducible assumption))), HN⟩
        case measure => simp [intOf]; omega
      · have HN := hide (HL.out.keep hxk hyk hc)
        clear hxk hyk
        generalize hz : cmpI x y = z at *
        have HZ := hide hz
        clear hz
        go_wp2_with fail
        have GC := @GrW.cell
        refine wp_region_grw _ (by kernel_rfl) (by kernel_rfl) (Gr.refl _) ?_
        repeat (go_big_quiet_step ((first | (go_at_call 32; exact quiet_grw ((HZ.out ▸ rcompare_pts x y _ HPx HPy))))))
        refine wpQuiet_nil ?_
        intro wq hwq
        obtain ⟨gq, hwq'⟩ := hwq
        subst hwq'
        clear GC
        have gq1 := gq.gr
        generalize gq.w = wq at gq1 ⊢
        obtain ⟨Xq, Yq, cq, fq⟩ := gq1.use
        have sq := gq1.size
        (try simp only [World.size_alloc, World.size_setCell, World.heap_drewN] at sq)
        go_wp2
        go_roundw
        case rel => exact ⟨f, k + 1, by omega, by omega, hf, rfl, by go_num, (by repeat (first | with_reducible exact Gr.refl _ | with_reducible assumption | with_reducible refine Gr.alloc ?_ _ | with_reducible refine Gr.drewN ?_ _ | with_reducible refine Gr.drew ?_ | with_reducible refine Gr.setCell ?_ (by first | (dsimp only; omega) | (simp only [World.size_alloc]; omega) | (with_reducible refine Gr.size ?_; (repeat (first | with_reducible exact Gr.refl _ | with_reducible assumption | with_reducible refine Gr.alloc ?_ _ | with_reducible refine Gr.drewN ?_ _ | with_reducible refine Gr.drew ?_ | with_reducible refine Gr.trans ?_ (by with_reducible assumption))); done)) _ | with_reducible refine Gr.trans ?_ (by with_reducible assumption))), HN⟩
        case measure => simp [intOf]; omega
    · obtain rfl : k = xs.length := by omega
      have hfa := HL.out.first HR.out
      obtain ⟨b, off, rfl, x0, x1, x2, x3⟩ := (HX.out.gr g) f a hfa
      have HFA := hide hfa
      clear hfa
      obtain ⟨wA, rfl⟩ : ∃ wA, wA = wr := ⟨_, rfl⟩
      have hlen := HR.out.length
      simp only [List.length_map] at hlen
      have HO0 := hide (own_one wA wA.heap.size a (Nat.le_refl _))
      have ga : Gr w (wA.alloc (.cells #[iv a.1, iv a.2.1, iv a.2.2.1, iv a.2.2.2] 34)) := (by repeat (first | with_reducible exact Gr.refl _ | with_reducible assumption | with_reducible refine Gr.alloc ?_ _ | with_reducible refine Gr.drewN ?_ _ | with_reducible refine Gr.drew ?_ | with_reducible refine Gr.setCell ?_ (by first | (dsimp only; omega) | (simp only [World.size_alloc]; omega) | (with_reducible refine Gr.size ?_; (repeat (first | with_reducible exact Gr.refl _ | with_reducible assumption | with_reducible refine Gr.alloc ?_ _ | with_reducible refine Gr.drewN ?_ _ | with_reducible refine Gr.drew ?_ | with_reducible refine Gr.trans ?_ (by with_reducible assumption))); done)) _ | with_reducible refine Gr.trans ?_ (by with_reducible assumption)))
      have y0 : (wA.alloc (.cells #[iv a.1, iv a.2.1, iv a.2.2.1, iv a.2.2.2] 34)).cell? ⟨b, off + f * 4, none⟩ = some (iv a.1) := cell_keep_alloc x0 _
      go_wp2
      go_loopw [5, 6, 7] (fun out at_ n wq => ∃ m i : Nat, m < (a :: t).length ∧ i < xs.length ∧ n = iv m ∧ at_ = iv i ∧ Gr wA wq ∧ Hid (Own wq wA.heap.size out ((a :: t).take (m + 1))) ∧ Hid (xs[i]? = (a :: t)[m]?)) (fun _ _ n _ => xs.length - (intOf n).toNat)
      case atStart => exact ⟨0, f, by simp, hf, rfl, rfl, Gr.alloc (Gr.refl _) _, HO0.out, by unfold Hid; rw [HFA.out]; rfl⟩
      case round =>
        obtain ⟨m, i, hm, hi, rfl, rfl, gq, HOW, HXI⟩ := hrel
        obtain ⟨wq, rfl⟩ : ∃ wq, wq = wr := ⟨_, rfl⟩
        have gwq : Gr w wq := g.trans gq
        obtain ⟨p, hpm⟩ : ∃ p, (a :: t)[m]? = some p := ⟨_, List.getElem?_eq_getElem hm⟩
        have hpi : xs[i]? = some p := HXI.out.trans hpm
        have HPM := hide hpm
        have HPI := hide hpi
        have HPp := HP.out p (List.mem_of_getElem? hpi)
        have hml : m < xs.length := by simp at hm; omega
        have HIS := hide (InI.start hpi)
        clear hpm hpi HXI
        go_wp2
        go_loopw [8, 9] (fun nx j wz => ∃ n k : Nat, n < xs.length ∧ k ≤ xs.length ∧ nx = iv n ∧ j = iv k ∧ Gr wq wz ∧ Hid (InI xs p i n k)) (fun _ j _ => xs.length - (intOf j).toNat)
        case atStart => exact ⟨i, 0, hi, by omega, rfl, rfl, Gr.refl _, HIS.out⟩
        case round =>
          obtain ⟨n, k, hn, hk, rfl, rfl, gz, HI⟩ := hrel
          obtain ⟨wz, rfl⟩ : ∃ wz, wz = wr := ⟨_, rfl⟩
          have gwz : Gr w wz := gwq.trans gz
          by_cases hlt : k < xs.length
          · obtain ⟨x, hxk⟩ : ∃ x, xs[k]? = some x := ⟨_, List.getElem?_eq_getElem hlt⟩
            obtain ⟨y, hyn⟩ : ∃ y, xs[n]? = some y := ⟨_, List.getElem?_eq_getElem hn⟩
            have HPx := HP.out x (List.mem_of_getElem? hxk)
            have HPy := HP.out y (List.mem_of_getElem? hyn)
            obtain ⟨b1, off1, e1, u0, u1, u2, u3⟩ := (HX.out.gr gwz) k x hxk
            cases e1
            obtain ⟨b2, off2, e2, v0, v1, v2, v3⟩ := (HX.out.gr gwz) n y hyn
            cases e2
            obtain ⟨b3, off3, e3, w0, w1, w2, w3⟩ := (HX.out.gr gwz) i p HPI.out
            cases e3
            have HXK := hide hxk
            have HYN := hide hyn
            clear hxk hyn
            have hbl : b < wz.heap.size := cell_lt (by rw [u0]; rfl)
            have CC := hide (fun (q : Pt) (hq : PIn q) (w' : World) => rcompare_pts x q w' HPx hq)
            have DP : (x = p ∧ (cmpI x p != 0) = false) ∨ (x ≠ p ∧ (cmpI x p != 0) = true) := by
              rcases Classical.em (x = p) with h | h
              · exact .inl ⟨h, cmp_eq _ _ h⟩
              · exact .inr ⟨h, cmp_ne _ _ h⟩
            by_cases hni : n = i
            · subst hni
              obtain rfl : y = p := Option.some.inj (HYN.out.symm.trans HPI.out)
              rcases DP with ⟨hxp, dp⟩ | ⟨hxp, dp⟩
              · have ST := hide (HI.out.keep0 HXK.out hxp)
                clear HI hxp
                go_wp2_with fail
                have GC := @GrW.cell
                refine wp_region_grw _ (by kernel_rfl) (by kernel_rfl) (Gr.refl _) ?_
                repeat (go_big_quiet_step ((first | (go_at_call 32; exact quiet_grw (CC.out _ (by assumption) _)))))
                refine wpQuiet_nil ?_
                intro wq hwq
                obtain ⟨gq, hwq'⟩ := hwq
                subst hwq'
                clear GC
                have gq1 := gq.gr
                generalize gq.w = wq at gq1 ⊢
                obtain ⟨Xq, Yq, cq, fq⟩ := gq1.use
                have sq := gq1.size
                (try simp only [World.size_alloc, World.size_setCell, World.heap_drewN] at sq)
                go_wp2
                go_roundw
                case rel => exact ⟨n, k + 1, hn, by omega, rfl, by go_num, gz.trans gq1, ST.out⟩
                case measure => simp [intOf]; omega
              · have ST := hide (HI.out.take0 HXK.out hxp HPI.out)
                clear HI hxp
                go_wp2_with fail
                have GC := @GrW.cell
                refine wp_region_grw _ (by kernel_rfl) (by kernel_rfl) (Gr.refl _) ?_
                repeat (go_big_quiet_step ((first | (go_at_call 32; exact quiet_grw (CC.out _ (by assumption) _)))))
                refine wpQuiet_nil ?_
                intro wq hwq
                obtain ⟨gq, hwq'⟩ := hwq
                subst hwq'
                clear GC
                have gq1 := gq.gr
                generalize gq.w = wq at gq1 ⊢
                obtain ⟨Xq, Yq, cq, fq⟩ := gq1.use
                have sq := gq1.size
                (try simp only [World.size_alloc, World.size_setCell, World.heap_drewN] at sq)
                go_wp2
                go_roundw
                case rel => exact ⟨k, k + 1, hlt, by omega, rfl, by go_num, gz.trans gq1, ST.out⟩
                case measure => simp [intOf]; omega
            · have hb1 : ((n : Int) != (i : Int)) = true := by rw [bne_iff_ne]; omega
              have hb2 : ((n : Int) == (i : Int)) = false := by rw [beq_eq_false_iff_ne]; omega
              have HIK := hide (fun (h : ¬ Tk p y x) => HI.out.keep HXK.out HYN.out hni h)
              have HIT := hide (fun (h : Tk p y x) => HI.out.take HXK.out HYN.out HPI.out h)
              have DY : (x = y ∧ (cmpI x y != 0) = false) ∨ (x ≠ y ∧ (cmpI x y != 0) = true) := by
                rcases Classical.em (x = y) with h | h
                · exact .inl ⟨h, cmp_eq _ _ h⟩
                · exact .inr ⟨h, cmp_ne _ _ h⟩
              have CO := hide (fun (w' : World) => rorient_pts p y x w' HPp HPy HPx)
              have CB := hide (fun (w' : World) => between_pts p y x w' HPp HPy HPx)
              clear HI
              rcases Int.lt_trichotomy (orP p y x) 0 with hs | hs | hs
              · have ST := hide (HIT.out (.inl hs))
                have h0 : (orP p y x == 0) = false := by rw [beq_eq_false_iff_ne]; omega
                clear HIK HIT DP DY CB
                go_wp2_with fail
                have GC := @GrW.cell
                refine wp_region_grw _ (by kernel_rfl) (by kernel_rfl) (Gr.refl _) ?_
                repeat (go_big_quiet_step ((first | (go_at_call 33; exact quiet_grw (CO.out _)))))
                refine wpQuiet_nil ?_
                intro wq hwq
                obtain ⟨gq, hwq'⟩ := hwq
                subst hwq'
                clear GC
                have gq1 := gq.gr
                generalize gq.w = wq at gq1 ⊢
                obtain ⟨Xq, Yq, cq, fq⟩ := gq1.use
                have sq := gq1.size
                (try simp only [World.size_alloc, World.size_setCell, World.heap_drewN] at sq)
                go_wp2_with fail
                have GC := @GrW.cell
                refine wp_region_grw _ (by kernel_rfl) (by kernel_rfl) (Gr.refl _) ?_
                repeat (go_big_quiet_step ((first | (go_at_call 32; exact quiet_grw (CC.out _ (by assumption) _)) | (go_at_call 34; exact quiet_grw (CB.out _)))))
                refine wpQuiet_nil ?_
                intro wq hwq
                obtain ⟨gq, hwq'⟩ := hwq
                subst hwq'
                clear GC
                have gq1 := gq.gr
                generalize gq.w = wq at gq1 ⊢
                obtain ⟨Xq, Yq, cq, fq⟩ := gq1.use
                have sq := gq1.size
                (try simp only [World.size_alloc, World.size_setCell, World.heap_drewN] at sq)
                go_wp2
                go_roundw
                case rel => exact ⟨k, k + 1, hlt, by omega, rfl, by go_num, (by repeat (first | with_reducible exact Gr.refl _ | with_reducible assumption | with_reducible refine Gr.alloc ?_ _ | with_reducible refine Gr.drewN ?_ _ | with_reducible refine Gr.drew ?_ | with_reducible refine Gr.setCell ?_ (by first | (dsimp only; omega) | (simp only [World.size_alloc]; omega) | (with_reducible refine Gr.size ?_; (repeat (first | with_reducible exact Gr.refl _ | with_reducible assumption | with_reducible refine Gr.alloc ?_ _ | with_reducible refine Gr.drewN ?_ _ | with_reducible refine Gr.drew ?_ | with_reducible refine Gr.trans ?_ (by with_reducible assumption))); done)) _ | with_reducible refine Gr.trans ?_ (by with_reducible assumption))), ST.out⟩
                case measure => simp [intOf]; omega
              · have h0 : (orP p y x == 0) = true := by rw [beq_iff_eq]; exact hs
                have h1 : ¬ orP p y x < 0 := by omega
                cases hbt : btB p y x with
                | false =>
                  have ST := hide (HIK.out (by rintro (h | ⟨_, h, _⟩) <;> first | omega | (rw [hbt] at h; cases h)))
                  rw [hbt] at CB
                  clear HIK HIT DP DY hs hbt
                  go_wp2_with fail
                  have GC := @GrW.cell
                  refine wp_region_grw _ (by kernel_rfl) (by kernel_rfl) (Gr.refl _) ?_
                  repeat (go_big_quiet_step ((first | (go_at_call 33; exact quiet_grw (CO.out _)))))
                  refine wpQuiet_nil ?_
                  intro wq hwq
                  obtain ⟨gq, hwq'⟩ := hwq
                  subst hwq'
                  clear GC
                  have gq1 := gq.gr
                  generalize gq.w = wq at gq1 ⊢
                  obtain ⟨Xq, Yq, cq, fq⟩ := gq1.use
                  have sq := gq1.size
                  (try simp only [World.size_alloc, World.size_setCell, World.heap_drewN] at sq)
                  go_wp2_with fail
                  have GC := @GrW.cell
                  refine wp_region_grw _ (by kernel_rfl) (by kernel_rfl) (Gr.refl _) ?_
                  repeat (go_big_quiet_step ((first | (go_at_call 32; exact quiet_grw (CC.out _ (by assumption) _)) | (go_at_call 34; exact quiet_grw (CB.out _)))))
                  refine wpQuiet_nil ?_
                  intro wq hwq
                  obtain ⟨gq, hwq'⟩ := hwq
                  subst hwq'
                  clear GC
                  have gq1 := gq.gr
                  generalize gq.w = wq at gq1 ⊢
                  obtain ⟨Xq, Yq, cq, fq⟩ := gq1.use
                  have sq := gq1.size
                  (try simp only [World.size_alloc, World.size_setCell, World.heap_drewN] at sq)
                  go_wp2
                  go_roundw
                  case rel => exact ⟨n, k + 1, hn, by omega, rfl, by go_num, (by repeat (first | with_reducible exact Gr.refl _ | with_reducible assumption | with_reducible refine Gr.alloc ?_ _ | with_reducible refine Gr.drewN ?_ _ | with_reducible refine Gr.drew ?_ | with_reducible refine Gr.setCell ?_ (by first | (dsimp only; omega) | (simp only [World.size_alloc]; omega) | (with_reducible refine Gr.size ?_; (repeat (first | with_reducible exact Gr.refl _ | with_reducible assumption | with_reducible refine Gr.alloc ?_ _ | with_reducible refine Gr.drewN ?_ _ | with_reducible refine Gr.drew ?_ | with_reducible refine Gr.trans ?_ (by with_reducible assumption))); done)) _ | with_reducible refine Gr.trans ?_ (by with_reducible assumption))), ST.out⟩
                  case measure => simp [intOf]; omega
                | true =>
                  rw [hbt] at CB
                  rcases DY with ⟨hxy, dy⟩ | ⟨hxy, dy⟩
                  · have ST := hide (HIK.out (by rintro (h | ⟨_, _, h, _⟩) <;> first | omega | exact h hxy))
                    clear HIK HIT DP hs hbt hxy
                    go_wp2_with fail
                    have GC := @GrW.cell
                    refine wp_region_grw _ (by kernel_rfl) (by kernel_rfl) (Gr.refl _) ?_
                    repeat (go_big_quiet_step ((first | (go_at_call 33; exact quiet_grw (CO.out _)))))
                    refine wpQuiet_nil ?_
                    intro wq hwq
                    obtain ⟨gq, hwq'⟩ := hwq
                    subst hwq'
                    clear GC
                    have gq1 := gq.gr
                    generalize gq.w = wq at gq1 ⊢
                    obtain ⟨Xq, Yq, cq, fq⟩ := gq1.use
                    have sq := gq1.size
                    (try simp only [World.size_alloc, World.size_setCell, World.heap_drewN] at sq)
                    go_wp2_with fail
                    have GC := @GrW.cell
                    refine wp_region_grw _ (by kernel_rfl) (by kernel_rfl) (Gr.refl _) ?_
                    repeat (go_big_quiet_step ((first | (go_at_call 32; exact quiet_grw (CC.out _ (by assumption) _)) | (go_at_call 34; exact quiet_grw (CB.out _)))))
                    refine wpQuiet_nil ?_
                    intro wq hwq
                    obtain ⟨gq, hwq'⟩ := hwq
                    subst hwq'
                    clear GC
                    have gq1 := gq.gr
                    generalize gq.w = wq at gq1 ⊢
                    obtain ⟨Xq, Yq, cq, fq⟩ := gq1.use
                    have sq := gq1.size
                    (try simp only [World.size_alloc, World.size_setCell, World.heap_drewN] at sq)
                    go_wp2
                    go_roundw
                    case rel => exact ⟨n, k + 1, hn, by omega, rfl, by go_num, (by repeat (first | with_reducible exact Gr.refl _ | with_reducible assumption | with_reducible refine Gr.alloc ?_ _ | with_reducible refine Gr.drewN ?_ _ | with_reducible refine Gr.drew ?_ | with_reducible refine Gr.setCell ?_ (by first | (dsimp only; omega) | (simp only [World.size_alloc]; omega) | (with_reducible refine Gr.size ?_; (repeat (first | with_reducible exact Gr.refl _ | with_reducible assumption | with_reducible refine Gr.alloc ?_ _ | with_reducible refine Gr.drewN ?_ _ | with_reducible refine Gr.drew ?_ | with_reducible refine Gr.trans ?_ (by with_reducible assumption))); done)) _ | with_reducible refine Gr.trans ?_ (by with_reducible assumption))), ST.out⟩
                    case measure => simp [intOf]; omega
                  · rcases DP with ⟨hxp, dp⟩ | ⟨hxp, dp⟩
                    · have ST := hide (HIK.out (by rintro (h | ⟨_, _, _, h⟩) <;> first | omega | exact h hxp))
                      clear HIK HIT hs hbt hxy hxp
                      go_wp2_with fail
                      have GC := @GrW.cell
                      refine wp_region_grw _ (by kernel_rfl) (by kernel_rfl) (Gr.refl _) ?_
                      repeat (go_big_quiet_step ((first | (go_at_call 33; exact quiet_grw (CO.out _)))))
                      refine wpQuiet_nil ?_
                      intro wq hwq
                      obtain ⟨gq, hwq'⟩ := hwq
                      subst hwq'
                      clear GC
                      have gq1 := gq.gr
                      generalize gq.w = wq at gq1 ⊢
                      obtain ⟨Xq, Yq, cq, fq⟩ := gq1.use
                      have sq := gq1.size
                      (try simp only [World.size_alloc, World.size_setCell, World.heap_drewN] at sq)
                      go_wp2_with fail
                      have GC := @GrW.cell
                      refine wp_region_grw _ (by kernel_rfl) (by kernel_rfl) (Gr.refl _) ?_
                      repeat (go_big_quiet_step ((first | (go_at_call 32; exact quiet_grw (CC.out _ (by assumption) _)) | (go_at_call 34; exact quiet_grw (CB.out _)))))
                      refine wpQuiet_nil ?_
                      intro wq hwq
                      obtain ⟨gq, hwq'⟩ := hwq
                      subst hwq'
                      clear GC
                      have gq1 := gq.gr
                      generalize gq.w = wq at gq1 ⊢
                      obtain ⟨Xq, Yq, cq, fq⟩ := gq1.use
                      have sq := gq1.size
                      (try simp only [World.size_alloc, World.size_setCell, World.heap_drewN] at sq)
                      go_wp2
                      go_roundw
                      case rel => exact ⟨n, k + 1, hn, by omega, rfl, by go_num, (by repeat (first | with_reducible exact Gr.refl _ | with_reducible assumption | with_reducible refine Gr.alloc ?_ _ | with_reducible refine Gr.drewN ?_ _ | with_reducible refine Gr.drew ?_ | with_reducible refine Gr.setCell ?_ (by first | (dsimp only; omega) | (simp only [World.size_alloc]; omega) | (with_reducible refine Gr.size ?_; (repeat (first | with_reducible exact Gr.refl _ | with_reducible assumption | with_reducible refine Gr.alloc ?_ _ | with_reducible refine Gr.drewN ?_ _ | with_reducible refine Gr.drew ?_ | with_reducible refine Gr.trans ?_ (by with_reducible assumption))); done)) _ | with_reducible refine Gr.trans ?_ (by with_reducible assumption))), ST.out⟩
                      case measure => simp [intOf]; omega
                    · have ST := hide (HIT.out (.inr ⟨hs, hbt, hxy, hxp⟩))
                      clear HIK HIT hs hbt hxy hxp
                      go_wp2_with fail
                      have GC := @GrW.cell
                      refine wp_region_grw _ (by kernel_rfl) (by kernel_rfl) (Gr.refl _) ?_
                      repeat (go_big_quiet_step ((first | (go_at_call 33; exact quiet_grw (CO.out _)))))
                      refine wpQuiet_nil ?_
                      intro wq hwq
                      obtain ⟨gq, hwq'⟩ := hwq
                      subst hwq'
                      clear GC
                      have gq1 := gq.gr
                      generalize gq.w = wq at gq1 ⊢
                      obtain ⟨Xq, Yq, cq, fq⟩ := gq1.use
                      have sq := gq1.size
                      (try simp only [World.size_alloc, World.size_setCell, World.heap_drewN] at sq)
                      go_wp2_with fail
                      have GC := @GrW.cell
                      refine wp_region_grw _ (by kernel_rfl) (by kernel_rfl) (Gr.refl _) ?_
                      repeat (go_big_quiet_step ((first | (go_at_call 32; exact quiet_grw (CC.out _ (by assumption) _)) | (go_at_call 34; exact quiet_grw (CB.out _)))))
                      refine wpQuiet_nil ?_
                      intro wq hwq
                      obtain ⟨gq, hwq'⟩ := hwq
                      subst hwq'
                      clear GC
                      have gq1 := gq.gr
                      generalize gq.w = wq at gq1 ⊢
                      obtain ⟨Xq, Yq, cq, fq⟩ := gq1.use
                      have sq := gq1.size
                      (try simp only [World.size_alloc, World.size_setCell, World.heap_drewN] at sq)
                      go_wp2
                      go_roundw
                      case rel => exact ⟨k, k + 1, hlt, by omega, rfl, by go_num, (by repeat (first | with_reducible exact Gr.refl _ | with_reducible assumption | with_reducible refine Gr.alloc ?_ _ | with_reducible refine Gr.drewN ?_ _ | with_reducible refine Gr.drew ?_ | with_reducible refine Gr.setCell ?_ (by first | (dsimp only; omega) | (simp only [World.size_alloc]; omega) | (with_reducible refine Gr.size ?_; (repeat (first | with_reducible exact Gr.refl _ | with_reducible assumption | with_reducible refine Gr.alloc ?_ _ | with_reducible refine Gr.drewN ?_ _ | with_reducible refine Gr.drew ?_ | with_reducible refine Gr.trans ?_ (by with_reducible assumption))); done)) _ | with_reducible refine Gr.trans ?_ (by with_reducible assumption))), ST.out⟩
                      case measure => simp [intOf]; omega
              · have ST := hide (HIK.out (by rintro (h | ⟨h, _⟩) <;> omega))
                have h0 : (orP p y x == 0) = false := by rw [beq_eq_false_iff_ne]; omega
                have h1 : ¬ orP p y x < 0 := by omega
                clear HIK HIT DP DY CB hs
                go_wp2_with fail
                have GC := @GrW.cell
                refine wp_region_grw _ (by kernel_rfl) (by kernel_rfl) (Gr.refl _) ?_
                repeat (go_big_quiet_step ((first | (go_at_call 33; exact quiet_grw (CO.out _)))))
                refine wpQuiet_nil ?_
                intro wq hwq
                obtain ⟨gq, hwq'⟩ := hwq
                subst hwq'
                clear GC
                have gq1 := gq.gr
                generalize gq.w = wq at gq1 ⊢
                obtain ⟨Xq, Yq, cq, fq⟩ := gq1.use
                have sq := gq1.size
                (try simp only [World.size_alloc, World.size_setCell, World.heap_drewN] at sq)
                go_wp2_with fail
                have GC := @GrW.cell
                refine wp_region_grw _ (by kernel_rfl) (by kernel_rfl) (Gr.refl _) ?_
                repeat (go_big_quiet_step ((first | (go_at_call 32; exact quiet_grw (CC.out _ (by assumption) _)) | (go_at_call 34; exact quiet_grw (CB.out _)))))
                refine wpQuiet_nil ?_
                intro wq hwq
                obtain ⟨gq, hwq'⟩ := hwq
                subst hwq'
                clear GC
                have gq1 := gq.gr
                generalize gq.w = wq at gq1 ⊢
                obtain ⟨Xq, Yq, cq, fq⟩ := gq1.use
                have sq := gq1.size
                (try simp only [World.size_alloc, World.size_setCell, World.heap_drewN] at sq)
                go_wp2
                go_roundw
                case rel => exact ⟨n, k + 1, hn, by omega, rfl, by go_num, (by repeat (first | with_reducible exact Gr.refl _ | with_reducible assumption | with_reducible refine Gr.alloc ?_ _ | with_reducible refine Gr.drewN ?_ _ | with_reducible refine Gr.drew ?_ | with_reducible refine Gr.setCell ?_ (by first | (dsimp only; omega) | (simp only [World.size_alloc]; omega) | (with_reducible refine Gr.size ?_; (repeat (first | with_reducible exact Gr.refl _ | with_reducible assumption | with_reducible refine Gr.alloc ?_ _ | with_reducible refine Gr.drewN ?_ _ | with_reducible refine Gr.drew ?_ | with_reducible refine Gr.trans ?_ (by with_reducible assumption))); done)) _ | with_reducible refine Gr.trans ?_ (by with_reducible assumption))), ST.out⟩
                case measure => simp [intOf]; omega
          · obtain rfl : k = xs.length := by omega
            obtain ⟨y, hyn⟩ : ∃ y, xs[n]? = some y := ⟨_, List.getElem?_eq_getElem hn⟩
            obtain ⟨b2, off2, e2, v0, v1, v2, v3⟩ := (HX.out.gr gwz) n y hyn
            cases e2
            obtain ⟨b3, off3, e3, w0, w1, w2, w3⟩ := (HX.out.gr gwz) f a HFA.out
            cases e3
            have hbl : b < wz.heap.size := cell_lt (by rw [v0]; rfl)
            have HPy := HP.out y (List.mem_of_getElem? hyn)
            have HPa := HP.out a (List.mem_of_getElem? HFA.out)
            have CA' := hide (fun (w' : World) => rcompare_pts y a w' HPy HPa)
            by_cases ht : t = []
            · subst ht
              have hall : ∀ x ∈ xs, x = a := fun x hx => by
                rcases HR.out.2.2.2.2 with ⟨_, h⟩ | ⟨h, _⟩
                · exact vOf_inj (h _ (List.mem_map_of_mem hx))
                · exact absurd rfl h
              have hm0 : m = 0 := by simp at hm; omega
              subst hm0
              have hpa : p = a := by have := HPM.out; simp at this; exact this.symm
              have hni : n = i := HI.out.alone (fun x hx => (hall x hx).trans hpa.symm)
              subst hni
              have HOW2 := hide (show Own wz wA.heap.size u5 [a] by have := HOW.out.gr gz; simpa using this)
              clear HI hall hyn HPM HPI hpa
              go_wp2_with fail
              have GC := @GrW.cell
              refine wp_region_grw _ (by kernel_rfl) (by kernel_rfl) (Gr.refl _) ?_
              repeat (go_big_quiet_step ((first | (go_at_call 32; exact quiet_grw (CA'.out _)))))
              refine wpQuiet_nil ?_
              intro wq hwq
              obtain ⟨gq, hwq'⟩ := hwq
              subst hwq'
              clear GC
              have gq1 := gq.gr
              generalize gq.w = wq at gq1 ⊢
              obtain ⟨Xq, Yq, cq, fq⟩ := gq1.use
              have sq := gq1.size
              (try simp only [World.size_alloc, World.size_setCell, World.heap_drewN] at sq)
              go_wp2
              go_ret
              exact ⟨_, rfl, own_weak (HOW2.out.gr gq1) g.size, (by repeat (first | with_reducible exact Gr.refl _ | with_reducible assumption | with_reducible refine Gr.alloc ?_ _ | with_reducible refine Gr.drewN ?_ _ | with_reducible refine Gr.drew ?_ | with_reducible refine Gr.setCell ?_ (by first | (dsimp only; omega) | (simp only [World.size_alloc]; omega) | (with_reducible refine Gr.size ?_; (repeat (first | with_reducible exact Gr.refl _ | with_reducible assumption | with_reducible refine Gr.alloc ?_ _ | with_reducible refine Gr.drewN ?_ _ | with_reducible refine Gr.drew ?_ | with_reducible refine Gr.trans ?_ (by with_reducible assumption))); done)) _ | with_reducible refine Gr.trans ?_ (by with_reducible assumption)))⟩
            · obtain ⟨q, hq⟩ : ∃ q, (a :: t)[(m + 1) % (a :: t).length]? = some q := ⟨_, List.getElem?_eq_getElem (Nat.mod_lt _ (by simp))⟩
              have hE := next_E HR.out (x := vOf p) (y := vOf q) (i := m) (by simpa using ht) (by rw [← List.map_cons, List.getElem?_map, HPM.out]; rfl) (by rw [← List.map_cons, List.getElem?_map, List.length_map, hq]; rfl)
              have hyq : y = q := Option.some.inj (hyn.symm.trans (HI.out.found hE))
              subst hyq
              have hyp : y ≠ p := fun e => hE.2.1 (by rw [e])
              have hni : n ≠ i := fun e => hyp (by rw [e, HPI.out] at hyn; exact (Option.some.inj hyn).symm)
              have hb2 : ((n : Int) == (i : Int)) = false := by rw [beq_eq_false_iff_ne]; omega
              by_cases hlast : m + 1 = (a :: t).length
              · rw [hlast, Nat.mod_self] at hq
                have hya : y = a := by simp at hq; exact hq.symm
                have hc : (cmpI y a == 0) = true := by rw [beq_iff_eq]; exact (cmpI_zero y a).2 hya
                have HOW2 := hide (show Own wz wA.heap.size u5 (a :: t) by have := HOW.out.gr gz; rwa [hlast, List.take_length] at this)
                clear HI hE hyn hq hya hyp hni
                go_wp2_with fail
                have GC := @GrW.cell
                refine wp_region_grw _ (by kernel_rfl) (by kernel_rfl) (Gr.refl _) ?_
                repeat (go_big_quiet_step ((first | (go_at_call 32; exact quiet_grw (CA'.out _)))))
                refine wpQuiet_nil ?_
                intro wq hwq
                obtain ⟨gq, hwq'⟩ := hwq
                subst hwq'
                clear GC
                have gq1 := gq.gr
                generalize gq.w = wq at gq1 ⊢
                obtain ⟨Xq, Yq, cq, fq⟩ := gq1.use
                have sq := gq1.size
                (try simp only [World.size_alloc, World.size_setCell, World.heap_drewN] at sq)
                go_wp2
                go_ret
                exact ⟨_, rfl, own_weak (HOW2.out.gr gq1) g.size, (by repeat (first | with_reducible exact Gr.refl _ | with_reducible assumption | with_reducible refine Gr.alloc ?_ _ | with_reducible refine Gr.drewN ?_ _ | with_reducible refine Gr.drew ?_ | with_reducible refine Gr.setCell ?_ (by first | (dsimp only; omega) | (simp only [World.size_alloc]; omega) | (with_reducible refine Gr.size ?_; (repeat (first | with_reducible exact Gr.refl _ | with_reducible assumption | with_reducible refine Gr.alloc ?_ _ | with_reducible refine Gr.drewN ?_ _ | with_reducible refine Gr.drew ?_ | with_reducible refine Gr.trans ?_ (by with_reducible assumption))); done)) _ | with_reducible refine Gr.trans ?_ (by with_reducible assumption)))⟩
              · have hm1 : m + 1 < (a :: t).length := by omega
                rw [Nat.mod_eq_of_lt hm1] at hq
                have hya : y ≠ a := fun e => by
                  have h1 : y ∈ t := by
                    have : t[m]? = some y := by simpa using hq
                    exact List.mem_of_getElem? this
                  exact HR.out.2.2.1 (by rw [← e]; exact List.mem_map_of_mem h1)
                have hc : (cmpI y a == 0) = false := by rw [beq_eq_false_iff_ne]; exact fun e => hya ((cmpI_zero y a).1 e)
                have hl1 : ((a :: t).take (m + 1)).length = m + 1 := by rw [List.length_take]; omega
                have HT := hide (show (a :: t).take (m + 1 + 1) = (a :: t).take (m + 1) ++ [y] by rw [List.take_add_one, hq]; rfl)
                have HXN := hide (show xs[n]? = (a :: t)[m + 1]? from hyn.trans hq.symm)
                obtain ⟨A1, d1, hv⟩ := HOW.out.slice
                rw [hl1] at hv
                subst hv
                have HOW2 := hide (show wz.ownsRow wA.heap.size 34 4 (.slice A1 (m + 1) d1) (m + 1) (flat ((a :: t).take (m + 1))) by
                  have := HOW.out.gr gz
                  unfold Own at this
                  rwa [hl1] at this)
                have HL1 := hide hl1
                have gqz := gq.trans gz
                clear HI hE hyn hq hya hyp hni HOW hl1
                go_wp2_with fail
                have GC := @GrW.cell
                refine wp_region_grw _ (by kernel_rfl) (by kernel_rfl) (Gr.refl _) ?_
                repeat (go_big_quiet_step ((first | (go_at_call 32; exact quiet_grw (CA'.out _)))))
                refine wpQuiet_nil ?_
                intro wq hwq
                obtain ⟨gq, hwq'⟩ := hwq
                subst hwq'
                clear GC
                have gq1 := gq.gr
                generalize gq.w = wq at gq1 ⊢
                obtain ⟨Xq, Yq, cq, fq⟩ := gq1.use
                have sq := gq1.size
                (try simp only [World.size_alloc, World.size_setCell, World.heap_drewN] at sq)
                have HO3 := hide (show wq.ownsRow wA.heap.size 34 4 (.slice A1 (m + 1) d1) (m + 1) (flat ((a :: t).take (m + 1))) from Own.gr (v := .slice A1 (m + 1) d1) (xs := (a :: t).take (m + 1)) (by unfold Own; rw [HL1.out]; exact HOW2.out) gq1 |> fun h => by unfold Own at h; rwa [HL1.out] at h)
                have C1 := hide (cells_new4 wq y)
                have C2 : Hid (∀ u ∈ cellsOfPt y, u.oneCell' = true) := by intro u hu; simp at hu; rcases hu with rfl | rfl | rfl | rfl <;> rfl
                have C3 : Hid (m + 1 + 1 ≤ maxLen) := by unfold Hid maxLen; omega
                have C4 : Hid ((m + 1 + 1) * 32 ≤ 140737488355328) := by unfold Hid; omega
                have C5 : Hid (wA.heap.size ≤ (wq.alloc (.cells #[iv y.1, iv y.2.1, iv y.2.2.1, iv y.2.2.2] 34)).heap.size) := by unfold Hid; have := gq1.size; have := gqz.size; simp; omega
                go_wp2_with (at_builtin; refine wpList_append_own _ rfl _ _ 29 rfl wA.heap.size 34 i0 _ 4 32 Tryd.underlying29 hi0 hz0 hz1 hz2 rfl (by decide) _ _ _ rfl (HO3.out.alloc _) ⟨wq.heap.size, 0, none⟩ 1 1 (cellsOfPt y) rfl rfl C1.out C2.out C3.out C4.out C5.out ?_; intro v9 w9 hown9 hg9 hn9)
                go_roundw
                case rel =>
                  refine ⟨m + 1, n, hm1, hn, by go_num, rfl, ((gqz.trans gq1).alloc _).grown hg9 (fun j hj => (HO3.out.lt j hj).1), ?_, HXN⟩
                  unfold Own Hid
                  rw [HT.out, flat_snoc, List.length_append, HL1.out]
                  exact hown9
                case measure => simp [intOf]; omega
end Go.Proofs.YtloefohekhkehaaDoor
