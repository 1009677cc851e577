/-
  Parts: the error of a flange, in the reference.
-/
import Derived.Test.YtefjgfglommefaaMV
set_option linter.unusedVariables false
set_option linter.unusedSimpArgs false
namespace Go.Proofs.Ytefjgfglommefaa
set_option linter.unusedVariables false
set_option linter.unusedSimpArgs false
open Go Go.ChangeShapes Go.WideShapes Go.ChangeAt Go.RowKit Go.Deep

theorem good_iff {f : Fl} {k : Nat} : (wiB f.pa 0 k && sidB f && angB f.an && lenB f.wd && lenB f.ln) = true ↔ (wiB f.pa 0 k = true ∧ wiB f.sd 0 3 = true ∧ (f.sd = 1 → f.pa = 0) ∧ (f.an = 90 ∨ f.an = -90 ∨ f.an = 180 ∨ f.an = -180) ∧ wiB f.wd 1 150 = true ∧ wiB f.ln 1 150 = true) := by
  unfold sidB angB lenB
  simp only [Bool.and_eq_true, Bool.or_eq_true, Bool.not_eq_true', decide_eq_true_eq, decide_eq_false_iff_not]
  grind
set_option maxRecDepth 100000 in
set_option maxHeartbeats 4000000 in
theorem flangeError_any (p : Pa) (A B : Option Addr) (c d k : Nat) (f : Fl) (w : World) (hF : SlF w A c p.fl) (hf : p.fl[k]? = some f) (ok : FlOk p k) :
    Calls Try.prog 72 #[pav p A c B d, iv k] w fun e w' => e = .returned (iv (flE p k f)) ∧ Gr w w' := by
  have hlen := hF.len
  have hkl : k < p.fl.length := (List.getElem?_eq_some_iff.1 hf).1
  have hfn : f.nm.size ≤ 1000 := hF.nm f (List.mem_of_getElem? hf)
  obtain ⟨b, off, hA, x0, x1, x2, x3, x4, x5, x6⟩ := hF.rd.fl hf
  subst hA
  have hb : b < w.heap.size := cell_lt (by rw [x0]; rfl)
  have HF := hide hF
  have HL := hide hf
  have HOK := hide ok
  clear hF ok
  cases hn : nameB f.nm.toList with
  | false =>
    have HE := hide (show flE p k f = 2 by unfold flE; rw [hn]; rfl)
    go_enter Try.func72, Try.ntmps72
    go_wp2_with (go_at_call 45; refine (rvalidName_any _ _ (by omega)).mono ?_; rintro e w1 ⟨rfl, rfl⟩)
    go_ret
    exact ⟨ret_iv HE.out.symm, (by repeat (first | with_reducible exact Gr.refl _ | with_reducible assumption | with_reducible refine Gr.alloc ?_ _ | with_reducible refine Gr.drewN ?_ _ | with_reducible refine Gr.drew ?_ | with_reducible refine Gr.setCell ?_ (by first | (dsimp only; omega) | (simp only [World.size_alloc]; omega) | (with_reducible refine Gr.size ?_; (repeat (first | with_reducible exact Gr.refl _ | with_reducible assumption | with_reducible refine Gr.alloc ?_ _ | with_reducible refine Gr.drewN ?_ _ | with_reducible refine Gr.drew ?_ | with_reducible refine Gr.trans ?_ (by with_reducible assumption))); done)) _ | with_reducible refine Gr.trans ?_ (by with_reducible assumption)))⟩
  | true =>
    go_enter Try.func72, Try.ntmps72
    go_upto_region 4 with (go_at_call 45; refine (rvalidName_any _ _ (by omega)).mono ?_; rintro e w1 ⟨rfl, rfl⟩)
    go_wp2
    go_loopw [6] (fun j wr => ∃ j' : Nat, j' ≤ k ∧ j = iv j' ∧ Gr ((w.alloc (.cells #[.string p.nm, .string p.mt, iv p.ga, iv p.gr, iv p.wd, iv p.ht, .slice (some ⟨b, off, none⟩) p.fl.length c, .slice B p.ho.length d] 25)).alloc (.cells #[.string f.nm, iv f.pa, iv f.sd, iv f.o, iv f.wd, iv f.ln, iv f.an] 27)) wr ∧ Hid (dupB p.fl j' f.nm = false)) (fun j _ => k - (intOf j).toNat)
    case atStart => exact ⟨0, by omega, rfl, (by repeat (first | with_reducible exact Gr.refl _ | with_reducible assumption | with_reducible refine Gr.alloc ?_ _ | with_reducible refine Gr.drewN ?_ _ | with_reducible refine Gr.drew ?_ | with_reducible refine Gr.setCell ?_ (by first | (dsimp only; omega) | (simp only [World.size_alloc]; omega) | (with_reducible refine Gr.size ?_; (repeat (first | with_reducible exact Gr.refl _ | with_reducible assumption | with_reducible refine Gr.alloc ?_ _ | with_reducible refine Gr.drewN ?_ _ | with_reducible refine Gr.drew ?_ | with_reducible refine Gr.trans ?_ (by with_reducible assumption))); done)) _ | with_reducible refine Gr.trans ?_ (by with_reducible assumption))), by unfold Hid dupB; simp⟩
    case round =>
      obtain ⟨j, hj, rfl, g, HD⟩ := hrel
      have gW : Gr w wr := (by repeat (first | with_reducible exact Gr.refl _ | with_reducible assumption | with_reducible refine Gr.alloc ?_ _ | with_reducible refine Gr.drewN ?_ _ | with_reducible refine Gr.drew ?_ | with_reducible refine Gr.setCell ?_ (by first | (dsimp only; omega) | (simp only [World.size_alloc]; omega) | (with_reducible refine Gr.size ?_; (repeat (first | with_reducible exact Gr.refl _ | with_reducible assumption | with_reducible refine Gr.alloc ?_ _ | with_reducible refine Gr.drewN ?_ _ | with_reducible refine Gr.drew ?_ | with_reducible refine Gr.trans ?_ (by with_reducible assumption))); done)) _ | with_reducible refine Gr.trans ?_ (by with_reducible assumption)))
      obtain ⟨Xr, Yr, cr, fr⟩ := g.use
      have zr := g.size
      simp only [World.size_alloc] at zr
      have l0 : w.heap.size < wr.heap.size := by omega
      have l1 : w.heap.size + 1 < wr.heap.size := by omega
      have hbr : b < wr.heap.size := by omega
      by_cases hjk : j < k
      · obtain ⟨h, hh⟩ : ∃ h, p.fl[j]? = some h := ⟨_, List.getElem?_eq_getElem (by omega)⟩
        obtain ⟨b', off', hA', y0, y1, y2, y3, y4, y5, y6⟩ := HF.out.rd.fl hh
        obtain ⟨rfl, rfl⟩ : b = b' ∧ off = off' := by simpa using hA'
        clear hA'
        have hi0 : (0 : Int) ≤ (j : Int) := by omega
        have hi1 : (j : Int) < (p.fl.length : Int) := by omega
        cases hg : (h.nm.toList == f.nm.toList) with
        | true =>
          have HE := hide (show flE p k f = 2 by unfold flE; rw [hn, dup_yes hh hjk hg]; rfl)
          go_upto_region 7 with fail
          have GC := @GrW.cell
          refine wp_region_grw _ (by kernel_rfl) (by kernel_rfl) (Gr.refl _) ?_
          repeat (go_big_quiet_step ((first | fail)))
          refine wpQuiet_nil ?_
          intro wq hwq
          obtain ⟨gq, hwq'⟩ := hwq
          subst hwq'
          clear GC
          have gq1 := gq.gr
          generalize gq.w = wq at gq1 ⊢
          obtain ⟨Xq, Yq, cq, fq⟩ := gq1.use
          have sq := gq1.size
          (try simp only [World.size_alloc, World.size_setCell, World.heap_drewN] at sq)
          go_wp2
          go_ret
          exact ⟨ret_iv HE.out.symm, (by repeat (first | with_reducible exact Gr.refl _ | with_reducible assumption | with_reducible refine Gr.alloc ?_ _ | with_reducible refine Gr.drewN ?_ _ | with_reducible refine Gr.drew ?_ | with_reducible refine Gr.setCell ?_ (by first | (dsimp only; omega) | (simp only [World.size_alloc]; omega) | (with_reducible refine Gr.size ?_; (repeat (first | with_reducible exact Gr.refl _ | with_reducible assumption | with_reducible refine Gr.alloc ?_ _ | with_reducible refine Gr.drewN ?_ _ | with_reducible refine Gr.drew ?_ | with_reducible refine Gr.trans ?_ (by with_reducible assumption))); done)) _ | with_reducible refine Gr.trans ?_ (by with_reducible assumption)))⟩
        | false =>
          have HD' := hide (dup_step hh HD.out hg)
          go_upto_region 7 with fail
          have GC := @GrW.cell
          refine wp_region_grw _ (by kernel_rfl) (by kernel_rfl) (Gr.refl _) ?_
          repeat (go_big_quiet_step ((first | fail)))
          refine wpQuiet_nil ?_
          intro wq hwq
          obtain ⟨gq, hwq'⟩ := hwq
          subst hwq'
          clear GC
          have gq1 := gq.gr
          generalize gq.w = wq at gq1 ⊢
          obtain ⟨Xq, Yq, cq, fq⟩ := gq1.use
          have sq := gq1.size
          (try simp only [World.size_alloc, World.size_setCell, World.heap_drewN] at sq)
          go_wp2
          go_roundw
          case rel => exact ⟨j + 1, by omega, by go_num, (by repeat (first | with_reducible exact Gr.refl _ | with_reducible assumption | with_reducible refine Gr.alloc ?_ _ | with_reducible refine Gr.drewN ?_ _ | with_reducible refine Gr.drew ?_ | with_reducible refine Gr.setCell ?_ (by first | (dsimp only; omega) | (simp only [World.size_alloc]; omega) | (with_reducible refine Gr.size ?_; (repeat (first | with_reducible exact Gr.refl _ | with_reducible assumption | with_reducible refine Gr.alloc ?_ _ | with_reducible refine Gr.drewN ?_ _ | with_reducible refine Gr.drew ?_ | with_reducible refine Gr.trans ?_ (by with_reducible assumption))); done)) _ | with_reducible refine Gr.trans ?_ (by with_reducible assumption))), HD'⟩
          case measure => simp only [intOf]; omega
      · obtain rfl : j = k := by omega
        have HE := hide (show flE p j f = if !(wiB f.pa 0 j && sidB f && angB f.an && lenB f.wd && lenB f.ln) then 1 else if !wiB f.o 0 (sidL p f.pa f.sd - f.wd) then 1 else 0 by
          unfold flE; rw [hn, HD.out]; rfl)
        clear HD
        cases hT : (wiB f.pa 0 j && sidB f && angB f.an && lenB f.wd && lenB f.ln) with
        | false =>
          have HE2 := hide (show flE p j f = 1 by rw [HE.out, hT]; rfl)
          have HT := hide (fun h => Bool.noConfusion (hT.symm.trans ((good_iff (f := f) (k := j)).2 h)) : ¬ (wiB f.pa 0 j = true ∧ wiB f.sd 0 3 = true ∧ (f.sd = 1 → f.pa = 0) ∧ (f.an = 90 ∨ f.an = -90 ∨ f.an = 180 ∨ f.an = -180) ∧ wiB f.wd 1 150 = true ∧ wiB f.ln 1 150 = true))
          clear HE hT x0 x1 x2 x3 x4 x5 x6
          go_wp2_with (first | (go_at_call 18; refine (rwithin_any _ _ _ _).mono ?_; rintro e w1 ⟨rfl, rfl⟩))
          all_goals first
            | (go_ret
               exact ⟨ret_iv HE2.out.symm, (by repeat (first | with_reducible exact Gr.refl _ | with_reducible assumption | with_reducible refine Gr.alloc ?_ _ | with_reducible refine Gr.drewN ?_ _ | with_reducible refine Gr.drew ?_ | with_reducible refine Gr.setCell ?_ (by first | (dsimp only; omega) | (simp only [World.size_alloc]; omega) | (with_reducible refine Gr.size ?_; (repeat (first | with_reducible exact Gr.refl _ | with_reducible assumption | with_reducible refine Gr.alloc ?_ _ | with_reducible refine Gr.drewN ?_ _ | with_reducible refine Gr.drew ?_ | with_reducible refine Gr.trans ?_ (by with_reducible assumption))); done)) _ | with_reducible refine Gr.trans ?_ (by with_reducible assumption)))⟩)
            | (exfalso
               refine HT.out ⟨by assumption, by assumption, ?_, ?_, by assumption, by assumption⟩
               · try simp only [bne_iff_ne, ne_eq, bne_eq_false_iff_eq, beq_iff_eq, beq_eq_false_iff_ne] at *
                 omega
               · try simp only [bne_iff_ne, ne_eq, bne_eq_false_iff_eq, beq_iff_eq, beq_eq_false_iff_ne] at *
                 omega)
        | true =>
          have HE2 := hide (show flE p j f = if !wiB f.o 0 (sidL p f.pa f.sd - f.wd) then 1 else 0 by rw [HE.out, hT]; rfl)
          clear HE
          simp only [Bool.and_eq_true] at hT
          obtain ⟨⟨⟨⟨t1, t2⟩, t3⟩, t4⟩, t5⟩ := hT
          obtain ⟨u1, u2⟩ := wiB_iff.1 t1
          have HS := hide (fun (g : GrW wr) => side_any p (some ⟨b, off, none⟩) B c d f.pa f.sd g.w (HF.out.gr (gW.trans g.gr)) u1 (by omega))
          have hsd := sid_le HOK.out u1 u2 (by omega) (s := f.sd)
          obtain ⟨v1, v2⟩ := wiB_iff.1 (show wiB f.wd 1 150 = true from t4)
          have t4' : wiB f.wd 1 150 = true := t4
          have t5' : wiB f.ln 1 150 = true := t5
          obtain ⟨s1, s2⟩ := (show wiB f.sd 0 3 = true ∧ (!decide (f.sd = 1) || decide (f.pa = 0)) = true by simpa [sidB] using t2)
          have s3 : f.sd = 1 → f.pa = 0 := by intro h; simpa [h] using s2
          have a1 : f.an = 90 ∨ f.an = -90 ∨ f.an = 180 ∨ f.an = -180 := by simpa [angB, or_assoc] using t3
          generalize sidL p f.pa f.sd = S at *
          clear t2 t3 t4 t5 s2 x0 x1 x2 x3 x4 x5 x6
          cases hO : wiB f.o 0 150 with
          | false =>
            have HE3 := hide (show flE p j f = 1 by
              rw [HE2.out, show wiB f.o 0 (S - f.wd) = false by
                rw [← Bool.not_eq_true, wiB_iff]; rw [← Bool.not_eq_true, wiB_iff] at hO; omega]
              rfl)
            clear HE2
            go_wp2_with (first | (go_at_call 18; refine (rwithin_any _ _ _ _).mono ?_; rintro e w1 ⟨rfl, rfl⟩))
            all_goals first
              | (go_ret
                 exact ⟨ret_iv HE3.out.symm, (by repeat (first | with_reducible exact Gr.refl _ | with_reducible assumption | with_reducible refine Gr.alloc ?_ _ | with_reducible refine Gr.drewN ?_ _ | with_reducible refine Gr.drew ?_ | with_reducible refine Gr.setCell ?_ (by first | (dsimp only; omega) | (simp only [World.size_alloc]; omega) | (with_reducible refine Gr.size ?_; (repeat (first | with_reducible exact Gr.refl _ | with_reducible assumption | with_reducible refine Gr.alloc ?_ _ | with_reducible refine Gr.drewN ?_ _ | with_reducible refine Gr.drew ?_ | with_reducible refine Gr.trans ?_ (by with_reducible assumption))); done)) _ | with_reducible refine Gr.trans ?_ (by with_reducible assumption)))⟩)
              | (exfalso
                 try simp only [bne_iff_ne, ne_eq, bne_eq_false_iff_eq, beq_iff_eq, beq_eq_false_iff_ne] at *
                 omega)
          | true =>
            obtain ⟨o1, o2⟩ := wiB_iff.1 hO
            have W1 : IntKind.i64.wrap (f.o + f.wd) = f.o + f.wd := IntWalk.i64_in _ (by omega)
            have HE3 := hide (show flE p j f = if S < f.o + f.wd then 1 else 0 by
              rw [HE2.out]
              by_cases h : S < f.o + f.wd
              · rw [if_pos h, show wiB f.o 0 (S - f.wd) = false by rw [← Bool.not_eq_true, wiB_iff]; omega]; rfl
              · rw [if_neg h, show wiB f.o 0 (S - f.wd) = true by rw [wiB_iff]; omega]; rfl)
            clear HE2
            have b1 : (f.sd == 1) = false ∨ ((f.sd == 1) = true ∧ (f.pa != 0) = false) := by
              by_cases h : f.sd = 1
              · exact .inr ⟨by simpa using h, by simpa using s3 h⟩
              · exact .inl (by simpa using h)
            have b2 : (f.an != 90) = false ∨ ((f.an != 90) = true ∧ (f.an != -90) = false) ∨ ((f.an != 90) = true ∧ (f.an != -90) = true ∧ (f.an != 180) = false) ∨ ((f.an != 90) = true ∧ (f.an != -90) = true ∧ (f.an != 180) = true ∧ (f.an != -180) = false) := by
              rcases a1 with h | h | h | h <;> simp [h]
            clear s3 a1 v1 v2 o1 o2 hsd
            rcases b1 with c1 | ⟨c1, c2⟩ <;> rcases b2 with d1 | ⟨d1, d2⟩ | ⟨d1, d2, d3⟩ | ⟨d1, d2, d3, d4⟩
            all_goals
              go_upto_region 15 with (first | (go_at_call 18; refine (rwithin_any _ _ _ _).mono ?_; rintro e w1 ⟨rfl, rfl⟩))
              have GC := @GrW.cell
              refine wp_region_grw _ (by kernel_rfl) (by kernel_rfl) (Gr.refl _) ?_
              repeat (go_big_quiet_step ((first | (go_at_call 96; exact quiet_grw (HS.out _)))))
              refine wpQuiet_nil ?_
              intro wq hwq
              obtain ⟨gq, hwq'⟩ := hwq
              subst hwq'
              clear GC
              have gq1 := gq.gr
              generalize gq.w = wq at gq1 ⊢
              obtain ⟨Xq, Yq, cq, fq⟩ := gq1.use
              have sq := gq1.size
              (try simp only [World.size_alloc, World.size_setCell, World.heap_drewN] at sq)
              go_wp2
              all_goals
                go_ret
                exact ⟨ret_iv (by rw [HE3.out]; split <;> omega), (by repeat (first | with_reducible exact Gr.refl _ | with_reducible assumption | with_reducible refine Gr.alloc ?_ _ | with_reducible refine Gr.drewN ?_ _ | with_reducible refine Gr.drew ?_ | with_reducible refine Gr.setCell ?_ (by first | (dsimp only; omega) | (simp only [World.size_alloc]; omega) | (with_reducible refine Gr.size ?_; (repeat (first | with_reducible exact Gr.refl _ | with_reducible assumption | with_reducible refine Gr.alloc ?_ _ | with_reducible refine Gr.drewN ?_ _ | with_reducible refine Gr.drew ?_ | with_reducible refine Gr.trans ?_ (by with_reducible assumption))); done)) _ | with_reducible refine Gr.trans ?_ (by with_reducible assumption)))⟩
end Go.Proofs.Ytefjgfglommefaa
