/-
  Parts: the faces of a part, in the reference.
-/
import Derived.Test.YtdabhnefoigebaaGreatPlc0
import Derived.Test.YtdabhnefoigebaaGreatMix2
import Derived.Test.YtdabhnefoigebaaGreatVal15
import Derived.Test.YtdabhnefoigebaaGreatVal10
set_option linter.unusedVariables false
set_option linter.unusedSimpArgs false
namespace Go.Proofs.YtdabhnefoigebaaGreat
set_option linter.unusedVariables false
set_option linter.unusedSimpArgs false
open Go Go.ChangeShapes Go.WideShapes Go.ChangeAt Go.RowKit Go.Deep

theorem shr_all : ∀ (m : Fin 64) (k : Fin 6), (bits BinOp.and IntKind.i64 (((m.val : Nat) : Int) / 2 ^ k.val) 1 == 1) = m.val.testBit k.val := by decide +kernel
theorem shr_bit (m k : Nat) (hm : m < 64) (hk : k < 6) : (bits BinOp.and IntKind.i64 ((m : Int) / 2 ^ k) 1 == 1) = m.testBit k := shr_all ⟨m, hm⟩ ⟨k, hk⟩
theorem al_zero (k b : Int) : al 0 k b = wrap64 (wrap64 (k * b)) := by
  unfold al
  rw [Int.zero_add]
set_option maxRecDepth 100000 in
set_option maxHeartbeats 8000000 in
theorem place_any (p : Pa) (A B : Option Addr) (c d : Nat) (m : Nat) (w : World) (hF : SlF w A c p.fl) (hl : p.fl.length ≤ 5) (hm : m < 64) (ok : Fit p.fl) :
    Calls Tryz.prog 82 #[pav p A c B d, iv m] w fun e w' => ∃ v, e = .returned v ∧ OwnL w' w.heap.size 119 11 fcL v (facs flR p.wd p.ht p.fl (fun i => m.testBit i) p.fl.length) ∧ Gr w w' := by
  obtain ⟨i0, hi0, hz0, hz1, hz2⟩ := info_parts infoFc
  have HF := hide hF
  have HOK := hide ok
  clear hF ok
  go_enter Tryz.func82, Tryz.ntmps82
  go_wp2
  go_loopw [5, 6] (fun v i wr => ∃ k : Nat, k ≤ p.fl.length ∧ i = iv k ∧ Gr (w.alloc (.cells #[.string p.nm, .string p.mt, iv p.ga, iv p.gr, iv p.wd, iv p.ht, .slice A p.fl.length c, .slice B p.ho.length d] 25)) wr ∧ Hid (OwnL wr (w.heap.size + 1) 119 11 fcL v (facs flR p.wd p.ht p.fl (fun i => m.testBit i) k))) (fun _ i _ => p.fl.length - (intOf i).toNat)
  case atStart => exact ⟨0, by omega, rfl, (by repeat (first | with_reducible exact Gr.refl _ | with_reducible assumption | with_reducible refine Gr.alloc ?_ _ | with_reducible refine Gr.drewN ?_ _ | with_reducible refine Gr.drew ?_ | with_reducible refine Gr.setCell ?_ (by first | (dsimp only; omega) | (simp only [World.size_alloc]; omega) | (with_reducible refine Gr.size ?_; (repeat (first | with_reducible exact Gr.refl _ | with_reducible assumption | with_reducible refine Gr.alloc ?_ _ | with_reducible refine Gr.drewN ?_ _ | with_reducible refine Gr.drew ?_ | with_reducible refine Gr.trans ?_ (by with_reducible assumption))); done)) _ | with_reducible refine Gr.trans ?_ (by with_reducible assumption))), by have := own_fc1 (w.alloc (.cells #[.string p.nm, .string p.mt, iv p.ga, iv p.gr, iv p.wd, iv p.ht, .slice A p.fl.length c, .slice B p.ho.length d] 25)) (bas p.wd p.ht); rw [World.size_alloc] at this; exact this⟩
  case round =>
    obtain ⟨k, hk, rfl, g, HO⟩ := hrel
    obtain ⟨A1, d1, rfl⟩ := HO.out.slice
    have gW : Gr w wr := (by repeat (first | with_reducible exact Gr.refl _ | with_reducible assumption | with_reducible refine Gr.alloc ?_ _ | with_reducible refine Gr.drewN ?_ _ | with_reducible refine Gr.drew ?_ | with_reducible refine Gr.setCell ?_ (by first | (dsimp only; omega) | (simp only [World.size_alloc]; omega) | (with_reducible refine Gr.size ?_; (repeat (first | with_reducible exact Gr.refl _ | with_reducible assumption | with_reducible refine Gr.alloc ?_ _ | with_reducible refine Gr.drewN ?_ _ | with_reducible refine Gr.drew ?_ | with_reducible refine Gr.trans ?_ (by with_reducible assumption))); done)) _ | with_reducible refine Gr.trans ?_ (by with_reducible assumption)))
    have hp6 : wr.cell? ⟨w.heap.size, 6, none⟩ = some (.slice A p.fl.length c) := (g.cell w.heap.size 6 (by simp)).trans (by simp [go_sem])
    have hlen : (facs flR p.wd p.ht p.fl (fun i => m.testBit i) k).length = k + 1 := facs_len hk
    rw [hlen]
    by_cases hkl : k < p.fl.length
    · obtain ⟨f, hf⟩ : ∃ f, p.fl[k]? = some f := ⟨_, List.getElem?_eq_getElem hkl⟩
      obtain ⟨b, off, hA, x0, x1, x2, x3, x4, x5, x6⟩ := HF.out.rd.fl hf
      subst hA
      have hb : b < w.heap.size := cell_lt (by rw [x0]; rfl)
      obtain ⟨t0, t1, hsd, han⟩ := HOK.out k f hf
      obtain ⟨q, hq⟩ : ∃ q : Nat, f.pa = q := ⟨f.pa.toNat, by omega⟩
      have hqk : q ≤ k := by omega
      obtain ⟨gf, hg⟩ : ∃ gf, (facs flR p.wd p.ht p.fl (fun i => m.testBit i) k)[q]? = some gf := ⟨_, List.getElem?_eq_getElem (by omega)⟩
      have HS := hide (show facs flR p.wd p.ht p.fl (fun i => m.testBit i) (k + 1) = facs flR p.wd p.ht p.fl (fun i => m.testBit i) k ++ [flR gf f (m.testBit k)] by
        rw [facs_succ hf, hq, show ((q : Int)).toNat = q from rfl, hg]; rfl)
      have HOW := hide (show World.ownsRow wr (w.heap.size + 1) 119 11 (.slice A1 (k + 1) d1) (k + 1) ((facs flR p.wd p.ht p.fl (fun i => m.testBit i) k).flatMap fcL) by
        have := HO.out
        unfold OwnL at this
        rwa [hlen] at this)
      have HO' := HO.out
      rw [hlen] at HO'
      obtain ⟨-, hrd, -, -⟩ := OwnL.rdC HO'
      obtain ⟨bs, os, hA2, y0, y1, y2, y3, y4, y5, y6, y7, y8, y9, y10⟩ := hrd.fc hg
      subst hA2
      have hbs : bs < wr.heap.size := cell_lt (by rw [y0]; rfl)
      have FIN := hide (show ∀ (w8 : World) (gg cap1 : Nat), w8.ownsRow (w.heap.size + 1) 119 11 (.slice (some ⟨gg, 0, none⟩) (k + 1 + 1) cap1) (k + 1 + 1) ((facs flR p.wd p.ht p.fl (fun i => m.testBit i) k).flatMap fcL ++ fcL (flR gf f (m.testBit k))) →
          OwnL w8 (w.heap.size + 1) 119 11 fcL (.slice (some ⟨gg, 0, none⟩) (k + 1 + 1) cap1) (facs flR p.wd p.ht p.fl (fun i => m.testBit i) (k + 1)) by
        intro w8 gg cap1 h
        unfold OwnL
        rw [HS.out, fm_snoc, List.length_append, hlen]
        exact h)
      obtain ⟨nm, pa, sd, fo, wd, ln, an⟩ := f
      simp only at hq x0 x1 x2 x3 x4 x5 x6 hsd han
      subst hq
      have zr := g.size
      simp only [World.size_alloc] at zr
      have l0 : w.heap.size < wr.heap.size := by omega
      have hbr : b < wr.heap.size := by omega
      clear HO' hrd t0 t1 HO HS hlen hg hf
      generalize (facs flR p.wd p.ht p.fl (fun i => m.testBit i) k).flatMap fcL = FL at *
      have w0 := (gW.cell _ _ hb).trans x0
      have w1 := (gW.cell _ _ hb).trans x1
      have w2 := (gW.cell _ _ hb).trans x2
      have w3 := (gW.cell _ _ hb).trans x3
      have w4 := (gW.cell _ _ hb).trans x4
      have w5 := (gW.cell _ _ hb).trans x5
      have w6 := (gW.cell _ _ hb).trans x6
      clear x0 x1 x2 x3 x4 x5 x6
      have hk0 : (0 : Int) ≤ (k : Int) := by omega
      have hk1 : (k : Int) < (p.fl.length : Int) := by omega
      have hq0 : (0 : Int) ≤ (q : Int) := by omega
      have hq1 : (q : Int) < (k : Int) + 1 := by omega
      go_upto_region 7 with fail
      generalize hz : World.alloc _ _ = wz
      have gz : Gr wr wz := by rw [← hz]; exact Gr.alloc (Gr.alloc (Gr.refl _) _) _
      have mf : Made wz wr.heap.size #[.string nm, iv (q : Int), iv sd, iv fo, iv wd, iv ln, iv an] := by rw [← hz]; exact (Made.new wr _ _).gr (Gr.alloc (Gr.refl _) _)
      have mg : Made wz (wr.heap.size + 1) #[iv gf.ox, iv gf.oy, iv gf.oz, iv gf.ux, iv gf.uy, iv gf.uz, iv gf.vx, iv gf.vy, iv gf.vz, iv gf.w, iv gf.h] := by
        rw [← hz]
        have := Made.new (wr.alloc (.cells #[.string nm, iv (q : Int), iv sd, iv fo, iv wd, iv ln, iv an] 50)) #[iv gf.ox, iv gf.oy, iv gf.oz, iv gf.ux, iv gf.uy, iv gf.uz, iv gf.vx, iv gf.vy, iv gf.vz, iv gf.w, iv gf.h] 119
        rwa [World.size_alloc] at this
      clear hz w0 w1 w2 w3 w4 w5 w6 y0 y1 y2 y3 y4 y5 y6 y7 y8 y9 y10
      obtain ⟨bf, hbf⟩ : ∃ bf, bf = wr.heap.size := ⟨_, rfl⟩
      obtain ⟨bg, hbg⟩ : ∃ bg, bg = wr.heap.size + 1 := ⟨_, rfl⟩
      rw [← hbf] at mf
      rw [← hbg] at mg
      rw [← hbg, ← hbf]
      have HBF := hide hbf
      have HBG := hide hbg
      have lf : wr.heap.size ≤ bf := by omega
      have lg : wr.heap.size ≤ bg := by omega
      have nfg : bf ≠ bg := by omega
      clear hbf hbg
      obtain ⟨mf0, mf1, mf2⟩ := id mf
      obtain ⟨mg0, mg1, mg2⟩ := id mg
      refine wp_region_new2 _ 6 (by kernel_rfl) (by kernel_rfl) (Gr.refl _) (z1 := #[iv 0, iv 0, iv 0]) (t1 := 147) (z2 := #[iv 0, iv 0, iv 0]) (t2 := 147) rfl rfl ⟨rfl, fun _ => rfl, rfl, fun a w => by go_simp⟩ ⟨rfl, fun _ => rfl, rfl, fun a w => by go_simp⟩ (fun a u v => (Act.put_comm a u v (by decide))) ?_
      intro s gs
      obtain ⟨Xs, Ys, cs, fs⟩ := gs.use
      have GC := @GrW.cell
      simp only [List.take_succ_cons, List.take_zero]
      repeat (go_big_quiet_step ((first | (go_at_call 109; exact quiet_grw (three_any _ _ _ _)))))
      refine wpQuiet_nil ?_
      clear GC cs fs gs
      intro B1 B2 wq gq1 l1 l2 n12 ⟨b1, c1, f1⟩ ⟨b2, c2, f2⟩
      obtain ⟨Xq, Yq, cq, fq⟩ := gq1.use
      have sq := gq1.size
      (try simp only [World.size_alloc, World.size_setCell, World.heap_drewN] at sq l1 l2)
      simp only [List.drop_succ_cons, List.drop_zero]
      go_upto_region 8 with fail
      obtain ⟨bu, rfl⟩ : ∃ bu, bu = B1 := ⟨_, rfl⟩
      obtain ⟨bv, rfl⟩ : ∃ bv, bv = B2 := ⟨_, rfl⟩
      generalize hv : World.setCell _ _ _ = v1
      obtain rfl : v1 = set3 (set3 wq bu gf.ux gf.uy gf.uz) bv gf.vx gf.vy gf.vz := hv.symm
      clear hv
      have zq := gz.size
      have mu := Made.other3 (Made.set3 ⟨b1, c1, f1⟩ gf.ux gf.uy gf.uz) gf.vx gf.vy gf.vz n12
      have mv := Made.set3 (Made.other3 ⟨b2, c2, f2⟩ gf.ux gf.uy gf.uz (Ne.symm n12)) gf.vx gf.vy gf.vz
      have mf' := ((mf.gr gq1).other3 gf.ux gf.uy gf.uz (show bf ≠ bu by omega)).other3 gf.vx gf.vy gf.vz (show bf ≠ bv by omega)
      have mg' := ((mg.gr gq1).other3 gf.ux gf.uy gf.uz (show bg ≠ bu by omega)).other3 gf.vx gf.vy gf.vz (show bg ≠ bv by omega)
      have gv : Gr wr (set3 (set3 wq bu gf.ux gf.uy gf.uz) bv gf.vx gf.vy gf.vz) := gr_set3 _ _ _ (gr_set3 _ _ _ (gz.trans gq1) (by omega)) (by omega)
      have n1f : bf ≠ bu := by omega
      have n2f : bf ≠ bv := by omega
      have n1g : bg ≠ bu := by omega
      have n2g : bg ≠ bv := by omega
      have k1 : wr.heap.size ≤ bu := by omega
      have k2 : wr.heap.size ≤ bv := by omega
      clear cq fq sq l1 l2 b1 c1 f1 b2 c2 f2 mf0 mf1 mf2 mg0 mg1 mg2 mf mg
      generalize set3 (set3 wq bu gf.ux gf.uy gf.uz) bv gf.vx gf.vy gf.vz = v1 at *
      clear gq1 zq gz
      obtain ⟨mf0, mf1, mf2⟩ := id mf'
      obtain ⟨mg0, mg1, mg2⟩ := id mg'
      have HST := hide (fun w => start_any sd gf.w gf.h w hsd)
      go_upto_region 9 with (first | (go_at_call 110; refine (HST.out _).mono ?_; rintro e w1 ⟨rfl, g1⟩; obtain ⟨X1, Y1, c1, f1⟩ := g1.use; have z1 := g1.size; (try simp only [World.size_alloc, World.size_setCell, World.heap_drewN, Nat.add_one_le_iff] at z1); (try have l0 : w.heap.size < w1.heap.size := by omega); (try have l1 : w.heap.size + 1 < w1.heap.size := by omega); (try have l2 : w.heap.size + 1 + 1 < w1.heap.size := by omega)))
      have HE := hide (show flR gf ⟨nm, (q : Int), sd, fo, wd, ln, an⟩ (m.testBit k) = ⟨atR sd fo gf.w gf.h gf.ox gf.ux gf.vx, atR sd fo gf.w gf.h gf.oy gf.uy gf.vy, atR sd fo gf.w gf.h gf.oz gf.uz gf.vz,
        al (al 0 (staD0 sd) gf.ux) (staD1 sd) gf.vx, al (al 0 (staD0 sd) gf.uy) (staD1 sd) gf.vy, al (al 0 (staD0 sd) gf.uz) (staD1 sd) gf.vz,
        nextR an (m.testBit k) (crX gf) (awy sd gf.ux gf.vx), nextR an (m.testBit k) (crY gf) (awy sd gf.uy gf.vy), nextR an (m.testBit k) (crZ gf) (awy sd gf.uz gf.vz), wd, ln⟩ from rfl)
      unfold atR awy at HE
      simp only [al_zero] at HE
      generalize staA sd gf.w = sA at *
      generalize staB sd gf.h = sB at *
      generalize staD0 sd = d0 at *
      generalize staD1 sd = e0 at *
      generalize staO0 sd = d2 at *
      generalize staO1 sd = e2 at *
      have md : Made ((w1.alloc (.cells #[iv d0, iv e0] 149)).alloc (.cells #[iv d2, iv e2] 149)) w1.heap.size #[iv d0, iv e0] := (Made.new w1 _ _).gr (Gr.alloc (Gr.refl _) _)
      have mo : Made ((w1.alloc (.cells #[iv d0, iv e0] 149)).alloc (.cells #[iv d2, iv e2] 149)) (w1.heap.size + 1) #[iv d2, iv e2] := by
        have := Made.new (w1.alloc (.cells #[iv d0, iv e0] 149)) #[iv d2, iv e2] 149
        rwa [World.size_alloc] at this
      have gx := Gr.alloc (Gr.alloc g1 (.cells #[iv d0, iv e0] 149)) (.cells #[iv d2, iv e2] 149)
      obtain ⟨bd, hbd⟩ : ∃ bd, bd = w1.heap.size := ⟨_, rfl⟩
      obtain ⟨bo, hbo⟩ : ∃ bo, bo = w1.heap.size + 1 := ⟨_, rfl⟩
      rw [← hbd] at md
      rw [← hbo] at mo
      rw [← hbo, ← hbd]
      have kd : wr.heap.size ≤ bd := by have := g1.size; have := gv.size; omega
      have ko : wr.heap.size ≤ bo := by have := g1.size; have := gv.size; omega
      clear hbd hbo c1 f1 mf0 mf1 mf2 mg0 mg1 mg2 HST
      generalize (w1.alloc (.cells #[iv d0, iv e0] 149)).alloc (.cells #[iv d2, iv e2] 149) = v2 at *
      have mf := mf'.gr gx
      have mg := mg'.gr gx
      have mu' := mu.gr gx
      have mv' := mv.gr gx
      have gv2 := gv.trans gx
      clear mf' mg' mu mv gv gx g1 z1 l0 l1 l2
      have mu := mu'
      have mv := mv'
      clear mu' mv'
      obtain ⟨mf0, mf1, mf2⟩ := id mf
      obtain ⟨mu0, mu1, mu2⟩ := id mu
      obtain ⟨mv0, mv1, mv2⟩ := id mv
      obtain ⟨md0, md1, md2⟩ := id md
      obtain ⟨mo0, mo1, mo2⟩ := id mo
      obtain ⟨mg0, mg1, mg2⟩ := id mg
      refine wp_region_new1 _ 21 (by kernel_rfl) (by kernel_rfl) (Gr.refl _) (z1 := #[iv 0, iv 0, iv 0]) (t1 := 147) rfl ⟨rfl, fun _ => rfl, rfl, fun a w => by go_simp⟩  ?_
      intro s gs
      obtain ⟨Xs, Ys, cs, fs⟩ := gs.use
      have GC := @GrW.cell
      simp only [List.take_succ_cons, List.take_zero]
      repeat (go_big_quiet_step ((first | (go_at_call 109; exact quiet_grw (three_any _ _ _ _)) | (go_at_call 111; exact quiet_grw (along_any _ _ _ _ _ _ _ _)))))
      refine wpQuiet_nil ?_
      clear GC cs fs gs
      intro B1 wq gq1 l1  ⟨b1, c1, f1⟩
      obtain ⟨Xq, Yq, cq, fq⟩ := gq1.use
      have sq := gq1.size
      (try simp only [World.size_alloc, World.size_setCell, World.heap_drewN] at sq l1 )
      simp only [List.drop_succ_cons, List.drop_zero]
      go_upto_region 10 with fail
      obtain ⟨ba, rfl⟩ : ∃ ba, ba = B1 := ⟨_, rfl⟩
      generalize hv : World.setCell _ _ _ = v3
      obtain rfl : v3 = set3 wq ba (al (al gf.ox (wrap64 (sA + wrap64 (fo * d0))) gf.ux) (wrap64 (sB + wrap64 (fo * e0))) gf.vx) (al (al gf.oy (wrap64 (sA + wrap64 (fo * d0))) gf.uy) (wrap64 (sB + wrap64 (fo * e0))) gf.vy) (al (al gf.oz (wrap64 (sA + wrap64 (fo * d0))) gf.uz) (wrap64 (sB + wrap64 (fo * e0))) gf.vz) := hv.symm
      clear hv
      have hsz := gv2.size
      have ma' := Made.set3 ⟨b1, c1, f1⟩ (al (al gf.ox (wrap64 (sA + wrap64 (fo * d0))) gf.ux) (wrap64 (sB + wrap64 (fo * e0))) gf.vx) (al (al gf.oy (wrap64 (sA + wrap64 (fo * d0))) gf.uy) (wrap64 (sB + wrap64 (fo * e0))) gf.vy) (al (al gf.oz (wrap64 (sA + wrap64 (fo * d0))) gf.uz) (wrap64 (sB + wrap64 (fo * e0))) gf.vz)
      have mf' := (mf.gr gq1).other3 (al (al gf.ox (wrap64 (sA + wrap64 (fo * d0))) gf.ux) (wrap64 (sB + wrap64 (fo * e0))) gf.vx) (al (al gf.oy (wrap64 (sA + wrap64 (fo * d0))) gf.uy) (wrap64 (sB + wrap64 (fo * e0))) gf.vy) (al (al gf.oz (wrap64 (sA + wrap64 (fo * d0))) gf.uz) (wrap64 (sB + wrap64 (fo * e0))) gf.vz) (show bf ≠ ba by omega)
      have mu' := (mu.gr gq1).other3 (al (al gf.ox (wrap64 (sA + wrap64 (fo * d0))) gf.ux) (wrap64 (sB + wrap64 (fo * e0))) gf.vx) (al (al gf.oy (wrap64 (sA + wrap64 (fo * d0))) gf.uy) (wrap64 (sB + wrap64 (fo * e0))) gf.vy) (al (al gf.oz (wrap64 (sA + wrap64 (fo * d0))) gf.uz) (wrap64 (sB + wrap64 (fo * e0))) gf.vz) (show bu ≠ ba by omega)
      have mv' := (mv.gr gq1).other3 (al (al gf.ox (wrap64 (sA + wrap64 (fo * d0))) gf.ux) (wrap64 (sB + wrap64 (fo * e0))) gf.vx) (al (al gf.oy (wrap64 (sA + wrap64 (fo * d0))) gf.uy) (wrap64 (sB + wrap64 (fo * e0))) gf.vy) (al (al gf.oz (wrap64 (sA + wrap64 (fo * d0))) gf.uz) (wrap64 (sB + wrap64 (fo * e0))) gf.vz) (show bv ≠ ba by omega)
      have md' := (md.gr gq1).other3 (al (al gf.ox (wrap64 (sA + wrap64 (fo * d0))) gf.ux) (wrap64 (sB + wrap64 (fo * e0))) gf.vx) (al (al gf.oy (wrap64 (sA + wrap64 (fo * d0))) gf.uy) (wrap64 (sB + wrap64 (fo * e0))) gf.vy) (al (al gf.oz (wrap64 (sA + wrap64 (fo * d0))) gf.uz) (wrap64 (sB + wrap64 (fo * e0))) gf.vz) (show bd ≠ ba by omega)
      have mo' := (mo.gr gq1).other3 (al (al gf.ox (wrap64 (sA + wrap64 (fo * d0))) gf.ux) (wrap64 (sB + wrap64 (fo * e0))) gf.vx) (al (al gf.oy (wrap64 (sA + wrap64 (fo * d0))) gf.uy) (wrap64 (sB + wrap64 (fo * e0))) gf.vy) (al (al gf.oz (wrap64 (sA + wrap64 (fo * d0))) gf.uz) (wrap64 (sB + wrap64 (fo * e0))) gf.vz) (show bo ≠ ba by omega)
      have gv3 : Gr wr (set3 wq ba (al (al gf.ox (wrap64 (sA + wrap64 (fo * d0))) gf.ux) (wrap64 (sB + wrap64 (fo * e0))) gf.vx) (al (al gf.oy (wrap64 (sA + wrap64 (fo * d0))) gf.uy) (wrap64 (sB + wrap64 (fo * e0))) gf.vy) (al (al gf.oz (wrap64 (sA + wrap64 (fo * d0))) gf.uz) (wrap64 (sB + wrap64 (fo * e0))) gf.vz)) := gr_set3 _ _ _ (gv2.trans gq1) (by omega)
      have kba : wr.heap.size ≤ ba := by omega
      clear cq fq sq l1 b1 c1 f1 hsz gv2 mg2 mg1 mg0 mo2 mo1 mo0 md2 md1 md0 mv2 mv1 mv0 mu2 mu1 mu0 mf2 mf1 mf0 mg mo md mv mu mf
      generalize al (al gf.ox (wrap64 (sA + wrap64 (fo * d0))) gf.ux) (wrap64 (sB + wrap64 (fo * e0))) gf.vx = ax at *
      generalize al (al gf.oy (wrap64 (sA + wrap64 (fo * d0))) gf.uy) (wrap64 (sB + wrap64 (fo * e0))) gf.vy = ay at *
      generalize al (al gf.oz (wrap64 (sA + wrap64 (fo * d0))) gf.uz) (wrap64 (sB + wrap64 (fo * e0))) gf.vz = az at *
      generalize set3 wq ba ax ay az = v3 at *
      clear gq1
      have mf := mf'
      clear mf'
      have mu := mu'
      clear mu'
      have mv := mv'
      clear mv'
      have md := md'
      clear md'
      have mo := mo'
      clear mo'
      have ma := ma'
      clear ma'
      obtain ⟨mf0, mf1, mf2⟩ := id mf
      obtain ⟨mu0, mu1, mu2⟩ := id mu
      obtain ⟨mv0, mv1, mv2⟩ := id mv
      obtain ⟨mo0, mo1, mo2⟩ := id mo
      obtain ⟨ma0, ma1, ma2⟩ := id ma
      obtain ⟨md0, md1, md2⟩ := id md
      refine wp_region_new1 _ 9 (by kernel_rfl) (by kernel_rfl) (Gr.refl _) (z1 := #[iv 0, iv 0, iv 0]) (t1 := 147) rfl ⟨rfl, fun _ => rfl, rfl, fun a w => by go_simp⟩  ?_
      intro s gs
      obtain ⟨Xs, Ys, cs, fs⟩ := gs.use
      have GC := @GrW.cell
      simp only [List.take_succ_cons, List.take_zero]
      repeat (go_big_quiet_step ((first | (go_at_call 111; exact quiet_grw (along_any _ _ _ _ _ _ _ _)))))
      refine wpQuiet_nil ?_
      clear GC cs fs gs
      intro B1 wq gq1 l1  ⟨b1, c1, f1⟩
      obtain ⟨Xq, Yq, cq, fq⟩ := gq1.use
      have sq := gq1.size
      (try simp only [World.size_alloc, World.size_setCell, World.heap_drewN] at sq l1 )
      simp only [List.drop_succ_cons, List.drop_zero]
      go_upto_region 11 with fail
      obtain ⟨bi, rfl⟩ : ∃ bi, bi = B1 := ⟨_, rfl⟩
      generalize hv : World.setCell _ _ _ = v4
      obtain rfl : v4 = set3 wq bi (al (wrap64 (wrap64 (d0 * gf.ux))) e0 gf.vx) (al (wrap64 (wrap64 (d0 * gf.uy))) e0 gf.vy) (al (wrap64 (wrap64 (d0 * gf.uz))) e0 gf.vz) := hv.symm
      clear hv
      have hsz := gv3.size
      have mi' := Made.set3 ⟨b1, c1, f1⟩ (al (wrap64 (wrap64 (d0 * gf.ux))) e0 gf.vx) (al (wrap64 (wrap64 (d0 * gf.uy))) e0 gf.vy) (al (wrap64 (wrap64 (d0 * gf.uz))) e0 gf.vz)
      have mf' := (mf.gr gq1).other3 (al (wrap64 (wrap64 (d0 * gf.ux))) e0 gf.vx) (al (wrap64 (wrap64 (d0 * gf.uy))) e0 gf.vy) (al (wrap64 (wrap64 (d0 * gf.uz))) e0 gf.vz) (show bf ≠ bi by omega)
      have mu' := (mu.gr gq1).other3 (al (wrap64 (wrap64 (d0 * gf.ux))) e0 gf.vx) (al (wrap64 (wrap64 (d0 * gf.uy))) e0 gf.vy) (al (wrap64 (wrap64 (d0 * gf.uz))) e0 gf.vz) (show bu ≠ bi by omega)
      have mv' := (mv.gr gq1).other3 (al (wrap64 (wrap64 (d0 * gf.ux))) e0 gf.vx) (al (wrap64 (wrap64 (d0 * gf.uy))) e0 gf.vy) (al (wrap64 (wrap64 (d0 * gf.uz))) e0 gf.vz) (show bv ≠ bi by omega)
      have mo' := (mo.gr gq1).other3 (al (wrap64 (wrap64 (d0 * gf.ux))) e0 gf.vx) (al (wrap64 (wrap64 (d0 * gf.uy))) e0 gf.vy) (al (wrap64 (wrap64 (d0 * gf.uz))) e0 gf.vz) (show bo ≠ bi by omega)
      have ma' := (ma.gr gq1).other3 (al (wrap64 (wrap64 (d0 * gf.ux))) e0 gf.vx) (al (wrap64 (wrap64 (d0 * gf.uy))) e0 gf.vy) (al (wrap64 (wrap64 (d0 * gf.uz))) e0 gf.vz) (show ba ≠ bi by omega)
      have gv4 : Gr wr (set3 wq bi (al (wrap64 (wrap64 (d0 * gf.ux))) e0 gf.vx) (al (wrap64 (wrap64 (d0 * gf.uy))) e0 gf.vy) (al (wrap64 (wrap64 (d0 * gf.uz))) e0 gf.vz)) := gr_set3 _ _ _ (gv3.trans gq1) (by omega)
      have kbi : wr.heap.size ≤ bi := by omega
      clear cq fq sq l1 b1 c1 f1 hsz gv3 md2 md1 md0 ma2 ma1 ma0 mo2 mo1 mo0 mv2 mv1 mv0 mu2 mu1 mu0 mf2 mf1 mf0 md ma mo mv mu mf
      generalize al (wrap64 (wrap64 (d0 * gf.ux))) e0 gf.vx = ix at *
      generalize al (wrap64 (wrap64 (d0 * gf.uy))) e0 gf.vy = iy at *
      generalize al (wrap64 (wrap64 (d0 * gf.uz))) e0 gf.vz = iz at *
      generalize set3 wq bi ix iy iz = v4 at *
      clear gq1
      have mf := mf'
      clear mf'
      have mu := mu'
      clear mu'
      have mv := mv'
      clear mv'
      have mo := mo'
      clear mo'
      have ma := ma'
      clear ma'
      have mi := mi'
      clear mi'
      obtain ⟨mf0, mf1, mf2⟩ := id mf
      obtain ⟨mu0, mu1, mu2⟩ := id mu
      obtain ⟨mv0, mv1, mv2⟩ := id mv
      obtain ⟨ma0, ma1, ma2⟩ := id ma
      obtain ⟨mi0, mi1, mi2⟩ := id mi
      obtain ⟨mo0, mo1, mo2⟩ := id mo
      refine wp_region_new1 _ 9 (by kernel_rfl) (by kernel_rfl) (Gr.refl _) (z1 := #[iv 0, iv 0, iv 0]) (t1 := 147) rfl ⟨rfl, fun _ => rfl, rfl, fun a w => by go_simp⟩  ?_
      intro s gs
      obtain ⟨Xs, Ys, cs, fs⟩ := gs.use
      have GC := @GrW.cell
      simp only [List.take_succ_cons, List.take_zero]
      repeat (go_big_quiet_step ((first | (go_at_call 111; exact quiet_grw (along_any _ _ _ _ _ _ _ _)))))
      refine wpQuiet_nil ?_
      clear GC cs fs gs
      intro B1 wq gq1 l1  ⟨b1, c1, f1⟩
      obtain ⟨Xq, Yq, cq, fq⟩ := gq1.use
      have sq := gq1.size
      (try simp only [World.size_alloc, World.size_setCell, World.heap_drewN] at sq l1 )
      simp only [List.drop_succ_cons, List.drop_zero]
      go_upto_region 12 with fail
      obtain ⟨bw, rfl⟩ : ∃ bw, bw = B1 := ⟨_, rfl⟩
      generalize hv : World.setCell _ _ _ = v5
      obtain rfl : v5 = set3 wq bw (al (wrap64 (wrap64 (d2 * gf.ux))) e2 gf.vx) (al (wrap64 (wrap64 (d2 * gf.uy))) e2 gf.vy) (al (wrap64 (wrap64 (d2 * gf.uz))) e2 gf.vz) := hv.symm
      clear hv
      have hsz := gv4.size
      have mw' := Made.set3 ⟨b1, c1, f1⟩ (al (wrap64 (wrap64 (d2 * gf.ux))) e2 gf.vx) (al (wrap64 (wrap64 (d2 * gf.uy))) e2 gf.vy) (al (wrap64 (wrap64 (d2 * gf.uz))) e2 gf.vz)
      have mf' := (mf.gr gq1).other3 (al (wrap64 (wrap64 (d2 * gf.ux))) e2 gf.vx) (al (wrap64 (wrap64 (d2 * gf.uy))) e2 gf.vy) (al (wrap64 (wrap64 (d2 * gf.uz))) e2 gf.vz) (show bf ≠ bw by omega)
      have mu' := (mu.gr gq1).other3 (al (wrap64 (wrap64 (d2 * gf.ux))) e2 gf.vx) (al (wrap64 (wrap64 (d2 * gf.uy))) e2 gf.vy) (al (wrap64 (wrap64 (d2 * gf.uz))) e2 gf.vz) (show bu ≠ bw by omega)
      have mv' := (mv.gr gq1).other3 (al (wrap64 (wrap64 (d2 * gf.ux))) e2 gf.vx) (al (wrap64 (wrap64 (d2 * gf.uy))) e2 gf.vy) (al (wrap64 (wrap64 (d2 * gf.uz))) e2 gf.vz) (show bv ≠ bw by omega)
      have ma' := (ma.gr gq1).other3 (al (wrap64 (wrap64 (d2 * gf.ux))) e2 gf.vx) (al (wrap64 (wrap64 (d2 * gf.uy))) e2 gf.vy) (al (wrap64 (wrap64 (d2 * gf.uz))) e2 gf.vz) (show ba ≠ bw by omega)
      have mi' := (mi.gr gq1).other3 (al (wrap64 (wrap64 (d2 * gf.ux))) e2 gf.vx) (al (wrap64 (wrap64 (d2 * gf.uy))) e2 gf.vy) (al (wrap64 (wrap64 (d2 * gf.uz))) e2 gf.vz) (show bi ≠ bw by omega)
      have gv5 : Gr wr (set3 wq bw (al (wrap64 (wrap64 (d2 * gf.ux))) e2 gf.vx) (al (wrap64 (wrap64 (d2 * gf.uy))) e2 gf.vy) (al (wrap64 (wrap64 (d2 * gf.uz))) e2 gf.vz)) := gr_set3 _ _ _ (gv4.trans gq1) (by omega)
      have kbw : wr.heap.size ≤ bw := by omega
      clear cq fq sq l1 b1 c1 f1 hsz gv4 mo2 mo1 mo0 mi2 mi1 mi0 ma2 ma1 ma0 mv2 mv1 mv0 mu2 mu1 mu0 mf2 mf1 mf0 mo mi ma mv mu mf
      generalize al (wrap64 (wrap64 (d2 * gf.ux))) e2 gf.vx = wx at *
      generalize al (wrap64 (wrap64 (d2 * gf.uy))) e2 gf.vy = wy at *
      generalize al (wrap64 (wrap64 (d2 * gf.uz))) e2 gf.vz = wz at *
      generalize set3 wq bw wx wy wz = v5 at *
      clear gq1
      have mf := mf'
      clear mf'
      have mu := mu'
      clear mu'
      have mv := mv'
      clear mv'
      have ma := ma'
      clear ma'
      have mi := mi'
      clear mi'
      have mw := mw'
      clear mw'
      obtain ⟨mf0, mf1, mf2⟩ := id mf
      obtain ⟨mu0, mu1, mu2⟩ := id mu
      obtain ⟨mv0, mv1, mv2⟩ := id mv
      obtain ⟨ma0, ma1, ma2⟩ := id ma
      obtain ⟨mi0, mi1, mi2⟩ := id mi
      obtain ⟨mw0, mw1, mw2⟩ := id mw
      have HCR := hide (fun w => (show Calls Tryz.prog 112 #[vc gf.ux gf.uy gf.uz, vc gf.vx gf.vy gf.vz] w fun e w' => e = .returned (vc (crX gf) (crY gf) (crZ gf)) ∧ Gr w w' from cross_any _ _ _ _ _ _ _))
      generalize crX gf = nnx at *
      generalize crY gf = nny at *
      generalize crZ gf = nnz at *
      go_upto_region 13 with (first | (go_at_call 112; refine (HCR.out _).mono ?_; rintro e w1 ⟨rfl, g1⟩; obtain ⟨X1, Y1, c1, f1⟩ := g1.use; have z1 := g1.size; (try simp only [World.size_alloc, World.size_setCell, World.heap_drewN, Nat.add_one_le_iff] at z1); (try have l0 : w.heap.size < w1.heap.size := by omega); (try have l1 : w.heap.size + 1 < w1.heap.size := by omega); (try have l2 : w.heap.size + 1 + 1 < w1.heap.size := by omega)))
      have bw1 : bw < w1.heap.size := by have := g1.size; omega
      have bw2 : bw < w1.heap.size + 1 := by have := g1.size; omega
      go_upto_region 14 with fail
      have mn : Made ((w1.alloc (.cells #[iv nnx, iv nny, iv nnz] 147)).alloc (.cells #[iv wx, iv wy, iv wz] 147)) w1.heap.size #[iv nnx, iv nny, iv nnz] := (Made.new w1 _ _).gr (Gr.alloc (Gr.refl _) _)
      have mx : Made ((w1.alloc (.cells #[iv nnx, iv nny, iv nnz] 147)).alloc (.cells #[iv wx, iv wy, iv wz] 147)) (w1.heap.size + 1) #[iv wx, iv wy, iv wz] := by
        have := Made.new (w1.alloc (.cells #[iv nnx, iv nny, iv nnz] 147)) #[iv wx, iv wy, iv wz] 147
        rwa [World.size_alloc] at this
      have gx := Gr.alloc (Gr.alloc g1 (.cells #[iv nnx, iv nny, iv nnz] 147)) (.cells #[iv wx, iv wy, iv wz] 147)
      obtain ⟨bn, hbn⟩ : ∃ bn, bn = w1.heap.size := ⟨_, rfl⟩
      obtain ⟨bx, hbx⟩ : ∃ bx, bx = w1.heap.size + 1 := ⟨_, rfl⟩
      rw [← hbn] at mn
      rw [← hbx] at mx
      rw [← hbx, ← hbn]
      have hs1 := g1.size
      have hs5 := gv5.size
      have kbx : wr.heap.size ≤ bx := by omega
      have xf : bf ≠ bx := by omega
      have xa : ba ≠ bx := by omega
      have xi : bi ≠ bx := by omega
      have xw : bw ≠ bx := by omega
      have xn : bn ≠ bx := by omega
      clear hbn hbx c1 f1 z1 hs1 hs5 mf0 mf1 mf2 mu0 mu1 mu2 mv0 mv1 mv2 ma0 ma1 ma2 mi0 mi1 mi2 mw0 mw1 mw2 HCR bw1 bw2
      generalize (w1.alloc (.cells #[iv nnx, iv nny, iv nnz] 147)).alloc (.cells #[iv wx, iv wy, iv wz] 147) = v6 at *
      have mf' := mf.gr gx
      have ma' := ma.gr gx
      have mi' := mi.gr gx
      have mw' := mw.gr gx
      have gv6 := gv5.trans gx
      clear mf mu mv ma mi mw gv5 gx g1
      obtain ⟨mf0, mf1, mf2⟩ := id mf'
      obtain ⟨mn0, mn1, mn2⟩ := id mn
      obtain ⟨mx0, mx1, mx2⟩ := id mx
      obtain ⟨mw0, mw1, mw2⟩ := id mw'
      obtain ⟨ma0, ma1, ma2⟩ := id ma'
      obtain ⟨mi0, mi1, mi2⟩ := id mi'
      have HBT := shr_bit m k hm (by omega)
      cases hbit : m.testBit k with
      | false =>
        rw [hbit] at HBT HE
        have HE2 := hide (show flR gf ⟨nm, (q : Int), sd, fo, wd, ln, an⟩ (m.testBit k) = ⟨ax, ay, az, ix, iy, iz, wx, wy, wz, wd, ln⟩ by rw [hbit, HE.out]; rfl)
        clear HE hbit
        have lb : w.heap.size + 1 ≤ v6.heap.size := by have := gv6.size; omega
        go_upto_region 21 with fail
        refine wp_region_build1 _ 12 (by kernel_rfl) (by kernel_rfl) (Gr.refl _) (d1 := some 145) rfl ?_
        intro s gs
        obtain ⟨Xs, Ys, cs, fs⟩ := gs.use
        have GC := @GrW.cell
        simp only [List.take_succ_cons, List.take_zero]
        repeat (go_big_quiet_step ((first | (go_at_call 113; exact quiet_grw (rvec_any _ _ _ _)))))
        refine wpQuiet_nil ?_
        clear GC cs fs gs
        refine ⟨fun BB => .slice (some ⟨BB, 0, none⟩) 1 1, #[iv ax, iv ay, iv az, iv ix, iv iy, iv iz, iv wx, iv wy, iv wz, iv wd, iv ln], 119, ⟨rfl, rfl, fun w => by go_simp⟩, ?_⟩
        intro B1 wq gq1 l1 ⟨b1, c1, f1⟩
        obtain ⟨Xq, Yq, cq, fq⟩ := gq1.use
        have sq := gq1.size
        (try simp only [World.size_alloc, World.size_setCell, World.heap_drewN] at sq l1)
        simp only [List.drop_succ_cons, List.drop_zero]
        refine wpList_append_lies _ (by rfl) _ _ _ (by rfl) (w.heap.size + 1) 119 i0 _ 11 88 Tryz.underlying120 hi0 hz0 hz1 hz2 rfl (by omega) _ (k + 1) FL (by rfl) (own_gr HOW.out (gv6.trans gq1)) ⟨B1, 0, none⟩ 1 1 (fcL ⟨ax, ay, az, ix, iy, iz, wx, wy, wz, wd, ln⟩) (by rfl) (by rfl) (by intro j u hu; rw [addr_add, Nat.zero_add, c1]; simpa using hu) (one_fc _) (by omega) (by unfold maxLen; omega) (by omega) (by omega) _ rfl ?_
        intro gg cap1 w8 hown8 hgrow hat hlt
        have ho8 := hide (FIN.out w8 gg cap1 (by rw [HE2.out]; exact hown8))
        have g8 := Gr.grown (show Gr _ _ from (g.trans gv6).trans gq1) hgrow (fun k hk => by have := (World.ownsRow.lt HOW.out k hk).1; simpa [World.size_alloc] using this)
        clear hown8 hgrow hat hlt FIN HOW c1 f1 cq fq
        go_wp2
        go_roundw
        case rel => exact ⟨k + 1, by omega, by go_num, g8, ho8.out⟩
        case measure => simp only [intOf]; omega
      | true =>
        rw [hbit] at HBT HE
        unfold anOk at han
        rcases han with rfl | rfl | rfl | rfl
        · have HE2 := hide (show flR gf ⟨nm, (q : Int), sd, fo, wd, ln, 90⟩ (m.testBit k) = ⟨ax, ay, az, ix, iy, iz, nnx, nny, nnz, wd, ln⟩ by rw [hbit, HE.out]; rfl)
          clear HE hbit
          go_upto_region 21 with (first | fail)
          generalize hv : World.setCell _ _ _ = v7
          obtain rfl : v7 = set3 v6 bx nnx nny nnz := hv.symm
          clear hv
          have mf7 := Made.other3 (Made.gr mf' (Gr.refl v6)) nnx nny nnz xf
          have ma7 := Made.other3 (Made.gr ma' (Gr.refl v6)) nnx nny nnz xa
          have mi7 := Made.other3 (Made.gr mi' (Gr.refl v6)) nnx nny nnz xi
          have mx7 := Made.set3 (Made.gr mx (Gr.refl v6)) nnx nny nnz
          have gv7 : Gr wr (set3 v6 bx nnx nny nnz) := gr_set3 _ _ _ (gv6.trans (Gr.refl v6)) kbx
          clear mf' ma' mi' mx mw' mn gv6 mf0 mf1 mf2 ma0 ma1 ma2 mi0 mi1 mi2 mx0 mx1 mx2 mw0 mw1 mw2 mn0 mn1 mn2
          generalize set3 v6 bx nnx nny nnz = v7 at *
          obtain ⟨mf0, mf1, mf2⟩ := id mf7
          obtain ⟨ma0, ma1, ma2⟩ := id ma7
          obtain ⟨mi0, mi1, mi2⟩ := id mi7
          obtain ⟨mx0, mx1, mx2⟩ := id mx7
          have lb : w.heap.size + 1 ≤ v7.heap.size := by have := gv7.size; omega
          refine wp_region_build1 _ 12 (by kernel_rfl) (by kernel_rfl) (Gr.refl _) (d1 := some 145) rfl ?_
          intro s gs
          obtain ⟨Xs, Ys, cs, fs⟩ := gs.use
          have GC := @GrW.cell
          simp only [List.take_succ_cons, List.take_zero]
          repeat (go_big_quiet_step ((first | (go_at_call 113; exact quiet_grw (rvec_any _ _ _ _)))))
          refine wpQuiet_nil ?_
          clear GC cs fs gs
          refine ⟨fun BB => .slice (some ⟨BB, 0, none⟩) 1 1, #[iv ax, iv ay, iv az, iv ix, iv iy, iv iz, iv nnx, iv nny, iv nnz, iv wd, iv ln], 119, ⟨rfl, rfl, fun w => by go_simp⟩, ?_⟩
          intro B1 wq gq1 l1 ⟨b1, c1, f1⟩
          obtain ⟨Xq, Yq, cq, fq⟩ := gq1.use
          have sq := gq1.size
          (try simp only [World.size_alloc, World.size_setCell, World.heap_drewN] at sq l1)
          simp only [List.drop_succ_cons, List.drop_zero]
          refine wpList_append_lies _ (by rfl) _ _ _ (by rfl) (w.heap.size + 1) 119 i0 _ 11 88 Tryz.underlying120 hi0 hz0 hz1 hz2 rfl (by omega) _ (k + 1) FL (by rfl) (own_gr HOW.out (gv7.trans gq1)) ⟨B1, 0, none⟩ 1 1 (fcL ⟨ax, ay, az, ix, iy, iz, nnx, nny, nnz, wd, ln⟩) (by rfl) (by rfl) (by intro j u hu; rw [addr_add, Nat.zero_add, c1]; simpa using hu) (one_fc _) (by omega) (by unfold maxLen; omega) (by omega) (by omega) _ rfl ?_
          intro gg cap1 w8 hown8 hgrow hat hlt
          have ho8 := hide (FIN.out w8 gg cap1 (by rw [HE2.out]; exact hown8))
          have g8 := Gr.grown (show Gr _ _ from (g.trans gv7).trans gq1) hgrow (fun k hk => by have := (World.ownsRow.lt HOW.out k hk).1; simpa [World.size_alloc] using this)
          clear hown8 hgrow hat hlt FIN HOW c1 f1 cq fq
          go_wp2
          go_roundw
          case rel => exact ⟨k + 1, by omega, by go_num, g8, ho8.out⟩
          case measure => simp only [intOf]; omega
        · have HE2 := hide (show flR gf ⟨nm, (q : Int), sd, fo, wd, ln, -90⟩ (m.testBit k) = ⟨ax, ay, az, ix, iy, iz, al 0 (-1) nnx, al 0 (-1) nny, al 0 (-1) nnz, wd, ln⟩ by rw [hbit, HE.out]; rfl)
          have HAL := hide (fun w => (show Calls Tryz.prog 111 #[vc 0 0 0, iv (-1), vc nnx nny nnz] w fun e w' => e = .returned (vc (al 0 (-1) nnx) (al 0 (-1) nny) (al 0 (-1) nnz)) ∧ Gr w w' from along_any _ _ _ _ _ _ _ _))
          generalize al 0 (-1) nnx = px at *
          generalize al 0 (-1) nny = py at *
          generalize al 0 (-1) nnz = pz at *
          clear HE hbit
          go_upto_region 21 with (first | (go_at_call 111; refine (HAL.out _).mono ?_; rintro e w1 ⟨rfl, g1⟩; obtain ⟨X1, Y1, c1, f1⟩ := g1.use; have z1 := g1.size; (try simp only [World.size_alloc, World.size_setCell, World.heap_drewN, Nat.add_one_le_iff] at z1); (try have l0 : w.heap.size < w1.heap.size := by omega); (try have l1 : w.heap.size + 1 < w1.heap.size := by omega); (try have l2 : w.heap.size + 1 + 1 < w1.heap.size := by omega)))
          generalize hv : World.setCell _ _ _ = v7
          obtain rfl : v7 = set3 w1 bx px py pz := hv.symm
          clear hv
          have mf7 := Made.other3 (Made.gr mf' g1) px py pz xf
          have ma7 := Made.other3 (Made.gr ma' g1) px py pz xa
          have mi7 := Made.other3 (Made.gr mi' g1) px py pz xi
          have mx7 := Made.set3 (Made.gr mx g1) px py pz
          have gv7 : Gr wr (set3 w1 bx px py pz) := gr_set3 _ _ _ (gv6.trans g1) kbx
          clear mf' ma' mi' mx mw' mn gv6 mf0 mf1 mf2 ma0 ma1 ma2 mi0 mi1 mi2 mx0 mx1 mx2 mw0 mw1 mw2 mn0 mn1 mn2 c1 f1 z1
          generalize set3 w1 bx px py pz = v7 at *
          obtain ⟨mf0, mf1, mf2⟩ := id mf7
          obtain ⟨ma0, ma1, ma2⟩ := id ma7
          obtain ⟨mi0, mi1, mi2⟩ := id mi7
          obtain ⟨mx0, mx1, mx2⟩ := id mx7
          have lb : w.heap.size + 1 ≤ v7.heap.size := by have := gv7.size; omega
          refine wp_region_build1 _ 12 (by kernel_rfl) (by kernel_rfl) (Gr.refl _) (d1 := some 145) rfl ?_
          intro s gs
          obtain ⟨Xs, Ys, cs, fs⟩ := gs.use
          have GC := @GrW.cell
          simp only [List.take_succ_cons, List.take_zero]
          repeat (go_big_quiet_step ((first | (go_at_call 113; exact quiet_grw (rvec_any _ _ _ _)))))
          refine wpQuiet_nil ?_
          clear GC cs fs gs
          refine ⟨fun BB => .slice (some ⟨BB, 0, none⟩) 1 1, #[iv ax, iv ay, iv az, iv ix, iv iy, iv iz, iv px, iv py, iv pz, iv wd, iv ln], 119, ⟨rfl, rfl, fun w => by go_simp⟩, ?_⟩
          intro B1 wq gq1 l1 ⟨b1, c1, f1⟩
          obtain ⟨Xq, Yq, cq, fq⟩ := gq1.use
          have sq := gq1.size
          (try simp only [World.size_alloc, World.size_setCell, World.heap_drewN] at sq l1)
          simp only [List.drop_succ_cons, List.drop_zero]
          refine wpList_append_lies _ (by rfl) _ _ _ (by rfl) (w.heap.size + 1) 119 i0 _ 11 88 Tryz.underlying120 hi0 hz0 hz1 hz2 rfl (by omega) _ (k + 1) FL (by rfl) (own_gr HOW.out (gv7.trans gq1)) ⟨B1, 0, none⟩ 1 1 (fcL ⟨ax, ay, az, ix, iy, iz, px, py, pz, wd, ln⟩) (by rfl) (by rfl) (by intro j u hu; rw [addr_add, Nat.zero_add, c1]; simpa using hu) (one_fc _) (by omega) (by unfold maxLen; omega) (by omega) (by omega) _ rfl ?_
          intro gg cap1 w8 hown8 hgrow hat hlt
          have ho8 := hide (FIN.out w8 gg cap1 (by rw [HE2.out]; exact hown8))
          have g8 := Gr.grown (show Gr _ _ from (g.trans gv7).trans gq1) hgrow (fun k hk => by have := (World.ownsRow.lt HOW.out k hk).1; simpa [World.size_alloc] using this)
          clear hown8 hgrow hat hlt FIN HOW c1 f1 cq fq
          go_wp2
          go_roundw
          case rel => exact ⟨k + 1, by omega, by go_num, g8, ho8.out⟩
          case measure => simp only [intOf]; omega
        · have HE2 := hide (show flR gf ⟨nm, (q : Int), sd, fo, wd, ln, 180⟩ (m.testBit k) = ⟨ax, ay, az, ix, iy, iz, al 0 (-1) wx, al 0 (-1) wy, al 0 (-1) wz, wd, ln⟩ by rw [hbit, HE.out]; rfl)
          have HAL := hide (fun w => (show Calls Tryz.prog 111 #[vc 0 0 0, iv (-1), vc wx wy wz] w fun e w' => e = .returned (vc (al 0 (-1) wx) (al 0 (-1) wy) (al 0 (-1) wz)) ∧ Gr w w' from along_any _ _ _ _ _ _ _ _))
          generalize al 0 (-1) wx = px at *
          generalize al 0 (-1) wy = py at *
          generalize al 0 (-1) wz = pz at *
          clear HE hbit
          go_upto_region 21 with (first | (go_at_call 111; refine (HAL.out _).mono ?_; rintro e w1 ⟨rfl, g1⟩; obtain ⟨X1, Y1, c1, f1⟩ := g1.use; have z1 := g1.size; (try simp only [World.size_alloc, World.size_setCell, World.heap_drewN, Nat.add_one_le_iff] at z1); (try have l0 : w.heap.size < w1.heap.size := by omega); (try have l1 : w.heap.size + 1 < w1.heap.size := by omega); (try have l2 : w.heap.size + 1 + 1 < w1.heap.size := by omega)))
          generalize hv : World.setCell _ _ _ = v7
          obtain rfl : v7 = set3 w1 bx px py pz := hv.symm
          clear hv
          have mf7 := Made.other3 (Made.gr mf' g1) px py pz xf
          have ma7 := Made.other3 (Made.gr ma' g1) px py pz xa
          have mi7 := Made.other3 (Made.gr mi' g1) px py pz xi
          have mx7 := Made.set3 (Made.gr mx g1) px py pz
          have gv7 : Gr wr (set3 w1 bx px py pz) := gr_set3 _ _ _ (gv6.trans g1) kbx
          clear mf' ma' mi' mx mw' mn gv6 mf0 mf1 mf2 ma0 ma1 ma2 mi0 mi1 mi2 mx0 mx1 mx2 mw0 mw1 mw2 mn0 mn1 mn2 c1 f1 z1
          generalize set3 w1 bx px py pz = v7 at *
          obtain ⟨mf0, mf1, mf2⟩ := id mf7
          obtain ⟨ma0, ma1, ma2⟩ := id ma7
          obtain ⟨mi0, mi1, mi2⟩ := id mi7
          obtain ⟨mx0, mx1, mx2⟩ := id mx7
          have lb : w.heap.size + 1 ≤ v7.heap.size := by have := gv7.size; omega
          refine wp_region_build1 _ 12 (by kernel_rfl) (by kernel_rfl) (Gr.refl _) (d1 := some 145) rfl ?_
          intro s gs
          obtain ⟨Xs, Ys, cs, fs⟩ := gs.use
          have GC := @GrW.cell
          simp only [List.take_succ_cons, List.take_zero]
          repeat (go_big_quiet_step ((first | (go_at_call 113; exact quiet_grw (rvec_any _ _ _ _)))))
          refine wpQuiet_nil ?_
          clear GC cs fs gs
          refine ⟨fun BB => .slice (some ⟨BB, 0, none⟩) 1 1, #[iv ax, iv ay, iv az, iv ix, iv iy, iv iz, iv px, iv py, iv pz, iv wd, iv ln], 119, ⟨rfl, rfl, fun w => by go_simp⟩, ?_⟩
          intro B1 wq gq1 l1 ⟨b1, c1, f1⟩
          obtain ⟨Xq, Yq, cq, fq⟩ := gq1.use
          have sq := gq1.size
          (try simp only [World.size_alloc, World.size_setCell, World.heap_drewN] at sq l1)
          simp only [List.drop_succ_cons, List.drop_zero]
          refine wpList_append_lies _ (by rfl) _ _ _ (by rfl) (w.heap.size + 1) 119 i0 _ 11 88 Tryz.underlying120 hi0 hz0 hz1 hz2 rfl (by omega) _ (k + 1) FL (by rfl) (own_gr HOW.out (gv7.trans gq1)) ⟨B1, 0, none⟩ 1 1 (fcL ⟨ax, ay, az, ix, iy, iz, px, py, pz, wd, ln⟩) (by rfl) (by rfl) (by intro j u hu; rw [addr_add, Nat.zero_add, c1]; simpa using hu) (one_fc _) (by omega) (by unfold maxLen; omega) (by omega) (by omega) _ rfl ?_
          intro gg cap1 w8 hown8 hgrow hat hlt
          have ho8 := hide (FIN.out w8 gg cap1 (by rw [HE2.out]; exact hown8))
          have g8 := Gr.grown (show Gr _ _ from (g.trans gv7).trans gq1) hgrow (fun k hk => by have := (World.ownsRow.lt HOW.out k hk).1; simpa [World.size_alloc] using this)
          clear hown8 hgrow hat hlt FIN HOW c1 f1 cq fq
          go_wp2
          go_roundw
          case rel => exact ⟨k + 1, by omega, by go_num, g8, ho8.out⟩
          case measure => simp only [intOf]; omega
        · have HE2 := hide (show flR gf ⟨nm, (q : Int), sd, fo, wd, ln, -180⟩ (m.testBit k) = ⟨ax, ay, az, ix, iy, iz, al 0 (-1) wx, al 0 (-1) wy, al 0 (-1) wz, wd, ln⟩ by rw [hbit, HE.out]; rfl)
          have HAL := hide (fun w => (show Calls Tryz.prog 111 #[vc 0 0 0, iv (-1), vc wx wy wz] w fun e w' => e = .returned (vc (al 0 (-1) wx) (al 0 (-1) wy) (al 0 (-1) wz)) ∧ Gr w w' from along_any _ _ _ _ _ _ _ _))
          generalize al 0 (-1) wx = px at *
          generalize al 0 (-1) wy = py at *
          generalize al 0 (-1) wz = pz at *
          clear HE hbit
          go_upto_region 21 with (first | (go_at_call 111; refine (HAL.out _).mono ?_; rintro e w1 ⟨rfl, g1⟩; obtain ⟨X1, Y1, c1, f1⟩ := g1.use; have z1 := g1.size; (try simp only [World.size_alloc, World.size_setCell, World.heap_drewN, Nat.add_one_le_iff] at z1); (try have l0 : w.heap.size < w1.heap.size := by omega); (try have l1 : w.heap.size + 1 < w1.heap.size := by omega); (try have l2 : w.heap.size + 1 + 1 < w1.heap.size := by omega)))
          generalize hv : World.setCell _ _ _ = v7
          obtain rfl : v7 = set3 w1 bx px py pz := hv.symm
          clear hv
          have mf7 := Made.other3 (Made.gr mf' g1) px py pz xf
          have ma7 := Made.other3 (Made.gr ma' g1) px py pz xa
          have mi7 := Made.other3 (Made.gr mi' g1) px py pz xi
          have mx7 := Made.set3 (Made.gr mx g1) px py pz
          have gv7 : Gr wr (set3 w1 bx px py pz) := gr_set3 _ _ _ (gv6.trans g1) kbx
          clear mf' ma' mi' mx mw' mn gv6 mf0 mf1 mf2 ma0 ma1 ma2 mi0 mi1 mi2 mx0 mx1 mx2 mw0 mw1 mw2 mn0 mn1 mn2 c1 f1 z1
          generalize set3 w1 bx px py pz = v7 at *
          obtain ⟨mf0, mf1, mf2⟩ := id mf7
          obtain ⟨ma0, ma1, ma2⟩ := id ma7
          obtain ⟨mi0, mi1, mi2⟩ := id mi7
          obtain ⟨mx0, mx1, mx2⟩ := id mx7
          have lb : w.heap.size + 1 ≤ v7.heap.size := by have := gv7.size; omega
          refine wp_region_build1 _ 12 (by kernel_rfl) (by kernel_rfl) (Gr.refl _) (d1 := some 145) rfl ?_
          intro s gs
          obtain ⟨Xs, Ys, cs, fs⟩ := gs.use
          have GC := @GrW.cell
          simp only [List.take_succ_cons, List.take_zero]
          repeat (go_big_quiet_step ((first | (go_at_call 113; exact quiet_grw (rvec_any _ _ _ _)))))
          refine wpQuiet_nil ?_
          clear GC cs fs gs
          refine ⟨fun BB => .slice (some ⟨BB, 0, none⟩) 1 1, #[iv ax, iv ay, iv az, iv ix, iv iy, iv iz, iv px, iv py, iv pz, iv wd, iv ln], 119, ⟨rfl, rfl, fun w => by go_simp⟩, ?_⟩
          intro B1 wq gq1 l1 ⟨b1, c1, f1⟩
          obtain ⟨Xq, Yq, cq, fq⟩ := gq1.use
          have sq := gq1.size
          (try simp only [World.size_alloc, World.size_setCell, World.heap_drewN] at sq l1)
          simp only [List.drop_succ_cons, List.drop_zero]
          refine wpList_append_lies _ (by rfl) _ _ _ (by rfl) (w.heap.size + 1) 119 i0 _ 11 88 Tryz.underlying120 hi0 hz0 hz1 hz2 rfl (by omega) _ (k + 1) FL (by rfl) (own_gr HOW.out (gv7.trans gq1)) ⟨B1, 0, none⟩ 1 1 (fcL ⟨ax, ay, az, ix, iy, iz, px, py, pz, wd, ln⟩) (by rfl) (by rfl) (by intro j u hu; rw [addr_add, Nat.zero_add, c1]; simpa using hu) (one_fc _) (by omega) (by unfold maxLen; omega) (by omega) (by omega) _ rfl ?_
          intro gg cap1 w8 hown8 hgrow hat hlt
          have ho8 := hide (FIN.out w8 gg cap1 (by rw [HE2.out]; exact hown8))
          have g8 := Gr.grown (show Gr _ _ from (g.trans gv7).trans gq1) hgrow (fun k hk => by have := (World.ownsRow.lt HOW.out k hk).1; simpa [World.size_alloc] using this)
          clear hown8 hgrow hat hlt FIN HOW c1 f1 cq fq
          go_wp2
          go_roundw
          case rel => exact ⟨k + 1, by omega, by go_num, g8, ho8.out⟩
          case measure => simp only [intOf]; omega
    · obtain rfl : k = p.fl.length := by omega
      have zr := g.size
      simp only [World.size_alloc] at zr
      have l0 : w.heap.size < wr.heap.size := by omega
      go_wp2
      go_ret
      exact ⟨_, rfl, by have := HO.out.weak (Nat.le_succ w.heap.size); rw [hlen] at this; exact this, gW⟩
end Go.Proofs.YtdabhnefoigebaaGreat
