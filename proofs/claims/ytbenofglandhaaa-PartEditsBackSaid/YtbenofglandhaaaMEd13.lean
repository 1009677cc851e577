/-
  PartEditsBack: the law where Apply makes the edit, kinds 4.
-/
import Derived.Test.YtbenofglandhaaaME
set_option linter.unusedVariables false
set_option linter.unusedSimpArgs false
namespace Go.Proofs.Ytbenofglandhaaa
set_option linter.unusedVariables false
set_option linter.unusedSimpArgs false
open Go Go.ChangeShapes Go.WideShapes Go.ChangeAt Go.RowKit Go.Deep

set_option maxRecDepth 100000 in
set_option maxHeartbeats 16000000 in
theorem back_k4 (p : Pa) (A B : Option Addr) (c d : Nat) (x : Ed) (w : World) (hX : PaX w p A c B d) (hb : bgB p = false) (hn : ¬ 300 < x.fl.nm.size) (hx : x.fl.nm.size ≤ 2 ^ 63 - 1) (h0 : apE p x = 0) (hk : x.k = 4) :
    Calls Try.prog 4 #[pav p A c B d, edv x] w fun e w' => e = .returned (.bool true) ∧ Gr w w' := by
  have hP := hX.small hb
  have HBG := hide (fun (w' : World) (g : Gr w w') => big_any p A B c d w' (hX.gr g))
  rw [hb] at HBG
  have HAP := hide (fun (w' : World) (g : Gr w w') => Apply_any p A B c d x w' (hP.gr g) (by omega))
  clear hb hX
  obtain ⟨hv, hc, hvq⟩ := apE_zero h0
  have hG := good_of hv
  have n1 := hG.nfl
  have n2 := hG.nho
  have hce := ce_zero hc
  rw [apP_ok h0, h0] at HAP
  have HQW := hide (fun (w' : World) (A' B' : Option Addr) (c' d' lo1 lo2 : Nat) (h1 : OwnL w' lo1 27 7 flL (.slice A' (edP p x).fl.length c') (edP p x).fl) (h2 : OwnL w' lo2 29 6 hoL (.slice B' (edP p x).ho.length d') (edP p x).ho) => ed_paw hP (by omega) hv h1 h2)
  have HBK := hide (fun (h4 : x.k = 4 → x.i = (p.fl.length : Int) - 1) (h6 : x.k = 6 → x.i = (p.ho.length : Int) - 1) => bk_ok h0 h4 h6)
  have HA2 := hide (fun (z : Ed) (hz : z.fl.nm.size ≤ 1000) (w' : World) (A' B' : Option Addr) (c' d' : Nat) (hq : PaW w' (edP p x) A' c' B' d') => Apply_any (edP p x) A' B' c' d' z w' hq hz)
  have HEP := hide (fun (w' : World) (g : Gr w w') (A' B' : Option Addr) (c' d' lo1 lo2 : Nat) (h1 : OwnL w' lo1 27 7 flL (.slice A' p.fl.length c') p.fl) (h2 : OwnL w' lo2 29 6 hoL (.slice B' p.ho.length d') p.ho) => cEqual_any p p A' B' A B c' d' c d w' (paW_of h1 h2 (by omega) (by omega) hP.fl.nm hP.nm hP.mt) (hP.gr g))
  rw [eqB_self] at HEP
  have HL4 := hide (fun (hk : x.k = 4) (i : Nat) (hi : x.i = i) (hl : i < p.fl.length) => ed_len4 hk hi hl)
  have HL6 := hide (fun (hk : x.k = 6) (i : Nat) (hi : x.i = i) (hl : i < p.ho.length) => ed_len6 hk hi hl)
  have HP := hide hP
  clear hP h0 hv hc hvq hG
  obtain ⟨q, hq⟩ : ∃ q, edP p x = q := ⟨_, rfl⟩
  rw [hq] at HAP HQW HBK HA2 HL4 HL6
  clear hq
  obtain ⟨k, xi, fl, ho, ww, hh⟩ := x
  dsimp only at hn hx hce hk
  subst hk
  obtain ⟨i, hxi, hi⟩ : ∃ i : Nat, xi = (i : Int) ∧ i < p.fl.length := by rcases hce with h | h | h | ⟨h, q⟩ | ⟨h, q, _⟩ | ⟨h, q⟩ <;> first | exact q | (exact absurd h (by decide))
  subst hxi
  clear hce
  have hnb : decide (300 < fl.nm.size) = false := by simpa using hn
  have hnb' : decide ((300 : Int) < (fl.nm.size : Int)) = false := by simp only [decide_eq_false_iff_not]; omega
  obtain ⟨w0, hw0⟩ : ∃ w0, (w.alloc (.cells #[.string p.nm, .string p.mt, iv p.ga, iv p.gr, iv p.wd, iv p.ht, .slice A p.fl.length c, .slice B p.ho.length d] 25)).alloc (.cells #[iv 4, iv (i : Int), .string fl.nm, iv fl.pa, iv fl.sd, iv fl.o, iv fl.wd, iv fl.ln, iv fl.an, iv ho.fa, iv ho.kd, iv ho.x, iv ho.y, iv ho.w, iv ho.h, iv ww, iv hh] 31) = w0 := ⟨_, rfl⟩
  have gw0 : Gr w w0 := by rw [← hw0]; exact Gr.alloc (Gr.alloc (Gr.refl _) _) _
  have s0 : w0.heap.size = w.heap.size + 2 := by rw [← hw0]; simp
  have kp : Bx8 w0 w.heap.size (.string p.nm) (.string p.mt) (iv p.ga) (iv p.gr) (iv p.wd) (iv p.ht) (.slice A p.fl.length c) (.slice B p.ho.length d) := by rw [← hw0]; constructor <;> simp [go_sem]
  have ke : BxE w0 (w.heap.size + 1) ⟨4, (i : Int), fl, ho, ww, hh⟩ := by rw [← hw0]; constructor <;> simp [go_sem]
  have KP := hide kp
  have KE := hide ke
  clear ke
  obtain ⟨xl, x0, x1, x2, x3, x4, x5, x6, x7, xf⟩ := kp
  go_enter Try.func4, Try.ntmps4
  go_upto_region 1 with fail
  clear hw0
  go_wp2_with fail
  refine (HBG.out _ gw0).mono ?_
  rintro e w1 ⟨rfl, g1⟩
  have gw1 : Gr w w1 := gw0.trans g1
  have z1 := g1.size
  have KP1 := hide (KP.out.gr g1)
  have KE1 := hide (KE.out.gr g1)
  clear xl x0 x1 x2 x3 x4 x5 x6 x7 xf KP KE HBG
  obtain ⟨xl, x0, x1, x2, x3, x4, x5, x6, x7, xf⟩ := KP1.out
  have e2 := KE1.out.c2
  have el := KE1.out.lt
  dsimp only at e2
  go_wp2_with (refine wpList_loadE rfl _ rfl _ _ rfl KE1.out ?_)
  refine (HAP.out _ gw1).mono ?_
  rintro e w2 ⟨A1, c1, B1, d1, rfl, o1, o2, dj, g2⟩
  have gw2 : Gr w w2 := gw1.trans g2
  have z2 := g2.size
  have hqw := HQW.out _ _ _ _ _ _ _ o1 o2
  have HW2 := hide hqw
  obtain ⟨wa, hwa⟩ : ∃ wa, w2.alloc (.cells #[.string q.nm, .string q.mt, iv q.ga, iv q.gr, iv q.wd, iv q.ht, .slice A1 q.fl.length c1, .slice B1 q.ho.length d1] 25) = wa := ⟨_, rfl⟩
  have gq : Gr w2 wa := by rw [← hwa]; exact Gr.alloc (Gr.refl _) _
  have sa : wa.heap.size = w2.heap.size + 1 := by rw [← hwa]; simp
  have kq : Bx8 wa w2.heap.size (.string q.nm) (.string q.mt) (iv q.ga) (iv q.gr) (iv q.wd) (iv q.ht) (.slice A1 q.fl.length c1) (.slice B1 q.ho.length d1) := by rw [← hwa]; constructor <;> simp [go_sem]
  have TA := hide (show Tri wa w.heap.size (w.heap.size + 1) w2.heap.size p A c B d ⟨4, (i : Int), fl, ho, ww, hh⟩ q A1 c1 B1 d1 from ⟨(KP1.out.gr g2).gr gq, (KE1.out.gr g2).gr gq, kq⟩)
  have gwa : Gr w wa := gw2.trans gq
  clear xl x0 x1 x2 x3 x4 x5 x6 x7 xf e2 el KP1 KE1 hqw o1 o2 dj kq HQW HAP hnb hnb' hn hx
  go_upto_region 6 with fail
  clear hwa
  obtain ⟨xl, x0, x1, x2, x3, x4, x5, x6, x7, xf⟩ := TA.out.p
  obtain ⟨w9, hw9⟩ : ∃ w9, wa.alloc (.cells #[iv 1, iv 0, .string ⟨#[]⟩, iv 0, iv 0, iv 0, iv 0, iv 0, iv 0, iv 0, iv 0, iv 0, iv 0, iv 0, iv 0, iv p.wd, iv p.ht] 31) = w9 := ⟨_, rfl⟩
  have ga9 : Gr wa w9 := by rw [← hw9]; exact Gr.alloc (Gr.refl _) _
  have s9 : w9.heap.size = wa.heap.size + 1 := by rw [← hw9]; simp
  have HT9 := hide (show w9.there (w2.heap.size + 1) 0 17 by rw [← hw9]; exact there_new _ _ _ 17 _ sa.symm rfl)
  have KB9 := hide (show BxE w9 (w2.heap.size + 1) ⟨1, 0, fl0, ho0, p.wd, p.ht⟩ by rw [← hw9, ← sa]; constructor <;> simp [go_sem, fl0, ho0])
  have T9 := hide (TA.out.gr ga9)
  have gw9 : Gr w w9 := gwa.trans ga9
  have g29 : Gr w2 w9 := gq.trans ga9
  go_upto_region 7 with fail
  clear hw9 xl x0 x1 x2 x3 x4 x5 x6 x7 xf TA
  obtain ⟨xl, x0, x1, x2, x3, x4, x5, x6, x7, xf⟩ := T9.out.p
  have e0 := T9.out.x.c0
  have e1 := T9.out.x.c1
  have ell := T9.out.x.lt
  dsimp only at e0 e1
  have l2 : w2.heap.size < w9.heap.size := by omega
  have la : w2.heap.size + 1 < w9.heap.size := by omega
  obtain ⟨f, hf⟩ : ∃ f, p.fl[i]? = some f := ⟨_, List.getElem?_eq_getElem hi⟩
  obtain ⟨bf, off, hA, r0, r1, r2, r3, r4, r5, r6⟩ := HP.out.fl.rd.fl hf
  subst hA
  have hbf : bf < w.heap.size := cell_lt (by rw [r0]; rfl)
  have hnm := HP.out.fl.nm f (List.mem_of_getElem? hf)
  have r0 := (gw9.cell _ _ hbf).trans r0
  have r1 := (gw9.cell _ _ hbf).trans r1
  have r2 := (gw9.cell _ _ hbf).trans r2
  have r3 := (gw9.cell _ _ hbf).trans r3
  have r4 := (gw9.cell _ _ hbf).trans r4
  have r5 := (gw9.cell _ _ hbf).trans r5
  have r6 := (gw9.cell _ _ hbf).trans r6
  have hbr : bf < w9.heap.size := by omega
  have hi0 : (0 : Int) ≤ (i : Int) := by omega
  have hi1 : (i : Int) < (p.fl.length : Int) := by omega
  have hi2 : decide ((p.fl.length : Int) ≤ (i : Int)) = false := by simp only [decide_eq_false_iff_not]; omega
  have hi3 : decide (p.fl.length ≤ i) = false := by simp only [decide_eq_false_iff_not]; omega
  have hi4 : decide ((i : Int) < 0) = false := by simp only [decide_eq_false_iff_not]; omega
  have V1 : IntKind.i64.wrap ((p.fl.length : Int) - 1) = (p.fl.length : Int) - 1 := IntWalk.i64_in _ (by omega)
  by_cases hla : i + 1 = p.fl.length
  · have HZ := hide (show bkE p ⟨4, (i : Int), fl, ho, ww, hh⟩ = ⟨3, 0, f, ho0, 0, 0⟩ by unfold bkE; simp [hf])
    have hne : ((i : Int) != (p.fl.length : Int) - 1) = false := by rw [bne_eq_false_iff_eq]; omega
    have HB2 := hide (HBK.out (fun h => by first | (exact absurd h (by decide)) | omega) (fun h => by first | (exact absurd h (by decide)) | omega))
    clear hf hla
    go_upto_region 19 with fail
    have hE10 := bxE_of (World.rangeAt_setCells_same w9 (w2.heap.size + 1) 0 (edL ⟨3, 0, f, ho0, 0, 0⟩) HT9.out)
    have hb10 := But.over (w2.heap.size + 1) (edL ⟨3, 0, f, ho0, 0, 0⟩) 0 w9
    have gw10 : Gr w (w9.setCells (w2.heap.size + 1) 0 (edL ⟨3, 0, f, ho0, 0, 0⟩)) := gr_over (a := w) (show w.heap.size ≤ w2.heap.size + 1 by omega) _ _ gw9
    have g210 : Gr w2 (w9.setCells (w2.heap.size + 1) 0 (edL ⟨3, 0, f, ho0, 0, 0⟩)) := gr_over (a := w2) (show w2.heap.size ≤ w2.heap.size + 1 by omega) _ _ g29
    obtain ⟨w10, hw10⟩ : ∃ w10, w9.setCells (w2.heap.size + 1) 0 (edL ⟨3, 0, f, ho0, 0, 0⟩) = w10 := ⟨_, rfl⟩
    rw [hw10] at hE10 hb10 gw10 g210
    have hw11 : (((((((((((((((((w9.setCell ⟨w2.heap.size + 1, 0, none⟩ (iv 3)).setCell ⟨w2.heap.size + 1, 1, none⟩ (iv 0)).setCell ⟨w2.heap.size + 1, 2, none⟩ (.string f.nm)).setCell ⟨w2.heap.size + 1, 3, none⟩ (iv f.pa)).setCell ⟨w2.heap.size + 1, 4, none⟩ (iv f.sd)).setCell ⟨w2.heap.size + 1, 5, none⟩ (iv f.o)).setCell ⟨w2.heap.size + 1, 6, none⟩ (iv f.wd)).setCell ⟨w2.heap.size + 1, 7, none⟩ (iv f.ln)).setCell ⟨w2.heap.size + 1, 8, none⟩ (iv f.an)).setCell ⟨w2.heap.size + 1, 9, none⟩ (iv 0)).setCell ⟨w2.heap.size + 1, 10, none⟩ (iv 0)).setCell ⟨w2.heap.size + 1, 11, none⟩ (iv 0)).setCell ⟨w2.heap.size + 1, 12, none⟩ (iv 0)).setCell ⟨w2.heap.size + 1, 13, none⟩ (iv 0)).setCell ⟨w2.heap.size + 1, 14, none⟩ (iv 0)).setCell ⟨w2.heap.size + 1, 15, none⟩ (iv 0)).setCell ⟨w2.heap.size + 1, 16, none⟩ (iv 0)) = w10 := hw10
    have KB10 := hide hE10
    have T10 := hide (T9.out.but hb10 (by omega) (by omega) (by omega))
    have ht9 : ∀ j, j < 17 → (w9.cell? ⟨w2.heap.size + 1, j, none⟩).isSome = true ∧ w9.frozen? ⟨w2.heap.size + 1, j, none⟩ = false := fun j hj => by have := HT9.out j hj; rwa [Nat.zero_add] at this
    have u0 := (ht9 0 (by decide)).2
    have u1 := (ht9 1 (by decide)).2
    have u2 := (ht9 2 (by decide)).2
    have u3 := (ht9 3 (by decide)).2
    have u4 := (ht9 4 (by decide)).2
    have u5 := (ht9 5 (by decide)).2
    have u6 := (ht9 6 (by decide)).2
    have u7 := (ht9 7 (by decide)).2
    have u8 := (ht9 8 (by decide)).2
    have u9 := (ht9 9 (by decide)).2
    have u10 := (ht9 10 (by decide)).2
    have u11 := (ht9 11 (by decide)).2
    have u12 := (ht9 12 (by decide)).2
    have u13 := (ht9 13 (by decide)).2
    have u14 := (ht9 14 (by decide)).2
    have u15 := (ht9 15 (by decide)).2
    have u16 := (ht9 16 (by decide)).2
    obtain ⟨_, b0, b1, b2, b3, b4, b5, b6, b7, b8, b9, b10, b11, b12, b13, b14, b15, b16⟩ := KB9.out
    dsimp only [fl0, ho0] at b0 b1 b2 b3 b4 b5 b6 b7 b8 b9 b10 b11 b12 b13 b14 b15 b16
    clear hw10 hE10 hb10 ht9
    go_upto_region 20 with fail
    clear hw11 b0 b1 b2 b3 b4 b5 b6 b7 b8 b9 b10 b11 b12 b13 b14 b15 b16 u0 u1 u2 u3 u4 u5 u6 u7 u8 u9 u10 u11 u12 u13 u14 u15 u16
    obtain ⟨vl, v0, v1, v2, v3, v4, v5, v6, v7, vf⟩ := T10.out.p
    have f0 := T10.out.x.c0
    have f1 := T10.out.x.c1
    have fll := T10.out.x.lt
    dsimp only at f0 f1
    go_upto_region 24 with fail
    clear vl v0 v1 v2 v3 v4 v5 v6 v7 vf f0 f1 fll hne
    have hbk := HB2.out
    have HA3 := hide (fun (hz : (bkE p ⟨4, (i : Int), fl, ho, ww, hh⟩).fl.nm.size ≤ 1000) (w' : World) (A' B' : Option Addr) (c' d' : Nat) (hq : PaW w' q A' c' B' d') => HA2.out (bkE p ⟨4, (i : Int), fl, ho, ww, hh⟩) hz w' A' B' c' d' hq)
    rw [hbk.1, hbk.2, HZ.out] at HA3
    have HA4 := hide (HA3.out hnm)
    clear hbk HA2 HA3 HBK xl x0 x1 x2 x3 x4 x5 x6 x7 xf e0 e1 ell HL4 HL6
    obtain ⟨yl, y0, y1, y2, y3, y4, y5, y6, y7, yf⟩ := T10.out.q
    go_wp2_with (refine wpList_loadE rfl _ rfl _ _ rfl KB10.out ?_)
    refine (HA4.out _ A1 B1 c1 d1 (HW2.out.gr g210)).mono ?_
    rintro e w11 ⟨A5, c5, B5, d5, rfl, o5, p5, dj5, g11⟩
    have gw11 : Gr w w11 := gw10.trans g11
    have O5 := hide o5
    have P5 := hide p5
    clear yl y0 y1 y2 y3 y4 y5 y6 y7 yf HA4 o5 p5 dj5
    obtain ⟨xl, x0, x1, x2, x3, x4, x5, x6, x7, xf⟩ := T10.out.p.gr g11
    obtain ⟨wb, hwb⟩ : ∃ wb, w11.alloc (.cells #[.string p.nm, .string p.mt, iv p.ga, iv p.gr, iv p.wd, iv p.ht, .slice A5 p.fl.length c5, .slice B5 p.ho.length d5] 25) = wb := ⟨_, rfl⟩
    have gb : Gr w11 wb := by rw [← hwb]; exact Gr.alloc (Gr.refl _) _
    have kb : Bx8 wb w11.heap.size (.string p.nm) (.string p.mt) (iv p.ga) (iv p.gr) (iv p.wd) (iv p.ht) (.slice A5 p.fl.length c5) (.slice B5 p.ho.length d5) := by rw [← hwb]; constructor <;> simp [go_sem]
    go_upto_region 25 with fail
    clear hwb xl x0 x1 x2 x3 x4 x5 x6 x7 xf
    obtain ⟨xl, x0, x1, x2, x3, x4, x5, x6, x7, xf⟩ := (T10.out.p.gr g11).gr gb
    obtain ⟨yl, y0, y1, y2, y3, y4, y5, y6, y7, yf⟩ := kb
    go_wp2_with fail
    refine (HEP.out _ (gw11.trans gb) A5 B5 c5 d5 _ _ (O5.out.gr gb) (P5.out.gr gb)).mono ?_
    rintro e w12 ⟨rfl, g12⟩
    have gw12 : Gr w w12 := (gw11.trans gb).trans g12
    clear xl x0 x1 x2 x3 x4 x5 x6 x7 xf yl y0 y1 y2 y3 y4 y5 y6 y7 yf HEP
    go_wp2_with (first | (go_at_call 6; refine (known_any _).mono ?_; rintro e w1 ⟨rfl, g1⟩; obtain ⟨X1, Y1, c1, f1⟩ := g1.use))
    go_ret
    exact ⟨rfl, gw12.trans (by repeat (first | with_reducible exact Gr.refl _ | with_reducible assumption | with_reducible refine Gr.alloc ?_ _ | with_reducible refine Gr.drewN ?_ _ | with_reducible refine Gr.drew ?_ | with_reducible refine Gr.setCell ?_ (by first | (dsimp only; omega) | (simp only [World.size_alloc]; omega) | (with_reducible refine Gr.size ?_; (repeat (first | with_reducible exact Gr.refl _ | with_reducible assumption | with_reducible refine Gr.alloc ?_ _ | with_reducible refine Gr.drewN ?_ _ | with_reducible refine Gr.drew ?_ | with_reducible refine Gr.trans ?_ (by with_reducible assumption))); done)) _ | with_reducible refine Gr.trans ?_ (by with_reducible assumption)))⟩
  · have hql := HL4.out (by first | trivial | rfl) i (by first | trivial | rfl) hi
    have hne : ((i : Int) != (p.fl.length : Int) - 1) = true := by rw [bne_iff_ne]; omega
    have hqq : ((q.fl.length : Int) == (p.fl.length : Int) - 1) = true := by rw [beq_iff_eq, hql]; omega
    have HQQ := hide hql
    clear hql HL4 HL6 HBK HA2 hf hla
    obtain ⟨yl, y0, y1, y2, y3, y4, y5, y6, y7, yf⟩ := T9.out.q
    go_wp2_with (first | (go_at_call 6; refine (known_any _).mono ?_; rintro e w1 ⟨rfl, g1⟩; obtain ⟨X1, Y1, c1, f1⟩ := g1.use))
    go_ret
    exact ⟨rfl, gw9.trans (by repeat (first | with_reducible exact Gr.refl _ | with_reducible assumption | with_reducible refine Gr.alloc ?_ _ | with_reducible refine Gr.drewN ?_ _ | with_reducible refine Gr.drew ?_ | with_reducible refine Gr.setCell ?_ (by first | (dsimp only; omega) | (simp only [World.size_alloc]; omega) | (with_reducible refine Gr.size ?_; (repeat (first | with_reducible exact Gr.refl _ | with_reducible assumption | with_reducible refine Gr.alloc ?_ _ | with_reducible refine Gr.drewN ?_ _ | with_reducible refine Gr.drew ?_ | with_reducible refine Gr.trans ?_ (by with_reducible assumption))); done)) _ | with_reducible refine Gr.trans ?_ (by with_reducible assumption)))⟩
end Go.Proofs.Ytbenofglandhaaa
