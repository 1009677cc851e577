/-
  Blocks that the call has made: stores into them.
  Parts: the faces of a part, in the reference.
  The reference's Clash; PartClashes: the walk.
  Parts: the reference's Validate.
  Parts: the reference's Validate behind the limits.
-/
import Derived.Test.YtefjgfglommefaaMVal16
import Derived.Test.YtefjgfglommefaaMix2
import Derived.Test.YtefjgfglommefaaMVal15
import Derived.Test.YtefjgfglommefaaVal10
import Derived.Test.YtefjgfglommefaaClash8
import Derived.Test.YtefjgfglommefaaMVal17
set_option linter.unusedVariables false
set_option linter.unusedSimpArgs false
namespace Go.Proofs.Ytefjgfglommefaa
set_option linter.unusedVariables false
set_option linter.unusedSimpArgs false
open Go Go.ChangeShapes Go.WideShapes Go.ChangeAt Go.RowKit Go.Deep

theorem Made.other1 {w : World} {C : Nat} {z : Array Value} (h : Made w C z) {B i : Nat} (v : Value) (hne : C ≠ B) : Made (w.setCell ⟨B, i, none⟩ v) C z := by
  obtain ⟨h0, h1, h2⟩ := h
  refine ⟨by simpa using h0, fun o => ?_, fun o => ?_⟩
  · have := h1 o
    simp [go_sem, hne, this]
  · have := h2 o
    simp [go_sem, hne, this]
/-- three numbers stored at a block -/
def set3 (w : World) (B : Nat) (x y z : Int) : World := ((w.setCell ⟨B, 0, none⟩ (iv x)).setCell ⟨B, 1, none⟩ (iv y)).setCell ⟨B, 2, none⟩ (iv z)
def set2 (w : World) (B : Nat) (x y : Int) : World := (w.setCell ⟨B, 0, none⟩ (iv x)).setCell ⟨B, 1, none⟩ (iv y)
theorem Made.other3 {w : World} {C : Nat} {a : Array Value} (h : Made w C a) {B : Nat} (x y z : Int) (hne : C ≠ B) : Made (set3 w B x y z) C a :=
  ((h.other1 _ hne).other1 _ hne).other1 _ hne
theorem Made.other2 {w : World} {C : Nat} {a : Array Value} (h : Made w C a) {B : Nat} (x y : Int) (hne : C ≠ B) : Made (set2 w B x y) C a :=
  (h.other1 _ hne).other1 _ hne
theorem Made.set3 {w : World} {B : Nat} {a b c : Value} (h : Made w B #[a, b, c]) (x y z : Int) : Made (Go.Proofs.Ytefjgfglommefaa.set3 w B x y z) B #[iv x, iv y, iv z] := by
  obtain ⟨h0, h1, h2⟩ := h
  unfold Go.Proofs.Ytefjgfglommefaa.set3
  refine ⟨by simpa using h0, fun o => ?_, fun o => ?_⟩
  · have e0 := h1 0
    have e1 := h1 1
    have e2 := h1 2
    have eo := h1 o
    simp at e0 e1 e2
    rcases (by omega : o = 0 ∨ o = 1 ∨ o = 2 ∨ 3 ≤ o) with rfl | rfl | rfl | ho
    · simp [go_sem, e0, e1, e2]
    · simp [go_sem, e0, e1, e2]
    · simp [go_sem, e0, e1, e2]
    · rw [Array.getElem?_eq_none (by simpa using ho)] at eo
      rw [Array.getElem?_eq_none (by simpa using ho)]
      have n0 : ¬ o = 0 := by omega
      have n1 : ¬ o = 1 := by omega
      have n2 : ¬ o = 2 := by omega
      simp [go_sem, e0, e1, e2, eo, n0, n1, n2]
  · have := h2 o
    simp [go_sem, this]
theorem Made.set2 {w : World} {B : Nat} {a b : Value} (h : Made w B #[a, b]) (x y : Int) : Made (Go.Proofs.Ytefjgfglommefaa.set2 w B x y) B #[iv x, iv y] := by
  obtain ⟨h0, h1, h2⟩ := h
  unfold Go.Proofs.Ytefjgfglommefaa.set2
  refine ⟨by simpa using h0, fun o => ?_, fun o => ?_⟩
  · have e0 := h1 0
    have e1 := h1 1
    have eo := h1 o
    simp at e0 e1
    rcases (by omega : o = 0 ∨ o = 1 ∨ 2 ≤ o) with rfl | rfl | ho
    · simp [go_sem, e0, e1]
    · simp [go_sem, e0, e1]
    · rw [Array.getElem?_eq_none (by simpa using ho)] at eo
      rw [Array.getElem?_eq_none (by simpa using ho)]
      have n0 : ¬ o = 0 := by omega
      have n1 : ¬ o = 1 := by omega
      simp [go_sem, e0, e1, eo, n0, n1]
  · have := h2 o
    simp [go_sem, this]
theorem gr_set3 {w0 w : World} {B : Nat} (x y z : Int) (g : Gr w0 w) (h : w0.heap.size ≤ B) : Gr w0 (set3 w B x y z) := by
  unfold set3
  exact Gr.setCell (Gr.setCell (Gr.setCell g (by dsimp only; omega) _) (by dsimp only; omega) _) (by dsimp only; omega) _
theorem gr_set2 {w0 w : World} {B : Nat} (x y : Int) (g : Gr w0 w) (h : w0.heap.size ≤ B) : Gr w0 (set2 w B x y) := by
  unfold set2
  exact Gr.setCell (Gr.setCell g (by dsimp only; omega) _) (by dsimp only; omega) _
theorem size_set3 (w : World) (B : Nat) (x y z : Int) : (set3 w B x y z).heap.size = w.heap.size := by
  unfold set3
  simp only [World.size_setCell]
theorem size_set2 (w : World) (B : Nat) (x y : Int) : (set2 w B x y).heap.size = w.heap.size := by
  unfold set2
  simp only [World.size_setCell]
end Go.Proofs.Ytefjgfglommefaa
set_option linter.unusedVariables false
set_option linter.unusedSimpArgs false
namespace Go.Proofs.Ytefjgfglommefaa
set_option linter.unusedVariables false
set_option linter.unusedSimpArgs false
open Go Go.ChangeShapes Go.WideShapes Go.ChangeAt Go.RowKit Go.Deep

theorem shr_all : ∀ (m : Fin 64) (k : Fin 6), (bits BinOp.and IntKind.i64 (((m.val : Nat) : Int) / 2 ^ k.val) 1 == 1) = m.val.testBit k.val := by decide +kernel
theorem shr_bit (m k : Nat) (hm : m < 64) (hk : k < 6) : (bits BinOp.and IntKind.i64 ((m : Int) / 2 ^ k) 1 == 1) = m.testBit k := shr_all ⟨m, hm⟩ ⟨k, hk⟩
theorem al_zero (k b : Int) : al 0 k b = wrap64 (wrap64 (k * b)) := by
  unfold al
  rw [Int.zero_add]
set_option maxRecDepth 100000 in
set_option maxHeartbeats 8000000 in
theorem place_any (p : Pa) (A B : Option Addr) (c d : Nat) (m : Nat) (w : World) (hF : SlF w A c p.fl) (hl : p.fl.length ≤ 5) (hm : m < 64) (ok : Fit p.fl) :
    Calls Try.prog 48 #[pav p A c B d, iv m] w fun e w' => ∃ v, e = .returned v ∧ OwnL w' w.heap.size 44 11 fcL v (facs flR p.wd p.ht p.fl (fun i => m.testBit i) p.fl.length) ∧ Gr w w' := by
  obtain ⟨i0, hi0, hz0, hz1, hz2⟩ := info_parts infoFc
  have HF := hide hF
  have HOK := hide ok
  clear hF ok
  go_enter Try.func48, Try.ntmps48
  go_wp2
  go_loopw [5, 6] (fun v i wr => ∃ k : Nat, k ≤ p.fl.length ∧ i = iv k ∧ Gr (w.alloc (.cells #[.string p.nm, .string p.mt, iv p.ga, iv p.gr, iv p.wd, iv p.ht, .slice A p.fl.length c, .slice B p.ho.length d] 25)) wr ∧ Hid (OwnL wr (w.heap.size + 1) 44 11 fcL v (facs flR p.wd p.ht p.fl (fun i => m.testBit i) k))) (fun _ i _ => p.fl.length - (intOf i).toNat)
  case atStart => exact ⟨0, by omega, rfl, (by repeat (first | with_reducible exact Gr.refl _ | with_reducible assumption | with_reducible refine Gr.alloc ?_ _ | with_reducible refine Gr.drewN ?_ _ | with_reducible refine Gr.drew ?_ | with_reducible refine Gr.setCell ?_ (by first | (dsimp only; omega) | (simp only [World.size_alloc]; omega) | (with_reducible refine Gr.size ?_; (repeat (first | with_reducible exact Gr.refl _ | with_reducible assumption | with_reducible refine Gr.alloc ?_ _ | with_reducible refine Gr.drewN ?_ _ | with_reducible refine Gr.drew ?_ | with_reducible refine Gr.trans ?_ (by with_reducible assumption))); done)) _ | with_reducible refine Gr.trans ?_ (by with_reducible assumption))), by have := own_fc1 (w.alloc (.cells #[.string p.nm, .string p.mt, iv p.ga, iv p.gr, iv p.wd, iv p.ht, .slice A p.fl.length c, .slice B p.ho.length d] 25)) (bas p.wd p.ht); rw [World.size_alloc] at this; exact this⟩
  case round =>
    obtain ⟨k, hk, rfl, g, HO⟩ := hrel
    obtain ⟨A1, d1, rfl⟩ := HO.out.slice
    have gW : Gr w wr := (by repeat (first | with_reducible exact Gr.refl _ | with_reducible assumption | with_reducible refine Gr.alloc ?_ _ | with_reducible refine Gr.drewN ?_ _ | with_reducible refine Gr.drew ?_ | with_reducible refine Gr.setCell ?_ (by first | (dsimp only; omega) | (simp only [World.size_alloc]; omega) | (with_reducible refine Gr.size ?_; (repeat (first | with_reducible exact Gr.refl _ | with_reducible assumption | with_reducible refine Gr.alloc ?_ _ | with_reducible refine Gr.drewN ?_ _ | with_reducible refine Gr.drew ?_ | with_reducible refine Gr.trans ?_ (by with_reducible assumption))); done)) _ | with_reducible refine Gr.trans ?_ (by with_reducible assumption)))
    have hp6 : wr.cell? ⟨w.heap.size, 6, none⟩ = some (.slice A p.fl.length c) := (g.cell w.heap.size 6 (by simp)).trans (by simp [go_sem])
    have hlen : (facs flR p.wd p.ht p.fl (fun i => m.testBit i) k).length = k + 1 := facs_len hk
    rw [hlen]
    by_cases hkl : k < p.fl.length
    · obtain ⟨f, hf⟩ : ∃ f, p.fl[k]? = some f := ⟨_, List.getElem?_eq_getElem hkl⟩
      obtain ⟨b, off, hA, x0, x1, x2, x3, x4, x5, x6⟩ := HF.out.rd.fl hf
      subst hA
      have hb : b < w.heap.size := cell_lt (by rw [x0]; rfl)
      obtain ⟨t0, t1, hsd, han⟩ := HOK.out k f hf
      obtain ⟨q, hq⟩ : ∃ q : Nat, f.pa = q := ⟨f.pa.toNat, by omega⟩
      have hqk : q ≤ k := by omega
      obtain ⟨gf, hg⟩ : ∃ gf, (facs flR p.wd p.ht p.fl (fun i => m.testBit i) k)[q]? = some gf := ⟨_, List.getElem?_eq_getElem (by omega)⟩
      have HS := hide (show facs flR p.wd p.ht p.fl (fun i => m.testBit i) (k + 1) = facs flR p.wd p.ht p.fl (fun i => m.testBit i) k ++ [flR gf f (m.testBit k)] by
        rw [facs_succ hf, hq, show ((q : Int)).toNat = q from rfl, hg]; rfl)
      have HOW := hide (show World.ownsRow wr (w.heap.size + 1) 44 11 (.slice A1 (k + 1) d1) (k + 1) ((facs flR p.wd p.ht p.fl (fun i => m.testBit i) k).flatMap fcL) by
        have := HO.out
        unfold OwnL at this
        rwa [hlen] at this)
      have HO' := HO.out
      rw [hlen] at HO'
      obtain ⟨-, hrd, -, -⟩ := OwnL.rdC HO'
      obtain ⟨bs, os, hA2, y0, y1, y2, y3, y4, y5, y6, y7, y8, y9, y10⟩ := hrd.fc hg
      subst hA2
      have hbs : bs < wr.heap.size := cell_lt (by rw [y0]; rfl)
      have FIN := hide (show ∀ (w8 : World) (gg cap1 : Nat), w8.ownsRow (w.heap.size + 1) 44 11 (.slice (some ⟨gg, 0, none⟩) (k + 1 + 1) cap1) (k + 1 + 1) ((facs flR p.wd p.ht p.fl (fun i => m.testBit i) k).flatMap fcL ++ fcL (flR gf f (m.testBit k))) →
          OwnL w8 (w.heap.size + 1) 44 11 fcL (.slice (some ⟨gg, 0, none⟩) (k + 1 + 1) cap1) (facs flR p.wd p.ht p.fl (fun i => m.testBit i) (k + 1)) by
        intro w8 gg cap1 h
        unfold OwnL
        rw [HS.out, fm_snoc, List.length_append, hlen]
        exact h)
      obtain ⟨nm, pa, sd, fo, wd, ln, an⟩ := f
      simp only at hq x0 x1 x2 x3 x4 x5 x6 hsd han
      subst hq
      have zr := g.size
      simp only [World.size_alloc] at zr
      have l0 : w.heap.size < wr.heap.size := by omega
      have hbr : b < wr.heap.size := by omega
      clear HO' hrd t0 t1 HO HS hlen hg hf
      generalize (facs flR p.wd p.ht p.fl (fun i => m.testBit i) k).flatMap fcL = FL at *
      have w0 := (gW.cell _ _ hb).trans x0
      have w1 := (gW.cell _ _ hb).trans x1
      have w2 := (gW.cell _ _ hb).trans x2
      have w3 := (gW.cell _ _ hb).trans x3
      have w4 := (gW.cell _ _ hb).trans x4
      have w5 := (gW.cell _ _ hb).trans x5
      have w6 := (gW.cell _ _ hb).trans x6
      clear x0 x1 x2 x3 x4 x5 x6
      have hk0 : (0 : Int) ≤ (k : Int) := by omega
      have hk1 : (k : Int) < (p.fl.length : Int) := by omega
      have hq0 : (0 : Int) ≤ (q : Int) := by omega
      have hq1 : (q : Int) < (k : Int) + 1 := by omega
      go_upto_region 7 with fail
      generalize hz : World.alloc _ _ = wz
      have gz : Gr wr wz := by rw [← hz]; exact Gr.alloc (Gr.alloc (Gr.refl _) _) _
      have mf : Made wz wr.heap.size #[.string nm, iv (q : Int), iv sd, iv fo, iv wd, iv ln, iv an] := by rw [← hz]; exact (Made.new wr _ _).gr (Gr.alloc (Gr.refl _) _)
      have mg : Made wz (wr.heap.size + 1) #[iv gf.ox, iv gf.oy, iv gf.oz, iv gf.ux, iv gf.uy, iv gf.uz, iv gf.vx, iv gf.vy, iv gf.vz, iv gf.w, iv gf.h] := by
        rw [← hz]
        have := Made.new (wr.alloc (.cells #[.string nm, iv (q : Int), iv sd, iv fo, iv wd, iv ln, iv an] 27)) #[iv gf.ox, iv gf.oy, iv gf.oz, iv gf.ux, iv gf.uy, iv gf.uz, iv gf.vx, iv gf.vy, iv gf.vz, iv gf.w, iv gf.h] 44
        rwa [World.size_alloc] at this
      clear hz w0 w1 w2 w3 w4 w5 w6 y0 y1 y2 y3 y4 y5 y6 y7 y8 y9 y10
      obtain ⟨bf, hbf⟩ : ∃ bf, bf = wr.heap.size := ⟨_, rfl⟩
      obtain ⟨bg, hbg⟩ : ∃ bg, bg = wr.heap.size + 1 := ⟨_, rfl⟩
      rw [← hbf] at mf
      rw [← hbg] at mg
      rw [← hbg, ← hbf]
      have HBF := hide hbf
      have HBG := hide hbg
      have lf : wr.heap.size ≤ bf := by omega
      have lg : wr.heap.size ≤ bg := by omega
      have nfg : bf ≠ bg := by omega
      clear hbf hbg
      obtain ⟨mf0, mf1, mf2⟩ := id mf
      obtain ⟨mg0, mg1, mg2⟩ := id mg
      refine wp_region_new2 _ 6 (by kernel_rfl) (by kernel_rfl) (Gr.refl _) (z1 := #[iv 0, iv 0, iv 0]) (t1 := 90) (z2 := #[iv 0, iv 0, iv 0]) (t2 := 90) rfl rfl ⟨rfl, fun _ => rfl, rfl, fun a w => by go_simp⟩ ⟨rfl, fun _ => rfl, rfl, fun a w => by go_simp⟩ (fun a u v => (Act.put_comm a u v (by decide))) ?_
      intro s gs
      obtain ⟨Xs, Ys, cs, fs⟩ := gs.use
      have GC := @GrW.cell
      simp only [List.take_succ_cons, List.take_zero]
      repeat (go_big_quiet_step ((first | (go_at_call 76; exact quiet_grw (three_any _ _ _ _)))))
      refine wpQuiet_nil ?_
      clear GC cs fs gs
      intro B1 B2 wq gq1 l1 l2 n12 ⟨b1, c1, f1⟩ ⟨b2, c2, f2⟩
      obtain ⟨Xq, Yq, cq, fq⟩ := gq1.use
      have sq := gq1.size
      (try simp only [World.size_alloc, World.size_setCell, World.heap_drewN] at sq l1 l2)
      simp only [List.drop_succ_cons, List.drop_zero]
      go_upto_region 8 with fail
      obtain ⟨bu, rfl⟩ : ∃ bu, bu = B1 := ⟨_, rfl⟩
      obtain ⟨bv, rfl⟩ : ∃ bv, bv = B2 := ⟨_, rfl⟩
      generalize hv : World.setCell _ _ _ = v1
      obtain rfl : v1 = set3 (set3 wq bu gf.ux gf.uy gf.uz) bv gf.vx gf.vy gf.vz := hv.symm
      clear hv
      have zq := gz.size
      have mu := Made.other3 (Made.set3 ⟨b1, c1, f1⟩ gf.ux gf.uy gf.uz) gf.vx gf.vy gf.vz n12
      have mv := Made.set3 (Made.other3 ⟨b2, c2, f2⟩ gf.ux gf.uy gf.uz (Ne.symm n12)) gf.vx gf.vy gf.vz
      have mf' := ((mf.gr gq1).other3 gf.ux gf.uy gf.uz (show bf ≠ bu by omega)).other3 gf.vx gf.vy gf.vz (show bf ≠ bv by omega)
      have mg' := ((mg.gr gq1).other3 gf.ux gf.uy gf.uz (show bg ≠ bu by omega)).other3 gf.vx gf.vy gf.vz (show bg ≠ bv by omega)
      have gv : Gr wr (set3 (set3 wq bu gf.ux gf.uy gf.uz) bv gf.vx gf.vy gf.vz) := gr_set3 _ _ _ (gr_set3 _ _ _ (gz.trans gq1) (by omega)) (by omega)
      have n1f : bf ≠ bu := by omega
      have n2f : bf ≠ bv := by omega
      have n1g : bg ≠ bu := by omega
      have n2g : bg ≠ bv := by omega
      have k1 : wr.heap.size ≤ bu := by omega
      have k2 : wr.heap.size ≤ bv := by omega
      clear cq fq sq l1 l2 b1 c1 f1 b2 c2 f2 mf0 mf1 mf2 mg0 mg1 mg2 mf mg
      generalize set3 (set3 wq bu gf.ux gf.uy gf.uz) bv gf.vx gf.vy gf.vz = v1 at *
      clear gq1 zq gz
      obtain ⟨mf0, mf1, mf2⟩ := id mf'
      obtain ⟨mg0, mg1, mg2⟩ := id mg'
      have HST := hide (fun w => start_any sd gf.w gf.h w hsd)
      go_upto_region 9 with (first | (go_at_call 77; refine (HST.out _).mono ?_; rintro e w1 ⟨rfl, g1⟩; obtain ⟨X1, Y1, c1, f1⟩ := g1.use; have z1 := g1.size; (try simp only [World.size_alloc, World.size_setCell, World.heap_drewN, Nat.add_one_le_iff] at z1); (try have l0 : w.heap.size < w1.heap.size := by omega); (try have l1 : w.heap.size + 1 < w1.heap.size := by omega); (try have l2 : w.heap.size + 1 + 1 < w1.heap.size := by omega)))
      have HE := hide (show flR gf ⟨nm, (q : Int), sd, fo, wd, ln, an⟩ (m.testBit k) = ⟨atR sd fo gf.w gf.h gf.ox gf.ux gf.vx, atR sd fo gf.w gf.h gf.oy gf.uy gf.vy, atR sd fo gf.w gf.h gf.oz gf.uz gf.vz,
        al (al 0 (staD0 sd) gf.ux) (staD1 sd) gf.vx, al (al 0 (staD0 sd) gf.uy) (staD1 sd) gf.vy, al (al 0 (staD0 sd) gf.uz) (staD1 sd) gf.vz,
        nextR an (m.testBit k) (crX gf) (awy sd gf.ux gf.vx), nextR an (m.testBit k) (crY gf) (awy sd gf.uy gf.vy), nextR an (m.testBit k) (crZ gf) (awy sd gf.uz gf.vz), wd, ln⟩ from rfl)
      unfold atR awy at HE
      simp only [al_zero] at HE
      generalize staA sd gf.w = sA at *
      generalize staB sd gf.h = sB at *
      generalize staD0 sd = d0 at *
      generalize staD1 sd = e0 at *
      generalize staO0 sd = d2 at *
      generalize staO1 sd = e2 at *
      have md : Made ((w1.alloc (.cells #[iv d0, iv e0] 92)).alloc (.cells #[iv d2, iv e2] 92)) w1.heap.size #[iv d0, iv e0] := (Made.new w1 _ _).gr (Gr.alloc (Gr.refl _) _)
      have mo : Made ((w1.alloc (.cells #[iv d0, iv e0] 92)).alloc (.cells #[iv d2, iv e2] 92)) (w1.heap.size + 1) #[iv d2, iv e2] := by
        have := Made.new (w1.alloc (.cells #[iv d0, iv e0] 92)) #[iv d2, iv e2] 92
        rwa [World.size_alloc] at this
      have gx := Gr.alloc (Gr.alloc g1 (.cells #[iv d0, iv e0] 92)) (.cells #[iv d2, iv e2] 92)
      obtain ⟨bd, hbd⟩ : ∃ bd, bd = w1.heap.size := ⟨_, rfl⟩
      obtain ⟨bo, hbo⟩ : ∃ bo, bo = w1.heap.size + 1 := ⟨_, rfl⟩
      rw [← hbd] at md
      rw [← hbo] at mo
      rw [← hbo, ← hbd]
      have kd : wr.heap.size ≤ bd := by have := g1.size; have := gv.size; omega
      have ko : wr.heap.size ≤ bo := by have := g1.size; have := gv.size; omega
      clear hbd hbo c1 f1 mf0 mf1 mf2 mg0 mg1 mg2 HST
      generalize (w1.alloc (.cells #[iv d0, iv e0] 92)).alloc (.cells #[iv d2, iv e2] 92) = v2 at *
      have mf := mf'.gr gx
      have mg := mg'.gr gx
      have mu' := mu.gr gx
      have mv' := mv.gr gx
      have gv2 := gv.trans gx
      clear mf' mg' mu mv gv gx g1 z1 l0 l1 l2
      have mu := mu'
      have mv := mv'
      clear mu' mv'
      obtain ⟨mf0, mf1, mf2⟩ := id mf
      obtain ⟨mu0, mu1, mu2⟩ := id mu
      obtain ⟨mv0, mv1, mv2⟩ := id mv
      obtain ⟨md0, md1, md2⟩ := id md
      obtain ⟨mo0, mo1, mo2⟩ := id mo
      obtain ⟨mg0, mg1, mg2⟩ := id mg
      refine wp_region_new1 _ 21 (by kernel_rfl) (by kernel_rfl) (Gr.refl _) (z1 := #[iv 0, iv 0, iv 0]) (t1 := 90) rfl ⟨rfl, fun _ => rfl, rfl, fun a w => by go_simp⟩  ?_
      intro s gs
      obtain ⟨Xs, Ys, cs, fs⟩ := gs.use
      have GC := @GrW.cell
      simp only [List.take_succ_cons, List.take_zero]
      repeat (go_big_quiet_step ((first | (go_at_call 76; exact quiet_grw (three_any _ _ _ _)) | (go_at_call 78; exact quiet_grw (along_any _ _ _ _ _ _ _ _)))))
      refine wpQuiet_nil ?_
      clear GC cs fs gs
      intro B1 wq gq1 l1  ⟨b1, c1, f1⟩
      obtain ⟨Xq, Yq, cq, fq⟩ := gq1.use
      have sq := gq1.size
      (try simp only [World.size_alloc, World.size_setCell, World.heap_drewN] at sq l1 )
      simp only [List.drop_succ_cons, List.drop_zero]
      go_upto_region 10 with fail
      obtain ⟨ba, rfl⟩ : ∃ ba, ba = B1 := ⟨_, rfl⟩
      generalize hv : World.setCell _ _ _ = v3
      obtain rfl : v3 = set3 wq ba (al (al gf.ox (wrap64 (sA + wrap64 (fo * d0))) gf.ux) (wrap64 (sB + wrap64 (fo * e0))) gf.vx) (al (al gf.oy (wrap64 (sA + wrap64 (fo * d0))) gf.uy) (wrap64 (sB + wrap64 (fo * e0))) gf.vy) (al (al gf.oz (wrap64 (sA + wrap64 (fo * d0))) gf.uz) (wrap64 (sB + wrap64 (fo * e0))) gf.vz) := hv.symm
      clear hv
      have hsz := gv2.size
      have ma' := Made.set3 ⟨b1, c1, f1⟩ (al (al gf.ox (wrap64 (sA + wrap64 (fo * d0))) gf.ux) (wrap64 (sB + wrap64 (fo * e0))) gf.vx) (al (al gf.oy (wrap64 (sA + wrap64 (fo * d0))) gf.uy) (wrap64 (sB + wrap64 (fo * e0))) gf.vy) (al (al gf.oz (wrap64 (sA + wrap64 (fo * d0))) gf.uz) (wrap64 (sB + wrap64 (fo * e0))) gf.vz)
      have mf' := (mf.gr gq1).other3 (al (al gf.ox (wrap64 (sA + wrap64 (fo * d0))) gf.ux) (wrap64 (sB + wrap64 (fo * e0))) gf.vx) (al (al gf.oy (wrap64 (sA + wrap64 (fo * d0))) gf.uy) (wrap64 (sB + wrap64 (fo * e0))) gf.vy) (al (al gf.oz (wrap64 (sA + wrap64 (fo * d0))) gf.uz) (wrap64 (sB + wrap64 (fo * e0))) gf.vz) (show bf ≠ ba by omega)
      have mu' := (mu.gr gq1).other3 (al (al gf.ox (wrap64 (sA + wrap64 (fo * d0))) gf.ux) (wrap64 (sB + wrap64 (fo * e0))) gf.vx) (al (al gf.oy (wrap64 (sA + wrap64 (fo * d0))) gf.uy) (wrap64 (sB + wrap64 (fo * e0))) gf.vy) (al (al gf.oz (wrap64 (sA + wrap64 (fo * d0))) gf.uz) (wrap64 (sB + wrap64 (fo * e0))) gf.vz) (show bu ≠ ba by omega)
      have mv' := (mv.gr gq1).other3 (al (al gf.ox (wrap64 (sA + wrap64 (fo * d0))) gf.ux) (wrap64 (sB + wrap64 (fo * e0))) gf.vx) (al (al gf.oy (wrap64 (sA + wrap64 (fo * d0))) gf.uy) (wrap64 (sB + wrap64 (fo * e0))) gf.vy) (al (al gf.oz (wrap64 (sA + wrap64 (fo * d0))) gf.uz) (wrap64 (sB + wrap64 (fo * e0))) gf.vz) (show bv ≠ ba by omega)
      have md' := (md.gr gq1).other3 (al (al gf.ox (wrap64 (sA + wrap64 (fo * d0))) gf.ux) (wrap64 (sB + wrap64 (fo * e0))) gf.vx) (al (al gf.oy (wrap64 (sA + wrap64 (fo * d0))) gf.uy) (wrap64 (sB + wrap64 (fo * e0))) gf.vy) (al (al gf.oz (wrap64 (sA + wrap64 (fo * d0))) gf.uz) (wrap64 (sB + wrap64 (fo * e0))) gf.vz) (show bd ≠ ba by omega)
      have mo' := (mo.gr gq1).other3 (al (al gf.ox (wrap64 (sA + wrap64 (fo * d0))) gf.ux) (wrap64 (sB + wrap64 (fo * e0))) gf.vx) (al (al gf.oy (wrap64 (sA + wrap64 (fo * d0))) gf.uy) (wrap64 (sB + wrap64 (fo * e0))) gf.vy) (al (al gf.oz (wrap64 (sA + wrap64 (fo * d0))) gf.uz) (wrap64 (sB + wrap64 (fo * e0))) gf.vz) (show bo ≠ ba by omega)
      have gv3 : Gr wr (set3 wq ba (al (al gf.ox (wrap64 (sA + wrap64 (fo * d0))) gf.ux) (wrap64 (sB + wrap64 (fo * e0))) gf.vx) (al (al gf.oy (wrap64 (sA + wrap64 (fo * d0))) gf.uy) (wrap64 (sB + wrap64 (fo * e0))) gf.vy) (al (al gf.oz (wrap64 (sA + wrap64 (fo * d0))) gf.uz) (wrap64 (sB + wrap64 (fo * e0))) gf.vz)) := gr_set3 _ _ _ (gv2.trans gq1) (by omega)
      have kba : wr.heap.size ≤ ba := by omega
      clear cq fq sq l1 b1 c1 f1 hsz gv2 mg2 mg1 mg0 mo2 mo1 mo0 md2 md1 md0 mv2 mv1 mv0 mu2 mu1 mu0 mf2 mf1 mf0 mg mo md mv mu mf
      generalize al (al gf.ox (wrap64 (sA + wrap64 (fo * d0))) gf.ux) (wrap64 (sB + wrap64 (fo * e0))) gf.vx = ax at *
      generalize al (al gf.oy (wrap64 (sA + wrap64 (fo * d0))) gf.uy) (wrap64 (sB + wrap64 (fo * e0))) gf.vy = ay at *
      generalize al (al gf.oz (wrap64 (sA + wrap64 (fo * d0))) gf.uz) (wrap64 (sB + wrap64 (fo * e0))) gf.vz = az at *
      generalize set3 wq ba ax ay az = v3 at *
      clear gq1
      have mf := mf'
      clear mf'
      have mu := mu'
      clear mu'
      have mv := mv'
      clear mv'
      have md := md'
      clear md'
      have mo := mo'
      clear mo'
      have ma := ma'
      clear ma'
      obtain ⟨mf0, mf1, mf2⟩ := id mf
      obtain ⟨mu0, mu1, mu2⟩ := id mu
      obtain ⟨mv0, mv1, mv2⟩ := id mv
      obtain ⟨mo0, mo1, mo2⟩ := id mo
      obtain ⟨ma0, ma1, ma2⟩ := id ma
      obtain ⟨md0, md1, md2⟩ := id md
      refine wp_region_new1 _ 9 (by kernel_rfl) (by kernel_rfl) (Gr.refl _) (z1 := #[iv 0, iv 0, iv 0]) (t1 := 90) rfl ⟨rfl, fun _ => rfl, rfl, fun a w => by go_simp⟩  ?_
      intro s gs
      obtain ⟨Xs, Ys, cs, fs⟩ := gs.use
      have GC := @GrW.cell
      simp only [List.take_succ_cons, List.take_zero]
      repeat (go_big_quiet_step ((first | (go_at_call 78; exact quiet_grw (along_any _ _ _ _ _ _ _ _)))))
      refine wpQuiet_nil ?_
      clear GC cs fs gs
      intro B1 wq gq1 l1  ⟨b1, c1, f1⟩
      obtain ⟨Xq, Yq, cq, fq⟩ := gq1.use
      have sq := gq1.size
      (try simp only [World.size_alloc, World.size_setCell, World.heap_drewN] at sq l1 )
      simp only [List.drop_succ_cons, List.drop_zero]
      go_upto_region 11 with fail
      obtain ⟨bi, rfl⟩ : ∃ bi, bi = B1 := ⟨_, rfl⟩
      generalize hv : World.setCell _ _ _ = v4
      obtain rfl : v4 = set3 wq bi (al (wrap64 (wrap64 (d0 * gf.ux))) e0 gf.vx) (al (wrap64 (wrap64 (d0 * gf.uy))) e0 gf.vy) (al (wrap64 (wrap64 (d0 * gf.uz))) e0 gf.vz) := hv.symm
      clear hv
      have hsz := gv3.size
      have mi' := Made.set3 ⟨b1, c1, f1⟩ (al (wrap64 (wrap64 (d0 * gf.ux))) e0 gf.vx) (al (wrap64 (wrap64 (d0 * gf.uy))) e0 gf.vy) (al (wrap64 (wrap64 (d0 * gf.uz))) e0 gf.vz)
      have mf' := (mf.gr gq1).other3 (al (wrap64 (wrap64 (d0 * gf.ux))) e0 gf.vx) (al (wrap64 (wrap64 (d0 * gf.uy))) e0 gf.vy) (al (wrap64 (wrap64 (d0 * gf.uz))) e0 gf.vz) (show bf ≠ bi by omega)
      have mu' := (mu.gr gq1).other3 (al (wrap64 (wrap64 (d0 * gf.ux))) e0 gf.vx) (al (wrap64 (wrap64 (d0 * gf.uy))) e0 gf.vy) (al (wrap64 (wrap64 (d0 * gf.uz))) e0 gf.vz) (show bu ≠ bi by omega)
      have mv' := (mv.gr gq1).other3 (al (wrap64 (wrap64 (d0 * gf.ux))) e0 gf.vx) (al (wrap64 (wrap64 (d0 * gf.uy))) e0 gf.vy) (al (wrap64 (wrap64 (d0 * gf.uz))) e0 gf.vz) (show bv ≠ bi by omega)
      have mo' := (mo.gr gq1).other3 (al (wrap64 (wrap64 (d0 * gf.ux))) e0 gf.vx) (al (wrap64 (wrap64 (d0 * gf.uy))) e0 gf.vy) (al (wrap64 (wrap64 (d0 * gf.uz))) e0 gf.vz) (show bo ≠ bi by omega)
      have ma' := (ma.gr gq1).other3 (al (wrap64 (wrap64 (d0 * gf.ux))) e0 gf.vx) (al (wrap64 (wrap64 (d0 * gf.uy))) e0 gf.vy) (al (wrap64 (wrap64 (d0 * gf.uz))) e0 gf.vz) (show ba ≠ bi by omega)
      have gv4 : Gr wr (set3 wq bi (al (wrap64 (wrap64 (d0 * gf.ux))) e0 gf.vx) (al (wrap64 (wrap64 (d0 * gf.uy))) e0 gf.vy) (al (wrap64 (wrap64 (d0 * gf.uz))) e0 gf.vz)) := gr_set3 _ _ _ (gv3.trans gq1) (by omega)
      have kbi : wr.heap.size ≤ bi := by omega
      clear cq fq sq l1 b1 c1 f1 hsz gv3 md2 md1 md0 ma2 ma1 ma0 mo2 mo1 mo0 mv2 mv1 mv0 mu2 mu1 mu0 mf2 mf1 mf0 md ma mo mv mu mf
      generalize al (wrap64 (wrap64 (d0 * gf.ux))) e0 gf.vx = ix at *
      generalize al (wrap64 (wrap64 (d0 * gf.uy))) e0 gf.vy = iy at *
      generalize al (wrap64 (wrap64 (d0 * gf.uz))) e0 gf.vz = iz at *
      generalize set3 wq bi ix iy iz = v4 at *
      clear gq1
      have mf := mf'
      clear mf'
      have mu := mu'
      clear mu'
      have mv := mv'
      clear mv'
      have mo := mo'
      clear mo'
      have ma := ma'
      clear ma'
      have mi := mi'
      clear mi'
      obtain ⟨mf0, mf1, mf2⟩ := id mf
      obtain ⟨mu0, mu1, mu2⟩ := id mu
      obtain ⟨mv0, mv1, mv2⟩ := id mv
      obtain ⟨ma0, ma1, ma2⟩ := id ma
      obtain ⟨mi0, mi1, mi2⟩ := id mi
      obtain ⟨mo0, mo1, mo2⟩ := id mo
      refine wp_region_new1 _ 9 (by kernel_rfl) (by kernel_rfl) (Gr.refl _) (z1 := #[iv 0, iv 0, iv 0]) (t1 := 90) rfl ⟨rfl, fun _ => rfl, rfl, fun a w => by go_simp⟩  ?_
      intro s gs
      obtain ⟨Xs, Ys, cs, fs⟩ := gs.use
      have GC := @GrW.cell
      simp only [List.take_succ_cons, List.take_zero]
      repeat (go_big_quiet_step ((first | (go_at_call 78; exact quiet_grw (along_any _ _ _ _ _ _ _ _)))))
      refine wpQuiet_nil ?_
      clear GC cs fs gs
      intro B1 wq gq1 l1  ⟨b1, c1, f1⟩
      obtain ⟨Xq, Yq, cq, fq⟩ := gq1.use
      have sq := gq1.size
      (try simp only [World.size_alloc, World.size_setCell, World.heap_drewN] at sq l1 )
      simp only [List.drop_succ_cons, List.drop_zero]
      go_upto_region 12 with fail
      obtain ⟨bw, rfl⟩ : ∃ bw, bw = B1 := ⟨_, rfl⟩
      generalize hv : World.setCell _ _ _ = v5
      obtain rfl : v5 = set3 wq bw (al (wrap64 (wrap64 (d2 * gf.ux))) e2 gf.vx) (al (wrap64 (wrap64 (d2 * gf.uy))) e2 gf.vy) (al (wrap64 (wrap64 (d2 * gf.uz))) e2 gf.vz) := hv.symm
      clear hv
      have hsz := gv4.size
      have mw' := Made.set3 ⟨b1, c1, f1⟩ (al (wrap64 (wrap64 (d2 * gf.ux))) e2 gf.vx) (al (wrap64 (wrap64 (d2 * gf.uy))) e2 gf.vy) (al (wrap64 (wrap64 (d2 * gf.uz))) e2 gf.vz)
      have mf' := (mf.gr gq1).other3 (al (wrap64 (wrap64 (d2 * gf.ux))) e2 gf.vx) (al (wrap64 (wrap64 (d2 * gf.uy))) e2 gf.vy) (al (wrap64 (wrap64 (d2 * gf.uz))) e2 gf.vz) (show bf ≠ bw by omega)
      have mu' := (mu.gr gq1).other3 (al (wrap64 (wrap64 (d2 * gf.ux))) e2 gf.vx) (al (wrap64 (wrap64 (d2 * gf.uy))) e2 gf.vy) (al (wrap64 (wrap64 (d2 * gf.uz))) e2 gf.vz) (show bu ≠ bw by omega)
      have mv' := (mv.gr gq1).other3 (al (wrap64 (wrap64 (d2 * gf.ux))) e2 gf.vx) (al (wrap64 (wrap64 (d2 * gf.uy))) e2 gf.vy) (al (wrap64 (wrap64 (d2 * gf.uz))) e2 gf.vz) (show bv ≠ bw by omega)
      have ma' := (ma.gr gq1).other3 (al (wrap64 (wrap64 (d2 * gf.ux))) e2 gf.vx) (al (wrap64 (wrap64 (d2 * gf.uy))) e2 gf.vy) (al (wrap64 (wrap64 (d2 * gf.uz))) e2 gf.vz) (show ba ≠ bw by omega)
      have mi' := (mi.gr gq1).other3 (al (wrap64 (wrap64 (d2 * gf.ux))) e2 gf.vx) (al (wrap64 (wrap64 (d2 * gf.uy))) e2 gf.vy) (al (wrap64 (wrap64 (d2 * gf.uz))) e2 gf.vz) (show bi ≠ bw by omega)
      have gv5 : Gr wr (set3 wq bw (al (wrap64 (wrap64 (d2 * gf.ux))) e2 gf.vx) (al (wrap64 (wrap64 (d2 * gf.uy))) e2 gf.vy) (al (wrap64 (wrap64 (d2 * gf.uz))) e2 gf.vz)) := gr_set3 _ _ _ (gv4.trans gq1) (by omega)
      have kbw : wr.heap.size ≤ bw := by omega
      clear cq fq sq l1 b1 c1 f1 hsz gv4 mo2 mo1 mo0 mi2 mi1 mi0 ma2 ma1 ma0 mv2 mv1 mv0 mu2 mu1 mu0 mf2 mf1 mf0 mo mi ma mv mu mf
      generalize al (wrap64 (wrap64 (d2 * gf.ux))) e2 gf.vx = wx at *
      generalize al (wrap64 (wrap64 (d2 * gf.uy))) e2 gf.vy = wy at *
      generalize al (wrap64 (wrap64 (d2 * gf.uz))) e2 gf.vz = wz at *
      generalize set3 wq bw wx wy wz = v5 at *
      clear gq1
      have mf := mf'
      clear mf'
      have mu := mu'
      clear mu'
      have mv := mv'
      clear mv'
      have ma := ma'
      clear ma'
      have mi := mi'
      clear mi'
      have mw := mw'
      clear mw'
      obtain ⟨mf0, mf1, mf2⟩ := id mf
      obtain ⟨mu0, mu1, mu2⟩ := id mu
      obtain ⟨mv0, mv1, mv2⟩ := id mv
      obtain ⟨ma0, ma1, ma2⟩ := id ma
      obtain ⟨mi0, mi1, mi2⟩ := id mi
      obtain ⟨mw0, mw1, mw2⟩ := id mw
      have HCR := hide (fun w => (show Calls Try.prog 79 #[vc gf.ux gf.uy gf.uz, vc gf.vx gf.vy gf.vz] w fun e w' => e = .returned (vc (crX gf) (crY gf) (crZ gf)) ∧ Gr w w' from cross_any _ _ _ _ _ _ _))
      generalize crX gf = nnx at *
      generalize crY gf = nny at *
      generalize crZ gf = nnz at *
      go_upto_region 13 with (first | (go_at_call 79; refine (HCR.out _).mono ?_; rintro e w1 ⟨rfl, g1⟩; obtain ⟨X1, Y1, c1, f1⟩ := g1.use; have z1 := g1.size; (try simp only [World.size_alloc, World.size_setCell, World.heap_drewN, Nat.add_one_le_iff] at z1); (try have l0 : w.heap.size < w1.heap.size := by omega); (try have l1 : w.heap.size + 1 < w1.heap.size := by omega); (try have l2 : w.heap.size + 1 + 1 < w1.heap.size := by omega)))
      have bw1 : bw < w1.heap.size := by have := g1.size; omega
      have bw2 : bw < w1.heap.size + 1 := by have := g1.size; omega
      go_upto_region 14 with fail
      have mn : Made ((w1.alloc (.cells #[iv nnx, iv nny, iv nnz] 90)).alloc (.cells #[iv wx, iv wy, iv wz] 90)) w1.heap.size #[iv nnx, iv nny, iv nnz] := (Made.new w1 _ _).gr (Gr.alloc (Gr.refl _) _)
      have mx : Made ((w1.alloc (.cells #[iv nnx, iv nny, iv nnz] 90)).alloc (.cells #[iv wx, iv wy, iv wz] 90)) (w1.heap.size + 1) #[iv wx, iv wy, iv wz] := by
        have := Made.new (w1.alloc (.cells #[iv nnx, iv nny, iv nnz] 90)) #[iv wx, iv wy, iv wz] 90
        rwa [World.size_alloc] at this
      have gx := Gr.alloc (Gr.alloc g1 (.cells #[iv nnx, iv nny, iv nnz] 90)) (.cells #[iv wx, iv wy, iv wz] 90)
      obtain ⟨bn, hbn⟩ : ∃ bn, bn = w1.heap.size := ⟨_, rfl⟩
      obtain ⟨bx, hbx⟩ : ∃ bx, bx = w1.heap.size + 1 := ⟨_, rfl⟩
      rw [← hbn] at mn
      rw [← hbx] at mx
      rw [← hbx, ← hbn]
      have hs1 := g1.size
      have hs5 := gv5.size
      have kbx : wr.heap.size ≤ bx := by omega
      have xf : bf ≠ bx := by omega
      have xa : ba ≠ bx := by omega
      have xi : bi ≠ bx := by omega
      have xw : bw ≠ bx := by omega
      have xn : bn ≠ bx := by omega
      clear hbn hbx c1 f1 z1 hs1 hs5 mf0 mf1 mf2 mu0 mu1 mu2 mv0 mv1 mv2 ma0 ma1 ma2 mi0 mi1 mi2 mw0 mw1 mw2 HCR bw1 bw2
      generalize (w1.alloc (.cells #[iv nnx, iv nny, iv nnz] 90)).alloc (.cells #[iv wx, iv wy, iv wz] 90) = v6 at *
      have mf' := mf.gr gx
      have ma' := ma.gr gx
      have mi' := mi.gr gx
      have mw' := mw.gr gx
      have gv6 := gv5.trans gx
      clear mf mu mv ma mi mw gv5 gx g1
      obtain ⟨mf0, mf1, mf2⟩ := id mf'
      obtain ⟨mn0, mn1, mn2⟩ := id mn
      obtain ⟨mx0, mx1, mx2⟩ := id mx
      obtain ⟨mw0, mw1, mw2⟩ := id mw'
      obtain ⟨ma0, ma1, ma2⟩ := id ma'
      obtain ⟨mi0, mi1, mi2⟩ := id mi'
      have HBT := shr_bit m k hm (by omega)
      cases hbit : m.testBit k with
      | false =>
        rw [hbit] at HBT HE
        have HE2 := hide (show flR gf ⟨nm, (q : Int), sd, fo, wd, ln, an⟩ (m.testBit k) = ⟨ax, ay, az, ix, iy, iz, wx, wy, wz, wd, ln⟩ by rw [hbit, HE.out]; rfl)
        clear HE hbit
        have lb : w.heap.size + 1 ≤ v6.heap.size := by have := gv6.size; omega
        go_upto_region 21 with fail
        refine wp_region_build1 _ 12 (by kernel_rfl) (by kernel_rfl) (Gr.refl _) (d1 := some 145) rfl ?_
        intro s gs
        obtain ⟨Xs, Ys, cs, fs⟩ := gs.use
        have GC := @GrW.cell
        simp only [List.take_succ_cons, List.take_zero]
        repeat (go_big_quiet_step ((first | (go_at_call 80; exact quiet_grw (rvec_any _ _ _ _)))))
        refine wpQuiet_nil ?_
        clear GC cs fs gs
        refine ⟨fun BB => .slice (some ⟨BB, 0, none⟩) 1 1, #[iv ax, iv ay, iv az, iv ix, iv iy, iv iz, iv wx, iv wy, iv wz, iv wd, iv ln], 44, ⟨rfl, rfl, fun w => by go_simp⟩, ?_⟩
        intro B1 wq gq1 l1 ⟨b1, c1, f1⟩
        obtain ⟨Xq, Yq, cq, fq⟩ := gq1.use
        have sq := gq1.size
        (try simp only [World.size_alloc, World.size_setCell, World.heap_drewN] at sq l1)
        simp only [List.drop_succ_cons, List.drop_zero]
        refine wpList_append_lies _ (by rfl) _ _ _ (by rfl) (w.heap.size + 1) 44 i0 _ 11 88 Try.underlying60 hi0 hz0 hz1 hz2 rfl (by omega) _ (k + 1) FL (by rfl) (own_gr HOW.out (gv6.trans gq1)) ⟨B1, 0, none⟩ 1 1 (fcL ⟨ax, ay, az, ix, iy, iz, wx, wy, wz, wd, ln⟩) (by rfl) (by rfl) (by intro j u hu; rw [addr_add, Nat.zero_add, c1]; simpa using hu) (one_fc _) (by omega) (by unfold maxLen; omega) (by omega) (by omega) _ rfl ?_
        intro gg cap1 w8 hown8 hgrow hat hlt
        have ho8 := hide (FIN.out w8 gg cap1 (by rw [HE2.out]; exact hown8))
        have g8 := Gr.grown (show Gr _ _ from (g.trans gv6).trans gq1) hgrow (fun k hk => by have := (World.ownsRow.lt HOW.out k hk).1; simpa [World.size_alloc] using this)
        clear hown8 hgrow hat hlt FIN HOW c1 f1 cq fq
        go_wp2
        go_roundw
        case rel => exact ⟨k + 1, by omega, by go_num, g8, ho8.out⟩
        case measure => simp only [intOf]; omega
      | true =>
        rw [hbit] at HBT HE
        unfold anOk at han
        rcases han with rfl | rfl | rfl | rfl
        · have HE2 := hide (show flR gf ⟨nm, (q : Int), sd, fo, wd, ln, 90⟩ (m.testBit k) = ⟨ax, ay, az, ix, iy, iz, nnx, nny, nnz, wd, ln⟩ by rw [hbit, HE.out]; rfl)
          clear HE hbit
          go_upto_region 21 with (first | fail)
          generalize hv : World.setCell _ _ _ = v7
          obtain rfl : v7 = set3 v6 bx nnx nny nnz := hv.symm
          clear hv
          have mf7 := Made.other3 (Made.gr mf' (Gr.refl v6)) nnx nny nnz xf
          have ma7 := Made.other3 (Made.gr ma' (Gr.refl v6)) nnx nny nnz xa
          have mi7 := Made.other3 (Made.gr mi' (Gr.refl v6)) nnx nny nnz xi
          have mx7 := Made.set3 (Made.gr mx (Gr.refl v6)) nnx nny nnz
          have gv7 : Gr wr (set3 v6 bx nnx nny nnz) := gr_set3 _ _ _ (gv6.trans (Gr.refl v6)) kbx
          clear mf' ma' mi' mx mw' mn gv6 mf0 mf1 mf2 ma0 ma1 ma2 mi0 mi1 mi2 mx0 mx1 mx2 mw0 mw1 mw2 mn0 mn1 mn2
          generalize set3 v6 bx nnx nny nnz = v7 at *
          obtain ⟨mf0, mf1, mf2⟩ := id mf7
          obtain ⟨ma0, ma1, ma2⟩ := id ma7
          obtain ⟨mi0, mi1, mi2⟩ := id mi7
          obtain ⟨mx0, mx1, mx2⟩ := id mx7
          have lb : w.heap.size + 1 ≤ v7.heap.size := by have := gv7.size; omega
          refine wp_region_build1 _ 12 (by kernel_rfl) (by kernel_rfl) (Gr.refl _) (d1 := some 145) rfl ?_
          intro s gs
          obtain ⟨Xs, Ys, cs, fs⟩ := gs.use
          have GC := @GrW.cell
          simp only [List.take_succ_cons, List.take_zero]
          repeat (go_big_quiet_step ((first | (go_at_call 80; exact quiet_grw (rvec_any _ _ _ _)))))
          refine wpQuiet_nil ?_
          clear GC cs fs gs
          refine ⟨fun BB => .slice (some ⟨BB, 0, none⟩) 1 1, #[iv ax, iv ay, iv az, iv ix, iv iy, iv iz, iv nnx, iv nny, iv nnz, iv wd, iv ln], 44, ⟨rfl, rfl, fun w => by go_simp⟩, ?_⟩
          intro B1 wq gq1 l1 ⟨b1, c1, f1⟩
          obtain ⟨Xq, Yq, cq, fq⟩ := gq1.use
          have sq := gq1.size
          (try simp only [World.size_alloc, World.size_setCell, World.heap_drewN] at sq l1)
          simp only [List.drop_succ_cons, List.drop_zero]
          refine wpList_append_lies _ (by rfl) _ _ _ (by rfl) (w.heap.size + 1) 44 i0 _ 11 88 Try.underlying60 hi0 hz0 hz1 hz2 rfl (by omega) _ (k + 1) FL (by rfl) (own_gr HOW.out (gv7.trans gq1)) ⟨B1, 0, none⟩ 1 1 (fcL ⟨ax, ay, az, ix, iy, iz, nnx, nny, nnz, wd, ln⟩) (by rfl) (by rfl) (by intro j u hu; rw [addr_add, Nat.zero_add, c1]; simpa using hu) (one_fc _) (by omega) (by unfold maxLen; omega) (by omega) (by omega) _ rfl ?_
          intro gg cap1 w8 hown8 hgrow hat hlt
          have ho8 := hide (FIN.out w8 gg cap1 (by rw [HE2.out]; exact hown8))
          have g8 := Gr.grown (show Gr _ _ from (g.trans gv7).trans gq1) hgrow (fun k hk => by have := (World.ownsRow.lt HOW.out k hk).1; simpa [World.size_alloc] using this)
          clear hown8 hgrow hat hlt FIN HOW c1 f1 cq fq
          go_wp2
          go_roundw
          case rel => exact ⟨k + 1, by omega, by go_num, g8, ho8.out⟩
          case measure => simp only [intOf]; omega
        · have HE2 := hide (show flR gf ⟨nm, (q : Int), sd, fo, wd, ln, -90⟩ (m.testBit k) = ⟨ax, ay, az, ix, iy, iz, al 0 (-1) nnx, al 0 (-1) nny, al 0 (-1) nnz, wd, ln⟩ by rw [hbit, HE.out]; rfl)
          have HAL := hide (fun w => (show Calls Try.prog 78 #[vc 0 0 0, iv (-1), vc nnx nny nnz] w fun e w' => e = .returned (vc (al 0 (-1) nnx) (al 0 (-1) nny) (al 0 (-1) nnz)) ∧ Gr w w' from along_any _ _ _ _ _ _ _ _))
          generalize al 0 (-1) nnx = px at *
          generalize al 0 (-1) nny = py at *
          generalize al 0 (-1) nnz = pz at *
          clear HE hbit
          go_upto_region 21 with (first | (go_at_call 78; refine (HAL.out _).mono ?_; rintro e w1 ⟨rfl, g1⟩; obtain ⟨X1, Y1, c1, f1⟩ := g1.use; have z1 := g1.size; (try simp only [World.size_alloc, World.size_setCell, World.heap_drewN, Nat.add_one_le_iff] at z1); (try have l0 : w.heap.size < w1.heap.size := by omega); (try have l1 : w.heap.size + 1 < w1.heap.size := by omega); (try have l2 : w.heap.size + 1 + 1 < w1.heap.size := by omega)))
          generalize hv : World.setCell _ _ _ = v7
          obtain rfl : v7 = set3 w1 bx px py pz := hv.symm
          clear hv
          have mf7 := Made.other3 (Made.gr mf' g1) px py pz xf
          have ma7 := Made.other3 (Made.gr ma' g1) px py pz xa
          have mi7 := Made.other3 (Made.gr mi' g1) px py pz xi
          have mx7 := Made.set3 (Made.gr mx g1) px py pz
          have gv7 : Gr wr (set3 w1 bx px py pz) := gr_set3 _ _ _ (gv6.trans g1) kbx
          clear mf' ma' mi' mx mw' mn gv6 mf0 mf1 mf2 ma0 ma1 ma2 mi0 mi1 mi2 mx0 mx1 mx2 mw0 mw1 mw2 mn0 mn1 mn2 c1 f1 z1
          generalize set3 w1 bx px py pz = v7 at *
          obtain ⟨mf0, mf1, mf2⟩ := id mf7
          obtain ⟨ma0, ma1, ma2⟩ := id ma7
          obtain ⟨mi0, mi1, mi2⟩ := id mi7
          obtain ⟨mx0, mx1, mx2⟩ := id mx7
          have lb : w.heap.size + 1 ≤ v7.heap.size := by have := gv7.size; omega
          refine wp_region_build1 _ 12 (by kernel_rfl) (by kernel_rfl) (Gr.refl _) (d1 := some 145) rfl ?_
          intro s gs
          obtain ⟨Xs, Ys, cs, fs⟩ := gs.use
          have GC := @GrW.cell
          simp only [List.take_succ_cons, List.take_zero]
          repeat (go_big_quiet_step ((first | (go_at_call 80; exact quiet_grw (rvec_any _ _ _ _)))))
          refine wpQuiet_nil ?_
          clear GC cs fs gs
          refine ⟨fun BB => .slice (some ⟨BB, 0, none⟩) 1 1, #[iv ax, iv ay, iv az, iv ix, iv iy, iv iz, iv px, iv py, iv pz, iv wd, iv ln], 44, ⟨rfl, rfl, fun w => by go_simp⟩, ?_⟩
          intro B1 wq gq1 l1 ⟨b1, c1, f1⟩
          obtain ⟨Xq, Yq, cq, fq⟩ := gq1.use
          have sq := gq1.size
          (try simp only [World.size_alloc, World.size_setCell, World.heap_drewN] at sq l1)
          simp only [List.drop_succ_cons, List.drop_zero]
          refine wpList_append_lies _ (by rfl) _ _ _ (by rfl) (w.heap.size + 1) 44 i0 _ 11 88 Try.underlying60 hi0 hz0 hz1 hz2 rfl (by omega) _ (k + 1) FL (by rfl) (own_gr HOW.out (gv7.trans gq1)) ⟨B1, 0, none⟩ 1 1 (fcL ⟨ax, ay, az, ix, iy, iz, px, py, pz, wd, ln⟩) (by rfl) (by rfl) (by intro j u hu; rw [addr_add, Nat.zero_add, c1]; simpa using hu) (one_fc _) (by omega) (by unfold maxLen; omega) (by omega) (by omega) _ rfl ?_
          intro gg cap1 w8 hown8 hgrow hat hlt
          have ho8 := hide (FIN.out w8 gg cap1 (by rw [HE2.out]; exact hown8))
          have g8 := Gr.grown (show Gr _ _ from (g.trans gv7).trans gq1) hgrow (fun k hk => by have := (World.ownsRow.lt HOW.out k hk).1; simpa [World.size_alloc] using this)
          clear hown8 hgrow hat hlt FIN HOW c1 f1 cq fq
          go_wp2
          go_roundw
          case rel => exact ⟨k + 1, by omega, by go_num, g8, ho8.out⟩
          case measure => simp only [intOf]; omega
        · have HE2 := hide (show flR gf ⟨nm, (q : Int), sd, fo, wd, ln, 180⟩ (m.testBit k) = ⟨ax, ay, az, ix, iy, iz, al 0 (-1) wx, al 0 (-1) wy, al 0 (-1) wz, wd, ln⟩ by rw [hbit, HE.out]; rfl)
          have HAL := hide (fun w => (show Calls Try.prog 78 #[vc 0 0 0, iv (-1), vc wx wy wz] w fun e w' => e = .returned (vc (al 0 (-1) wx) (al 0 (-1) wy) (al 0 (-1) wz)) ∧ Gr w w' from along_any _ _ _ _ _ _ _ _))
          generalize al 0 (-1) wx = px at *
          generalize al 0 (-1) wy = py at *
          generalize al 0 (-1) wz = pz at *
          clear HE hbit
          go_upto_region 21 with (first | (go_at_call 78; refine (HAL.out _).mono ?_; rintro e w1 ⟨rfl, g1⟩; obtain ⟨X1, Y1, c1, f1⟩ := g1.use; have z1 := g1.size; (try simp only [World.size_alloc, World.size_setCell, World.heap_drewN, Nat.add_one_le_iff] at z1); (try have l0 : w.heap.size < w1.heap.size := by omega); (try have l1 : w.heap.size + 1 < w1.heap.size := by omega); (try have l2 : w.heap.size + 1 + 1 < w1.heap.size := by omega)))
          generalize hv : World.setCell _ _ _ = v7
          obtain rfl : v7 = set3 w1 bx px py pz := hv.symm
          clear hv
          have mf7 := Made.other3 (Made.gr mf' g1) px py pz xf
          have ma7 := Made.other3 (Made.gr ma' g1) px py pz xa
          have mi7 := Made.other3 (Made.gr mi' g1) px py pz xi
          have mx7 := Made.set3 (Made.gr mx g1) px py pz
          have gv7 : Gr wr (set3 w1 bx px py pz) := gr_set3 _ _ _ (gv6.trans g1) kbx
          clear mf' ma' mi' mx mw' mn gv6 mf0 mf1 mf2 ma0 ma1 ma2 mi0 mi1 mi2 mx0 mx1 mx2 mw0 mw1 mw2 mn0 mn1 mn2 c1 f1 z1
          generalize set3 w1 bx px py pz = v7 at *
          obtain ⟨mf0, mf1, mf2⟩ := id mf7
          obtain ⟨ma0, ma1, ma2⟩ := id ma7
          obtain ⟨mi0, mi1, mi2⟩ := id mi7
          obtain ⟨mx0, mx1, mx2⟩ := id mx7
          have lb : w.heap.size + 1 ≤ v7.heap.size := by have := gv7.size; omega
          refine wp_region_build1 _ 12 (by kernel_rfl) (by kernel_rfl) (Gr.refl _) (d1 := some 145) rfl ?_
          intro s gs
          obtain ⟨Xs, Ys, cs, fs⟩ := gs.use
          have GC := @GrW.cell
          simp only [List.take_succ_cons, List.take_zero]
          repeat (go_big_quiet_step ((first | (go_at_call 80; exact quiet_grw (rvec_any _ _ _ _)))))
          refine wpQuiet_nil ?_
          clear GC cs fs gs
          refine ⟨fun BB => .slice (some ⟨BB, 0, none⟩) 1 1, #[iv ax, iv ay, iv az, iv ix, iv iy, iv iz, iv px, iv py, iv pz, iv wd, iv ln], 44, ⟨rfl, rfl, fun w => by go_simp⟩, ?_⟩
          intro B1 wq gq1 l1 ⟨b1, c1, f1⟩
          obtain ⟨Xq, Yq, cq, fq⟩ := gq1.use
          have sq := gq1.size
          (try simp only [World.size_alloc, World.size_setCell, World.heap_drewN] at sq l1)
          simp only [List.drop_succ_cons, List.drop_zero]
          refine wpList_append_lies _ (by rfl) _ _ _ (by rfl) (w.heap.size + 1) 44 i0 _ 11 88 Try.underlying60 hi0 hz0 hz1 hz2 rfl (by omega) _ (k + 1) FL (by rfl) (own_gr HOW.out (gv7.trans gq1)) ⟨B1, 0, none⟩ 1 1 (fcL ⟨ax, ay, az, ix, iy, iz, px, py, pz, wd, ln⟩) (by rfl) (by rfl) (by intro j u hu; rw [addr_add, Nat.zero_add, c1]; simpa using hu) (one_fc _) (by omega) (by unfold maxLen; omega) (by omega) (by omega) _ rfl ?_
          intro gg cap1 w8 hown8 hgrow hat hlt
          have ho8 := hide (FIN.out w8 gg cap1 (by rw [HE2.out]; exact hown8))
          have g8 := Gr.grown (show Gr _ _ from (g.trans gv7).trans gq1) hgrow (fun k hk => by have := (World.ownsRow.lt HOW.out k hk).1; simpa [World.size_alloc] using this)
          clear hown8 hgrow hat hlt FIN HOW c1 f1 cq fq
          go_wp2
          go_roundw
          case rel => exact ⟨k + 1, by omega, by go_num, g8, ho8.out⟩
          case measure => simp only [intOf]; omega
        · have HE2 := hide (show flR gf ⟨nm, (q : Int), sd, fo, wd, ln, -180⟩ (m.testBit k) = ⟨ax, ay, az, ix, iy, iz, al 0 (-1) wx, al 0 (-1) wy, al 0 (-1) wz, wd, ln⟩ by rw [hbit, HE.out]; rfl)
          have HAL := hide (fun w => (show Calls Try.prog 78 #[vc 0 0 0, iv (-1), vc wx wy wz] w fun e w' => e = .returned (vc (al 0 (-1) wx) (al 0 (-1) wy) (al 0 (-1) wz)) ∧ Gr w w' from along_any _ _ _ _ _ _ _ _))
          generalize al 0 (-1) wx = px at *
          generalize al 0 (-1) wy = py at *
          generalize al 0 (-1) wz = pz at *
          clear HE hbit
          go_upto_region 21 with (first | (go_at_call 78; refine (HAL.out _).mono ?_; rintro e w1 ⟨rfl, g1⟩; obtain ⟨X1, Y1, c1, f1⟩ := g1.use; have z1 := g1.size; (try simp only [World.size_alloc, World.size_setCell, World.heap_drewN, Nat.add_one_le_iff] at z1); (try have l0 : w.heap.size < w1.heap.size := by omega); (try have l1 : w.heap.size + 1 < w1.heap.size := by omega); (try have l2 : w.heap.size + 1 + 1 < w1.heap.size := by omega)))
          generalize hv : World.setCell _ _ _ = v7
          obtain rfl : v7 = set3 w1 bx px py pz := hv.symm
          clear hv
          have mf7 := Made.other3 (Made.gr mf' g1) px py pz xf
          have ma7 := Made.other3 (Made.gr ma' g1) px py pz xa
          have mi7 := Made.other3 (Made.gr mi' g1) px py pz xi
          have mx7 := Made.set3 (Made.gr mx g1) px py pz
          have gv7 : Gr wr (set3 w1 bx px py pz) := gr_set3 _ _ _ (gv6.trans g1) kbx
          clear mf' ma' mi' mx mw' mn gv6 mf0 mf1 mf2 ma0 ma1 ma2 mi0 mi1 mi2 mx0 mx1 mx2 mw0 mw1 mw2 mn0 mn1 mn2 c1 f1 z1
          generalize set3 w1 bx px py pz = v7 at *
          obtain ⟨mf0, mf1, mf2⟩ := id mf7
          obtain ⟨ma0, ma1, ma2⟩ := id ma7
          obtain ⟨mi0, mi1, mi2⟩ := id mi7
          obtain ⟨mx0, mx1, mx2⟩ := id mx7
          have lb : w.heap.size + 1 ≤ v7.heap.size := by have := gv7.size; omega
          refine wp_region_build1 _ 12 (by kernel_rfl) (by kernel_rfl) (Gr.refl _) (d1 := some 145) rfl ?_
          intro s gs
          obtain ⟨Xs, Ys, cs, fs⟩ := gs.use
          have GC := @GrW.cell
          simp only [List.take_succ_cons, List.take_zero]
          repeat (go_big_quiet_step ((first | (go_at_call 80; exact quiet_grw (rvec_any _ _ _ _)))))
          refine wpQuiet_nil ?_
          clear GC cs fs gs
          refine ⟨fun BB => .slice (some ⟨BB, 0, none⟩) 1 1, #[iv ax, iv ay, iv az, iv ix, iv iy, iv iz, iv px, iv py, iv pz, iv wd, iv ln], 44, ⟨rfl, rfl, fun w => by go_simp⟩, ?_⟩
          intro B1 wq gq1 l1 ⟨b1, c1, f1⟩
          obtain ⟨Xq, Yq, cq, fq⟩ := gq1.use
          have sq := gq1.size
          (try simp only [World.size_alloc, World.size_setCell, World.heap_drewN] at sq l1)
          simp only [List.drop_succ_cons, List.drop_zero]
          refine wpList_append_lies _ (by rfl) _ _ _ (by rfl) (w.heap.size + 1) 44 i0 _ 11 88 Try.underlying60 hi0 hz0 hz1 hz2 rfl (by omega) _ (k + 1) FL (by rfl) (own_gr HOW.out (gv7.trans gq1)) ⟨B1, 0, none⟩ 1 1 (fcL ⟨ax, ay, az, ix, iy, iz, px, py, pz, wd, ln⟩) (by rfl) (by rfl) (by intro j u hu; rw [addr_add, Nat.zero_add, c1]; simpa using hu) (one_fc _) (by omega) (by unfold maxLen; omega) (by omega) (by omega) _ rfl ?_
          intro gg cap1 w8 hown8 hgrow hat hlt
          have ho8 := hide (FIN.out w8 gg cap1 (by rw [HE2.out]; exact hown8))
          have g8 := Gr.grown (show Gr _ _ from (g.trans gv7).trans gq1) hgrow (fun k hk => by have := (World.ownsRow.lt HOW.out k hk).1; simpa [World.size_alloc] using this)
          clear hown8 hgrow hat hlt FIN HOW c1 f1 cq fq
          go_wp2
          go_roundw
          case rel => exact ⟨k + 1, by omega, by go_num, g8, ho8.out⟩
          case measure => simp only [intOf]; omega
    · obtain rfl : k = p.fl.length := by omega
      have zr := g.size
      simp only [World.size_alloc] at zr
      have l0 : w.heap.size < wr.heap.size := by omega
      go_wp2
      go_ret
      exact ⟨_, rfl, by have := HO.out.weak (Nat.le_succ w.heap.size); rw [hlen] at this; exact this, gW⟩
end Go.Proofs.Ytefjgfglommefaa
set_option linter.unusedVariables false
set_option linter.unusedSimpArgs false
namespace Go.Proofs.Ytefjgfglommefaa
set_option linter.unusedVariables false
set_option linter.unusedSimpArgs false
open Go Go.ChangeShapes Go.WideShapes Go.ChangeAt Go.RowKit Go.Deep

theorem rnormal_any (f : Fc) (w : World) :
    Calls Try.prog 83 #[fv f] w fun e w' => e = .returned (vc (nx f) (ny f) (nz f)) ∧ Gr w w' := by
  go_enter Try.func83, Try.ntmps83
  go_wp2
  have GC := fun (g : GrW ((w.alloc (.cells #[iv f.ox, iv f.oy, iv f.oz, iv f.ux, iv f.uy, iv f.uz, iv f.vx, iv f.vy, iv f.vz, iv f.w, iv f.h] 44)).alloc (.cells #[iv 0, iv 0, iv 0] 41))) i o => g.cell i o
  refine wp_region_grw_tail ((w.alloc (.cells #[iv f.ox, iv f.oy, iv f.oz, iv f.ux, iv f.uy, iv f.uz, iv f.vx, iv f.vy, iv f.vz, iv f.w, iv f.h] 44)).alloc (.cells #[iv 0, iv 0, iv 0] 41)) 8 (by kernel_rfl) (by kernel_rfl) (by repeat (first | with_reducible exact Gr.refl _ | with_reducible assumption | with_reducible refine Gr.alloc ?_ _ | with_reducible refine Gr.drewN ?_ _ | with_reducible refine Gr.drew ?_ | with_reducible refine Gr.setCell ?_ (by first | (dsimp only; omega) | (simp only [World.size_alloc]; omega) | (with_reducible refine Gr.size ?_; (repeat (first | with_reducible exact Gr.refl _ | with_reducible assumption | with_reducible refine Gr.alloc ?_ _ | with_reducible refine Gr.drewN ?_ _ | with_reducible refine Gr.drew ?_ | with_reducible refine Gr.trans ?_ (by with_reducible assumption))); done)) _ | with_reducible refine Gr.trans ?_ (by with_reducible assumption))) ?_
  simp only [List.take_succ_cons, List.take_zero, List.drop_succ_cons, List.drop_zero]
  repeat (go_big_quiet_step ((first | (go_at_call 76; exact quiet_grw (three_any _ _ _ _)) | (go_at_call 79; exact quiet_grw (cross_any _ _ _ _ _ _ _)) | (go_at_call 80; exact quiet_grw (rvec_any _ _ _ _)))))
  refine wpQuiet_nil ?_
  intro wq hwq
  obtain ⟨gq, hwq'⟩ := hwq
  subst hwq'
  clear GC
  have gq1 := gq.gr
  generalize gq.w = wq at gq1 ⊢
  obtain ⟨Xq, Yq, cq, fq⟩ := gq1.use
  have sq := gq1.size
  simp only [World.size_alloc] at sq
  go_wp2
  refine bodyPost_ret (v := vc (nx f) (ny f) (nz f)) (by simp [results, Try.results83, go_sem, nx, ny, nz, cq, fq]) rfl ⟨rfl, (by repeat (first | with_reducible exact Gr.refl _ | with_reducible assumption | with_reducible refine Gr.alloc ?_ _ | with_reducible refine Gr.drewN ?_ _ | with_reducible refine Gr.drew ?_ | with_reducible refine Gr.setCell ?_ (by first | (dsimp only; omega) | (simp only [World.size_alloc]; omega) | (with_reducible refine Gr.size ?_; (repeat (first | with_reducible exact Gr.refl _ | with_reducible assumption | with_reducible refine Gr.alloc ?_ _ | with_reducible refine Gr.drewN ?_ _ | with_reducible refine Gr.drew ?_ | with_reducible refine Gr.trans ?_ (by with_reducible assumption))); done)) _ | with_reducible refine Gr.trans ?_ (by with_reducible assumption)))⟩
theorem box0 (f : Fc) (w : World) : Calls Try.prog 84 #[fv f, iv 0] w fun e w' => e = .returned (.tuple #[iv (boL f 0), iv (boH f 0)]) ∧ Gr w w' := rbox_any f 0 w (by omega) (by omega)
theorem box1 (f : Fc) (w : World) : Calls Try.prog 84 #[fv f, iv 1] w fun e w' => e = .returned (.tuple #[iv (boL f 1), iv (boH f 1)]) ∧ Gr w w' := rbox_any f 1 w (by omega) (by omega)
theorem box2 (f : Fc) (w : World) : Calls Try.prog 84 #[fv f, iv 2] w fun e w' => e = .returned (.tuple #[iv (boL f 2), iv (boH f 2)]) ∧ Gr w w' := rbox_any f 2 w (by omega) (by omega)
set_option maxRecDepth 100000 in
set_option maxHeartbeats 4000000 in
theorem rclash_no (a b : Fc) (w : World) (h : soB a = false ∨ (soB a = true ∧ soB b = false) ∨ (soB a = true ∧ soB b = true ∧ (axN a == axN b) = true)) :
    Calls Try.prog 50 #[fv a, fv b] w fun e w' => e = .returned (.bool false) ∧ Gr w w' := by
  rcases h with h | ⟨h1, h2⟩ | ⟨h1, h2, h3⟩
  · go_enter Try.func50, Try.ntmps50
    go_upto_region 1 with fail
    have GC := @GrW.cell
    refine wp_region_grw _ (by kernel_rfl) (by kernel_rfl) (Gr.refl _) ?_
    repeat (go_big_quiet_step ((first | (go_at_call 81; exact quiet_grw (sound_any _ _)))))
    refine wpQuiet_nil ?_
    intro wq hwq
    obtain ⟨gq, hwq'⟩ := hwq
    subst hwq'
    clear GC
    have gq1 := gq.gr
    generalize gq.w = wq at gq1 ⊢
    obtain ⟨Xq, Yq, cq, fq⟩ := gq1.use
    have sq := gq1.size
    (try simp only [World.size_alloc, World.size_setCell, World.heap_drewN] at sq)
    go_wp2
    go_ret
    exact ⟨rfl, (by repeat (first | with_reducible exact Gr.refl _ | with_reducible assumption | with_reducible refine Gr.alloc ?_ _ | with_reducible refine Gr.drewN ?_ _ | with_reducible refine Gr.drew ?_ | with_reducible refine Gr.setCell ?_ (by first | (dsimp only; omega) | (simp only [World.size_alloc]; omega) | (with_reducible refine Gr.size ?_; (repeat (first | with_reducible exact Gr.refl _ | with_reducible assumption | with_reducible refine Gr.alloc ?_ _ | with_reducible refine Gr.drewN ?_ _ | with_reducible refine Gr.drew ?_ | with_reducible refine Gr.trans ?_ (by with_reducible assumption))); done)) _ | with_reducible refine Gr.trans ?_ (by with_reducible assumption)))⟩
  · go_enter Try.func50, Try.ntmps50
    go_upto_region 1 with fail
    have GC := @GrW.cell
    refine wp_region_grw _ (by kernel_rfl) (by kernel_rfl) (Gr.refl _) ?_
    repeat (go_big_quiet_step ((first | (go_at_call 81; exact quiet_grw (sound_any _ _)))))
    refine wpQuiet_nil ?_
    intro wq hwq
    obtain ⟨gq, hwq'⟩ := hwq
    subst hwq'
    clear GC
    have gq1 := gq.gr
    generalize gq.w = wq at gq1 ⊢
    obtain ⟨Xq, Yq, cq, fq⟩ := gq1.use
    have sq := gq1.size
    (try simp only [World.size_alloc, World.size_setCell, World.heap_drewN] at sq)
    go_wp2
    go_ret
    exact ⟨rfl, (by repeat (first | with_reducible exact Gr.refl _ | with_reducible assumption | with_reducible refine Gr.alloc ?_ _ | with_reducible refine Gr.drewN ?_ _ | with_reducible refine Gr.drew ?_ | with_reducible refine Gr.setCell ?_ (by first | (dsimp only; omega) | (simp only [World.size_alloc]; omega) | (with_reducible refine Gr.size ?_; (repeat (first | with_reducible exact Gr.refl _ | with_reducible assumption | with_reducible refine Gr.alloc ?_ _ | with_reducible refine Gr.drewN ?_ _ | with_reducible refine Gr.drew ?_ | with_reducible refine Gr.trans ?_ (by with_reducible assumption))); done)) _ | with_reducible refine Gr.trans ?_ (by with_reducible assumption)))⟩
  · have h4 : (axI (nx a) (ny a) (nz a) == axI (nx b) (ny b) (nz b)) = true := h3
    clear h3
    go_enter Try.func50, Try.ntmps50
    go_upto_region 1 with fail
    have GC := @GrW.cell
    refine wp_region_grw _ (by kernel_rfl) (by kernel_rfl) (Gr.refl _) ?_
    repeat (go_big_quiet_step ((first | (go_at_call 81; exact quiet_grw (sound_any _ _)) | (go_at_call 83; exact quiet_grw (rnormal_any _ _)) | (go_at_call 76; exact quiet_grw (three_any _ _ _ _)) | (go_at_call 82; exact quiet_grw (raxis_any _ _ _ _)))))
    refine wpQuiet_nil ?_
    intro wq hwq
    obtain ⟨gq, hwq'⟩ := hwq
    subst hwq'
    clear GC
    have gq1 := gq.gr
    generalize gq.w = wq at gq1 ⊢
    obtain ⟨Xq, Yq, cq, fq⟩ := gq1.use
    have sq := gq1.size
    (try simp only [World.size_alloc, World.size_setCell, World.heap_drewN] at sq)
    go_wp2
    go_ret
    exact ⟨rfl, (by repeat (first | with_reducible exact Gr.refl _ | with_reducible assumption | with_reducible refine Gr.alloc ?_ _ | with_reducible refine Gr.drewN ?_ _ | with_reducible refine Gr.drew ?_ | with_reducible refine Gr.setCell ?_ (by first | (dsimp only; omega) | (simp only [World.size_alloc]; omega) | (with_reducible refine Gr.size ?_; (repeat (first | with_reducible exact Gr.refl _ | with_reducible assumption | with_reducible refine Gr.alloc ?_ _ | with_reducible refine Gr.drewN ?_ _ | with_reducible refine Gr.drew ?_ | with_reducible refine Gr.trans ?_ (by with_reducible assumption))); done)) _ | with_reducible refine Gr.trans ?_ (by with_reducible assumption)))⟩
/-- the document's tests, apart -/
def tsA (lo hi fr tt : Int) : Bool := (lo == hi) && !(decide (fr < lo) && decide (lo < tt)) || (fr == tt) && !(decide (lo < fr) && decide (fr < hi))
def tsB (lo hi fr tt : Int) : Bool := decide (lo < hi) && decide (fr < tt) && (decide (hi ≤ fr) || decide (tt ≤ lo))
theorem tst_ab {lo hi fr tt : Int} : tst lo hi fr tt = (!tsA lo hi fr tt && !tsB lo hi fr tt) := rfl
theorem tst_iff {lo hi fr tt : Int} : tst lo hi fr tt = true ↔ (lo = hi → fr < lo ∧ lo < tt) ∧ (fr = tt → lo < fr ∧ fr < hi) ∧ ¬ (lo < hi ∧ fr < tt ∧ (hi ≤ fr ∨ tt ≤ lo)) := by
  unfold tst
  simp
  omega
theorem tst_at0 {x y z : Bool} (h : x = false) : (x && y && z) = false := by rw [h]; rfl
theorem tst_at1 {x y z : Bool} (h : y = false) : (x && y && z) = false := by rw [h]; simp
theorem tst_at2 {x y z : Bool} (h : z = false) : (x && y && z) = false := by rw [h]; simp
set_option maxRecDepth 100000 in
set_option maxHeartbeats 8000000 in
theorem rclash_yes (a b : Fc) (w : World) (h1 : soB a = true) (h2 : soB b = true) (h3 : (axN a == axN b) = false) :
    Calls Try.prog 50 #[fv a, fv b] w fun e w' => e = .returned (.bool (tst (boL a 0) (boH a 0) (boL b 0) (boH b 0) && tst (boL a 1) (boH a 1) (boL b 1) (boH b 1) && tst (boL a 2) (boH a 2) (boL b 2) (boH b 2))) ∧ Gr w w' := by
  have h4 : (axI (nx a) (ny a) (nz a) == axI (nx b) (ny b) (nz b)) = false := h3
  clear h3
  go_enter Try.func50, Try.ntmps50
  go_upto_region 1 with fail
  have GC := @GrW.cell
  refine wp_region_grw _ (by kernel_rfl) (by kernel_rfl) (Gr.refl _) ?_
  repeat (go_big_quiet_step ((first | (go_at_call 81; exact quiet_grw (sound_any _ _)) | (go_at_call 83; exact quiet_grw (rnormal_any _ _)) | (go_at_call 76; exact quiet_grw (three_any _ _ _ _)) | (go_at_call 82; exact quiet_grw (raxis_any _ _ _ _)))))
  refine wpQuiet_nil ?_
  intro wq hwq
  obtain ⟨gq, hwq'⟩ := hwq
  subst hwq'
  clear GC
  have gq1 := gq.gr
  generalize gq.w = wq at gq1 ⊢
  obtain ⟨Xq, Yq, cq, fq⟩ := gq1.use
  have sq := gq1.size
  (try simp only [World.size_alloc, World.size_setCell, World.heap_drewN] at sq)
  go_wp2
  have l0 : w.heap.size < wq.heap.size := by omega
  have g0 : Gr w wq := (by repeat (first | with_reducible exact Gr.refl _ | with_reducible assumption | with_reducible refine Gr.alloc ?_ _ | with_reducible refine Gr.drewN ?_ _ | with_reducible refine Gr.drew ?_ | with_reducible refine Gr.setCell ?_ (by first | (dsimp only; omega) | (simp only [World.size_alloc]; omega) | (with_reducible refine Gr.size ?_; (repeat (first | with_reducible exact Gr.refl _ | with_reducible assumption | with_reducible refine Gr.alloc ?_ _ | with_reducible refine Gr.drewN ?_ _ | with_reducible refine Gr.drew ?_ | with_reducible refine Gr.trans ?_ (by with_reducible assumption))); done)) _ | with_reducible refine Gr.trans ?_ (by with_reducible assumption)))
  clear cq fq
  obtain ⟨wB, rfl⟩ : ∃ wB, wB = wq := ⟨_, rfl⟩
  clear h1 h2 h4
  go_loopw [5] (fun i wr => ∃ k : Int, 0 ≤ k ∧ k ≤ 3 ∧ i = iv k ∧ Gr ((w.alloc (.cells #[iv a.ox, iv a.oy, iv a.oz, iv a.ux, iv a.uy, iv a.uz, iv a.vx, iv a.vy, iv a.vz, iv a.w, iv a.h] 44)).alloc (.cells #[iv b.ox, iv b.oy, iv b.oz, iv b.ux, iv b.uy, iv b.uz, iv b.vx, iv b.vy, iv b.vz, iv b.w, iv b.h] 44)) wr ∧
    Hid (1 ≤ k → tst (boL a 0) (boH a 0) (boL b 0) (boH b 0) = true) ∧ Hid (2 ≤ k → tst (boL a 1) (boH a 1) (boL b 1) (boH b 1) = true) ∧ Hid (3 ≤ k → tst (boL a 2) (boH a 2) (boL b 2) (boH b 2) = true)) (fun i _ => 3 - (intOf i).toNat)
  case atStart => exact ⟨0, by omega, by omega, rfl, gq1, by unfold Hid; omega, by unfold Hid; omega, by unfold Hid; omega⟩
  case round =>
    obtain ⟨k, hk0, hk3, rfl, g, HT0, HT1, HT2⟩ := hrel
    clear gq1 g0 gq
    obtain ⟨Xr, Yr, c1, f1⟩ := g.use
    have z1 := g.size
    simp only [World.size_alloc] at z1
    have l1 : w.heap.size + 1 < wr.heap.size := by omega
    rcases (by omega : k = 0 ∨ k = 1 ∨ k = 2 ∨ k = 3) with rfl | rfl | rfl | rfl
    · have hk := hide (show (0 : Int) ≤ 0 by omega)
      go_wp2_with (go_at_call 84; refine (box0 _ _).mono ?_; rintro e w1 ⟨rfl, g1⟩; obtain ⟨X1, Y1, c1, f1⟩ := g1.use)
      all_goals first
        | (go_ret
           exact ⟨ret_bool (by rw [tst_at0 (by rw [← Bool.not_eq_true, tst_iff]; clear c1 f1 HT0 HT1 HT2; simp at *; omega)]), (by repeat (first | with_reducible exact Gr.refl _ | with_reducible assumption | with_reducible refine Gr.alloc ?_ _ | with_reducible refine Gr.drewN ?_ _ | with_reducible refine Gr.drew ?_ | with_reducible refine Gr.setCell ?_ (by first | (dsimp only; omega) | (simp only [World.size_alloc]; omega) | (with_reducible refine Gr.size ?_; (repeat (first | with_reducible exact Gr.refl _ | with_reducible assumption | with_reducible refine Gr.alloc ?_ _ | with_reducible refine Gr.drewN ?_ _ | with_reducible refine Gr.drew ?_ | with_reducible refine Gr.trans ?_ (by with_reducible assumption))); done)) _ | with_reducible refine Gr.trans ?_ (by with_reducible assumption)))⟩)
        | (go_roundw
           case rel => exact ⟨1, by omega, by omega, rfl, (by repeat (first | with_reducible exact Gr.refl _ | with_reducible assumption | with_reducible refine Gr.alloc ?_ _ | with_reducible refine Gr.drewN ?_ _ | with_reducible refine Gr.drew ?_ | with_reducible refine Gr.setCell ?_ (by first | (dsimp only; omega) | (simp only [World.size_alloc]; omega) | (with_reducible refine Gr.size ?_; (repeat (first | with_reducible exact Gr.refl _ | with_reducible assumption | with_reducible refine Gr.alloc ?_ _ | with_reducible refine Gr.drewN ?_ _ | with_reducible refine Gr.drew ?_ | with_reducible refine Gr.trans ?_ (by with_reducible assumption))); done)) _ | with_reducible refine Gr.trans ?_ (by with_reducible assumption))), fun _ => tst_iff.2 (by clear HT0 HT1 HT2; simp at *; omega), by unfold Hid; omega, by unfold Hid; omega⟩
           case measure => simp [intOf])
    · have hk := hide (show (0 : Int) ≤ 1 by omega)
      go_wp2_with (go_at_call 84; refine (box1 _ _).mono ?_; rintro e w1 ⟨rfl, g1⟩; obtain ⟨X1, Y1, c1, f1⟩ := g1.use)
      all_goals first
        | (go_ret
           exact ⟨ret_bool (by rw [tst_at1 (by rw [← Bool.not_eq_true, tst_iff]; clear c1 f1 HT0 HT1 HT2; simp at *; omega)]), (by repeat (first | with_reducible exact Gr.refl _ | with_reducible assumption | with_reducible refine Gr.alloc ?_ _ | with_reducible refine Gr.drewN ?_ _ | with_reducible refine Gr.drew ?_ | with_reducible refine Gr.setCell ?_ (by first | (dsimp only; omega) | (simp only [World.size_alloc]; omega) | (with_reducible refine Gr.size ?_; (repeat (first | with_reducible exact Gr.refl _ | with_reducible assumption | with_reducible refine Gr.alloc ?_ _ | with_reducible refine Gr.drewN ?_ _ | with_reducible refine Gr.drew ?_ | with_reducible refine Gr.trans ?_ (by with_reducible assumption))); done)) _ | with_reducible refine Gr.trans ?_ (by with_reducible assumption)))⟩)
        | (go_roundw
           case rel => exact ⟨2, by omega, by omega, rfl, (by repeat (first | with_reducible exact Gr.refl _ | with_reducible assumption | with_reducible refine Gr.alloc ?_ _ | with_reducible refine Gr.drewN ?_ _ | with_reducible refine Gr.drew ?_ | with_reducible refine Gr.setCell ?_ (by first | (dsimp only; omega) | (simp only [World.size_alloc]; omega) | (with_reducible refine Gr.size ?_; (repeat (first | with_reducible exact Gr.refl _ | with_reducible assumption | with_reducible refine Gr.alloc ?_ _ | with_reducible refine Gr.drewN ?_ _ | with_reducible refine Gr.drew ?_ | with_reducible refine Gr.trans ?_ (by with_reducible assumption))); done)) _ | with_reducible refine Gr.trans ?_ (by with_reducible assumption))), fun _ => HT0.out (by omega), fun _ => tst_iff.2 (by clear HT0 HT1 HT2; simp at *; omega), by unfold Hid; omega⟩
           case measure => simp [intOf])
    · have hk := hide (show (0 : Int) ≤ 2 by omega)
      go_wp2_with (go_at_call 84; refine (box2 _ _).mono ?_; rintro e w1 ⟨rfl, g1⟩; obtain ⟨X1, Y1, c1, f1⟩ := g1.use)
      all_goals first
        | (go_ret
           exact ⟨ret_bool (by rw [tst_at2 (by rw [← Bool.not_eq_true, tst_iff]; clear c1 f1 HT0 HT1 HT2; simp at *; omega)]), (by repeat (first | with_reducible exact Gr.refl _ | with_reducible assumption | with_reducible refine Gr.alloc ?_ _ | with_reducible refine Gr.drewN ?_ _ | with_reducible refine Gr.drew ?_ | with_reducible refine Gr.setCell ?_ (by first | (dsimp only; omega) | (simp only [World.size_alloc]; omega) | (with_reducible refine Gr.size ?_; (repeat (first | with_reducible exact Gr.refl _ | with_reducible assumption | with_reducible refine Gr.alloc ?_ _ | with_reducible refine Gr.drewN ?_ _ | with_reducible refine Gr.drew ?_ | with_reducible refine Gr.trans ?_ (by with_reducible assumption))); done)) _ | with_reducible refine Gr.trans ?_ (by with_reducible assumption)))⟩)
        | (go_roundw
           case rel => exact ⟨3, by omega, by omega, rfl, (by repeat (first | with_reducible exact Gr.refl _ | with_reducible assumption | with_reducible refine Gr.alloc ?_ _ | with_reducible refine Gr.drewN ?_ _ | with_reducible refine Gr.drew ?_ | with_reducible refine Gr.setCell ?_ (by first | (dsimp only; omega) | (simp only [World.size_alloc]; omega) | (with_reducible refine Gr.size ?_; (repeat (first | with_reducible exact Gr.refl _ | with_reducible assumption | with_reducible refine Gr.alloc ?_ _ | with_reducible refine Gr.drewN ?_ _ | with_reducible refine Gr.drew ?_ | with_reducible refine Gr.trans ?_ (by with_reducible assumption))); done)) _ | with_reducible refine Gr.trans ?_ (by with_reducible assumption))), fun _ => HT0.out (by omega), fun _ => HT1.out (by omega), fun _ => tst_iff.2 (by clear HT0 HT1 HT2; simp at *; omega)⟩
           case measure => simp [intOf])
    · have h0 := HT0.out (by omega)
      have h1 := HT1.out (by omega)
      have h2 := HT2.out (by omega)
      go_wp2
      go_ret
      exact ⟨ret_bool (by rw [h0, h1, h2]; rfl), (by repeat (first | with_reducible exact Gr.refl _ | with_reducible assumption | with_reducible refine Gr.alloc ?_ _ | with_reducible refine Gr.drewN ?_ _ | with_reducible refine Gr.drew ?_ | with_reducible refine Gr.setCell ?_ (by first | (dsimp only; omega) | (simp only [World.size_alloc]; omega) | (with_reducible refine Gr.size ?_; (repeat (first | with_reducible exact Gr.refl _ | with_reducible assumption | with_reducible refine Gr.alloc ?_ _ | with_reducible refine Gr.drewN ?_ _ | with_reducible refine Gr.drew ?_ | with_reducible refine Gr.trans ?_ (by with_reducible assumption))); done)) _ | with_reducible refine Gr.trans ?_ (by with_reducible assumption)))⟩
end Go.Proofs.Ytefjgfglommefaa
set_option linter.unusedVariables false
set_option linter.unusedSimpArgs false
namespace Go.Proofs.Ytefjgfglommefaa
set_option linter.unusedVariables false
set_option linter.unusedSimpArgs false
open Go Go.ChangeShapes Go.WideShapes Go.ChangeAt Go.RowKit Go.Deep

theorem rclashB_any (a b : Fc) (w : World) :
    Calls Try.prog 50 #[fv a, fv b] w fun e w' => e = .returned (.bool (clC b a)) ∧ Gr w w' := by
  rw [cl_comm, cl_eq]
  cases ha : soB a with
  | false =>
    have : clR a b = false := by unfold clR; simp [ha]
    rw [this]
    exact rclash_no a b w (.inl ha)
  | true =>
    cases hb : soB b with
    | false =>
      have : clR a b = false := by unfold clR; simp [hb]
      rw [this]
      exact rclash_no a b w (.inr (.inl ⟨ha, hb⟩))
    | true =>
      cases hn : (axN a == axN b) with
      | true =>
        have : clR a b = false := by unfold clR; rw [hn]; simp
        rw [this]
        exact rclash_no a b w (.inr (.inr ⟨ha, hb, hn⟩))
      | false =>
        have := rclash_yes a b w ha hb hn
        unfold clR
        rw [ha, hb, hn]
        exact this
theorem nb_tr {b : Bool} (h : (!b) = false) : b = true := by simpa using h
theorem basB_parts {p : Pa} : basB p = true ↔ wiB p.ga 1 60 = true ∧ wiB p.gr 0 2 = true ∧ wiB p.wd 1 150 = true ∧ wiB p.ht 1 150 = true := by
  unfold basB lenB
  simp only [Bool.and_eq_true, and_assoc]
theorem fls_zero {p : Pa} (h : flsE p = 0) : firE (flA p) p.fl.length = 0 ∧ anyB ovF p.fl = false := by
  unfold flsE at h
  split at h
  · rename_i h1
    exact absurd h h1
  · rename_i h1
    split at h
    · cases h
    · rename_i h2
      exact ⟨by simpa using h1, by simpa using h2⟩
theorem hos_zero {p : Pa} (h : hosE p = 0) : p.ho.all (hoB p) = true ∧ anyB touB p.ho = false := by
  unfold hosE at h
  split at h
  · cases h
  · rename_i h1
    split at h
    · cases h
    · rename_i h2
      exact ⟨by simpa using h1, by simpa using h2⟩
theorem valE_fls {p : Pa} (h : (nameB p.nm.toList && nameB p.mt.toList) = true) (hb : basB p = true) (hl : ¬ (5 < p.fl.length ∨ 6 < p.ho.length)) (k : ¬ flsE p = 0) : valE p = flsE p := by
  rw [valE_rest h hb hl]
  unfold flsE at *
  split at k
  · rename_i h1
    rw [if_pos h1, if_pos h1]
  · rename_i h1
    rw [if_neg h1, if_neg h1]
    split at k
    · rename_i h2
      rw [if_pos h2, if_pos h2]
    · exact absurd rfl k
theorem valE_hos {p : Pa} (h : (nameB p.nm.toList && nameB p.mt.toList) = true) (hb : basB p = true) (hl : ¬ (5 < p.fl.length ∨ 6 < p.ho.length)) (k : flsE p = 0) (m : ¬ hosE p = 0) : valE p = hosE p := by
  obtain ⟨k1, k2⟩ := fls_zero k
  rw [valE_rest h hb hl, k1, k2]
  unfold hosE at *
  simp only [ne_eq, not_true_eq_false, if_false, Bool.false_eq_true] at *
  split at m
  · rename_i h1
    rw [if_pos h1, if_pos h1]
  · rename_i h1
    rw [if_neg h1, if_neg h1]
    split at m
    · rename_i h2
      rw [if_pos h2, if_pos h2]
    · exact absurd rfl m
theorem valE_clash {p : Pa} (h : (nameB p.nm.toList && nameB p.mt.toList) = true) (hb : basB p = true) (hl : ¬ (5 < p.fl.length ∨ 6 < p.ho.length)) (k : flsE p = 0) (m : hosE p = 0) :
    valE p = if anyB clC (facs flC p.wd p.ht p.fl allT p.fl.length) then 6 else 0 := by
  obtain ⟨k1, k2⟩ := fls_zero k
  obtain ⟨m1, m2⟩ := hos_zero m
  rw [valE_rest h hb hl, k1, k2, m1, m2]
  rfl
theorem facs_fullR (p : Pa) (ok : Fit p.fl) : facs flR p.wd p.ht p.fl (fun i => (2 ^ p.fl.length - 1).testBit i) p.fl.length = facs flC p.wd p.ht p.fl allT p.fl.length := by
  rw [← (facs_eq ok p.fl.length (Nat.le_refl _)).1]
  exact facs_congr fun i hi => full_bit hi
set_option maxRecDepth 100000 in
set_option maxHeartbeats 4000000 in
theorem rvalidate_early (p : Pa) (A B : Option Addr) (c d : Nat) (w : World) (hP : PaW w p A c B d) (h : (nameB p.nm.toList && nameB p.mt.toList) = false ∨ basB p = false ∨ 5 < p.fl.length ∨ 6 < p.ho.length) :
    Calls Try.prog 17 #[pav p A c B d] w fun e w' => e = .returned (iv (valE p)) ∧ Gr w w' := by
  have hn := hP.nm
  have hm := hP.mt
  have HP := hide hP
  clear hP
  cases h1 : nameB p.nm.toList with
  | false =>
    have HE := hide (valE_names (p := p) (by rw [h1]; rfl))
    go_enter Try.func17, Try.ntmps17
    go_wp2_with (first | (go_at_call 45; refine (rvalidName_any _ _ (by omega)).mono ?_; rintro e w1 ⟨rfl, rfl⟩))
    go_ret
    exact ⟨ret_iv HE.out.symm, (by repeat (first | with_reducible exact Gr.refl _ | with_reducible assumption | with_reducible refine Gr.alloc ?_ _ | with_reducible refine Gr.drewN ?_ _ | with_reducible refine Gr.drew ?_ | with_reducible refine Gr.setCell ?_ (by first | (dsimp only; omega) | (simp only [World.size_alloc]; omega) | (with_reducible refine Gr.size ?_; (repeat (first | with_reducible exact Gr.refl _ | with_reducible assumption | with_reducible refine Gr.alloc ?_ _ | with_reducible refine Gr.drewN ?_ _ | with_reducible refine Gr.drew ?_ | with_reducible refine Gr.trans ?_ (by with_reducible assumption))); done)) _ | with_reducible refine Gr.trans ?_ (by with_reducible assumption)))⟩
  | true =>
    cases h2 : nameB p.mt.toList with
    | false =>
      have HE := hide (valE_names (p := p) (by rw [h1, h2]; rfl))
      go_enter Try.func17, Try.ntmps17
      go_wp2_with (first | (go_at_call 45; refine (rvalidName_any _ _ (by omega)).mono ?_; rintro e w1 ⟨rfl, rfl⟩))
      go_ret
      exact ⟨ret_iv HE.out.symm, (by repeat (first | with_reducible exact Gr.refl _ | with_reducible assumption | with_reducible refine Gr.alloc ?_ _ | with_reducible refine Gr.drewN ?_ _ | with_reducible refine Gr.drew ?_ | with_reducible refine Gr.setCell ?_ (by first | (dsimp only; omega) | (simp only [World.size_alloc]; omega) | (with_reducible refine Gr.size ?_; (repeat (first | with_reducible exact Gr.refl _ | with_reducible assumption | with_reducible refine Gr.alloc ?_ _ | with_reducible refine Gr.drewN ?_ _ | with_reducible refine Gr.drew ?_ | with_reducible refine Gr.trans ?_ (by with_reducible assumption))); done)) _ | with_reducible refine Gr.trans ?_ (by with_reducible assumption)))⟩
    | true =>
      cases h3 : basB p with
      | false =>
        have HE := hide (valE_base (p := p) (by rw [h1, h2]; rfl) h3)
        have HN := hide (show ¬ (wiB p.ga 1 60 = true ∧ wiB p.gr 0 2 = true ∧ wiB p.wd 1 150 = true ∧ wiB p.ht 1 150 = true) by rw [← basB_parts, h3]; simp)
        clear h h3
        go_enter Try.func17, Try.ntmps17
        go_upto_region 5 with (first | (go_at_call 45; refine (rvalidName_any _ _ (by omega)).mono ?_; rintro e w1 ⟨rfl, rfl⟩) | (go_at_call 18; refine (rwithin_any _ _ _ _).mono ?_; rintro e w1 ⟨rfl, rfl⟩))
        all_goals first
          | (exfalso
             exact HN.out ⟨by assumption, by assumption, by assumption, by first | assumption | exact nb_tr (by assumption)⟩)
          | (go_ret
             exact ⟨ret_iv HE.out.symm, (by repeat (first | with_reducible exact Gr.refl _ | with_reducible assumption | with_reducible refine Gr.alloc ?_ _ | with_reducible refine Gr.drewN ?_ _ | with_reducible refine Gr.drew ?_ | with_reducible refine Gr.setCell ?_ (by first | (dsimp only; omega) | (simp only [World.size_alloc]; omega) | (with_reducible refine Gr.size ?_; (repeat (first | with_reducible exact Gr.refl _ | with_reducible assumption | with_reducible refine Gr.alloc ?_ _ | with_reducible refine Gr.drewN ?_ _ | with_reducible refine Gr.drew ?_ | with_reducible refine Gr.trans ?_ (by with_reducible assumption))); done)) _ | with_reducible refine Gr.trans ?_ (by with_reducible assumption)))⟩)
      | true =>
        have hl : 5 < p.fl.length ∨ 6 < p.ho.length := by
          rcases h with h | h | h
          · rw [h1, h2] at h; cases h
          · rw [h3] at h; cases h
          · exact h
        have HE := hide (valE_large (p := p) (by rw [h1, h2]; rfl) h3 hl)
        obtain ⟨q1, q2, q3, q4⟩ := basB_parts.1 h3
        clear h h3
        by_cases hl5 : 5 < p.fl.length
        · clear hl
          go_enter Try.func17, Try.ntmps17
          go_wp2_with (first | (go_at_call 45; refine (rvalidName_any _ _ (by omega)).mono ?_; rintro e w1 ⟨rfl, rfl⟩) | (go_at_call 18; refine (rwithin_any _ _ _ _).mono ?_; rintro e w1 ⟨rfl, rfl⟩))
          go_ret
          exact ⟨ret_iv HE.out.symm, (by repeat (first | with_reducible exact Gr.refl _ | with_reducible assumption | with_reducible refine Gr.alloc ?_ _ | with_reducible refine Gr.drewN ?_ _ | with_reducible refine Gr.drew ?_ | with_reducible refine Gr.setCell ?_ (by first | (dsimp only; omega) | (simp only [World.size_alloc]; omega) | (with_reducible refine Gr.size ?_; (repeat (first | with_reducible exact Gr.refl _ | with_reducible assumption | with_reducible refine Gr.alloc ?_ _ | with_reducible refine Gr.drewN ?_ _ | with_reducible refine Gr.drew ?_ | with_reducible refine Gr.trans ?_ (by with_reducible assumption))); done)) _ | with_reducible refine Gr.trans ?_ (by with_reducible assumption)))⟩
        · have hl6 : 6 < p.ho.length := by omega
          clear hl
          go_enter Try.func17, Try.ntmps17
          go_wp2_with (first | (go_at_call 45; refine (rvalidName_any _ _ (by omega)).mono ?_; rintro e w1 ⟨rfl, rfl⟩) | (go_at_call 18; refine (rwithin_any _ _ _ _).mono ?_; rintro e w1 ⟨rfl, rfl⟩))
          go_ret
          exact ⟨ret_iv HE.out.symm, (by repeat (first | with_reducible exact Gr.refl _ | with_reducible assumption | with_reducible refine Gr.alloc ?_ _ | with_reducible refine Gr.drewN ?_ _ | with_reducible refine Gr.drew ?_ | with_reducible refine Gr.setCell ?_ (by first | (dsimp only; omega) | (simp only [World.size_alloc]; omega) | (with_reducible refine Gr.size ?_; (repeat (first | with_reducible exact Gr.refl _ | with_reducible assumption | with_reducible refine Gr.alloc ?_ _ | with_reducible refine Gr.drewN ?_ _ | with_reducible refine Gr.drew ?_ | with_reducible refine Gr.trans ?_ (by with_reducible assumption))); done)) _ | with_reducible refine Gr.trans ?_ (by with_reducible assumption)))⟩
end Go.Proofs.Ytefjgfglommefaa
set_option linter.unusedVariables false
set_option linter.unusedSimpArgs false
namespace Go.Proofs.Ytefjgfglommefaa
set_option linter.unusedVariables false
set_option linter.unusedSimpArgs false
open Go Go.ChangeShapes Go.WideShapes Go.ChangeAt Go.RowKit Go.Deep

set_option maxRecDepth 100000 in
set_option maxHeartbeats 4000000 in
theorem rvalidate_late (p : Pa) (A B : Option Addr) (c d : Nat) (w : World) (hP : PaW w p A c B d) (h : (nameB p.nm.toList && nameB p.mt.toList) = true) (hb : basB p = true) (hl : ¬ (5 < p.fl.length ∨ 6 < p.ho.length)) :
    Calls Try.prog 17 #[pav p A c B d] w fun e w' => e = .returned (iv (valE p)) ∧ Gr w w' := by
  have hn := hP.nm
  have hm := hP.mt
  have HP := hide hP
  have HB := hide hb
  have HV := hide h
  have HL := hide hl
  have hl5 : p.fl.length ≤ 5 := by omega
  have hl6 : p.ho.length ≤ 6 := by omega
  have HFE := hide (fun (w' : World) (g : Gr w w') => flangesError_any p A B c d w' (HP.out.fl.gr g) HB.out)
  obtain ⟨q1, q2, q3, q4⟩ := basB_parts.1 hb
  simp only [Bool.and_eq_true] at h
  obtain ⟨h1, h2⟩ := h
  clear hP hl hb
  by_cases hf0 : flsE p = 0
  · obtain ⟨e1, e2⟩ := fls_zero hf0
    have ok := FlOk.all HB.out e1
    have HHE := hide (fun (w' : World) (g : Gr w w') => holesError_any p A B c d w' (HP.out.fl.gr g) (HP.out.ho.gr g) ok)
    have HPL := hide (fun (w' : World) (g : Gr w w') => place_any p A B c d (2 ^ p.fl.length - 1) w' (HP.out.fl.gr g) hl5 (by have : 2 ^ p.fl.length ≤ 2 ^ 5 := Nat.pow_le_pow_right (by omega) hl5; omega) ok.fit)
    rw [facs_fullR p ok.fit] at HPL
    have hlen : (facs flC p.wd p.ht p.fl allT p.fl.length).length = p.fl.length + 1 := facs_len (Nat.le_refl _)
    rw [hf0] at HFE
    have HF0 := hide hf0
    clear e1 e2 ok hf0
    by_cases hh0 : hosE p = 0
    · have HE := hide (valE_clash HV.out HB.out HL.out HF0.out hh0)
      rw [hh0] at HHE
      clear hh0
      generalize facs flC p.wd p.ht p.fl allT p.fl.length = FS at *
      have HFM := hide (fun w' => full_any p A B c d w' hl5)
      generalize 2 ^ p.fl.length - 1 = M at *
      have hFS : FS.length ≤ 6 := by omega
      have HLEN := hide hlen
      clear hlen HP HB HV HL HF0
      go_enter Try.func17, Try.ntmps17
      go_upto_region 7 with (first | (go_at_call 45; refine (rvalidName_any _ _ (by omega)).mono ?_; rintro e w1 ⟨rfl, rfl⟩) | (go_at_call 18; refine (rwithin_any _ _ _ _).mono ?_; rintro e w1 ⟨rfl, rfl⟩))
      clear h1 h2 q1 q2 q3 q4 hn hm
      go_wp2_with fail
      refine (HFE.out _ (by repeat (first | with_reducible exact Gr.refl _ | with_reducible assumption | with_reducible refine Gr.alloc ?_ _ | with_reducible refine Gr.drewN ?_ _ | with_reducible refine Gr.drew ?_ | with_reducible refine Gr.setCell ?_ (by first | (dsimp only; omega) | (simp only [World.size_alloc]; omega) | (with_reducible refine Gr.size ?_; (repeat (first | with_reducible exact Gr.refl _ | with_reducible assumption | with_reducible refine Gr.alloc ?_ _ | with_reducible refine Gr.drewN ?_ _ | with_reducible refine Gr.drew ?_ | with_reducible refine Gr.trans ?_ (by with_reducible assumption))); done)) _ | with_reducible refine Gr.trans ?_ (by with_reducible assumption)))).mono ?_
      rintro e w1 ⟨rfl, g1⟩
      have z1 := g1.size
      have gW1 : Gr w w1 := (by repeat (first | with_reducible exact Gr.refl _ | with_reducible assumption | with_reducible refine Gr.alloc ?_ _ | with_reducible refine Gr.drewN ?_ _ | with_reducible refine Gr.drew ?_ | with_reducible refine Gr.setCell ?_ (by first | (dsimp only; omega) | (simp only [World.size_alloc]; omega) | (with_reducible refine Gr.size ?_; (repeat (first | with_reducible exact Gr.refl _ | with_reducible assumption | with_reducible refine Gr.alloc ?_ _ | with_reducible refine Gr.drewN ?_ _ | with_reducible refine Gr.drew ?_ | with_reducible refine Gr.trans ?_ (by with_reducible assumption))); done)) _ | with_reducible refine Gr.trans ?_ (by with_reducible assumption)))
      obtain ⟨X1, Y1, c1, f1⟩ := g1.use
      have l1 : w.heap.size < w1.heap.size := Nat.lt_of_lt_of_le (by simp) z1
      go_wp2_with fail
      refine (HHE.out _ gW1).mono ?_
      rintro e w2 ⟨rfl, g2⟩
      have z2 := g2.size
      have gW2 : Gr w w2 := gW1.trans g2
      obtain ⟨X2, Y2, c2, f2⟩ := g2.use
      have l2 : w.heap.size < w2.heap.size := by omega
      go_upto_region 13 with fail
      clear HFE HHE
      go_region_law (first
        | (go_simp; go_at_call 49; refine (HFM.out _).mono ?_; rintro e w5 ⟨rfl, g5⟩; (have m5 : w.heap.size < w5.heap.size := Nat.lt_of_lt_of_le l2 (Gr.size (by repeat (first | with_reducible exact Gr.refl _ | with_reducible assumption | with_reducible refine Gr.alloc ?_ _ | with_reducible refine Gr.drewN ?_ _ | with_reducible refine Gr.drew ?_ | with_reducible refine Gr.setCell ?_ (by first | (dsimp only; omega) | (simp only [World.size_alloc]; omega) | (with_reducible refine Gr.size ?_; (repeat (first | with_reducible exact Gr.refl _ | with_reducible assumption | with_reducible refine Gr.alloc ?_ _ | with_reducible refine Gr.drewN ?_ _ | with_reducible refine Gr.drew ?_ | with_reducible refine Gr.trans ?_ (by with_reducible assumption))); done)) _ | with_reducible refine Gr.trans ?_ (by with_reducible assumption))))); obtain ⟨X5, Y5, c5, f5⟩ := g5.use)
        | (go_simp; go_at_call 48; refine (HPL.out _ (gW2.trans (by repeat (first | with_reducible exact Gr.refl _ | with_reducible assumption | with_reducible refine Gr.alloc ?_ _ | with_reducible refine Gr.drewN ?_ _ | with_reducible refine Gr.drew ?_ | with_reducible refine Gr.setCell ?_ (by first | (dsimp only; omega) | (simp only [World.size_alloc]; omega) | (with_reducible refine Gr.size ?_; (repeat (first | with_reducible exact Gr.refl _ | with_reducible assumption | with_reducible refine Gr.alloc ?_ _ | with_reducible refine Gr.drewN ?_ _ | with_reducible refine Gr.drew ?_ | with_reducible refine Gr.trans ?_ (by with_reducible assumption))); done)) _ | with_reducible refine Gr.trans ?_ (by with_reducible assumption))))).mono ?_; rintro e w6 ⟨v6, rfl, ho6, g6⟩; obtain ⟨A6, d6, rfl⟩ := ho6.slice; (have hsl := slC_of ho6 (by omega)); (have HSL := hide hsl); clear hsl ho6; (have m6 : w.heap.size < w6.heap.size := Nat.lt_of_lt_of_le l2 (Gr.size (by repeat (first | with_reducible exact Gr.refl _ | with_reducible assumption | with_reducible refine Gr.alloc ?_ _ | with_reducible refine Gr.drewN ?_ _ | with_reducible refine Gr.drew ?_ | with_reducible refine Gr.setCell ?_ (by first | (dsimp only; omega) | (simp only [World.size_alloc]; omega) | (with_reducible refine Gr.size ?_; (repeat (first | with_reducible exact Gr.refl _ | with_reducible assumption | with_reducible refine Gr.alloc ?_ _ | with_reducible refine Gr.drewN ?_ _ | with_reducible refine Gr.drew ?_ | with_reducible refine Gr.trans ?_ (by with_reducible assumption))); done)) _ | with_reducible refine Gr.trans ?_ (by with_reducible assumption))))); (have gW6 : Gr w w6 := gW2.trans (by repeat (first | with_reducible exact Gr.refl _ | with_reducible assumption | with_reducible refine Gr.alloc ?_ _ | with_reducible refine Gr.drewN ?_ _ | with_reducible refine Gr.drew ?_ | with_reducible refine Gr.setCell ?_ (by first | (dsimp only; omega) | (simp only [World.size_alloc]; omega) | (with_reducible refine Gr.size ?_; (repeat (first | with_reducible exact Gr.refl _ | with_reducible assumption | with_reducible refine Gr.alloc ?_ _ | with_reducible refine Gr.drewN ?_ _ | with_reducible refine Gr.drew ?_ | with_reducible refine Gr.trans ?_ (by with_reducible assumption))); done)) _ | with_reducible refine Gr.trans ?_ (by with_reducible assumption))))))
      all_goals
        go_wp2
        clear c1 f1 c2 f2 c5 f5
        go_loopw [6] (fun i wr => ∃ i' : Nat, i' ≤ FS.length ∧ i = iv i' ∧ Gr w6 wr ∧ Hid (∀ i, i < i' → ∀ k a b, k < i → FS[k]? = some a → FS[i]? = some b → clC a b = false)) (fun i _ => FS.length - (intOf i).toNat)
        case atStart => exact ⟨0, by omega, rfl, Gr.refl _, by intro i hi; omega⟩
        case round =>
          obtain ⟨i, hi, rfl, g, HI⟩ := hrel
          obtain ⟨wo, rfl⟩ : ∃ wo, wo = wr := ⟨_, rfl⟩
          by_cases hlt : i < FS.length
          · obtain ⟨f, hf⟩ : ∃ f, FS[i]? = some f := ⟨_, List.getElem?_eq_getElem hlt⟩
            go_wp2
            go_loopw [7] (fun k wk => ∃ k' : Nat, k' ≤ i ∧ k = iv k' ∧ Gr w6 wk ∧ Hid (∀ k a, k < k' → FS[k]? = some a → clC a f = false)) (fun k _ => i - (intOf k).toNat)
            case atStart => exact ⟨0, by omega, rfl, g, by intro k a hk; omega⟩
            case round =>
              obtain ⟨k, hk, rfl, gk, HK⟩ := hrel
              by_cases hki : k < i
              · obtain ⟨a, ha⟩ : ∃ a, FS[k]? = some a := ⟨_, List.getElem?_eq_getElem (by omega)⟩
                obtain ⟨b, off, hA, x0, x1, x2, x3, x4, x5, x6, x7, x8, x9, x10⟩ := (HSL.out.gr gk).rd.fc hf
                obtain ⟨b', off', hA', y0, y1, y2, y3, y4, y5, y6, y7, y8, y9, y10⟩ := (HSL.out.gr gk).rd.fc ha
                subst hA
                obtain ⟨rfl, rfl⟩ : b = b' ∧ off = off' := by simpa using hA'
                clear hA'
                have hb : b < wr.heap.size := cell_lt (by rw [x0]; rfl)
                have hi0 : (0 : Int) ≤ (i : Int) := by omega
                have hi1 : (i : Int) < (FS.length : Int) := by omega
                have hk0 : (0 : Int) ≤ (k : Int) := by omega
                have hk1 : (k : Int) < (FS.length : Int) := by omega
                have HLf := hide hf
                have HLa := hide ha
                have HCL := hide (fun w => rclashB_any f a w)
                clear hf ha
                cases hv : clC a f with
                | true =>
                  have HE2 := hide (show valE p = 6 by rw [HE.out, if_pos (anyB_yes hki HLa.out HLf.out hv)])
                  rw [hv] at HCL
                  clear hv
                  go_upto_region 20 with fail
                  have GC := @GrW.cell
                  refine wp_region_grw _ (by kernel_rfl) (by kernel_rfl) (Gr.refl _) ?_
                  repeat (go_big_quiet_step ((first | (go_at_call 50; exact quiet_grw (HCL.out _)))))
                  refine wpQuiet_nil ?_
                  intro wq hwq
                  obtain ⟨gq, hwq'⟩ := hwq
                  subst hwq'
                  clear GC
                  have gq1 := gq.gr
                  generalize gq.w = wq at gq1 ⊢
                  obtain ⟨Xq, Yq, cq, fq⟩ := gq1.use
                  have sq := gq1.size
                  (try simp only [World.size_alloc, World.size_setCell, World.heap_drewN] at sq)
                  go_wp2
                  go_ret
                  exact ⟨ret_iv HE2.out.symm, gW6.trans (gk.trans gq1)⟩
                | false =>
                  have HK' := hide (show ∀ j x, j < k + 1 → FS[j]? = some x → clC x f = false by
                    intro j x hj hx
                    rcases Nat.lt_or_ge j k with h | h
                    · exact HK.out j x h hx
                    · obtain rfl : j = k := by omega
                      rw [HLa.out] at hx
                      obtain rfl := Option.some.inj hx
                      exact hv)
                  rw [hv] at HCL
                  clear hv
                  go_upto_region 20 with fail
                  have GC := @GrW.cell
                  refine wp_region_grw _ (by kernel_rfl) (by kernel_rfl) (Gr.refl _) ?_
                  repeat (go_big_quiet_step ((first | (go_at_call 50; exact quiet_grw (HCL.out _)))))
                  refine wpQuiet_nil ?_
                  intro wq hwq
                  obtain ⟨gq, hwq'⟩ := hwq
                  subst hwq'
                  clear GC
                  have gq1 := gq.gr
                  generalize gq.w = wq at gq1 ⊢
                  obtain ⟨Xq, Yq, cq, fq⟩ := gq1.use
                  have sq := gq1.size
                  (try simp only [World.size_alloc, World.size_setCell, World.heap_drewN] at sq)
                  go_wp2
                  go_roundw
                  case rel => exact ⟨k + 1, by omega, by go_num, gk.trans gq1, HK'⟩
                  case measure => simp only [intOf]; omega
              · obtain rfl : k = i := by omega
                have HI' := hide (show ∀ j, j < k + 1 → ∀ m a b, m < j → FS[m]? = some a → FS[j]? = some b → clC a b = false by
                  intro j hj m a b hm hx hy
                  rcases Nat.lt_or_ge j k with h | h
                  · exact HI.out j h m a b hm hx hy
                  · obtain rfl : j = k := by omega
                    rw [hf] at hy
                    obtain rfl := Option.some.inj hy
                    exact HK.out m a hm hx)
                go_wp2
                go_roundw
                case rel => exact ⟨k + 1, by omega, by go_num, gk, HI'⟩
                case measure => simp only [intOf]; omega
          · obtain rfl : i = FS.length := by omega
            have HE2 := hide (show valE p = 0 by rw [HE.out, anyB_no HI.out]; rfl)
            go_wp2
            go_ret
            exact ⟨ret_iv HE2.out.symm, gW6.trans g⟩
    · have HE := hide (valE_hos HV.out HB.out HL.out HF0.out hh0)
      have h0' : (hosE p != 0) = true := by simpa using hh0
      generalize hosE p = x at *
      clear hh0
      go_enter Try.func17, Try.ntmps17
      go_upto_region 7 with (first | (go_at_call 45; refine (rvalidName_any _ _ (by omega)).mono ?_; rintro e w1 ⟨rfl, rfl⟩) | (go_at_call 18; refine (rwithin_any _ _ _ _).mono ?_; rintro e w1 ⟨rfl, rfl⟩))
      go_wp2_with fail
      refine (HFE.out _ (by repeat (first | with_reducible exact Gr.refl _ | with_reducible assumption | with_reducible refine Gr.alloc ?_ _ | with_reducible refine Gr.drewN ?_ _ | with_reducible refine Gr.drew ?_ | with_reducible refine Gr.setCell ?_ (by first | (dsimp only; omega) | (simp only [World.size_alloc]; omega) | (with_reducible refine Gr.size ?_; (repeat (first | with_reducible exact Gr.refl _ | with_reducible assumption | with_reducible refine Gr.alloc ?_ _ | with_reducible refine Gr.drewN ?_ _ | with_reducible refine Gr.drew ?_ | with_reducible refine Gr.trans ?_ (by with_reducible assumption))); done)) _ | with_reducible refine Gr.trans ?_ (by with_reducible assumption)))).mono ?_
      rintro e w1 ⟨rfl, g1⟩
      have z1 := g1.size
      have gW1 : Gr w w1 := (by repeat (first | with_reducible exact Gr.refl _ | with_reducible assumption | with_reducible refine Gr.alloc ?_ _ | with_reducible refine Gr.drewN ?_ _ | with_reducible refine Gr.drew ?_ | with_reducible refine Gr.setCell ?_ (by first | (dsimp only; omega) | (simp only [World.size_alloc]; omega) | (with_reducible refine Gr.size ?_; (repeat (first | with_reducible exact Gr.refl _ | with_reducible assumption | with_reducible refine Gr.alloc ?_ _ | with_reducible refine Gr.drewN ?_ _ | with_reducible refine Gr.drew ?_ | with_reducible refine Gr.trans ?_ (by with_reducible assumption))); done)) _ | with_reducible refine Gr.trans ?_ (by with_reducible assumption)))
      obtain ⟨X1, Y1, c1, f1⟩ := g1.use
      have l1 : w.heap.size < w1.heap.size := Nat.lt_of_lt_of_le (by simp) z1
      go_wp2_with fail
      refine (HHE.out _ gW1).mono ?_
      rintro e w2 ⟨rfl, g2⟩
      go_wp2_with fail
      go_ret
      exact ⟨ret_iv HE.out.symm, (by repeat (first | with_reducible exact Gr.refl _ | with_reducible assumption | with_reducible refine Gr.alloc ?_ _ | with_reducible refine Gr.drewN ?_ _ | with_reducible refine Gr.drew ?_ | with_reducible refine Gr.setCell ?_ (by first | (dsimp only; omega) | (simp only [World.size_alloc]; omega) | (with_reducible refine Gr.size ?_; (repeat (first | with_reducible exact Gr.refl _ | with_reducible assumption | with_reducible refine Gr.alloc ?_ _ | with_reducible refine Gr.drewN ?_ _ | with_reducible refine Gr.drew ?_ | with_reducible refine Gr.trans ?_ (by with_reducible assumption))); done)) _ | with_reducible refine Gr.trans ?_ (by with_reducible assumption)))⟩
  · have HE := hide (valE_fls HV.out HB.out HL.out hf0)
    have h0' : (flsE p != 0) = true := by simpa using hf0
    generalize flsE p = x at *
    clear hf0
    go_enter Try.func17, Try.ntmps17
    go_upto_region 7 with (first | (go_at_call 45; refine (rvalidName_any _ _ (by omega)).mono ?_; rintro e w1 ⟨rfl, rfl⟩) | (go_at_call 18; refine (rwithin_any _ _ _ _).mono ?_; rintro e w1 ⟨rfl, rfl⟩))
    go_wp2_with fail
    refine (HFE.out _ (by repeat (first | with_reducible exact Gr.refl _ | with_reducible assumption | with_reducible refine Gr.alloc ?_ _ | with_reducible refine Gr.drewN ?_ _ | with_reducible refine Gr.drew ?_ | with_reducible refine Gr.setCell ?_ (by first | (dsimp only; omega) | (simp only [World.size_alloc]; omega) | (with_reducible refine Gr.size ?_; (repeat (first | with_reducible exact Gr.refl _ | with_reducible assumption | with_reducible refine Gr.alloc ?_ _ | with_reducible refine Gr.drewN ?_ _ | with_reducible refine Gr.drew ?_ | with_reducible refine Gr.trans ?_ (by with_reducible assumption))); done)) _ | with_reducible refine Gr.trans ?_ (by with_reducible assumption)))).mono ?_
    rintro e w1 ⟨rfl, g1⟩
    go_wp2_with fail
    go_ret
    exact ⟨ret_iv HE.out.symm, (by repeat (first | with_reducible exact Gr.refl _ | with_reducible assumption | with_reducible refine Gr.alloc ?_ _ | with_reducible refine Gr.drewN ?_ _ | with_reducible refine Gr.drew ?_ | with_reducible refine Gr.setCell ?_ (by first | (dsimp only; omega) | (simp only [World.size_alloc]; omega) | (with_reducible refine Gr.size ?_; (repeat (first | with_reducible exact Gr.refl _ | with_reducible assumption | with_reducible refine Gr.alloc ?_ _ | with_reducible refine Gr.drewN ?_ _ | with_reducible refine Gr.drew ?_ | with_reducible refine Gr.trans ?_ (by with_reducible assumption))); done)) _ | with_reducible refine Gr.trans ?_ (by with_reducible assumption)))⟩
theorem rValidate_any (p : Pa) (A B : Option Addr) (c d : Nat) (w : World) (hP : PaW w p A c B d) :
    Calls Try.prog 17 #[pav p A c B d] w fun e w' => e = .returned (iv (valE p)) ∧ Gr w w' := by
  by_cases h : (nameB p.nm.toList && nameB p.mt.toList) = true
  · by_cases hb : basB p = true
    · by_cases hl : 5 < p.fl.length ∨ 6 < p.ho.length
      · exact rvalidate_early p A B c d w hP (.inr (.inr hl))
      · exact rvalidate_late p A B c d w hP h hb hl
    · exact rvalidate_early p A B c d w hP (.inr (.inl (by simpa using hb)))
  · exact rvalidate_early p A B c d w hP (.inl (by simpa using h))
theorem Validate_any (p : Pa) (A B : Option Addr) (c d : Nat) (w : World) (hP : PaW w p A c B d) :
    Calls Try.prog 14 #[pav p A c B d] w fun e w' => e = .returned (iv (valE p)) ∧ Gr w w' := by
  by_cases h : (nameB p.nm.toList && nameB p.mt.toList) = true
  · by_cases hb : basB p = true
    · by_cases hl : 5 < p.fl.length ∨ 6 < p.ho.length
      · exact validate_early p A B c d w hP (.inr (.inr hl))
      · exact validate_late p A B c d w hP h hb hl
    · exact validate_early p A B c d w hP (.inr (.inl (by simpa using hb)))
  · exact validate_early p A B c d w hP (.inl (by simpa using h))
end Go.Proofs.Ytefjgfglommefaa
