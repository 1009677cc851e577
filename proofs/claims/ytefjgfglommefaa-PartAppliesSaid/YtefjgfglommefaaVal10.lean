/-
  Parts: the faces of a part, in the code.
-/
import Derived.Test.YtefjgfglommefaaOwnL
import Derived.Test.YtefjgfglommefaaVal9
set_option linter.unusedVariables false
set_option linter.unusedSimpArgs false
namespace Go.Proofs.Ytefjgfglommefaa
set_option linter.unusedVariables false
set_option linter.unusedSimpArgs false
open Go Go.ChangeShapes Go.WideShapes Go.ChangeAt Go.RowKit Go.Deep

theorem and_all : ∀ (m : Fin 64) (j : Fin 6), ((bits .and .i64 ((m.val : Nat) : Int) ((2 : Int) ^ j.val)) != 0) = m.val.testBit j.val := by decide +kernel
theorem and_bit (m j : Nat) (hm : m < 64) (hj : j < 6) : ((bits .and .i64 (m : Int) ((2 : Int) ^ j)) != 0) = m.testBit j := and_all ⟨m, hm⟩ ⟨j, hj⟩
set_option maxRecDepth 100000 in
set_option maxHeartbeats 4000000 in
theorem faces_any (p : Pa) (A B : Option Addr) (c d : Nat) (m : Nat) (w : World) (hF : SlF w A c p.fl) (hl : p.fl.length ≤ 5) (hm : m < 64) (ok : Fit p.fl) :
    Calls Try.prog 35 #[pav p A c B d, iv m] w fun e w' => ∃ v, e = .returned v ∧ OwnL w' w.heap.size 44 11 fcL v (facs flC p.wd p.ht p.fl (fun i => m.testBit i) p.fl.length) ∧ Gr w w' := by
  obtain ⟨i0, hi0, hz0, hz1, hz2⟩ := info_parts infoFc
  have HF := hide hF
  have HOK := hide ok
  clear hF ok
  go_enter Try.func35, Try.ntmps35
  go_wp2
  go_loopw [5, 19] (fun v i wr => ∃ k : Nat, k ≤ p.fl.length ∧ i = iv k ∧ Gr (w.alloc (.cells #[.string p.nm, .string p.mt, iv p.ga, iv p.gr, iv p.wd, iv p.ht, .slice A p.fl.length c, .slice B p.ho.length d] 25)) wr ∧ Hid (OwnL wr (w.heap.size + 1) 44 11 fcL v (facs flC p.wd p.ht p.fl (fun i => m.testBit i) k))) (fun _ i _ => p.fl.length - (intOf i).toNat)
  case atStart => exact ⟨0, by omega, rfl, (by repeat (first | with_reducible exact Gr.refl _ | with_reducible assumption | with_reducible refine Gr.alloc ?_ _ | with_reducible refine Gr.drewN ?_ _ | with_reducible refine Gr.drew ?_ | with_reducible refine Gr.setCell ?_ (by first | (dsimp only; omega) | (simp only [World.size_alloc]; omega) | (with_reducible refine Gr.size ?_; (repeat (first | with_reducible exact Gr.refl _ | with_reducible assumption | with_reducible refine Gr.alloc ?_ _ | with_reducible refine Gr.drewN ?_ _ | with_reducible refine Gr.drew ?_ | with_reducible refine Gr.trans ?_ (by with_reducible assumption))); done)) _ | with_reducible refine Gr.trans ?_ (by with_reducible assumption))), by have := own_fc1 (w.alloc (.cells #[.string p.nm, .string p.mt, iv p.ga, iv p.gr, iv p.wd, iv p.ht, .slice A p.fl.length c, .slice B p.ho.length d] 25)) (bas p.wd p.ht); rw [World.size_alloc] at this; exact this⟩
  case round =>
    obtain ⟨k, hk, rfl, g, HO⟩ := hrel
    obtain ⟨A1, d1, rfl⟩ := HO.out.slice
    have gW : Gr w wr := (by repeat (first | with_reducible exact Gr.refl _ | with_reducible assumption | with_reducible refine Gr.alloc ?_ _ | with_reducible refine Gr.drewN ?_ _ | with_reducible refine Gr.drew ?_ | with_reducible refine Gr.setCell ?_ (by first | (dsimp only; omega) | (simp only [World.size_alloc]; omega) | (with_reducible refine Gr.size ?_; (repeat (first | with_reducible exact Gr.refl _ | with_reducible assumption | with_reducible refine Gr.alloc ?_ _ | with_reducible refine Gr.drewN ?_ _ | with_reducible refine Gr.drew ?_ | with_reducible refine Gr.trans ?_ (by with_reducible assumption))); done)) _ | with_reducible refine Gr.trans ?_ (by with_reducible assumption)))
    have hlen : (facs flC p.wd p.ht p.fl (fun i => m.testBit i) k).length = k + 1 := facs_len hk
    rw [hlen]
    by_cases hkl : k < p.fl.length
    · obtain ⟨f, hf⟩ : ∃ f, p.fl[k]? = some f := ⟨_, List.getElem?_eq_getElem hkl⟩
      obtain ⟨b, off, hA, x0, x1, x2, x3, x4, x5, x6⟩ := HF.out.rd.fl hf
      subst hA
      have hb : b < w.heap.size := cell_lt (by rw [x0]; rfl)
      obtain ⟨t0, t1, -, -⟩ := HOK.out k f hf
      obtain ⟨q, hq⟩ : ∃ q : Nat, f.pa = q := ⟨f.pa.toNat, by omega⟩
      have hqk : q ≤ k := by omega
      obtain ⟨gf, hg⟩ : ∃ gf, (facs flC p.wd p.ht p.fl (fun i => m.testBit i) k)[q]? = some gf := ⟨_, List.getElem?_eq_getElem (by omega)⟩
      have HS := hide (show facs flC p.wd p.ht p.fl (fun i => m.testBit i) (k + 1) = facs flC p.wd p.ht p.fl (fun i => m.testBit i) k ++ [flC gf f (m.testBit k)] by
        rw [facs_succ hf, hq, show ((q : Int)).toNat = q from rfl, hg]; rfl)
      have HOW := hide (show World.ownsRow wr (w.heap.size + 1) 44 11 (.slice A1 (k + 1) d1) (k + 1) ((facs flC p.wd p.ht p.fl (fun i => m.testBit i) k).flatMap fcL) by
        have := HO.out
        unfold OwnL at this
        rwa [hlen] at this)
      have HO' := HO.out
      rw [hlen] at HO'
      obtain ⟨-, hrd, -, -⟩ := OwnL.rdC HO'
      obtain ⟨b2, o2, hA2, y0, y1, y2, y3, y4, y5, y6, y7, y8, y9, y10⟩ := hrd.fc hg
      subst hA2
      have hb2 : b2 < wr.heap.size := cell_lt (by rw [y0]; rfl)
      obtain ⟨nm, pa, sd, fo, wd, ln, an⟩ := f
      simp only at hq x0 x1 x2 x3 x4 x5 x6
      subst hq
      have zr := g.size
      simp only [World.size_alloc] at zr
      have l0 : w.heap.size < wr.heap.size := by omega
      have hbr : b < wr.heap.size := by omega
      clear HO' hrd t0 t1
      have w0 := (gW.cell _ _ hb).trans x0
      have w1 := (gW.cell _ _ hb).trans x1
      have w2 := (gW.cell _ _ hb).trans x2
      have w3 := (gW.cell _ _ hb).trans x3
      have w4 := (gW.cell _ _ hb).trans x4
      have w5 := (gW.cell _ _ hb).trans x5
      have w6 := (gW.cell _ _ hb).trans x6
      clear x0 x1 x2 x3 x4 x5 x6
      go_upto_region 5 with fail
      have FIN := hide (show ∀ (w8 : World) (gg cap1 : Nat) (bb : Bool), bb = m.testBit k → w8.ownsRow (w.heap.size + 1) 44 11 (.slice (some ⟨gg, 0, none⟩) (k + 1 + 1) cap1) (k + 1 + 1) ((facs flC p.wd p.ht p.fl (fun i => m.testBit i) k).flatMap fcL ++ fcL (flC gf ⟨nm, (q : Int), sd, fo, wd, ln, an⟩ bb)) →
          OwnL w8 (w.heap.size + 1) 44 11 fcL (.slice (some ⟨gg, 0, none⟩) (k + 1 + 1) cap1) (facs flC p.wd p.ht p.fl (fun i => m.testBit i) (k + 1)) by
        intro w8 gg cap1 bb hb h
        unfold OwnL
        rw [HS.out, fm_snoc, List.length_append, hlen, ← hb]
        exact h)
      generalize (facs flC p.wd p.ht p.fl (fun i => m.testBit i) k).flatMap fcL = FL at *
      generalize hz : World.alloc _ _ = wz
      have gz : Gr wr wz := by rw [← hz]; exact Gr.alloc (Gr.refl _) _
      have y0' := (gz.cell _ _ hb2).trans y0
      have y1' := (gz.cell _ _ hb2).trans y1
      have y2' := (gz.cell _ _ hb2).trans y2
      have y3' := (gz.cell _ _ hb2).trans y3
      have y4' := (gz.cell _ _ hb2).trans y4
      have y5' := (gz.cell _ _ hb2).trans y5
      have y6' := (gz.cell _ _ hb2).trans y6
      have y7' := (gz.cell _ _ hb2).trans y7
      have y8' := (gz.cell _ _ hb2).trans y8
      have y9' := (gz.cell _ _ hb2).trans y9
      have y10' := (gz.cell _ _ hb2).trans y10
      have z0 : wz.cell? ⟨wr.heap.size, 0, none⟩ = some (.string nm) := by rw [← hz]; simp [go_sem]
      have z1 : wz.cell? ⟨wr.heap.size, 1, none⟩ = some (iv (q : Int)) := by rw [← hz]; simp [go_sem]
      have z2 : wz.cell? ⟨wr.heap.size, 2, none⟩ = some (iv sd) := by rw [← hz]; simp [go_sem]
      have z3 : wz.cell? ⟨wr.heap.size, 3, none⟩ = some (iv fo) := by rw [← hz]; simp [go_sem]
      have z4 : wz.cell? ⟨wr.heap.size, 4, none⟩ = some (iv wd) := by rw [← hz]; simp [go_sem]
      have z5 : wz.cell? ⟨wr.heap.size, 5, none⟩ = some (iv ln) := by rw [← hz]; simp [go_sem]
      have z6 : wz.cell? ⟨wr.heap.size, 6, none⟩ = some (iv an) := by rw [← hz]; simp [go_sem]
      have lz : wr.heap.size < wz.heap.size := by rw [← hz]; simp [World.size_alloc]
      have lz2 : b2 < wz.heap.size := by omega
      clear y0 y1 y2 y3 y4 y5 y6 y7 y8 y9 y10 hz w0 w1 w2 w3 w4 w5 w6 hlen hg hf zr
      have hq0 : (0 : Int) ≤ (q : Int) := by omega
      have lb : w.heap.size + 1 ≤ wz.heap.size := by omega
      have hk5 : k < 5 := by omega
      have HBT := and_bit m k hm (by omega)
      rcases (by omega : k = 0 ∨ k = 1 ∨ k = 2 ∨ k = 3 ∨ k = 4) with rfl | rfl | rfl | rfl | rfl
      · have hq1 : (q : Int) < 1 := by omega
        have HB2 := hide (show (bits .and .i64 (m : Int) (IntKind.i64.wrap 1) != 0) = m.testBit 0 from HBT)
        have HOW' := hide (show World.ownsRow wr (w.heap.size + 1) 44 11 (.slice (some ⟨b2, o2, none⟩) 1 d1) 1 FL from HOW.out)
        clear HBT HOW
        go_region_law (first
            | (refine step_append_lies _ (by rfl) _ _ _ (by rfl) (w.heap.size + 1) 44 i0 _ 11 88 Try.underlying60 hi0 hz0 hz1 hz2 rfl (by omega) _ 1 FL (by rfl) (own_gr HOW'.out (gz.trans (by repeat (first | with_reducible exact Gr.refl _ | with_reducible assumption | with_reducible refine Gr.alloc ?_ _ | with_reducible refine Gr.drewN ?_ _ | with_reducible refine Gr.drew ?_ | with_reducible refine Gr.setCell ?_ (by first | (dsimp only; omega) | (simp only [World.size_alloc]; omega) | (with_reducible refine Gr.size ?_; (repeat (first | with_reducible exact Gr.refl _ | with_reducible assumption | with_reducible refine Gr.alloc ?_ _ | with_reducible refine Gr.drewN ?_ _ | with_reducible refine Gr.drew ?_ | with_reducible refine Gr.trans ?_ (by with_reducible assumption))); done)) _ | with_reducible refine Gr.trans ?_ (by with_reducible assumption))))) _ 1 1 (fcL (flC gf ⟨nm, (q : Int), sd, fo, wd, ln, an⟩ _)) (by rfl) (by rfl) (rd1_fc _ _) (one_fc _) (by omega) (by unfold maxLen; omega) (by omega) (Nat.le_trans lb (Gr.size (by repeat (first | with_reducible exact Gr.refl _ | with_reducible assumption | with_reducible refine Gr.alloc ?_ _ | with_reducible refine Gr.drewN ?_ _ | with_reducible refine Gr.drew ?_ | with_reducible refine Gr.setCell ?_ (by first | (dsimp only; omega) | (simp only [World.size_alloc]; omega) | (with_reducible refine Gr.size ?_; (repeat (first | with_reducible exact Gr.refl _ | with_reducible assumption | with_reducible refine Gr.alloc ?_ _ | with_reducible refine Gr.drewN ?_ _ | with_reducible refine Gr.drew ?_ | with_reducible refine Gr.trans ?_ (by with_reducible assumption))); done)) _ | with_reducible refine Gr.trans ?_ (by with_reducible assumption))))) _ rfl ?_; intro gg cap1 w8 hown8 hgrow hat hlt)
            | (go_simp; go_at_call 62; refine (flangeFace_any gf ⟨nm, (q : Int), sd, fo, wd, ln, an⟩ _ _).mono ?_; rintro e w7 ⟨rfl, g7⟩; obtain ⟨X7, Y7, c7, f7⟩ := g7.use))
        all_goals
          have ho8 := hide (FIN.out w8 gg cap1 _ HB2.out hown8)
          have g8 := Gr.grown (show Gr _ _ from (g.trans gz).trans (by repeat (first | with_reducible exact Gr.refl _ | with_reducible assumption | with_reducible refine Gr.alloc ?_ _ | with_reducible refine Gr.drewN ?_ _ | with_reducible refine Gr.drew ?_ | with_reducible refine Gr.setCell ?_ (by first | (dsimp only; omega) | (simp only [World.size_alloc]; omega) | (with_reducible refine Gr.size ?_; (repeat (first | with_reducible exact Gr.refl _ | with_reducible assumption | with_reducible refine Gr.alloc ?_ _ | with_reducible refine Gr.drewN ?_ _ | with_reducible refine Gr.drew ?_ | with_reducible refine Gr.trans ?_ (by with_reducible assumption))); done)) _ | with_reducible refine Gr.trans ?_ (by with_reducible assumption)))) hgrow (fun k hk => by have := (World.ownsRow.lt HOW'.out k hk).1; simpa [World.size_alloc] using this)
          clear hown8 hgrow hat hlt c7 f7 g7 FIN HB2 HOW' HO HS
          go_wp2
          go_roundw
          case rel => exact ⟨1, by omega, rfl, g8, ho8.out⟩
          case measure => simp [intOf]; omega
      · have hq1 : (q : Int) < 2 := by omega
        have HB2 := hide (show (bits .and .i64 (m : Int) (IntKind.i64.wrap 2) != 0) = m.testBit 1 from HBT)
        have HOW' := hide (show World.ownsRow wr (w.heap.size + 1) 44 11 (.slice (some ⟨b2, o2, none⟩) 2 d1) 2 FL from HOW.out)
        clear HBT HOW
        go_region_law (first
            | (refine step_append_lies _ (by rfl) _ _ _ (by rfl) (w.heap.size + 1) 44 i0 _ 11 88 Try.underlying60 hi0 hz0 hz1 hz2 rfl (by omega) _ 2 FL (by rfl) (own_gr HOW'.out (gz.trans (by repeat (first | with_reducible exact Gr.refl _ | with_reducible assumption | with_reducible refine Gr.alloc ?_ _ | with_reducible refine Gr.drewN ?_ _ | with_reducible refine Gr.drew ?_ | with_reducible refine Gr.setCell ?_ (by first | (dsimp only; omega) | (simp only [World.size_alloc]; omega) | (with_reducible refine Gr.size ?_; (repeat (first | with_reducible exact Gr.refl _ | with_reducible assumption | with_reducible refine Gr.alloc ?_ _ | with_reducible refine Gr.drewN ?_ _ | with_reducible refine Gr.drew ?_ | with_reducible refine Gr.trans ?_ (by with_reducible assumption))); done)) _ | with_reducible refine Gr.trans ?_ (by with_reducible assumption))))) _ 1 1 (fcL (flC gf ⟨nm, (q : Int), sd, fo, wd, ln, an⟩ _)) (by rfl) (by rfl) (rd1_fc _ _) (one_fc _) (by omega) (by unfold maxLen; omega) (by omega) (Nat.le_trans lb (Gr.size (by repeat (first | with_reducible exact Gr.refl _ | with_reducible assumption | with_reducible refine Gr.alloc ?_ _ | with_reducible refine Gr.drewN ?_ _ | with_reducible refine Gr.drew ?_ | with_reducible refine Gr.setCell ?_ (by first | (dsimp only; omega) | (simp only [World.size_alloc]; omega) | (with_reducible refine Gr.size ?_; (repeat (first | with_reducible exact Gr.refl _ | with_reducible assumption | with_reducible refine Gr.alloc ?_ _ | with_reducible refine Gr.drewN ?_ _ | with_reducible refine Gr.drew ?_ | with_reducible refine Gr.trans ?_ (by with_reducible assumption))); done)) _ | with_reducible refine Gr.trans ?_ (by with_reducible assumption))))) _ rfl ?_; intro gg cap1 w8 hown8 hgrow hat hlt)
            | (go_simp; go_at_call 62; refine (flangeFace_any gf ⟨nm, (q : Int), sd, fo, wd, ln, an⟩ _ _).mono ?_; rintro e w7 ⟨rfl, g7⟩; obtain ⟨X7, Y7, c7, f7⟩ := g7.use))
        all_goals
          have ho8 := hide (FIN.out w8 gg cap1 _ HB2.out hown8)
          have g8 := Gr.grown (show Gr _ _ from (g.trans gz).trans (by repeat (first | with_reducible exact Gr.refl _ | with_reducible assumption | with_reducible refine Gr.alloc ?_ _ | with_reducible refine Gr.drewN ?_ _ | with_reducible refine Gr.drew ?_ | with_reducible refine Gr.setCell ?_ (by first | (dsimp only; omega) | (simp only [World.size_alloc]; omega) | (with_reducible refine Gr.size ?_; (repeat (first | with_reducible exact Gr.refl _ | with_reducible assumption | with_reducible refine Gr.alloc ?_ _ | with_reducible refine Gr.drewN ?_ _ | with_reducible refine Gr.drew ?_ | with_reducible refine Gr.trans ?_ (by with_reducible assumption))); done)) _ | with_reducible refine Gr.trans ?_ (by with_reducible assumption)))) hgrow (fun k hk => by have := (World.ownsRow.lt HOW'.out k hk).1; simpa [World.size_alloc] using this)
          clear hown8 hgrow hat hlt c7 f7 g7 FIN HB2 HOW' HO HS
          go_wp2
          go_roundw
          case rel => exact ⟨2, by omega, rfl, g8, ho8.out⟩
          case measure => simp [intOf]; omega
      · have hq1 : (q : Int) < 3 := by omega
        have HB2 := hide (show (bits .and .i64 (m : Int) (IntKind.i64.wrap 4) != 0) = m.testBit 2 from HBT)
        have HOW' := hide (show World.ownsRow wr (w.heap.size + 1) 44 11 (.slice (some ⟨b2, o2, none⟩) 3 d1) 3 FL from HOW.out)
        clear HBT HOW
        go_region_law (first
            | (refine step_append_lies _ (by rfl) _ _ _ (by rfl) (w.heap.size + 1) 44 i0 _ 11 88 Try.underlying60 hi0 hz0 hz1 hz2 rfl (by omega) _ 3 FL (by rfl) (own_gr HOW'.out (gz.trans (by repeat (first | with_reducible exact Gr.refl _ | with_reducible assumption | with_reducible refine Gr.alloc ?_ _ | with_reducible refine Gr.drewN ?_ _ | with_reducible refine Gr.drew ?_ | with_reducible refine Gr.setCell ?_ (by first | (dsimp only; omega) | (simp only [World.size_alloc]; omega) | (with_reducible refine Gr.size ?_; (repeat (first | with_reducible exact Gr.refl _ | with_reducible assumption | with_reducible refine Gr.alloc ?_ _ | with_reducible refine Gr.drewN ?_ _ | with_reducible refine Gr.drew ?_ | with_reducible refine Gr.trans ?_ (by with_reducible assumption))); done)) _ | with_reducible refine Gr.trans ?_ (by with_reducible assumption))))) _ 1 1 (fcL (flC gf ⟨nm, (q : Int), sd, fo, wd, ln, an⟩ _)) (by rfl) (by rfl) (rd1_fc _ _) (one_fc _) (by omega) (by unfold maxLen; omega) (by omega) (Nat.le_trans lb (Gr.size (by repeat (first | with_reducible exact Gr.refl _ | with_reducible assumption | with_reducible refine Gr.alloc ?_ _ | with_reducible refine Gr.drewN ?_ _ | with_reducible refine Gr.drew ?_ | with_reducible refine Gr.setCell ?_ (by first | (dsimp only; omega) | (simp only [World.size_alloc]; omega) | (with_reducible refine Gr.size ?_; (repeat (first | with_reducible exact Gr.refl _ | with_reducible assumption | with_reducible refine Gr.alloc ?_ _ | with_reducible refine Gr.drewN ?_ _ | with_reducible refine Gr.drew ?_ | with_reducible refine Gr.trans ?_ (by with_reducible assumption))); done)) _ | with_reducible refine Gr.trans ?_ (by with_reducible assumption))))) _ rfl ?_; intro gg cap1 w8 hown8 hgrow hat hlt)
            | (go_simp; go_at_call 62; refine (flangeFace_any gf ⟨nm, (q : Int), sd, fo, wd, ln, an⟩ _ _).mono ?_; rintro e w7 ⟨rfl, g7⟩; obtain ⟨X7, Y7, c7, f7⟩ := g7.use))
        all_goals
          have ho8 := hide (FIN.out w8 gg cap1 _ HB2.out hown8)
          have g8 := Gr.grown (show Gr _ _ from (g.trans gz).trans (by repeat (first | with_reducible exact Gr.refl _ | with_reducible assumption | with_reducible refine Gr.alloc ?_ _ | with_reducible refine Gr.drewN ?_ _ | with_reducible refine Gr.drew ?_ | with_reducible refine Gr.setCell ?_ (by first | (dsimp only; omega) | (simp only [World.size_alloc]; omega) | (with_reducible refine Gr.size ?_; (repeat (first | with_reducible exact Gr.refl _ | with_reducible assumption | with_reducible refine Gr.alloc ?_ _ | with_reducible refine Gr.drewN ?_ _ | with_reducible refine Gr.drew ?_ | with_reducible refine Gr.trans ?_ (by with_reducible assumption))); done)) _ | with_reducible refine Gr.trans ?_ (by with_reducible assumption)))) hgrow (fun k hk => by have := (World.ownsRow.lt HOW'.out k hk).1; simpa [World.size_alloc] using this)
          clear hown8 hgrow hat hlt c7 f7 g7 FIN HB2 HOW' HO HS
          go_wp2
          go_roundw
          case rel => exact ⟨3, by omega, rfl, g8, ho8.out⟩
          case measure => simp [intOf]; omega
      · have hq1 : (q : Int) < 4 := by omega
        have HB2 := hide (show (bits .and .i64 (m : Int) (IntKind.i64.wrap 8) != 0) = m.testBit 3 from HBT)
        have HOW' := hide (show World.ownsRow wr (w.heap.size + 1) 44 11 (.slice (some ⟨b2, o2, none⟩) 4 d1) 4 FL from HOW.out)
        clear HBT HOW
        go_region_law (first
            | (refine step_append_lies _ (by rfl) _ _ _ (by rfl) (w.heap.size + 1) 44 i0 _ 11 88 Try.underlying60 hi0 hz0 hz1 hz2 rfl (by omega) _ 4 FL (by rfl) (own_gr HOW'.out (gz.trans (by repeat (first | with_reducible exact Gr.refl _ | with_reducible assumption | with_reducible refine Gr.alloc ?_ _ | with_reducible refine Gr.drewN ?_ _ | with_reducible refine Gr.drew ?_ | with_reducible refine Gr.setCell ?_ (by first | (dsimp only; omega) | (simp only [World.size_alloc]; omega) | (with_reducible refine Gr.size ?_; (repeat (first | with_reducible exact Gr.refl _ | with_reducible assumption | with_reducible refine Gr.alloc ?_ _ | with_reducible refine Gr.drewN ?_ _ | with_reducible refine Gr.drew ?_ | with_reducible refine Gr.trans ?_ (by with_reducible assumption))); done)) _ | with_reducible refine Gr.trans ?_ (by with_reducible assumption))))) _ 1 1 (fcL (flC gf ⟨nm, (q : Int), sd, fo, wd, ln, an⟩ _)) (by rfl) (by rfl) (rd1_fc _ _) (one_fc _) (by omega) (by unfold maxLen; omega) (by omega) (Nat.le_trans lb (Gr.size (by repeat (first | with_reducible exact Gr.refl _ | with_reducible assumption | with_reducible refine Gr.alloc ?_ _ | with_reducible refine Gr.drewN ?_ _ | with_reducible refine Gr.drew ?_ | with_reducible refine Gr.setCell ?_ (by first | (dsimp only; omega) | (simp only [World.size_alloc]; omega) | (with_reducible refine Gr.size ?_; (repeat (first | with_reducible exact Gr.refl _ | with_reducible assumption | with_reducible refine Gr.alloc ?_ _ | with_reducible refine Gr.drewN ?_ _ | with_reducible refine Gr.drew ?_ | with_reducible refine Gr.trans ?_ (by with_reducible assumption))); done)) _ | with_reducible refine Gr.trans ?_ (by with_reducible assumption))))) _ rfl ?_; intro gg cap1 w8 hown8 hgrow hat hlt)
            | (go_simp; go_at_call 62; refine (flangeFace_any gf ⟨nm, (q : Int), sd, fo, wd, ln, an⟩ _ _).mono ?_; rintro e w7 ⟨rfl, g7⟩; obtain ⟨X7, Y7, c7, f7⟩ := g7.use))
        all_goals
          have ho8 := hide (FIN.out w8 gg cap1 _ HB2.out hown8)
          have g8 := Gr.grown (show Gr _ _ from (g.trans gz).trans (by repeat (first | with_reducible exact Gr.refl _ | with_reducible assumption | with_reducible refine Gr.alloc ?_ _ | with_reducible refine Gr.drewN ?_ _ | with_reducible refine Gr.drew ?_ | with_reducible refine Gr.setCell ?_ (by first | (dsimp only; omega) | (simp only [World.size_alloc]; omega) | (with_reducible refine Gr.size ?_; (repeat (first | with_reducible exact Gr.refl _ | with_reducible assumption | with_reducible refine Gr.alloc ?_ _ | with_reducible refine Gr.drewN ?_ _ | with_reducible refine Gr.drew ?_ | with_reducible refine Gr.trans ?_ (by with_reducible assumption))); done)) _ | with_reducible refine Gr.trans ?_ (by with_reducible assumption)))) hgrow (fun k hk => by have := (World.ownsRow.lt HOW'.out k hk).1; simpa [World.size_alloc] using this)
          clear hown8 hgrow hat hlt c7 f7 g7 FIN HB2 HOW' HO HS
          go_wp2
          go_roundw
          case rel => exact ⟨4, by omega, rfl, g8, ho8.out⟩
          case measure => simp [intOf]; omega
      · have hq1 : (q : Int) < 5 := by omega
        have HB2 := hide (show (bits .and .i64 (m : Int) (IntKind.i64.wrap 16) != 0) = m.testBit 4 from HBT)
        have HOW' := hide (show World.ownsRow wr (w.heap.size + 1) 44 11 (.slice (some ⟨b2, o2, none⟩) 5 d1) 5 FL from HOW.out)
        clear HBT HOW
        go_region_law (first
            | (refine step_append_lies _ (by rfl) _ _ _ (by rfl) (w.heap.size + 1) 44 i0 _ 11 88 Try.underlying60 hi0 hz0 hz1 hz2 rfl (by omega) _ 5 FL (by rfl) (own_gr HOW'.out (gz.trans (by repeat (first | with_reducible exact Gr.refl _ | with_reducible assumption | with_reducible refine Gr.alloc ?_ _ | with_reducible refine Gr.drewN ?_ _ | with_reducible refine Gr.drew ?_ | with_reducible refine Gr.setCell ?_ (by first | (dsimp only; omega) | (simp only [World.size_alloc]; omega) | (with_reducible refine Gr.size ?_; (repeat (first | with_reducible exact Gr.refl _ | with_reducible assumption | with_reducible refine Gr.alloc ?_ _ | with_reducible refine Gr.drewN ?_ _ | with_reducible refine Gr.drew ?_ | with_reducible refine Gr.trans ?_ (by with_reducible assumption))); done)) _ | with_reducible refine Gr.trans ?_ (by with_reducible assumption))))) _ 1 1 (fcL (flC gf ⟨nm, (q : Int), sd, fo, wd, ln, an⟩ _)) (by rfl) (by rfl) (rd1_fc _ _) (one_fc _) (by omega) (by unfold maxLen; omega) (by omega) (Nat.le_trans lb (Gr.size (by repeat (first | with_reducible exact Gr.refl _ | with_reducible assumption | with_reducible refine Gr.alloc ?_ _ | with_reducible refine Gr.drewN ?_ _ | with_reducible refine Gr.drew ?_ | with_reducible refine Gr.setCell ?_ (by first | (dsimp only; omega) | (simp only [World.size_alloc]; omega) | (with_reducible refine Gr.size ?_; (repeat (first | with_reducible exact Gr.refl _ | with_reducible assumption | with_reducible refine Gr.alloc ?_ _ | with_reducible refine Gr.drewN ?_ _ | with_reducible refine Gr.drew ?_ | with_reducible refine Gr.trans ?_ (by with_reducible assumption))); done)) _ | with_reducible refine Gr.trans ?_ (by with_reducible assumption))))) _ rfl ?_; intro gg cap1 w8 hown8 hgrow hat hlt)
            | (go_simp; go_at_call 62; refine (flangeFace_any gf ⟨nm, (q : Int), sd, fo, wd, ln, an⟩ _ _).mono ?_; rintro e w7 ⟨rfl, g7⟩; obtain ⟨X7, Y7, c7, f7⟩ := g7.use))
        all_goals
          have ho8 := hide (FIN.out w8 gg cap1 _ HB2.out hown8)
          have g8 := Gr.grown (show Gr _ _ from (g.trans gz).trans (by repeat (first | with_reducible exact Gr.refl _ | with_reducible assumption | with_reducible refine Gr.alloc ?_ _ | with_reducible refine Gr.drewN ?_ _ | with_reducible refine Gr.drew ?_ | with_reducible refine Gr.setCell ?_ (by first | (dsimp only; omega) | (simp only [World.size_alloc]; omega) | (with_reducible refine Gr.size ?_; (repeat (first | with_reducible exact Gr.refl _ | with_reducible assumption | with_reducible refine Gr.alloc ?_ _ | with_reducible refine Gr.drewN ?_ _ | with_reducible refine Gr.drew ?_ | with_reducible refine Gr.trans ?_ (by with_reducible assumption))); done)) _ | with_reducible refine Gr.trans ?_ (by with_reducible assumption)))) hgrow (fun k hk => by have := (World.ownsRow.lt HOW'.out k hk).1; simpa [World.size_alloc] using this)
          clear hown8 hgrow hat hlt c7 f7 g7 FIN HB2 HOW' HO HS
          go_wp2
          go_roundw
          case rel => exact ⟨5, by omega, rfl, g8, ho8.out⟩
          case measure => simp [intOf]; omega
    · obtain rfl : k = p.fl.length := by omega
      go_wp2
      go_ret
      exact ⟨_, rfl, by have := HO.out.weak (Nat.le_succ w.heap.size); rw [hlen] at this; exact this, gW⟩
end Go.Proofs.Ytefjgfglommefaa
