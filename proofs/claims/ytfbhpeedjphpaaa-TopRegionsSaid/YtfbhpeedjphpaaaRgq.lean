/-
  Regions: spans, with either of its two closures.
-/
import Derived.Test.YtfbhpeedjphpaaaRgl
set_option linter.unusedVariables false
set_option linter.unusedSimpArgs false
namespace Go.Proofs.Ytfbhpeedjphpaaa
set_option linter.unusedVariables false
set_option linter.unusedSimpArgs false
open Go Go.ChangeShapes Go.WideShapes Go.ChangeAt Go.RowKit Go.Deep

namespace RG
theorem set_last (O : List Sp) (y : Sp) (q : Int) : ((O ++ [y]).flatMap spL).set (O.length * 2 + 1) (iv q) = (O ++ [(y.1, q)]).flatMap spL := by
  rw [List.flatMap_append, List.flatMap_append, List.set_append_right _ _ (by rw [fm_len (c := spL) (k := 2) (fun _ => rfl)]; omega), fm_len (c := spL) (k := 2) (fun _ => rfl)]
  congr 1
  rw [show O.length * 2 + 1 - O.length * 2 = 1 by omega]
  rfl
set_option maxHeartbeats 4000000 in
set_option maxRecDepth 100000 in
theorem spansH_any (A : Option Addr) (a : Nat) (X : List Int) (S J : Nat) (sd : Nat → Int) (w : World) (hX : SlI w A a X) (hn : X.length ≤ 1000)
    (hc : ∀ (i : Nat) (w' : World), Gr w w' → i + 1 < X.length → Calls Try.prog 26 #[iv i, .pointer (some ⟨S, 0, none⟩), .pointer (some ⟨J, 0, none⟩)] w' fun e w2 => e = .returned (iv (sd i)) ∧ Gr w' w2) :
    Calls Try.prog 25 #[.slice A X.length a, .func (.func 26) #[] #[.pointer (some ⟨S, 0, none⟩), .pointer (some ⟨J, 0, none⟩)]] w fun e w' => ∃ D d, e = .returned (.slice D (spS X sd (X.length - 1)).1.length d) ∧ OwnL w' w.heap.size 65 2 spL (.slice D (spS X sd (X.length - 1)).1.length d) (spS X sd (X.length - 1)).1 ∧ Gr w w' := by
  have k1 := hX.cap
  have k2 := hX.capB
  have e1 : IntKind.i64.wrap ((X.length : Int) - 1) = (X.length : Int) - 1 := IntWalk.i64_in _ (by omega)
  have HX := hide hX
  have HC := hide hc
  clear hX hc
  go_enter Try.func25, Try.ntmps25
  go_wp2
  go_loopw [5, 6, 12] (fun v lv i wr => ∃ (k : Nat) (O : List Sp) (L : Int) (A' : Option Addr) (d' : Nat), (k + 1 ≤ X.length ∨ k = 0) ∧ i = iv k ∧ v = .slice A' O.length d' ∧ lv = iv L ∧ Gr w wr ∧ Hid (OwnL wr w.heap.size 65 2 spL (.slice A' O.length d') O) ∧ Hid (O = (spS X sd k).1 ∧ L = (spS X sd k).2) ∧ O.length ≤ k) (fun _ _ i _ => X.length - (intOf i).toNat)
  case atStart => exact ⟨0, [], 0, none, 0, by omega, rfl, rfl, rfl, Gr.refl _, own_nil _ _ _ _ _, ⟨rfl, rfl⟩, by simp⟩
  case round =>
    obtain ⟨k, O, L, A1, d1, hk, rfl, rfl, rfl, g, HO, HE, hOl⟩ := hrel
    have sz := g.size
    by_cases hkl : k + 1 < X.length
    · obtain ⟨x, hx⟩ : ∃ x, X[k]? = some x := ⟨_, List.getElem?_eq_getElem (by omega)⟩
      obtain ⟨x', hx'⟩ : ∃ x, X[k + 1]? = some x := ⟨_, List.getElem?_eq_getElem (by omega)⟩
      obtain ⟨bX, oX, hA, cx⟩ := (HX.out.gr g).rd.in_ hx
      obtain ⟨bX', oX', hA', cx'⟩ := (HX.out.gr g).rd.in_ hx'
      have HXX := hide (fun (w' : World) (g' : Gr w w') => (HX.out.gr g').rd.in_ hx)
      have HXX' := hide (fun (w' : World) (g' : Gr w w') => (HX.out.gr g').rd.in_ hx')
      subst hA
      cases hA'
      have HU := hide (show ∀ z, sd k = z → spU O L z x x' = (spS X sd (k + 1)).1 ∧ z = (spS X sd (k + 1)).2 by
        rintro z rfl
        rw [HE.out.1, HE.out.2]
        show _ = spU _ _ _ (X[k]?.getD 0) (X[k + 1]?.getD 0) ∧ _
        rw [hx, hx']
        exact ⟨rfl, rfl⟩)
      have HNE := hide (show L ≠ 0 → O ≠ [] by rw [HE.out.1, HE.out.2]; exact spS_ne X sd k)
      have HCk := hide (fun (w' : World) (g' : Gr w w') => HC.out k w' g' hkl)
      obtain ⟨z, hz⟩ : ∃ z, sd k = z := ⟨_, rfl⟩
      have HZ := hide (HU.out z hz)
      rw [hz] at HCk
      have hk0 : (0 : Int) ≤ (k : Int) := by omega
      have hk1 : (k : Int) < (X.length : Int) - 1 := by omega
      have hk2 : (k : Int) < (X.length : Int) := by omega
      have hk3 : (k : Int) + 1 < (X.length : Int) := by omega
      clear hx hx' hz HE HU
      by_cases hz0 : z = 0
      · subst hz0
        have HR := hide (show O = (spS X sd (k + 1)).1 ∧ (0 : Int) = (spS X sd (k + 1)).2 from ⟨by rw [← HZ.out.1]; exact (if_pos rfl).symm, HZ.out.2⟩)
        clear HZ HNE
        go_wp2_with (first | (go_at_call 26; refine (HCk.out _ (by assumption)).mono ?_; rintro e w2 ⟨rfl, g2⟩; obtain ⟨X2, Y2, c2, f2⟩ := g2.use))
        go_roundw
        case rel => exact ⟨k + 1, O, 0, A1, d1, by omega, by go_num, rfl, rfl, g.trans g2, HO.out.gr g2, HR, by omega⟩
        case measure => simp only [intOf]; omega
      · have hz0' : (z == 0) = false := by simpa using hz0
        by_cases hzl : z = L
        · subst hzl
          obtain ⟨O', y, hOy⟩ : ∃ O' y, O = O' ++ [y] := by
            rcases List.eq_nil_or_concat O with h | ⟨O', y, h⟩
            · exact absurd h (HNE.out hz0)
            · exact ⟨O', y, by simpa using h⟩
          have HR := hide (show O' ++ [(y.1, x')] = (spS X sd (k + 1)).1 ∧ z = (spS X sd (k + 1)).2 from ⟨by rw [← HZ.out.1]; unfold spU; rw [if_neg hz0, if_pos rfl, hOy]; simp, HZ.out.2⟩)
          obtain ⟨n, hn⟩ : ∃ n, O.length = n := ⟨_, rfl⟩
          have hn1 : n = O'.length + 1 := by rw [← hn, hOy]; simp
          have hm : O'.length < n := by omega
          have HN := hide hn
          have s1 : IntKind.i64.wrap ((n : Int) - 1) = (O'.length : Int) := by rw [IntWalk.i64_in _ (by omega)]; omega
          have hm0 : (0 : Int) ≤ (O'.length : Int) := by omega
          have hm1 : (O'.length : Int) < (n : Int) := by omega
          have hm2 : ((O'.length : Int)).toNat = O'.length := by omega
          have hO' := HO.out
          rw [hOy] at hO'
          obtain ⟨G, hG, hA1⟩ : ∃ G, w.heap.size ≤ G ∧ A1 = some ⟨G, 0, none⟩ := by
            rcases hO'.2 with ⟨q, hq⟩ | ⟨G, cap, cur, q, hG, _⟩
            · simp at hq
            · cases q
              exact ⟨G, hG, rfl⟩
          subst hA1
          have hlen : ((O' ++ [y]).flatMap spL)[O'.length * 2 + 1]? = some (iv y.2) := by
            have := fm_at (c := spL) (k := 2) (fun _ => rfl) (O' ++ [y]) O'.length y 1 (by simp) (by omega)
            rw [this]
            rfl
          have HOW := hide (show ∀ w', Gr wr w' → w'.cell? ⟨G, O'.length * 2 + 1, none⟩ = some (iv y.2) ∧ w'.frozen? ⟨G, O'.length * 2 + 1, none⟩ = false by
            intro w' g'
            have h := OwnL.gr hO' g'
            refine ⟨?_, World.ownsRow.frozenAt (h := h) _⟩
            rw [World.ownsRow.cellAt (h := h) _ (by simp; omega)]
            exact hlen)
          have HST := hide (show ∀ w', Gr wr w' → OwnL (w'.setCell ⟨G, O'.length * 2 + 1, none⟩ (iv x')) w.heap.size 65 2 spL (.slice (some ⟨G, 0, none⟩) (O' ++ [(y.1, x')]).length d1) (O' ++ [(y.1, x')]) by
            intro w' g'
            have h := (World.ownsRow.stored (OwnL.gr hO' g') (O'.length * 2 + 1) (iv x')).1
            rw [set_last] at h
            unfold OwnL
            simpa using h)
          have hnl : (O' ++ [(y.1, x')]).length = n := by rw [hn1]; simp
          have HNL := hide hnl
          rw [hn]
          clear HZ HNE hO' hlen hOy HO hn hnl hn1
          go_upto_region 10 with (first | (go_at_call 26; refine (HCk.out _ (by assumption)).mono ?_; rintro e w2 ⟨rfl, g2⟩))
          obtain ⟨bX, oX, hA, cx⟩ := HXX.out w2 (g.trans g2)
          obtain ⟨bX', oX', hA', cx'⟩ := HXX'.out w2 (g.trans g2)
          cases hA
          cases hA'
          obtain ⟨y0, y1⟩ := HOW.out w2 g2
          have w3 : IntKind.i64.wrap ((k : Int) + 1) = (k : Int) + 1 := IntWalk.i64_in _ (by omega)
          have HST2 := hide (HST.out w2 g2)
          clear HOW HST HXX HXX'
          go_wp2
          go_roundw
          case rel => exact ⟨k + 1, O' ++ [(y.1, x')], z, some ⟨G, 0, none⟩, d1, by omega, by go_num, by rw [HNL.out], rfl, (g.trans g2).setCell (p := ⟨G, O'.length * 2 + 1, none⟩) hG _, HST2.out, HR, by have := HNL.out; have := HN.out; omega⟩
          case measure => simp only [intOf]; omega
        · have hzl' : (z == L) = false := by simpa using hzl
          obtain ⟨O2, hO2⟩ : ∃ O2, O ++ [(x, x')] = O2 := ⟨_, rfl⟩
          have HO2 := hide hO2
          have HR := hide (show O2 = (spS X sd (k + 1)).1 ∧ z = (spS X sd (k + 1)).2 from ⟨by rw [← HZ.out.1, ← hO2]; unfold spU; rw [if_neg hz0, if_neg hzl], HZ.out.2⟩)
          have hO2l : O2.length ≤ k + 1 := by rw [← hO2]; simp; omega
          clear HZ HNE hO2 hz0 hzl
          go_upto_region 7 with (first | (go_at_call 26; refine (HCk.out _ (by assumption)).mono ?_; rintro e w2 ⟨rfl, g2⟩))
          obtain ⟨bX, oX, hA, cx⟩ := HXX.out w2 (g.trans g2)
          obtain ⟨bX', oX', hA', cx'⟩ := HXX'.out w2 (g.trans g2)
          cases hA
          cases hA'
          have w3 : IntKind.i64.wrap ((k : Int) + 1) = (k : Int) + 1 := IntWalk.i64_in _ (by omega)
          have w4 : ((k : Int) + 1).toNat = k + 1 := by omega
          have w5 : (0 : Int) ≤ (k : Int) + 1 := by omega
          have HO3 := hide (HO.out.gr g2)
          have g02 := g.trans g2
          have sz2 := g02.size
          clear HXX HXX' HO g2
          refine wp_region_build1 _ 11 (by kernel_rfl) (by kernel_rfl) (Gr.refl _) (d1 := some 29) rfl ?_
          intro s gs
          obtain ⟨Xs, Ys, cs, fs⟩ := gs.use
          have GC := @GrW.cell
          simp only [List.take_succ_cons, List.take_zero]
          repeat (go_big_quiet_step ((first | fail)))
          refine wpQuiet_nil ?_
          clear GC cs fs gs
          refine ⟨fun BB => .slice (some ⟨BB, 0, none⟩) 1 1, #[iv x, iv x'], 65, ⟨rfl, rfl, fun w => by go_simp⟩, ?_⟩
          intro B1 wq gq1 l1 ⟨b1, c1, f1⟩
          obtain ⟨Xq, Yq, cq, fq⟩ := gq1.use
          have sq := gq1.size
          (try simp only [World.size_alloc, World.size_setCell, World.heap_drewN] at sq l1)
          simp only [List.drop_succ_cons, List.drop_zero]
          refine wpList_app1 rfl _ _ _ rfl spL w.heap.size 65 2 16 elSp (by decide) O (x, x') O2 HO2.out (.slice A1 O.length d1) rfl (HO3.out.gr (show Gr w2 wq from (by repeat (first | with_reducible exact Gr.refl _ | with_reducible assumption | with_reducible refine Gr.alloc ?_ _ | with_reducible refine Gr.drewN ?_ _ | with_reducible refine Gr.drew ?_ | with_reducible refine Gr.setCell ?_ (by first | (dsimp only; omega) | (simp only [World.size_alloc]; omega) | (with_reducible refine Gr.size ?_; (repeat (first | with_reducible exact Gr.refl _ | with_reducible assumption | with_reducible refine Gr.alloc ?_ _ | with_reducible refine Gr.drewN ?_ _ | with_reducible refine Gr.drew ?_ | with_reducible refine Gr.trans ?_ (by with_reducible assumption))); done)) _ | with_reducible refine Gr.trans ?_ (by with_reducible assumption))))) ⟨B1, 0, none⟩ 1 rfl rfl (by intro j u hu; rw [addr_add, Nat.zero_add, c1]; simpa using hu) (one_sp _) (by omega) (by decide) (by have := Gr.size (show Gr w2 wq from (by repeat (first | with_reducible exact Gr.refl _ | with_reducible assumption | with_reducible refine Gr.alloc ?_ _ | with_reducible refine Gr.drewN ?_ _ | with_reducible refine Gr.drew ?_ | with_reducible refine Gr.setCell ?_ (by first | (dsimp only; omega) | (simp only [World.size_alloc]; omega) | (with_reducible refine Gr.size ?_; (repeat (first | with_reducible exact Gr.refl _ | with_reducible assumption | with_reducible refine Gr.alloc ?_ _ | with_reducible refine Gr.drewN ?_ _ | with_reducible refine Gr.drew ?_ | with_reducible refine Gr.trans ?_ (by with_reducible assumption))); done)) _ | with_reducible refine Gr.trans ?_ (by with_reducible assumption)))); omega) ?_
          intro gg cap1 w8 hO8 hG8 _ _ _
          have g8 : Gr w w8 := hG8 _ (g02.trans (show Gr w2 wq from (by repeat (first | with_reducible exact Gr.refl _ | with_reducible assumption | with_reducible refine Gr.alloc ?_ _ | with_reducible refine Gr.drewN ?_ _ | with_reducible refine Gr.drew ?_ | with_reducible refine Gr.setCell ?_ (by first | (dsimp only; omega) | (simp only [World.size_alloc]; omega) | (with_reducible refine Gr.size ?_; (repeat (first | with_reducible exact Gr.refl _ | with_reducible assumption | with_reducible refine Gr.alloc ?_ _ | with_reducible refine Gr.drewN ?_ _ | with_reducible refine Gr.drew ?_ | with_reducible refine Gr.trans ?_ (by with_reducible assumption))); done)) _ | with_reducible refine Gr.trans ?_ (by with_reducible assumption))))) (Nat.le_refl _)
          have HO8 := hide hO8
          clear hO8 hG8 c1 f1 cq fq w3 w4 w5
          go_wp2
          go_roundw
          case rel => exact ⟨k + 1, O2, z, some ⟨gg, 0, none⟩, cap1, by omega, by go_num, rfl, rfl, g8, HO8, HR, hO2l⟩
          case measure => simp only [intOf]; omega
    · have hkn : ¬ (k : Int) < (X.length : Int) - 1 := by omega
      have HK := hide (show X.length - 1 = k by omega)
      go_wp2
      go_ret
      refine ⟨A1, d1, ?_, ?_, g⟩
      · rw [HK.out, ← HE.out.1]; rfl
      · rw [HK.out, ← HE.out.1]; exact HO.out
set_option maxHeartbeats 4000000 in
set_option maxRecDepth 100000 in
theorem spansV_any (A : Option Addr) (a : Nat) (X : List Int) (S J : Nat) (sd : Nat → Int) (w : World) (hX : SlI w A a X) (hn : X.length ≤ 1000)
    (hc : ∀ (i : Nat) (w' : World), Gr w w' → i + 1 < X.length → Calls Try.prog 29 #[iv i, .pointer (some ⟨S, 0, none⟩), .pointer (some ⟨J, 0, none⟩)] w' fun e w2 => e = .returned (iv (sd i)) ∧ Gr w' w2) :
    Calls Try.prog 25 #[.slice A X.length a, .func (.func 29) #[] #[.pointer (some ⟨S, 0, none⟩), .pointer (some ⟨J, 0, none⟩)]] w fun e w' => ∃ D d, e = .returned (.slice D (spS X sd (X.length - 1)).1.length d) ∧ OwnL w' w.heap.size 65 2 spL (.slice D (spS X sd (X.length - 1)).1.length d) (spS X sd (X.length - 1)).1 ∧ Gr w w' := by
  have k1 := hX.cap
  have k2 := hX.capB
  have e1 : IntKind.i64.wrap ((X.length : Int) - 1) = (X.length : Int) - 1 := IntWalk.i64_in _ (by omega)
  have HX := hide hX
  have HC := hide hc
  clear hX hc
  go_enter Try.func25, Try.ntmps25
  go_wp2
  go_loopw [5, 6, 12] (fun v lv i wr => ∃ (k : Nat) (O : List Sp) (L : Int) (A' : Option Addr) (d' : Nat), (k + 1 ≤ X.length ∨ k = 0) ∧ i = iv k ∧ v = .slice A' O.length d' ∧ lv = iv L ∧ Gr w wr ∧ Hid (OwnL wr w.heap.size 65 2 spL (.slice A' O.length d') O) ∧ Hid (O = (spS X sd k).1 ∧ L = (spS X sd k).2) ∧ O.length ≤ k) (fun _ _ i _ => X.length - (intOf i).toNat)
  case atStart => exact ⟨0, [], 0, none, 0, by omega, rfl, rfl, rfl, Gr.refl _, own_nil _ _ _ _ _, ⟨rfl, rfl⟩, by simp⟩
  case round =>
    obtain ⟨k, O, L, A1, d1, hk, rfl, rfl, rfl, g, HO, HE, hOl⟩ := hrel
    have sz := g.size
    by_cases hkl : k + 1 < X.length
    · obtain ⟨x, hx⟩ : ∃ x, X[k]? = some x := ⟨_, List.getElem?_eq_getElem (by omega)⟩
      obtain ⟨x', hx'⟩ : ∃ x, X[k + 1]? = some x := ⟨_, List.getElem?_eq_getElem (by omega)⟩
      obtain ⟨bX, oX, hA, cx⟩ := (HX.out.gr g).rd.in_ hx
      obtain ⟨bX', oX', hA', cx'⟩ := (HX.out.gr g).rd.in_ hx'
      have HXX := hide (fun (w' : World) (g' : Gr w w') => (HX.out.gr g').rd.in_ hx)
      have HXX' := hide (fun (w' : World) (g' : Gr w w') => (HX.out.gr g').rd.in_ hx')
      subst hA
      cases hA'
      have HU := hide (show ∀ z, sd k = z → spU O L z x x' = (spS X sd (k + 1)).1 ∧ z = (spS X sd (k + 1)).2 by
        rintro z rfl
        rw [HE.out.1, HE.out.2]
        show _ = spU _ _ _ (X[k]?.getD 0) (X[k + 1]?.getD 0) ∧ _
        rw [hx, hx']
        exact ⟨rfl, rfl⟩)
      have HNE := hide (show L ≠ 0 → O ≠ [] by rw [HE.out.1, HE.out.2]; exact spS_ne X sd k)
      have HCk := hide (fun (w' : World) (g' : Gr w w') => HC.out k w' g' hkl)
      obtain ⟨z, hz⟩ : ∃ z, sd k = z := ⟨_, rfl⟩
      have HZ := hide (HU.out z hz)
      rw [hz] at HCk
      have hk0 : (0 : Int) ≤ (k : Int) := by omega
      have hk1 : (k : Int) < (X.length : Int) - 1 := by omega
      have hk2 : (k : Int) < (X.length : Int) := by omega
      have hk3 : (k : Int) + 1 < (X.length : Int) := by omega
      clear hx hx' hz HE HU
      by_cases hz0 : z = 0
      · subst hz0
        have HR := hide (show O = (spS X sd (k + 1)).1 ∧ (0 : Int) = (spS X sd (k + 1)).2 from ⟨by rw [← HZ.out.1]; exact (if_pos rfl).symm, HZ.out.2⟩)
        clear HZ HNE
        go_wp2_with (first | (go_at_call 29; refine (HCk.out _ (by assumption)).mono ?_; rintro e w2 ⟨rfl, g2⟩; obtain ⟨X2, Y2, c2, f2⟩ := g2.use))
        go_roundw
        case rel => exact ⟨k + 1, O, 0, A1, d1, by omega, by go_num, rfl, rfl, g.trans g2, HO.out.gr g2, HR, by omega⟩
        case measure => simp only [intOf]; omega
      · have hz0' : (z == 0) = false := by simpa using hz0
        by_cases hzl : z = L
        · subst hzl
          obtain ⟨O', y, hOy⟩ : ∃ O' y, O = O' ++ [y] := by
            rcases List.eq_nil_or_concat O with h | ⟨O', y, h⟩
            · exact absurd h (HNE.out hz0)
            · exact ⟨O', y, by simpa using h⟩
          have HR := hide (show O' ++ [(y.1, x')] = (spS X sd (k + 1)).1 ∧ z = (spS X sd (k + 1)).2 from ⟨by rw [← HZ.out.1]; unfold spU; rw [if_neg hz0, if_pos rfl, hOy]; simp, HZ.out.2⟩)
          obtain ⟨n, hn⟩ : ∃ n, O.length = n := ⟨_, rfl⟩
          have hn1 : n = O'.length + 1 := by rw [← hn, hOy]; simp
          have hm : O'.length < n := by omega
          have HN := hide hn
          have s1 : IntKind.i64.wrap ((n : Int) - 1) = (O'.length : Int) := by rw [IntWalk.i64_in _ (by omega)]; omega
          have hm0 : (0 : Int) ≤ (O'.length : Int) := by omega
          have hm1 : (O'.length : Int) < (n : Int) := by omega
          have hm2 : ((O'.length : Int)).toNat = O'.length := by omega
          have hO' := HO.out
          rw [hOy] at hO'
          obtain ⟨G, hG, hA1⟩ : ∃ G, w.heap.size ≤ G ∧ A1 = some ⟨G, 0, none⟩ := by
            rcases hO'.2 with ⟨q, hq⟩ | ⟨G, cap, cur, q, hG, _⟩
            · simp at hq
            · cases q
              exact ⟨G, hG, rfl⟩
          subst hA1
          have hlen : ((O' ++ [y]).flatMap spL)[O'.length * 2 + 1]? = some (iv y.2) := by
            have := fm_at (c := spL) (k := 2) (fun _ => rfl) (O' ++ [y]) O'.length y 1 (by simp) (by omega)
            rw [this]
            rfl
          have HOW := hide (show ∀ w', Gr wr w' → w'.cell? ⟨G, O'.length * 2 + 1, none⟩ = some (iv y.2) ∧ w'.frozen? ⟨G, O'.length * 2 + 1, none⟩ = false by
            intro w' g'
            have h := OwnL.gr hO' g'
            refine ⟨?_, World.ownsRow.frozenAt (h := h) _⟩
            rw [World.ownsRow.cellAt (h := h) _ (by simp; omega)]
            exact hlen)
          have HST := hide (show ∀ w', Gr wr w' → OwnL (w'.setCell ⟨G, O'.length * 2 + 1, none⟩ (iv x')) w.heap.size 65 2 spL (.slice (some ⟨G, 0, none⟩) (O' ++ [(y.1, x')]).length d1) (O' ++ [(y.1, x')]) by
            intro w' g'
            have h := (World.ownsRow.stored (OwnL.gr hO' g') (O'.length * 2 + 1) (iv x')).1
            rw [set_last] at h
            unfold OwnL
            simpa using h)
          have hnl : (O' ++ [(y.1, x')]).length = n := by rw [hn1]; simp
          have HNL := hide hnl
          rw [hn]
          clear HZ HNE hO' hlen hOy HO hn hnl hn1
          go_upto_region 10 with (first | (go_at_call 29; refine (HCk.out _ (by assumption)).mono ?_; rintro e w2 ⟨rfl, g2⟩))
          obtain ⟨bX, oX, hA, cx⟩ := HXX.out w2 (g.trans g2)
          obtain ⟨bX', oX', hA', cx'⟩ := HXX'.out w2 (g.trans g2)
          cases hA
          cases hA'
          obtain ⟨y0, y1⟩ := HOW.out w2 g2
          have w3 : IntKind.i64.wrap ((k : Int) + 1) = (k : Int) + 1 := IntWalk.i64_in _ (by omega)
          have HST2 := hide (HST.out w2 g2)
          clear HOW HST HXX HXX'
          go_wp2
          go_roundw
          case rel => exact ⟨k + 1, O' ++ [(y.1, x')], z, some ⟨G, 0, none⟩, d1, by omega, by go_num, by rw [HNL.out], rfl, (g.trans g2).setCell (p := ⟨G, O'.length * 2 + 1, none⟩) hG _, HST2.out, HR, by have := HNL.out; have := HN.out; omega⟩
          case measure => simp only [intOf]; omega
        · have hzl' : (z == L) = false := by simpa using hzl
          obtain ⟨O2, hO2⟩ : ∃ O2, O ++ [(x, x')] = O2 := ⟨_, rfl⟩
          have HO2 := hide hO2
          have HR := hide (show O2 = (spS X sd (k + 1)).1 ∧ z = (spS X sd (k + 1)).2 from ⟨by rw [← HZ.out.1, ← hO2]; unfold spU; rw [if_neg hz0, if_neg hzl], HZ.out.2⟩)
          have hO2l : O2.length ≤ k + 1 := by rw [← hO2]; simp; omega
          clear HZ HNE hO2 hz0 hzl
          go_upto_region 7 with (first | (go_at_call 29; refine (HCk.out _ (by assumption)).mono ?_; rintro e w2 ⟨rfl, g2⟩))
          obtain ⟨bX, oX, hA, cx⟩ := HXX.out w2 (g.trans g2)
          obtain ⟨bX', oX', hA', cx'⟩ := HXX'.out w2 (g.trans g2)
          cases hA
          cases hA'
          have w3 : IntKind.i64.wrap ((k : Int) + 1) = (k : Int) + 1 := IntWalk.i64_in _ (by omega)
          have w4 : ((k : Int) + 1).toNat = k + 1 := by omega
          have w5 : (0 : Int) ≤ (k : Int) + 1 := by omega
          have HO3 := hide (HO.out.gr g2)
          have g02 := g.trans g2
          have sz2 := g02.size
          clear HXX HXX' HO g2
          refine wp_region_build1 _ 11 (by kernel_rfl) (by kernel_rfl) (Gr.refl _) (d1 := some 29) rfl ?_
          intro s gs
          obtain ⟨Xs, Ys, cs, fs⟩ := gs.use
          have GC := @GrW.cell
          simp only [List.take_succ_cons, List.take_zero]
          repeat (go_big_quiet_step ((first | fail)))
          refine wpQuiet_nil ?_
          clear GC cs fs gs
          refine ⟨fun BB => .slice (some ⟨BB, 0, none⟩) 1 1, #[iv x, iv x'], 65, ⟨rfl, rfl, fun w => by go_simp⟩, ?_⟩
          intro B1 wq gq1 l1 ⟨b1, c1, f1⟩
          obtain ⟨Xq, Yq, cq, fq⟩ := gq1.use
          have sq := gq1.size
          (try simp only [World.size_alloc, World.size_setCell, World.heap_drewN] at sq l1)
          simp only [List.drop_succ_cons, List.drop_zero]
          refine wpList_app1 rfl _ _ _ rfl spL w.heap.size 65 2 16 elSp (by decide) O (x, x') O2 HO2.out (.slice A1 O.length d1) rfl (HO3.out.gr (show Gr w2 wq from (by repeat (first | with_reducible exact Gr.refl _ | with_reducible assumption | with_reducible refine Gr.alloc ?_ _ | with_reducible refine Gr.drewN ?_ _ | with_reducible refine Gr.drew ?_ | with_reducible refine Gr.setCell ?_ (by first | (dsimp only; omega) | (simp only [World.size_alloc]; omega) | (with_reducible refine Gr.size ?_; (repeat (first | with_reducible exact Gr.refl _ | with_reducible assumption | with_reducible refine Gr.alloc ?_ _ | with_reducible refine Gr.drewN ?_ _ | with_reducible refine Gr.drew ?_ | with_reducible refine Gr.trans ?_ (by with_reducible assumption))); done)) _ | with_reducible refine Gr.trans ?_ (by with_reducible assumption))))) ⟨B1, 0, none⟩ 1 rfl rfl (by intro j u hu; rw [addr_add, Nat.zero_add, c1]; simpa using hu) (one_sp _) (by omega) (by decide) (by have := Gr.size (show Gr w2 wq from (by repeat (first | with_reducible exact Gr.refl _ | with_reducible assumption | with_reducible refine Gr.alloc ?_ _ | with_reducible refine Gr.drewN ?_ _ | with_reducible refine Gr.drew ?_ | with_reducible refine Gr.setCell ?_ (by first | (dsimp only; omega) | (simp only [World.size_alloc]; omega) | (with_reducible refine Gr.size ?_; (repeat (first | with_reducible exact Gr.refl _ | with_reducible assumption | with_reducible refine Gr.alloc ?_ _ | with_reducible refine Gr.drewN ?_ _ | with_reducible refine Gr.drew ?_ | with_reducible refine Gr.trans ?_ (by with_reducible assumption))); done)) _ | with_reducible refine Gr.trans ?_ (by with_reducible assumption)))); omega) ?_
          intro gg cap1 w8 hO8 hG8 _ _ _
          have g8 : Gr w w8 := hG8 _ (g02.trans (show Gr w2 wq from (by repeat (first | with_reducible exact Gr.refl _ | with_reducible assumption | with_reducible refine Gr.alloc ?_ _ | with_reducible refine Gr.drewN ?_ _ | with_reducible refine Gr.drew ?_ | with_reducible refine Gr.setCell ?_ (by first | (dsimp only; omega) | (simp only [World.size_alloc]; omega) | (with_reducible refine Gr.size ?_; (repeat (first | with_reducible exact Gr.refl _ | with_reducible assumption | with_reducible refine Gr.alloc ?_ _ | with_reducible refine Gr.drewN ?_ _ | with_reducible refine Gr.drew ?_ | with_reducible refine Gr.trans ?_ (by with_reducible assumption))); done)) _ | with_reducible refine Gr.trans ?_ (by with_reducible assumption))))) (Nat.le_refl _)
          have HO8 := hide hO8
          clear hO8 hG8 c1 f1 cq fq w3 w4 w5
          go_wp2
          go_roundw
          case rel => exact ⟨k + 1, O2, z, some ⟨gg, 0, none⟩, cap1, by omega, by go_num, rfl, rfl, g8, HO8, HR, hO2l⟩
          case measure => simp only [intOf]; omega
    · have hkn : ¬ (k : Int) < (X.length : Int) - 1 := by omega
      have HK := hide (show X.length - 1 = k by omega)
      go_wp2
      go_ret
      refine ⟨A1, d1, ?_, ?_, g⟩
      · rw [HK.out, ← HE.out.1]; rfl
      · rw [HK.out, ← HE.out.1]; exact HO.out
end RG
end Go.Proofs.Ytfbhpeedjphpaaa
