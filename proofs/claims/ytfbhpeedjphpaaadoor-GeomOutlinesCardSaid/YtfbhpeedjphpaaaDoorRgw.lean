/-
  Regions: Outline of the document.
-/
import Derived.Test.YtfbhpeedjphpaaaDoorRgu
set_option linter.unusedVariables false
set_option linter.unusedSimpArgs false
namespace Go.Proofs.YtfbhpeedjphpaaaDoor
set_option linter.unusedVariables false
set_option linter.unusedSimpArgs false
open Go Go.ChangeShapes Go.WideShapes Go.ChangeAt Go.RowKit Go.Deep

namespace RG
theorem spS_end {X : List Int} {sd : Nat → Int} (h : ∀ i, i + 1 = X.length → sd i = 0) : (spS X sd X.length).1 = (spS X sd (X.length - 1)).1 := by
  by_cases e : X.length = 0
  · rw [e]
  · obtain ⟨m, hm⟩ : ∃ m, X.length = m + 1 := ⟨X.length - 1, by omega⟩
    rw [hm]
    show spU _ _ (sd m) _ _ = _
    unfold spU
    rw [if_pos (h m hm.symm)]
    rfl
theorem sdV_cases (b a : Bool) : sdV b a = if b = a then 0 else if a then 1 else -1 := rfl
theorem set_sgc (O : List Sg) (y : Sg) (q : Int) : ((O ++ [y]).flatMap sgL).set (O.length * 4 + 2) (iv q) = (O ++ [(⟨y.a, y.b, q, y.d⟩ : Sg)]).flatMap sgL := by
  rw [List.flatMap_append, List.flatMap_append, List.set_append_right _ _ (by rw [fm_len (c := sgL) (k := 4) (fun _ => rfl)]; omega), fm_len (c := sgL) (k := 4) (fun _ => rfl)]
  congr 1
  rw [show O.length * 4 + 2 - O.length * 4 = 2 by omega]
  rfl
theorem set_sgd (O : List Sg) (y : Sg) (q : Int) : ((O ++ [y]).flatMap sgL).set (O.length * 4 + 3) (iv q) = (O ++ [(⟨y.a, y.b, y.c, q⟩ : Sg)]).flatMap sgL := by
  rw [List.flatMap_append, List.flatMap_append, List.set_append_right _ _ (by rw [fm_len (c := sgL) (k := 4) (fun _ => rfl)]; omega), fm_len (c := sgL) (k := 4) (fun _ => rfl)]
  congr 1
  rw [show O.length * 4 + 3 - O.length * 4 = 3 by omega]
  rfl
set_option maxHeartbeats 16000000 in
set_option maxRecDepth 100000 in
theorem rOutline_any (A : Option Addr) (c : Nat) (l : List Rc) (w : World) (hl : SlR w A c l) :
    Calls Tryd.prog 13 #[.slice A l.length c] w (OutP w (outV l) (ceL l)) := by
  have HL := hide hl
  have HCR := hide (rCheck_any A c l w hl)
  by_cases h0 : ceL l = 0
  · obtain ⟨k1, k2⟩ := ceL_zero h0
    have HK := hide k2
    have HE := hide (show outV l = hzL (lnX l) (lnY l) (cel (lnX l) (lnY l) l) (lnY l).length ++ vtL (lnX l) (lnY l) (cel (lnX l) (lnY l) l) (lnX l).length from if_pos h0)
    have HMG := hide (fun (w' : World) (g : Gr w w') => makeGrid_any A c l A c l w' (hl.gr g) (hl.gr g) k2 k2 (by omega))
    have HCX := hide (fun i j (h : i + 1 = (lnX l).length) => cel_lastX (l := l) (m := l) (fun r hr => hr) (i := i) (j := j) h)
    have HCY := hide (fun i j (h : j + 1 = (lnY l).length) => cel_lastY (l := l) (m := l) (fun r hr => hr) (i := i) (j := j) h)
    have n5 : (lnX l).length ≤ 96 := by have := len_lnX l; omega
    have n6 : (lnY l).length ≤ 96 := by have := len_lnY l; omega
    rw [h0] at HCR ⊢
    clear hl h0 k2
    generalize cel (lnX l) (lnY l) l = CC at *
    generalize lnX l = X at *
    generalize lnY l = Y at *
    go_enter Tryd.func13, Tryd.ntmps13
    go_wp2_with fail
    refine HCR.out.mono ?_
    rintro e w2 ⟨rfl, g2⟩
    clear HCR
    go_wp2_with fail
    refine (HMG.out _ g2).mono ?_
    rintro e w3 ⟨A1, B1, F1, a, b, f, R, q, rfl, hG, g3⟩
    have HG := hide hG
    have n1 := hG.n1
    have n2 := hG.n2
    have m1 := hG.sx.cap
    have m2 := hG.sx.capB
    have m3 := hG.sy.cap
    have m4 := hG.sy.capB
    clear hG HMG
    go_upto_region 5 with fail
    have mS := Made.new w3 #[.slice A1 X.length a, .slice B1 Y.length b, .slice F1 (X.length - 1) f] 55
    have g4 : Gr w3 (w3.alloc (.cells #[.slice A1 X.length a, .slice B1 Y.length b, .slice F1 (X.length - 1) f] 55)) := Gr.alloc (Gr.refl _) _
    generalize w3.alloc (.cells #[.slice A1 X.length a, .slice B1 Y.length b, .slice F1 (X.length - 1) f] 55) = w4 at *
    have HMS := hide mS
    have HG4 := hide (HG.out.gr g4)
    have HSZ := hide mS.1
    have g04 : Gr w w4 := (g2.trans g3).trans g4
    have HAT := hide (fun (w' : World) (p s : Int) (v : Bool) (g : Gr w4 w') (hp : p < X.length) (hs : s < Y.length) (hv : atV CC p s = v) => by
      have := rAt_any X Y A1 B1 F1 a b f _ R q CC p s w' (HG4.out.gr g) HCX.out HCY.out hp hs
      rwa [hv] at this)
    obtain ⟨S, hS⟩ : ∃ S, w3.heap.size = S := ⟨_, rfl⟩
    rw [hS] at HMS HSZ
    rw [hS]
    obtain ⟨N, hN⟩ : ∃ N, X.length - 1 = N := ⟨_, rfl⟩
    rw [hN] at HMS HAT
    clear mS HG hS g2 g3 g4 hN HK HL
    go_wp2
    go_loopw [6, 7] (fun v jv wr => ∃ (j : Nat) (O : List Sg) (A' : Option Addr) (d' : Nat), j ≤ Y.length ∧ jv = iv j ∧ v = .slice A' O.length d' ∧ Gr w4 wr ∧ Hid (OwnL wr w4.heap.size 63 4 sgL (.slice A' O.length d') O) ∧ Hid (O = hzL X Y CC j) ∧ O.length ≤ j * 1000) (fun _ jv _ => Y.length - (intOf jv).toNat)
    case atStart => exact ⟨0, [], none, 0, by omega, rfl, rfl, Gr.refl _, own_nil _ _ _ _ _, rfl, by simp⟩
    case round =>
      skip
      obtain ⟨j, O, A2, d2, hj, rfl, rfl, g, HO, HEO, hOl⟩ := hrel
      have sz := g.size
      obtain ⟨p0, p1, p2, -, -, -⟩ := made3 (HMS.out.gr g)
      have hSr : S < wr.heap.size := by have := HSZ.out; omega
      by_cases hjl : j < Y.length
      · obtain ⟨y, hy⟩ : ∃ y, Y[j]? = some y := ⟨_, List.getElem?_eq_getElem hjl⟩
        have HYY := hide hy
        have hj0 : (0 : Int) ≤ (j : Int) := by omega
        have hj1 : (j : Int) < (Y.length : Int) := by omega
        obtain ⟨sd, hsd⟩ : ∃ sd : Nat → Int, (fun i : Nat => sdV (atV CC (i : Int) ((j : Int) - 1)) (atV CC (i : Int) (j : Int))) = sd := ⟨_, rfl⟩
        have HSE := hide (show (spS X sd X.length).1 = hzS X Y CC j by
          rw [spS_end, ← hsd]
          · rfl
          · intro i hi
            rw [← hsd]
            show sdV (atV CC (i : Int) ((j : Int) - 1)) (atV CC (i : Int) (j : Int)) = 0
            have e : ∀ z, atV CC (i : Int) z = false := fun z => by
              unfold atV
              split
              · exact HCX.out _ _ (by simpa using hi)
              · rfl
            rw [e, e]
            rfl)
        have HSD := hide hsd
        have HEO2 := hide (show O = hzL X Y CC j ++ sgOfH y (spS X sd 0).1 by rw [HEO.out]; simp [spS, sgOfH])
        clear hy hsd
        go_wp2
        clear p0 p1 p2
        obtain ⟨wo, rfl⟩ : ∃ wo : World, wo = wr := ⟨_, rfl⟩
        go_loopw [6, 8, 9] (fun v lv kv wr => ∃ (k : Nat) (O : List Sg) (L : Int) (A' : Option Addr) (d' : Nat), k ≤ X.length ∧ kv = iv k ∧ lv = iv L ∧ v = .slice A' O.length d' ∧ Gr w4 wr ∧ Hid (OwnL wr w4.heap.size 63 4 sgL (.slice A' O.length d') O) ∧ Hid (O = hzL X Y CC j ++ sgOfH y (spS X sd k).1 ∧ L = (spS X sd k).2) ∧ O.length ≤ j * 1000 + k) (fun _ _ kv _ => X.length - (intOf kv).toNat)
        case atStart => exact ⟨0, O, 0, A2, d2, by omega, rfl, rfl, rfl, g, HO, ⟨HEO2.out, rfl⟩, by omega⟩
        case round =>
          clear HO HEO HEO2 hOl g sz hSr
          obtain ⟨k, O, L, A2, d2, hk, rfl, rfl, rfl, g, HO, HEL, hOl⟩ := hrel
          have sz := g.size
          obtain ⟨p0, p1, p2, -, -, -⟩ := made3 (HMS.out.gr g)
          have hSr : S < wr.heap.size := by have := HSZ.out; omega
          by_cases hkl : k < X.length
          · obtain ⟨x, hx⟩ : ∃ x, X[k]? = some x := ⟨_, List.getElem?_eq_getElem hkl⟩
            have hk0 : (0 : Int) ≤ (k : Int) := by omega
            have hk1 : (k : Int) < (X.length : Int) := by omega
            have s1 : IntKind.i64.wrap ((j : Int) - 1) = (j : Int) - 1 := IntWalk.i64_in _ (by omega)
            obtain ⟨va, ha⟩ : ∃ va, atV CC (k : Int) (j : Int) = va := ⟨_, rfl⟩
            obtain ⟨vb, hb⟩ : ∃ vb, atV CC (k : Int) ((j : Int) - 1) = vb := ⟨_, rfl⟩
            have HZ := hide (show sd k = sdV vb va by rw [← HSD.out, ← ha, ← hb])
            have HXX := hide hx
            have HLT := hide (show sd k ≠ 0 → k + 1 < X.length by
              intro h
              rcases Nat.lt_or_ge (k + 1) X.length with c | c
              · exact c
              · exfalso
                apply h
                have hi : k + 1 = X.length := by omega
                rw [← HSD.out]
                show sdV (atV CC (k : Int) ((j : Int) - 1)) (atV CC (k : Int) (j : Int)) = 0
                have e : ∀ z, atV CC (k : Int) z = false := fun z => by
                  unfold atV
                  split
                  · exact HCX.out _ _ (by simpa using hi)
                  · rfl
                rw [e, e]
                rfl)
            clear hx
            rcases (show (va = vb) ∨ (va = true ∧ vb = false) ∨ (va = false ∧ vb = true) by cases va <;> cases vb <;> simp) with rfl | ⟨rfl, rfl⟩ | ⟨rfl, rfl⟩
            · have HR := hide (show O = hzL X Y CC j ++ sgOfH y (spS X sd (k + 1)).1 ∧ (0 : Int) = (spS X sd (k + 1)).2 by
                have hz : sd k = 0 := by rw [HZ.out]; exact if_pos rfl
                have e : spS X sd (k + 1) = ((spS X sd k).1, 0) := by
                  show (spU _ _ (sd k) _ _, sd k) = _
                  rw [hz]
                  unfold spU
                  rw [if_pos rfl]
                rw [e]
                exact ⟨HEL.out.1, rfl⟩)
              clear HZ HEL HLT
              cases va <;>
              · go_wp2_with (first | (go_at_call 29; refine (HAT.out _ _ _ _ (by repeat (first | with_reducible exact Gr.refl _ | with_reducible assumption | with_reducible refine Gr.alloc ?_ _ | with_reducible refine Gr.drewN ?_ _ | with_reducible refine Gr.drew ?_ | with_reducible refine Gr.setCell ?_ (by first | (dsimp only; omega) | (simp only [World.size_alloc]; omega) | (with_reducible refine Gr.size ?_; (repeat (first | with_reducible exact Gr.refl _ | with_reducible assumption | with_reducible refine Gr.alloc ?_ _ | with_reducible refine Gr.drewN ?_ _ | with_reducible refine Gr.drew ?_ | with_reducible refine Gr.trans ?_ (by with_reducible assumption))); done)) _ | with_reducible refine Gr.trans ?_ (by with_reducible assumption))) (by omega) (by omega) (by assumption)).mono ?_; rintro e w1 ⟨rfl, g1⟩; obtain ⟨X1, Y1, c1, f1⟩ := g1.use))
                go_roundw
                case rel => exact ⟨k + 1, O, 0, A2, d2, by omega, by go_num, rfl, rfl, (by repeat (first | with_reducible exact Gr.refl _ | with_reducible assumption | with_reducible refine Gr.alloc ?_ _ | with_reducible refine Gr.drewN ?_ _ | with_reducible refine Gr.drew ?_ | with_reducible refine Gr.setCell ?_ (by first | (dsimp only; omega) | (simp only [World.size_alloc]; omega) | (with_reducible refine Gr.size ?_; (repeat (first | with_reducible exact Gr.refl _ | with_reducible assumption | with_reducible refine Gr.alloc ?_ _ | with_reducible refine Gr.drewN ?_ _ | with_reducible refine Gr.drew ?_ | with_reducible refine Gr.trans ?_ (by with_reducible assumption))); done)) _ | with_reducible refine Gr.trans ?_ (by with_reducible assumption))), HO.out.gr (show Gr wr _ from (by repeat (first | with_reducible exact Gr.refl _ | with_reducible assumption | with_reducible refine Gr.alloc ?_ _ | with_reducible refine Gr.drewN ?_ _ | with_reducible refine Gr.drew ?_ | with_reducible refine Gr.setCell ?_ (by first | (dsimp only; omega) | (simp only [World.size_alloc]; omega) | (with_reducible refine Gr.size ?_; (repeat (first | with_reducible exact Gr.refl _ | with_reducible assumption | with_reducible refine Gr.alloc ?_ _ | with_reducible refine Gr.drewN ?_ _ | with_reducible refine Gr.drew ?_ | with_reducible refine Gr.trans ?_ (by with_reducible assumption))); done)) _ | with_reducible refine Gr.trans ?_ (by with_reducible assumption)))), HR, by omega⟩
                case measure => simp only [intOf]; omega
            · have hz : sd k = 1 := by rw [HZ.out]; rfl
              have hk2 := HLT.out (by rw [hz]; decide)
              obtain ⟨x', hx'⟩ : ∃ x, X[k + 1]? = some x := ⟨_, List.getElem?_eq_getElem hk2⟩
              have HXX' := hide hx'
              have hk3 : (k : Int) + 1 < (X.length : Int) := by omega
              have hkN : k ≤ X.length - 1 := by omega
              by_cases hzl : (1 : Int) = L
              · subst hzl
                obtain ⟨Q, s, hQs⟩ : ∃ Q s, (spS X sd k).1 = Q ++ [s] := by
                  rcases List.eq_nil_or_concat (spS X sd k).1 with h | ⟨Q, s, h⟩
                  · exact absurd h (spS_ne X sd k (by rw [← HEL.out.2]; decide))
                  · exact ⟨Q, s, by simpa using h⟩
                obtain ⟨O', hO'⟩ : ∃ O', hzL X Y CC j ++ sgOfH y Q = O' := ⟨_, rfl⟩
                obtain ⟨t, ht⟩ : ∃ t : Sg, ⟨s.1, y, s.2, y⟩ = t := ⟨_, rfl⟩
                obtain ⟨u, hu⟩ : ∃ u : Sg, ⟨s.1, y, x', y⟩ = u := ⟨_, rfl⟩
                have hOy : O = O' ++ [t] := by rw [HEL.out.1, hQs, ← hO', ← ht]; simp [sgOfH]
                have HR := hide (show O' ++ [u] = hzL X Y CC j ++ sgOfH y (spS X sd (k + 1)).1 ∧ (1 : Int) = (spS X sd (k + 1)).2 by
                  have e : spS X sd (k + 1) = (Q ++ [(s.1, x')], 1) := by
                    show (spU _ _ (sd k) _ (X[k + 1]?.getD 0), sd k) = _
                    rw [hz, ← HEL.out.2, hQs, hx']
                    unfold spU
                    rw [if_neg (by decide), if_pos rfl]
                    simp
                  rw [e, ← hO', ← hu]
                  exact ⟨by simp [sgOfH], rfl⟩)
                obtain ⟨n, hn⟩ : ∃ n, O.length = n := ⟨_, rfl⟩
                have hn1 : n = O'.length + 1 := by rw [← hn, hOy]; simp
                have hm : O'.length < n := by omega
                have HN := hide hn
                have s3 : IntKind.i64.wrap ((n : Int) - 1) = (O'.length : Int) := by rw [IntWalk.i64_in _ (by omega)]; omega
                have hm0 : (0 : Int) ≤ (O'.length : Int) := by omega
                have hm1 : (O'.length : Int) < (n : Int) := by omega
                have hO1 := HO.out
                rw [hOy] at hO1
                obtain ⟨G, hG, hA1⟩ : ∃ G, w4.heap.size ≤ G ∧ A2 = some ⟨G, 0, none⟩ := by
                  rcases hO1.2 with ⟨_, q⟩ | ⟨G, cap, cur, q, hG, _⟩
                  · simp at q
                  · cases q
                    exact ⟨G, hG, rfl⟩
                subst hA1
                have hlen : ((O' ++ [t]).flatMap sgL)[O'.length * 4 + 2]? = some (iv t.c) := by
                  have := fm_at (c := sgL) (k := 4) (fun _ => rfl) (O' ++ [t]) O'.length t 2 (by simp) (by omega)
                  rw [this]
                  rfl
                have HOW := hide (show ∀ w', Gr wr w' → w'.cell? ⟨G, O'.length * 4 + 2, none⟩ = some (iv t.c) ∧ w'.frozen? ⟨G, O'.length * 4 + 2, none⟩ = false by
                  intro w' g'
                  have h := OwnL.gr hO1 g'
                  refine ⟨?_, World.ownsRow.frozenAt (h := h) _⟩
                  rw [World.ownsRow.cellAt (h := h) _ (by simp; omega)]
                  exact hlen)
                have HST := hide (show ∀ w', Gr wr w' → OwnL (w'.setCell ⟨G, O'.length * 4 + 2, none⟩ (iv x')) w4.heap.size 63 4 sgL (.slice (some ⟨G, 0, none⟩) (O' ++ [u]).length d2) (O' ++ [u]) by
                  intro w' g'
                  have h := (World.ownsRow.stored (OwnL.gr hO1 g') (O'.length * 4 + 2) (iv x')).1
                  rw [set_sgc] at h
                  unfold OwnL
                  rw [← hu]
                  rw [← ht] at h
                  simpa using h)
                have hnl : (O' ++ [u]).length = n := by rw [hn1]; simp
                have HNL := hide hnl
                have HXf := hide (fun (w' : World) (g' : Gr w4 w') => (HG4.out.gr g').sx.rd.in_ hx')
                rw [hn]
                clear HZ HEL HLT hO1 hlen hOy HO hn hnl hn1 hQs hO' ht hu hz hx'
                go_upto_region 19 with (first | (go_at_call 29; refine (HAT.out _ _ _ _ (by repeat (first | with_reducible exact Gr.refl _ | with_reducible assumption | with_reducible refine Gr.alloc ?_ _ | with_reducible refine Gr.drewN ?_ _ | with_reducible refine Gr.drew ?_ | with_reducible refine Gr.setCell ?_ (by first | (dsimp only; omega) | (simp only [World.size_alloc]; omega) | (with_reducible refine Gr.size ?_; (repeat (first | with_reducible exact Gr.refl _ | with_reducible assumption | with_reducible refine Gr.alloc ?_ _ | with_reducible refine Gr.drewN ?_ _ | with_reducible refine Gr.drew ?_ | with_reducible refine Gr.trans ?_ (by with_reducible assumption))); done)) _ | with_reducible refine Gr.trans ?_ (by with_reducible assumption))) (by omega) (by omega) (by assumption)).mono ?_; rintro e w1 ⟨rfl, g1⟩; obtain ⟨X1, Y1, c1, f1⟩ := g1.use))
                have gz : Gr wr w1 := (by repeat (first | with_reducible exact Gr.refl _ | with_reducible assumption | with_reducible refine Gr.alloc ?_ _ | with_reducible refine Gr.drewN ?_ _ | with_reducible refine Gr.drew ?_ | with_reducible refine Gr.setCell ?_ (by first | (dsimp only; omega) | (simp only [World.size_alloc]; omega) | (with_reducible refine Gr.size ?_; (repeat (first | with_reducible exact Gr.refl _ | with_reducible assumption | with_reducible refine Gr.alloc ?_ _ | with_reducible refine Gr.drewN ?_ _ | with_reducible refine Gr.drew ?_ | with_reducible refine Gr.trans ?_ (by with_reducible assumption))); done)) _ | with_reducible refine Gr.trans ?_ (by with_reducible assumption)))
                obtain ⟨bX', oX', hA', cx'⟩ := HXf.out w1 (g.trans gz)
                obtain ⟨y0, y1⟩ := HOW.out w1 gz
                obtain ⟨r0, r1, r2, -, -, -⟩ := made3 (HMS.out.gr (g.trans gz))
                rw [hA'] at r0
                have HST2 := hide (HST.out w1 gz)
                have HGZ := hide (g.trans gz)
                clear HOW HST HXf hA' p0 p1 p2 c1 f1
                go_wp2
                go_roundw
                case rel => exact ⟨k + 1, O' ++ [u], 1, some ⟨G, 0, none⟩, d2, by omega, by go_num, rfl, by rw [HNL.out], HGZ.out.setCell (p := ⟨G, O'.length * 4 + 2, none⟩) hG _, HST2.out, HR, by have := HNL.out; have := HN.out; omega⟩
                case measure => simp only [intOf]; omega
              · have hzl1 : ((1 : Int) == L) = false := by simpa using hzl
                have hzl2 : ((1 : Int) != L) = true := by simpa using hzl
                obtain ⟨u, hu⟩ : ∃ u : Sg, ⟨x, y, x', y⟩ = u := ⟨_, rfl⟩
                obtain ⟨O2, hO2⟩ : ∃ O2, O ++ [u] = O2 := ⟨_, rfl⟩
                have HO2 := hide hO2
                have HU := hide hu
                have HR := hide (show O2 = hzL X Y CC j ++ sgOfH y (spS X sd (k + 1)).1 ∧ (1 : Int) = (spS X sd (k + 1)).2 by
                  have e : spS X sd (k + 1) = ((spS X sd k).1 ++ [(x, x')], 1) := by
                    show (spU _ _ (sd k) (X[k]?.getD 0) (X[k + 1]?.getD 0), sd k) = _
                    rw [hz, ← HEL.out.2, HXX.out, hx']
                    unfold spU
                    rw [if_neg (by decide), if_neg hzl]
                    rfl
                  rw [e, ← hO2, ← hu, HEL.out.1]
                  exact ⟨by simp [sgOfH], rfl⟩)
                have hO2l : O2.length ≤ j * 1000 + (k + 1) := by rw [← hO2]; simp; omega
                have HXf := hide (fun (w' : World) (g' : Gr w4 w') => (HG4.out.gr g').sx.rd.in_ HXX.out)
                have HXf' := hide (fun (w' : World) (g' : Gr w4 w') => (HG4.out.gr g').sx.rd.in_ HXX'.out)
                have HYf := hide (fun (w' : World) (g' : Gr w4 w') => (HG4.out.gr g').sy.rd.in_ HYY.out)
                have hu1 : u = ⟨x, y, x', y⟩ := hu.symm
                subst hu1
                clear HZ HEL HLT hO2 hu hzl hz hx'
                go_upto_region 21 with (first | (go_at_call 29; refine (HAT.out _ _ _ _ (by repeat (first | with_reducible exact Gr.refl _ | with_reducible assumption | with_reducible refine Gr.alloc ?_ _ | with_reducible refine Gr.drewN ?_ _ | with_reducible refine Gr.drew ?_ | with_reducible refine Gr.setCell ?_ (by first | (dsimp only; omega) | (simp only [World.size_alloc]; omega) | (with_reducible refine Gr.size ?_; (repeat (first | with_reducible exact Gr.refl _ | with_reducible assumption | with_reducible refine Gr.alloc ?_ _ | with_reducible refine Gr.drewN ?_ _ | with_reducible refine Gr.drew ?_ | with_reducible refine Gr.trans ?_ (by with_reducible assumption))); done)) _ | with_reducible refine Gr.trans ?_ (by with_reducible assumption))) (by omega) (by omega) (by assumption)).mono ?_; rintro e w1 ⟨rfl, g1⟩; obtain ⟨X1, Y1, c1, f1⟩ := g1.use))
                have gz : Gr wr w1 := (by repeat (first | with_reducible exact Gr.refl _ | with_reducible assumption | with_reducible refine Gr.alloc ?_ _ | with_reducible refine Gr.drewN ?_ _ | with_reducible refine Gr.drew ?_ | with_reducible refine Gr.setCell ?_ (by first | (dsimp only; omega) | (simp only [World.size_alloc]; omega) | (with_reducible refine Gr.size ?_; (repeat (first | with_reducible exact Gr.refl _ | with_reducible assumption | with_reducible refine Gr.alloc ?_ _ | with_reducible refine Gr.drewN ?_ _ | with_reducible refine Gr.drew ?_ | with_reducible refine Gr.trans ?_ (by with_reducible assumption))); done)) _ | with_reducible refine Gr.trans ?_ (by with_reducible assumption)))
                obtain ⟨bX, oX, hA1, cx⟩ := HXf.out w1 (g.trans gz)
                obtain ⟨bX', oX', hA2, cx'⟩ := HXf'.out w1 (g.trans gz)
                obtain ⟨bY, oY, hB1, cy⟩ := HYf.out w1 (g.trans gz)
                rw [hA1] at hA2
                cases hA2
                obtain ⟨r0, r1, r2, -, -, -⟩ := made3 (HMS.out.gr (g.trans gz))
                rw [hA1] at r0
                rw [hB1] at r1
                have w7 : IntKind.i64.wrap ((k : Int) + 1) = (k : Int) + 1 := IntWalk.i64_in _ (by omega)
                have w8' : ((k : Int) + 1).toNat = k + 1 := by omega
                have w9 : (0 : Int) ≤ (k : Int) + 1 := by omega
                have HO3 := hide (HO.out.gr gz)
                have g02 := g.trans gz
                have sz2 := g02.size
                clear HXf HXf' HYf HO hA1 hB1 ha hb s1 p0 p1 p2 c1 f1
                refine wp_region_build1 _ 23 (by kernel_rfl) (by kernel_rfl) (Gr.refl _) (d1 := some 110) rfl ?_
                intro s gs
                obtain ⟨Xs, Ys, cs, fs⟩ := gs.use
                have GC := @GrW.cell
                simp only [List.take_succ_cons, List.take_zero]
                repeat (go_big_quiet_step ((first | fail)))
                refine wpQuiet_nil ?_
                clear GC cs fs gs
                refine ⟨fun BB => .slice (some ⟨BB, 0, none⟩) 1 1, #[iv x, iv y, iv x', iv y], 63, ⟨rfl, rfl, fun w => by go_simp⟩, ?_⟩
                intro B1 wq gq1 l1 ⟨b1, c1, f1⟩
                obtain ⟨Xq, Yq, cq, fq⟩ := gq1.use
                have sq := gq1.size
                (try simp only [World.size_alloc, World.size_setCell, World.heap_drewN] at sq l1)
                simp only [List.drop_succ_cons, List.drop_zero]
                refine wpList_app1 rfl _ _ _ rfl sgL w4.heap.size 63 4 32 elSg (by decide) O ⟨x, y, x', y⟩ O2 HO2.out (.slice A2 O.length d2) rfl (HO3.out.gr (show Gr w1 wq from (by repeat (first | with_reducible exact Gr.refl _ | with_reducible assumption | with_reducible refine Gr.alloc ?_ _ | with_reducible refine Gr.drewN ?_ _ | with_reducible refine Gr.drew ?_ | with_reducible refine Gr.setCell ?_ (by first | (dsimp only; omega) | (simp only [World.size_alloc]; omega) | (with_reducible refine Gr.size ?_; (repeat (first | with_reducible exact Gr.refl _ | with_reducible assumption | with_reducible refine Gr.alloc ?_ _ | with_reducible refine Gr.drewN ?_ _ | with_reducible refine Gr.drew ?_ | with_reducible refine Gr.trans ?_ (by with_reducible assumption))); done)) _ | with_reducible refine Gr.trans ?_ (by with_reducible assumption))))) ⟨B1, 0, none⟩ 1 rfl rfl (by intro j u hu; rw [addr_add, Nat.zero_add, c1]; simpa using hu) (one_sg _) (by omega) (by decide) (by have := Gr.size (show Gr w1 wq from (by repeat (first | with_reducible exact Gr.refl _ | with_reducible assumption | with_reducible refine Gr.alloc ?_ _ | with_reducible refine Gr.drewN ?_ _ | with_reducible refine Gr.drew ?_ | with_reducible refine Gr.setCell ?_ (by first | (dsimp only; omega) | (simp only [World.size_alloc]; omega) | (with_reducible refine Gr.size ?_; (repeat (first | with_reducible exact Gr.refl _ | with_reducible assumption | with_reducible refine Gr.alloc ?_ _ | with_reducible refine Gr.drewN ?_ _ | with_reducible refine Gr.drew ?_ | with_reducible refine Gr.trans ?_ (by with_reducible assumption))); done)) _ | with_reducible refine Gr.trans ?_ (by with_reducible assumption)))); omega) ?_
                intro gg cap1 w8 hO8 hG8 _ _ _
                have g8 : Gr w4 w8 := hG8 _ (g02.trans (show Gr w1 wq from (by repeat (first | with_reducible exact Gr.refl _ | with_reducible assumption | with_reducible refine Gr.alloc ?_ _ | with_reducible refine Gr.drewN ?_ _ | with_reducible refine Gr.drew ?_ | with_reducible refine Gr.setCell ?_ (by first | (dsimp only; omega) | (simp only [World.size_alloc]; omega) | (with_reducible refine Gr.size ?_; (repeat (first | with_reducible exact Gr.refl _ | with_reducible assumption | with_reducible refine Gr.alloc ?_ _ | with_reducible refine Gr.drewN ?_ _ | with_reducible refine Gr.drew ?_ | with_reducible refine Gr.trans ?_ (by with_reducible assumption))); done)) _ | with_reducible refine Gr.trans ?_ (by with_reducible assumption))))) (Nat.le_refl _)
                have HO8 := hide hO8
                clear hO8 hG8 c1 f1 cq fq w7 w8' w9
                go_wp2
                go_roundw
                case rel => exact ⟨k + 1, O2, 1, some ⟨gg, 0, none⟩, cap1, by omega, by go_num, rfl, rfl, g8, HO8, HR, hO2l⟩
                case measure => simp only [intOf]; omega
            · have hz : sd k = (-1) := by rw [HZ.out]; rfl
              have hk2 := HLT.out (by rw [hz]; decide)
              obtain ⟨x', hx'⟩ : ∃ x, X[k + 1]? = some x := ⟨_, List.getElem?_eq_getElem hk2⟩
              have HXX' := hide hx'
              have hk3 : (k : Int) + 1 < (X.length : Int) := by omega
              have hkN : k ≤ X.length - 1 := by omega
              by_cases hzl : ((-1) : Int) = L
              · subst hzl
                obtain ⟨Q, s, hQs⟩ : ∃ Q s, (spS X sd k).1 = Q ++ [s] := by
                  rcases List.eq_nil_or_concat (spS X sd k).1 with h | ⟨Q, s, h⟩
                  · exact absurd h (spS_ne X sd k (by rw [← HEL.out.2]; decide))
                  · exact ⟨Q, s, by simpa using h⟩
                obtain ⟨O', hO'⟩ : ∃ O', hzL X Y CC j ++ sgOfH y Q = O' := ⟨_, rfl⟩
                obtain ⟨t, ht⟩ : ∃ t : Sg, ⟨s.1, y, s.2, y⟩ = t := ⟨_, rfl⟩
                obtain ⟨u, hu⟩ : ∃ u : Sg, ⟨s.1, y, x', y⟩ = u := ⟨_, rfl⟩
                have hOy : O = O' ++ [t] := by rw [HEL.out.1, hQs, ← hO', ← ht]; simp [sgOfH]
                have HR := hide (show O' ++ [u] = hzL X Y CC j ++ sgOfH y (spS X sd (k + 1)).1 ∧ ((-1) : Int) = (spS X sd (k + 1)).2 by
                  have e : spS X sd (k + 1) = (Q ++ [(s.1, x')], (-1)) := by
                    show (spU _ _ (sd k) _ (X[k + 1]?.getD 0), sd k) = _
                    rw [hz, ← HEL.out.2, hQs, hx']
                    unfold spU
                    rw [if_neg (by decide), if_pos rfl]
                    simp
                  rw [e, ← hO', ← hu]
                  exact ⟨by simp [sgOfH], rfl⟩)
                obtain ⟨n, hn⟩ : ∃ n, O.length = n := ⟨_, rfl⟩
                have hn1 : n = O'.length + 1 := by rw [← hn, hOy]; simp
                have hm : O'.length < n := by omega
                have HN := hide hn
                have s3 : IntKind.i64.wrap ((n : Int) - 1) = (O'.length : Int) := by rw [IntWalk.i64_in _ (by omega)]; omega
                have hm0 : (0 : Int) ≤ (O'.length : Int) := by omega
                have hm1 : (O'.length : Int) < (n : Int) := by omega
                have hO1 := HO.out
                rw [hOy] at hO1
                obtain ⟨G, hG, hA1⟩ : ∃ G, w4.heap.size ≤ G ∧ A2 = some ⟨G, 0, none⟩ := by
                  rcases hO1.2 with ⟨_, q⟩ | ⟨G, cap, cur, q, hG, _⟩
                  · simp at q
                  · cases q
                    exact ⟨G, hG, rfl⟩
                subst hA1
                have hlen : ((O' ++ [t]).flatMap sgL)[O'.length * 4 + 2]? = some (iv t.c) := by
                  have := fm_at (c := sgL) (k := 4) (fun _ => rfl) (O' ++ [t]) O'.length t 2 (by simp) (by omega)
                  rw [this]
                  rfl
                have HOW := hide (show ∀ w', Gr wr w' → w'.cell? ⟨G, O'.length * 4 + 2, none⟩ = some (iv t.c) ∧ w'.frozen? ⟨G, O'.length * 4 + 2, none⟩ = false by
                  intro w' g'
                  have h := OwnL.gr hO1 g'
                  refine ⟨?_, World.ownsRow.frozenAt (h := h) _⟩
                  rw [World.ownsRow.cellAt (h := h) _ (by simp; omega)]
                  exact hlen)
                have HST := hide (show ∀ w', Gr wr w' → OwnL (w'.setCell ⟨G, O'.length * 4 + 2, none⟩ (iv x')) w4.heap.size 63 4 sgL (.slice (some ⟨G, 0, none⟩) (O' ++ [u]).length d2) (O' ++ [u]) by
                  intro w' g'
                  have h := (World.ownsRow.stored (OwnL.gr hO1 g') (O'.length * 4 + 2) (iv x')).1
                  rw [set_sgc] at h
                  unfold OwnL
                  rw [← hu]
                  rw [← ht] at h
                  simpa using h)
                have hnl : (O' ++ [u]).length = n := by rw [hn1]; simp
                have HNL := hide hnl
                have HXf := hide (fun (w' : World) (g' : Gr w4 w') => (HG4.out.gr g').sx.rd.in_ hx')
                rw [hn]
                clear HZ HEL HLT hO1 hlen hOy HO hn hnl hn1 hQs hO' ht hu hz hx'
                go_upto_region 19 with (first | (go_at_call 29; refine (HAT.out _ _ _ _ (by repeat (first | with_reducible exact Gr.refl _ | with_reducible assumption | with_reducible refine Gr.alloc ?_ _ | with_reducible refine Gr.drewN ?_ _ | with_reducible refine Gr.drew ?_ | with_reducible refine Gr.setCell ?_ (by first | (dsimp only; omega) | (simp only [World.size_alloc]; omega) | (with_reducible refine Gr.size ?_; (repeat (first | with_reducible exact Gr.refl _ | with_reducible assumption | with_reducible refine Gr.alloc ?_ _ | with_reducible refine Gr.drewN ?_ _ | with_reducible refine Gr.drew ?_ | with_reducible refine Gr.trans ?_ (by with_reducible assumption))); done)) _ | with_reducible refine Gr.trans ?_ (by with_reducible assumption))) (by omega) (by omega) (by assumption)).mono ?_; rintro e w1 ⟨rfl, g1⟩; obtain ⟨X1, Y1, c1, f1⟩ := g1.use))
                have gz : Gr wr w1 := (by repeat (first | with_reducible exact Gr.refl _ | with_reducible assumption | with_reducible refine Gr.alloc ?_ _ | with_reducible refine Gr.drewN ?_ _ | with_reducible refine Gr.drew ?_ | with_reducible refine Gr.setCell ?_ (by first | (dsimp only; omega) | (simp only [World.size_alloc]; omega) | (with_reducible refine Gr.size ?_; (repeat (first | with_reducible exact Gr.refl _ | with_reducible assumption | with_reducible refine Gr.alloc ?_ _ | with_reducible refine Gr.drewN ?_ _ | with_reducible refine Gr.drew ?_ | with_reducible refine Gr.trans ?_ (by with_reducible assumption))); done)) _ | with_reducible refine Gr.trans ?_ (by with_reducible assumption)))
                obtain ⟨bX', oX', hA', cx'⟩ := HXf.out w1 (g.trans gz)
                obtain ⟨y0, y1⟩ := HOW.out w1 gz
                obtain ⟨r0, r1, r2, -, -, -⟩ := made3 (HMS.out.gr (g.trans gz))
                rw [hA'] at r0
                have HST2 := hide (HST.out w1 gz)
                have HGZ := hide (g.trans gz)
                clear HOW HST HXf hA' p0 p1 p2 c1 f1
                go_wp2
                go_roundw
                case rel => exact ⟨k + 1, O' ++ [u], (-1), some ⟨G, 0, none⟩, d2, by omega, by go_num, rfl, by rw [HNL.out], HGZ.out.setCell (p := ⟨G, O'.length * 4 + 2, none⟩) hG _, HST2.out, HR, by have := HNL.out; have := HN.out; omega⟩
                case measure => simp only [intOf]; omega
              · have hzl1 : (((-1) : Int) == L) = false := by simpa using hzl
                have hzl2 : (((-1) : Int) != L) = true := by simpa using hzl
                obtain ⟨u, hu⟩ : ∃ u : Sg, ⟨x, y, x', y⟩ = u := ⟨_, rfl⟩
                obtain ⟨O2, hO2⟩ : ∃ O2, O ++ [u] = O2 := ⟨_, rfl⟩
                have HO2 := hide hO2
                have HU := hide hu
                have HR := hide (show O2 = hzL X Y CC j ++ sgOfH y (spS X sd (k + 1)).1 ∧ ((-1) : Int) = (spS X sd (k + 1)).2 by
                  have e : spS X sd (k + 1) = ((spS X sd k).1 ++ [(x, x')], (-1)) := by
                    show (spU _ _ (sd k) (X[k]?.getD 0) (X[k + 1]?.getD 0), sd k) = _
                    rw [hz, ← HEL.out.2, HXX.out, hx']
                    unfold spU
                    rw [if_neg (by decide), if_neg hzl]
                    rfl
                  rw [e, ← hO2, ← hu, HEL.out.1]
                  exact ⟨by simp [sgOfH], rfl⟩)
                have hO2l : O2.length ≤ j * 1000 + (k + 1) := by rw [← hO2]; simp; omega
                have HXf := hide (fun (w' : World) (g' : Gr w4 w') => (HG4.out.gr g').sx.rd.in_ HXX.out)
                have HXf' := hide (fun (w' : World) (g' : Gr w4 w') => (HG4.out.gr g').sx.rd.in_ HXX'.out)
                have HYf := hide (fun (w' : World) (g' : Gr w4 w') => (HG4.out.gr g').sy.rd.in_ HYY.out)
                have hu1 : u = ⟨x, y, x', y⟩ := hu.symm
                subst hu1
                clear HZ HEL HLT hO2 hu hzl hz hx'
                go_upto_region 21 with (first | (go_at_call 29; refine (HAT.out _ _ _ _ (by repeat (first | with_reducible exact Gr.refl _ | with_reducible assumption | with_reducible refine Gr.alloc ?_ _ | with_reducible refine Gr.drewN ?_ _ | with_reducible refine Gr.drew ?_ | with_reducible refine Gr.setCell ?_ (by first | (dsimp only; omega) | (simp only [World.size_alloc]; omega) | (with_reducible refine Gr.size ?_; (repeat (first | with_reducible exact Gr.refl _ | with_reducible assumption | with_reducible refine Gr.alloc ?_ _ | with_reducible refine Gr.drewN ?_ _ | with_reducible refine Gr.drew ?_ | with_reducible refine Gr.trans ?_ (by with_reducible assumption))); done)) _ | with_reducible refine Gr.trans ?_ (by with_reducible assumption))) (by omega) (by omega) (by assumption)).mono ?_; rintro e w1 ⟨rfl, g1⟩; obtain ⟨X1, Y1, c1, f1⟩ := g1.use))
                have gz : Gr wr w1 := (by repeat (first | with_reducible exact Gr.refl _ | with_reducible assumption | with_reducible refine Gr.alloc ?_ _ | with_reducible refine Gr.drewN ?_ _ | with_reducible refine Gr.drew ?_ | with_reducible refine Gr.setCell ?_ (by first | (dsimp only; omega) | (simp only [World.size_alloc]; omega) | (with_reducible refine Gr.size ?_; (repeat (first | with_reducible exact Gr.refl _ | with_reducible assumption | with_reducible refine Gr.alloc ?_ _ | with_reducible refine Gr.drewN ?_ _ | with_reducible refine Gr.drew ?_ | with_reducible refine Gr.trans ?_ (by with_reducible assumption))); done)) _ | with_reducible refine Gr.trans ?_ (by with_reducible assumption)))
                obtain ⟨bX, oX, hA1, cx⟩ := HXf.out w1 (g.trans gz)
                obtain ⟨bX', oX', hA2, cx'⟩ := HXf'.out w1 (g.trans gz)
                obtain ⟨bY, oY, hB1, cy⟩ := HYf.out w1 (g.trans gz)
                rw [hA1] at hA2
                cases hA2
                obtain ⟨r0, r1, r2, -, -, -⟩ := made3 (HMS.out.gr (g.trans gz))
                rw [hA1] at r0
                rw [hB1] at r1
                have w7 : IntKind.i64.wrap ((k : Int) + 1) = (k : Int) + 1 := IntWalk.i64_in _ (by omega)
                have w8' : ((k : Int) + 1).toNat = k + 1 := by omega
                have w9 : (0 : Int) ≤ (k : Int) + 1 := by omega
                have HO3 := hide (HO.out.gr gz)
                have g02 := g.trans gz
                have sz2 := g02.size
                clear HXf HXf' HYf HO hA1 hB1 ha hb s1 p0 p1 p2 c1 f1
                refine wp_region_build1 _ 23 (by kernel_rfl) (by kernel_rfl) (Gr.refl _) (d1 := some 110) rfl ?_
                intro s gs
                obtain ⟨Xs, Ys, cs, fs⟩ := gs.use
                have GC := @GrW.cell
                simp only [List.take_succ_cons, List.take_zero]
                repeat (go_big_quiet_step ((first | fail)))
                refine wpQuiet_nil ?_
                clear GC cs fs gs
                refine ⟨fun BB => .slice (some ⟨BB, 0, none⟩) 1 1, #[iv x, iv y, iv x', iv y], 63, ⟨rfl, rfl, fun w => by go_simp⟩, ?_⟩
                intro B1 wq gq1 l1 ⟨b1, c1, f1⟩
                obtain ⟨Xq, Yq, cq, fq⟩ := gq1.use
                have sq := gq1.size
                (try simp only [World.size_alloc, World.size_setCell, World.heap_drewN] at sq l1)
                simp only [List.drop_succ_cons, List.drop_zero]
                refine wpList_app1 rfl _ _ _ rfl sgL w4.heap.size 63 4 32 elSg (by decide) O ⟨x, y, x', y⟩ O2 HO2.out (.slice A2 O.length d2) rfl (HO3.out.gr (show Gr w1 wq from (by repeat (first | with_reducible exact Gr.refl _ | with_reducible assumption | with_reducible refine Gr.alloc ?_ _ | with_reducible refine Gr.drewN ?_ _ | with_reducible refine Gr.drew ?_ | with_reducible refine Gr.setCell ?_ (by first | (dsimp only; omega) | (simp only [World.size_alloc]; omega) | (with_reducible refine Gr.size ?_; (repeat (first | with_reducible exact Gr.refl _ | with_reducible assumption | with_reducible refine Gr.alloc ?_ _ | with_reducible refine Gr.drewN ?_ _ | with_reducible refine Gr.drew ?_ | with_reducible refine Gr.trans ?_ (by with_reducible assumption))); done)) _ | with_reducible refine Gr.trans ?_ (by with_reducible assumption))))) ⟨B1, 0, none⟩ 1 rfl rfl (by intro j u hu; rw [addr_add, Nat.zero_add, c1]; simpa using hu) (one_sg _) (by omega) (by decide) (by have := Gr.size (show Gr w1 wq from (by repeat (first | with_reducible exact Gr.refl _ | with_reducible assumption | with_reducible refine Gr.alloc ?_ _ | with_reducible refine Gr.drewN ?_ _ | with_reducible refine Gr.drew ?_ | with_reducible refine Gr.setCell ?_ (by first | (dsimp only; omega) | (simp only [World.size_alloc]; omega) | (with_reducible refine Gr.size ?_; (repeat (first | with_reducible exact Gr.refl _ | with_reducible assumption | with_reducible refine Gr.alloc ?_ _ | with_reducible refine Gr.drewN ?_ _ | with_reducible refine Gr.drew ?_ | with_reducible refine Gr.trans ?_ (by with_reducible assumption))); done)) _ | with_reducible refine Gr.trans ?_ (by with_reducible assumption)))); omega) ?_
                intro gg cap1 w8 hO8 hG8 _ _ _
                have g8 : Gr w4 w8 := hG8 _ (g02.trans (show Gr w1 wq from (by repeat (first | with_reducible exact Gr.refl _ | with_reducible assumption | with_reducible refine Gr.alloc ?_ _ | with_reducible refine Gr.drewN ?_ _ | with_reducible refine Gr.drew ?_ | with_reducible refine Gr.setCell ?_ (by first | (dsimp only; omega) | (simp only [World.size_alloc]; omega) | (with_reducible refine Gr.size ?_; (repeat (first | with_reducible exact Gr.refl _ | with_reducible assumption | with_reducible refine Gr.alloc ?_ _ | with_reducible refine Gr.drewN ?_ _ | with_reducible refine Gr.drew ?_ | with_reducible refine Gr.trans ?_ (by with_reducible assumption))); done)) _ | with_reducible refine Gr.trans ?_ (by with_reducible assumption))))) (Nat.le_refl _)
                have HO8 := hide hO8
                clear hO8 hG8 c1 f1 cq fq w7 w8' w9
                go_wp2
                go_roundw
                case rel => exact ⟨k + 1, O2, (-1), some ⟨gg, 0, none⟩, cap1, by omega, by go_num, rfl, rfl, g8, HO8, HR, hO2l⟩
                case measure => simp only [intOf]; omega
          · obtain rfl : k = X.length := by omega
            have HR := hide (show O = hzL X Y CC (j + 1) by rw [HEL.out.1, HSE.out]; exact hzL_snoc X Y CC j HYY.out)
            go_wp2
            go_roundw
            case rel => exact ⟨j + 1, O, A2, d2, by omega, by go_num, rfl, g, HO, HR, by omega⟩
            case measure => simp only [intOf]; omega
      · obtain rfl : j = Y.length := by omega
        go_wp2
        clear p0 p1 p2
        go_loopw [6, 11] (fun v jv wr => ∃ (j : Nat) (O : List Sg) (A' : Option Addr) (d' : Nat), j ≤ X.length ∧ jv = iv j ∧ v = .slice A' O.length d' ∧ Gr w4 wr ∧ Hid (OwnL wr w4.heap.size 63 4 sgL (.slice A' O.length d') O) ∧ Hid (O = hzL X Y CC Y.length ++ vtL X Y CC j) ∧ O.length ≤ 96 * 1000 + j * 1000) (fun _ jv _ => X.length - (intOf jv).toNat)
        case atStart => exact ⟨0, O, A2, d2, by omega, rfl, rfl, g, HO, HEO.out.trans (show hzL X Y CC Y.length = hzL X Y CC Y.length ++ vtL X Y CC 0 by simp [vtL]), by omega⟩
        case round =>
          clear HO HEO hOl g sz hSr hj hjl
          obtain ⟨j, O, A2, d2, hj, rfl, rfl, g, HO, HEO, hOl⟩ := hrel
          have sz := g.size
          obtain ⟨p0, p1, p2, -, -, -⟩ := made3 (HMS.out.gr g)
          have hSr : S < wr.heap.size := by have := HSZ.out; omega
          by_cases hjl : j < X.length
          · obtain ⟨y, hy⟩ : ∃ y, X[j]? = some y := ⟨_, List.getElem?_eq_getElem hjl⟩
            have HYY := hide hy
            have hj0 : (0 : Int) ≤ (j : Int) := by omega
            have hj1 : (j : Int) < (X.length : Int) := by omega
            obtain ⟨sd, hsd⟩ : ∃ sd : Nat → Int, (fun i : Nat => sdV (atV CC ((j : Int) - 1) (i : Int)) (atV CC (j : Int) (i : Int))) = sd := ⟨_, rfl⟩
            have HSE := hide (show (spS Y sd Y.length).1 = vtS X Y CC j by
              rw [spS_end, ← hsd]
              · rfl
              · intro i hi
                rw [← hsd]
                show sdV (atV CC ((j : Int) - 1) (i : Int)) (atV CC (j : Int) (i : Int)) = 0
                have e : ∀ z, atV CC z (i : Int) = false := fun z => by
                  unfold atV
                  split
                  · exact HCY.out _ _ (by simpa using hi)
                  · rfl
                rw [e, e]
                rfl)
            have HSD := hide hsd
            have HEO2 := hide (show O = hzL X Y CC Y.length ++ vtL X Y CC j ++ sgOfV y (spS Y sd 0).1 by rw [HEO.out]; simp [spS, sgOfV])
            clear hy hsd
            go_wp2
            clear p0 p1 p2
            obtain ⟨wo, rfl⟩ : ∃ wo : World, wo = wr := ⟨_, rfl⟩
            go_loopw [6, 12, 13] (fun v lv kv wr => ∃ (k : Nat) (O : List Sg) (L : Int) (A' : Option Addr) (d' : Nat), k ≤ Y.length ∧ kv = iv k ∧ lv = iv L ∧ v = .slice A' O.length d' ∧ Gr w4 wr ∧ Hid (OwnL wr w4.heap.size 63 4 sgL (.slice A' O.length d') O) ∧ Hid (O = hzL X Y CC Y.length ++ vtL X Y CC j ++ sgOfV y (spS Y sd k).1 ∧ L = (spS Y sd k).2) ∧ O.length ≤ 96 * 1000 + j * 1000 + k) (fun _ _ kv _ => Y.length - (intOf kv).toNat)
            case atStart => exact ⟨0, O, 0, A2, d2, by omega, rfl, rfl, rfl, g, HO, ⟨HEO2.out, rfl⟩, by omega⟩
            case round =>
              clear HO HEO HEO2 hOl g sz hSr
              obtain ⟨k, O, L, A2, d2, hk, rfl, rfl, rfl, g, HO, HEL, hOl⟩ := hrel
              have sz := g.size
              obtain ⟨p0, p1, p2, -, -, -⟩ := made3 (HMS.out.gr g)
              have hSr : S < wr.heap.size := by have := HSZ.out; omega
              by_cases hkl : k < Y.length
              · obtain ⟨x, hx⟩ : ∃ x, Y[k]? = some x := ⟨_, List.getElem?_eq_getElem hkl⟩
                have hk0 : (0 : Int) ≤ (k : Int) := by omega
                have hk1 : (k : Int) < (Y.length : Int) := by omega
                have s1 : IntKind.i64.wrap ((j : Int) - 1) = (j : Int) - 1 := IntWalk.i64_in _ (by omega)
                obtain ⟨va, ha⟩ : ∃ va, atV CC (j : Int) (k : Int) = va := ⟨_, rfl⟩
                obtain ⟨vb, hb⟩ : ∃ vb, atV CC ((j : Int) - 1) (k : Int) = vb := ⟨_, rfl⟩
                have HZ := hide (show sd k = sdV vb va by rw [← HSD.out, ← ha, ← hb])
                have HXX := hide hx
                have HLT := hide (show sd k ≠ 0 → k + 1 < Y.length by
                  intro h
                  rcases Nat.lt_or_ge (k + 1) Y.length with c | c
                  · exact c
                  · exfalso
                    apply h
                    have hi : k + 1 = Y.length := by omega
                    rw [← HSD.out]
                    show sdV (atV CC ((j : Int) - 1) (k : Int)) (atV CC (j : Int) (k : Int)) = 0
                    have e : ∀ z, atV CC z (k : Int) = false := fun z => by
                      unfold atV
                      split
                      · exact HCY.out _ _ (by simpa using hi)
                      · rfl
                    rw [e, e]
                    rfl)
                clear hx
                rcases (show (va = vb) ∨ (va = true ∧ vb = false) ∨ (va = false ∧ vb = true) by cases va <;> cases vb <;> simp) with rfl | ⟨rfl, rfl⟩ | ⟨rfl, rfl⟩
                · have HR := hide (show O = hzL X Y CC Y.length ++ vtL X Y CC j ++ sgOfV y (spS Y sd (k + 1)).1 ∧ (0 : Int) = (spS Y sd (k + 1)).2 by
                    have hz : sd k = 0 := by rw [HZ.out]; exact if_pos rfl
                    have e : spS Y sd (k + 1) = ((spS Y sd k).1, 0) := by
                      show (spU _ _ (sd k) _ _, sd k) = _
                      rw [hz]
                      unfold spU
                      rw [if_pos rfl]
                    rw [e]
                    exact ⟨HEL.out.1, rfl⟩)
                  clear HZ HEL HLT
                  cases va <;>
                  · go_wp2_with (first | (go_at_call 29; refine (HAT.out _ _ _ _ (by repeat (first | with_reducible exact Gr.refl _ | with_reducible assumption | with_reducible refine Gr.alloc ?_ _ | with_reducible refine Gr.drewN ?_ _ | with_reducible refine Gr.drew ?_ | with_reducible refine Gr.setCell ?_ (by first | (dsimp only; omega) | (simp only [World.size_alloc]; omega) | (with_reducible refine Gr.size ?_; (repeat (first | with_reducible exact Gr.refl _ | with_reducible assumption | with_reducible refine Gr.alloc ?_ _ | with_reducible refine Gr.drewN ?_ _ | with_reducible refine Gr.drew ?_ | with_reducible refine Gr.trans ?_ (by with_reducible assumption))); done)) _ | with_reducible refine Gr.trans ?_ (by with_reducible assumption))) (by omega) (by omega) (by assumption)).mono ?_; rintro e w1 ⟨rfl, g1⟩; obtain ⟨X1, Y1, c1, f1⟩ := g1.use))
                    go_roundw
                    case rel => exact ⟨k + 1, O, 0, A2, d2, by omega, by go_num, rfl, rfl, (by repeat (first | with_reducible exact Gr.refl _ | with_reducible assumption | with_reducible refine Gr.alloc ?_ _ | with_reducible refine Gr.drewN ?_ _ | with_reducible refine Gr.drew ?_ | with_reducible refine Gr.setCell ?_ (by first | (dsimp only; omega) | (simp only [World.size_alloc]; omega) | (with_reducible refine Gr.size ?_; (repeat (first | with_reducible exact Gr.refl _ | with_reducible assumption | with_reducible refine Gr.alloc ?_ _ | with_reducible refine Gr.drewN ?_ _ | with_reducible refine Gr.drew ?_ | with_reducible refine Gr.trans ?_ (by with_reducible assumption))); done)) _ | with_reducible refine Gr.trans ?_ (by with_reducible assumption))), HO.out.gr (show Gr wr _ from (by repeat (first | with_reducible exact Gr.refl _ | with_reducible assumption | with_reducible refine Gr.alloc ?_ _ | with_reducible refine Gr.drewN ?_ _ | with_reducible refine Gr.drew ?_ | with_reducible refine Gr.setCell ?_ (by first | (dsimp only; omega) | (simp only [World.size_alloc]; omega) | (with_reducible refine Gr.size ?_; (repeat (first | with_reducible exact Gr.refl _ | with_reducible assumption | with_reducible refine Gr.alloc ?_ _ | with_reducible refine Gr.drewN ?_ _ | with_reducible refine Gr.drew ?_ | with_reducible refine Gr.trans ?_ (by with_reducible assumption))); done)) _ | with_reducible refine Gr.trans ?_ (by with_reducible assumption)))), HR, by omega⟩
                    case measure => simp only [intOf]; omega
                · have hz : sd k = 1 := by rw [HZ.out]; rfl
                  have hk2 := HLT.out (by rw [hz]; decide)
                  obtain ⟨x', hx'⟩ : ∃ x, Y[k + 1]? = some x := ⟨_, List.getElem?_eq_getElem hk2⟩
                  have HXX' := hide hx'
                  have hk3 : (k : Int) + 1 < (Y.length : Int) := by omega
                  have hkN : k ≤ Y.length - 1 := by omega
                  by_cases hzl : (1 : Int) = L
                  · subst hzl
                    obtain ⟨Q, s, hQs⟩ : ∃ Q s, (spS Y sd k).1 = Q ++ [s] := by
                      rcases List.eq_nil_or_concat (spS Y sd k).1 with h | ⟨Q, s, h⟩
                      · exact absurd h (spS_ne Y sd k (by rw [← HEL.out.2]; decide))
                      · exact ⟨Q, s, by simpa using h⟩
                    obtain ⟨O', hO'⟩ : ∃ O', hzL X Y CC Y.length ++ vtL X Y CC j ++ sgOfV y Q = O' := ⟨_, rfl⟩
                    obtain ⟨t, ht⟩ : ∃ t : Sg, ⟨y, s.1, y, s.2⟩ = t := ⟨_, rfl⟩
                    obtain ⟨u, hu⟩ : ∃ u : Sg, ⟨y, s.1, y, x'⟩ = u := ⟨_, rfl⟩
                    have hOy : O = O' ++ [t] := by rw [HEL.out.1, hQs, ← hO', ← ht]; simp [sgOfV]
                    have HR := hide (show O' ++ [u] = hzL X Y CC Y.length ++ vtL X Y CC j ++ sgOfV y (spS Y sd (k + 1)).1 ∧ (1 : Int) = (spS Y sd (k + 1)).2 by
                      have e : spS Y sd (k + 1) = (Q ++ [(s.1, x')], 1) := by
                        show (spU _ _ (sd k) _ (Y[k + 1]?.getD 0), sd k) = _
                        rw [hz, ← HEL.out.2, hQs, hx']
                        unfold spU
                        rw [if_neg (by decide), if_pos rfl]
                        simp
                      rw [e, ← hO', ← hu]
                      exact ⟨by simp [sgOfV], rfl⟩)
                    obtain ⟨n, hn⟩ : ∃ n, O.length = n := ⟨_, rfl⟩
                    have hn1 : n = O'.length + 1 := by rw [← hn, hOy]; simp
                    have hm : O'.length < n := by omega
                    have HN := hide hn
                    have s3 : IntKind.i64.wrap ((n : Int) - 1) = (O'.length : Int) := by rw [IntWalk.i64_in _ (by omega)]; omega
                    have hm0 : (0 : Int) ≤ (O'.length : Int) := by omega
                    have hm1 : (O'.length : Int) < (n : Int) := by omega
                    have hO1 := HO.out
                    rw [hOy] at hO1
                    obtain ⟨G, hG, hA1⟩ : ∃ G, w4.heap.size ≤ G ∧ A2 = some ⟨G, 0, none⟩ := by
                      rcases hO1.2 with ⟨_, q⟩ | ⟨G, cap, cur, q, hG, _⟩
                      · simp at q
                      · cases q
                        exact ⟨G, hG, rfl⟩
                    subst hA1
                    have hlen : ((O' ++ [t]).flatMap sgL)[O'.length * 4 + 3]? = some (iv t.d) := by
                      have := fm_at (c := sgL) (k := 4) (fun _ => rfl) (O' ++ [t]) O'.length t 3 (by simp) (by omega)
                      rw [this]
                      rfl
                    have HOW := hide (show ∀ w', Gr wr w' → w'.cell? ⟨G, O'.length * 4 + 3, none⟩ = some (iv t.d) ∧ w'.frozen? ⟨G, O'.length * 4 + 3, none⟩ = false by
                      intro w' g'
                      have h := OwnL.gr hO1 g'
                      refine ⟨?_, World.ownsRow.frozenAt (h := h) _⟩
                      rw [World.ownsRow.cellAt (h := h) _ (by simp; omega)]
                      exact hlen)
                    have HST := hide (show ∀ w', Gr wr w' → OwnL (w'.setCell ⟨G, O'.length * 4 + 3, none⟩ (iv x')) w4.heap.size 63 4 sgL (.slice (some ⟨G, 0, none⟩) (O' ++ [u]).length d2) (O' ++ [u]) by
                      intro w' g'
                      have h := (World.ownsRow.stored (OwnL.gr hO1 g') (O'.length * 4 + 3) (iv x')).1
                      rw [set_sgd] at h
                      unfold OwnL
                      rw [← hu]
                      rw [← ht] at h
                      simpa using h)
                    have hnl : (O' ++ [u]).length = n := by rw [hn1]; simp
                    have HNL := hide hnl
                    have HXf := hide (fun (w' : World) (g' : Gr w4 w') => (HG4.out.gr g').sy.rd.in_ hx')
                    rw [hn]
                    clear HZ HEL HLT hO1 hlen hOy HO hn hnl hn1 hQs hO' ht hu hz hx'
                    go_upto_region 36 with (first | (go_at_call 29; refine (HAT.out _ _ _ _ (by repeat (first | with_reducible exact Gr.refl _ | with_reducible assumption | with_reducible refine Gr.alloc ?_ _ | with_reducible refine Gr.drewN ?_ _ | with_reducible refine Gr.drew ?_ | with_reducible refine Gr.setCell ?_ (by first | (dsimp only; omega) | (simp only [World.size_alloc]; omega) | (with_reducible refine Gr.size ?_; (repeat (first | with_reducible exact Gr.refl _ | with_reducible assumption | with_reducible refine Gr.alloc ?_ _ | with_reducible refine Gr.drewN ?_ _ | with_reducible refine Gr.drew ?_ | with_reducible refine Gr.trans ?_ (by with_reducible assumption))); done)) _ | with_reducible refine Gr.trans ?_ (by with_reducible assumption))) (by omega) (by omega) (by assumption)).mono ?_; rintro e w1 ⟨rfl, g1⟩; obtain ⟨X1, Y1, c1, f1⟩ := g1.use))
                    have gz : Gr wr w1 := (by repeat (first | with_reducible exact Gr.refl _ | with_reducible assumption | with_reducible refine Gr.alloc ?_ _ | with_reducible refine Gr.drewN ?_ _ | with_reducible refine Gr.drew ?_ | with_reducible refine Gr.setCell ?_ (by first | (dsimp only; omega) | (simp only [World.size_alloc]; omega) | (with_reducible refine Gr.size ?_; (repeat (first | with_reducible exact Gr.refl _ | with_reducible assumption | with_reducible refine Gr.alloc ?_ _ | with_reducible refine Gr.drewN ?_ _ | with_reducible refine Gr.drew ?_ | with_reducible refine Gr.trans ?_ (by with_reducible assumption))); done)) _ | with_reducible refine Gr.trans ?_ (by with_reducible assumption)))
                    obtain ⟨bX', oX', hA', cx'⟩ := HXf.out w1 (g.trans gz)
                    obtain ⟨y0, y1⟩ := HOW.out w1 gz
                    obtain ⟨r0, r1, r2, -, -, -⟩ := made3 (HMS.out.gr (g.trans gz))
                    rw [hA'] at r1
                    have HST2 := hide (HST.out w1 gz)
                    have HGZ := hide (g.trans gz)
                    clear HOW HST HXf hA' p0 p1 p2 c1 f1
                    go_wp2
                    go_roundw
                    case rel => exact ⟨k + 1, O' ++ [u], 1, some ⟨G, 0, none⟩, d2, by omega, by go_num, rfl, by rw [HNL.out], HGZ.out.setCell (p := ⟨G, O'.length * 4 + 3, none⟩) hG _, HST2.out, HR, by have := HNL.out; have := HN.out; omega⟩
                    case measure => simp only [intOf]; omega
                  · have hzl1 : ((1 : Int) == L) = false := by simpa using hzl
                    have hzl2 : ((1 : Int) != L) = true := by simpa using hzl
                    obtain ⟨u, hu⟩ : ∃ u : Sg, ⟨y, x, y, x'⟩ = u := ⟨_, rfl⟩
                    obtain ⟨O2, hO2⟩ : ∃ O2, O ++ [u] = O2 := ⟨_, rfl⟩
                    have HO2 := hide hO2
                    have HU := hide hu
                    have HR := hide (show O2 = hzL X Y CC Y.length ++ vtL X Y CC j ++ sgOfV y (spS Y sd (k + 1)).1 ∧ (1 : Int) = (spS Y sd (k + 1)).2 by
                      have e : spS Y sd (k + 1) = ((spS Y sd k).1 ++ [(x, x')], 1) := by
                        show (spU _ _ (sd k) (Y[k]?.getD 0) (Y[k + 1]?.getD 0), sd k) = _
                        rw [hz, ← HEL.out.2, HXX.out, hx']
                        unfold spU
                        rw [if_neg (by decide), if_neg hzl]
                        rfl
                      rw [e, ← hO2, ← hu, HEL.out.1]
                      exact ⟨by simp [sgOfV], rfl⟩)
                    have hO2l : O2.length ≤ 96 * 1000 + j * 1000 + (k + 1) := by rw [← hO2]; simp; omega
                    have HXf := hide (fun (w' : World) (g' : Gr w4 w') => (HG4.out.gr g').sy.rd.in_ HXX.out)
                    have HXf' := hide (fun (w' : World) (g' : Gr w4 w') => (HG4.out.gr g').sy.rd.in_ HXX'.out)
                    have HYf := hide (fun (w' : World) (g' : Gr w4 w') => (HG4.out.gr g').sx.rd.in_ HYY.out)
                    have hu1 : u = ⟨y, x, y, x'⟩ := hu.symm
                    subst hu1
                    clear HZ HEL HLT hO2 hu hzl hz hx'
                    go_upto_region 38 with (first | (go_at_call 29; refine (HAT.out _ _ _ _ (by repeat (first | with_reducible exact Gr.refl _ | with_reducible assumption | with_reducible refine Gr.alloc ?_ _ | with_reducible refine Gr.drewN ?_ _ | with_reducible refine Gr.drew ?_ | with_reducible refine Gr.setCell ?_ (by first | (dsimp only; omega) | (simp only [World.size_alloc]; omega) | (with_reducible refine Gr.size ?_; (repeat (first | with_reducible exact Gr.refl _ | with_reducible assumption | with_reducible refine Gr.alloc ?_ _ | with_reducible refine Gr.drewN ?_ _ | with_reducible refine Gr.drew ?_ | with_reducible refine Gr.trans ?_ (by with_reducible assumption))); done)) _ | with_reducible refine Gr.trans ?_ (by with_reducible assumption))) (by omega) (by omega) (by assumption)).mono ?_; rintro e w1 ⟨rfl, g1⟩; obtain ⟨X1, Y1, c1, f1⟩ := g1.use))
                    have gz : Gr wr w1 := (by repeat (first | with_reducible exact Gr.refl _ | with_reducible assumption | with_reducible refine Gr.alloc ?_ _ | with_reducible refine Gr.drewN ?_ _ | with_reducible refine Gr.drew ?_ | with_reducible refine Gr.setCell ?_ (by first | (dsimp only; omega) | (simp only [World.size_alloc]; omega) | (with_reducible refine Gr.size ?_; (repeat (first | with_reducible exact Gr.refl _ | with_reducible assumption | with_reducible refine Gr.alloc ?_ _ | with_reducible refine Gr.drewN ?_ _ | with_reducible refine Gr.drew ?_ | with_reducible refine Gr.trans ?_ (by with_reducible assumption))); done)) _ | with_reducible refine Gr.trans ?_ (by with_reducible assumption)))
                    obtain ⟨bX, oX, hA1, cx⟩ := HXf.out w1 (g.trans gz)
                    obtain ⟨bX', oX', hA2, cx'⟩ := HXf'.out w1 (g.trans gz)
                    obtain ⟨bY, oY, hB1, cy⟩ := HYf.out w1 (g.trans gz)
                    rw [hA1] at hA2
                    cases hA2
                    obtain ⟨r0, r1, r2, -, -, -⟩ := made3 (HMS.out.gr (g.trans gz))
                    rw [hA1] at r1
                    rw [hB1] at r0
                    have w7 : IntKind.i64.wrap ((k : Int) + 1) = (k : Int) + 1 := IntWalk.i64_in _ (by omega)
                    have w8' : ((k : Int) + 1).toNat = k + 1 := by omega
                    have w9 : (0 : Int) ≤ (k : Int) + 1 := by omega
                    have HO3 := hide (HO.out.gr gz)
                    have g02 := g.trans gz
                    have sz2 := g02.size
                    clear HXf HXf' HYf HO hA1 hB1 ha hb s1 p0 p1 p2 c1 f1
                    refine wp_region_build1 _ 23 (by kernel_rfl) (by kernel_rfl) (Gr.refl _) (d1 := some 200) rfl ?_
                    intro s gs
                    obtain ⟨Xs, Ys, cs, fs⟩ := gs.use
                    have GC := @GrW.cell
                    simp only [List.take_succ_cons, List.take_zero]
                    repeat (go_big_quiet_step ((first | fail)))
                    refine wpQuiet_nil ?_
                    clear GC cs fs gs
                    refine ⟨fun BB => .slice (some ⟨BB, 0, none⟩) 1 1, #[iv y, iv x, iv y, iv x'], 63, ⟨rfl, rfl, fun w => by go_simp⟩, ?_⟩
                    intro B1 wq gq1 l1 ⟨b1, c1, f1⟩
                    obtain ⟨Xq, Yq, cq, fq⟩ := gq1.use
                    have sq := gq1.size
                    (try simp only [World.size_alloc, World.size_setCell, World.heap_drewN] at sq l1)
                    simp only [List.drop_succ_cons, List.drop_zero]
                    refine wpList_app1 rfl _ _ _ rfl sgL w4.heap.size 63 4 32 elSg (by decide) O ⟨y, x, y, x'⟩ O2 HO2.out (.slice A2 O.length d2) rfl (HO3.out.gr (show Gr w1 wq from (by repeat (first | with_reducible exact Gr.refl _ | with_reducible assumption | with_reducible refine Gr.alloc ?_ _ | with_reducible refine Gr.drewN ?_ _ | with_reducible refine Gr.drew ?_ | with_reducible refine Gr.setCell ?_ (by first | (dsimp only; omega) | (simp only [World.size_alloc]; omega) | (with_reducible refine Gr.size ?_; (repeat (first | with_reducible exact Gr.refl _ | with_reducible assumption | with_reducible refine Gr.alloc ?_ _ | with_reducible refine Gr.drewN ?_ _ | with_reducible refine Gr.drew ?_ | with_reducible refine Gr.trans ?_ (by with_reducible assumption))); done)) _ | with_reducible refine Gr.trans ?_ (by with_reducible assumption))))) ⟨B1, 0, none⟩ 1 rfl rfl (by intro j u hu; rw [addr_add, Nat.zero_add, c1]; simpa using hu) (one_sg _) (by omega) (by decide) (by have := Gr.size (show Gr w1 wq from (by repeat (first | with_reducible exact Gr.refl _ | with_reducible assumption | with_reducible refine Gr.alloc ?_ _ | with_reducible refine Gr.drewN ?_ _ | with_reducible refine Gr.drew ?_ | with_reducible refine Gr.setCell ?_ (by first | (dsimp only; omega) | (simp only [World.size_alloc]; omega) | (with_reducible refine Gr.size ?_; (repeat (first | with_reducible exact Gr.refl _ | with_reducible assumption | with_reducible refine Gr.alloc ?_ _ | with_reducible refine Gr.drewN ?_ _ | with_reducible refine Gr.drew ?_ | with_reducible refine Gr.trans ?_ (by with_reducible assumption))); done)) _ | with_reducible refine Gr.trans ?_ (by with_reducible assumption)))); omega) ?_
                    intro gg cap1 w8 hO8 hG8 _ _ _
                    have g8 : Gr w4 w8 := hG8 _ (g02.trans (show Gr w1 wq from (by repeat (first | with_reducible exact Gr.refl _ | with_reducible assumption | with_reducible refine Gr.alloc ?_ _ | with_reducible refine Gr.drewN ?_ _ | with_reducible refine Gr.drew ?_ | with_reducible refine Gr.setCell ?_ (by first | (dsimp only; omega) | (simp only [World.size_alloc]; omega) | (with_reducible refine Gr.size ?_; (repeat (first | with_reducible exact Gr.refl _ | with_reducible assumption | with_reducible refine Gr.alloc ?_ _ | with_reducible refine Gr.drewN ?_ _ | with_reducible refine Gr.drew ?_ | with_reducible refine Gr.trans ?_ (by with_reducible assumption))); done)) _ | with_reducible refine Gr.trans ?_ (by with_reducible assumption))))) (Nat.le_refl _)
                    have HO8 := hide hO8
                    clear hO8 hG8 c1 f1 cq fq w7 w8' w9
                    go_wp2
                    go_roundw
                    case rel => exact ⟨k + 1, O2, 1, some ⟨gg, 0, none⟩, cap1, by omega, by go_num, rfl, rfl, g8, HO8, HR, hO2l⟩
                    case measure => simp only [intOf]; omega
                · have hz : sd k = (-1) := by rw [HZ.out]; rfl
                  have hk2 := HLT.out (by rw [hz]; decide)
                  obtain ⟨x', hx'⟩ : ∃ x, Y[k + 1]? = some x := ⟨_, List.getElem?_eq_getElem hk2⟩
                  have HXX' := hide hx'
                  have hk3 : (k : Int) + 1 < (Y.length : Int) := by omega
                  have hkN : k ≤ Y.length - 1 := by omega
                  by_cases hzl : ((-1) : Int) = L
                  · subst hzl
                    obtain ⟨Q, s, hQs⟩ : ∃ Q s, (spS Y sd k).1 = Q ++ [s] := by
                      rcases List.eq_nil_or_concat (spS Y sd k).1 with h | ⟨Q, s, h⟩
                      · exact absurd h (spS_ne Y sd k (by rw [← HEL.out.2]; decide))
                      · exact ⟨Q, s, by simpa using h⟩
                    obtain ⟨O', hO'⟩ : ∃ O', hzL X Y CC Y.length ++ vtL X Y CC j ++ sgOfV y Q = O' := ⟨_, rfl⟩
                    obtain ⟨t, ht⟩ : ∃ t : Sg, ⟨y, s.1, y, s.2⟩ = t := ⟨_, rfl⟩
                    obtain ⟨u, hu⟩ : ∃ u : Sg, ⟨y, s.1, y, x'⟩ = u := ⟨_, rfl⟩
                    have hOy : O = O' ++ [t] := by rw [HEL.out.1, hQs, ← hO', ← ht]; simp [sgOfV]
                    have HR := hide (show O' ++ [u] = hzL X Y CC Y.length ++ vtL X Y CC j ++ sgOfV y (spS Y sd (k + 1)).1 ∧ ((-1) : Int) = (spS Y sd (k + 1)).2 by
                      have e : spS Y sd (k + 1) = (Q ++ [(s.1, x')], (-1)) := by
                        show (spU _ _ (sd k) _ (Y[k + 1]?.getD 0), sd k) = _
                        rw [hz, ← HEL.out.2, hQs, hx']
                        unfold spU
                        rw [if_neg (by decide), if_pos rfl]
                        simp
                      rw [e, ← hO', ← hu]
                      exact ⟨by simp [sgOfV], rfl⟩)
                    obtain ⟨n, hn⟩ : ∃ n, O.length = n := ⟨_, rfl⟩
                    have hn1 : n = O'.length + 1 := by rw [← hn, hOy]; simp
                    have hm : O'.length < n := by omega
                    have HN := hide hn
                    have s3 : IntKind.i64.wrap ((n : Int) - 1) = (O'.length : Int) := by rw [IntWalk.i64_in _ (by omega)]; omega
                    have hm0 : (0 : Int) ≤ (O'.length : Int) := by omega
                    have hm1 : (O'.length : Int) < (n : Int) := by omega
                    have hO1 := HO.out
                    rw [hOy] at hO1
                    obtain ⟨G, hG, hA1⟩ : ∃ G, w4.heap.size ≤ G ∧ A2 = some ⟨G, 0, none⟩ := by
                      rcases hO1.2 with ⟨_, q⟩ | ⟨G, cap, cur, q, hG, _⟩
                      · simp at q
                      · cases q
                        exact ⟨G, hG, rfl⟩
                    subst hA1
                    have hlen : ((O' ++ [t]).flatMap sgL)[O'.length * 4 + 3]? = some (iv t.d) := by
                      have := fm_at (c := sgL) (k := 4) (fun _ => rfl) (O' ++ [t]) O'.length t 3 (by simp) (by omega)
                      rw [this]
                      rfl
                    have HOW := hide (show ∀ w', Gr wr w' → w'.cell? ⟨G, O'.length * 4 + 3, none⟩ = some (iv t.d) ∧ w'.frozen? ⟨G, O'.length * 4 + 3, none⟩ = false by
                      intro w' g'
                      have h := OwnL.gr hO1 g'
                      refine ⟨?_, World.ownsRow.frozenAt (h := h) _⟩
                      rw [World.ownsRow.cellAt (h := h) _ (by simp; omega)]
                      exact hlen)
                    have HST := hide (show ∀ w', Gr wr w' → OwnL (w'.setCell ⟨G, O'.length * 4 + 3, none⟩ (iv x')) w4.heap.size 63 4 sgL (.slice (some ⟨G, 0, none⟩) (O' ++ [u]).length d2) (O' ++ [u]) by
                      intro w' g'
                      have h := (World.ownsRow.stored (OwnL.gr hO1 g') (O'.length * 4 + 3) (iv x')).1
                      rw [set_sgd] at h
                      unfold OwnL
                      rw [← hu]
                      rw [← ht] at h
                      simpa using h)
                    have hnl : (O' ++ [u]).length = n := by rw [hn1]; simp
                    have HNL := hide hnl
                    have HXf := hide (fun (w' : World) (g' : Gr w4 w') => (HG4.out.gr g').sy.rd.in_ hx')
                    rw [hn]
                    clear HZ HEL HLT hO1 hlen hOy HO hn hnl hn1 hQs hO' ht hu hz hx'
                    go_upto_region 36 with (first | (go_at_call 29; refine (HAT.out _ _ _ _ (by repeat (first | with_reducible exact Gr.refl _ | with_reducible assumption | with_reducible refine Gr.alloc ?_ _ | with_reducible refine Gr.drewN ?_ _ | with_reducible refine Gr.drew ?_ | with_reducible refine Gr.setCell ?_ (by first | (dsimp only; omega) | (simp only [World.size_alloc]; omega) | (with_reducible refine Gr.size ?_; (repeat (first | with_reducible exact Gr.refl _ | with_reducible assumption | with_reducible refine Gr.alloc ?_ _ | with_reducible refine Gr.drewN ?_ _ | with_reducible refine Gr.drew ?_ | with_reducible refine Gr.trans ?_ (by with_reducible assumption))); done)) _ | with_reducible refine Gr.trans ?_ (by with_reducible assumption))) (by omega) (by omega) (by assumption)).mono ?_; rintro e w1 ⟨rfl, g1⟩; obtain ⟨X1, Y1, c1, f1⟩ := g1.use))
                    have gz : Gr wr w1 := (by repeat (first | with_reducible exact Gr.refl _ | with_reducible assumption | with_reducible refine Gr.alloc ?_ _ | with_reducible refine Gr.drewN ?_ _ | with_reducible refine Gr.drew ?_ | with_reducible refine Gr.setCell ?_ (by first | (dsimp only; omega) | (simp only [World.size_alloc]; omega) | (with_reducible refine Gr.size ?_; (repeat (first | with_reducible exact Gr.refl _ | with_reducible assumption | with_reducible refine Gr.alloc ?_ _ | with_reducible refine Gr.drewN ?_ _ | with_reducible refine Gr.drew ?_ | with_reducible refine Gr.trans ?_ (by with_reducible assumption))); done)) _ | with_reducible refine Gr.trans ?_ (by with_reducible assumption)))
                    obtain ⟨bX', oX', hA', cx'⟩ := HXf.out w1 (g.trans gz)
                    obtain ⟨y0, y1⟩ := HOW.out w1 gz
                    obtain ⟨r0, r1, r2, -, -, -⟩ := made3 (HMS.out.gr (g.trans gz))
                    rw [hA'] at r1
                    have HST2 := hide (HST.out w1 gz)
                    have HGZ := hide (g.trans gz)
                    clear HOW HST HXf hA' p0 p1 p2 c1 f1
                    go_wp2
                    go_roundw
                    case rel => exact ⟨k + 1, O' ++ [u], (-1), some ⟨G, 0, none⟩, d2, by omega, by go_num, rfl, by rw [HNL.out], HGZ.out.setCell (p := ⟨G, O'.length * 4 + 3, none⟩) hG _, HST2.out, HR, by have := HNL.out; have := HN.out; omega⟩
                    case measure => simp only [intOf]; omega
                  · have hzl1 : (((-1) : Int) == L) = false := by simpa using hzl
                    have hzl2 : (((-1) : Int) != L) = true := by simpa using hzl
                    obtain ⟨u, hu⟩ : ∃ u : Sg, ⟨y, x, y, x'⟩ = u := ⟨_, rfl⟩
                    obtain ⟨O2, hO2⟩ : ∃ O2, O ++ [u] = O2 := ⟨_, rfl⟩
                    have HO2 := hide hO2
                    have HU := hide hu
                    have HR := hide (show O2 = hzL X Y CC Y.length ++ vtL X Y CC j ++ sgOfV y (spS Y sd (k + 1)).1 ∧ ((-1) : Int) = (spS Y sd (k + 1)).2 by
                      have e : spS Y sd (k + 1) = ((spS Y sd k).1 ++ [(x, x')], (-1)) := by
                        show (spU _ _ (sd k) (Y[k]?.getD 0) (Y[k + 1]?.getD 0), sd k) = _
                        rw [hz, ← HEL.out.2, HXX.out, hx']
                        unfold spU
                        rw [if_neg (by decide), if_neg hzl]
                        rfl
                      rw [e, ← hO2, ← hu, HEL.out.1]
                      exact ⟨by simp [sgOfV], rfl⟩)
                    have hO2l : O2.length ≤ 96 * 1000 + j * 1000 + (k + 1) := by rw [← hO2]; simp; omega
                    have HXf := hide (fun (w' : World) (g' : Gr w4 w') => (HG4.out.gr g').sy.rd.in_ HXX.out)
                    have HXf' := hide (fun (w' : World) (g' : Gr w4 w') => (HG4.out.gr g').sy.rd.in_ HXX'.out)
                    have HYf := hide (fun (w' : World) (g' : Gr w4 w') => (HG4.out.gr g').sx.rd.in_ HYY.out)
                    have hu1 : u = ⟨y, x, y, x'⟩ := hu.symm
                    subst hu1
                    clear HZ HEL HLT hO2 hu hzl hz hx'
                    go_upto_region 38 with (first | (go_at_call 29; refine (HAT.out _ _ _ _ (by repeat (first | with_reducible exact Gr.refl _ | with_reducible assumption | with_reducible refine Gr.alloc ?_ _ | with_reducible refine Gr.drewN ?_ _ | with_reducible refine Gr.drew ?_ | with_reducible refine Gr.setCell ?_ (by first | (dsimp only; omega) | (simp only [World.size_alloc]; omega) | (with_reducible refine Gr.size ?_; (repeat (first | with_reducible exact Gr.refl _ | with_reducible assumption | with_reducible refine Gr.alloc ?_ _ | with_reducible refine Gr.drewN ?_ _ | with_reducible refine Gr.drew ?_ | with_reducible refine Gr.trans ?_ (by with_reducible assumption))); done)) _ | with_reducible refine Gr.trans ?_ (by with_reducible assumption))) (by omega) (by omega) (by assumption)).mono ?_; rintro e w1 ⟨rfl, g1⟩; obtain ⟨X1, Y1, c1, f1⟩ := g1.use))
                    have gz : Gr wr w1 := (by repeat (first | with_reducible exact Gr.refl _ | with_reducible assumption | with_reducible refine Gr.alloc ?_ _ | with_reducible refine Gr.drewN ?_ _ | with_reducible refine Gr.drew ?_ | with_reducible refine Gr.setCell ?_ (by first | (dsimp only; omega) | (simp only [World.size_alloc]; omega) | (with_reducible refine Gr.size ?_; (repeat (first | with_reducible exact Gr.refl _ | with_reducible assumption | with_reducible refine Gr.alloc ?_ _ | with_reducible refine Gr.drewN ?_ _ | with_reducible refine Gr.drew ?_ | with_reducible refine Gr.trans ?_ (by with_reducible assumption))); done)) _ | with_reducible refine Gr.trans ?_ (by with_reducible assumption)))
                    obtain ⟨bX, oX, hA1, cx⟩ := HXf.out w1 (g.trans gz)
                    obtain ⟨bX', oX', hA2, cx'⟩ := HXf'.out w1 (g.trans gz)
                    obtain ⟨bY, oY, hB1, cy⟩ := HYf.out w1 (g.trans gz)
                    rw [hA1] at hA2
                    cases hA2
                    obtain ⟨r0, r1, r2, -, -, -⟩ := made3 (HMS.out.gr (g.trans gz))
                    rw [hA1] at r1
                    rw [hB1] at r0
                    have w7 : IntKind.i64.wrap ((k : Int) + 1) = (k : Int) + 1 := IntWalk.i64_in _ (by omega)
                    have w8' : ((k : Int) + 1).toNat = k + 1 := by omega
                    have w9 : (0 : Int) ≤ (k : Int) + 1 := by omega
                    have HO3 := hide (HO.out.gr gz)
                    have g02 := g.trans gz
                    have sz2 := g02.size
                    clear HXf HXf' HYf HO hA1 hB1 ha hb s1 p0 p1 p2 c1 f1
                    refine wp_region_build1 _ 23 (by kernel_rfl) (by kernel_rfl) (Gr.refl _) (d1 := some 200) rfl ?_
                    intro s gs
                    obtain ⟨Xs, Ys, cs, fs⟩ := gs.use
                    have GC := @GrW.cell
                    simp only [List.take_succ_cons, List.take_zero]
                    repeat (go_big_quiet_step ((first | fail)))
                    refine wpQuiet_nil ?_
                    clear GC cs fs gs
                    refine ⟨fun BB => .slice (some ⟨BB, 0, none⟩) 1 1, #[iv y, iv x, iv y, iv x'], 63, ⟨rfl, rfl, fun w => by go_simp⟩, ?_⟩
                    intro B1 wq gq1 l1 ⟨b1, c1, f1⟩
                    obtain ⟨Xq, Yq, cq, fq⟩ := gq1.use
                    have sq := gq1.size
                    (try simp only [World.size_alloc, World.size_setCell, World.heap_drewN] at sq l1)
                    simp only [List.drop_succ_cons, List.drop_zero]
                    refine wpList_app1 rfl _ _ _ rfl sgL w4.heap.size 63 4 32 elSg (by decide) O ⟨y, x, y, x'⟩ O2 HO2.out (.slice A2 O.length d2) rfl (HO3.out.gr (show Gr w1 wq from (by repeat (first | with_reducible exact Gr.refl _ | with_reducible assumption | with_reducible refine Gr.alloc ?_ _ | with_reducible refine Gr.drewN ?_ _ | with_reducible refine Gr.drew ?_ | with_reducible refine Gr.setCell ?_ (by first | (dsimp only; omega) | (simp only [World.size_alloc]; omega) | (with_reducible refine Gr.size ?_; (repeat (first | with_reducible exact Gr.refl _ | with_reducible assumption | with_reducible refine Gr.alloc ?_ _ | with_reducible refine Gr.drewN ?_ _ | with_reducible refine Gr.drew ?_ | with_reducible refine Gr.trans ?_ (by with_reducible assumption))); done)) _ | with_reducible refine Gr.trans ?_ (by with_reducible assumption))))) ⟨B1, 0, none⟩ 1 rfl rfl (by intro j u hu; rw [addr_add, Nat.zero_add, c1]; simpa using hu) (one_sg _) (by omega) (by decide) (by have := Gr.size (show Gr w1 wq from (by repeat (first | with_reducible exact Gr.refl _ | with_reducible assumption | with_reducible refine Gr.alloc ?_ _ | with_reducible refine Gr.drewN ?_ _ | with_reducible refine Gr.drew ?_ | with_reducible refine Gr.setCell ?_ (by first | (dsimp only; omega) | (simp only [World.size_alloc]; omega) | (with_reducible refine Gr.size ?_; (repeat (first | with_reducible exact Gr.refl _ | with_reducible assumption | with_reducible refine Gr.alloc ?_ _ | with_reducible refine Gr.drewN ?_ _ | with_reducible refine Gr.drew ?_ | with_reducible refine Gr.trans ?_ (by with_reducible assumption))); done)) _ | with_reducible refine Gr.trans ?_ (by with_reducible assumption)))); omega) ?_
                    intro gg cap1 w8 hO8 hG8 _ _ _
                    have g8 : Gr w4 w8 := hG8 _ (g02.trans (show Gr w1 wq from (by repeat (first | with_reducible exact Gr.refl _ | with_reducible assumption | with_reducible refine Gr.alloc ?_ _ | with_reducible refine Gr.drewN ?_ _ | with_reducible refine Gr.drew ?_ | with_reducible refine Gr.setCell ?_ (by first | (dsimp only; omega) | (simp only [World.size_alloc]; omega) | (with_reducible refine Gr.size ?_; (repeat (first | with_reducible exact Gr.refl _ | with_reducible assumption | with_reducible refine Gr.alloc ?_ _ | with_reducible refine Gr.drewN ?_ _ | with_reducible refine Gr.drew ?_ | with_reducible refine Gr.trans ?_ (by with_reducible assumption))); done)) _ | with_reducible refine Gr.trans ?_ (by with_reducible assumption))))) (Nat.le_refl _)
                    have HO8 := hide hO8
                    clear hO8 hG8 c1 f1 cq fq w7 w8' w9
                    go_wp2
                    go_roundw
                    case rel => exact ⟨k + 1, O2, (-1), some ⟨gg, 0, none⟩, cap1, by omega, by go_num, rfl, rfl, g8, HO8, HR, hO2l⟩
                    case measure => simp only [intOf]; omega
              · obtain rfl : k = Y.length := by omega
                have HR := hide (show O = hzL X Y CC Y.length ++ vtL X Y CC (j + 1) by rw [HEL.out.1, HSE.out]; rw [List.append_assoc]; congr 1; exact vtL_snoc X Y CC j HYY.out)
                go_wp2
                go_roundw
                case rel => exact ⟨j + 1, O, A2, d2, by omega, by go_num, rfl, g, HO, HR, by omega⟩
                case measure => simp only [intOf]; omega
          · obtain rfl : j = X.length := by omega
            go_wp2
            go_ret2
            exact ⟨A2, d2, by rw [HE.out, ← HEO.out]; rfl, by rw [HE.out, ← HEO.out]; exact HO.out.weak g04.size, g04.trans g⟩
  · have HE := hide (show outV l = [] from if_neg h0)
    have h0' : (ceL l == 0) = false := by simpa using h0
    have h0'' : (ceL l != 0) = true := by simpa using h0
    clear hl h0
    generalize ceL l = E at *
    go_enter Tryd.func13, Tryd.ntmps13
    go_wp2_with fail
    refine HCR.out.mono ?_
    rintro e w2 ⟨rfl, g2⟩
    go_wp2_with fail
    go_ret2
    exact ⟨none, 0, by rw [HE.out]; rfl, by rw [HE.out]; exact own_nil _ _ _ _ _, g2⟩
end RG
end Go.Proofs.YtfbhpeedjphpaaaDoor
