/-
  Flat patterns: the heights of faces, on both sides; the law.
  Flat patterns: the heights of the reference; the law of heights.
-/
import Derived.Test.YtdabhnefoigebaaGreatMUb
import Derived.Test.YtdabhnefoigebaaGreatMTb
set_option linter.unusedVariables false
set_option linter.unusedSimpArgs false
namespace Go.Proofs.YtdabhnefoigebaaGreat
set_option linter.unusedVariables false
set_option linter.unusedSimpArgs false
open Go Go.ChangeShapes Go.WideShapes Go.ChangeAt Go.RowKit Go.Deep

/-- the flat heights; none where there is an error -/
noncomputable def hgL (p : Pa) (t : Tb) : List Int := if plE p t = 0 then (plsA p t).map (fun q => abv q q.h) else []
theorem hgL_ok {p : Pa} {t : Tb} (h : plE p t = 0) : hgL p t = (plsA p t).map (fun q => abv q q.h) := by
  unfold hgL
  rw [if_pos h]
theorem hgL_no {p : Pa} {t : Tb} (h : ¬ plE p t = 0) : hgL p t = [] := by
  unfold hgL
  rw [if_neg h]
theorem plsA_len (p : Pa) (t : Tb) : (plsA p t).length = p.fl.length + 1 := pls_len (Nat.le_refl _)
theorem hg_take {L : List Pl} {k : Nat} {q : Pl} (h : L[k]? = some q) : (L.take (k + 1)).map (fun q => abv q q.h) = (L.take k).map (fun q => abv q q.h) ++ [abv q q.h] := by
  obtain ⟨h1, rfl⟩ := List.getElem?_eq_some_iff.1 h
  rw [List.take_succ_eq_append_getElem h1, List.map_append]
  rfl
set_option maxRecDepth 100000 in
set_option maxHeartbeats 4000000 in
theorem Heights_any (p : Pa) (t : Tb) (A B C : Option Addr) (c d q : Nat) (w : World) (hP : PaW w p A c B d) (hE : SlE w C q t.en) (hs : t.mt.size ≤ 1000) :
    Calls Tryz.prog 13 #[pav p A c B d, tbv t C q] w fun e w' => ∃ A1 d1, e = .returned (sle (.slice A1 (hgL p t).length d1) (plE p t)) ∧ OwnL w' w.heap.size 3 1 inL (.slice A1 (hgL p t).length d1) (hgL p t) ∧ Gr w w' := by
  have HD := hide (fun (w' : World) (g : Gr w w') => places_any p t A B C c d q w' (hP.gr g) (hE.gr g) hs)
  by_cases h0 : plE p t = 0
  · have HZ := hide h0
    have HH := hide (hgL_ok h0)
    obtain ⟨h1, -⟩ := plE_zero h0
    have h5 := (good_of (dlE_zero h1).1).nfl
    have HPB := hide (fun q hq => pls_b (flsB_of h1) (Nat.le_refl _) q hq)
    have HLN := hide (plsA_len p t)
    have HLL := hide (show pls p.wd p.ht p.fl (dT t) p.fl.length = plsA p t from rfl)
    rw [HLL.out] at HPB
    rw [h0] at HD
    clear hP hE h0 h1 HLL
    generalize hLe : plsA p t = L at *
    clear hLe
    go_enter Tryz.func13, Tryz.ntmps13
    go_upto_region 2 with fail
    refine (HD.out _ (by repeat (first | with_reducible exact Gr.refl _ | with_reducible assumption | with_reducible refine Gr.alloc ?_ _ | with_reducible refine Gr.drewN ?_ _ | with_reducible refine Gr.drew ?_ | with_reducible refine Gr.setCell ?_ (by first | (dsimp only; omega) | (simp only [World.size_alloc]; omega) | (with_reducible refine Gr.size ?_; (repeat (first | with_reducible exact Gr.refl _ | with_reducible assumption | with_reducible refine Gr.alloc ?_ _ | with_reducible refine Gr.drewN ?_ _ | with_reducible refine Gr.drew ?_ | with_reducible refine Gr.trans ?_ (by with_reducible assumption))); done)) _ | with_reducible refine Gr.trans ?_ (by with_reducible assumption)))).mono ?_
    rintro e w1 ⟨v1, rfl, hO1, g1⟩
    have hO1 := hO1 (by trivial)
    obtain ⟨A1, d1, rfl⟩ := hO1.slice
    have z1 := g1.size
    simp only [World.size_alloc] at z1
    have gw1 : Gr w w1 := (by repeat (first | with_reducible exact Gr.refl _ | with_reducible assumption | with_reducible refine Gr.alloc ?_ _ | with_reducible refine Gr.drewN ?_ _ | with_reducible refine Gr.drew ?_ | with_reducible refine Gr.setCell ?_ (by first | (dsimp only; omega) | (simp only [World.size_alloc]; omega) | (with_reducible refine Gr.size ?_; (repeat (first | with_reducible exact Gr.refl _ | with_reducible assumption | with_reducible refine Gr.alloc ?_ _ | with_reducible refine Gr.drewN ?_ _ | with_reducible refine Gr.drew ?_ | with_reducible refine Gr.trans ?_ (by with_reducible assumption))); done)) _ | with_reducible refine Gr.trans ?_ (by with_reducible assumption)))
    have HS1 := hide (slP_own hO1)
    rw [HLN.out] at hO1 ⊢
    clear hO1
    go_wp2_with fail
    go_loopw [8, 22] (fun v i wr => ∃ (k : Nat) (A2 : Option Addr) (d2 : Nat), k ≤ p.fl.length + 1 ∧ i = iv k ∧ v = .slice A2 k d2 ∧ Gr w1 wr ∧ Hid (OwnL wr w1.heap.size 3 1 inL (.slice A2 k d2) ((L.take k).map (fun q => abv q q.h)))) (fun _ i _ => p.fl.length + 1 - (intOf i).toNat)
    case atStart => exact ⟨0, none, 0, by omega, rfl, rfl, Gr.refl _, own_nil _ _ _ _ _⟩
    case round =>
      obtain ⟨k, A2, d2, hk, rfl, rfl, g, HO⟩ := hrel
      have gW : Gr w wr := gw1.trans g
      have zr := g.size
      by_cases hkl : k < p.fl.length + 1
      · obtain ⟨q, hq⟩ : ∃ q, L[k]? = some q := ⟨_, List.getElem?_eq_getElem (by rw [HLN.out]; omega)⟩
        obtain ⟨b, off, hA2, v0, v1, v2, v3, v4, v5⟩ := (HS1.out.gr g).rd.pl hq
        subst hA2
        have hbb : b < wr.heap.size := cell_lt (by rw [v0]; rfl)
        have hqb := HPB.out q (List.mem_of_getElem? hq)
        have hh1 := hqb.h
        have hh2 := hqb.lo
        have HAB := hide (fun w => above_any q q.h w (by omega) (by omega))
        have HTK := hide (hg_take hq)
        have hk0 : (0 : Int) ≤ (k : Int) := by omega
        have hk1 : (k : Int) < (p.fl.length : Int) + 1 := by omega
        clear hq hqb
        obtain ⟨M1, hM1⟩ : ∃ M, (L.take k).map (fun q => abv q q.h) = M := ⟨_, rfl⟩
        obtain ⟨M2, hM2⟩ : ∃ M, (L.take (k + 1)).map (fun q => abv q q.h) = M := ⟨_, rfl⟩
        have HM2 := hide hM2
        have HL1 := hide (show M1.length = k by rw [← hM1, List.length_map, List.length_take, HLN.out]; omega)
        have HL2 := hide (show M2.length = k + 1 by rw [← hM2, List.length_map, List.length_take, HLN.out]; omega)
        rw [hM1] at HO HTK
        rw [hM2] at HTK
        clear hM1 hM2
        generalize abv q q.h = av at *
        go_upto_region 8 with fail
        go_wp2_with fail
        refine (HAB.out _).mono ?_
        rintro e w5 ⟨rfl, g5⟩
        have z5 := g5.size
        simp only [World.size_alloc] at z5
        have gx : Gr wr w5 := (by repeat (first | with_reducible exact Gr.refl _ | with_reducible assumption | with_reducible refine Gr.alloc ?_ _ | with_reducible refine Gr.drewN ?_ _ | with_reducible refine Gr.drew ?_ | with_reducible refine Gr.setCell ?_ (by first | (dsimp only; omega) | (simp only [World.size_alloc]; omega) | (with_reducible refine Gr.size ?_; (repeat (first | with_reducible exact Gr.refl _ | with_reducible assumption | with_reducible refine Gr.alloc ?_ _ | with_reducible refine Gr.drewN ?_ _ | with_reducible refine Gr.drew ?_ | with_reducible refine Gr.trans ?_ (by with_reducible assumption))); done)) _ | with_reducible refine Gr.trans ?_ (by with_reducible assumption)))
        go_wp2_with (refine wpList_app1 rfl _ _ _ rfl inL w1.heap.size 3 1 8 elInt (by decide) M1 av M2 HTK.out.symm (.slice A2 k d2) rfl (OwnL.gr (HO.out.gr gx) (Gr.alloc (Gr.refl _) _)) _ 1 rfl rfl (by intro j u hu; refine newsA w5 #[iv av] 3 j u ?_; exact hu) (by intro u hu; simp at hu; subst hu; rfl) (by have := HL1.out; omega) (by decide) (by simp only [World.size_alloc]; omega) ?_; intro gg cap1 w8 hO8 hG8 _ _ _)
        go_roundw
        case rel => exact ⟨k + 1, some ⟨gg, 0, none⟩, cap1, by omega, by go_num, by rw [HL2.out], hG8 _ ((g.trans gx).trans (Gr.alloc (Gr.refl _) _)) (Nat.le_refl _), by rw [HM2.out, ← HL2.out]; exact hO8⟩
        case measure => simp only [intOf]; omega
      · obtain rfl : k = p.fl.length + 1 := by omega
        have HR := hide (show hgL p t = (L.take (p.fl.length + 1)).map (fun q => abv q q.h) by rw [HH.out, ← HLN.out, List.take_length])
        have HRL := hide (show (hgL p t).length = p.fl.length + 1 by rw [HH.out, List.length_map, HLN.out])
        have HO9 := hide (HO.out.weak (show w.heap.size ≤ w1.heap.size by omega))
        clear HO
        go_wp2
        refine bodyPost_ret (v := sle (.slice A2 (p.fl.length + 1) d2) 0) (by simp [results, Tryz.results13, go_sem, *]) rfl ⟨A2, d2, by rw [HZ.out, HRL.out], by rw [HRL.out, HR.out]; exact HO9.out, gW⟩
  · have HH := hide (hgL_no h0)
    have HZ := hide h0
    clear h0 hP hE
    generalize plE p t = te at *
    have hz : ¬ te = 0 := HZ.out
    go_enter Tryz.func13, Tryz.ntmps13
    go_wp2_with fail
    refine (HD.out _ (by repeat (first | with_reducible exact Gr.refl _ | with_reducible assumption | with_reducible refine Gr.alloc ?_ _ | with_reducible refine Gr.drewN ?_ _ | with_reducible refine Gr.drew ?_ | with_reducible refine Gr.setCell ?_ (by first | (dsimp only; omega) | (simp only [World.size_alloc]; omega) | (with_reducible refine Gr.size ?_; (repeat (first | with_reducible exact Gr.refl _ | with_reducible assumption | with_reducible refine Gr.alloc ?_ _ | with_reducible refine Gr.drewN ?_ _ | with_reducible refine Gr.drew ?_ | with_reducible refine Gr.trans ?_ (by with_reducible assumption))); done)) _ | with_reducible refine Gr.trans ?_ (by with_reducible assumption)))).mono ?_
    rintro e w1 ⟨v1, rfl, -, g1⟩
    go_wp2_with fail
    refine bodyPost_ret (v := sle (.slice none 0 0) te) (by simp [results, Tryz.results13, go_sem, *]) rfl ⟨none, 0, by rw [HH.out]; rfl, by rw [HH.out]; exact own_nil _ _ _ _ _, (by repeat (first | with_reducible exact Gr.refl _ | with_reducible assumption | with_reducible refine Gr.alloc ?_ _ | with_reducible refine Gr.drewN ?_ _ | with_reducible refine Gr.drew ?_ | with_reducible refine Gr.setCell ?_ (by first | (dsimp only; omega) | (simp only [World.size_alloc]; omega) | (with_reducible refine Gr.size ?_; (repeat (first | with_reducible exact Gr.refl _ | with_reducible assumption | with_reducible refine Gr.alloc ?_ _ | with_reducible refine Gr.drewN ?_ _ | with_reducible refine Gr.drew ?_ | with_reducible refine Gr.trans ?_ (by with_reducible assumption))); done)) _ | with_reducible refine Gr.trans ?_ (by with_reducible assumption)))⟩
set_option maxRecDepth 100000 in
set_option maxHeartbeats 2000000 in
theorem short_any (A : Option Addr) (c : Nat) (L : List Pl) (w : World) (hL : SlFr w A c (L.map frO)) (hl : L.length ≤ 1000) :
    Calls Tryz.prog 25 #[.slice A L.length c] w fun e w' => e = .returned (.bool (shB L)) ∧ Gr w w' := by
  have HL := hide hL
  clear hL
  go_enter Tryz.func25, Tryz.ntmps25
  go_wp2
  go_loopw [3] (fun i wr => ∃ k : Nat, k ≤ L.length ∧ i = iv k ∧ Gr w wr ∧ Hid (∀ i q, i < k → L[i]? = some q → 1 ≤ abv q q.h)) (fun i _ => L.length - (intOf i).toNat)
  case atStart => exact ⟨0, by omega, rfl, Gr.refl _, fun i q hi => by omega⟩
  case round =>
    obtain ⟨k, hk, rfl, g, HS⟩ := hrel
    by_cases hkl : k < L.length
    · obtain ⟨q, hq⟩ : ∃ q, L[k]? = some q := ⟨_, List.getElem?_eq_getElem hkl⟩
      obtain ⟨b, off, rfl, v0, v1, v2, v3, v4, v5, v6, v7, v8⟩ := (HL.out.gr g).rd.fr (i := k) (f := frO q) (by rw [List.getElem?_map, hq]; rfl)
      have hb : b < wr.heap.size := cell_lt (by rw [v0]; rfl)
      rw [show (frO q).h = abv q q.h from rfl] at v7
      have HQ := hide hq
      have hk0 : (0 : Int) ≤ (k : Int) := by omega
      have hk1 : (k : Int) < (L.length : Int) := by omega
      clear v0 v1 v2 v3 v4 v5 v6 v8 hq
      by_cases hsh : abv q q.h < 1
      · have HE := hide (show shB L = true by unfold shB; exact List.any_eq_true.2 ⟨q, List.mem_of_getElem? HQ.out, by simpa using hsh⟩)
        go_wp2
        go_ret
        exact ⟨R.ret_bool HE.out.symm, g⟩
      · have HS2 := hide (show ∀ i z, i < k + 1 → L[i]? = some z → 1 ≤ abv z z.h by
          intro i z hi hz
          rcases Nat.lt_or_ge i k with h | h
          · exact HS.out i z h hz
          · obtain rfl : i = k := by omega
            rw [HQ.out] at hz
            obtain rfl := Option.some.inj hz
            omega)
        go_wp2
        go_roundw
        case rel => exact ⟨k + 1, by omega, by go_num, g, HS2⟩
        case measure => simp only [intOf]; omega
    · obtain rfl : k = L.length := by omega
      have HE := hide (show shB L = false by
        unfold shB
        rw [List.any_eq_false]
        intro q hq
        obtain ⟨i, hi⟩ := List.mem_iff_getElem?.1 hq
        have := HS.out i q (List.getElem?_eq_some_iff.1 hi).1 hi
        simpa using this)
      go_wp2
      go_ret
      exact ⟨R.ret_bool HE.out.symm, g⟩
end Go.Proofs.YtdabhnefoigebaaGreat
set_option linter.unusedVariables false
set_option linter.unusedSimpArgs false
namespace Go.Proofs.YtdabhnefoigebaaGreat
set_option linter.unusedVariables false
set_option linter.unusedSimpArgs false
open Go Go.ChangeShapes Go.WideShapes Go.ChangeAt Go.RowKit Go.Deep

theorem plE_sh {p : Pa} {t : Tb} (h : dlE p t = 0) (k : shB (plsA p t) = true) : plE p t = 8 := by
  unfold plE
  rw [if_neg (by simpa using h), if_pos k]
theorem plE_ns {p : Pa} {t : Tb} (h : dlE p t = 0) (k : shB (plsA p t) = false) : plE p t = 0 := by
  unfold plE
  rw [if_neg (by simpa using h), k]
  rfl
theorem hgL_len {p : Pa} {t : Tb} (h : p.fl.length ≤ 900) : (hgL p t).length ≤ 1000 := by
  by_cases k : plE p t = 0
  · rw [hgL_ok k, List.length_map, plsA_len]
    omega
  · rw [hgL_no k]
    decide
set_option maxRecDepth 100000 in
set_option maxHeartbeats 4000000 in
theorem rHeights_any (p : Pa) (t : Tb) (A B C : Option Addr) (c d q : Nat) (w : World) (hP : PaW w p A c B d) (hE : SlE w C q t.en) (hs : t.mt.size ≤ 1000) :
    Calls Tryz.prog 14 #[pav p A c B d, tbv t C q] w fun e w' => ∃ A1 d1, e = .returned (sle (.slice A1 (hgL p t).length d1) (plE p t)) ∧ OwnL w' w.heap.size 3 1 inL (.slice A1 (hgL p t).length d1) (hgL p t) ∧ Gr w w' := by
  have HD := hide (fun (w' : World) (g : Gr w w') => frames_any p t A B C c d q w' (hP.gr g) (hE.gr g) hs)
  by_cases h0 : dlE p t = 0
  · have h5 := (good_of (dlE_zero h0).1).nfl
    have HLN := hide (plsA_len p t)
    cases hsh : shB (plsA p t) with
    | true =>
      have HZ := hide (plE_sh h0 hsh)
      have HH := hide (hgL_no (p := p) (t := t) (by rw [HZ.out]; decide))
      have HSH := hide (fun A c w (h : SlFr w A c ((plsA p t).map frO)) => short_any A c (plsA p t) w h (by rw [HLN.out]; omega))
      rw [hsh] at HSH
      rw [h0] at HD
      clear hP hE h0 hsh
      generalize hLe : plsA p t = L at *
      clear hLe
      go_enter Tryz.func14, Tryz.ntmps14
      go_upto_region 2 with fail
      refine (HD.out _ (by repeat (first | with_reducible exact Gr.refl _ | with_reducible assumption | with_reducible refine Gr.alloc ?_ _ | with_reducible refine Gr.drewN ?_ _ | with_reducible refine Gr.drew ?_ | with_reducible refine Gr.setCell ?_ (by first | (dsimp only; omega) | (simp only [World.size_alloc]; omega) | (with_reducible refine Gr.size ?_; (repeat (first | with_reducible exact Gr.refl _ | with_reducible assumption | with_reducible refine Gr.alloc ?_ _ | with_reducible refine Gr.drewN ?_ _ | with_reducible refine Gr.drew ?_ | with_reducible refine Gr.trans ?_ (by with_reducible assumption))); done)) _ | with_reducible refine Gr.trans ?_ (by with_reducible assumption)))).mono ?_
      rintro e w1 ⟨v1, rfl, hO1, g1⟩
      have hO1 := hO1 (by trivial)
      obtain ⟨A1, d1, rfl⟩ := hO1.slice
      have HS1 := hide (slFr_own hO1)
      rw [List.length_map] at hO1 ⊢
      clear hO1
      go_wp2_with fail
      refine (HSH.out _ _ _ HS1.out).mono ?_
      rintro e w2 ⟨rfl, g2⟩
      go_wp2_with fail
      refine bodyPost_ret (v := sle (.slice none 0 0) 8) (by simp [results, Tryz.results14, go_sem, *]) rfl ⟨none, 0, by rw [HZ.out, HH.out]; rfl, by rw [HH.out]; exact own_nil _ _ _ _ _, (by repeat (first | with_reducible exact Gr.refl _ | with_reducible assumption | with_reducible refine Gr.alloc ?_ _ | with_reducible refine Gr.drewN ?_ _ | with_reducible refine Gr.drew ?_ | with_reducible refine Gr.setCell ?_ (by first | (dsimp only; omega) | (simp only [World.size_alloc]; omega) | (with_reducible refine Gr.size ?_; (repeat (first | with_reducible exact Gr.refl _ | with_reducible assumption | with_reducible refine Gr.alloc ?_ _ | with_reducible refine Gr.drewN ?_ _ | with_reducible refine Gr.drew ?_ | with_reducible refine Gr.trans ?_ (by with_reducible assumption))); done)) _ | with_reducible refine Gr.trans ?_ (by with_reducible assumption)))⟩
    | false =>
      have HZ := hide (plE_ns h0 hsh)
      have HH := hide (hgL_ok HZ.out)
      have HSH := hide (fun A c w (h : SlFr w A c ((plsA p t).map frO)) => short_any A c (plsA p t) w h (by rw [HLN.out]; omega))
      rw [hsh] at HSH
      rw [h0] at HD
      clear hP hE h0 hsh
      generalize hLe : plsA p t = L at *
      clear hLe
      go_enter Tryz.func14, Tryz.ntmps14
      go_upto_region 2 with fail
      refine (HD.out _ (by repeat (first | with_reducible exact Gr.refl _ | with_reducible assumption | with_reducible refine Gr.alloc ?_ _ | with_reducible refine Gr.drewN ?_ _ | with_reducible refine Gr.drew ?_ | with_reducible refine Gr.setCell ?_ (by first | (dsimp only; omega) | (simp only [World.size_alloc]; omega) | (with_reducible refine Gr.size ?_; (repeat (first | with_reducible exact Gr.refl _ | with_reducible assumption | with_reducible refine Gr.alloc ?_ _ | with_reducible refine Gr.drewN ?_ _ | with_reducible refine Gr.drew ?_ | with_reducible refine Gr.trans ?_ (by with_reducible assumption))); done)) _ | with_reducible refine Gr.trans ?_ (by with_reducible assumption)))).mono ?_
      rintro e w1 ⟨v1, rfl, hO1, g1⟩
      have hO1 := hO1 (by trivial)
      obtain ⟨A1, d1, rfl⟩ := hO1.slice
      have z1 := g1.size
      simp only [World.size_alloc] at z1
      have gw1 : Gr w w1 := (by repeat (first | with_reducible exact Gr.refl _ | with_reducible assumption | with_reducible refine Gr.alloc ?_ _ | with_reducible refine Gr.drewN ?_ _ | with_reducible refine Gr.drew ?_ | with_reducible refine Gr.setCell ?_ (by first | (dsimp only; omega) | (simp only [World.size_alloc]; omega) | (with_reducible refine Gr.size ?_; (repeat (first | with_reducible exact Gr.refl _ | with_reducible assumption | with_reducible refine Gr.alloc ?_ _ | with_reducible refine Gr.drewN ?_ _ | with_reducible refine Gr.drew ?_ | with_reducible refine Gr.trans ?_ (by with_reducible assumption))); done)) _ | with_reducible refine Gr.trans ?_ (by with_reducible assumption)))
      have HS1 := hide (slFr_own hO1)
      rw [List.length_map] at hO1 ⊢
      clear hO1
      go_wp2_with fail
      refine (HSH.out _ _ _ HS1.out).mono ?_
      rintro e w2 ⟨rfl, g2⟩
      have z2 := g2.size
      have gw2 : Gr w w2 := gw1.trans g2
      rw [HLN.out]
      go_wp2_with fail
      go_loopw [8, 9] (fun v i wr => ∃ (k : Nat) (A2 : Option Addr) (d2 : Nat), k ≤ p.fl.length + 1 ∧ i = iv k ∧ v = .slice A2 k d2 ∧ Gr w2 wr ∧ Hid (OwnL wr w2.heap.size 3 1 inL (.slice A2 k d2) ((L.take k).map (fun q => abv q q.h)))) (fun _ i _ => p.fl.length + 1 - (intOf i).toNat)
      case atStart => exact ⟨0, none, 0, by omega, rfl, rfl, Gr.refl _, own_nil _ _ _ _ _⟩
      case round =>
        obtain ⟨k, A2, d2, hk, rfl, rfl, g, HO⟩ := hrel
        have gW : Gr w wr := gw2.trans g
        have zr := g.size
        by_cases hkl : k < p.fl.length + 1
        · obtain ⟨q, hq⟩ : ∃ q, L[k]? = some q := ⟨_, List.getElem?_eq_getElem (by rw [HLN.out]; omega)⟩
          obtain ⟨b, off, hA2, v0, v1, v2, v3, v4, v5, v6, v7, v8⟩ := (HS1.out.gr (g2.trans g)).rd.fr (i := k) (f := frO q) (by rw [List.getElem?_map, hq]; rfl)
          subst hA2
          have hbb : b < wr.heap.size := cell_lt (by rw [v0]; rfl)
          rw [show (frO q).h = abv q q.h from rfl] at v7
          have HTK := hide (hg_take hq)
          have hk0 : (0 : Int) ≤ (k : Int) := by omega
          have hk1 : (k : Int) < (p.fl.length : Int) + 1 := by omega
          clear hq v0 v1 v2 v3 v4 v5 v6 v8
          obtain ⟨M1, hM1⟩ : ∃ M, (L.take k).map (fun q => abv q q.h) = M := ⟨_, rfl⟩
          obtain ⟨M2, hM2⟩ : ∃ M, (L.take (k + 1)).map (fun q => abv q q.h) = M := ⟨_, rfl⟩
          have HM2 := hide hM2
          have HL1 := hide (show M1.length = k by rw [← hM1, List.length_map, List.length_take, HLN.out]; omega)
          have HL2 := hide (show M2.length = k + 1 by rw [← hM2, List.length_map, List.length_take, HLN.out]; omega)
          rw [hM1] at HO HTK
          rw [hM2] at HTK
          clear hM1 hM2
          generalize abv q q.h = av at *
          go_wp2_with (refine wpList_app1 rfl _ _ _ rfl inL w2.heap.size 3 1 8 elInt (by decide) M1 av M2 HTK.out.symm (.slice A2 k d2) rfl (OwnL.gr HO.out (Gr.alloc (Gr.refl _) _)) _ 1 rfl rfl (by intro j u hu; refine newsA wr #[iv av] 3 j u ?_; exact hu) (by intro u hu; simp at hu; subst hu; rfl) (by have := HL1.out; omega) (by decide) (by simp only [World.size_alloc]; omega) ?_; intro gg cap1 w8 hO8 hG8 _ _ _)
          go_roundw
          case rel => exact ⟨k + 1, some ⟨gg, 0, none⟩, cap1, by omega, by go_num, by rw [HL2.out], hG8 _ (g.trans (Gr.alloc (Gr.refl _) _)) (Nat.le_refl _), by rw [HM2.out, ← HL2.out]; exact hO8⟩
          case measure => simp only [intOf]; omega
        · obtain rfl : k = p.fl.length + 1 := by omega
          have HR := hide (show hgL p t = (L.take (p.fl.length + 1)).map (fun q => abv q q.h) by rw [HH.out, ← HLN.out, List.take_length])
          have HRL := hide (show (hgL p t).length = p.fl.length + 1 by rw [HH.out, List.length_map, HLN.out])
          have HO9 := hide (HO.out.weak (show w.heap.size ≤ w2.heap.size by omega))
          clear HO
          go_wp2
          refine bodyPost_ret (v := sle (.slice A2 (p.fl.length + 1) d2) 0) (by simp [results, Tryz.results14, go_sem, *]) rfl ⟨A2, d2, by rw [HZ.out, HRL.out], by rw [HRL.out, HR.out]; exact HO9.out, gW⟩
  · have HN := hide (plE_ded h0)
    have HH := hide (hgL_no (p := p) (t := t) (by rw [HN.out]; exact h0))
    have HZ := hide h0
    clear h0 hP hE
    generalize dlE p t = te at *
    have hz : ¬ te = 0 := HZ.out
    go_enter Tryz.func14, Tryz.ntmps14
    go_wp2_with fail
    refine (HD.out _ (by repeat (first | with_reducible exact Gr.refl _ | with_reducible assumption | with_reducible refine Gr.alloc ?_ _ | with_reducible refine Gr.drewN ?_ _ | with_reducible refine Gr.drew ?_ | with_reducible refine Gr.setCell ?_ (by first | (dsimp only; omega) | (simp only [World.size_alloc]; omega) | (with_reducible refine Gr.size ?_; (repeat (first | with_reducible exact Gr.refl _ | with_reducible assumption | with_reducible refine Gr.alloc ?_ _ | with_reducible refine Gr.drewN ?_ _ | with_reducible refine Gr.drew ?_ | with_reducible refine Gr.trans ?_ (by with_reducible assumption))); done)) _ | with_reducible refine Gr.trans ?_ (by with_reducible assumption)))).mono ?_
    rintro e w1 ⟨v1, rfl, -, g1⟩
    go_wp2_with fail
    refine bodyPost_ret (v := sle (.slice none 0 0) te) (by simp [results, Tryz.results14, go_sem, *]) rfl ⟨none, 0, by rw [HH.out, HN.out]; rfl, by rw [HH.out]; exact own_nil _ _ _ _ _, (by repeat (first | with_reducible exact Gr.refl _ | with_reducible assumption | with_reducible refine Gr.alloc ?_ _ | with_reducible refine Gr.drewN ?_ _ | with_reducible refine Gr.drew ?_ | with_reducible refine Gr.setCell ?_ (by first | (dsimp only; omega) | (simp only [World.size_alloc]; omega) | (with_reducible refine Gr.size ?_; (repeat (first | with_reducible exact Gr.refl _ | with_reducible assumption | with_reducible refine Gr.alloc ?_ _ | with_reducible refine Gr.drewN ?_ _ | with_reducible refine Gr.drew ?_ | with_reducible refine Gr.trans ?_ (by with_reducible assumption))); done)) _ | with_reducible refine Gr.trans ?_ (by with_reducible assumption)))⟩
theorem ext_at {p : Pa} {j : Nat} {f : Fl} (h : p.fl[j]? = some f) : extH p ((j : Int) + 1) = f.ln := by
  unfold extH
  rw [if_neg (by omega), show ((j : Int) + 1 - 1).toNat = j by omega, h]
  rfl
theorem siz_ok {p : Pa} {k : Nat} (h : valE p = 0) (hk : k ≤ p.fl.length) : ∃ x, sizV p k = (x, extH p k, 0) := by
  refine ⟨extW p k, ?_⟩
  unfold sizV
  rw [if_neg (by simpa using h), if_pos]
  rw [wiB_iff]
  omega
set_option maxRecDepth 100000 in
set_option maxHeartbeats 4000000 in
theorem heights_walk (p : Pa) (t : Tb) (A B C : Option Addr) (c d q : Nat) (w : World) (hX : PaX w p A c B d) (hR : RdE w C t.en) (hs : t.mt.size ≤ maxLen) (hc : t.en.length ≤ q ∧ q ≤ maxLen) :
    Calls Tryz.prog 4 #[pav p A c B d, tbv t C q] w fun x w' => x = .returned (.bool true) ∧ Gr w w' := by
  unfold maxLen at hs hc
  have HBG := hide (fun (w' : World) (g : Gr w w') => big_any p A B c d w' (hX.gr g))
  have HW := hide (fun w' => wide_any t C q w' (by omega) (by omega))
  cases hb : bgB p with
  | true =>
    rw [hb] at HBG
    clear hb hX
    go_enter Tryz.func4, Tryz.ntmps4
    go_wp2_with fail
    refine (HBG.out _ (by repeat (first | with_reducible exact Gr.refl _ | with_reducible assumption | with_reducible refine Gr.alloc ?_ _ | with_reducible refine Gr.drewN ?_ _ | with_reducible refine Gr.drew ?_ | with_reducible refine Gr.setCell ?_ (by first | (dsimp only; omega) | (simp only [World.size_alloc]; omega) | (with_reducible refine Gr.size ?_; (repeat (first | with_reducible exact Gr.refl _ | with_reducible assumption | with_reducible refine Gr.alloc ?_ _ | with_reducible refine Gr.drewN ?_ _ | with_reducible refine Gr.drew ?_ | with_reducible refine Gr.trans ?_ (by with_reducible assumption))); done)) _ | with_reducible refine Gr.trans ?_ (by with_reducible assumption)))).mono ?_
    rintro e w1 ⟨rfl, g1⟩
    go_wp2_with (first | (go_at_call 7; refine (known3_any _).mono ?_; rintro e w1 ⟨rfl, g1⟩; obtain ⟨X1, Y1, c1, f1⟩ := g1.use; have z1 := g1.size; (try simp only [World.size_alloc, World.size_setCell, World.heap_drewN, Nat.add_one_le_iff] at z1); (try have l0 : w.heap.size < w1.heap.size := by omega); (try have l1 : w.heap.size + 1 < w1.heap.size := by omega); (try have l2 : w.heap.size + 1 + 1 < w1.heap.size := by omega)))
    go_ret
    exact ⟨rfl, (by repeat (first | with_reducible exact Gr.refl _ | with_reducible assumption | with_reducible refine Gr.alloc ?_ _ | with_reducible refine Gr.drewN ?_ _ | with_reducible refine Gr.drew ?_ | with_reducible refine Gr.setCell ?_ (by first | (dsimp only; omega) | (simp only [World.size_alloc]; omega) | (with_reducible refine Gr.size ?_; (repeat (first | with_reducible exact Gr.refl _ | with_reducible assumption | with_reducible refine Gr.alloc ?_ _ | with_reducible refine Gr.drewN ?_ _ | with_reducible refine Gr.drew ?_ | with_reducible refine Gr.trans ?_ (by with_reducible assumption))); done)) _ | with_reducible refine Gr.trans ?_ (by with_reducible assumption)))⟩
  | false =>
    have hP := hX.small hb
    rw [hb] at HBG
    cases hwd : wdB t with
    | true =>
      rw [hwd] at HW
      clear hb hX hwd hP hR
      go_enter Tryz.func4, Tryz.ntmps4
      go_wp2_with fail
      refine (HBG.out _ (by repeat (first | with_reducible exact Gr.refl _ | with_reducible assumption | with_reducible refine Gr.alloc ?_ _ | with_reducible refine Gr.drewN ?_ _ | with_reducible refine Gr.drew ?_ | with_reducible refine Gr.setCell ?_ (by first | (dsimp only; omega) | (simp only [World.size_alloc]; omega) | (with_reducible refine Gr.size ?_; (repeat (first | with_reducible exact Gr.refl _ | with_reducible assumption | with_reducible refine Gr.alloc ?_ _ | with_reducible refine Gr.drewN ?_ _ | with_reducible refine Gr.drew ?_ | with_reducible refine Gr.trans ?_ (by with_reducible assumption))); done)) _ | with_reducible refine Gr.trans ?_ (by with_reducible assumption)))).mono ?_
      rintro e w1 ⟨rfl, g1⟩
      obtain ⟨X1, Y1, c1, f1⟩ := g1.use
      have z1 := g1.size
      simp only [World.size_alloc] at z1
      have l1 : w.heap.size + 1 < w1.heap.size := by omega
      have l0 : w.heap.size < w1.heap.size := by omega
      go_wp2_with fail
      refine (HW.out _).mono ?_
      rintro e w2 ⟨rfl, g2⟩
      go_wp2_with (first | (go_at_call 7; refine (known3_any _).mono ?_; rintro e w1 ⟨rfl, g1⟩; obtain ⟨X1, Y1, c1, f1⟩ := g1.use; have z1 := g1.size; (try simp only [World.size_alloc, World.size_setCell, World.heap_drewN, Nat.add_one_le_iff] at z1); (try have l0 : w.heap.size < w1.heap.size := by omega); (try have l1 : w.heap.size + 1 < w1.heap.size := by omega); (try have l2 : w.heap.size + 1 + 1 < w1.heap.size := by omega)))
      go_ret
      exact ⟨rfl, (by repeat (first | with_reducible exact Gr.refl _ | with_reducible assumption | with_reducible refine Gr.alloc ?_ _ | with_reducible refine Gr.drewN ?_ _ | with_reducible refine Gr.drew ?_ | with_reducible refine Gr.setCell ?_ (by first | (dsimp only; omega) | (simp only [World.size_alloc]; omega) | (with_reducible refine Gr.size ?_; (repeat (first | with_reducible exact Gr.refl _ | with_reducible assumption | with_reducible refine Gr.alloc ?_ _ | with_reducible refine Gr.drewN ?_ _ | with_reducible refine Gr.drew ?_ | with_reducible refine Gr.trans ?_ (by with_reducible assumption))); done)) _ | with_reducible refine Gr.trans ?_ (by with_reducible assumption)))⟩
    | false =>
      have hsm : t.mt.size ≤ 1000 ∧ t.en.length ≤ 1000 := by
        unfold wdB at hwd
        simp only [Bool.or_eq_false_iff, decide_eq_false_iff_not] at hwd
        omega
      rw [hwd] at HW
      have hE : SlE w C q t.en := ⟨hR, by omega, by omega, hsm.2⟩
      have HH1 := hide (fun (w' : World) (g : Gr w w') => Heights_any p t A B C c d q w' (hP.gr g) (hE.gr g) hsm.1)
      have HH2 := hide (fun (w' : World) (g : Gr w w') => rHeights_any p t A B C c d q w' (hP.gr g) (hE.gr g) hsm.1)
      have HSZ := hide (fun n (w' : World) (g : Gr w w') => Size_any p A B c d n w' (hP.gr g))
      have HDE := hide (fun a (w' : World) (g : Gr w w') => Deduction_any t C q a w' (hE.gr g) hsm.1)
      have HP := hide hP
      have hpl := hP.fl.len
      have hl1 : p.fl.length ≤ 30 := by
        unfold bgB bgH at hb
        simp only [Bool.or_eq_false_iff, decide_eq_false_iff_not] at hb
        omega
      have hlen := hgL_len (p := p) (t := t) (by omega)
      clear hb hX hwd hR hE hP hsm
      go_enter Tryz.func4, Tryz.ntmps4
      go_wp2_with fail
      refine (HBG.out _ (by repeat (first | with_reducible exact Gr.refl _ | with_reducible assumption | with_reducible refine Gr.alloc ?_ _ | with_reducible refine Gr.drewN ?_ _ | with_reducible refine Gr.drew ?_ | with_reducible refine Gr.setCell ?_ (by first | (dsimp only; omega) | (simp only [World.size_alloc]; omega) | (with_reducible refine Gr.size ?_; (repeat (first | with_reducible exact Gr.refl _ | with_reducible assumption | with_reducible refine Gr.alloc ?_ _ | with_reducible refine Gr.drewN ?_ _ | with_reducible refine Gr.drew ?_ | with_reducible refine Gr.trans ?_ (by with_reducible assumption))); done)) _ | with_reducible refine Gr.trans ?_ (by with_reducible assumption)))).mono ?_
      rintro e w1 ⟨rfl, g1⟩
      obtain ⟨X1, Y1, c1, f1⟩ := g1.use
      have z1 := g1.size
      simp only [World.size_alloc] at z1
      have l1 : w.heap.size + 1 < w1.heap.size := by omega
      have l0 : w.heap.size < w1.heap.size := by omega
      have gw1 : Gr w w1 := (by repeat (first | with_reducible exact Gr.refl _ | with_reducible assumption | with_reducible refine Gr.alloc ?_ _ | with_reducible refine Gr.drewN ?_ _ | with_reducible refine Gr.drew ?_ | with_reducible refine Gr.setCell ?_ (by first | (dsimp only; omega) | (simp only [World.size_alloc]; omega) | (with_reducible refine Gr.size ?_; (repeat (first | with_reducible exact Gr.refl _ | with_reducible assumption | with_reducible refine Gr.alloc ?_ _ | with_reducible refine Gr.drewN ?_ _ | with_reducible refine Gr.drew ?_ | with_reducible refine Gr.trans ?_ (by with_reducible assumption))); done)) _ | with_reducible refine Gr.trans ?_ (by with_reducible assumption)))
      go_wp2_with fail
      refine (HW.out _).mono ?_
      rintro e w2 ⟨rfl, g2⟩
      obtain ⟨X2, Y2, c2, f2⟩ := g2.use
      have z2 := g2.size
      have m1 : w.heap.size + 1 < w2.heap.size := by omega
      have m0 : w.heap.size < w2.heap.size := by omega
      have gw2 : Gr w w2 := gw1.trans g2
      go_wp2_with fail
      refine (HH1.out _ gw2).mono ?_
      rintro e w3 ⟨A3, d3, rfl, o3, g3⟩
      have z3 := g3.size
      have gw3 : Gr w w3 := gw2.trans g3
      obtain ⟨X3, Y3, c3, f3⟩ := g3.use
      have HI1 := hide (slI_own o3 hlen)
      have q1 : w.heap.size + 1 < w3.heap.size := by omega
      have q0 : w.heap.size < w3.heap.size := by omega
      clear o3
      go_wp2_with fail
      refine (HH2.out _ gw3).mono ?_
      rintro e w4 ⟨A4, d4, rfl, o4, g4⟩
      have z4 := g4.size
      have gw4 : Gr w w4 := gw3.trans g4
      obtain ⟨X4, Y4, c4, f4⟩ := g4.use
      have HI2 := hide (slI_own o4 hlen)
      have r1 : w.heap.size + 1 < w4.heap.size := by omega
      have r0 : w.heap.size < w4.heap.size := by omega
      clear o4
      go_wp2_with fail
      refine (sameInts_any A3 A4 d3 d4 (hgL p t) w4 (HI1.out.gr g4) HI2.out).mono ?_
      rintro e w5 ⟨rfl, g5⟩
      have z5 := g5.size
      have gw5 : Gr w w5 := gw4.trans g5
      obtain ⟨X5, Y5, c5, f5⟩ := g5.use
      have s1 : w.heap.size + 1 < w5.heap.size := by omega
      have s0 : w.heap.size < w5.heap.size := by omega
      have n0 : w5.cell? ⟨w.heap.size + 1, 0, none⟩ = some (.string t.mt) := by rw [c5, c4, c3, c2, c1]; simp [go_sem]
      have n1 : w5.cell? ⟨w.heap.size + 1, 1, none⟩ = some (iv t.ga) := by rw [c5, c4, c3, c2, c1]; simp [go_sem]
      have n2 : w5.cell? ⟨w.heap.size + 1, 2, none⟩ = some (iv t.di) := by rw [c5, c4, c3, c2, c1]; simp [go_sem]
      have n3 : w5.cell? ⟨w.heap.size + 1, 3, none⟩ = some (.slice C t.en.length q) := by rw [c5, c4, c3, c2, c1]; simp [go_sem]
      have p0 : w5.cell? ⟨w.heap.size, 0, none⟩ = some (.string p.nm) := by rw [c5, c4, c3, c2, c1]; simp [go_sem]
      have p1 : w5.cell? ⟨w.heap.size, 1, none⟩ = some (.string p.mt) := by rw [c5, c4, c3, c2, c1]; simp [go_sem]
      have p2 : w5.cell? ⟨w.heap.size, 2, none⟩ = some (iv p.ga) := by rw [c5, c4, c3, c2, c1]; simp [go_sem]
      have p3 : w5.cell? ⟨w.heap.size, 3, none⟩ = some (iv p.gr) := by rw [c5, c4, c3, c2, c1]; simp [go_sem]
      have p4 : w5.cell? ⟨w.heap.size, 4, none⟩ = some (iv p.wd) := by rw [c5, c4, c3, c2, c1]; simp [go_sem]
      have p5 : w5.cell? ⟨w.heap.size, 5, none⟩ = some (iv p.ht) := by rw [c5, c4, c3, c2, c1]; simp [go_sem]
      have p6 : w5.cell? ⟨w.heap.size, 6, none⟩ = some (.slice A p.fl.length c) := by rw [c5, c4, c3, c2, c1]; simp [go_sem]
      have p7 : w5.cell? ⟨w.heap.size, 7, none⟩ = some (.slice B p.ho.length d) := by rw [c5, c4, c3, c2, c1]; simp [go_sem]
      clear X1 Y1 c1 f1 X2 Y2 c2 f2 X3 Y3 c3 f3 X4 Y4 c4 f4 X5 Y5 c5 f5
      go_wp2_with fail
      have HNE := hide (fun h => hgL_no (p := p) (t := t) h)
      have HOKL := hide (fun h => hgL_ok (p := p) (t := t) h)
      have gw35 : Gr w3 w5 := g4.trans g5
      clear HH1 HH2 HI2 HBG HW
      go_loopw [9] (fun i wr => ∃ k : Nat, k ≤ (hgL p t).length ∧ i = iv k ∧ Gr w5 wr) (fun i _ => (hgL p t).length - (intOf i).toNat)
      case atStart => exact ⟨0, by omega, rfl, Gr.refl _⟩
      case round =>
        obtain ⟨k, hk, rfl, g⟩ := hrel
        have zr := g.size
        have gW : Gr w wr := gw5.trans g
        have u0 : w.heap.size < wr.heap.size := by omega
        have u1 : w.heap.size + 1 < wr.heap.size := by omega
        have o0 := (g.cell _ _ s1).trans n0
        have o1 := (g.cell _ _ s1).trans n1
        have o2 := (g.cell _ _ s1).trans n2
        have o3 := (g.cell _ _ s1).trans n3
        have b0 := (g.cell _ _ s0).trans p0
        have b1 := (g.cell _ _ s0).trans p1
        have b2 := (g.cell _ _ s0).trans p2
        have b3 := (g.cell _ _ s0).trans p3
        have b4 := (g.cell _ _ s0).trans p4
        have b5 := (g.cell _ _ s0).trans p5
        have b6 := (g.cell _ _ s0).trans p6
        have b7 := (g.cell _ _ s0).trans p7
        clear n0 n1 n2 n3 p0 p1 p2 p3 p4 p5 p6 p7
        by_cases hkl : k < (hgL p t).length
        · have h0 : plE p t = 0 := by
            refine Decidable.byContradiction fun h => ?_
            rw [HNE.out h] at hkl
            simp at hkl
          obtain ⟨hd0, -⟩ := plE_zero h0
          have hva := (dlE_zero hd0).1
          have HG := hide (good_of hva)
          have HB := hide (flsB_of hd0)
          have hgl : (hgL p t).length = p.fl.length + 1 := by rw [HOKL.out h0, List.length_map, plsA_len]
          obtain ⟨qq, hqq⟩ : ∃ qq, (plsA p t)[k]? = some qq := ⟨_, List.getElem?_eq_getElem (by rw [plsA_len]; omega)⟩
          obtain ⟨ba, oa, hA3, x0⟩ := (HI1.out.gr (gw35.trans g)).rd.int (i := k) (z := abv qq qq.h) (by rw [HOKL.out h0, List.getElem?_map, hqq]; rfl)
          subst hA3
          have hba : ba < wr.heap.size := cell_lt (by rw [x0]; rfl)
          have hk0 : (0 : Int) ≤ (k : Int) := by omega
          have hk1 : (k : Int) < ((hgL p t).length : Int) := by omega
          have hk2 : (k : Int) ≤ (p.fl.length : Int) := by omega
          have hht := HG.out.fl.ht
          by_cases hz : k = 0
          · subst hz
            have e1 : qq = ⟨0, 0, 0, p.wd, p.ht, 0⟩ := by
              have := pls_zero (w := p.wd) (h := p.ht) (l := p.fl) (D := dT t)
              rw [show (plsA p t)[0]? = (pls p.wd p.ht p.fl (dT t) p.fl.length)[0]? from rfl, this] at hqq
              exact (Option.some.inj hqq).symm
            have e2 : abv qq qq.h = p.ht * 720 := by rw [e1]; unfold abv; simp
            rw [e2, Nat.add_zero] at x0
            obtain ⟨xx, hxx⟩ := siz_ok (p := p) (k := 0) hva (by omega)
            have HS9 := hide (show ∀ z : Int, z = 0 → ∀ w', Gr w w' → Calls Tryz.prog 16 #[pav p A c B d, iv z] w' fun e w'' => e = .returned (t3V (xx, p.ht, 0)) ∧ Gr w' w'' from fun z hz w' g => by
              have h := HSZ.out z w' g
              rw [show sizV p z = (xx, p.ht, 0) by rw [hz]; exact hxx] at h
              exact h)
            have U1 : IntKind.i64.wrap (p.ht * 720) = p.ht * 720 := IntWalk.i64_in _ (by omega)
            clear hxx e1 e2 hqq HSZ HDE h0 hd0 hva hgl
            go_wp2_with fail
            refine (HS9.out _ (by omega) _ gW).mono ?_
            rintro e w6 ⟨rfl, g6⟩
            obtain ⟨X6, Y6, c6, f6⟩ := g6.use
            have z6 := g6.size
            have v0 : w.heap.size < w6.heap.size := by omega
            have v1 : w.heap.size + 1 < w6.heap.size := by omega
            have v2 : ba < w6.heap.size := by omega
            go_wp2_with fail
            go_roundw
            case rel => exact ⟨1, by omega, by go_num, g.trans g6⟩
            case measure => simp only [intOf]; omega
          · obtain ⟨j, rfl⟩ : ∃ j, k = j + 1 := ⟨k - 1, by omega⟩
            obtain ⟨f, hf⟩ : ∃ f, p.fl[j]? = some f := ⟨_, List.getElem?_eq_getElem (by omega)⟩
            obtain ⟨s1', s2', s3'⟩ := pls_size HB.out hf hqq
            have e2 : abv qq qq.h = f.ln * 720 - dT t f := by unfold abv; rw [s2', s3']
            rw [e2] at x0
            obtain ⟨xx, hxx⟩ := siz_ok (p := p) (k := j + 1) hva (by omega)
            rw [show ((j + 1 : Nat) : Int) = (j : Int) + 1 by omega, ext_at hf] at hxx
            have HS9 := hide (show ∀ z : Int, z = (j : Int) + 1 → ∀ w', Gr w w' → Calls Tryz.prog 16 #[pav p A c B d, iv z] w' fun e w'' => e = .returned (t3V (xx, f.ln, 0)) ∧ Gr w' w'' from fun z hz w' g => by
              have h := HSZ.out z w' g
              rw [show sizV p z = (xx, f.ln, 0) by rw [hz]; exact hxx] at h
              exact h)
            obtain ⟨b, off, hA, x0', x1', x2', x3', x4', x5', x6'⟩ := HP.out.fl.rd.fl hf
            subst hA
            have hb : b < w.heap.size := cell_lt (by rw [x0']; rfl)
            have y6 := (gW.cell _ _ hb).trans x6'
            have hbr : b < wr.heap.size := by omega
            have hfb := HB.out.fl j f hf
            have hln := hfb.ln
            have han : anOk f.an := (HG.out.fl.fl j f (by omega) hf).2.2.1
            have hde0 : (dR t f).2.2 = 0 := by
              have := firE_zero (dlE_zero hd0).2.2.2 j (by omega)
              rwa [dA_at hf] at this
            obtain ⟨htk, hn1, hn2⟩ := dR_ok hde0
            obtain ⟨d1', d2', d3', hdr⟩ : ∃ a b c, dR t f = (a, b, c) := ⟨_, _, _, rfl⟩
            rw [hdr] at hde0 htk
            simp only at hde0 htk
            subst hde0
            have HTK := hide (fun w => Ticks_any d1' d2' w)
            rw [htk] at HTK
            have HD9 := hide (show ∀ z : Int, z = abI f.an → ∀ w', Gr w w' → Calls Tryz.prog 17 #[tbv t C q, iv z] w' fun e w'' => e = .returned (trV (d1', d2', 0)) ∧ Gr w' w'' from fun z hz w' g => by
              have h := HDE.out z w' g
              rw [show dedA t z = (d1', d2', 0) by rw [hz]; exact hdr] at h
              exact h)
            have WN : IntKind.i64.wrap (-f.an) = -f.an := IntWalk.i64_in _ (by unfold anOk at han; omega)
            have HA1 := hide (show ¬ f.an < 0 → f.an = abI f.an from fun h => by unfold abI; rw [if_neg h])
            have HA2 := hide (show f.an < 0 → -f.an = abI f.an from fun h => by unfold abI; rw [if_pos h])
            have U1 : IntKind.i64.wrap (f.ln * 720) = f.ln * 720 := IntWalk.i64_in _ (by omega)
            have U2 : IntKind.i64.wrap (f.ln * 720 - dT t f) = f.ln * 720 - dT t f := IntWalk.i64_in _ (by omega)
            have U3 : IntKind.i64.wrap ((j : Int) + 1 - 1) = (j : Int) := by rw [IntWalk.i64_in _ (by omega)]; omega
            have hj0 : (0 : Int) ≤ (j : Int) := by omega
            have hj1 : (j : Int) < (p.fl.length : Int) := by omega
            clear h0 hd0 hva hgl hxx e2 hqq HSZ HDE x0' x1' x2' x3' x4' x5' x6' hf hdr htk s1' s2' s3' hfb hz
            generalize dT t f = n at *
            have hsg : f.an < 0 ∨ ¬ f.an < 0 := Decidable.em _
            go_wp2_with fail
            refine (HS9.out _ (by omega) _ gW).mono ?_
            rintro e w6 ⟨rfl, g6⟩
            obtain ⟨X6, Y6, c6, f6⟩ := g6.use
            have z6 := g6.size
            have v0 : w.heap.size < w6.heap.size := by omega
            have v1 : w.heap.size + 1 < w6.heap.size := by omega
            have v2 : ba < w6.heap.size := by omega
            have v3 : b < w6.heap.size := by omega
            rcases hsg with hsg | hsg
            case' inl => have HD8 := hide (HD9.out (-f.an) (HA2.out hsg))
            case' inr => have HD8 := hide (HD9.out f.an (HA1.out hsg))
            all_goals
              clear HD9 HA1 HA2
              go_wp2_with fail
              refine (HD8.out _ (gW.trans g6)).mono ?_
              rintro e w7 ⟨rfl, g7⟩
              obtain ⟨X7, Y7, c7, f7⟩ := g7.use
              have z7 := g7.size
              have v7 : ba < w7.heap.size := by omega
              go_wp2_with fail
              refine (HTK.out _).mono ?_
              rintro e w8 ⟨rfl, g8⟩
              obtain ⟨X8, Y8, c8, f8⟩ := g8.use
              have z8 := g8.size
              simp only [World.size_alloc] at z8
              have v8 : ba < w8.heap.size := by omega
              go_wp2_with fail
              go_roundw
              case rel => exact ⟨j + 2, by omega, by go_num, g.trans (by repeat (first | with_reducible exact Gr.refl _ | with_reducible assumption | with_reducible refine Gr.alloc ?_ _ | with_reducible refine Gr.drewN ?_ _ | with_reducible refine Gr.drew ?_ | with_reducible refine Gr.setCell ?_ (by first | (dsimp only; omega) | (simp only [World.size_alloc]; omega) | (with_reducible refine Gr.size ?_; (repeat (first | with_reducible exact Gr.refl _ | with_reducible assumption | with_reducible refine Gr.alloc ?_ _ | with_reducible refine Gr.drewN ?_ _ | with_reducible refine Gr.drew ?_ | with_reducible refine Gr.trans ?_ (by with_reducible assumption))); done)) _ | with_reducible refine Gr.trans ?_ (by with_reducible assumption)))⟩
              case measure => simp only [intOf]; omega
        · go_wp2_with (first | (go_at_call 7; refine (known3_any _).mono ?_; rintro e w1 ⟨rfl, g1⟩; obtain ⟨X1, Y1, c1, f1⟩ := g1.use; have z1 := g1.size; (try simp only [World.size_alloc, World.size_setCell, World.heap_drewN, Nat.add_one_le_iff] at z1); (try have l0 : w.heap.size < w1.heap.size := by omega); (try have l1 : w.heap.size + 1 < w1.heap.size := by omega); (try have l2 : w.heap.size + 1 + 1 < w1.heap.size := by omega)))
          go_ret
          exact ⟨rfl, gW.trans (by repeat (first | with_reducible exact Gr.refl _ | with_reducible assumption | with_reducible refine Gr.alloc ?_ _ | with_reducible refine Gr.drewN ?_ _ | with_reducible refine Gr.drew ?_ | with_reducible refine Gr.setCell ?_ (by first | (dsimp only; omega) | (simp only [World.size_alloc]; omega) | (with_reducible refine Gr.size ?_; (repeat (first | with_reducible exact Gr.refl _ | with_reducible assumption | with_reducible refine Gr.alloc ?_ _ | with_reducible refine Gr.drewN ?_ _ | with_reducible refine Gr.drew ?_ | with_reducible refine Gr.trans ?_ (by with_reducible assumption))); done)) _ | with_reducible refine Gr.trans ?_ (by with_reducible assumption)))⟩
end Go.Proofs.YtdabhnefoigebaaGreat
