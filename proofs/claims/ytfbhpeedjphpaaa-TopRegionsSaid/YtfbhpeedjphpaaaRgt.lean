/-
  Regions: Outline of the code.
-/
import Derived.Test.YtfbhpeedjphpaaaRgr
set_option linter.unusedVariables false
set_option linter.unusedSimpArgs false
namespace Go.Proofs.Ytfbhpeedjphpaaa
set_option linter.unusedVariables false
set_option linter.unusedSimpArgs false
open Go Go.ChangeShapes Go.WideShapes Go.ChangeAt Go.RowKit Go.Deep

namespace RG
theorem spU_ne {O : List Sp} {last now p q : Int} (h : O ≠ []) : spU O last now p q ≠ [] := by
  unfold spU
  split
  · exact h
  · split <;> simp
theorem spS_some {X : List Int} {sd : Nat → Int} : ∀ {k i : Nat}, i < k → sd i ≠ 0 → (spS X sd k).1 ≠ []
  | 0, i, h, _ => by omega
  | k + 1, i, h, hs => by
    rcases Nat.lt_or_ge i k with c | c
    · exact spU_ne (spS_some c hs)
    · obtain rfl : i = k := by omega
      show spU _ _ (sd i) _ _ ≠ []
      unfold spU
      rw [if_neg hs]
      split <;> simp
theorem vt_ne {l : List Rc} (h : l ≠ []) (hv : ∀ r ∈ l, InM 1048576 r) : vtL (lnX l) (lnY l) (cel (lnX l) (lnY l) l) (lnX l).length ≠ [] := by
  obtain ⟨r0, hr0⟩ := List.exists_mem_of_ne_nil l h
  have h0 : 0 < (lnX l).length := List.length_pos_of_mem (mem_lnX.2 ⟨r0, hr0, .inl rfl⟩)
  obtain ⟨x0, hx0⟩ : ∃ x, (lnX l)[0]? = some x := ⟨_, List.getElem?_eq_getElem h0⟩
  obtain ⟨r, hr, hrx⟩ : ∃ r ∈ l, x0 = r.x := by
    obtain ⟨r, hr, e⟩ := mem_lnX.1 (List.mem_of_getElem? hx0)
    rcases e with e | e
    · exact ⟨r, hr, e⟩
    · obtain ⟨i, hi⟩ := List.mem_iff_getElem?.1 (mem_lnX.2 ⟨r, hr, .inl rfl⟩ : r.x ∈ lnX l)
      have := (up_lnX l).le hx0 hi (by omega)
      have := (hv r hr).w
      omega
  have hw := (hv r hr).w
  have hh := (hv r hr).h
  obtain ⟨j, hj⟩ := List.mem_iff_getElem?.1 (mem_lnY.2 ⟨r, hr, .inl rfl⟩ : r.y ∈ lnY l)
  obtain ⟨j', hj'⟩ := List.mem_iff_getElem?.1 (mem_lnY.2 ⟨r, hr, .inr rfl⟩ : r.y + r.h ∈ lnY l)
  have hjj := ((up_lnY l).lt_iff hj hj').1 (by omega)
  have hj'l := (List.getElem?_eq_some_iff.1 hj').1
  have hc : cel (lnX l) (lnY l) l 0 j = true := by
    unfold cel
    rw [hx0, hj]
    exact cov_true hr (inR_iff.2 (by simp only [Option.getD_some]; omega))
  have hs : vtS (lnX l) (lnY l) (cel (lnX l) (lnY l) l) 0 ≠ [] := by
    unfold vtS
    refine spS_some (i := j) (by omega) ?_
    unfold atV
    rw [if_neg (by omega), if_pos (by omega)]
    simp [hc, sdV]
  intro e
  unfold vtL at e
  rw [List.flatMap_eq_nil_iff] at e
  have := e 0 (by simpa using h0)
  unfold sgOfV at this
  exact hs (List.map_eq_nil_iff.1 this)
/-- the outline -/
def outV (l : List Rc) : List Sg := if ceL l = 0 then hzL (lnX l) (lnY l) (cel (lnX l) (lnY l) l) (lnY l).length ++ vtL (lnX l) (lnY l) (cel (lnX l) (lnY l) l) (lnX l).length else []
theorem outV_nil : outV [] = [] := rfl
set_option maxHeartbeats 2000000 in
set_option maxRecDepth 100000 in
theorem horizontal0_any (A B F : Option Addr) (a b f lo hi : Nat) (rb : Nat → Nat) (c : Nat → Nat → Bool) (w : World) (hG : GrM w lo hi [] [] A B F a b f rb c) :
    Calls Try.prog 17 #[grv [] [] A B F a b f] w fun e w' => e = .returned (.slice none 0 0) ∧ Gr w w' := by
  clear hG
  go_enter Try.func17, Try.ntmps17
  go_wp2
  go_loopw [3, 11] (fun v jv wr => v = .slice none 0 0 ∧ jv = iv 0 ∧ Gr w wr) (fun _ jv _ => 0)
  case atStart => exact ⟨rfl, rfl, (by repeat (first | with_reducible exact Gr.refl _ | with_reducible assumption | with_reducible refine Gr.alloc ?_ _ | with_reducible refine Gr.drewN ?_ _ | with_reducible refine Gr.drew ?_ | with_reducible refine Gr.setCell ?_ (by first | (dsimp only; omega) | (simp only [World.size_alloc]; omega) | (with_reducible refine Gr.size ?_; (repeat (first | with_reducible exact Gr.refl _ | with_reducible assumption | with_reducible refine Gr.alloc ?_ _ | with_reducible refine Gr.drewN ?_ _ | with_reducible refine Gr.drew ?_ | with_reducible refine Gr.trans ?_ (by with_reducible assumption))); done)) _ | with_reducible refine Gr.trans ?_ (by with_reducible assumption)))⟩
  case round =>
    obtain ⟨rfl, rfl, g⟩ := hrel
    go_wp2
    go_ret
    exact ⟨rfl, g⟩
set_option maxHeartbeats 2000000 in
set_option maxRecDepth 100000 in
theorem vertical0_any (A B F : Option Addr) (a b f lo hi : Nat) (rb : Nat → Nat) (c : Nat → Nat → Bool) (w : World) (hG : GrM w lo hi [] [] A B F a b f rb c) :
    Calls Try.prog 18 #[grv [] [] A B F a b f] w fun e w' => e = .returned (.slice none 0 0) ∧ Gr w w' := by
  clear hG
  go_enter Try.func18, Try.ntmps18
  go_wp2
  go_loopw [3, 11] (fun v jv wr => v = .slice none 0 0 ∧ jv = iv 0 ∧ Gr w wr) (fun _ jv _ => 0)
  case atStart => exact ⟨rfl, rfl, (by repeat (first | with_reducible exact Gr.refl _ | with_reducible assumption | with_reducible refine Gr.alloc ?_ _ | with_reducible refine Gr.drewN ?_ _ | with_reducible refine Gr.drew ?_ | with_reducible refine Gr.setCell ?_ (by first | (dsimp only; omega) | (simp only [World.size_alloc]; omega) | (with_reducible refine Gr.size ?_; (repeat (first | with_reducible exact Gr.refl _ | with_reducible assumption | with_reducible refine Gr.alloc ?_ _ | with_reducible refine Gr.drewN ?_ _ | with_reducible refine Gr.drew ?_ | with_reducible refine Gr.trans ?_ (by with_reducible assumption))); done)) _ | with_reducible refine Gr.trans ?_ (by with_reducible assumption)))⟩
  case round =>
    obtain ⟨rfl, rfl, g⟩ := hrel
    go_wp2
    go_ret
    exact ⟨rfl, g⟩
theorem own_some {α : Type} {c : α → List Value} {w : World} {base : Nat} {e : TypeId} {k n d : Nat} {A : Option Addr} {xs : List α} (h : OwnL w base e k c (.slice A n d) xs) (h0 : 0 < xs.length) : ∃ G, A = some ⟨G, 0, none⟩ := by
  rcases h.2 with ⟨_, q⟩ | ⟨G, cap, cur, q, _⟩
  · omega
  · cases q
    exact ⟨G, rfl⟩
theorem own_news {α : Type} {c : α → List Value} {w : World} {base : Nat} {e : TypeId} {k d G : Nat} {xs : List α} (h : OwnL w base e k c (.slice (some ⟨G, 0, none⟩) xs.length d) xs) : ∀ j u, (xs.flatMap c)[j]? = some u → w.cell? ((⟨G, 0, none⟩ : Addr).add j) = some u := by
  intro j u hu
  have hj : j < (xs.flatMap c).length := (List.getElem?_eq_some_iff.1 hu).1
  rw [addr_add, Nat.zero_add, World.ownsRow.cellAt (h := h) j (by rw [← h.1]; exact hj)]
  exact hu
theorem one_sgs (l : List Sg) : ∀ u ∈ l.flatMap sgL, u.oneCell' = true := by
  intro u hu
  obtain ⟨s, _, hs⟩ := List.mem_flatMap.1 hu
  exact one_sg s u hs
/-- what Outline returns -/
def OutP (w : World) (L : List Sg) (er : Int) (e : Ending) (w' : World) : Prop := ∃ (D : Option Addr) (d : Nat), e = .returned (sle (.slice D L.length d) er) ∧ OwnL w' w.heap.size 50 4 sgL (.slice D L.length d) L ∧ Gr w w'
set_option maxHeartbeats 8000000 in
set_option maxRecDepth 100000 in
theorem Outline_any (A : Option Addr) (c : Nat) (l : List Rc) (w : World) (hl : SlR w A c l) :
    Calls Try.prog 8 #[.slice A l.length c] w (OutP w (outV l) (ceL l)) := by
  have HL := hide hl
  have HCR := hide (fun (w' : World) (g : Gr w w') => checkRects_any (some ⟨w'.heap.size, 0, none⟩) 1 [⟨A, c, l⟩] (w'.alloc (.cells #[.slice A l.length c] 22)) (slRR_1 _ (hl.gr g)))
  rw [ceLL_one] at HCR
  by_cases h0 : ceL l = 0
  · obtain ⟨k1, k2⟩ := ceL_zero h0
    have HK := hide k2
    have HNG := hide (fun (w' : World) (g : Gr w w') => newGrid_any (some ⟨w'.heap.size, 0, none⟩) 1 [⟨A, c, l⟩] (w'.alloc (.cells #[.slice A l.length c] 22)) (slRR_1 _ (hl.gr g)) (by simp) (fun x hx => by rw [List.mem_singleton] at hx; subst hx; exact ⟨k1, k2⟩))
    rw [allR_one] at HNG
    have HE := hide (show outV l = hzL (lnX l) (lnY l) (cel (lnX l) (lnY l) l) (lnY l).length ++ vtL (lnX l) (lnY l) (cel (lnX l) (lnY l) l) (lnX l).length from if_pos h0)
    have HSD := hide (sides (l := l) (m := l) (fun r hr => hr))
    have HU := hide (up_lnX l)
    have HV := hide (up_lnY l)
    have HFC := hide (fun p q => flC_full (lnX l) (lnY l) l p q)
    have HLT := hide (slR_lt hl)
    have HNE := hide (fun hne => vt_ne (l := l) hne k2)
    have HNIL := hide (show l = [] → lnX l = [] ∧ lnY l = [] by rintro rfl; exact ⟨rfl, rfl⟩)
    rw [h0] at HCR ⊢
    clear hl h0 k2
    generalize cel (lnX l) (lnY l) l = CC at *
    generalize lnX l = X at *
    generalize lnY l = Y at *
    go_enter Try.func8, Try.ntmps8
    go_wp2_with fail
    refine (HCR.out _ (Gr.refl _)).mono ?_
    rintro e w2 ⟨rfl, g2⟩
    have g2' : Gr w w2 := Gr.trans (Gr.alloc (Gr.refl _) _) g2
    clear HCR g2
    go_wp2_with fail
    refine (HNG.out _ g2').mono ?_
    rintro e w3 ⟨A1, B1, F1, a, b, f, rb, rfl, hG, g3⟩
    have g3' : Gr w2 w3 := Gr.trans (Gr.alloc (Gr.refl _) _) g3
    have sz3 := g3.size
    have sz2 := g2'.size
    simp only [World.size_alloc] at hG sz3
    have HG := hide (hG.gr (show Gr w3 (w3.alloc (.cells #[.slice A1 X.length a, .slice B1 Y.length b, .slice F1 X.length f] 43)) from Gr.alloc (Gr.refl _) _))
    clear hG HNG g3
    go_upto_region 5 with fail
    have mS := Made.new w3 #[.slice A1 X.length a, .slice B1 Y.length b, .slice F1 X.length f] 43
    have g4 : Gr w3 (w3.alloc (.cells #[.slice A1 X.length a, .slice B1 Y.length b, .slice F1 X.length f] 43)) := Gr.alloc (Gr.refl _) _
    generalize w3.alloc (.cells #[.slice A1 X.length a, .slice B1 Y.length b, .slice F1 X.length f] 43) = w4 at *
    obtain ⟨p0, p1, p2, -, -, -⟩ := made3 mS
    have HMS := hide mS
    have hS := mS.1
    have g04 : Gr w w4 := (g2'.trans g3').trans g4
    have hneS : ∀ i, i < X.length → w3.heap.size ≠ rb i := fun i hi => by have := (HG.out.lr i hi).2; omega
    have HNS := hide hneS
    clear mS hneS
    go_wp2_with fail
    refine (fill_any X Y A1 B1 F1 a b f _ _ rb _ A c l w4 HG.out (HL.out.gr g04) (fun x hx hne => by have := HLT.out x hx hne; omega) (by omega) HU.out HV.out HSD.out HK.out (by omega)).mono ?_
    rintro e w5 ⟨rfl, hF, hG5⟩
    have HG5 := hide (hG5.congr fun i j _ _ => HFC.out i j)
    have g5 : Gr w w5 := hF.below w g04 (by omega)
    have HM5 := hide (made_fld HMS.out hF fun i hi => HNS.out i hi)
    obtain ⟨q0, q1, q2, -, -, -⟩ := made3 HM5.out
    have hS5 := HM5.out.1
    have sz5 := g5.size
    clear hF hG5 p0 p1 p2 HMS HNS hS HG HLT HSD HFC HU HV HK HL g2' g3' g4 g04 sz3 sz2
    by_cases hne : l = []
    · obtain ⟨rfl, rfl⟩ := HNIL.out hne
      have HE0 := hide (show outV l = [] by rw [hne]; exact outV_nil)
      clear hne HNE HNIL HE
      go_upto_region 6 with fail
      have GC := @GrW.cell
      refine wp_region_grw _ (by kernel_rfl) (by kernel_rfl) (Gr.refl _) ?_
      repeat (go_big_quiet_step ((first | (go_at_call 17; exact quiet_grw (horizontal0_any A1 B1 F1 a b f _ _ rb CC _ (HG5.out.gr (GrW.gr _)))) | (go_at_call 18; exact quiet_grw (vertical0_any A1 B1 F1 a b f _ _ rb CC _ (HG5.out.gr (GrW.gr _)))))))
      refine wpQuiet_nil ?_
      intro wq hwq
      obtain ⟨gq, hwq'⟩ := hwq
      subst hwq'
      clear GC
      have gq1 := gq.gr
      generalize gq.w = wq at gq1 ⊢
      obtain ⟨Xq, Yq, cq, fq⟩ := gq1.use
      have sq := gq1.size
      (try simp only [World.size_alloc, World.size_setCell, World.heap_drewN] at sq)
      go_wp2
      go_ret2
      exact ⟨none, 0, by rw [HE0.out]; rfl, by rw [HE0.out]; exact own_nil _ _ _ _ _, g5.trans (by repeat (first | with_reducible exact Gr.refl _ | with_reducible assumption | with_reducible refine Gr.alloc ?_ _ | with_reducible refine Gr.drewN ?_ _ | with_reducible refine Gr.drew ?_ | with_reducible refine Gr.setCell ?_ (by first | (dsimp only; omega) | (simp only [World.size_alloc]; omega) | (with_reducible refine Gr.size ?_; (repeat (first | with_reducible exact Gr.refl _ | with_reducible assumption | with_reducible refine Gr.alloc ?_ _ | with_reducible refine Gr.drewN ?_ _ | with_reducible refine Gr.drew ?_ | with_reducible refine Gr.trans ?_ (by with_reducible assumption))); done)) _ | with_reducible refine Gr.trans ?_ (by with_reducible assumption)))⟩
    · have HV0 := hide (HNE.out hne)
      clear hne HNE HNIL
      obtain ⟨HZ, hHZ⟩ : ∃ HZ, hzL X Y CC Y.length = HZ := ⟨_, rfl⟩
      obtain ⟨VT, hVT⟩ : ∃ VT, vtL X Y CC X.length = VT := ⟨_, rfl⟩
      have HHc := hide (fun (w' : World) (g : Gr w5 w') => horizontal_any X Y A1 B1 F1 a b f _ _ rb CC w' (HG5.out.gr g))
      have HVc := hide (fun (w' : World) (g : Gr w5 w') => vertical_any X Y A1 B1 F1 a b f _ _ rb CC w' (HG5.out.gr g))
      rw [hHZ] at HHc HE
      rw [hVT] at HVc HE HV0
      obtain ⟨i0, z0, hi0, hz0, hsz0, hby0, hzc0⟩ := elSg.inf
      clear hHZ hVT HG5 HM5
      have hv0 : 0 < VT.length := List.length_pos_iff.2 HV0.out
      go_upto_region 6 with fail
      go_region_law (first
        | (go_simp; go_at_call 17; refine (HHc.out _ (by repeat (first | with_reducible exact Gr.refl _ | with_reducible assumption | with_reducible refine Gr.alloc ?_ _ | with_reducible refine Gr.drewN ?_ _ | with_reducible refine Gr.drew ?_ | with_reducible refine Gr.setCell ?_ (by first | (dsimp only; omega) | (simp only [World.size_alloc]; omega) | (with_reducible refine Gr.size ?_; (repeat (first | with_reducible exact Gr.refl _ | with_reducible assumption | with_reducible refine Gr.alloc ?_ _ | with_reducible refine Gr.drewN ?_ _ | with_reducible refine Gr.drew ?_ | with_reducible refine Gr.trans ?_ (by with_reducible assumption))); done)) _ | with_reducible refine Gr.trans ?_ (by with_reducible assumption)))).mono ?_; rintro e w6 ⟨D6, d6, rfl, ho6, hl6, g6⟩; (have HO6 := hide (OwnL.weak ho6 (show w5.heap.size ≤ _ from Gr.size (by repeat (first | with_reducible exact Gr.refl _ | with_reducible assumption | with_reducible refine Gr.alloc ?_ _ | with_reducible refine Gr.drewN ?_ _ | with_reducible refine Gr.drew ?_ | with_reducible refine Gr.setCell ?_ (by first | (dsimp only; omega) | (simp only [World.size_alloc]; omega) | (with_reducible refine Gr.size ?_; (repeat (first | with_reducible exact Gr.refl _ | with_reducible assumption | with_reducible refine Gr.alloc ?_ _ | with_reducible refine Gr.drewN ?_ _ | with_reducible refine Gr.drew ?_ | with_reducible refine Gr.trans ?_ (by with_reducible assumption))); done)) _ | with_reducible refine Gr.trans ?_ (by with_reducible assumption)))))); clear ho6; obtain ⟨X6, Y6, c6, f6⟩ := g6.use)
        | (go_simp; go_at_call 18; refine (HVc.out _ (by repeat (first | with_reducible exact Gr.refl _ | with_reducible assumption | with_reducible refine Gr.alloc ?_ _ | with_reducible refine Gr.drewN ?_ _ | with_reducible refine Gr.drew ?_ | with_reducible refine Gr.setCell ?_ (by first | (dsimp only; omega) | (simp only [World.size_alloc]; omega) | (with_reducible refine Gr.size ?_; (repeat (first | with_reducible exact Gr.refl _ | with_reducible assumption | with_reducible refine Gr.alloc ?_ _ | with_reducible refine Gr.drewN ?_ _ | with_reducible refine Gr.drew ?_ | with_reducible refine Gr.trans ?_ (by with_reducible assumption))); done)) _ | with_reducible refine Gr.trans ?_ (by with_reducible assumption)))).mono ?_; rintro e w7 ⟨D7, d7, rfl, ho7, hl7, g7⟩; (obtain ⟨G7, rfl⟩ := own_some ho7 hv0); (have HO7 := hide (OwnL.weak ho7 (show w5.heap.size ≤ _ from Gr.size (by repeat (first | with_reducible exact Gr.refl _ | with_reducible assumption | with_reducible refine Gr.alloc ?_ _ | with_reducible refine Gr.drewN ?_ _ | with_reducible refine Gr.drew ?_ | with_reducible refine Gr.setCell ?_ (by first | (dsimp only; omega) | (simp only [World.size_alloc]; omega) | (with_reducible refine Gr.size ?_; (repeat (first | with_reducible exact Gr.refl _ | with_reducible assumption | with_reducible refine Gr.alloc ?_ _ | with_reducible refine Gr.drewN ?_ _ | with_reducible refine Gr.drew ?_ | with_reducible refine Gr.trans ?_ (by with_reducible assumption))); done)) _ | with_reducible refine Gr.trans ?_ (by with_reducible assumption)))))); clear ho7; obtain ⟨X7, Y7, c7, f7⟩ := g7.use)
        | (refine step_append_lies _ (by rfl) _ _ _ (by rfl) w5.heap.size 50 i0 _ 4 32 elSg.und hi0 hz0 hsz0 hby0 hzc0 (by decide) _ HZ.length (HZ.flatMap sgL) (by rfl) (own_gr HO6.out (by repeat (first | with_reducible exact Gr.refl _ | with_reducible assumption | with_reducible refine Gr.alloc ?_ _ | with_reducible refine Gr.drewN ?_ _ | with_reducible refine Gr.drew ?_ | with_reducible refine Gr.setCell ?_ (by first | (dsimp only; omega) | (simp only [World.size_alloc]; omega) | (with_reducible refine Gr.size ?_; (repeat (first | with_reducible exact Gr.refl _ | with_reducible assumption | with_reducible refine Gr.alloc ?_ _ | with_reducible refine Gr.drewN ?_ _ | with_reducible refine Gr.drew ?_ | with_reducible refine Gr.trans ?_ (by with_reducible assumption))); done)) _ | with_reducible refine Gr.trans ?_ (by with_reducible assumption)))) ⟨G7, 0, none⟩ VT.length d7 (VT.flatMap sgL) (by rfl) (fm_len (c := sgL) (k := 4) (fun _ => rfl) VT) (own_news (HO7.out.gr (by repeat (first | with_reducible exact Gr.refl _ | with_reducible assumption | with_reducible refine Gr.alloc ?_ _ | with_reducible refine Gr.drewN ?_ _ | with_reducible refine Gr.drew ?_ | with_reducible refine Gr.setCell ?_ (by first | (dsimp only; omega) | (simp only [World.size_alloc]; omega) | (with_reducible refine Gr.size ?_; (repeat (first | with_reducible exact Gr.refl _ | with_reducible assumption | with_reducible refine Gr.alloc ?_ _ | with_reducible refine Gr.drewN ?_ _ | with_reducible refine Gr.drew ?_ | with_reducible refine Gr.trans ?_ (by with_reducible assumption))); done)) _ | with_reducible refine Gr.trans ?_ (by with_reducible assumption))))) (one_sgs VT) hv0 (by unfold maxLen; omega) (by omega) (Gr.size (by repeat (first | with_reducible exact Gr.refl _ | with_reducible assumption | with_reducible refine Gr.alloc ?_ _ | with_reducible refine Gr.drewN ?_ _ | with_reducible refine Gr.drew ?_ | with_reducible refine Gr.setCell ?_ (by first | (dsimp only; omega) | (simp only [World.size_alloc]; omega) | (with_reducible refine Gr.size ?_; (repeat (first | with_reducible exact Gr.refl _ | with_reducible assumption | with_reducible refine Gr.alloc ?_ _ | with_reducible refine Gr.drewN ?_ _ | with_reducible refine Gr.drew ?_ | with_reducible refine Gr.trans ?_ (by with_reducible assumption))); done)) _ | with_reducible refine Gr.trans ?_ (by with_reducible assumption)))) _ rfl ?_; intro gg cap1 w8 hown8 hgrow hat hlt))
      all_goals
        have g8 : Gr w5 w8 := Gr.grown (show Gr w5 _ from (by repeat (first | with_reducible exact Gr.refl _ | with_reducible assumption | with_reducible refine Gr.alloc ?_ _ | with_reducible refine Gr.drewN ?_ _ | with_reducible refine Gr.drew ?_ | with_reducible refine Gr.setCell ?_ (by first | (dsimp only; omega) | (simp only [World.size_alloc]; omega) | (with_reducible refine Gr.size ?_; (repeat (first | with_reducible exact Gr.refl _ | with_reducible assumption | with_reducible refine Gr.alloc ?_ _ | with_reducible refine Gr.drewN ?_ _ | with_reducible refine Gr.drew ?_ | with_reducible refine Gr.trans ?_ (by with_reducible assumption))); done)) _ | with_reducible refine Gr.trans ?_ (by with_reducible assumption)))) hgrow (fun k hk => (World.ownsRow.lt HO6.out k hk).1)
        have HO8 := hide (show OwnL w8 w.heap.size 50 4 sgL (.slice (some ⟨gg, 0, none⟩) (HZ ++ VT).length cap1) (HZ ++ VT) from OwnL.weak (show OwnL w8 w5.heap.size 50 4 sgL (.slice (some ⟨gg, 0, none⟩) (HZ ++ VT).length cap1) (HZ ++ VT) by
          unfold OwnL
          rw [List.length_append, List.flatMap_append]
          exact hown8) sz5)
        clear hown8 hgrow hat hlt
        go_wp2
        go_ret2
        exact ⟨some ⟨gg, 0, none⟩, cap1, by rw [HE.out, List.length_append]; rfl, by rw [HE.out]; exact HO8.out, g5.trans g8⟩
  · have HE := hide (show outV l = [] from if_neg h0)
    have h0' : (ceL l == 0) = false := by simpa using h0
    have h0'' : (ceL l != 0) = true := by simpa using h0
    clear hl h0
    generalize ceL l = E at *
    go_enter Try.func8, Try.ntmps8
    go_wp2_with fail
    refine (HCR.out _ (Gr.refl _)).mono ?_
    rintro e w2 ⟨rfl, g2⟩
    have g2' : Gr w w2 := Gr.trans (Gr.alloc (Gr.refl _) _) g2
    go_wp2_with fail
    go_ret2
    exact ⟨none, 0, by rw [HE.out]; rfl, by rw [HE.out]; exact own_nil _ _ _ _ _, g2'⟩
end RG
end Go.Proofs.Ytfbhpeedjphpaaa
