/-
  Regions: Area and SameRegion of the code.
-/
import Derived.Test.YtfbhpeedjphpaaaRgo
import Derived.Test.YtfbhpeedjphpaaaRgf
set_option linter.unusedVariables false
set_option linter.unusedSimpArgs false
namespace Go.Proofs.Ytfbhpeedjphpaaa
set_option linter.unusedVariables false
set_option linter.unusedSimpArgs false
open Go Go.ChangeShapes Go.WideShapes Go.ChangeAt Go.RowKit Go.Deep

namespace RG
theorem ceLL_one (A : Option Addr) (c : Nat) (l : List Rc) : ceLL [⟨A, c, l⟩] = ceL l := by
  unfold ceLL ceL
  simp only [List.any_cons, List.any_nil, Bool.or_false, decide_eq_true_eq, List.all_cons, List.all_nil, Bool.and_true]
theorem allR_one (A : Option Addr) (c : Nat) (l : List Rc) : allR [⟨A, c, l⟩] = l := by simp [allR]
theorem allR_two (A B : Option Addr) (c d : Nat) (l m : List Rc) : allR [⟨A, c, l⟩, ⟨B, d, m⟩] = l ++ m := by simp [allR]
/-- the error of two lists -/
def ceT (a b : List Rc) : Int := if 48 < a.length ∨ 48 < b.length then 4 else if ceL a = 0 ∧ ceL b = 0 then 0 else 1
theorem ceLL_two (A B : Option Addr) (c d : Nat) (l m : List Rc) : ceLL [⟨A, c, l⟩, ⟨B, d, m⟩] = ceT l m := by
  unfold ceLL ceT ceL
  simp only [List.any_cons, List.any_nil, Bool.or_false, Bool.or_eq_true, decide_eq_true_eq, List.all_cons, List.all_nil, Bool.and_true, Bool.and_eq_true]
  by_cases h1 : 48 < l.length ∨ 48 < m.length
  · rw [if_pos h1, if_pos h1]
  · rw [if_neg h1, if_neg h1, if_neg (show ¬ 48 < l.length by omega), if_neg (show ¬ 48 < m.length by omega)]
    cases e1 : l.all vrR <;> cases e2 : m.all vrR <;> simp
theorem ceT_zero {a b : List Rc} (h : ceT a b = 0) : ceL a = 0 ∧ ceL b = 0 := by
  unfold ceT at h
  split at h
  · cases h
  · split at h
    · assumption
    · cases h
theorem ceT_of {a b : List Rc} (h1 : ceL a = 0) (h2 : ceL b = 0) : ceT a b = 0 := by
  obtain ⟨k1, _⟩ := ceL_zero h1
  obtain ⟨k2, _⟩ := ceL_zero h2
  unfold ceT
  rw [if_neg (by omega), if_pos ⟨h1, h2⟩]
theorem sides {l m : List Rc} (h : ∀ r ∈ m, r ∈ l) : ∀ r ∈ m, r.x ∈ lnX l ∧ r.x + r.w ∈ lnX l ∧ r.y ∈ lnY l ∧ r.y + r.h ∈ lnY l :=
  fun r hr => ⟨mem_lnX.2 ⟨r, h r hr, .inl rfl⟩, mem_lnX.2 ⟨r, h r hr, .inr rfl⟩, mem_lnY.2 ⟨r, h r hr, .inl rfl⟩, mem_lnY.2 ⟨r, h r hr, .inr rfl⟩⟩
theorem slR_lt {w : World} {A : Option Addr} {c : Nat} {l : List Rc} (h : SlR w A c l) : ∀ x, A = some x → l ≠ [] → x.block < w.heap.size := by
  intro x hx hne
  obtain ⟨r, hr⟩ : ∃ r, l[0]? = some r := ⟨_, List.getElem?_eq_getElem (List.length_pos_iff.2 hne)⟩
  obtain ⟨b, off, e, h0, _⟩ := h.at_ hr
  rw [hx] at e
  cases e
  exact cell_lt (by rw [h0]; rfl)
theorem flC_full (X Y : List Int) (l : List Rc) (p q : Nat) : flC (fun _ _ => false) X Y l l.length p q = cel X Y l p q := by
  unfold flC
  rw [List.take_length, Bool.false_or]
/-- what Area returns -/
def arV (l : List Rc) : Int := if ceL l = 0 then areaV l else 0
set_option maxHeartbeats 4000000 in
set_option maxRecDepth 100000 in
theorem Area_any (A : Option Addr) (c : Nat) (l : List Rc) (w : World) (hl : SlR w A c l) :
    Calls Try.prog 6 #[.slice A l.length c] w fun e w' => e = .returned (sle (iv (arV l)) (ceL l)) ∧ Gr w w' := by
  have HL := hide hl
  have HCR := hide (fun (w' : World) (g : Gr w w') => checkRects_any (some ⟨w'.heap.size, 0, none⟩) 1 [⟨A, c, l⟩] (w'.alloc (.cells #[.slice A l.length c] 22)) (slRR_1 _ (hl.gr g)))
  rw [ceLL_one] at HCR
  by_cases h0 : ceL l = 0
  · obtain ⟨k1, k2⟩ := ceL_zero h0
    have HK := hide k2
    have HNG := hide (fun (w' : World) (g : Gr w w') => newGrid_any (some ⟨w'.heap.size, 0, none⟩) 1 [⟨A, c, l⟩] (w'.alloc (.cells #[.slice A l.length c] 22)) (slRR_1 _ (hl.gr g)) (by simp) (fun x hx => by rw [List.mem_singleton] at hx; subst hx; exact ⟨k1, k2⟩))
    rw [allR_one] at HNG
    have HE := hide (show arV l = areaV l from if_pos h0)
    have HE2 := hide (show sumX (lnX l) (lnY l) (cel (lnX l) (lnY l) l) ((lnX l).length - 1) = areaV l from rfl)
    have HSD := hide (sides (l := l) (m := l) (fun r hr => hr))
    have HU := hide (up_lnX l)
    have HV := hide (up_lnY l)
    have HFC := hide (fun p q => flC_full (lnX l) (lnY l) l p q)
    have HLT := hide (slR_lt hl)
    rw [h0] at HCR ⊢
    clear hl h0 k2
    generalize cel (lnX l) (lnY l) l = CC at *
    generalize lnX l = X at *
    generalize lnY l = Y at *
    go_enter Try.func6, Try.ntmps6
    go_wp2_with fail
    refine (HCR.out _ (Gr.refl _)).mono ?_
    rintro e w2 ⟨rfl, g2⟩
    have g2' : Gr w w2 := Gr.trans (Gr.alloc (Gr.refl _) _) g2
    clear HCR g2
    go_wp2_with fail
    refine (HNG.out _ g2').mono ?_
    rintro e w3 ⟨A1, B1, F1, a, b, f, rb, rfl, hG, g3⟩
    have g3' : Gr w2 w3 := Gr.trans (Gr.alloc (Gr.refl _) _) g3
    have sz3 := g3.size
    have sz2 := g2'.size
    simp only [World.size_alloc] at hG sz3
    have HG := hide (hG.gr (show Gr w3 (w3.alloc (.cells #[.slice A1 X.length a, .slice B1 Y.length b, .slice F1 X.length f] 43)) from Gr.alloc (Gr.refl _) _))
    clear hG HNG g3
    go_upto_region 5 with fail
    have mS := Made.new w3 #[.slice A1 X.length a, .slice B1 Y.length b, .slice F1 X.length f] 43
    have g4 : Gr w3 (w3.alloc (.cells #[.slice A1 X.length a, .slice B1 Y.length b, .slice F1 X.length f] 43)) := Gr.alloc (Gr.refl _) _
    generalize w3.alloc (.cells #[.slice A1 X.length a, .slice B1 Y.length b, .slice F1 X.length f] 43) = w4 at *
    obtain ⟨p0, p1, p2, -, -, -⟩ := made3 mS
    have HMS := hide mS
    have hS := mS.1
    have g04 : Gr w w4 := (g2'.trans g3').trans g4
    have hneS : ∀ i, i < X.length → w3.heap.size ≠ rb i := fun i hi => by have := (HG.out.lr i hi).2; omega
    have HNS := hide hneS
    clear mS hneS
    go_wp2_with fail
    refine (fill_any X Y A1 B1 F1 a b f _ _ rb _ A c l w4 HG.out (HL.out.gr g04) (fun x hx hne => by have := HLT.out x hx hne; omega) (by omega) HU.out HV.out HSD.out HK.out (by omega)).mono ?_
    rintro e w5 ⟨rfl, hF, hG5⟩
    have HG5 := hide (hG5.congr fun i j _ _ => HFC.out i j)
    have g5 : Gr w w5 := hF.below w g04 (by omega)
    have mS5 := made_fld HMS.out hF fun i hi => HNS.out i hi
    obtain ⟨q0, q1, q2, -, -, -⟩ := made3 mS5
    have hS5 := mS5.1
    clear hF hG5 p0 p1 p2 mS5 HMS HNS hS HG
    go_wp2_with fail
    refine (area_any X Y A1 B1 F1 a b f _ _ rb _ w5 HG5.out).mono ?_
    rintro e w6 ⟨rfl, g6⟩
    go_wp2_with fail
    go_ret2
    exact ⟨by rw [HE.out, ← HE2.out]; rfl, g5.trans g6⟩
  · have HE := hide (show arV l = 0 from if_neg h0)
    have h0' : (ceL l == 0) = false := by simpa using h0
    have h0'' : (ceL l != 0) = true := by simpa using h0
    clear hl h0
    generalize ceL l = E at *
    go_enter Try.func6, Try.ntmps6
    go_wp2_with fail
    refine (HCR.out _ (Gr.refl _)).mono ?_
    rintro e w2 ⟨rfl, g2⟩
    have g2' : Gr w w2 := Gr.trans (Gr.alloc (Gr.refl _) _) g2
    go_wp2_with fail
    go_ret2
    exact ⟨by rw [HE.out]; rfl, g2'⟩
/-- what SameRegion returns -/
noncomputable def srB (a b : List Rc) : Bool := if ceT a b = 0 then smB (lnX (a ++ b)) (lnY (a ++ b)) a b else false
theorem smC_cel {l a b : List Rc} (ha : ∀ r ∈ a, r ∈ l) (hb : ∀ r ∈ b, r ∈ l) : smC (lnX l).length (lnY l).length (cel (lnX l) (lnY l) a) (cel (lnX l) (lnY l) b) = smB (lnX l) (lnY l) a b := by
  rw [Bool.eq_iff_iff]
  unfold smC smB
  rw [decide_eq_true_iff, @decide_eq_true_iff _ (Classical.propDecidable _)]
  constructor
  · exact fun h i j hi hj => h i (by omega) j (by omega)
  · intro h i hi j hj
    by_cases e1 : i + 1 = (lnX l).length
    · rw [cel_lastX ha e1, cel_lastX hb e1]
    · by_cases e2 : j + 1 = (lnY l).length
      · rw [cel_lastY ha e2, cel_lastY hb e2]
      · exact h i j (by omega) (by omega)
theorem app_l {l m : List Rc} : ∀ r ∈ l, r ∈ l ++ m := fun r hr => by simp [hr]
theorem app_r {l m : List Rc} : ∀ r ∈ m, r ∈ l ++ m := fun r hr => by simp [hr]
set_option maxHeartbeats 8000000 in
set_option maxRecDepth 100000 in
theorem SameRegion_any (A : Option Addr) (c : Nat) (l : List Rc) (B : Option Addr) (d : Nat) (m : List Rc) (w : World) (hl : SlR w A c l) (hm : SlR w B d m) :
    Calls Try.prog 7 #[.slice A l.length c, .slice B m.length d] w fun e w' => e = .returned (sle (.bool (srB l m)) (ceT l m)) ∧ Gr w w' := by
  have HL := hide hl
  have HM := hide hm
  have HCR := hide (fun (w' : World) (g : Gr w w') => checkRects_any (some ⟨w'.heap.size, 0, none⟩) 2 [⟨A, c, l⟩, ⟨B, d, m⟩] (w'.alloc (.cells #[.slice A l.length c, .slice B m.length d] 22)) (slRR_2 _ (hl.gr g) (hm.gr g)))
  rw [ceLL_two] at HCR
  by_cases h0 : ceT l m = 0
  · obtain ⟨h1, h2⟩ := ceT_zero h0
    obtain ⟨k1, k2⟩ := ceL_zero h1
    obtain ⟨k3, k4⟩ := ceL_zero h2
    have HK := hide k2
    have HK2 := hide k4
    have HNG := hide (fun (w' : World) (g : Gr w w') => newGrid_any (some ⟨w'.heap.size, 0, none⟩) 2 [⟨A, c, l⟩, ⟨B, d, m⟩] (w'.alloc (.cells #[.slice A l.length c, .slice B m.length d] 22)) (slRR_2 _ (hl.gr g) (hm.gr g)) (by simp) (fun x hx => by
      rcases List.mem_cons.1 hx with rfl | hx
      · exact ⟨k1, k2⟩
      · rw [List.mem_singleton] at hx; subst hx; exact ⟨k3, k4⟩))
    rw [allR_two] at HNG
    have HE := hide (show srB l m = smC (lnX (l ++ m)).length (lnY (l ++ m)).length (cel (lnX (l ++ m)) (lnY (l ++ m)) l) (cel (lnX (l ++ m)) (lnY (l ++ m)) m) by rw [smC_cel app_l app_r]; exact if_pos h0)
    have HSD := hide (sides (l := l ++ m) (m := l) app_l)
    have HSD2 := hide (sides (l := l ++ m) (m := m) app_r)
    have HU := hide (up_lnX (l ++ m))
    have HV := hide (up_lnY (l ++ m))
    have HFC := hide (fun p q => flC_full (lnX (l ++ m)) (lnY (l ++ m)) l p q)
    have HFC2 := hide (fun p q => flC_full (lnX (l ++ m)) (lnY (l ++ m)) m p q)
    have HLT := hide (slR_lt hl)
    have HLT2 := hide (slR_lt hm)
    rw [h0] at HCR ⊢
    clear hl hm h0 h1 h2 k2 k4
    generalize cel (lnX (l ++ m)) (lnY (l ++ m)) l = CC at *
    generalize cel (lnX (l ++ m)) (lnY (l ++ m)) m = CD at *
    generalize lnX (l ++ m) = X at *
    generalize lnY (l ++ m) = Y at *
    go_enter Try.func7, Try.ntmps7
    go_wp2_with fail
    refine (HCR.out _ (Gr.refl _)).mono ?_
    rintro e w2 ⟨rfl, g2⟩
    have g2' : Gr w w2 := Gr.trans (Gr.alloc (Gr.refl _) _) g2
    clear HCR g2
    go_wp2_with fail
    refine (HNG.out _ g2').mono ?_
    rintro e w3 ⟨A1, B1, F1, a, b, f, rb, rfl, hG, g3⟩
    have g3' : Gr w2 w3 := Gr.trans (Gr.alloc (Gr.refl _) _) g3
    have sz3 := g3.size
    have sz2 := g2'.size
    simp only [World.size_alloc] at hG sz3
    have HG := hide hG
    clear hG g3
    go_wp2_with fail
    refine (HNG.out _ (g2'.trans g3')).mono ?_
    rintro e w4 ⟨A2, B2, F2, a2, b2, f2, rb2, rfl, hG, g4⟩
    have g4' : Gr w3 w4 := Gr.trans (Gr.alloc (Gr.refl _) _) g4
    have sz4 := g4.size
    simp only [World.size_alloc] at hG sz4
    have hGa := HG.out.gr g4'
    have HG2 := hide hG
    have HG1 := hide hGa
    clear hG hGa HG HNG g4
    go_upto_region 5 with fail
    have mS := Made.new w4 #[.slice A1 X.length a, .slice B1 Y.length b, .slice F1 X.length f] 43
    have g5 : Gr w4 (w4.alloc (.cells #[.slice A1 X.length a, .slice B1 Y.length b, .slice F1 X.length f] 43)) := Gr.alloc (Gr.refl _) _
    have hs5 : (w4.alloc (.cells #[.slice A1 X.length a, .slice B1 Y.length b, .slice F1 X.length f] 43)).heap.size = w4.heap.size + 1 := by simp
    generalize w4.alloc (.cells #[.slice A1 X.length a, .slice B1 Y.length b, .slice F1 X.length f] 43) = w5 at *
    have mT := Made.new w5 #[.slice A2 X.length a2, .slice B2 Y.length b2, .slice F2 X.length f2] 43
    have g6 : Gr w5 (w5.alloc (.cells #[.slice A2 X.length a2, .slice B2 Y.length b2, .slice F2 X.length f2] 43)) := Gr.alloc (Gr.refl _) _
    have hs6 : (w5.alloc (.cells #[.slice A2 X.length a2, .slice B2 Y.length b2, .slice F2 X.length f2] 43)).heap.size = w5.heap.size + 1 := by simp
    generalize w5.alloc (.cells #[.slice A2 X.length a2, .slice B2 Y.length b2, .slice F2 X.length f2] 43) = w6 at *
    have HMS := hide (mS.gr g6)
    rw [hs5] at mT
    have HMT := hide mT
    have HG1' := hide (HG1.out.gr (g5.trans g6))
    have HG2' := hide (HG2.out.gr (g5.trans g6))
    have g06 : Gr w w6 := (((g2'.trans g3').trans g4').trans g5).trans g6
    have sS : w4.heap.size < w6.heap.size := by omega
    have sT : w4.heap.size + 1 < w6.heap.size := by omega
    have h56 : w6.heap.size = w4.heap.size + 2 := by omega
    have H56 := hide h56
    have hr1 := hide (fun i hi => (HG1.out.lr i hi).2)
    have hr2 := hide (fun i hi => (HG2.out.lr i hi))
    obtain ⟨p0, p1, p2, -, -, -⟩ := made3 HMS.out
    obtain ⟨t0, t1, t2, -, -, -⟩ := made3 HMT.out
    clear mS mT HG1 HG2 hs5 hs6 h56 g5 g6
    go_wp2_with fail
    refine (fill_any X Y A1 B1 F1 a b f _ _ rb _ A c l w6 HG1'.out (HL.out.gr g06) (fun x hx hne => by have := HLT.out x hx hne; omega) (by have := H56.out; omega) HU.out HV.out HSD.out HK.out (by omega)).mono ?_
    rintro e w7 ⟨rfl, hF, hG7⟩
    have g07 : Gr w w7 := hF.below w g06 (by omega)
    have s7 := hF.size
    have HG17 := hide (hG7.congr fun i j _ _ => HFC.out i j)
    have HG27 := hide (HG2'.out.keep hF.size fun b o hb1 hb2 => hF.cell b o (by have := H56.out; omega) fun i hi e => by have := hr1.out i hi; omega)
    have HMS7 := hide (made_fld HMS.out hF fun i hi e => by have := hr1.out i hi; omega)
    have HMT7 := hide (made_fld HMT.out hF fun i hi e => by have := hr1.out i hi; omega)
    have sS7 : w4.heap.size < w7.heap.size := by omega
    have sT7 : w4.heap.size + 1 < w7.heap.size := by omega
    clear hF hG7 p0 p1 p2 t0 t1 t2 HMS HMT HG1' HG2' sS sT
    obtain ⟨p0, p1, p2, -, -, -⟩ := made3 HMS7.out
    obtain ⟨t0, t1, t2, -, -, -⟩ := made3 HMT7.out
    go_wp2_with fail
    refine (fill_any X Y A2 B2 F2 a2 b2 f2 _ _ rb2 _ B d m w7 HG27.out (HM.out.gr g07) (fun x hx hne => by have := HLT2.out x hx hne; omega) (by omega) HU.out HV.out HSD2.out HK2.out (by omega)).mono ?_
    rintro e w8 ⟨rfl, hF, hG8⟩
    have g08 : Gr w w8 := hF.below w g07 (by omega)
    have s8 := hF.size
    have HG28 := hide (hG8.congr fun i j _ _ => HFC2.out i j)
    have HG18 := hide (HG17.out.keep hF.size fun b o hb1 hb2 => hF.cell b o (by omega) fun i hi e => by have := (hr2.out i hi).1; omega)
    have HMS8 := hide (made_fld HMS7.out hF fun i hi e => by have := (hr2.out i hi).2; omega)
    have HMT8 := hide (made_fld HMT7.out hF fun i hi e => by have := (hr2.out i hi).2; omega)
    have sS8 : w4.heap.size < w8.heap.size := by omega
    have sT8 : w4.heap.size + 1 < w8.heap.size := by omega
    clear hF hG8 p0 p1 p2 t0 t1 t2 HMS7 HMT7 HG17 HG27 sS7 sT7
    obtain ⟨p0, p1, p2, -, -, -⟩ := made3 HMS8.out
    obtain ⟨t0, t1, t2, -, -, -⟩ := made3 HMT8.out
    go_wp2_with fail
    refine (sameCells_any X Y A1 B1 F1 A2 B2 F2 a b f a2 b2 f2 _ _ _ _ rb rb2 _ _ w8 HG18.out HG28.out).mono ?_
    rintro e w9 ⟨rfl, g9⟩
    go_wp2_with fail
    go_ret2
    exact ⟨by rw [HE.out]; rfl, g08.trans g9⟩
  · have HE := hide (show srB l m = false from if_neg h0)
    have h0' : (ceT l m == 0) = false := by simpa using h0
    have h0'' : (ceT l m != 0) = true := by simpa using h0
    clear hl hm h0
    generalize ceT l m = E at *
    go_enter Try.func7, Try.ntmps7
    go_wp2_with fail
    refine (HCR.out _ (Gr.refl _)).mono ?_
    rintro e w2 ⟨rfl, g2⟩
    have g2' : Gr w w2 := Gr.trans (Gr.alloc (Gr.refl _) _) g2
    go_wp2_with fail
    go_ret2
    exact ⟨by rw [HE.out]; rfl, g2'⟩
end RG
end Go.Proofs.Ytfbhpeedjphpaaa
