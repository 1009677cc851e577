/-
  Regions: area and equality of regions, of the document.
-/
import Derived.Test.YtfbhpeedjphpaaaDoorRgh
import Derived.Test.YtfbhpeedjphpaaaDoorRgg
set_option linter.unusedVariables false
set_option linter.unusedSimpArgs false
namespace Go.Proofs.YtfbhpeedjphpaaaDoor
set_option linter.unusedVariables false
set_option linter.unusedSimpArgs false
open Go Go.ChangeShapes Go.WideShapes Go.ChangeAt Go.RowKit Go.Deep

namespace RG
set_option maxHeartbeats 4000000 in
set_option maxRecDepth 100000 in
theorem size_any (X Y : List Int) (A B F : Option Addr) (a b f n : Nat) (R : Nat → Option Addr) (q : Nat → Nat) (c : Nat → Nat → Bool) (w : World) (hG : GrO w X Y A B F a b f n R q c) :
    Calls Tryd.prog 24 #[goV X Y A B F a b f n] w fun e w' => e = .returned (iv (sumX X Y c (X.length - 1))) ∧ Gr w w' := by
  have n1 := hG.n1
  have n2 := hG.n2
  have hn := hG.hn
  have k1 := hG.sx.cap
  have k2 := hG.sx.capB
  have k3 := hG.sy.cap
  have k4 := hG.sy.capB
  have k5 := hG.cf
  have k6 := hG.cfB
  have HG := hide hG
  have HN := hide hn
  have hn' : n ≤ X.length := by omega
  clear hG hn
  go_enter Tryd.func24, Tryd.ntmps24
  go_wp2
  have g0 : Gr w (w.alloc (.cells #[.slice A X.length a, .slice B Y.length b, .slice F n f] 55)) := Gr.alloc (Gr.refl _) _
  have HB := hide (fun (w' : World) (g : Gr (w.alloc (.cells #[.slice A X.length a, .slice B Y.length b, .slice F n f] 55)) w') => box3 g)
  generalize w.alloc (.cells #[.slice A X.length a, .slice B Y.length b, .slice F n f] 55) = w0 at *
  go_loopw [3, 4] (fun s i wr => ∃ k : Nat, k ≤ n ∧ i = iv k ∧ s = iv (sumX X Y c k) ∧ Gr w0 wr) (fun _ i _ => n - (intOf i).toNat)
  case atStart => exact ⟨0, by omega, rfl, rfl, Gr.refl _⟩
  case round =>
    obtain ⟨k, hk, rfl, rfl, g⟩ := hrel
    obtain ⟨hB, p0, p1, p2⟩ := HB.out _ g
    by_cases hkl : k < n
    · obtain ⟨x, hx⟩ : ∃ x, X[k]? = some x := ⟨_, List.getElem?_eq_getElem (by omega)⟩
      obtain ⟨x', hx'⟩ : ∃ x, X[k + 1]? = some x := ⟨_, List.getElem?_eq_getElem (by have := HN.out; omega)⟩
      have HX := hide hx
      have HX' := hide hx'
      have hk0 : (0 : Int) ≤ (k : Int) := by omega
      have hk1 : (k : Int) < (n : Int) := by omega
      have hkn := HN.out
      have hk2 : (k : Int) < (X.length : Int) := by omega
      have hk3 : (k : Int) + 1 < (X.length : Int) := by omega
      clear hx hx' hkn
      go_wp2
      obtain ⟨wo, rfl⟩ : ∃ wo : World, wo = wr := ⟨_, rfl⟩
      obtain ⟨S, hS⟩ : ∃ S, sumX X Y c k = S := ⟨_, rfl⟩
      have HS := hide hS
      rw [hS]
      clear hS p0 p1 p2 hB
      go_loopw [3, 5] (fun s i wr => ∃ j : Nat, j ≤ Y.length - 1 ∧ i = iv j ∧ s = iv (sumY X Y c k S j) ∧ Gr wo wr) (fun _ i _ => Y.length - (intOf i).toNat)
      case atStart => exact ⟨0, by omega, rfl, rfl, Gr.refl _⟩
      case round =>
        obtain ⟨j, hj, rfl, rfl, g2⟩ := hrel
        obtain ⟨hB, p0, p1, p2⟩ := HB.out _ (g.trans g2)
        have hGr := HG.out.gr ((g0.trans g).trans g2)
        obtain ⟨bF, hF, cf⟩ := hGr.rows k (by omega)
        have hq1 := (hGr.cq k (by omega)).1
        have hq2 := (hGr.cq k (by omega)).2
        obtain ⟨M, hM⟩ : ∃ M, Y.length - 1 = M := ⟨_, rfl⟩
        have HM := hide hM
        rw [hM] at cf hq1 hj
        have hMY : M ≤ Y.length := by omega
        by_cases hjl : j < M
        · obtain ⟨y, hy⟩ : ∃ x, Y[j]? = some x := ⟨_, List.getElem?_eq_getElem (by omega)⟩
          obtain ⟨y', hy'⟩ : ∃ x, Y[j + 1]? = some x := ⟨_, List.getElem?_eq_getElem (by omega)⟩
          obtain ⟨bX, oX, hA, cx⟩ := hGr.sx.rd.in_ HX.out
          obtain ⟨bX', oX', hA', cx'⟩ := hGr.sx.rd.in_ HX'.out
          obtain ⟨bY, oY, hBB, cy⟩ := hGr.sy.rd.in_ hy
          obtain ⟨bY', oY', hBB', cy'⟩ := hGr.sy.rd.in_ hy'
          obtain ⟨bR, oR, hR, cc⟩ := hGr.col k j (by omega) (by omega)
          rw [hR] at cf
          subst hA hBB hF
          cases hA'
          cases hBB'
          have hj0 : (0 : Int) ≤ (j : Int) := by omega
          have hj1 : (j : Int) < (M : Int) := by omega
          have hj2 : (j : Int) < (Y.length : Int) := by omega
          have hj3 : (j : Int) + 1 < (Y.length : Int) := by omega
          cases hc : c k j with
          | false =>
            have HE := hide (sumY_same X Y c k S j hc)
            rw [hc] at cc
            clear hc hGr hy hy' hM hR
            go_wp2
            go_roundw
            case rel => exact ⟨j + 1, by have := HM.out; omega, by go_num, by rw [HE.out], (by repeat (first | with_reducible exact Gr.refl _ | with_reducible assumption | with_reducible refine Gr.alloc ?_ _ | with_reducible refine Gr.drewN ?_ _ | with_reducible refine Gr.drew ?_ | with_reducible refine Gr.setCell ?_ (by first | (dsimp only; omega) | (simp only [World.size_alloc]; omega) | (with_reducible refine Gr.size ?_; (repeat (first | with_reducible exact Gr.refl _ | with_reducible assumption | with_reducible refine Gr.alloc ?_ _ | with_reducible refine Gr.drewN ?_ _ | with_reducible refine Gr.drew ?_ | with_reducible refine Gr.trans ?_ (by with_reducible assumption))); done)) _ | with_reducible refine Gr.trans ?_ (by with_reducible assumption)))⟩
            case measure => simp only [intOf]; omega
          | true =>
            have HE := hide (sumY_succ X Y c k S j hc HX.out HX'.out hy hy')
            rw [hc] at cc
            clear hc hGr hy hy' hM hR
            go_wp2
            have w1 : IntKind.i64.wrap ((k : Int) + 1) = (k : Int) + 1 := IntWalk.i64_in _ (by omega)
            have w2 : IntKind.i64.wrap ((j : Int) + 1) = (j : Int) + 1 := IntWalk.i64_in _ (by omega)
            have w3 : ((k : Int) + 1).toNat = k + 1 := by omega
            have w4 : ((j : Int) + 1).toNat = j + 1 := by omega
            have w5 : (0 : Int) ≤ (k : Int) + 1 := by omega
            have w6 : (0 : Int) ≤ (j : Int) + 1 := by omega
            have GC := @GrW.cell
            refine wp_region_grw _ (by kernel_rfl) (by kernel_rfl) (Gr.refl _) ?_
            repeat (go_big_quiet_step ((first | fail)))
            refine wpQuiet_nil ?_
            intro wq hwq
            obtain ⟨gq, hwq'⟩ := hwq
            subst hwq'
            clear GC
            have gq1 := gq.gr
            generalize gq.w = wq at gq1 ⊢
            obtain ⟨Xq, Yq, cq, fq⟩ := gq1.use
            have sq := gq1.size
            (try simp only [World.size_alloc, World.size_setCell, World.heap_drewN] at sq)
            clear w1 w2 w3 w4
            go_wp2
            go_roundw
            case rel => exact ⟨j + 1, by have := HM.out; omega, by go_num, by rw [HE.out], (by repeat (first | with_reducible exact Gr.refl _ | with_reducible assumption | with_reducible refine Gr.alloc ?_ _ | with_reducible refine Gr.drewN ?_ _ | with_reducible refine Gr.drew ?_ | with_reducible refine Gr.setCell ?_ (by first | (dsimp only; omega) | (simp only [World.size_alloc]; omega) | (with_reducible refine Gr.size ?_; (repeat (first | with_reducible exact Gr.refl _ | with_reducible assumption | with_reducible refine Gr.alloc ?_ _ | with_reducible refine Gr.drewN ?_ _ | with_reducible refine Gr.drew ?_ | with_reducible refine Gr.trans ?_ (by with_reducible assumption))); done)) _ | with_reducible refine Gr.trans ?_ (by with_reducible assumption)))⟩
            case measure => simp only [intOf]; omega
        · obtain rfl : j = M := by omega
          have HE := hide (show sumX X Y c (k + 1) = sumY X Y c k S j by
            show sumY X Y c k (sumX X Y c k) (Y.length - 1) = _
            rw [HS.out, hM])
          subst hF
          clear hGr hM
          go_wp2
          go_roundw
          case rel => exact ⟨k + 1, by omega, by go_num, by rw [HE.out], (by repeat (first | with_reducible exact Gr.refl _ | with_reducible assumption | with_reducible refine Gr.alloc ?_ _ | with_reducible refine Gr.drewN ?_ _ | with_reducible refine Gr.drew ?_ | with_reducible refine Gr.setCell ?_ (by first | (dsimp only; omega) | (simp only [World.size_alloc]; omega) | (with_reducible refine Gr.size ?_; (repeat (first | with_reducible exact Gr.refl _ | with_reducible assumption | with_reducible refine Gr.alloc ?_ _ | with_reducible refine Gr.drewN ?_ _ | with_reducible refine Gr.drew ?_ | with_reducible refine Gr.trans ?_ (by with_reducible assumption))); done)) _ | with_reducible refine Gr.trans ?_ (by with_reducible assumption)))⟩
          case measure => simp only [intOf]; omega
    · have hkn : ¬ (k : Int) < (n : Int) := by omega
      have HE := hide (show X.length - 1 = k by have := HN.out; omega)
      go_wp2
      go_ret
      exact ⟨ret_iv (by rw [HE.out]), (by repeat (first | with_reducible exact Gr.refl _ | with_reducible assumption | with_reducible refine Gr.alloc ?_ _ | with_reducible refine Gr.drewN ?_ _ | with_reducible refine Gr.drew ?_ | with_reducible refine Gr.setCell ?_ (by first | (dsimp only; omega) | (simp only [World.size_alloc]; omega) | (with_reducible refine Gr.size ?_; (repeat (first | with_reducible exact Gr.refl _ | with_reducible assumption | with_reducible refine Gr.alloc ?_ _ | with_reducible refine Gr.drewN ?_ _ | with_reducible refine Gr.drew ?_ | with_reducible refine Gr.trans ?_ (by with_reducible assumption))); done)) _ | with_reducible refine Gr.trans ?_ (by with_reducible assumption)))⟩
set_option maxHeartbeats 4000000 in
set_option maxRecDepth 100000 in
theorem rArea_any (A : Option Addr) (c : Nat) (l : List Rc) (w : World) (hl : SlR w A c l) :
    Calls Tryd.prog 8 #[.slice A l.length c] w fun e w' => e = .returned (sle (iv (arV l)) (ceL l)) ∧ Gr w w' := by
  have HL := hide hl
  have HCR := hide (rCheck_any A c l w hl)
  by_cases h0 : ceL l = 0
  · obtain ⟨k1, k2⟩ := ceL_zero h0
    have HK := hide k2
    have HE := hide (show arV l = sumX (lnX l) (lnY l) (cel (lnX l) (lnY l) l) ((lnX l).length - 1) from if_pos h0)
    have HMG := hide (fun (w' : World) (g : Gr w w') => makeGrid_any A c l A c l w' (hl.gr g) (hl.gr g) k2 k2 (by omega))
    rw [h0] at HCR ⊢
    clear hl h0 k2
    generalize cel (lnX l) (lnY l) l = CC at *
    generalize lnX l = X at *
    generalize lnY l = Y at *
    go_enter Tryd.func8, Tryd.ntmps8
    go_wp2_with fail
    refine HCR.out.mono ?_
    rintro e w2 ⟨rfl, g2⟩
    clear HCR
    go_wp2_with fail
    refine (HMG.out _ g2).mono ?_
    rintro e w3 ⟨A1, B1, F1, a, b, f, R, q, rfl, hG, g3⟩
    have HG := hide hG
    clear hG HMG
    go_wp2_with fail
    refine (size_any X Y A1 B1 F1 a b f _ R q _ w3 HG.out).mono ?_
    rintro e w4 ⟨rfl, g4⟩
    go_wp2_with fail
    go_ret2
    exact ⟨by rw [HE.out]; rfl, (g2.trans g3).trans g4⟩
  · have HE := hide (show arV l = 0 from if_neg h0)
    have h0' : (ceL l == 0) = false := by simpa using h0
    have h0'' : (ceL l != 0) = true := by simpa using h0
    clear hl h0
    generalize ceL l = E at *
    go_enter Tryd.func8, Tryd.ntmps8
    go_wp2_with fail
    refine HCR.out.mono ?_
    rintro e w2 ⟨rfl, g2⟩
    go_wp2_with fail
    go_ret2
    exact ⟨by rw [HE.out]; rfl, g2⟩
/-- whether two grids have the same cells -/
def smD (n m : Nat) (c d : Nat → Nat → Bool) : Bool := decide (∀ i, i < n → ∀ j, j < m → c i j = d i j)
theorem smD_cel {X Y : List Int} {a b : List Rc} : smD (X.length - 1) (Y.length - 1) (cel X Y a) (cel X Y b) = smB X Y a b := by
  rw [Bool.eq_iff_iff]
  unfold smD smB
  rw [decide_eq_true_iff, @decide_eq_true_iff _ (Classical.propDecidable _)]
  constructor
  · exact fun h i j hi hj => h i (by omega) j (by omega)
  · exact fun h i hi j hj => h i j (by omega) (by omega)
set_option maxHeartbeats 8000000 in
set_option maxRecDepth 100000 in
theorem rsameCells_any (A : Option Addr) (c : Nat) (l : List Rc) (B : Option Addr) (d : Nat) (m : List Rc) (w : World) (hl : SlR w A c l) (hm : SlR w B d m) (k1 : l.length ≤ 48) (k2 : m.length ≤ 48) (hv : ∀ r ∈ l, InM 1048576 r) (hv2 : ∀ r ∈ m, InM 1048576 r) :
    Calls Tryd.prog 26 #[.slice A l.length c, .slice B m.length d] w fun e w' => e = .returned (.bool (smB (lnX (l ++ m)) (lnY (l ++ m)) l m)) ∧ Gr w w' := by
  have HBo := hide (fun (w' : World) (g : Gr w w') => both_any A c l B d m w' (hl.gr g) (hm.gr g) (by omega) (by omega))
  have HMG := hide (fun (C : Option Addr) (q : Nat) (w' : World) (g : Gr w w') (h : SlR w' C q (l ++ m)) => makeGrid_any C q (l ++ m) A c l w' h (hl.gr g) (fun r hr => (List.mem_append.1 hr).elim (hv r) (hv2 r)) hv (by rw [List.length_append]; omega))
  have HMG2 := hide (fun (C : Option Addr) (q : Nat) (w' : World) (g : Gr w w') (h : SlR w' C q (l ++ m)) => makeGrid_any C q (l ++ m) B d m w' h (hm.gr g) (fun r hr => (List.mem_append.1 hr).elim (hv r) (hv2 r)) hv2 (by rw [List.length_append]; omega))
  have HE := hide (smD_cel (X := lnX (l ++ m)) (Y := lnY (l ++ m)) (a := l) (b := m))
  clear hl hm hv hv2 k1 k2
  generalize smB (lnX (l ++ m)) (lnY (l ++ m)) l m = Z at *
  generalize cel (lnX (l ++ m)) (lnY (l ++ m)) l = C1 at *
  generalize cel (lnX (l ++ m)) (lnY (l ++ m)) m = C2 at *
  generalize lnX (l ++ m) = X at *
  generalize lnY (l ++ m) = Y at *
  generalize l ++ m = N at *
  go_enter Tryd.func26, Tryd.ntmps26
  go_wp2_with fail
  refine (HBo.out _ (Gr.refl _)).mono ?_
  rintro e w1 ⟨D1, q1, rfl, hs1, g1⟩
  have HS1 := hide hs1
  clear hs1
  go_wp2_with fail
  refine (HMG.out _ _ _ g1 HS1.out).mono ?_
  rintro e w2 ⟨A1, B1, F1, a, b, f, R, q, rfl, hG, g2⟩
  have HG1 := hide hG
  have g2' := g1.trans g2
  clear hG HMG HS1
  go_wp2_with fail
  refine (HBo.out _ g2').mono ?_
  rintro e w3 ⟨D3, q3, rfl, hs3, g3⟩
  have HS3 := hide hs3
  clear hs3 HBo
  go_wp2_with fail
  refine (HMG2.out _ _ _ (g2'.trans g3) HS3.out).mono ?_
  rintro e w4 ⟨A2, B2, F2, a2, b2, f2, R2, r2, rfl, hG, g4⟩
  have n1 := hG.n1
  have n2 := hG.n2
  have k5 := HG1.out.cf
  have k6 := HG1.out.cfB
  have k7 := hG.cf
  have k8 := hG.cfB
  have HG2 := hide hG
  clear hG HMG2 HS3
  obtain ⟨M, hM⟩ : ∃ M, X.length - 1 = M := ⟨_, rfl⟩
  rw [hM] at HG1 HG2 HE k5 k7 ⊢
  have hMX : M ≤ X.length := by omega
  have HMX := hide hM
  clear hM
  go_upto_region 2 with fail
  have m1 := Made.new w4 #[.slice A1 X.length a, .slice B1 Y.length b, .slice F1 M f] 55
  have g5 : Gr w4 (w4.alloc (.cells #[.slice A1 X.length a, .slice B1 Y.length b, .slice F1 M f] 55)) := Gr.alloc (Gr.refl _) _
  have hs5 : (w4.alloc (.cells #[.slice A1 X.length a, .slice B1 Y.length b, .slice F1 M f] 55)).heap.size = w4.heap.size + 1 := by simp
  generalize w4.alloc (.cells #[.slice A1 X.length a, .slice B1 Y.length b, .slice F1 M f] 55) = w5 at *
  have m2 := Made.new w5 #[.slice A2 X.length a2, .slice B2 Y.length b2, .slice F2 M f2] 55
  have g6 : Gr w5 (w5.alloc (.cells #[.slice A2 X.length a2, .slice B2 Y.length b2, .slice F2 M f2] 55)) := Gr.alloc (Gr.refl _) _
  generalize w5.alloc (.cells #[.slice A2 X.length a2, .slice B2 Y.length b2, .slice F2 M f2] 55) = w6 at *
  rw [hs5] at m2
  have HM1 := hide (m1.gr g6)
  have HM2 := hide m2
  have HG1' := hide (HG1.out.gr (((g3.trans g4).trans g5).trans g6))
  have HG2' := hide (HG2.out.gr (g5.trans g6))
  have g06 : Gr w w6 := (((g2'.trans g3).trans g4).trans g5).trans g6
  clear m1 m2 HG1 HG2 g1 g2 g2' g3 g4 g5 g6 hs5
  go_wp2
  go_loopw [7] (fun i wr => ∃ k : Nat, k ≤ M ∧ i = iv k ∧ Gr w6 wr ∧ Hid (∀ i, i < k → ∀ j, j < Y.length - 1 → C1 i j = C2 i j)) (fun i _ => M - (intOf i).toNat)
  case atStart => exact ⟨0, by omega, rfl, Gr.refl _, hide (fun j h => absurd h (Nat.not_lt_zero j))⟩
  case round =>
    obtain ⟨k, hk, rfl, g, HS⟩ := hrel
    obtain ⟨p0, p1, p2, -, -, -⟩ := made3 (HM1.out.gr g)
    obtain ⟨t0, t1, t2, -, -, -⟩ := made3 (HM2.out.gr g)
    by_cases hkl : k < M
    · have hk0 : (0 : Int) ≤ (k : Int) := by omega
      have hk1 : (k : Int) < (M : Int) := by omega
      go_wp2
      obtain ⟨wo, rfl⟩ : ∃ wo : World, wo = wr := ⟨_, rfl⟩
      clear p0 p1 p2 t0 t1 t2
      go_loopw [8] (fun i wr => ∃ j : Nat, j ≤ Y.length - 1 ∧ i = iv j ∧ Gr wo wr ∧ Hid (∀ i, i < j → C1 k i = C2 k i)) (fun i _ => Y.length - (intOf i).toNat)
      case atStart => exact ⟨0, by omega, rfl, Gr.refl _, hide (fun j h => absurd h (Nat.not_lt_zero j))⟩
      case round =>
        obtain ⟨j, hj, rfl, g2, HT⟩ := hrel
        obtain ⟨p0, p1, p2, -, -, -⟩ := made3 (HM1.out.gr (g.trans g2))
        obtain ⟨t0, t1, t2, -, -, -⟩ := made3 (HM2.out.gr (g.trans g2))
        have hGr := HG1'.out.gr (g.trans g2)
        have hGs := HG2'.out.gr (g.trans g2)
        obtain ⟨bF, hF, cf⟩ := hGr.rows k (by omega)
        obtain ⟨bF', hF', cf'⟩ := hGs.rows k (by omega)
        have hq1 := (hGr.cq k (by omega)).1
        have hq2 := (hGr.cq k (by omega)).2
        have hr1 := (hGs.cq k (by omega)).1
        have hr2 := (hGs.cq k (by omega)).2
        obtain ⟨V, hV⟩ : ∃ V, Y.length - 1 = V := ⟨_, rfl⟩
        have HV := hide hV
        rw [hV] at cf cf' hq1 hr1 hj
        have hVY : V ≤ Y.length := by omega
        by_cases hjl : j < V
        · obtain ⟨bR, oR, hR, cc⟩ := hGr.col k j (by omega) (by omega)
          obtain ⟨bR', oR', hR', cc'⟩ := hGs.col k j (by omega) (by omega)
          rw [hR] at cf
          rw [hR'] at cf'
          have hj0 : (0 : Int) ≤ (j : Int) := by omega
          have hj1 : (j : Int) < (V : Int) := by omega
          rw [hF] at p2
          rw [hF'] at t2
          clear hGr hGs hV hR hR' hF hF'
          by_cases hv : C1 k j = C2 k j
          · have HT2 := hide (show ∀ i, i < j + 1 → C1 k i = C2 k i by
              intro i hi
              rcases Nat.lt_or_ge i j with h | h
              · exact HT.out i h
              · obtain rfl : i = j := by omega
                exact hv)
            rw [hv] at cc
            clear hv
            generalize C2 k j = z at *
            go_wp2
            have GC := @GrW.cell
            refine wp_region_grw _ (by kernel_rfl) (by kernel_rfl) (Gr.refl _) ?_
            repeat (go_big_quiet_step ((first | fail)))
            refine wpQuiet_nil ?_
            intro wq hwq
            obtain ⟨gq, hwq'⟩ := hwq
            subst hwq'
            clear GC
            have gq1 := gq.gr
            generalize gq.w = wq at gq1 ⊢
            obtain ⟨Xq, Yq, cq, fq⟩ := gq1.use
            have sq := gq1.size
            (try simp only [World.size_alloc, World.size_setCell, World.heap_drewN] at sq)
            cases z <;>
            · go_wp2
              go_roundw
              case rel => exact ⟨j + 1, by have := HV.out; omega, by go_num, (by repeat (first | with_reducible exact Gr.refl _ | with_reducible assumption | with_reducible refine Gr.alloc ?_ _ | with_reducible refine Gr.drewN ?_ _ | with_reducible refine Gr.drew ?_ | with_reducible refine Gr.setCell ?_ (by first | (dsimp only; omega) | (simp only [World.size_alloc]; omega) | (with_reducible refine Gr.size ?_; (repeat (first | with_reducible exact Gr.refl _ | with_reducible assumption | with_reducible refine Gr.alloc ?_ _ | with_reducible refine Gr.drewN ?_ _ | with_reducible refine Gr.drew ?_ | with_reducible refine Gr.trans ?_ (by with_reducible assumption))); done)) _ | with_reducible refine Gr.trans ?_ (by with_reducible assumption))), HT2⟩
              case measure => simp only [intOf]; omega
          · have HE2 := hide (show Z = false by
              rw [← HE.out]
              unfold smD
              rw [decide_eq_false_iff_not]
              exact fun h => hv (h k hkl j (by have := HV.out; omega)))
            generalize C2 k j = z at *
            generalize C1 k j = y at *
            cases z <;> cases y <;> simp only [not_true_eq_false, Bool.false_eq_true, Bool.true_eq_false, not_false_eq_true] at hv
            all_goals
              clear hv
              go_wp2
              have GC := @GrW.cell
              refine wp_region_grw _ (by kernel_rfl) (by kernel_rfl) (Gr.refl _) ?_
              repeat (go_big_quiet_step ((first | fail)))
              refine wpQuiet_nil ?_
              intro wq hwq
              obtain ⟨gq, hwq'⟩ := hwq
              subst hwq'
              clear GC
              have gq1 := gq.gr
              generalize gq.w = wq at gq1 ⊢
              obtain ⟨Xq, Yq, cq, fq⟩ := gq1.use
              have sq := gq1.size
              (try simp only [World.size_alloc, World.size_setCell, World.heap_drewN] at sq)
              go_wp2
              go_ret
              exact ⟨ret_bool HE2.out.symm, (by repeat (first | with_reducible exact Gr.refl _ | with_reducible assumption | with_reducible refine Gr.alloc ?_ _ | with_reducible refine Gr.drewN ?_ _ | with_reducible refine Gr.drew ?_ | with_reducible refine Gr.setCell ?_ (by first | (dsimp only; omega) | (simp only [World.size_alloc]; omega) | (with_reducible refine Gr.size ?_; (repeat (first | with_reducible exact Gr.refl _ | with_reducible assumption | with_reducible refine Gr.alloc ?_ _ | with_reducible refine Gr.drewN ?_ _ | with_reducible refine Gr.drew ?_ | with_reducible refine Gr.trans ?_ (by with_reducible assumption))); done)) _ | with_reducible refine Gr.trans ?_ (by with_reducible assumption)))⟩
        · obtain rfl : j = V := by omega
          have HS2 := hide (show ∀ i, i < k + 1 → ∀ j, j < Y.length - 1 → C1 i j = C2 i j by
            intro i hi
            rcases Nat.lt_or_ge i k with h | h
            · exact HS.out i h
            · obtain rfl : i = k := by omega
              rw [hV]
              exact HT.out)
          rw [hF] at p2
          rw [hF'] at t2
          clear hGr hGs hV hF hF'
          go_wp2
          go_roundw
          case rel => exact ⟨k + 1, by omega, by go_num, (by repeat (first | with_reducible exact Gr.refl _ | with_reducible assumption | with_reducible refine Gr.alloc ?_ _ | with_reducible refine Gr.drewN ?_ _ | with_reducible refine Gr.drew ?_ | with_reducible refine Gr.setCell ?_ (by first | (dsimp only; omega) | (simp only [World.size_alloc]; omega) | (with_reducible refine Gr.size ?_; (repeat (first | with_reducible exact Gr.refl _ | with_reducible assumption | with_reducible refine Gr.alloc ?_ _ | with_reducible refine Gr.drewN ?_ _ | with_reducible refine Gr.drew ?_ | with_reducible refine Gr.trans ?_ (by with_reducible assumption))); done)) _ | with_reducible refine Gr.trans ?_ (by with_reducible assumption))), HS2⟩
          case measure => simp only [intOf]; omega
    · obtain rfl : k = M := by omega
      have HE2 := hide (show Z = true by
        rw [← HE.out]
        unfold smD
        rw [decide_eq_true_eq]
        exact HS.out)
      go_wp2
      go_ret
      exact ⟨ret_bool HE2.out.symm, (by repeat (first | with_reducible exact Gr.refl _ | with_reducible assumption | with_reducible refine Gr.alloc ?_ _ | with_reducible refine Gr.drewN ?_ _ | with_reducible refine Gr.drew ?_ | with_reducible refine Gr.setCell ?_ (by first | (dsimp only; omega) | (simp only [World.size_alloc]; omega) | (with_reducible refine Gr.size ?_; (repeat (first | with_reducible exact Gr.refl _ | with_reducible assumption | with_reducible refine Gr.alloc ?_ _ | with_reducible refine Gr.drewN ?_ _ | with_reducible refine Gr.drew ?_ | with_reducible refine Gr.trans ?_ (by with_reducible assumption))); done)) _ | with_reducible refine Gr.trans ?_ (by with_reducible assumption)))⟩
theorem ceL_cases (l : List Rc) : ceL l = 0 ∧ l.length ≤ 48 ∨ ceL l = 1 ∧ l.length ≤ 48 ∨ ceL l = 4 ∧ 48 < l.length := by
  unfold ceL
  split
  · exact .inr (.inr ⟨rfl, by assumption⟩)
  · split
    · exact .inl ⟨rfl, by omega⟩
    · exact .inr (.inl ⟨rfl, by omega⟩)
theorem ceT_4 {a b : List Rc} (h : 48 < a.length ∨ 48 < b.length) : ceT a b = 4 := if_pos h
theorem ceT_1 {a b : List Rc} (h1 : a.length ≤ 48) (h2 : b.length ≤ 48) (h : ceL a = 1 ∨ ceL b = 1) : ceT a b = 1 := by
  unfold ceT
  rw [if_neg (by omega), if_neg]
  rintro ⟨k1, k2⟩
  rcases h with h | h
  · rw [h] at k1; cases k1
  · rw [h] at k2; cases k2
theorem srB_bad {a b : List Rc} (h : ceT a b ≠ 0) : srB a b = false := if_neg h
set_option maxHeartbeats 4000000 in
set_option maxRecDepth 100000 in
theorem rSameRegion_any (A : Option Addr) (c : Nat) (l : List Rc) (B : Option Addr) (d : Nat) (m : List Rc) (w : World) (hl : SlR w A c l) (hm : SlR w B d m) :
    Calls Tryd.prog 10 #[.slice A l.length c, .slice B m.length d] w fun e w' => e = .returned (sle (.bool (srB l m)) (ceT l m)) ∧ Gr w w' := by
  have HCa := hide (rCheck_any A c l w hl)
  have HCb := hide (fun (w' : World) (g : Gr w w') => rCheck_any B d m w' (hm.gr g))
  by_cases h0 : ceL l = 0 ∧ ceL m = 0
  · obtain ⟨h1, h2⟩ := h0
    obtain ⟨k1, k2⟩ := ceL_zero h1
    obtain ⟨k3, k4⟩ := ceL_zero h2
    have ht := ceT_of h1 h2
    have HE := hide (show srB l m = smB (lnX (l ++ m)) (lnY (l ++ m)) l m from if_pos ht)
    have HSC := hide (fun (w' : World) (g : Gr w w') => rsameCells_any A c l B d m w' (hl.gr g) (hm.gr g) k1 k3 k2 k4)
    rw [← HE.out] at HSC
    rw [h1] at HCa
    rw [h2] at HCb
    rw [ht]
    clear hl hm h1 h2 k2 k4 ht HE
    generalize srB l m = Z at *
    go_enter Tryd.func10, Tryd.ntmps10
    go_wp2_with fail
    refine HCa.out.mono ?_
    rintro e w1 ⟨rfl, g1⟩
    go_wp2_with fail
    refine (HCb.out _ g1).mono ?_
    rintro e w2 ⟨rfl, g2⟩
    go_wp2_with fail
    refine (HSC.out _ (g1.trans g2)).mono ?_
    rintro e w3 ⟨rfl, g3⟩
    go_wp2_with fail
    go_ret2
    exact ⟨rfl, (g1.trans g2).trans g3⟩
  · obtain ⟨E, F, h1, h2, h3, h4⟩ : ∃ E F : Int, ceL l = E ∧ ceL m = F ∧ (E = 4 ∧ ceT l m = 4 ∨ (E = 0 ∨ E = 1) ∧ F = 4 ∧ ceT l m = 4 ∨ E = 1 ∧ (F = 0 ∨ F = 1) ∧ ceT l m = 1 ∨ E = 0 ∧ F = 1 ∧ ceT l m = 1) ∧ ceT l m ≠ 0 := by
      rcases ceL_cases l with ⟨a1, a2⟩ | ⟨a1, a2⟩ | ⟨a1, a2⟩
      · rcases ceL_cases m with ⟨b1, b2⟩ | ⟨b1, b2⟩ | ⟨b1, b2⟩
        · exact absurd ⟨a1, b1⟩ h0
        · have := ceT_1 a2 b2 (.inr b1)
          exact ⟨0, 1, a1, b1, by simp [this], by rw [this]; decide⟩
        · have := ceT_4 (a := l) (.inr b2)
          exact ⟨0, 4, a1, b1, by simp [this], by rw [this]; decide⟩
      · rcases ceL_cases m with ⟨b1, b2⟩ | ⟨b1, b2⟩ | ⟨b1, b2⟩
        · have := ceT_1 a2 b2 (.inl a1)
          exact ⟨1, 0, a1, b1, by simp [this], by rw [this]; decide⟩
        · have := ceT_1 a2 b2 (.inl a1)
          exact ⟨1, 1, a1, b1, by simp [this], by rw [this]; decide⟩
        · have := ceT_4 (a := l) (.inr b2)
          exact ⟨1, 4, a1, b1, by simp [this], by rw [this]; decide⟩
      · have := ceT_4 (b := m) (.inl a2)
        exact ⟨4, ceL m, a1, rfl, by simp [this], by rw [this]; decide⟩
    have HE := hide (srB_bad h4)
    rw [h1] at HCa
    rw [h2] at HCb
    clear hl hm h0 h1 h2 h4
    have HCb' := HCb
    clear HCb
    obtain ⟨Z, hZ⟩ : ∃ Z, ceT l m = Z := ⟨_, rfl⟩
    rw [hZ] at h3 ⊢
    clear hZ
    rcases h3 with ⟨rfl, rfl⟩ | ⟨rfl | rfl, rfl, rfl⟩ | ⟨rfl, rfl | rfl, rfl⟩ | ⟨rfl, rfl, rfl⟩
    all_goals
      go_enter Tryd.func10, Tryd.ntmps10
      go_wp2_with fail
      refine HCa.out.mono ?_
      rintro e w1 ⟨rfl, g1⟩
      go_wp2_with fail
      refine (HCb'.out _ g1).mono ?_
      rintro e w2 ⟨rfl, g2⟩
      go_wp2_with fail
      go_ret2
      exact ⟨by rw [HE.out]; rfl, g1.trans g2⟩
end RG
end Go.Proofs.YtfbhpeedjphpaaaDoor
