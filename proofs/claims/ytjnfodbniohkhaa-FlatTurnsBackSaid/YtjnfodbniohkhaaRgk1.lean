/-
  Regions: Size of the document's grid.
-/
import Derived.Test.YtjnfodbniohkhaaRgh
set_option linter.unusedVariables false
set_option linter.unusedSimpArgs false
namespace Go.Proofs.Ytjnfodbniohkhaa
set_option linter.unusedVariables false
set_option linter.unusedSimpArgs false
open Go Go.ChangeShapes Go.WideShapes Go.ChangeAt Go.RowKit Go.Deep

namespace RG
set_option maxHeartbeats 4000000 in
set_option maxRecDepth 100000 in
theorem size_any (X Y : List Int) (A B F : Option Addr) (a b f n : Nat) (R : Nat → Option Addr) (q : Nat → Nat) (c : Nat → Nat → Bool) (w : World) (hG : GrO w X Y A B F a b f n R q c) :
    Calls Try.prog 29 #[goV X Y A B F a b f n] w fun e w' => e = .returned (iv (sumX X Y c (X.length - 1))) ∧ Gr w w' := by
  have n1 := hG.n1
  have n2 := hG.n2
  have hn := hG.hn
  have k1 := hG.sx.cap
  have k2 := hG.sx.capB
  have k3 := hG.sy.cap
  have k4 := hG.sy.capB
  have k5 := hG.cf
  have k6 := hG.cfB
  have HG := hide hG
  have HN := hide hn
  have hn' : n ≤ X.length := by omega
  clear hG hn
  go_enter Try.func29, Try.ntmps29
  go_wp2
  have g0 : Gr w (w.alloc (.cells #[.slice A X.length a, .slice B Y.length b, .slice F n f] 62)) := Gr.alloc (Gr.refl _) _
  have HB := hide (fun (w' : World) (g : Gr (w.alloc (.cells #[.slice A X.length a, .slice B Y.length b, .slice F n f] 62)) w') => box3 g)
  generalize w.alloc (.cells #[.slice A X.length a, .slice B Y.length b, .slice F n f] 62) = w0 at *
  go_loopw [3, 4] (fun s i wr => ∃ k : Nat, k ≤ n ∧ i = iv k ∧ s = iv (sumX X Y c k) ∧ Gr w0 wr) (fun _ i _ => n - (intOf i).toNat)
  case atStart => exact ⟨0, by omega, rfl, rfl, Gr.refl _⟩
  case round =>
    obtain ⟨k, hk, rfl, rfl, g⟩ := hrel
    obtain ⟨hB, p0, p1, p2⟩ := HB.out _ g
    by_cases hkl : k < n
    · obtain ⟨x, hx⟩ : ∃ x, X[k]? = some x := ⟨_, List.getElem?_eq_getElem (by omega)⟩
      obtain ⟨x', hx'⟩ : ∃ x, X[k + 1]? = some x := ⟨_, List.getElem?_eq_getElem (by have := HN.out; omega)⟩
      have HX := hide hx
      have HX' := hide hx'
      have hk0 : (0 : Int) ≤ (k : Int) := by omega
      have hk1 : (k : Int) < (n : Int) := by omega
      have hkn := HN.out
      have hk2 : (k : Int) < (X.length : Int) := by omega
      have hk3 : (k : Int) + 1 < (X.length : Int) := by omega
      clear hx hx' hkn
      go_wp2
      obtain ⟨wo, rfl⟩ : ∃ wo : World, wo = wr := ⟨_, rfl⟩
      obtain ⟨S, hS⟩ : ∃ S, sumX X Y c k = S := ⟨_, rfl⟩
      have HS := hide hS
      rw [hS]
      clear hS p0 p1 p2 hB
      go_loopw [3, 5] (fun s i wr => ∃ j : Nat, j ≤ Y.length - 1 ∧ i = iv j ∧ s = iv (sumY X Y c k S j) ∧ Gr wo wr) (fun _ i _ => Y.length - (intOf i).toNat)
      case atStart => exact ⟨0, by omega, rfl, rfl, Gr.refl _⟩
      case round =>
        obtain ⟨j, hj, rfl, rfl, g2⟩ := hrel
        obtain ⟨hB, p0, p1, p2⟩ := HB.out _ (g.trans g2)
        have hGr := HG.out.gr ((g0.trans g).trans g2)
        obtain ⟨bF, hF, cf⟩ := hGr.rows k (by omega)
        have hq1 := (hGr.cq k (by omega)).1
        have hq2 := (hGr.cq k (by omega)).2
        obtain ⟨M, hM⟩ : ∃ M, Y.length - 1 = M := ⟨_, rfl⟩
        have HM := hide hM
        rw [hM] at cf hq1 hj
        have hMY : M ≤ Y.length := by omega
        by_cases hjl : j < M
        · obtain ⟨y, hy⟩ : ∃ x, Y[j]? = some x := ⟨_, List.getElem?_eq_getElem (by omega)⟩
          obtain ⟨y', hy'⟩ : ∃ x, Y[j + 1]? = some x := ⟨_, List.getElem?_eq_getElem (by omega)⟩
          obtain ⟨bX, oX, hA, cx⟩ := hGr.sx.rd.in_ HX.out
          obtain ⟨bX', oX', hA', cx'⟩ := hGr.sx.rd.in_ HX'.out
          obtain ⟨bY, oY, hBB, cy⟩ := hGr.sy.rd.in_ hy
          obtain ⟨bY', oY', hBB', cy'⟩ := hGr.sy.rd.in_ hy'
          obtain ⟨bR, oR, hR, cc⟩ := hGr.col k j (by omega) (by omega)
          rw [hR] at cf
          subst hA hBB hF
          cases hA'
          cases hBB'
          have hj0 : (0 : Int) ≤ (j : Int) := by omega
          have hj1 : (j : Int) < (M : Int) := by omega
          have hj2 : (j : Int) < (Y.length : Int) := by omega
          have hj3 : (j : Int) + 1 < (Y.length : Int) := by omega
          cases hc : c k j with
          | false =>
            have HE := hide (sumY_same X Y c k S j hc)
            rw [hc] at cc
            clear hc hGr hy hy' hM hR
            go_wp2
            go_roundw
            case rel => exact ⟨j + 1, by have := HM.out; omega, by go_num, by rw [HE.out], (by repeat (first | with_reducible exact Gr.refl _ | with_reducible assumption | with_reducible refine Gr.alloc ?_ _ | with_reducible refine Gr.drewN ?_ _ | with_reducible refine Gr.drew ?_ | with_reducible refine Gr.setCell ?_ (by first | (dsimp only; omega) | (simp only [World.size_alloc]; omega) | (with_reducible refine Gr.size ?_; (repeat (first | with_reducible exact Gr.refl _ | with_reducible assumption | with_reducible refine Gr.alloc ?_ _ | with_reducible refine Gr.drewN ?_ _ | with_reducible refine Gr.drew ?_ | with_reducible refine Gr.trans ?_ (by with_reducible assumption))); done)) _ | with_reducible refine Gr.trans ?_ (by with_reducible assumption)))⟩
            case measure => simp only [intOf]; omega
          | true =>
            have HE := hide (sumY_succ X Y c k S j hc HX.out HX'.out hy hy')
            rw [hc] at cc
            clear hc hGr hy hy' hM hR
            go_wp2
            have w1 : IntKind.i64.wrap ((k : Int) + 1) = (k : Int) + 1 := IntWalk.i64_in _ (by omega)
            have w2 : IntKind.i64.wrap ((j : Int) + 1) = (j : Int) + 1 := IntWalk.i64_in _ (by omega)
            have w3 : ((k : Int) + 1).toNat = k + 1 := by omega
            have w4 : ((j : Int) + 1).toNat = j + 1 := by omega
            have w5 : (0 : Int) ≤ (k : Int) + 1 := by omega
            have w6 : (0 : Int) ≤ (j : Int) + 1 := by omega
            have GC := @GrW.cell
            refine wp_region_grw _ (by kernel_rfl) (by kernel_rfl) (Gr.refl _) ?_
            repeat (go_big_quiet_step ((first | fail)))
            refine wpQuiet_nil ?_
            intro wq hwq
            obtain ⟨gq, hwq'⟩ := hwq
            subst hwq'
            clear GC
            have gq1 := gq.gr
            generalize gq.w = wq at gq1 ⊢
            obtain ⟨Xq, Yq, cq, fq⟩ := gq1.use
            have sq := gq1.size
            (try simp only [World.size_alloc, World.size_setCell, World.heap_drewN] at sq)
            clear w1 w2 w3 w4
            go_wp2
            go_roundw
            case rel => exact ⟨j + 1, by have := HM.out; omega, by go_num, by rw [HE.out], (by repeat (first | with_reducible exact Gr.refl _ | with_reducible assumption | with_reducible refine Gr.alloc ?_ _ | with_reducible refine Gr.drewN ?_ _ | with_reducible refine Gr.drew ?_ | with_reducible refine Gr.setCell ?_ (by first | (dsimp only; omega) | (simp only [World.size_alloc]; omega) | (with_reducible refine Gr.size ?_; (repeat (first | with_reducible exact Gr.refl _ | with_reducible assumption | with_reducible refine Gr.alloc ?_ _ | with_reducible refine Gr.drewN ?_ _ | with_reducible refine Gr.drew ?_ | with_reducible refine Gr.trans ?_ (by with_reducible assumption))); done)) _ | with_reducible refine Gr.trans ?_ (by with_reducible assumption)))⟩
            case measure => simp only [intOf]; omega
        · obtain rfl : j = M := by omega
          have HE := hide (show sumX X Y c (k + 1) = sumY X Y c k S j by
            show sumY X Y c k (sumX X Y c k) (Y.length - 1) = _
            rw [HS.out, hM])
          subst hF
          clear hGr hM
          go_wp2
          go_roundw
          case rel => exact ⟨k + 1, by omega, by go_num, by rw [HE.out], (by repeat (first | with_reducible exact Gr.refl _ | with_reducible assumption | with_reducible refine Gr.alloc ?_ _ | with_reducible refine Gr.drewN ?_ _ | with_reducible refine Gr.drew ?_ | with_reducible refine Gr.setCell ?_ (by first | (dsimp only; omega) | (simp only [World.size_alloc]; omega) | (with_reducible refine Gr.size ?_; (repeat (first | with_reducible exact Gr.refl _ | with_reducible assumption | with_reducible refine Gr.alloc ?_ _ | with_reducible refine Gr.drewN ?_ _ | with_reducible refine Gr.drew ?_ | with_reducible refine Gr.trans ?_ (by with_reducible assumption))); done)) _ | with_reducible refine Gr.trans ?_ (by with_reducible assumption)))⟩
          case measure => simp only [intOf]; omega
    · have hkn : ¬ (k : Int) < (n : Int) := by omega
      have HE := hide (show X.length - 1 = k by have := HN.out; omega)
      go_wp2
      go_ret
      exact ⟨ret_iv (by rw [HE.out]), (by repeat (first | with_reducible exact Gr.refl _ | with_reducible assumption | with_reducible refine Gr.alloc ?_ _ | with_reducible refine Gr.drewN ?_ _ | with_reducible refine Gr.drew ?_ | with_reducible refine Gr.setCell ?_ (by first | (dsimp only; omega) | (simp only [World.size_alloc]; omega) | (with_reducible refine Gr.size ?_; (repeat (first | with_reducible exact Gr.refl _ | with_reducible assumption | with_reducible refine Gr.alloc ?_ _ | with_reducible refine Gr.drewN ?_ _ | with_reducible refine Gr.drew ?_ | with_reducible refine Gr.trans ?_ (by with_reducible assumption))); done)) _ | with_reducible refine Gr.trans ?_ (by with_reducible assumption)))⟩
end RG
end Go.Proofs.Ytjnfodbniohkhaa
