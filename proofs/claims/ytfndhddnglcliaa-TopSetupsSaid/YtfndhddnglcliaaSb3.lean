/-
  Sets of pairs: what can be kept, the sets of needs.
-/
import Derived.Test.YtfndhddnglcliaaSb2
import Derived.Test.YtfndhddnglcliaaApp
set_option linter.unusedVariables false
set_option linter.unusedSimpArgs false
namespace Go.Proofs.Ytfndhddnglcliaa
set_option linter.unusedVariables false
set_option linter.unusedSimpArgs false
open Go Go.ChangeShapes Go.WideShapes Go.ChangeAt Go.RowKit Go.Deep

/-- what is kept, of the pairs below k -/
def kpL (m k : Nat) : List Nat := ((List.range k).filter m.testBit).map (LS.wo m)
theorem kpL_yes {m k : Nat} (h : m.testBit k = true) : kpL m k ++ [LS.wo m k] = kpL m (k + 1) := by
  unfold kpL
  rw [List.range_succ, List.filter_append, List.map_append]
  simp [h]
theorem kpL_no {m k : Nat} (h : m.testBit k = false) : kpL m (k + 1) = kpL m k := by
  unfold kpL
  rw [List.range_succ, List.filter_append, List.map_append]
  simp [h]
theorem kpL_len (m k : Nat) : (kpL m k).length ≤ k := by
  unfold kpL
  rw [List.length_map]
  exact Nat.le_trans (List.length_filter_le _ _) (by simp)
theorem kept_one {s m : Nat} (h : LS.cd m < s) : LS.kept s m = [m] := if_pos h
theorem kept_more {s m : Nat} (h : ¬ LS.cd m < s) : LS.kept s m = kpL m 9 := if_neg h
set_option maxRecDepth 100000 in
set_option maxHeartbeats 2000000 in
theorem kept_any (m s : Nat) (w : World) (h : m < 512) (hs : s ≤ 3) :
    Calls Try.prog 43 #[uv m, iv s] w fun e w' => ∃ A d, e = .returned (.slice A (LS.kept s m).length d) ∧ OwnL w' w.heap.size 50 1 uvL (.slice A (LS.kept s m).length d) (LS.kept s m) ∧ Gr w w' := by
  have HZ := hide (fun w => size_any m w h)
  by_cases hc : LS.cd m < s
  · have HE := hide (kept_one hc)
    have hc' : decide (LS.cd m < s) = true := by rw [decide_eq_true_eq]; omega
    have HO := hide (own_lit (k := 1) (c := uvL) w w.heap.size 50 #[uv m] [m] (Nat.le_refl _) (fun _ => rfl) rfl (by simp))
    clear hc
    go_enter Try.func43, Try.ntmps43
    go_wp2_with (first | (go_at_call 31; refine (HZ.out _).mono ?_; rintro e w1 ⟨rfl, rfl⟩))
    go_ret
    refine ⟨some ⟨w.heap.size, 0, none⟩, 1, ?_, ?_, (by repeat (first | with_reducible exact Gr.refl _ | with_reducible assumption | with_reducible refine Gr.alloc ?_ _ | with_reducible refine Gr.drewN ?_ _ | with_reducible refine Gr.drew ?_ | with_reducible refine Gr.setCell ?_ (by first | (dsimp only; omega) | (simp only [World.size_alloc]; omega) | (with_reducible refine Gr.size ?_; (repeat (first | with_reducible exact Gr.refl _ | with_reducible assumption | with_reducible refine Gr.alloc ?_ _ | with_reducible refine Gr.drewN ?_ _ | with_reducible refine Gr.drew ?_ | with_reducible refine Gr.trans ?_ (by with_reducible assumption))); done)) _ | with_reducible refine Gr.trans ?_ (by with_reducible assumption)))⟩
    · rw [HE.out]; rfl
    · rw [HE.out]; exact HO.out
  · have HE := hide (kept_more hc)
    have hc' : decide (LS.cd m < s) = false := by rw [decide_eq_false_iff_not]; omega
    have HM := hide h
    clear hc h
    go_enter Try.func43, Try.ntmps43
    go_wp2_with (first | (go_at_call 31; refine (HZ.out _).mono ?_; rintro e w1 ⟨rfl, rfl⟩))
    go_loopw [5, 13] (fun v i wr => ∃ (k : Nat) (A' : Option Addr) (d' : Nat), k ≤ 9 ∧ i = iv k ∧ v = .slice A' (kpL m k).length d' ∧ Gr w wr ∧ Hid (OwnL wr w.heap.size 50 1 uvL (.slice A' (kpL m k).length d') (kpL m k))) (fun _ i _ => 9 - (intOf i).toNat)
    case atStart => exact ⟨0, none, 0, by omega, rfl, rfl, Gr.refl _, own_nil _ _ _ _ _⟩
    case round =>
      obtain ⟨k, A1, d1, hk, rfl, rfl, g, HO⟩ := hrel
      by_cases hkl : k < 9
      · have HH := hide (fun w => has_any m k w HM.out hkl)
        have HS := hide (fun w => single_any k w hkl)
        have W1 : bits BinOp.andNot IntKind.u64 (m : Int) ((2 : Int) ^ k) = (LS.wo m k : Int) := by have := u_andNot (m := m) (p := k) HM.out hkl; rwa [Int.natCast_pow] at this
        have hlen := kpL_len m k
        have sz := g.size
        cases hv : m.testBit k with
        | true =>
          have HY := hide (kpL_yes hv)
          rw [hv] at HH
          clear hv
          go_wp2_with (first | (go_at_call 44; refine (HH.out _).mono ?_; rintro e w1 ⟨rfl, rfl⟩) | (go_at_call 17; refine (HS.out _).mono ?_; rintro e w1 ⟨rfl, rfl⟩) | (refine wpList_app1 rfl _ _ _ rfl uvL w.heap.size 50 1 8 elSet (by decide) (kpL m k) (LS.wo m k) (kpL m (k + 1)) HY.out _ rfl (OwnL.gr HO.out (by repeat (first | with_reducible exact Gr.refl _ | with_reducible assumption | with_reducible refine Gr.alloc ?_ _ | with_reducible refine Gr.drewN ?_ _ | with_reducible refine Gr.drew ?_ | with_reducible refine Gr.setCell ?_ (by first | (dsimp only; omega) | (simp only [World.size_alloc]; omega) | (with_reducible refine Gr.size ?_; (repeat (first | with_reducible exact Gr.refl _ | with_reducible assumption | with_reducible refine Gr.alloc ?_ _ | with_reducible refine Gr.drewN ?_ _ | with_reducible refine Gr.drew ?_ | with_reducible refine Gr.trans ?_ (by with_reducible assumption))); done)) _ | with_reducible refine Gr.trans ?_ (by with_reducible assumption)))) _ 1 rfl rfl (by intro j u hu; refine newsA wr #[uv (LS.wo m k)] 50 j u ?_; exact hu) (by intro u hu; simp at hu; subst hu; rfl) (by omega) (by decide) (by simp only [World.size_alloc]; omega) ?_; intro gg cap1 w8 hO8 hG8 _ _ _))
          go_roundw
          case rel => exact ⟨k + 1, some ⟨gg, 0, none⟩, cap1, by omega, by go_num, rfl, hG8 _ (by repeat (first | with_reducible exact Gr.refl _ | with_reducible assumption | with_reducible refine Gr.alloc ?_ _ | with_reducible refine Gr.drewN ?_ _ | with_reducible refine Gr.drew ?_ | with_reducible refine Gr.setCell ?_ (by first | (dsimp only; omega) | (simp only [World.size_alloc]; omega) | (with_reducible refine Gr.size ?_; (repeat (first | with_reducible exact Gr.refl _ | with_reducible assumption | with_reducible refine Gr.alloc ?_ _ | with_reducible refine Gr.drewN ?_ _ | with_reducible refine Gr.drew ?_ | with_reducible refine Gr.trans ?_ (by with_reducible assumption))); done)) _ | with_reducible refine Gr.trans ?_ (by with_reducible assumption))) (Nat.le_refl _), hO8⟩
          case measure => simp only [intOf]; omega
        | false =>
          have HN := hide (kpL_no hv)
          rw [hv] at HH
          clear hv
          go_wp2_with (first | (go_at_call 44; refine (HH.out _).mono ?_; rintro e w1 ⟨rfl, rfl⟩) | (go_at_call 17; refine (HS.out _).mono ?_; rintro e w1 ⟨rfl, rfl⟩))
          go_roundw
          case rel => exact ⟨k + 1, A1, d1, by omega, by go_num, by rw [HN.out], (by repeat (first | with_reducible exact Gr.refl _ | with_reducible assumption | with_reducible refine Gr.alloc ?_ _ | with_reducible refine Gr.drewN ?_ _ | with_reducible refine Gr.drew ?_ | with_reducible refine Gr.setCell ?_ (by first | (dsimp only; omega) | (simp only [World.size_alloc]; omega) | (with_reducible refine Gr.size ?_; (repeat (first | with_reducible exact Gr.refl _ | with_reducible assumption | with_reducible refine Gr.alloc ?_ _ | with_reducible refine Gr.drewN ?_ _ | with_reducible refine Gr.drew ?_ | with_reducible refine Gr.trans ?_ (by with_reducible assumption))); done)) _ | with_reducible refine Gr.trans ?_ (by with_reducible assumption))), by rw [HN.out]; exact HO.out⟩
          case measure => simp only [intOf]; omega
      · have HK := hide (show kpL m 9 = kpL m k by rw [show k = 9 by omega])
        have hkz : decide ((k : Int) < 9) = false := by rw [decide_eq_false_iff_not]; omega
        go_wp2
        go_ret
        exact ⟨A1, d1, by rw [HE.out, HK.out]; rfl, by rw [HE.out, HK.out]; exact HO.out, (by repeat (first | with_reducible exact Gr.refl _ | with_reducible assumption | with_reducible refine Gr.alloc ?_ _ | with_reducible refine Gr.drewN ?_ _ | with_reducible refine Gr.drew ?_ | with_reducible refine Gr.setCell ?_ (by first | (dsimp only; omega) | (simp only [World.size_alloc]; omega) | (with_reducible refine Gr.size ?_; (repeat (first | with_reducible exact Gr.refl _ | with_reducible assumption | with_reducible refine Gr.alloc ?_ _ | with_reducible refine Gr.drewN ?_ _ | with_reducible refine Gr.drew ?_ | with_reducible refine Gr.trans ?_ (by with_reducible assumption))); done)) _ | with_reducible refine Gr.trans ?_ (by with_reducible assumption)))⟩
end Go.Proofs.Ytfndhddnglcliaa
