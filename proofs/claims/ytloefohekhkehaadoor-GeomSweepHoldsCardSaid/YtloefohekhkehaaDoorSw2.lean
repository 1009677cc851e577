/-
  Sweep of the code.
-/
import Derived.Test.YtloefohekhkehaaDoorSw1
set_option linter.unusedVariables false
set_option linter.unusedSimpArgs false
namespace Go.Proofs.YtloefohekhkehaaDoor
set_option linter.unusedVariables false
set_option linter.unusedSimpArgs false
open Go Go.ChangeShapes Go.WideShapes Go.ChangeAt Go.RowKit Go.Deep

set_option maxHeartbeats 1000000 in
set_option maxRecDepth 100000 in
theorem turnAll_any (A : Option Addr) (c : Nat) (xs : List Spt) (k : Nat) (w : World) (hx : RdS w A xs) (hin : SIn xs) (hk : k < 12) (ht : Tab w) (lx : xs.length ≤ 12) :
    Calls Tryd.prog 14 #[.slice A xs.length c, iv k] w fun e w' => ∃ v, e = .returned v ∧ Own w' w.heap.size v (xs.map (tnP k)) ∧ Gr w w' := by
  obtain ⟨i0, hi0, hz0, hz1, hz2⟩ := info_parts infoPt
  have HX := hide hx
  have HIN := hide hin
  have HT := hide ht
  clear hx hin ht
  go_enter Tryd.func14, Tryd.ntmps14
  go_wp2_with (refine wpList_make_own w rfl _ _ _ rfl w.heap.size 34 i0 _ 4 Tryd.underlying29 hi0 hz0 hz1 .i64 .i64 _ xs.length rfl rfl rfl (by rw [hz2]; omega) (by unfold maxLen; omega) (Nat.le_refl _) ?_; intro w1 hown1 hg1)
  have g1 : Gr w w1 := Gr.grown (Gr.refl _) hg1 (fun k hk => by cases hk)
  have HO1 := hide (show Own w1 w.heap.size (.slice (some ⟨w.heap.size, 0, none⟩) 0 xs.length) ((xs.take 0).map (tnP k)) from hown1)
  clear hown1 hg1
  go_loopw [5, 13] (fun v i wr => ∃ m : Nat, m ≤ xs.length ∧ i = iv m ∧ Gr w wr ∧ Hid (Own wr w.heap.size v ((xs.take m).map (tnP k)))) (fun _ i _ => xs.length - (intOf i).toNat)
  case atStart => exact ⟨0, by omega, rfl, g1, HO1⟩
  case round =>
    clear HO1 g1
    obtain ⟨m, hm, rfl, g, HO⟩ := hrel
    by_cases hlt : m < xs.length
    · obtain ⟨p, hp⟩ : ∃ p, xs[m]? = some p := ⟨_, List.getElem?_eq_getElem hlt⟩
      obtain ⟨b, off, rfl, x0, x1⟩ := (HX.out.gr g) m p hp
      obtain ⟨l1, l2⟩ := HIN.out p (List.mem_of_getElem? hp)
      have HTN := hide (show (xs.take (m + 1)).map (tnP k) = (xs.take m).map (tnP k) ++ [tnP k p] by rw [List.take_add_one, hp, List.map_append]; rfl)
      have HL := hide (show ((xs.take m).map (tnP k)).length = m by simp; omega)
      have HTU := hide (fun (w' : World) (g' : Gr w w') => turn_any p.1 p.2 k w' l1 l2 hk (HT.out.gr g'))
      have hm0 : (0 : Int) ≤ (m : Int) := by omega
      have hm1 : (m : Int) < (xs.length : Int) := by omega
      have hb : b < wr.heap.size := cell_lt (by rw [x0]; rfl)
      clear hp
      go_wp2_with fail
      refine (HTU.out _ (by repeat (first | with_reducible exact Gr.refl _ | with_reducible assumption | with_reducible refine Gr.alloc ?_ _ | with_reducible refine Gr.drewN ?_ _ | with_reducible refine Gr.drew ?_ | with_reducible refine Gr.setCell ?_ (by first | (dsimp only; omega) | (simp only [World.size_alloc]; omega) | (with_reducible refine Gr.size ?_; (repeat (first | with_reducible exact Gr.refl _ | with_reducible assumption | with_reducible refine Gr.alloc ?_ _ | with_reducible refine Gr.drewN ?_ _ | with_reducible refine Gr.drew ?_ | with_reducible refine Gr.trans ?_ (by with_reducible assumption))); done)) _ | with_reducible refine Gr.trans ?_ (by with_reducible assumption)))).mono ?_
      rintro e w2 ⟨rfl, g2⟩
      have gw2 : Gr wr w2 := Gr.trans (by repeat (first | with_reducible exact Gr.refl _ | with_reducible assumption | with_reducible refine Gr.alloc ?_ _ | with_reducible refine Gr.drewN ?_ _ | with_reducible refine Gr.drew ?_ | with_reducible refine Gr.setCell ?_ (by first | (dsimp only; omega) | (simp only [World.size_alloc]; omega) | (with_reducible refine Gr.size ?_; (repeat (first | with_reducible exact Gr.refl _ | with_reducible assumption | with_reducible refine Gr.alloc ?_ _ | with_reducible refine Gr.drewN ?_ _ | with_reducible refine Gr.drew ?_ | with_reducible refine Gr.trans ?_ (by with_reducible assumption))); done)) _ | with_reducible refine Gr.trans ?_ (by with_reducible assumption))) g2
      have HO2 := hide (show w2.ownsRow w.heap.size 34 4 u5 m (flat ((xs.take m).map (tnP k))) from by
        have := own_gr1 HO.out gw2
        rwa [HL.out] at this)
      have HOLT := hide (fun k hk => (World.ownsRow.lt HO2.out k hk).1)
      have s2 := gw2.size
      have s1 := g.size
      have C1 := hide (cells_new4 w2 (tnP k p))
      have C2 : Hid (∀ u ∈ cellsOfPt (tnP k p), u.oneCell' = true) := by intro u hu; simp at hu; rcases hu with rfl | rfl | rfl | rfl <;> rfl
      have C3 : Hid (m + 1 ≤ maxLen) := by unfold Hid maxLen; omega
      have C4 : Hid ((m + 1) * 32 ≤ 140737488355328) := by unfold Hid; omega
      have C5 : Hid (w.heap.size ≤ (w2.alloc (.cells #[iv (tnP k p).1, iv (tnP k p).2.1, iv (tnP k p).2.2.1, iv (tnP k p).2.2.2] 34)).heap.size) := by unfold Hid; simp; omega
      go_wp2_with (at_builtin; refine wpList_append_own _ rfl _ _ 29 rfl w.heap.size 34 i0 _ 4 32 Tryd.underlying29 hi0 hz0 hz1 hz2 rfl (by decide) _ _ _ rfl (HO2.out.alloc _) ⟨w2.heap.size, 0, none⟩ 1 1 (cellsOfPt (tnP k p)) rfl rfl C1.out C2.out C3.out C4.out C5.out ?_; intro v3 w3 hown3 hg3 hn3)
      have gw3 : Gr w w3 := Gr.grown ((g.trans gw2).alloc _) hg3 HOLT.out
      go_roundw
      case rel =>
        refine ⟨m + 1, by omega, by go_num, gw3, hide ?_⟩
        unfold Own
        rw [HTN.out, flat_snoc, List.length_append, HL.out]
        exact hown3
      case measure => simp only [intOf]; omega
    · obtain rfl : m = xs.length := by omega
      rw [List.take_length] at HO
      go_wp2
      go_ret
      exact ⟨_, rfl, HO.out, g⟩
end Go.Proofs.YtloefohekhkehaaDoor
