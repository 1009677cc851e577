/-
  sortUnique at points, and the library's Reverse at points.
-/
import Derived.Test.YtloefohekhkehaaDoorSort
namespace Go.Proofs.YtloefohekhkehaaDoor
set_option linter.unusedVariables false
set_option linter.unusedSimpArgs false
open Go Go.ChangeShapes Go.WideShapes Go.ChangeAt Go.RowKit Go.Deep

theorem compact_len (xs : List Pt) : (Go.Lib.compact xs).length ≤ xs.length := by
  unfold Go.Lib.compact Go.Lib.compactUpTo
  rw [List.length_map]
  exact Nat.le_trans (List.length_filter_le _ _) (by simp)
theorem sortUnique_any (A : Option Addr) (c : Nat) (xs : List Pt) (w : World) (hx : Rd w A xs) (hp : ∀ p ∈ xs, PIn p) (h0 : 0 < xs.length) (lx : xs.length ≤ 1000000) :
    Calls Tryd.prog 23 #[.slice A xs.length c, .func (.func 24) #[] #[]] w fun e w' => ∃ g cap ys, e = .returned (.slice (some ⟨g, 0, none⟩) ys.length cap) ∧ OwnAt w' w.heap.size g cap ys ∧ Gr w w' ∧
      (ys.map vOf).Pairwise G.L ∧ (∀ p, p ∈ ys ↔ p ∈ xs) ∧ ys.length ≤ xs.length := by
  have HX := hide hx
  have HP := hide hp
  have H0 := hide h0
  have HL := hide lx
  clear hx hp h0 lx
  go_enter Tryd.func23, Tryd.ntmps23
  go_wp2_with (first
    | (go_at_call 41; refine (clone_pts _ _ _ _ HX.out H0.out HL.out).mono ?_; rintro e w1 ⟨g, cap, rfl, ho, g1, hc, hm⟩; (have HO := hide ho); (have HC := hide hc); (have HM := hide hm); clear ho hc hm)
    | (go_at_call 42; refine (sort_pts _ _ _ _ w HO.out g1 HP.out HL.out).mono ?_; rintro e w2 ⟨rfl, ys, hperm, hs, ho2, g2⟩; (have HO2 := hide ho2); (have HS := hide hs); (have HQ := hide hperm); (have HE := hide hperm.length_eq); clear ho2 hs hperm; rw [← HE.out])
    | (go_at_call 43; refine (compact_any _ _ _ _ w HO2.out g2 (by rw [HE.out]; exact HL.out) (by rw [HE.out]; exact HC.out) HM.out).mono ?_; rintro e w3 ⟨rfl, ho3, g3⟩; (have HO3 := hide ho3); clear ho3))
  go_ret
  refine ⟨_, _, _, rfl, HO3.out, g3, compact_sorted _ HS.out, fun p => by rw [mem_compact]; exact HQ.out.mem_iff, ?_⟩
  rw [← HE.out]
  exact compact_len _

theorem reverse_pts (g cap : Nat) (xs : List Pt) (w w0 : World) (h : OwnAt w w0.heap.size g cap xs) (g0 : Gr w0 w) (hp : ∀ p ∈ xs, PIn p) (lx : xs.length ≤ 1000000) :
    Calls Tryd.prog 26 #[.slice (some ⟨g, 0, none⟩) xs.length cap] w fun e w' =>
      e = .returned (.tuple #[]) ∧ OwnAt w' w0.heap.size g cap xs.reverse ∧ Gr w0 w' ∧ (∀ k, k < w.heap.size → k ≠ g → w'.heap[k]? = w.heap[k]?) := by
  let bl : List BP := xs.pmap (fun p h => (⟨p, h⟩ : BP)) hp
  have hbl : bl.map (·.1) = xs := by show (List.pmap _ xs hp).map _ = xs; rw [List.map_pmap]; simp
  have hll : bl.length = xs.length := List.length_pmap
  have h' : OwnAt w w0.heap.size g cap (bl.toArray.toList.map (·.1)) := by simpa [hbl] using h
  have hs : bl.toArray.size = xs.length := by simpa using hll
  have hcon := Go.Proofs.AnyQ.slices_Reverse Tryd.layRev 4 Tryd.isAgg34 Tryd.sizeOf34 bCells (fun _ => rfl) (fun x v hv => by simp [bCells] at hv; rcases hv with rfl | rfl | rfl | rfl <;> rfl) g 0 cap bl.toArray w h'.holds (by rw [hs]; omega)
  rw [hs] at hcon
  refine hcon.mono ?_
  rintro e w' ⟨rfl, n, rfl⟩
  have e1 : Go.Sort.putRowK bCells 4 (Go.Sort.ahead w n) g 0 bl.toArray.reverse = Go.Proofs.sortWorldK bCells 4 w g 0 n bl.toArray.reverse #[] := by
    unfold Go.Proofs.sortWorldK
    rw [Go.Sort.grow_empty]
  rw [e1]
  refine ⟨rfl, ?_, gr_sorted g0 h.lt.1 n _ _, fun k hk hne => ?_⟩
  rotate_left
  · unfold Go.Proofs.sortWorldK Go.Sort.putRowK
    rw [Go.Sort.heap_grow_old _ _ (by simpa [Go.Sort.putRow, Go.Sort.mapBlock, Go.Sort.ahead] using hk)]
    simp [Go.Sort.putRow, Go.Sort.mapBlock, Go.Sort.ahead, Array.getElem?_modify, Ne.symm hne]
  have := h.sorted (d := bl.toArray.reverse) (by simpa using hll) n #[]
  rwa [show (bl.toArray.reverse.toList.map (·.1)) = xs.reverse by simp [hbl]] at this
end Go.Proofs.YtloefohekhkehaaDoor
