/-
  The library's Compact at points, in a slice of the call's own.
-/
import Derived.Test.YtloefohekhkehaaDoorCmp
import Derived.Lib.SlicesCompact
import Derived.Lib.SliceRun
import Derived.WalkSmall
namespace Go.Proofs.YtloefohekhkehaaDoor
set_option linter.unusedVariables false
set_option linter.unusedSimpArgs false
open Go Go.ChangeShapes Go.WideShapes Go.ChangeAt Go.RowKit Go.Deep

theorem flat_append (xs ys : List Pt) : flat (xs ++ ys) = flat xs ++ flat ys := by simp [flat]
/-- The slice at g with room for cap holds the points xs, in memory that is not older than base. -/
def OwnAt (w : World) (base g cap : Nat) (xs : List Pt) : Prop := w.ownsRow base 34 4 (.slice (some ⟨g, 0, none⟩) xs.length cap) xs.length (flat xs)
theorem OwnAt.cells {w : World} {base g cap : Nat} {xs : List Pt} (h : OwnAt w base g cap xs) (i : Nat) (p : Pt) (hp : xs[i]? = some p) :
    w.cell? ⟨g, i * 4, none⟩ = some (iv p.1) ∧ w.cell? ⟨g, i * 4 + 1, none⟩ = some (iv p.2.1) ∧ w.cell? ⟨g, i * 4 + 2, none⟩ = some (iv p.2.2.1) ∧ w.cell? ⟨g, i * 4 + 3, none⟩ = some (iv p.2.2.2) ∧
    w.frozen? ⟨g, i * 4, none⟩ = false ∧ w.frozen? ⟨g, i * 4 + 1, none⟩ = false ∧ w.frozen? ⟨g, i * 4 + 2, none⟩ = false ∧ w.frozen? ⟨g, i * 4 + 3, none⟩ = false := by
  have hi : i < xs.length := (List.getElem?_eq_some_iff.1 hp).1
  obtain ⟨f0, f1, f2, f3⟩ := flat_at xs i p hp
  have hc := fun j => World.ownsRow.cellAt (h : w.ownsRow base 34 4 (.slice (some ⟨g, 0, none⟩) xs.length cap) xs.length (flat xs)) j
  have hf := fun j => World.ownsRow.frozenAt (h : w.ownsRow base 34 4 (.slice (some ⟨g, 0, none⟩) xs.length cap) xs.length (flat xs)) j
  exact ⟨by rw [hc _ (by omega), f0], by rw [hc _ (by omega), f1], by rw [hc _ (by omega), f2], by rw [hc _ (by omega), f3], hf _, hf _, hf _, hf _⟩
theorem OwnAt.lt {w : World} {base g cap : Nat} {xs : List Pt} (h : OwnAt w base g cap xs) : base ≤ g ∧ g < w.heap.size := World.ownsRow.lt h g rfl
theorem flat_set (xs : List Pt) (k : Nat) (p : Pt) (hk : k < xs.length) : flat (xs.set k p) = ((((flat xs).set (k * 4) (iv p.1)).set (k * 4 + 1) (iv p.2.1)).set (k * 4 + 2) (iv p.2.2.1)).set (k * 4 + 3) (iv p.2.2.2) := by
  induction xs generalizing k with
  | nil => simp at hk
  | cons x xs ih =>
    have e : ∀ y : Pt, ∀ l, flat (y :: l) = cellsOfPt y ++ flat l := fun y l => by simp [flat]
    cases k with
    | zero => rw [List.set_cons_zero, e, e]; rfl
    | succ k =>
      rw [List.set_cons_succ, e, e, ih k (by simpa using hk)]
      have : (k + 1) * 4 = k * 4 + 4 := by omega
      rw [this]
      rfl
theorem OwnAt.stored {w : World} {base g cap : Nat} {xs : List Pt} (h : OwnAt w base g cap xs) (k : Nat) (p : Pt) (hk : k < xs.length) :
    OwnAt ((((w.setCell ⟨g, k * 4, none⟩ (iv p.1)).setCell ⟨g, k * 4 + 1, none⟩ (iv p.2.1)).setCell ⟨g, k * 4 + 2, none⟩ (iv p.2.2.1)).setCell ⟨g, k * 4 + 3, none⟩ (iv p.2.2.2)) base g cap (xs.set k p) := by
  unfold OwnAt
  rw [flat_set xs k p hk, List.length_set]
  exact ((((World.ownsRow.stored h _ _).1.stored _ _).1.stored _ _).1.stored _ _).1
theorem own_setCells {base : Nat} {e : TypeId} {size g n cap : Nat} : ∀ (vs : List Value) (o : Nat) {w : World} {xs : List Value}, w.ownsRow base e size (.slice (some ⟨g, 0, none⟩) n cap) n xs →
    ∃ ys, (w.setCells g o vs).ownsRow base e size (.slice (some ⟨g, 0, none⟩) n cap) n ys ∧ ys.take o = xs.take o
  | [], o, w, xs, h => ⟨xs, h, rfl⟩
  | v :: vs, o, w, xs, h => by
    obtain ⟨ys, h1, h2⟩ := own_setCells vs (o + 1) (World.ownsRow.stored h o v).1
    refine ⟨ys, h1, ?_⟩
    have : (ys.take (o + 1)).take o = ((xs.set o v).take (o + 1)).take o := by rw [h2]
    rw [List.take_take, List.take_take, Nat.min_eq_left (by omega)] at this
    rw [this, List.take_set_of_le (Nat.le_refl o)]
theorem gr_setCells {a : World} {g : Nat} (hg : a.heap.size ≤ g) : ∀ (vs : List Value) (o : Nat) {b : World}, Gr a b → Gr a (b.setCells g o vs)
  | [], _, _, h => h
  | v :: vs, o, b, h => gr_setCells hg vs (o + 1) (h.setCell (p := ⟨g, o, none⟩) hg v)
theorem OwnAt.cut {w : World} {base g cap n : Nat} {ys : List Value} {xs : List Pt} (h : w.ownsRow base 34 4 (.slice (some ⟨g, 0, none⟩) n cap) n ys) (hn : xs.length ≤ n) (ht : ys.take (xs.length * 4) = flat xs) : OwnAt w base g cap xs := by
  obtain ⟨hl, h2⟩ := h
  rcases h2 with ⟨h0, _⟩ | ⟨g', cap', cur, hv, hg, hh, hn', hcap, hsz, htake⟩
  · cases h0
  · cases hv
    refine ⟨flat_length xs, .inr ⟨g, cap, cur, rfl, hg, hh, by omega, hcap, hsz, ?_⟩⟩
    rw [← ht, ← htake, List.take_take, Nat.min_eq_left (by omega)]
theorem run_clear_pts (w : World) (ty : TypeId) (b o n c : Nat) (hn : 0 < n)
    (hc : ∀ j, j < n * 4 → (w.cell? ⟨b, o + j, none⟩).isSome = true) (hf : ∀ j, j < n * 4 → w.frozen? ⟨b, o + j, none⟩ = false) :
    (Builtin.clear_ #[29] ty #[.slice (some ⟨b, o, none⟩) n c]).run Tryd.prog w = .ok (.tuple #[]) (w.setCells b o (List.replicate (n * 4) (iv 0))) := by
  have hv : ∀ w, (zeroValue 34).run Tryd.prog w = .ok (.agg #[iv 0, iv 0, iv 0, iv 0]) w := Tryd.zeroValue34
  have hzc : (Builtin.zeroCells (Value.agg #[iv 0, iv 0, iv 0, iv 0]).cells n).toList = List.replicate (n * 4) (iv 0) := by
    simp only [Value.cells, Builtin.zeroCells]
    apply List.ext_getElem
    · simp
    · intro i h1 h2
      simp at h1 h2 ⊢
      have : i % 4 < 4 := Nat.mod_lt _ (by omega)
      generalize i % 4 = r at this ⊢
      match r, this with
      | 0, _ => rfl
      | 1, _ => rfl
      | 2, _ => rfl
      | 3, _ => rfl
  have hst := run_storeCells_cells (P := Tryd.prog) b o (List.replicate (n * 4) (iv 0)) 0 w (by simpa using hc) (by simpa using hf) (by intro v hv'; rw [List.eq_of_mem_replicate hv']; rfl)
  simp only [Nat.add_zero] at hst
  obtain ⟨m, rfl⟩ : ∃ m, n = m + 1 := ⟨n - 1, by omega⟩
  simp [Builtin.clear_, run_underlying Tryd.underlying29, hv, hzc, hst]

set_option maxRecDepth 100000 in
open Go.Lib in
set_option maxHeartbeats 1000000 in
theorem compact_any (xs : List Pt) (g cap : Nat) (w w0 : World) (h : OwnAt w w0.heap.size g cap xs) (g0 : Gr w0 w) (lx : xs.length ≤ 1000000) (hc : xs.length ≤ cap) (hcm : cap ≤ maxLen) :
    Calls Tryd.prog 43 #[.slice (some ⟨g, 0, none⟩) xs.length cap] w fun e w' =>
      e = .returned (.slice (some ⟨g, 0, none⟩) (compact xs).length cap) ∧ OwnAt w' w0.heap.size g cap (compact xs) ∧ Gr w0 w' := by
  have same : (∀ j, j < xs.length → keeps xs.toArray j = true) → compact xs = xs := compact_all xs
  have HS := hide same
  clear same
  have HC := hide hcm
  clear hcm
  by_cases h2 : xs.length < 2
  · have e := HS.out fun j hj => keeps_lt_one _ j (by omega)
    rw [e]
    have HO := hide h
    clear h e HS
    go_enter Tryd.func43, Tryd.ntmps43
    go_wp2
    go_ret
    exact ⟨rfl, HO.out, g0⟩
  · have HO := hide h
    clear h
    go_enter Tryd.func43, Tryd.ntmps43
    go_wp2
    go_loopw [3] (fun i wr => ∃ k : Nat, 1 ≤ k ∧ k ≤ xs.length ∧ i = iv k ∧ Hid (OwnAt wr w0.heap.size g cap xs) ∧ Gr w0 wr ∧ Hid (∀ j, j < k → keeps xs.toArray j = true)) (fun i _ => xs.length - (intOf i).toNat)
    case atStart => exact ⟨1, Nat.le_refl _, by omega, rfl, HO, g0, keeps_lt_one _⟩
    case round =>
      obtain ⟨k, hk1, hk, rfl, HW, gw, HK⟩ := hrel
      by_cases hlt : k < xs.length
      · obtain ⟨p, hp⟩ : ∃ p, xs[k]? = some p := ⟨_, List.getElem?_eq_getElem hlt⟩
        obtain ⟨q, hq⟩ : ∃ q, xs[k - 1]? = some q := ⟨_, List.getElem?_eq_getElem (by omega)⟩
        obtain ⟨x0, x1, x2, x3, x4, x5, x6, x7⟩ := HW.out.cells k p hp
        obtain ⟨y0, y1, y2, y3, y4, y5, y6, y7⟩ := HW.out.cells (k - 1) q hq
        have NEQ := fun w => eqInPt p q w
        have GP := gPt
        have HP : Hid (xs.toArray[k]! = p ∧ xs.toArray[k - 1]! = q) := ⟨by simp [hp], by simp [hq]⟩
        clear hp hq
        by_cases hpq : p = q
        · have hd : decide (p = q) = true := by simp [hpq]
          have HD := hide hpq
          clear hpq
          go_wp2_with fail
          go_quiet (fail)
          go_wp2
          clear x0 x1 x2 x3 x4 x5 x6 x7 y0 y1 y2 y3 y4 y5 y6 y7 NEQ hd
          go_loopw [3, 5] (fun i3 i5 wq => ∃ (kk k2 : Nat) (dk : Array Pt), i3 = iv kk ∧ i5 = iv k2 ∧ 1 ≤ k2 ∧ k + k2 ≤ xs.length ∧ Hid (OwnAt wq w0.heap.size g cap dk.toList) ∧ Gr w0 wq ∧ Hid (CompInv xs.toArray (k + k2) kk dk)) (fun _ i _ => xs.length - (intOf i).toNat)
          case atStart => exact ⟨k, 1, xs.toArray, rfl, rfl, Nat.le_refl _, by omega, HW, (by repeat (first | with_reducible exact Gr.refl _ | with_reducible assumption | with_reducible refine Gr.alloc ?_ _ | with_reducible refine Gr.drewN ?_ _ | with_reducible refine Gr.drew ?_ | with_reducible refine Gr.setCell ?_ (by first | (dsimp only; omega) | (simp only [World.size_alloc]; omega) | (with_reducible refine Gr.size ?_; (repeat (first | with_reducible exact Gr.refl _ | with_reducible assumption | with_reducible refine Gr.alloc ?_ _ | with_reducible refine Gr.drewN ?_ _ | with_reducible refine Gr.drew ?_ | with_reducible refine Gr.trans ?_ (by with_reducible assumption))); done)) _ | with_reducible refine Gr.trans ?_ (by with_reducible assumption))), CompInv.start HK.out (keeps_neg (by omega) (by rw [HP.out.1, HP.out.2]; exact HD.out))⟩
          case round =>
            obtain ⟨kk, k2, dk, rfl, rfl, h1, hle, HW2, gq, HI⟩ := hrel
            have hkk := HI.out.lt
            have hds : dk.size = xs.length := by have := HI.out.size; simpa using this
            by_cases hlt2 : k + k2 < xs.length
            · obtain ⟨a, ha⟩ : ∃ a, xs[k + k2]? = some a := ⟨_, List.getElem?_eq_getElem hlt2⟩
              obtain ⟨b, hb⟩ : ∃ b, xs[k + k2 - 1]? = some b := ⟨_, List.getElem?_eq_getElem (by omega)⟩
              have va : xs.toArray[k + k2]! = a := by simp [ha]
              have vb : xs.toArray[k + k2 - 1]! = b := by simp [hb]
              have ha' : dk.toList[k + k2]? = some a := by
                have := HI.out.high (k + k2) (by omega)
                rw [va] at this
                rw [Array.getElem?_toList, Array.getElem?_eq_getElem (by omega), ← this, getElem!_pos dk _ (by omega)]
              have hb' : dk.toList[k + k2 - 1]? = some b := by
                have := HI.out.high (k + k2 - 1) (by omega)
                rw [vb] at this
                rw [Array.getElem?_toList, Array.getElem?_eq_getElem (by omega), ← this, getElem!_pos dk _ (by omega)]
              obtain ⟨x0, x1, x2, x3, x4, x5, x6, x7⟩ := HW2.out.cells _ a ha'
              obtain ⟨y0, y1, y2, y3, y4, y5, y6, y7⟩ := HW2.out.cells _ b hb'
              rw [show (k + k2) * 4 = k * 4 + k2 * 4 by omega] at x0 x1 x2 x3
              rw [show (k + k2 - 1) * 4 = k * 4 + (k2 - 1) * 4 by omega] at y0 y1 y2 y3
              obtain ⟨z0, z1, z2, z3, z4, z5, z6, z7⟩ := HW2.out.cells kk _ (by rw [Array.getElem?_toList, Array.getElem?_eq_getElem (by omega)])
              generalize dk[kk]'(by omega) = old at z0 z1 z2 z3
              have NEQ := fun w => eqInPt a b w
              have HA : Hid (xs.toArray[k + k2]! = a ∧ xs.toArray[k + k2 - 1]! = b) := ⟨va, vb⟩
              clear ha hb ha' hb' va vb x4 x5 x6 x7 y4 y5 y6 y7
              by_cases hab : a = b
              · have hd : decide (a = b) = true := by simp [hab]
                have HD2 := hide hab
                clear hab
                go_wp2_with fail
                go_quiet (fail)
                go_wp2
                go_roundw
                case rel => exact ⟨kk, k2 + 1, dk, rfl, by go_num, by omega, by omega, HW2, (by repeat (first | with_reducible exact Gr.refl _ | with_reducible assumption | with_reducible refine Gr.alloc ?_ _ | with_reducible refine Gr.drewN ?_ _ | with_reducible refine Gr.drew ?_ | with_reducible refine Gr.setCell ?_ (by first | (dsimp only; omega) | (simp only [World.size_alloc]; omega) | (with_reducible refine Gr.size ?_; (repeat (first | with_reducible exact Gr.refl _ | with_reducible assumption | with_reducible refine Gr.alloc ?_ _ | with_reducible refine Gr.drewN ?_ _ | with_reducible refine Gr.drew ?_ | with_reducible refine Gr.trans ?_ (by with_reducible assumption))); done)) _ | with_reducible refine Gr.trans ?_ (by with_reducible assumption))), HI.out.skip (keeps_neg (by omega) (by rw [show k + k2 - 1 = k + k2 - 1 from rfl, HA.out.1, HA.out.2]; exact HD2.out))⟩
                case measure => simp [intOf]; omega
              · have hd : decide (a = b) = false := by simp [hab]
                have HD2 := hide hab
                clear hab
                go_wp2_with fail
                go_quiet (fail)
                go_wp2
                go_roundw
                case rel =>
                  refine ⟨kk + 1, k2 + 1, dk.setIfInBounds kk a, by go_num, by go_num, by omega, by omega, ?_, ?_, ?_⟩
                  · show OwnAt _ _ _ _ _
                    rw [Array.toList_setIfInBounds]
                    exact HW2.out.stored kk a (by simp; omega)
                  · have hg := HW2.out.lt.1
                    exact (((gq.drewN _).setCell (p := ⟨g, _, none⟩) hg _).setCell (p := ⟨g, _, none⟩) hg _ |>.setCell (p := ⟨g, _, none⟩) hg _).setCell (p := ⟨g, _, none⟩) hg _
                  · have := HI.out.keep (by simpa using hlt2) (keeps_pos (by rw [HA.out.1, HA.out.2]; exact HD2.out))
                    rw [HA.out.1] at this
                    exact this
                case measure => simp [intOf]; omega
            · have hend : k + k2 = xs.length := by omega
              have hcl := fun ty => run_clear_pts wr ty g (kk * 4) (xs.length - kk) (cap - kk) (by omega) (fun j hj => by
                have hr := World.ownsRow.cellAt (h := HW2.out) (kk * 4 + j) (by simp; omega)
                rw [hr, List.getElem?_eq_getElem (by rw [flat_length]; simp; omega)]
                rfl) (fun j hj => World.ownsRow.frozenAt (h := HW2.out) _)
              have hk4 : kk * 4 ≤ (flat dk.toList).length := by rw [flat_length]; simp; omega
              go_wp2
              go_ret
              have hI := HI.out
              rw [hend] at hI
              have hlen : (compact xs).length = kk := hI.len
              refine ⟨by rw [hlen]; rfl, ?_, gr_setCells HW2.out.lt.1 _ _ gq⟩
              obtain ⟨ys, q1, q2⟩ := own_setCells (List.replicate ((xs.length - kk) * 4) (iv 0)) (kk * 4) HW2.out
              refine OwnAt.cut q1 (by rw [hlen]; simp; omega) ?_
              rw [hlen, q2]
              have hcx : compact xs = dk.toList.take kk := by
                apply List.ext_getElem?
                intro j
                by_cases hj : j < kk
                · rw [show (compact xs)[j]? = some dk[j]! from hI.low j hj, List.getElem?_take, if_pos hj, Array.getElem?_toList, Array.getElem?_eq_getElem (by omega), getElem!_pos dk j (by omega)]
                · rw [List.getElem?_eq_none (by omega), List.getElem?_eq_none (by simp; omega)]
              rw [hcx, ← List.take_append_drop kk dk.toList, flat_append, List.take_append_drop]
              have hl : (flat (dk.toList.take kk)).length = kk * 4 := by rw [flat_length]; simp; omega
              rw [← hl, List.take_left]
        · have hd : decide (p = q) = false := by simp [hpq]
          have HD := hide hpq
          clear hpq
          go_wp2_with fail
          go_quiet (fail)
          go_wp2
          go_roundw
          case rel =>
            refine ⟨k + 1, by omega, by omega, by go_num, HW, (by repeat (first | with_reducible exact Gr.refl _ | with_reducible assumption | with_reducible refine Gr.alloc ?_ _ | with_reducible refine Gr.drewN ?_ _ | with_reducible refine Gr.drew ?_ | with_reducible refine Gr.setCell ?_ (by first | (dsimp only; omega) | (simp only [World.size_alloc]; omega) | (with_reducible refine Gr.size ?_; (repeat (first | with_reducible exact Gr.refl _ | with_reducible assumption | with_reducible refine Gr.alloc ?_ _ | with_reducible refine Gr.drewN ?_ _ | with_reducible refine Gr.drew ?_ | with_reducible refine Gr.trans ?_ (by with_reducible assumption))); done)) _ | with_reducible refine Gr.trans ?_ (by with_reducible assumption))), fun j hj => ?_⟩
            by_cases e : j = k
            · subst e
              exact keeps_pos (by rw [HP.out.1, HP.out.2]; exact HD.out)
            · exact HK.out j (by omega)
          case measure => simp [intOf]; omega
      · obtain rfl : k = xs.length := by omega
        go_wp2
        go_ret
        rw [HS.out HK.out]
        exact ⟨rfl, HW.out, gw⟩
end Go.Proofs.YtloefohekhkehaaDoor
