/-
  Slices of points that are made: the copy of a slice.
-/
import Derived.Test.YtegehdidfmcflaaDoorSl1
namespace Go.Proofs.YtegehdidfmcflaaDoor
set_option linter.unusedVariables false
set_option linter.unusedSimpArgs false
open Go Go.ChangeShapes Go.WideShapes Go.ChangeAt Go.RowKit Go.Deep

abbrev cellsOfPt (p : Pt) : List Value := [iv p.1, iv p.2.1, iv p.2.2.1, iv p.2.2.2]
def flat (xs : List Pt) : List Value := xs.flatMap cellsOfPt
theorem flat_snoc (xs : List Pt) (p : Pt) : flat (xs ++ [p]) = flat xs ++ cellsOfPt p := by simp [flat]
theorem flat_length (xs : List Pt) : (flat xs).length = xs.length * 4 := by
  induction xs with
  | nil => rfl
  | cons x xs ih => simp only [flat, List.flatMap_cons, List.length_append, List.length_cons] at *; simp at *; omega
theorem flat_at (xs : List Pt) (i : Nat) (p : Pt) (h : xs[i]? = some p) : (flat xs)[i * 4]? = some (iv p.1) ∧ (flat xs)[i * 4 + 1]? = some (iv p.2.1) ∧ (flat xs)[i * 4 + 2]? = some (iv p.2.2.1) ∧ (flat xs)[i * 4 + 3]? = some (iv p.2.2.2) := by
  induction xs generalizing i with
  | nil => simp at h
  | cons x xs ih =>
    have e : flat (x :: xs) = cellsOfPt x ++ flat xs := by simp [flat]
    rw [e]
    cases i with
    | zero =>
      simp only [List.getElem?_cons_zero, Option.some.injEq] at h
      subst h
      simp
    | succ i =>
      have := ih i (by simpa using h)
      refine ⟨?_, ?_, ?_, ?_⟩ <;> rw [List.getElem?_append_right (by simp; omega)]
      · rw [← this.1]; congr 1; simp; omega
      · rw [← this.2.1]; congr 1; simp; omega
      · rw [← this.2.2.1]; congr 1; simp; omega
      · rw [← this.2.2.2]; congr 1; simp; omega
/-- The slice value v of the call's own holds the points xs. -/
def Own (w : World) (base : Nat) (v : Value) (xs : List Pt) : Prop := w.ownsRow base 33 4 v xs.length (flat xs)
theorem Own.rd {w : World} {base : Nat} {A : Option Addr} {n c : Nat} {xs : List Pt} (h : Own w base (.slice A n c) xs) : n = xs.length ∧ Rd w A xs := by
  obtain ⟨h0, ⟨h1, h2⟩ | ⟨g, cap, cur, h1, _, h2, h3, h4, h5, h6⟩⟩ := id h
  · have : xs = [] := List.eq_nil_of_length_eq_zero h2
    subst this
    injection h1 with _ h1 _
    exact ⟨h1, fun i p hp => by simp at hp⟩
  · injection h1 with e1 e2 e3
    subst e1 e2
    refine ⟨rfl, fun i p hp => ?_⟩
    have hc := fun j => World.ownsRow.cellAt (w := w) (h : w.ownsRow base 33 4 (.slice (some ⟨g, 0, none⟩) xs.length c) xs.length (flat xs)) j
    have hi : i < xs.length := (List.getElem?_eq_some_iff.1 hp).1
    obtain ⟨f0, f1, f2, f3⟩ := flat_at xs i p hp
    exact ⟨g, 0, rfl, by rw [Nat.zero_add, hc _ (by omega), f0], by rw [Nat.zero_add, hc _ (by omega), f1], by rw [Nat.zero_add, hc _ (by omega), f2], by rw [Nat.zero_add, hc _ (by omega), f3]⟩
theorem infoPt : (Tryd.prog.info? 33).map (fun i => (i.zero, i.size, i.bytes)) = some (some (.agg #[.int .i64 0, .int .i64 0, .int .i64 0, .int .i64 0]), 4, 32) := by kernel_rfl
theorem cells_new4 (w : World) (p : Pt) : ∀ j u, (cellsOfPt p)[j]? = some u → (w.alloc (.cells #[iv p.1, iv p.2.1, iv p.2.2.1, iv p.2.2.2] 33)).cell? ((⟨w.heap.size, 0, none⟩ : Addr).add j) = some u := by
  intro j u hu
  match j with
  | 0 => simp at hu; subst hu; simp [Addr.add, go_sem]
  | 1 => simp at hu; subst hu; simp [Addr.add, go_sem]
  | 2 => simp at hu; subst hu; simp [Addr.add, go_sem]
  | 3 => simp at hu; subst hu; simp [Addr.add, go_sem]
  | j + 4 => simp at hu
set_option maxHeartbeats 400000 in
set_option maxRecDepth 100000 in
theorem copyPoints_any (A : Option Addr) (c : Nat) (xs : List Pt) (w : World) (hx : Rd w A xs) (lx : xs.length ≤ 1000000) :
    Calls Tryd.prog 7 #[.slice A xs.length c] w fun e w' => ∃ v, e = .returned v ∧ Own w' w.heap.size v xs ∧ Gr w w' := by
  obtain ⟨i0, hi0, hz0, hz1, hz2⟩ := info_parts infoPt
  have HX := hide hx
  clear hx
  go_enter Tryd.func7, Tryd.ntmps7
  go_wp2
  go_loopw [3, 4] (fun v i wr => ∃ k : Nat, k ≤ xs.length ∧ i = iv k ∧ Own wr w.heap.size v (xs.take k) ∧ Gr w wr) (fun _ i _ => xs.length - (intOf i).toNat)
  case atStart => exact ⟨0, by omega, rfl, World.ownsRow_nil _ _ _ _, Gr.refl _⟩
  case round =>
    obtain ⟨k, hk, rfl, hown, g⟩ := hrel
    by_cases hlt : k < xs.length
    · obtain ⟨p, hp⟩ : ∃ p, xs[k]? = some p := ⟨_, List.getElem?_eq_getElem hlt⟩
      obtain ⟨b, off, rfl, x0, x1, x2, x3⟩ := (HX.out.gr g) k p hp
      have ht : xs.take (k + 1) = xs.take k ++ [p] := by rw [List.take_add_one, hp]; rfl
      have hlen : (xs.take k).length = k := by simp; omega
      have HT := hide ht
      have HL := hide hlen
      have hown' : wr.ownsRow w.heap.size 33 4 u3 k (flat (xs.take k)) := by have := hown; unfold Own at this; rwa [hlen] at this
      have HO := hide hown'
      clear hp ht hlen hown hown'
      have C1 := hide (cells_new4 wr p)
      have C2 : Hid (∀ u ∈ cellsOfPt p, u.oneCell' = true) := by intro u hu; simp at hu; rcases hu with rfl | rfl | rfl | rfl <;> rfl
      have C3 : Hid (k + 1 ≤ maxLen) := by unfold Hid maxLen; omega
      have C4 : Hid ((k + 1) * 32 ≤ 140737488355328) := by unfold Hid; omega
      have C5 : Hid (w.heap.size ≤ (wr.alloc (.cells #[iv p.1, iv p.2.1, iv p.2.2.1, iv p.2.2.2] 33)).heap.size) := by unfold Hid; have := g.size; simp; omega
      go_wp2_with (at_builtin; refine wpList_append_own _ rfl _ _ 22 rfl w.heap.size 33 i0 _ 4 32 Tryd.underlying22 hi0 hz0 hz1 hz2 rfl (by decide) _ _ _ rfl (HO.out.alloc _) ⟨wr.heap.size, 0, none⟩ 1 1 (cellsOfPt p) rfl rfl C1.out C2.out C3.out C4.out C5.out ?_; intro v1 w1 hown1 hg1 hn1)
      go_roundw
      case rel =>
        refine ⟨k + 1, by omega, by go_num, ?_, (g.alloc _).grown hg1 (fun j hj => (HO.out.lt j hj).1)⟩
        unfold Own
        rw [HT.out, flat_snoc, List.length_append, HL.out]
        exact hown1
      case measure => simp [intOf]; omega
    · obtain rfl : k = xs.length := by omega
      have hown' : Own wr w.heap.size u3 xs := by rwa [List.take_length] at hown
      have HO := hide hown'
      clear hown hown'
      go_wp2
      go_ret
      exact ⟨_, rfl, HO.out, g⟩
end Go.Proofs.YtegehdidfmcflaaDoor
