/-
  Regions, plainly: numbers in ascending order, each once; what Compact leaves; a row of the call's own that has been sorted or cut.
-/
import Derived.Test.YtjnfodbniohkhaaRgm
import Derived.Lib.SlicesCompact
import Derived.Shelf.SlSortCmp.Insertion
import Derived.Shelf.Slices.CompactI
set_option linter.unusedVariables false
set_option linter.unusedSimpArgs false
namespace Go.Proofs.Ytjnfodbniohkhaa
set_option linter.unusedVariables false
set_option linter.unusedSimpArgs false
open Go Go.ChangeShapes Go.WideShapes Go.ChangeAt Go.RowKit Go.Deep

namespace RG
/-- the numbers of a list, each once, ascending -/
def srt (l : List Int) : List Int := l.foldl ins []
theorem srt_go {l : List Int} : ∀ {a : List Int}, Up a → Up (l.foldl ins a) ∧ ∀ x, x ∈ l.foldl ins a ↔ x ∈ a ∨ x ∈ l := by
  induction l with
  | nil => intro a h; exact ⟨h, fun x => by simp⟩
  | cons y l ih =>
    intro a h
    rw [List.foldl_cons]
    obtain ⟨h1, h2⟩ := ih (up_ins (n := y) h)
    refine ⟨h1, fun x => ?_⟩
    rw [h2, mem_ins, List.mem_cons, or_assoc]
theorem up_srt (l : List Int) : Up (srt l) := (srt_go List.Pairwise.nil).1
theorem mem_srt {l : List Int} {x : Int} : x ∈ srt l ↔ x ∈ l := by
  unfold srt
  rw [(srt_go List.Pairwise.nil).2]
  simp
theorem len_srt (l : List Int) : (srt l).length ≤ l.length := by
  have : ∀ (l a : List Int), (l.foldl ins a).length ≤ a.length + l.length := by
    intro l
    induction l with
    | nil => intro a; simp
    | cons y l ih =>
      intro a
      rw [List.foldl_cons]
      have h1 := ih (ins a y)
      have h2 := len_ins a y
      simp only [List.length_cons]
      omega
  have h := this l []
  simpa [srt] using h
theorem srt_flat {f g : Rc → Int} (l : List Rc) : srt (l.flatMap fun r => [f r, g r]) = l.foldl (fun a r => ins (ins a (f r)) (g r)) [] := by
  have : ∀ (l : List Rc) (a : List Int), (l.flatMap fun r => [f r, g r]).foldl ins a = l.foldl (fun a r => ins (ins a (f r)) (g r)) a := by
    intro l
    induction l with
    | nil => intro a; rfl
    | cons r l ih =>
      intro a
      rw [List.flatMap_cons, List.foldl_append, List.foldl_cons, ih]
      rfl
  exact this l []
def flX (l : List Rc) : List Int := l.flatMap fun r => [r.x, r.x + r.w]
def flY (l : List Rc) : List Int := l.flatMap fun r => [r.y, r.y + r.h]
theorem srt_flX (l : List Rc) : srt (flX l) = lnX l := srt_flat l
theorem srt_flY (l : List Rc) : srt (flY l) = lnY l := srt_flat l
/-- where a number stands -/
def idx (X : List Int) (n : Int) : Nat := X.countP fun x => decide (x < n)
theorem idx_at : ∀ {X : List Int} {i : Nat} {n : Int}, Up X → X[i]? = some n → idx X n = i
  | [], i, n, _, h => by simp at h
  | y :: X, 0, n, hu, h => by
    simp only [List.getElem?_cons_zero, Option.some.injEq] at h
    subst h
    have h' := List.pairwise_cons.1 hu
    unfold idx
    rw [List.countP_eq_zero]
    intro x hx
    rcases List.mem_cons.1 hx with rfl | hx
    · simp
    · have := h'.1 x hx
      simp
      omega
  | y :: X, i + 1, n, hu, h => by
    have h' := List.pairwise_cons.1 hu
    have hX : X[i]? = some n := by simpa using h
    have ih := idx_at h'.2 hX
    have := h'.1 n (List.mem_of_getElem? hX)
    unfold idx at ih ⊢
    rw [List.countP_cons, ih, if_pos (by simpa using this)]
theorem idx_mem {X : List Int} {n : Int} (hu : Up X) (h : n ∈ X) : X[idx X n]? = some n ∧ idx X n < X.length := by
  obtain ⟨i, hi⟩ := List.mem_iff_getElem?.1 h
  rw [idx_at hu hi]
  exact ⟨hi, (List.getElem?_eq_some_iff.1 hi).1⟩
section
open Go.Lib
theorem mem_compactI (xs : List Int) (p : Int) : p ∈ compact xs ↔ p ∈ xs := by
  have hm : p ∈ compact xs ↔ ∃ j, j < xs.length ∧ keeps xs.toArray j = true ∧ xs.toArray[j]! = p := by
    unfold compact compactUpTo
    simp only [List.mem_map, List.mem_filter, List.mem_range]
    exact ⟨fun ⟨j, ⟨a, b⟩, c⟩ => ⟨j, a, b, c⟩, fun ⟨j, a, b, c⟩ => ⟨j, ⟨a, b⟩, c⟩⟩
  rw [hm]
  constructor
  · rintro ⟨j, a, _, rfl⟩
    have : xs.toArray[j]! = xs[j] := by rw [getElem!_pos xs.toArray j (by simpa using a)]; simp
    rw [this]
    exact List.getElem_mem a
  · intro h
    obtain ⟨j, hj, e⟩ := List.getElem_of_mem h
    have key : ∀ j, j < xs.length → xs.toArray[j]! = p → ∃ j, j < xs.length ∧ keeps xs.toArray j = true ∧ xs.toArray[j]! = p := by
      intro j
      induction j with
      | zero => exact fun a b => ⟨0, a, keeps_lt_one _ 0 (by omega), b⟩
      | succ j ih =>
        intro a b
        by_cases c : xs.toArray[j + 1]! = xs.toArray[j]!
        · exact ih (by omega) (by rw [← c]; exact b)
        · exact ⟨j + 1, a, keeps_pos (by simpa using c), b⟩
    exact key j hj (by rw [getElem!_pos xs.toArray j (by simpa using hj)]; simpa using e)
theorem compactI_up (xs : List Int) (h : xs.Pairwise (· ≤ ·)) : Up (compact xs) := by
  have hle : ∀ i j, i ≤ j → j < xs.length → xs.toArray[i]! ≤ xs.toArray[j]! := by
    intro i j hij hj
    by_cases e : i = j
    · subst e; exact Int.le_refl _
    · rw [List.pairwise_iff_getElem] at h
      have := h i j (by omega) hj (by omega)
      rw [getElem!_pos xs.toArray i (by simp; omega), getElem!_pos xs.toArray j (by simpa using hj)]
      simpa using this
  unfold Up compact compactUpTo
  rw [List.pairwise_map, List.pairwise_filter]
  refine List.Pairwise.imp_of_mem ?_ (List.pairwise_lt_range (n := xs.length))
  intro i j hi hj hij _ kj
  rw [List.mem_range] at hj
  have h1 := hle i (j - 1) (by omega) (by omega)
  have h2 := hle (j - 1) j (by omega) hj
  have hne : xs.toArray[j]! ≠ xs.toArray[j - 1]! := by
    have : j ≠ 0 := by omega
    simpa [keeps, this] using kj
  omega
theorem compactI_len (xs : List Int) : (compact xs).length ≤ xs.length := by
  unfold compact compactUpTo
  rw [List.length_map]
  exact Nat.le_trans (List.length_filter_le _ _) (by simp)
end
theorem fm_inL (xs : List Int) : xs.flatMap inL = xs.map (Value.int .i64) := by
  induction xs with
  | nil => rfl
  | cons x xs ih => rw [List.flatMap_cons, ih]; rfl
theorem own_holds {w : World} {base g cap : Nat} {xs : List Int} (h : OwnL w base 3 1 inL (.slice (some ⟨g, 0, none⟩) xs.length cap) xs) : Go.Sort.Holds (Value.int .i64) w g 0 xs.toArray := by
  intro j hj
  have hj' : j < xs.length := by simpa using hj
  rw [Nat.zero_add]
  refine ⟨?_, World.ownsRow.frozenAt (h := h) j⟩
  rw [World.ownsRow.cellAt (h := h) j (by omega), fm_inL, List.getElem?_map, List.getElem?_eq_getElem hj', getElem!_pos _ j (by simpa using hj)]
  simp
theorem own_sorted {w : World} {base g cap n : Nat} {xs : List Int} {d : Array Int} (h : OwnL w base 3 1 inL (.slice (some ⟨g, 0, none⟩) xs.length cap) xs) (hl : d.size = xs.length) (m : Nat) (os : Array Obj) (hn : n = d.size) :
    OwnL (Go.Proofs.sortWorld (Value.int .i64) w g 0 m d os) base 3 1 inL (.slice (some ⟨g, 0, none⟩) n cap) d.toList := by
  subst hn
  unfold OwnL at *
  obtain ⟨h1, h2⟩ := h
  rcases h2 with ⟨h0, _⟩ | ⟨g', cap', cur, hv, hg, hh, hn, hcap, hsz, htake⟩
  · cases h0
  · cases hv
    refine ⟨by rw [fm_inL]; simp, .inr ⟨g, cap, Go.Sort.putCells (Value.int .i64) 0 d cur, by simp, hg, ?_, by simp; omega, hcap, by simpa [Go.Sort.putCells] using hsz, ?_⟩⟩
    · have hlt : g < w.heap.size := (Array.getElem?_eq_some_iff.1 hh).1
      unfold Go.Proofs.sortWorld Go.Sort.putRow
      rw [Go.Sort.heap_grow_old _ _ (by simpa [Go.Sort.mapBlock, Go.Sort.ahead] using hlt)]
      simp [Go.Sort.mapBlock, Go.Sort.ahead, Array.getElem?_modify, hh, Go.Sort.onCells]
    · rw [fm_inL]
      apply List.ext_getElem?
      intro j
      by_cases hj : j < d.size
      · have hjc : j < cur.size := by omega
        rw [List.getElem?_take, if_pos (by simpa using hj), Array.getElem?_toList]
        simp only [Go.Sort.putCells, Array.getElem?_mapIdx, Array.getElem?_eq_getElem hjc, Option.map_some]
        rw [if_pos (by omega), List.getElem?_map, Array.getElem?_toList, Array.getElem?_eq_getElem hj, Nat.sub_zero, getElem!_pos d j hj]
        rfl
      · rw [List.getElem?_take_eq_none (by simp; omega), List.getElem?_eq_none (by simp; omega)]
theorem gr_sorted {a b : World} {g : Nat} (h : Gr a b) (hg : a.heap.size ≤ g) (m : Nat) (d : Array Int) (os : Array Obj) : Gr a (Go.Proofs.sortWorld (Value.int .i64) b g 0 m d os) := by
  have hs := h.size
  refine ⟨h.os, h.tape, h.output, ?_, fun k hk => ?_⟩
  · unfold Go.Proofs.sortWorld Go.Sort.putRow
    simp [Go.Sort.grow, Go.Sort.mapBlock, Go.Sort.ahead]
    omega
  · unfold Go.Proofs.sortWorld Go.Sort.putRow
    rw [Go.Sort.heap_grow_old _ _ (by simp [Go.Sort.mapBlock, Go.Sort.ahead]; omega), ← Below.block h k hk]
    simp [Go.Sort.mapBlock, Go.Sort.ahead, Array.getElem?_modify, show g ≠ k by omega]
theorem own_cutI {w : World} {base g n cap : Nat} {xs ys : List Int} (h : OwnL w base 3 1 inL (.slice (some ⟨g, 0, none⟩) n cap) (xs ++ ys)) (hn : n = (xs ++ ys).length) : OwnL w base 3 1 inL (.slice (some ⟨g, 0, none⟩) xs.length cap) xs := by
  subst hn
  unfold OwnL at *
  obtain ⟨h1, h2⟩ := h
  rcases h2 with ⟨h0, _⟩ | ⟨g', cap', cur, hv, hg, hh, hn, hcap, hsz, htake⟩
  · cases h0
  · cases hv
    refine ⟨fm_len (c := inL) (fun _ => rfl) xs, .inr ⟨g, cap, cur, rfl, hg, hh, by rw [List.length_append] at hn; omega, hcap, hsz, ?_⟩⟩
    have e : (cur.toList.take ((xs ++ ys).length * 1)).take (xs.length * 1) = ((xs ++ ys).flatMap inL).take (xs.length * 1) := by rw [htake]
    rw [List.take_take, List.length_append, Nat.min_eq_left (by omega), List.flatMap_append, List.take_left' (fm_len (c := inL) (fun _ => rfl) xs)] at e
    exact e
theorem ltI (x y : Int) : ltOf Lib.compareInt x y = decide (x < y) := by
  unfold ltOf Lib.compareInt
  by_cases h1 : x < y
  · simp [h1]
  · by_cases h2 : y < x <;> simp [h1, h2]
theorem swoI : Go.Sort.SWO (ltOf Lib.compareInt) where
  irrefl x := by rw [ltI]; simp
  trans x y z h1 h2 := by rw [ltI] at *; simp at *; omega
  ntrans x y z h1 h2 := by rw [ltI] at *; simp at *; omega
end RG
end Go.Proofs.Ytjnfodbniohkhaa
