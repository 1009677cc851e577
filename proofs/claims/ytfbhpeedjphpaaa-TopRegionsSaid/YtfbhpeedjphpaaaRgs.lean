/-
  Regions: sortUnique at int: each number once, in ascending order; where a number stands.
-/
import Derived.Test.YtfbhpeedjphpaaaRgm
import Derived.Test.YtfbhpeedjphpaaaLayI
import Derived.Lib.SlicesCompact
set_option linter.unusedVariables false
set_option linter.unusedSimpArgs false
namespace Go.Proofs.Ytfbhpeedjphpaaa
set_option linter.unusedVariables false
set_option linter.unusedSimpArgs false
open Go Go.ChangeShapes Go.WideShapes Go.ChangeAt Go.RowKit Go.Deep

namespace RG
/-- the numbers of a list, each once, ascending -/
def srt (l : List Int) : List Int := l.foldl ins []
theorem srt_go {l : List Int} : ∀ {a : List Int}, Up a → Up (l.foldl ins a) ∧ ∀ x, x ∈ l.foldl ins a ↔ x ∈ a ∨ x ∈ l := by
  induction l with
  | nil => intro a h; exact ⟨h, fun x => by simp⟩
  | cons y l ih =>
    intro a h
    rw [List.foldl_cons]
    obtain ⟨h1, h2⟩ := ih (up_ins (n := y) h)
    refine ⟨h1, fun x => ?_⟩
    rw [h2, mem_ins, List.mem_cons, or_assoc]
theorem up_srt (l : List Int) : Up (srt l) := (srt_go List.Pairwise.nil).1
theorem mem_srt {l : List Int} {x : Int} : x ∈ srt l ↔ x ∈ l := by
  unfold srt
  rw [(srt_go List.Pairwise.nil).2]
  simp
theorem len_srt (l : List Int) : (srt l).length ≤ l.length := by
  have : ∀ (l a : List Int), (l.foldl ins a).length ≤ a.length + l.length := by
    intro l
    induction l with
    | nil => intro a; simp
    | cons y l ih =>
      intro a
      rw [List.foldl_cons]
      have h1 := ih (ins a y)
      have h2 := len_ins a y
      simp only [List.length_cons]
      omega
  have h := this l []
  simpa [srt] using h
theorem srt_flat {f g : Rc → Int} (l : List Rc) : srt (l.flatMap fun r => [f r, g r]) = l.foldl (fun a r => ins (ins a (f r)) (g r)) [] := by
  have : ∀ (l : List Rc) (a : List Int), (l.flatMap fun r => [f r, g r]).foldl ins a = l.foldl (fun a r => ins (ins a (f r)) (g r)) a := by
    intro l
    induction l with
    | nil => intro a; rfl
    | cons r l ih =>
      intro a
      rw [List.flatMap_cons, List.foldl_append, List.foldl_cons, ih]
      rfl
  exact this l []
def flX (l : List Rc) : List Int := l.flatMap fun r => [r.x, r.x + r.w]
def flY (l : List Rc) : List Int := l.flatMap fun r => [r.y, r.y + r.h]
theorem srt_flX (l : List Rc) : srt (flX l) = lnX l := srt_flat l
theorem srt_flY (l : List Rc) : srt (flY l) = lnY l := srt_flat l
/-- where a number stands -/
def idx (X : List Int) (n : Int) : Nat := X.countP fun x => decide (x < n)
theorem idx_at : ∀ {X : List Int} {i : Nat} {n : Int}, Up X → X[i]? = some n → idx X n = i
  | [], i, n, _, h => by simp at h
  | y :: X, 0, n, hu, h => by
    simp only [List.getElem?_cons_zero, Option.some.injEq] at h
    subst h
    have h' := List.pairwise_cons.1 hu
    unfold idx
    rw [List.countP_eq_zero]
    intro x hx
    rcases List.mem_cons.1 hx with rfl | hx
    · simp
    · have := h'.1 x hx
      simp
      omega
  | y :: X, i + 1, n, hu, h => by
    have h' := List.pairwise_cons.1 hu
    have hX : X[i]? = some n := by simpa using h
    have ih := idx_at h'.2 hX
    have := h'.1 n (List.mem_of_getElem? hX)
    unfold idx at ih ⊢
    rw [List.countP_cons, ih, if_pos (by simpa using this)]
theorem idx_mem {X : List Int} {n : Int} (hu : Up X) (h : n ∈ X) : X[idx X n]? = some n ∧ idx X n < X.length := by
  obtain ⟨i, hi⟩ := List.mem_iff_getElem?.1 h
  rw [idx_at hu hi]
  exact ⟨hi, (List.getElem?_eq_some_iff.1 hi).1⟩
section
open Go.Lib
theorem mem_compactI (xs : List Int) (p : Int) : p ∈ compact xs ↔ p ∈ xs := by
  have hm : p ∈ compact xs ↔ ∃ j, j < xs.length ∧ keeps xs.toArray j = true ∧ xs.toArray[j]! = p := by
    unfold compact compactUpTo
    simp only [List.mem_map, List.mem_filter, List.mem_range]
    exact ⟨fun ⟨j, ⟨a, b⟩, c⟩ => ⟨j, a, b, c⟩, fun ⟨j, a, b, c⟩ => ⟨j, ⟨a, b⟩, c⟩⟩
  rw [hm]
  constructor
  · rintro ⟨j, a, _, rfl⟩
    have : xs.toArray[j]! = xs[j] := by rw [getElem!_pos xs.toArray j (by simpa using a)]; simp
    rw [this]
    exact List.getElem_mem a
  · intro h
    obtain ⟨j, hj, e⟩ := List.getElem_of_mem h
    have key : ∀ j, j < xs.length → xs.toArray[j]! = p → ∃ j, j < xs.length ∧ keeps xs.toArray j = true ∧ xs.toArray[j]! = p := by
      intro j
      induction j with
      | zero => exact fun a b => ⟨0, a, keeps_lt_one _ 0 (by omega), b⟩
      | succ j ih =>
        intro a b
        by_cases c : xs.toArray[j + 1]! = xs.toArray[j]!
        · exact ih (by omega) (by rw [← c]; exact b)
        · exact ⟨j + 1, a, keeps_pos (by simpa using c), b⟩
    exact key j hj (by rw [getElem!_pos xs.toArray j (by simpa using hj)]; simpa using e)
theorem compactI_up (xs : List Int) (h : xs.Pairwise (· ≤ ·)) : Up (compact xs) := by
  have hle : ∀ i j, i ≤ j → j < xs.length → xs.toArray[i]! ≤ xs.toArray[j]! := by
    intro i j hij hj
    by_cases e : i = j
    · subst e; exact Int.le_refl _
    · rw [List.pairwise_iff_getElem] at h
      have := h i j (by omega) hj (by omega)
      rw [getElem!_pos xs.toArray i (by simp; omega), getElem!_pos xs.toArray j (by simpa using hj)]
      simpa using this
  unfold Up compact compactUpTo
  rw [List.pairwise_map, List.pairwise_filter]
  refine List.Pairwise.imp_of_mem ?_ (List.pairwise_lt_range (n := xs.length))
  intro i j hi hj hij _ kj
  rw [List.mem_range] at hj
  have h1 := hle i (j - 1) (by omega) (by omega)
  have h2 := hle (j - 1) j (by omega) hj
  have hne : xs.toArray[j]! ≠ xs.toArray[j - 1]! := by
    have : j ≠ 0 := by omega
    simpa [keeps, this] using kj
  omega
theorem compactI_len (xs : List Int) : (compact xs).length ≤ xs.length := by
  unfold compact compactUpTo
  rw [List.length_map]
  exact Nat.le_trans (List.length_filter_le _ _) (by simp)
end
theorem fm_inL (xs : List Int) : xs.flatMap inL = xs.map (Value.int .i64) := by
  induction xs with
  | nil => rfl
  | cons x xs ih => rw [List.flatMap_cons, ih]; rfl
theorem own_holds {w : World} {base g cap : Nat} {xs : List Int} (h : OwnL w base 3 1 inL (.slice (some ⟨g, 0, none⟩) xs.length cap) xs) : Go.Sort.Holds (Value.int .i64) w g 0 xs.toArray := by
  intro j hj
  have hj' : j < xs.length := by simpa using hj
  rw [Nat.zero_add]
  refine ⟨?_, World.ownsRow.frozenAt (h := h) j⟩
  rw [World.ownsRow.cellAt (h := h) j (by omega), fm_inL, List.getElem?_map, List.getElem?_eq_getElem hj', getElem!_pos _ j (by simpa using hj)]
  simp
theorem own_sorted {w : World} {base g cap n : Nat} {xs : List Int} {d : Array Int} (h : OwnL w base 3 1 inL (.slice (some ⟨g, 0, none⟩) xs.length cap) xs) (hl : d.size = xs.length) (m : Nat) (os : Array Obj) (hn : n = d.size) :
    OwnL (Go.Proofs.sortWorld (Value.int .i64) w g 0 m d os) base 3 1 inL (.slice (some ⟨g, 0, none⟩) n cap) d.toList := by
  subst hn
  unfold OwnL at *
  obtain ⟨h1, h2⟩ := h
  rcases h2 with ⟨h0, _⟩ | ⟨g', cap', cur, hv, hg, hh, hn, hcap, hsz, htake⟩
  · cases h0
  · cases hv
    refine ⟨by rw [fm_inL]; simp, .inr ⟨g, cap, Go.Sort.putCells (Value.int .i64) 0 d cur, by simp, hg, ?_, by simp; omega, hcap, by simpa [Go.Sort.putCells] using hsz, ?_⟩⟩
    · have hlt : g < w.heap.size := (Array.getElem?_eq_some_iff.1 hh).1
      unfold Go.Proofs.sortWorld Go.Sort.putRow
      rw [Go.Sort.heap_grow_old _ _ (by simpa [Go.Sort.mapBlock, Go.Sort.ahead] using hlt)]
      simp [Go.Sort.mapBlock, Go.Sort.ahead, Array.getElem?_modify, hh, Go.Sort.onCells]
    · rw [fm_inL]
      apply List.ext_getElem?
      intro j
      by_cases hj : j < d.size
      · have hjc : j < cur.size := by omega
        rw [List.getElem?_take, if_pos (by simpa using hj), Array.getElem?_toList]
        simp only [Go.Sort.putCells, Array.getElem?_mapIdx, Array.getElem?_eq_getElem hjc, Option.map_some]
        rw [if_pos (by omega), List.getElem?_map, Array.getElem?_toList, Array.getElem?_eq_getElem hj, Nat.sub_zero, getElem!_pos d j hj]
        rfl
      · rw [List.getElem?_take_eq_none (by simp; omega), List.getElem?_eq_none (by simp; omega)]
theorem gr_sorted {a b : World} {g : Nat} (h : Gr a b) (hg : a.heap.size ≤ g) (m : Nat) (d : Array Int) (os : Array Obj) : Gr a (Go.Proofs.sortWorld (Value.int .i64) b g 0 m d os) := by
  have hs := h.size
  refine ⟨h.os, h.tape, h.output, ?_, fun k hk => ?_⟩
  · unfold Go.Proofs.sortWorld Go.Sort.putRow
    simp [Go.Sort.grow, Go.Sort.mapBlock, Go.Sort.ahead]
    omega
  · unfold Go.Proofs.sortWorld Go.Sort.putRow
    rw [Go.Sort.heap_grow_old _ _ (by simp [Go.Sort.mapBlock, Go.Sort.ahead]; omega), ← Below.block h k hk]
    simp [Go.Sort.mapBlock, Go.Sort.ahead, Array.getElem?_modify, show g ≠ k by omega]
theorem own_cutI {w : World} {base g n cap : Nat} {xs ys : List Int} (h : OwnL w base 3 1 inL (.slice (some ⟨g, 0, none⟩) n cap) (xs ++ ys)) (hn : n = (xs ++ ys).length) : OwnL w base 3 1 inL (.slice (some ⟨g, 0, none⟩) xs.length cap) xs := by
  subst hn
  unfold OwnL at *
  obtain ⟨h1, h2⟩ := h
  rcases h2 with ⟨h0, _⟩ | ⟨g', cap', cur, hv, hg, hh, hn, hcap, hsz, htake⟩
  · cases h0
  · cases hv
    refine ⟨fm_len (c := inL) (fun _ => rfl) xs, .inr ⟨g, cap, cur, rfl, hg, hh, by rw [List.length_append] at hn; omega, hcap, hsz, ?_⟩⟩
    have e : (cur.toList.take ((xs ++ ys).length * 1)).take (xs.length * 1) = ((xs ++ ys).flatMap inL).take (xs.length * 1) := by rw [htake]
    rw [List.take_take, List.length_append, Nat.min_eq_left (by omega), List.flatMap_append, List.take_left' (fm_len (c := inL) (fun _ => rfl) xs)] at e
    exact e
theorem ltI (x y : Int) : ltOf Lib.compareInt x y = decide (x < y) := by
  unfold ltOf Lib.compareInt
  by_cases h1 : x < y
  · simp [h1]
  · by_cases h2 : y < x <;> simp [h1, h2]
theorem swoI : Go.Sort.SWO (ltOf Lib.compareInt) where
  irrefl x := by rw [ltI]; simp
  trans x y z h1 h2 := by rw [ltI] at *; simp at *; omega
  ntrans x y z h1 h2 := by rw [ltI] at *; simp at *; omega
theorem cloneI (A : Option Addr) (c : Nat) (xs : List Int) (w : World) (hx : SlI w A c xs) (h1000 : xs.length ≤ 1000) :
    Calls Try.prog 31 #[.slice A xs.length c] w fun e w' => ∃ D d, e = .returned (.slice D xs.length d) ∧ OwnL w' w.heap.size 3 1 inL (.slice D xs.length d) xs ∧ Gr w w' := by
  cases A with
  | none =>
    have hxn : xs = [] := by
      cases xs with
      | nil => rfl
      | cons f l =>
        obtain ⟨b, off, e, _⟩ := hx.rd.in_ (i := 0) (z := f) rfl
        cases e
    subst hxn
    refine (Go.Proofs.Any.slices_Clone_int_nil Try.layIClone 0 c w).mono ?_
    rintro e w' ⟨rfl, rfl⟩
    exact ⟨none, 0, rfl, own_nil _ _ _ _ _, Gr.refl _⟩
  | some a =>
    by_cases h0 : xs = []
    · subst h0
      refine (Go.Proofs.Any.slices_Clone_int_zero Try.layIClone a c w).mono ?_
      rintro e w' ⟨v, rfl, ho, _, hb⟩
      have ho' : OwnL w' w.heap.size 3 1 inL v [] := ho
      obtain ⟨D, d, rfl⟩ := ho'.slice
      exact ⟨D, d, rfl, ho', hb⟩
    · obtain ⟨f, hf⟩ : ∃ f, xs[0]? = some f := ⟨_, List.getElem?_eq_getElem (List.length_pos_iff.2 h0)⟩
      obtain ⟨b, off, e, _⟩ := hx.rd.in_ hf
      cases e
      have hcon := Go.Proofs.Any.slices_Clone_int Try.layIClone b off xs.length c xs w (Nat.le_refl _) (by omega) (fun j hj => by
        obtain ⟨b', off', e, h1⟩ := hx.rd.in_ (List.getElem?_eq_getElem hj)
        cases e
        rw [h1, List.getD_eq_getElem?_getD, List.getElem?_eq_getElem hj]
        rfl)
      refine hcon.mono ?_
      rintro e w' ⟨v, rfl, ho, _, hb⟩
      have ho' : OwnL w' w.heap.size 3 1 inL v xs := by
        unfold OwnL
        rw [fm_inL]
        rw [List.take_length] at ho
        exact ho
      obtain ⟨D, d, rfl⟩ := ho'.slice
      exact ⟨D, d, rfl, ho', hb⟩
theorem sortI (D : Option Addr) (d : Nat) (xs : List Int) (w w0 : World) (h : OwnL w w0.heap.size 3 1 inL (.slice D xs.length d) xs) (g0 : Gr w0 w) (h1000 : xs.length ≤ 1000) :
    Calls Try.prog 32 #[.slice D xs.length d, .func (.func 22) #[] #[]] w fun e w' =>
      e = .returned (.tuple #[]) ∧ ∃ ys, ys.Perm xs ∧ ys.Pairwise (· ≤ ·) ∧ OwnL w' w0.heap.size 3 1 inL (.slice D ys.length d) ys ∧ Gr w0 w' := by
  by_cases h0 : xs = []
  · subst h0
    refine (Go.Proofs.AnyF.slices_SortFunc_none (P := Try.prog) (ρ := Try.layISort_ren) { Try.layISort with } D d _ w).mono ?_
    rintro e w' ⟨rfl, rfl⟩
    exact ⟨rfl, [], List.Perm.refl _, List.Pairwise.nil, h, g0⟩
  · rcases h.2 with ⟨h1, h2⟩ | ⟨g, cap, cur, hv, hb, hh, _⟩
    · exact absurd (List.eq_nil_of_length_eq_zero h2) h0
    · cases hv
      have eg : ∀ args w, (callFunc 22 args).run Try.prog w = .ok (.enter 22 args) w := enters_of Try.func22 (by kernel_rfl) rfl
      have hreads : CmpReads Try.prog 22 #[] (Value.int .i64) Lib.compareInt g 0 xs.toArray.size w := fun m os dk hdk x y =>
        (Go.Proofs.Any.cmp_Compare_int Try.layICmp x y _).mono fun e w' ⟨he, hw⟩ => ⟨he, 0, hw⟩
      have hcon := Go.Proofs.Any.slices_SortFunc Try.layISort (Value.int .i64) (fun _ => rfl) Lib.compareInt swoI 22 #[] g 0 d xs.toArray w eg hreads.lays (own_holds h) (Array.getElem?_eq_some_iff.1 hh).1 (by simp; omega)
      rw [List.size_toArray] at hcon
      refine hcon.mono ?_
      rintro e w' ⟨rfl, d', n, os, hperm, hsort, rfl⟩
      obtain ⟨p1, _, p3⟩ := hperm
      have p1' : d'.size = xs.length := by simpa using p1
      have pe : d'.toList.Perm xs := by
        have e1 : (d'.extract 0 xs.length) = d' := by rw [← p1']; simp
        have e2 : (xs.toArray.extract 0 xs.length) = xs.toArray := by simp
        rw [e1, e2] at p3
        simpa using p3
      refine ⟨rfl, d'.toList, pe, ?_, ?_, gr_sorted g0 hb n d' os⟩
      · rw [List.pairwise_iff_getElem]
        intro i j hi hj hij
        have := hsort i j (Nat.zero_le _) hij (by simp at hj; omega)
        rw [ltI] at this
        rw [getElem!_pos d' i (by simpa using hi), getElem!_pos d' j (by simpa using hj)] at this
        simp at this ⊢
        omega
      · exact own_sorted h p1' n os (by simp)
theorem compactI (D : Option Addr) (d : Nat) (xs : List Int) (w w0 : World) (h : OwnL w w0.heap.size 3 1 inL (.slice D xs.length d) xs) (g0 : Gr w0 w) (h1000 : xs.length ≤ 1000) :
    Calls Try.prog 33 #[.slice D xs.length d] w fun e w' =>
      e = .returned (.slice D (Go.Lib.compact xs).length d) ∧ OwnL w' w0.heap.size 3 1 inL (.slice D (Go.Lib.compact xs).length d) (Go.Lib.compact xs) ∧ Gr w0 w' := by
  by_cases h0 : xs = []
  · subst h0
    refine (Go.Proofs.Any.slices_Compact_int_empty Try.layICompact D d w).mono ?_
    rintro e w' ⟨rfl, rfl⟩
    exact ⟨rfl, h, g0⟩
  · rcases h.2 with ⟨h1, h2⟩ | ⟨g, cap, cur, hv, hb, hh, hn, _⟩
    · exact absurd (List.eq_nil_of_length_eq_zero h2) h0
    · cases hv
      have hcon := Go.Proofs.Any.slices_Compact_int Try.layICompact g 0 d xs w (own_holds h) (by omega) hn
      refine hcon.mono ?_
      rintro e w' ⟨rfl, q, rfl⟩
      have hl := compactI_len xs
      have e1 : ∀ dd : Array Int, Go.Sort.putRow (Value.int .i64) (Go.Sort.ahead w q) g 0 dd = Go.Proofs.sortWorld (Value.int .i64) w g 0 q dd #[] := by
        intro dd
        unfold Go.Proofs.sortWorld
        rw [Go.Sort.grow_empty]
      rw [e1]
      refine ⟨rfl, own_cutI (ys := List.replicate (xs.length - (Go.Lib.compact xs).length) 0) (own_sorted h (by simp; omega) q #[] (n := xs.length) (by simp; omega)) (by simp; omega), gr_sorted g0 hb q _ #[]⟩
set_option maxHeartbeats 2000000 in
set_option maxRecDepth 100000 in
theorem sortU_any (A : Option Addr) (c : Nat) (xs : List Int) (w : World) (hx : SlI w A c xs) (h1000 : xs.length ≤ 1000) :
    Calls Try.prog 21 #[.slice A xs.length c, .func (.func 22) #[] #[]] w fun e w' => ∃ D d, e = .returned (.slice D (srt xs).length d) ∧ OwnL w' w.heap.size 3 1 inL (.slice D (srt xs).length d) (srt xs) ∧ Gr w w' := by
  have HX := hide hx
  have HL := hide h1000
  clear hx h1000
  go_enter Try.func21, Try.ntmps21
  go_wp2_with (first
    | (go_at_call 31; refine (cloneI _ _ _ _ HX.out HL.out).mono ?_; rintro e w1 ⟨D, d, rfl, ho, g1⟩; (have HO := hide ho); clear ho)
    | (go_at_call 32; refine (sortI _ _ _ _ w HO.out g1 HL.out).mono ?_; rintro e w2 ⟨rfl, ys, hperm, hs, ho2, g2⟩; (have HO2 := hide ho2); (have HS := hide hs); (have HQ := hide hperm); (have HE := hide hperm.length_eq); clear ho2 hs hperm; rw [← HE.out])
    | (go_at_call 33; refine (compactI _ _ _ _ w HO2.out g2 (by rw [HE.out]; exact HL.out)).mono ?_; rintro e w3 ⟨rfl, ho3, g3⟩; (have HO3 := hide ho3); clear ho3))
  go_ret
  have key : Go.Lib.compact ys = srt xs := Up.ext (compactI_up _ HS.out) (up_srt _) fun x => by rw [mem_compactI, mem_srt]; exact HQ.out.mem_iff
  exact ⟨D, d, by rw [← key]; rfl, by rw [← key]; exact HO3.out, g3⟩
theorem position_any (A : Option Addr) (c : Nat) (X : List Int) (n : Int) (w : World) (hx : SlI w A c X) (hu : Up X) (hm : n ∈ X) (h1000 : X.length ≤ 1000) :
    Calls Try.prog 23 #[.slice A X.length c, iv n] w fun e w' => e = .returned (iv (idx X n)) ∧ Gr w w' := by
  obtain ⟨f, hf⟩ : ∃ f, X[0]? = some f := ⟨_, List.getElem?_eq_getElem (List.length_pos_of_mem hm)⟩
  obtain ⟨b, off, e, _⟩ := hx.rd.in_ hf
  subst e
  have hcon := Go.Proofs.Any.slices_BinarySearch_int Try.layISearch b off X.length c X n w (Nat.le_refl _) (by omega) (fun j hj => by
    obtain ⟨b', off', e, h1⟩ := hx.rd.in_ (List.getElem?_eq_getElem hj)
    cases e
    rw [h1, List.getD_eq_getElem?_getD, List.getElem?_eq_getElem hj]
    rfl) (by rw [List.take_length]; exact List.Pairwise.imp (fun h => Int.le_of_lt h) hu)
  rw [List.take_length] at hcon
  have HC := hide hcon
  have HI := hide (show X.countP (fun x => decide (x < n)) = idx X n from rfl)
  rw [HI.out] at HC
  clear hcon hx hu hm hf
  obtain ⟨z, hz⟩ : ∃ z, X.contains n = z := ⟨_, rfl⟩
  rw [hz] at HC
  clear hz HI
  generalize idx X n = k at *
  go_enter Try.func23, Try.ntmps23
  go_wp2_with (go_at_call 35; refine HC.out.mono ?_; rintro e w1 ⟨rfl, q, rfl⟩)
  go_ret
  exact ⟨rfl, (by repeat (first | with_reducible exact Gr.refl _ | with_reducible assumption | with_reducible refine Gr.alloc ?_ _ | with_reducible refine Gr.drewN ?_ _ | with_reducible refine Gr.drew ?_ | with_reducible refine Gr.setCell ?_ (by first | (dsimp only; omega) | (simp only [World.size_alloc]; omega) | (with_reducible refine Gr.size ?_; (repeat (first | with_reducible exact Gr.refl _ | with_reducible assumption | with_reducible refine Gr.alloc ?_ _ | with_reducible refine Gr.drewN ?_ _ | with_reducible refine Gr.drew ?_ | with_reducible refine Gr.trans ?_ (by with_reducible assumption))); done)) _ | with_reducible refine Gr.trans ?_ (by with_reducible assumption)))⟩
end RG
end Go.Proofs.Ytfbhpeedjphpaaa
