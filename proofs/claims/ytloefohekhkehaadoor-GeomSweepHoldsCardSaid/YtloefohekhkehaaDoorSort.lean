/-
  sortUnique at points: each point once, in their order.
-/
import Derived.Test.YtloefohekhkehaaDoorComp
import Derived.Test.YtloefohekhkehaaDoorLay
namespace Go.Proofs.YtloefohekhkehaaDoor
set_option linter.unusedVariables false
set_option linter.unusedSimpArgs false
open Go Go.ChangeShapes Go.WideShapes Go.ChangeAt Go.RowKit Go.Deep

/-! ### What Compact leaves of points in their order -/
section
open Go.Lib
theorem mem_compact (xs : List Pt) (p : Pt) : p ∈ compact xs ↔ p ∈ xs := by
  have hm : p ∈ compact xs ↔ ∃ j, j < xs.length ∧ keeps xs.toArray j = true ∧ xs.toArray[j]! = p := by
    unfold compact compactUpTo
    simp only [List.mem_map, List.mem_filter, List.mem_range]
    exact ⟨fun ⟨j, ⟨a, b⟩, c⟩ => ⟨j, a, b, c⟩, fun ⟨j, a, b, c⟩ => ⟨j, ⟨a, b⟩, c⟩⟩
  rw [hm]
  constructor
  · rintro ⟨j, a, _, rfl⟩
    have : xs.toArray[j]! = xs[j] := by rw [getElem!_pos xs.toArray j (by simpa using a)]; simp
    rw [this]
    exact List.getElem_mem a
  · intro h
    obtain ⟨j, hj, e⟩ := List.getElem_of_mem h
    have key : ∀ j, j < xs.length → xs.toArray[j]! = p → ∃ j, j < xs.length ∧ keeps xs.toArray j = true ∧ xs.toArray[j]! = p := by
      intro j
      induction j with
      | zero => exact fun a b => ⟨0, a, keeps_lt_one _ 0 (by omega), b⟩
      | succ j ih =>
        intro a b
        by_cases c : xs.toArray[j + 1]! = xs.toArray[j]!
        · exact ih (by omega) (by rw [← c]; exact b)
        · exact ⟨j + 1, a, keeps_pos (by simpa using c), b⟩
    exact key j hj (by rw [getElem!_pos xs.toArray j (by simpa using hj)]; simpa using e)
theorem compact_sorted (xs : List Pt) (h : (xs.map vOf).Pairwise G.Le) : ((compact xs).map vOf).Pairwise G.L := by
  have hle : ∀ i j, i ≤ j → j < xs.length → G.Le (vOf xs.toArray[i]!) (vOf xs.toArray[j]!) := by
    intro i j hij hj
    by_cases e : i = j
    · subst e; exact G.Le.refl _
    · rw [List.pairwise_map, List.pairwise_iff_getElem] at h
      have := h i j (by omega) hj (by omega)
      rw [getElem!_pos xs.toArray i (by simp; omega), getElem!_pos xs.toArray j (by simpa using hj)]
      simpa using this
  unfold compact compactUpTo
  rw [List.map_map, List.pairwise_map, List.pairwise_filter]
  refine List.Pairwise.imp_of_mem ?_ (List.pairwise_lt_range (n := xs.length))
  intro i j hi hj hij _ kj
  rw [List.mem_range] at hj
  have h1 := hle i (j - 1) (by omega) (by omega)
  have h2 := hle (j - 1) j (by omega) hj
  have hne : xs.toArray[j]! ≠ xs.toArray[j - 1]! := by
    have : j ≠ 0 := by omega
    simpa [keeps, this] using kj
  refine h1.l_l ?_
  rcases h2.or with k | k
  · exact k
  · exact absurd (vOf_inj k).symm hne
end

/-! ### The sort's row and a row of the call's own -/
theorem flatK_eq (d : Array BP) : Go.Sort.flatK bCells 4 d = (flat (d.toList.map (·.1))).toArray := by
  apply Array.ext
  · simp [flat_length]
  · intro t h1 h2
    have h1' : t < d.size * 4 := by simpa using h1
    have e : (Go.Sort.flatK bCells 4 d)[t] = (bCells d[t / 4]!)[t % 4]! := by
      rw [← Go.Sort.get_flatK bCells 4 d t h1', getElem!_pos _ t h1]
    rw [e]
    have hi : t / 4 < d.size := by omega
    have hd : (d.toList.map (·.1))[t / 4]? = some d[t / 4]!.1 := by
      rw [List.getElem?_map, Array.getElem?_toList, Array.getElem?_eq_getElem hi, getElem!_pos d _ hi]
      rfl
    obtain ⟨f0, f1, f2, f3⟩ := flat_at _ _ _ hd
    have h2' : t < (flat (d.toList.map (·.1))).length := by simpa using h2
    have hr : t % 4 < 4 := Nat.mod_lt _ (by omega)
    have ht : t = t / 4 * 4 + t % 4 := by omega
    have goal : (flat (d.toList.map (·.1)))[t]? = some ((bCells d[t / 4]!)[t % 4]!) := by
      generalize d[t / 4]! = p at *
      generalize t % 4 = r at hr ht ⊢
      rw [ht]
      generalize t / 4 = q at *
      match r, hr with
      | 0, _ => exact f0
      | 1, _ => exact f1
      | 2, _ => exact f2
      | 3, _ => exact f3
    rw [List.getElem?_eq_getElem h2'] at goal
    simpa using (Option.some.inj goal).symm
theorem OwnAt.holds {w : World} {base g cap : Nat} {d : Array BP} (h : OwnAt w base g cap (d.toList.map (·.1))) : Go.Sort.HoldsK bCells 4 w g 0 d := by
  unfold Go.Sort.HoldsK
  rw [flatK_eq]
  intro j hj
  have hj' : j < (flat (d.toList.map (·.1))).length := by simpa using hj
  rw [Nat.zero_add]
  refine ⟨?_, World.ownsRow.frozenAt (h := h) j⟩
  rw [World.ownsRow.cellAt (h := h) j (by rw [flat_length] at hj'; exact hj'), List.getElem?_eq_getElem hj', getElem!_pos _ j hj]
  rfl
theorem OwnAt.sorted {w : World} {base g cap : Nat} {xs : List Pt} {d : Array BP} (h : OwnAt w base g cap xs) (hl : d.size = xs.length) (m : Nat) (os : Array Obj) :
    OwnAt (Go.Proofs.sortWorldK bCells 4 w g 0 m d os) base g cap (d.toList.map (·.1)) := by
  unfold OwnAt at *
  have hlen : (d.toList.map (·.1)).length = xs.length := by simp [hl]
  obtain ⟨h1, h2⟩ := h
  rcases h2 with ⟨h0, _⟩ | ⟨g', cap', cur, hv, hg, hh, hn, hcap, hsz, htake⟩
  · cases h0
  · cases hv
    refine ⟨by rw [flat_length], .inr ⟨g, cap, Go.Sort.putCells id 0 (Go.Sort.flatK bCells 4 d) cur, by rw [hlen], hg, ?_, by omega, hcap, by simpa [Go.Sort.putCells] using hsz, ?_⟩⟩
    · have hlt : g < w.heap.size := (Array.getElem?_eq_some_iff.1 hh).1
      unfold Go.Proofs.sortWorldK Go.Sort.putRowK
      rw [Go.Sort.heap_grow_old _ _ (by simpa [Go.Sort.putRow, Go.Sort.mapBlock, Go.Sort.ahead] using hlt)]
      simp [Go.Sort.putRow, Go.Sort.mapBlock, Go.Sort.ahead, Array.getElem?_modify, hh, Go.Sort.onCells]
    · rw [flatK_eq]
      apply List.ext_getElem?
      intro j
      by_cases hj : j < xs.length * 4
      · have hjl : j < (flat (d.toList.map (·.1))).length := by rw [flat_length]; omega
        have hjc : j < cur.size := by omega
        rw [List.getElem?_take, if_pos (by omega), Array.getElem?_toList]
        simp only [Go.Sort.putCells, Array.getElem?_mapIdx, Array.getElem?_eq_getElem hjc, Option.map_some]
        rw [if_pos (by simpa using hjl), List.getElem?_eq_getElem hjl, getElem!_pos _ _ (by simpa using hjl)]
        simp
      · rw [List.getElem?_take_eq_none (by omega), List.getElem?_eq_none (by rw [flat_length]; omega)]
theorem gr_sorted {a b : World} {g : Nat} (h : Gr a b) (hg : a.heap.size ≤ g) (m : Nat) (d : Array BP) (os : Array Obj) : Gr a (Go.Proofs.sortWorldK bCells 4 b g 0 m d os) := by
  have hs := h.size
  refine ⟨h.os, h.tape, h.output, ?_, fun k hk => ?_⟩
  · unfold Go.Proofs.sortWorldK Go.Sort.putRowK
    simp [Go.Sort.grow, Go.Sort.putRow, Go.Sort.mapBlock, Go.Sort.ahead]
    omega
  · unfold Go.Proofs.sortWorldK Go.Sort.putRowK
    rw [Go.Sort.heap_grow_old _ _ (by simp [Go.Sort.putRow, Go.Sort.mapBlock, Go.Sort.ahead]; omega), ← Below.block h k hk]
    simp [Go.Sort.putRow, Go.Sort.mapBlock, Go.Sort.ahead, Array.getElem?_modify, show g ≠ k by omega]

/-! ### The contracts -/
theorem clone_pts (A : Option Addr) (c : Nat) (xs : List Pt) (w : World) (hx : Rd w A xs) (h0 : 0 < xs.length) (lx : xs.length ≤ 1000000) :
    Calls Tryd.prog 41 #[.slice A xs.length c] w fun e w' => ∃ g cap, e = .returned (.slice (some ⟨g, 0, none⟩) xs.length cap) ∧ OwnAt w' w.heap.size g cap xs ∧ Gr w w' ∧ xs.length ≤ cap ∧ cap ≤ maxLen := by
  obtain ⟨i0, hi0, hz0, hz1, hz2⟩ := info_parts infoPt
  obtain ⟨b, off, rfl, _⟩ := hx 0 _ (List.getElem?_eq_getElem h0)
  have hc : ∀ j u, (flat xs)[j]? = some u → w.cell? ⟨b, off + j, none⟩ = some u := by
    intro j u hu
    have hj : j < (flat xs).length := (List.getElem?_eq_some_iff.1 hu).1
    rw [flat_length] at hj
    have hi : j / 4 < xs.length := by omega
    obtain ⟨f0, f1, f2, f3⟩ := flat_at xs (j / 4) _ (List.getElem?_eq_getElem hi)
    obtain ⟨b', off', e, c0, c1, c2, c3⟩ := hx (j / 4) _ (List.getElem?_eq_getElem hi)
    cases e
    have hr : j % 4 < 4 := Nat.mod_lt _ (by omega)
    have ht : j = j / 4 * 4 + j % 4 := by omega
    generalize j % 4 = r at hr ht
    rw [ht] at hu ⊢
    generalize j / 4 = q at *
    match r, hr with
    | 0, _ => rw [Nat.add_zero] at hu ⊢; rw [f0] at hu; rw [c0, ← hu]
    | 1, _ => rw [f1] at hu; rw [← Nat.add_assoc, c1, ← hu]
    | 2, _ => rw [f2] at hu; rw [← Nat.add_assoc, c2, ← hu]
    | 3, _ => rw [f3] at hu; rw [← Nat.add_assoc, c3, ← hu]
  have h1 : ∀ u ∈ flat xs, u.oneCell' = true := by
    intro u hu
    simp only [flat, List.mem_flatMap] at hu
    obtain ⟨p, _, hu⟩ := hu
    simp at hu
    rcases hu with rfl | rfl | rfl | rfl <;> rfl
  have hcon := Go.Proofs.AnyE.slices_Clone Tryd.layClone i0 _ 4 32 hi0 hz0 hz1 hz2 rfl (by decide) Tryd.sizeOf34 b off xs.length c (flat xs) w (flat_length xs) (by unfold maxLen; omega) (by omega) hc h1
  refine hcon.mono ?_
  rintro e w' ⟨v, rfl, ho, hne, hb⟩
  have ho' : w'.ownsRow w.heap.size 34 4 v xs.length (flat xs) := ho
  rcases ho'.2 with ⟨h0, _⟩ | ⟨g, cap, cur, rfl, _, _, h4, h5, _, _⟩
  · exact absurd h0 hne
  · exact ⟨g, cap, rfl, ho', hb, h4, h5⟩
theorem sort_pts (g cap : Nat) (xs : List Pt) (w w0 : World) (h : OwnAt w w0.heap.size g cap xs) (g0 : Gr w0 w) (hp : ∀ p ∈ xs, PIn p) (lx : xs.length ≤ 1000000) :
    Calls Tryd.prog 42 #[.slice (some ⟨g, 0, none⟩) xs.length cap, .func (.func 24) #[] #[]] w fun e w' =>
      e = .returned (.tuple #[]) ∧ ∃ ys, ys.Perm xs ∧ (ys.map vOf).Pairwise G.Le ∧ OwnAt w' w0.heap.size g cap ys ∧ Gr w0 w' := by
  have eg : ∀ args w, (callFunc 24 args).run Tryd.prog w = .ok (.enter 24 args) w := enters_of Tryd.func24 (by kernel_rfl) rfl
  let bl : List BP := xs.pmap (fun p h => (⟨p, h⟩ : BP)) hp
  have hbl : bl.map (·.1) = xs := by show (List.pmap _ xs hp).map _ = xs; rw [List.map_pmap]; simp
  have hll : bl.length = xs.length := List.length_pmap
  have h' : OwnAt w w0.heap.size g cap (bl.toArray.toList.map (·.1)) := by simpa [hbl] using h
  have hcon := Go.Proofs.AnyQ.slices_SortFunc Tryd.laySort 4 Tryd.isAgg34 Tryd.sizeOf34 bCells (fun _ => rfl) (fun x v hv => by simp [bCells] at hv; rcases hv with rfl | rfl | rfl | rfl <;> rfl) bCmp bCmp_swo 24 #[] g 0 cap bl.toArray w eg (cmp_lays g 0 _ w) h'.holds h'.lt.2 (by simp; omega)
  have hs : bl.toArray.size = xs.length := by simpa using hll
  rw [hs] at hcon
  refine hcon.mono ?_
  rintro e w' ⟨rfl, d', n, os, hperm, hsort, rfl⟩
  obtain ⟨p1, _, p3⟩ := hperm
  rw [hs] at p1
  have pe : d'.toList.Perm bl := by
    have e1 : (d'.extract 0 xs.length) = d' := by rw [← p1]; simp
    have e2 : (bl.toArray.extract 0 xs.length) = bl.toArray := by rw [← hs]; simp
    rw [e1, e2] at p3
    exact p3
  refine ⟨rfl, d'.toList.map (·.1), by rw [← hbl]; exact pe.map _, ?_, h.sorted p1 n os, gr_sorted g0 h.lt.1 n d' os⟩
  rw [List.map_map, List.pairwise_map, List.pairwise_iff_getElem]
  intro i j hi hj hij
  have := hsort i j (Nat.zero_le _) hij (by simp at hj; omega)
  simp only [Go.Proofs.ltOf, decide_eq_false_iff_not, bCmp_neg] at this
  rw [getElem!_pos d' i (by simpa using hi), getElem!_pos d' j (by simpa using hj)] at this
  rcases G.total (vOf d'[j].1) (vOf d'[i].1) with t | t
  · exact absurd t this
  · simpa using t
end Go.Proofs.YtloefohekhkehaaDoor
