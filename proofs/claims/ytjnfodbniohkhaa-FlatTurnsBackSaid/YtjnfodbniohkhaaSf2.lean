/-
  Surfaces: the library's sorts: of numbers; of rectangles by Y; room for rectangles.
-/
import Derived.Test.YtjnfodbniohkhaaSrt
import Derived.Test.YtjnfodbniohkhaaLayF
import Derived.Test.YtjnfodbniohkhaaSf1
set_option linter.unusedVariables false
set_option linter.unusedSimpArgs false
namespace Go.Proofs.Ytjnfodbniohkhaa
set_option linter.unusedVariables false
set_option linter.unusedSimpArgs false
open Go Go.ChangeShapes Go.WideShapes Go.ChangeAt Go.RowKit Go.Deep

namespace RG
instance : Inhabited Rc := ⟨⟨0, 0, 0, 0⟩⟩
def cmpY (r s : Rc) : Int := Lib.compareInt r.y s.y
theorem ltY (r s : Rc) : ltOf cmpY r s = decide (r.y < s.y) := ltI r.y s.y
theorem swoY : Go.Sort.SWO (ltOf cmpY) where
  irrefl x := by rw [ltY]; simp
  trans x y z h1 h2 := by rw [ltY] at *; simp at *; omega
  ntrans x y z h1 h2 := by rw [ltY] at *; simp at *; omega
/-- grown, and no draw taken back -/
def Gd (w w' : World) : Prop := Gr w w' ∧ w.drawn ≤ w'.drawn
theorem Gd.grow {w w' : World} (h : Gd w w') : ∃ q os, w' = Go.Sort.grow (w.drewN q) os := by
  obtain ⟨g, d⟩ := h
  refine ⟨w'.drawn - w.drawn, w'.heap.extract w.heap.size w'.heap.size, ?_⟩
  have hh : w'.heap = w.heap ++ w'.heap.extract w.heap.size w'.heap.size := by
    apply Array.ext_getElem?
    intro k
    by_cases hk : k < w.heap.size
    · rw [Array.getElem?_append_left hk]
      exact Below.block g k hk
    · have hs := g.size
      rw [Array.getElem?_append_right (by omega), Array.getElem?_extract]
      by_cases hk2 : k < w'.heap.size
      · rw [if_pos (by omega)]
        congr 1
        omega
      · rw [if_neg (by omega), Array.getElem?_eq_none (by omega)]
  obtain ⟨h1, h2, h3, h4, h5⟩ := g
  cases w
  cases w'
  simp only [World.drewN, Go.Sort.grow] at *
  subst h1 h2 h3
  simp only [World.mk.injEq, true_and, and_true]
  exact ⟨hh, by omega⟩
theorem cmpY_gd (r s : Rc) (w : World) : Calls Try.prog 40 #[rcv r, rcv s] w fun e w' => e = .returned (iv (cmpY r s)) ∧ Gd w w' := by
  have HC := hide (fun w' => Go.Proofs.Any.cmp_Compare_int Try.layFCmp r.y s.y w')
  obtain ⟨x, y, u, h⟩ := r
  obtain ⟨a, b, c, d⟩ := s
  dsimp only at *
  go_enter Try.func40, Try.ntmps40
  go_wp2_with (go_at_call 41; refine (HC.out _).mono ?_; rintro e w1 ⟨rfl, rfl⟩)
  go_ret
  exact ⟨rfl, (by repeat (first | with_reducible exact Gr.refl _ | with_reducible assumption | with_reducible refine Gr.alloc ?_ _ | with_reducible refine Gr.drewN ?_ _ | with_reducible refine Gr.drew ?_ | with_reducible refine Gr.setCell ?_ (by first | (dsimp only; omega) | (simp only [World.size_alloc]; omega) | (with_reducible refine Gr.size ?_; (repeat (first | with_reducible exact Gr.refl _ | with_reducible assumption | with_reducible refine Gr.alloc ?_ _ | with_reducible refine Gr.drewN ?_ _ | with_reducible refine Gr.drew ?_ | with_reducible refine Gr.trans ?_ (by with_reducible assumption))); done)) _ | with_reducible refine Gr.trans ?_ (by with_reducible assumption))), Nat.le_refl _⟩
theorem lays_cmpY (blk off size : Nat) (w : World) : Go.Proofs.CmpLays Try.prog 40 #[] rcL 4 cmpY blk off size w :=
  fun _ _ _ _ x y => (cmpY_gd x y _).mono fun e w' ⟨h1, h2⟩ => ⟨h1, h2.grow⟩
theorem flatK_rc (d : Array Rc) : Go.Sort.flatK rcL 4 d = (d.toList.flatMap rcL).toArray := by
  have hfl : ∀ xs : List Rc, (xs.flatMap rcL).length = xs.length * 4 := fm_len (c := rcL) fun _ => rfl
  apply Array.ext
  · simp [hfl]
  · intro t h1 h2
    have h1' : t < d.size * 4 := by simpa using h1
    have e : (Go.Sort.flatK rcL 4 d)[t] = (rcL d[t / 4]!)[t % 4]! := by
      rw [← Go.Sort.get_flatK rcL 4 d t h1', getElem!_pos _ t h1]
    rw [e]
    have hi : t / 4 < d.size := by omega
    have hd : d.toList[t / 4]? = some d[t / 4]! := by
      rw [Array.getElem?_toList, Array.getElem?_eq_getElem hi, getElem!_pos d _ hi]
    have hr : t % 4 < 4 := Nat.mod_lt _ (by omega)
    have ht : t = t / 4 * 4 + t % 4 := by omega
    have hf := fm_at (c := rcL) (k := 4) (fun _ => rfl) d.toList (t / 4) _ (t % 4) hd hr
    have h2' : t < (d.toList.flatMap rcL).length := by simpa using h2
    rw [← ht, List.getElem?_eq_getElem h2'] at hf
    have hl : t % 4 < (rcL d[t / 4]!).length := by show t % 4 < 4; exact hr
    rw [List.getElem?_eq_getElem hl] at hf
    rw [getElem!_pos (rcL d[t / 4]!) (t % 4) hl]
    simpa using (Option.some.inj hf).symm
theorem own_holdsR {w : World} {base g cap : Nat} {xs : List Rc} (h : OwnL w base 55 4 rcL (.slice (some ⟨g, 0, none⟩) xs.length cap) xs) : Go.Sort.HoldsK rcL 4 w g 0 xs.toArray := by
  have hfl : ∀ xs : List Rc, (xs.flatMap rcL).length = xs.length * 4 := fm_len (c := rcL) fun _ => rfl
  unfold Go.Sort.HoldsK
  rw [flatK_rc]
  intro j hj
  have hj' : j < (xs.flatMap rcL).length := by simpa using hj
  rw [Nat.zero_add]
  refine ⟨?_, World.ownsRow.frozenAt (h := h) j⟩
  rw [World.ownsRow.cellAt (h := h) j (by rw [hfl] at hj'; exact hj'), List.getElem?_eq_getElem hj', getElem!_pos _ j hj]
  simp
theorem own_sortedR {w : World} {base g cap n : Nat} {xs : List Rc} {d : Array Rc} (h : OwnL w base 55 4 rcL (.slice (some ⟨g, 0, none⟩) xs.length cap) xs) (hl : d.size = xs.length) (m : Nat) (os : Array Obj) (hn : n = d.size) :
    OwnL (Go.Proofs.sortWorldK rcL 4 w g 0 m d os) base 55 4 rcL (.slice (some ⟨g, 0, none⟩) n cap) d.toList := by
  have hfl : ∀ xs : List Rc, (xs.flatMap rcL).length = xs.length * 4 := fm_len (c := rcL) fun _ => rfl
  subst hn
  unfold OwnL at *
  obtain ⟨h1, h2⟩ := h
  rcases h2 with ⟨h0, _⟩ | ⟨g', cap', cur, hv, hg, hh, hn, hcap, hsz, htake⟩
  · cases h0
  · cases hv
    refine ⟨by rw [hfl], .inr ⟨g, cap, Go.Sort.putCells id 0 (Go.Sort.flatK rcL 4 d) cur, by simp, hg, ?_, by simp; omega, hcap, by simpa [Go.Sort.putCells] using hsz, ?_⟩⟩
    · have hlt : g < w.heap.size := (Array.getElem?_eq_some_iff.1 hh).1
      unfold Go.Proofs.sortWorldK Go.Sort.putRowK
      rw [Go.Sort.heap_grow_old _ _ (by simpa [Go.Sort.putRow, Go.Sort.mapBlock, Go.Sort.ahead] using hlt)]
      simp [Go.Sort.putRow, Go.Sort.mapBlock, Go.Sort.ahead, Array.getElem?_modify, hh, Go.Sort.onCells]
    · rw [flatK_rc]
      apply List.ext_getElem?
      intro j
      have hfd : (d.toList.flatMap rcL).length = d.size * 4 := by rw [hfl, Array.length_toList]
      by_cases hj : j < d.size * 4
      · have hjl : j < (d.toList.flatMap rcL).length := by rw [hfd]; omega
        have hjc : j < cur.size := by omega
        rw [List.getElem?_take, if_pos (by simpa using hj), Array.getElem?_toList]
        simp only [Go.Sort.putCells, Array.getElem?_mapIdx, Array.getElem?_eq_getElem hjc, Option.map_some]
        rw [if_pos (by simpa using hjl), List.getElem?_eq_getElem hjl, getElem!_pos _ _ (by simpa using hjl)]
        simp
      · rw [List.getElem?_take_eq_none (by simp; omega), List.getElem?_eq_none (by rw [hfd]; omega)]
theorem gr_sortedR {a b : World} {g : Nat} (h : Gr a b) (hg : a.heap.size ≤ g) (m : Nat) (d : Array Rc) (os : Array Obj) : Gr a (Go.Proofs.sortWorldK rcL 4 b g 0 m d os) := by
  have hs := h.size
  refine ⟨h.os, h.tape, h.output, ?_, fun k hk => ?_⟩
  · unfold Go.Proofs.sortWorldK Go.Sort.putRowK
    simp [Go.Sort.grow, Go.Sort.putRow, Go.Sort.mapBlock, Go.Sort.ahead]
    omega
  · unfold Go.Proofs.sortWorldK Go.Sort.putRowK
    rw [Go.Sort.heap_grow_old _ _ (by simp [Go.Sort.putRow, Go.Sort.mapBlock, Go.Sort.ahead]; omega), ← Below.block h k hk]
    simp [Go.Sort.putRow, Go.Sort.mapBlock, Go.Sort.ahead, Array.getElem?_modify, show g ≠ k by omega]
/-- slices.SortFunc of rectangles by Y: the same ones, in that order -/
theorem sortR (D : Option Addr) (d : Nat) (xs : List Rc) (w w0 : World) (h : OwnL w w0.heap.size 55 4 rcL (.slice D xs.length d) xs) (g0 : Gr w0 w) (h1000 : xs.length ≤ 1000) :
    Calls Try.prog 39 #[.slice D xs.length d, .func (.func 40) #[] #[]] w fun e w' =>
      e = .returned (.tuple #[]) ∧ ∃ ys, ys.Perm xs ∧ ys.Pairwise (fun a b => a.y ≤ b.y) ∧ OwnL w' w0.heap.size 55 4 rcL (.slice D ys.length d) ys ∧ Gr w0 w' := by
  by_cases h0 : xs = []
  · subst h0
    refine (Go.Proofs.AnyF.slices_SortFunc_none (P := Try.prog) (ρ := Try.layFSortR_ren) { Try.layFSortR with } D d _ w).mono ?_
    rintro e w' ⟨rfl, rfl⟩
    exact ⟨rfl, [], List.Perm.refl _, List.Pairwise.nil, h, g0⟩
  · rcases h.2 with ⟨h1, h2⟩ | ⟨g, cap, cur, hv, hb, hh, _⟩
    · exact absurd (List.eq_nil_of_length_eq_zero h2) h0
    · cases hv
      have eg : ∀ args w, (callFunc 40 args).run Try.prog w = .ok (.enter 40 args) w := enters_of Try.func40 (by kernel_rfl) rfl
      have hcon := Go.Proofs.AnyQ.slices_SortFunc Try.layFSortR 4 Try.isAgg55 Try.sizeOf55 rcL (fun _ => rfl) (fun x v hv => one_rc x v hv) cmpY swoY 40 #[] g 0 d xs.toArray w eg (lays_cmpY g 0 _ w) (own_holdsR h) (Array.getElem?_eq_some_iff.1 hh).1 (by simp; omega)
      rw [List.size_toArray] at hcon
      refine hcon.mono ?_
      rintro e w' ⟨rfl, d', n, os, hperm, hsort, rfl⟩
      obtain ⟨p1, _, p3⟩ := hperm
      have p1' : d'.size = xs.length := by simpa using p1
      have pe : d'.toList.Perm xs := by
        have e1 : (d'.extract 0 xs.length) = d' := by rw [← p1']; simp
        have e2 : (xs.toArray.extract 0 xs.length) = xs.toArray := by simp
        rw [e1, e2] at p3
        simpa using p3
      refine ⟨rfl, d'.toList, pe, ?_, ?_, gr_sortedR g0 hb n d' os⟩
      · rw [List.pairwise_iff_getElem]
        intro i j hi hj hij
        have := hsort i j (Nat.zero_le _) hij (by simp at hj; omega)
        rw [ltY] at this
        rw [getElem!_pos d' i (by simpa using hi), getElem!_pos d' j (by simpa using hj)] at this
        simp at this ⊢
        omega
      · exact own_sortedR h p1' n os (by simp)
/-- slices.Sort of numbers -/
theorem sortN (D : Option Addr) (d : Nat) (xs : List Int) (w w0 : World) (h : OwnL w w0.heap.size 3 1 inL (.slice D xs.length d) xs) (g0 : Gr w0 w) (h0 : xs ≠ []) (h1000 : xs.length ≤ 1000) :
    Calls Try.prog 37 #[.slice D xs.length d] w fun e w' =>
      e = .returned (.tuple #[]) ∧ ∃ ys, ys.Perm xs ∧ ys.Pairwise (· ≤ ·) ∧ OwnL w' w0.heap.size 3 1 inL (.slice D ys.length d) ys ∧ Gr w0 w' := by
  rcases h.2 with ⟨h1, h2⟩ | ⟨g, cap, cur, hv, hb, hh, _⟩
  · exact absurd (List.eq_nil_of_length_eq_zero h2) h0
  · cases hv
    refine (Go.Proofs.Any.slices_Sort_int Try.layFSort g 0 d xs w (own_holds h) (Array.getElem?_eq_some_iff.1 hh).1 (by omega)).mono ?_
    rintro e w' ⟨rfl, n, os, rfl⟩
    have hp : (xs.mergeSort fun x y => decide (x ≤ y)).Perm xs := List.mergeSort_perm _ _
    refine ⟨rfl, _, hp, ?_, ?_, ?_⟩
    · have := List.pairwise_mergeSort (le := fun x y : Int => decide (x ≤ y)) (fun a b c h1 h2 => by simp at *; omega) (fun a b => by simp; omega) xs
      exact this.imp fun h => by simpa using h
    · have := own_sorted h (d := (xs.mergeSort fun x y => decide (x ≤ y)).toArray) (n := (xs.mergeSort fun x y => decide (x ≤ y)).length) (by simp) n os (by simp)
      exact this
    · exact gr_sorted g0 hb n _ os
/-- slices.Compact of numbers -/
theorem compactN (D : Option Addr) (d : Nat) (xs : List Int) (w w0 : World) (h : OwnL w w0.heap.size 3 1 inL (.slice D xs.length d) xs) (g0 : Gr w0 w) (h1000 : xs.length ≤ 1000) :
    Calls Try.prog 38 #[.slice D xs.length d] w fun e w' =>
      e = .returned (.slice D (Go.Lib.compact xs).length d) ∧ OwnL w' w0.heap.size 3 1 inL (.slice D (Go.Lib.compact xs).length d) (Go.Lib.compact xs) ∧ Gr w0 w' := by
  by_cases h0 : xs = []
  · subst h0
    refine (Go.Proofs.Any.slices_Compact_int_empty Try.layFCompact D d w).mono ?_
    rintro e w' ⟨rfl, rfl⟩
    exact ⟨rfl, h, g0⟩
  · rcases h.2 with ⟨h1, h2⟩ | ⟨g, cap, cur, hv, hb, hh, hn, _⟩
    · exact absurd (List.eq_nil_of_length_eq_zero h2) h0
    · cases hv
      have hcon := Go.Proofs.Any.slices_Compact_int Try.layFCompact g 0 d xs w (own_holds h) (by omega) hn
      refine hcon.mono ?_
      rintro e w' ⟨rfl, q, rfl⟩
      have hl := compactI_len xs
      have e1 : ∀ dd : Array Int, Go.Sort.putRow (Value.int .i64) (Go.Sort.ahead w q) g 0 dd = Go.Proofs.sortWorld (Value.int .i64) w g 0 q dd #[] := by
        intro dd
        unfold Go.Proofs.sortWorld
        rw [Go.Sort.grow_empty]
      rw [e1]
      refine ⟨rfl, own_cutI (ys := List.replicate (xs.length - (Go.Lib.compact xs).length) 0) (own_sorted h (by simp; omega) q #[] (n := xs.length) (by simp; omega)) (by simp; omega), gr_sorted g0 hb q _ #[]⟩
/-- what Sort and Compact leave of numbers -/
theorem sc_srt {xs ys : List Int} (hp : ys.Perm xs) (hs : ys.Pairwise (· ≤ ·)) : Go.Lib.compact ys = srt xs :=
  Up.ext (compactI_up _ hs) (up_srt _) fun x => by rw [mem_compactI, mem_srt]; exact hp.mem_iff
end RG
end Go.Proofs.Ytjnfodbniohkhaa
