/-
  Check of the reference.
-/
import Derived.Test.YtfndhddnglcliaaSb19
set_option linter.unusedVariables false
set_option linter.unusedSimpArgs false
namespace Go.Proofs.Ytfndhddnglcliaa
set_option linter.unusedVariables false
set_option linter.unusedSimpArgs false
open Go Go.ChangeShapes Go.WideShapes Go.ChangeAt Go.RowKit Go.Deep

/-- pairs, or none -/
def rngP (L : List Int) : Prop := ∀ p ∈ L, -1 ≤ p ∧ p ≤ 8
theorem moF_rng {n : Nat} {s t i : Int} : ∀ {l : List Chg} {a : Int}, (∀ x ∈ l, okC n s x = true) → -1 ≤ a ∧ a ≤ 8 → -1 ≤ l.foldl (moF t i) a ∧ l.foldl (moF t i) a ≤ 8
  | [], a, _, h => h
  | x :: l, a, hx, h => by
    rw [List.foldl_cons]
    refine moF_rng (fun y hy => hx y (List.mem_cons_of_mem _ hy)) ?_
    have := hx x (List.mem_cons_self ..)
    unfold okC at this
    simp only [Bool.and_eq_true, wiB_iff] at this
    unfold moF
    split <;> omega
theorem ord_mem {n : Nat} {s : Int} {l : List Chg} (h : Ord n s l l.length) : ∀ x ∈ l, okC n s x = true := by
  intro x hx
  obtain ⟨i, hi⟩ := List.mem_iff_getElem?.1 hx
  exact (h i x (List.getElem?_eq_some_iff.1 hi).1 hi).1
theorem moL_rng {n q : Nat} {s t : Int} {l : List Chg} (h : Ord n s l l.length) : rngP (moL q l t) := by
  intro p hp
  unfold moL at hp
  obtain ⟨i, _, rfl⟩ := List.mem_map.1 hp
  exact moF_rng (ord_mem h) (by omega)
def pos (L : List Int) : List Int := L.filter fun p => decide (0 ≤ p)
theorem pos_in {L : List Int} (h : rngP L) : inR (pos L) := by
  intro z hz
  unfold pos at hz
  obtain ⟨h1, h2⟩ := List.mem_filter.1 hz
  have := h z h1
  rw [decide_eq_true_eq] at h2
  omega
theorem rng_take {L : List Int} (h : rngP L) (k : Nat) : rngP (L.take k) := fun z hz => h z (List.mem_of_mem_take hz)
theorem pos_yes {L : List Int} {k : Nat} {p : Int} (h : L[k]? = some p) (hp : 0 ≤ p) : pos (L.take (k + 1)) = pos (L.take k) ++ [p] := by
  unfold pos
  rw [take_at h, List.filter_append]
  simp [hp]
theorem pos_no {L : List Int} {k : Nat} {p : Int} (h : L[k]? = some p) (hp : ¬ 0 ≤ p) : pos (L.take (k + 1)) = pos (L.take k) := by
  unfold pos
  rw [take_at h, List.filter_append]
  simp [hp]
theorem mt_pos {L : List Int} {x : Nd} (h : rngP L) (hx : inR x.l) : LS.mt (mk (pos L)) (mk x.l) = stOk x L := by
  rw [Bool.eq_iff_iff, LS.mt_iff]
  unfold stOk
  rw [List.any_eq_true]
  constructor
  · rintro ⟨i, hi, h1, h2⟩
    rw [mk_bit (pos_in h)] at h1
    rw [mk_bit hx] at h2
    exact ⟨(i : Int), (List.mem_filter.1 h1).1, decide_eq_true h2⟩
  · rintro ⟨p, hp, hpx⟩
    rw [decide_eq_true_eq] at hpx
    have := hx p hpx
    refine ⟨p.toNat, by omega, ?_, ?_⟩
    · rw [mk_bit (pos_in h), show ((p.toNat : Nat) : Int) = p by omega]
      exact List.mem_filter.2 ⟨hp, decide_eq_true this.1⟩
    · rw [mk_bit hx, show ((p.toNat : Nat) : Int) = p by omega]
      exact hpx
theorem svB_one {ss : List Nat} {t n m : Nat} (h : ss[t]? = some n) : svB ss t t m = LS.mt m n := by
  unfold svB
  rw [drop_at h, show t + 1 - t = 1 by omega]
  simp
end Go.Proofs.Ytfndhddnglcliaa
