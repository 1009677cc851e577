/-
  The best change at a step.
-/
import Derived.Test.YtfndhddnglcliaaUni
set_option linter.unusedVariables false
set_option linter.unusedSimpArgs false
namespace Go.Proofs.Ytfndhddnglcliaa
set_option linter.unusedVariables false
set_option linter.unusedSimpArgs false
open Go Go.ChangeShapes Go.WideShapes Go.ChangeAt Go.RowKit Go.Deep

/-- what the other stations keep -/
def kpS (ms : List Nat) (i : Nat) : Nat := orL (ms.take i) ||| orL (ms.drop (i + 1))
theorem orL_all {l : List Nat} (h : ∀ n ∈ l, n < 512) : orL l < 512 := by
  have := orL_lt h l.length
  rwa [List.take_length] at this
theorem kpS_lt {ms : List Nat} (h : ∀ n ∈ ms, n < 512) (i : Nat) : kpS ms i < 512 :=
  Nat.or_lt_two_pow (n := 9) (orL_lt h i) (orL_all fun n hn => h n (List.mem_of_mem_drop hn))
theorem slu_take {w : World} {A : Option Addr} {c : Nat} {l : List Nat} (h : SlU w A c l) (i : Nat) : SlU w A c (l.take i) :=
  ⟨fun j x hx => h.rd j x (by rw [List.getElem?_take] at hx; split at hx <;> simp_all), by have := h.cap; rw [List.length_take]; omega, h.capB⟩
theorem slu_drop {w : World} {b o : Nat} {c : Nat} {l : List Nat} (h : SlU w (some ⟨b, o, none⟩) c l) (i : Nat) : SlU w (some ⟨b, o + i, none⟩) (c - i) (l.drop i) :=
  ⟨fun j x hx => by
    rw [List.getElem?_drop] at hx
    obtain ⟨b', o', e, hat⟩ := h.rd (i + j) x hx
    cases e
    exact ⟨b, o + i, rfl, by rwa [show o + i + j * 1 = o + (i + j) * 1 by omega]⟩, by have := h.cap; rw [List.length_drop]; omega, by have := h.capB; omega⟩
/-- the best of what was seen: stations below i, and of station i the first k pairs -/
def BsP (v : Nat → Int → Nat) (q : Nat) (l : List Int) (i k a : Nat) (b : Int) (L : Nat) : Prop :=
  (∀ j z, j < i → z ∈ l → L ≤ v j z) ∧ (∀ z, z ∈ l.take k → L ≤ v i z) ∧ (L = 25 ∨ (a < q ∧ b ∈ l ∧ L = v a b))
theorem bsP_yes {v : Nat → Int → Nat} {q : Nat} {l : List Int} {i k a : Nat} {b z : Int} {L : Nat} (h : BsP v q l i k a b L) (hz : l[k]? = some z) (hi : i < q) (hlt : v i z < L) : BsP v q l i (k + 1) i z (v i z) := by
  refine ⟨fun j y hj hy => Nat.le_trans (Nat.le_of_lt hlt) (h.1 j y hj hy), fun y hy => ?_, .inr ⟨hi, List.mem_of_getElem? hz, rfl⟩⟩
  rw [take_at hz, List.mem_append, List.mem_singleton] at hy
  rcases hy with hy | rfl
  · exact Nat.le_trans (Nat.le_of_lt hlt) (h.2.1 y hy)
  · exact Nat.le_refl _
theorem bsP_no {v : Nat → Int → Nat} {q : Nat} {l : List Int} {i k a : Nat} {b z : Int} {L : Nat} (h : BsP v q l i k a b L) (hz : l[k]? = some z) (hlt : ¬ v i z < L) : BsP v q l i (k + 1) a b L := by
  refine ⟨h.1, fun y hy => ?_, h.2.2⟩
  rw [take_at hz, List.mem_append, List.mem_singleton] at hy
  rcases hy with hy | rfl
  · exact h.2.1 y hy
  · omega
theorem bsP_next {v : Nat → Int → Nat} {q : Nat} {l : List Int} {i a : Nat} {b : Int} {L : Nat} (h : BsP v q l i l.length a b L) : BsP v q l (i + 1) 0 a b L := by
  refine ⟨fun j y hj hy => ?_, fun y hy => by simp at hy, h.2.2⟩
  rcases Nat.lt_succ_iff_lt_or_eq.1 hj with hj | rfl
  · exact h.1 j y hj hy
  · exact h.2.1 y (by rwa [List.take_length])
theorem bsP_end {v : Nat → Int → Nat} {q : Nat} {l : List Int} {a : Nat} {b : Int} {L : Nat} (h : BsP v q l q 0 a b L) (hq : 1 ≤ q) (hl : l ≠ []) (hv : ∀ z ∈ l, v 0 z ≤ 24) : a < q ∧ b ∈ l ∧ ∀ j z, j < q → z ∈ l → v a b ≤ v j z := by
  obtain ⟨z, hz⟩ := List.exists_mem_of_ne_nil _ hl
  have h1 := h.1 0 z (by omega) hz
  have h2 := hv z hz
  rcases h.2.2 with e | ⟨e1, e2, e3⟩
  · omega
  · exact ⟨e1, e2, fun j z hj hz => e3 ▸ h.1 j z hj hz⟩
/-- one pair more is looked at; all pairs of the stations below i; .. and the first k of station i -/
def bsS (v : Nat → Int → Nat) (i : Nat) (st : Nat × Int × Nat) (z : Int) : Nat × Int × Nat := if v i z < st.2.2 then (i, z, v i z) else st
def bsA (v : Nat → Int → Nat) (l : List Int) : Nat → Nat × Int × Nat
  | 0 => (0, 0, 25)
  | i + 1 => l.foldl (bsS v i) (bsA v l i)
def bsX (v : Nat → Int → Nat) (l : List Int) (i k : Nat) : Nat × Int × Nat := (l.take k).foldl (bsS v i) (bsA v l i)
def BsE (v : Nat → Int → Nat) (l : List Int) (i k a : Nat) (b : Int) (L : Nat) : Prop := bsX v l i k = (a, b, L)
theorem bs_start (v : Nat → Int → Nat) (l : List Int) : BsE v l 0 0 0 0 25 := rfl
theorem bs_yes {v : Nat → Int → Nat} {l : List Int} {i k a : Nat} {b z : Int} {L : Nat} (h : BsE v l i k a b L) (hz : l[k]? = some z) (hlt : v i z < L) : BsE v l i (k + 1) i z (v i z) := by
  unfold BsE bsX at *
  rw [take_at hz, List.foldl_append, h]
  exact if_pos hlt
theorem bs_no {v : Nat → Int → Nat} {l : List Int} {i k a : Nat} {b z : Int} {L : Nat} (h : BsE v l i k a b L) (hz : l[k]? = some z) (hlt : ¬ v i z < L) : BsE v l i (k + 1) a b L := by
  unfold BsE bsX at *
  rw [take_at hz, List.foldl_append, h]
  exact if_neg hlt
theorem bs_next {v : Nat → Int → Nat} {l : List Int} {i a : Nat} {b : Int} {L : Nat} (h : BsE v l i l.length a b L) : BsE v l (i + 1) 0 a b L := by
  unfold BsE bsX at *
  rw [List.take_length] at h
  exact h
theorem bsX_ok {v : Nat → Int → Nat} {q : Nat} {l : List Int} : ∀ i, i ≤ q → ∀ k, k ≤ l.length → (i < q ∨ k = 0) → ∃ a b L, BsE v l i k a b L ∧ BsP v q l i k a b L := by
  intro i
  induction i with
  | zero =>
    intro hi k
    induction k with
    | zero => exact fun _ _ => ⟨0, 0, 25, rfl, fun j z hj => absurd hj (Nat.not_lt_zero j), fun z hz => by simp at hz, .inl rfl⟩
    | succ k ih =>
      intro hk h
      obtain ⟨a, b, L, e, p⟩ := ih (by omega) (.inl (by omega))
      obtain ⟨z, hz⟩ : ∃ z, l[k]? = some z := ⟨_, List.getElem?_eq_getElem (by omega)⟩
      by_cases hlt : v 0 z < L
      · exact ⟨_, _, _, bs_yes e hz hlt, bsP_yes p hz (by omega) hlt⟩
      · exact ⟨_, _, _, bs_no e hz hlt, bsP_no p hz hlt⟩
  | succ i ihi =>
    intro hi k
    induction k with
    | zero =>
      intro _ _
      obtain ⟨a, b, L, e, p⟩ := ihi (by omega) l.length (by omega) (.inl (by omega))
      exact ⟨a, b, L, bs_next e, bsP_next p⟩
    | succ k ih =>
      intro hk h
      obtain ⟨a, b, L, e, p⟩ := ih (by omega) (.inl (by omega))
      obtain ⟨z, hz⟩ : ∃ z, l[k]? = some z := ⟨_, List.getElem?_eq_getElem (by omega)⟩
      by_cases hlt : v (i + 1) z < L
      · exact ⟨_, _, _, bs_yes e hz hlt, bsP_yes p hz (by omega) hlt⟩
      · exact ⟨_, _, _, bs_no e hz hlt, bsP_no p hz hlt⟩
/-- the station and the pair of the best change -/
def bcV (F : Nat → Nat) (ms : List Nat) : Nat → Int → Nat := fun i z => F (kpS ms i ||| 2 ^ z.toNat)
def bcA (F : Nat → Nat) (ms : List Nat) (l : List Int) : Nat := (bsX (bcV F ms) l ms.length 0).1
def bcB (F : Nat → Nat) (ms : List Nat) (l : List Int) : Int := (bsX (bcV F ms) l ms.length 0).2.1
theorem bs_get {F : Nat → Nat} {ms : List Nat} {l : List Int} {a : Nat} {b : Int} {L : Nat} (h : BsE (bcV F ms) l ms.length 0 a b L) : a = bcA F ms l ∧ b = bcB F ms l := by
  unfold BsE at h
  unfold bcA bcB
  rw [h]
  exact ⟨rfl, rfl⟩
theorem bc_ok {F : Nat → Nat} {ms : List Nat} {l : List Int} (hq : 1 ≤ ms.length) (hl : l ≠ []) (hv : ∀ z ∈ l, bcV F ms 0 z ≤ 24) :
    bcA F ms l < ms.length ∧ bcB F ms l ∈ l ∧ ∀ j z, j < ms.length → z ∈ l → F (kpS ms (bcA F ms l) ||| 2 ^ (bcB F ms l).toNat) ≤ F (kpS ms j ||| 2 ^ z.toNat) := by
  obtain ⟨a, b, L, e, p⟩ := bsX_ok (v := bcV F ms) (q := ms.length) (l := l) ms.length (Nat.le_refl _) 0 (Nat.zero_le _) (.inr rfl)
  obtain ⟨e1, e2⟩ := bs_get e
  rw [← e1, ← e2]
  exact bsP_end p hq hl hv
end Go.Proofs.Ytfndhddnglcliaa
