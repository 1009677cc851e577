/-
  Meets: whether two hulls meet.
-/
import Derived.Test.YtloefohekhkehaaDoorMeet1
namespace Go.Proofs.YtloefohekhkehaaDoor
set_option linter.unusedVariables false
set_option linter.unusedSimpArgs false
open Go Go.ChangeShapes Go.WideShapes Go.ChangeAt Go.RowKit Go.Deep

theorem nlB_iff {p q : Pt} {zs : List Pt} : nlB p q zs = true ↔ ∀ y ∈ zs.map vOf, G.sg3 (G.O (vOf p) (vOf q) y) ≤ 0 := by
  unfold nlB
  rw [List.all_eq_true]
  constructor
  · intro h y hy
    obtain ⟨x, hx, rfl⟩ := List.mem_map.1 hy
    have := h x hx
    rw [decide_eq_true_eq, orP_eq] at this
    exact this
  · intro h x hx
    rw [decide_eq_true_eq, orP_eq]
    exact h _ (List.mem_map_of_mem hx)
/-- what the code's test says of the corners of a hull -/
theorem sep_iff {l : List G.V} {a : Pt} {t zs : List Pt} (r : G.Run l (vOf a) (t.map vOf)) : sepB (a :: t) zs = true ↔ G.Sep ((a :: t).map vOf) (zs.map vOf) := by
  have rs := r.self
  unfold sepB G.Sep
  rw [List.any_eq_true]
  have at_ : ∀ {i : Nat} {p : Pt}, (a :: t)[i]? = some p → (vOf a :: t.map vOf)[i]? = some (vOf p) := fun {i p} h => by
    rw [← List.map_cons, List.getElem?_map, h]; rfl
  have len : (vOf a :: t.map vOf).length = (a :: t).length := by simp
  constructor
  · rintro ⟨i, hi, h⟩
    unfold sideB at h
    split at h
    · rename_i p q hp hq
      simp only [Bool.and_eq_true, Bool.not_eq_true', decide_eq_false_iff_not] at h
      have ht : t.map vOf ≠ [] := by
        intro e
        simp at e
        subst e
        have h0 : i = 0 := by have := List.mem_range.1 hi; simpa using this
        subst h0
        simp at hp hq
        exact h.1 (hq.symm.trans hp)
      refine ⟨vOf p, vOf q, List.mem_map_of_mem (List.mem_of_getElem? hp), ?_, nlB_iff.1 h.2⟩
      exact next_E rs ht (at_ hp) (by rw [len]; exact at_ hq)
    · simp at h
  · rintro ⟨x, n, hx, e, hn⟩
    obtain ⟨p, hp, rfl⟩ := List.mem_map.1 hx
    obtain ⟨i, hi⟩ := List.mem_iff_getElem?.1 hp
    have hil : i < (a :: t).length := (List.getElem?_eq_some_iff.1 hi).1
    obtain ⟨q, hq⟩ : ∃ q, (a :: t)[(i + 1) % (a :: t).length]? = some q := ⟨_, List.getElem?_eq_getElem (Nat.mod_lt _ (by simp))⟩
    have ht : t.map vOf ≠ [] := by
      intro k
      simp at k
      subst k
      obtain ⟨h1, h2, _⟩ := e
      simp at hp h1
      subst hp
      exact h2 h1.symm
    have e2 := next_E rs ht (at_ hi) (by rw [len]; exact at_ hq)
    have en : n = vOf q := e.uniq e2
    subst en
    refine ⟨i, List.mem_range.2 hil, ?_⟩
    unfold sideB
    rw [hi, hq]
    simp only [Bool.and_eq_true, Bool.not_eq_true', decide_eq_false_iff_not]
    exact ⟨fun k => e.2.1 (by rw [k]), nlB_iff.2 hn⟩
/-- the error of two lists -/
def ckP2 (xs ys : List Pt) : Int := ckE [(none, xs, 0), (none, ys, 0)]
theorem ckE_two (A B : Option Addr) (xs ys : List Pt) (c d : Nat) : ckE [(A, xs, c), (B, ys, d)] = ckP2 xs ys := rfl
theorem ckP2_zero {xs ys : List Pt} : ckP2 xs ys = 0 ↔ ckP xs = 0 ∧ ckP ys = 0 := by
  unfold ckP2 ckP ckE
  simp only [List.any_cons, List.any_nil, Bool.or_false]
  cases badLen xs.length <;> cases badLen ys.length <;> cases (xs.any fun p => !pB p) <;> cases (ys.any fun p => !pB p) <;> simp
/-- what Meets gives -/
def MeetsRes (xs ys : List Pt) (b : Bool) (e : Int) : Prop :=
  (ckP2 xs ys ≠ 0 ∧ e = ckP2 xs ys ∧ b = false) ∨
  (ckP2 xs ys = 0 ∧ ∃ a t u s, G.Run (xs.map vOf) (vOf a) (t.map vOf) ∧ G.Run (ys.map vOf) (vOf u) (s.map vOf) ∧
    ((s.length < 2 ∧ e = 6 ∧ b = false) ∨ (2 ≤ s.length ∧ e = 0 ∧ (b = true ↔ G.Meet ((a :: t).map vOf) ((u :: s).map vOf)))))
end Go.Proofs.YtloefohekhkehaaDoor
