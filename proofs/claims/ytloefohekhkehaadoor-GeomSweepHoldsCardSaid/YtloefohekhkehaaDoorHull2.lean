/-
  Hull: the hull of points, or an error.
-/
import Derived.Test.YtloefohekhkehaaDoorHull
import Derived.Test.YtloefohekhkehaaDoorCheck
namespace Go.Proofs.YtloefohekhkehaaDoor
set_option linter.unusedVariables false
set_option linter.unusedSimpArgs false
open Go Go.ChangeShapes Go.WideShapes Go.ChangeAt Go.RowKit Go.Deep

/-- the error of one list -/
def ckP (xs : List Pt) : Int := ckE [(none, xs, 0)]
theorem ckE_one (A : Option Addr) (xs : List Pt) (c : Nat) : ckE [(A, xs, c)] = ckP xs := rfl
theorem pIn_of {p : Pt} (h : pB p = true) : PIn p := by
  unfold pB pinB at h
  simp only [Bool.and_eq_true] at h
  obtain ⟨h1, h2⟩ := h
  obtain ⟨a, b⟩ := lims_of h1
  obtain ⟨c, d⟩ := lims_of h2
  exact ⟨a.mono (by omega), b.mono (by omega), c.mono (by omega), d.mono (by omega)⟩
theorem ckP_zero {xs : List Pt} (h : ckP xs = 0) : 0 < xs.length ∧ xs.length ≤ 24 ∧ ∀ p ∈ xs, pB p = true := by
  unfold ckP ckE at h
  simp only [List.any_cons, List.any_nil, Bool.or_false] at h
  split at h
  · omega
  · rename_i h1
    split at h
    · omega
    · rename_i h2
      simp only [badLen, Bool.or_eq_true, decide_eq_true_eq] at h1
      refine ⟨by omega, by omega, fun p hp => ?_⟩
      refine Classical.byContradiction fun c => h2 (List.any_eq_true.2 ⟨p, hp, ?_⟩)
      simpa using c
/-- what Hull gives -/
def HullRes (xs ys : List Pt) : Prop := (ckP xs ≠ 0 ∧ ys = []) ∨ (ckP xs = 0 ∧ ∃ a t, ys = a :: t ∧ G.Run (xs.map vOf) (vOf a) (t.map vOf))
theorem HullRes.uniq {xs ys zs : List Pt} (h : HullRes xs ys) (k : HullRes xs zs) : ys = zs := by
  rcases h with ⟨h, rfl⟩ | ⟨h, a, t, rfl, r⟩ <;> rcases k with ⟨k, rfl⟩ | ⟨k, b, s, rfl, q⟩
  · rfl
  · exact absurd k h
  · exact absurd h k
  · obtain ⟨e1, e2⟩ := r.uniq q
    rw [vOf_inj e1]
    congr 1
    exact (List.map_inj_right (fun _ _ => vOf_inj)).1 e2
end Go.Proofs.YtloefohekhkehaaDoor
