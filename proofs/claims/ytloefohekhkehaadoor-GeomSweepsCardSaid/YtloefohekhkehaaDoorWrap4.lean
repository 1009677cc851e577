/-
  The reference's Hull; GeomHulls: the walk.
-/
import Derived.Test.YtloefohekhkehaaDoorWrap3
set_option linter.unusedVariables false
set_option linter.unusedSimpArgs false
namespace Go.Proofs.YtloefohekhkehaaDoor
set_option linter.unusedVariables false
set_option linter.unusedSimpArgs false
open Go Go.ChangeShapes Go.WideShapes Go.ChangeAt Go.RowKit Go.Deep

def anyBad (xs : List Pt) : Bool := xs.any fun p => !pB p
theorem ckP_bad {xs : List Pt} (h : badLen xs.length = true) : ckP xs = 1 := by
  unfold ckP ckE
  simp [h]
theorem ckP_any {xs : List Pt} (h : badLen xs.length = false) (k : anyBad xs = true) : ckP xs = 4 := by
  unfold anyBad at k
  unfold ckP ckE
  simp only [List.any_cons, List.any_nil, Bool.or_false]
  rw [h, k]
  rfl
theorem ckP_ok {xs : List Pt} (h : badLen xs.length = false) (k : anyBad xs = false) : ckP xs = 0 := by
  unfold anyBad at k
  unfold ckP ckE
  simp only [List.any_cons, List.any_nil, Bool.or_false]
  rw [h, k]
  rfl
theorem HullRes.len {xs ys : List Pt} (h : HullRes xs ys) : ys.length ≤ xs.length := by
  rcases h with ⟨_, rfl⟩ | ⟨_, a, t, rfl, r⟩
  · simp
  · have := r.length
    simp only [List.length_map] at this
    simpa using this
end Go.Proofs.YtloefohekhkehaaDoor
