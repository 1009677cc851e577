/-
  Sums of rationals, plain: what the law of FlatAdds needs.
-/
import Derived.Test.YtpmomgfepkegnaaRat2
set_option linter.unusedVariables false
set_option linter.unusedSimpArgs false
namespace Go.Proofs.Ytpmomgfepkegnaa
set_option linter.unusedVariables false
set_option linter.unusedSimpArgs false
open Go Go.ChangeShapes Go.WideShapes Go.ChangeAt Go.RowKit Go.Deep

theorem addV_ok {a b c d x y : Int} (h : addV a b c d = (x, y, 0)) : raB a b = true ∧ raB c d = true ∧ x = rdN (adN a b c d) (adD b d) ∧ y = rdD (adN a b c d) (adD b d) ∧ raB x y = true := by
  unfold addV at h
  split at h
  · rename_i h1
    split at h
    · rename_i h2
      simp only [Prod.mk.injEq] at h
      obtain ⟨rfl, rfl, _⟩ := h
      simp only [Bool.and_eq_true] at h1
      exact ⟨h1.1, h1.2, rfl, rfl, h2⟩
    · simp at h
  · simp at h
theorem cmpV_ok {a b c d s : Int} (h : cmpV a b c d = (s, 0)) : raB a b = true ∧ raB c d = true ∧ s = cmI (a * d) (c * b) := by
  unfold cmpV at h
  split at h
  · rename_i h1
    simp only [Prod.mk.injEq] at h
    simp only [Bool.and_eq_true] at h1
    exact ⟨h1.1, h1.2, h.1.symm⟩
  · simp at h
theorem tikV_ok {n d m : Int} (h : tikV n d = (m, 0)) : raB n d = true ∧ (n * 720).tmod d = 0 ∧ m = (n * 720).tdiv d := by
  unfold tikV at h
  split at h
  · rename_i h1
    split at h
    · rename_i h2
      simp only [Prod.mk.injEq] at h
      exact ⟨h1, h2, h.1.symm⟩
    · simp at h
  · simp at h
theorem adds_cmp {a b c d p q x1 x2 z1 z2 s : Int} (h1 : addV a b c d = (x1, x2, 0)) (h2 : addV p q c d = (z1, z2, 0)) (h3 : cmpV a b p q = (s, 0)) : cmpV x1 x2 z1 z2 = (s, 0) := by
  obtain ⟨r1, r2, e1, e2, r3⟩ := addV_ok h1
  obtain ⟨r4, r5, e3, e4, r6⟩ := addV_ok h2
  obtain ⟨_, _, e5⟩ := cmpV_ok h3
  obtain ⟨_, b1⟩ := raB_iff.1 r1
  obtain ⟨_, b2⟩ := raB_iff.1 r2
  obtain ⟨_, b4⟩ := raB_iff.1 r4
  unfold cmpV
  rw [r3, r6, e5, e1, e2, e3, e4]
  simp only [Bool.and_self, if_true]
  rw [cm_sum (by omega) (by omega) (by omega)]
theorem adds_tik {a b c d x1 x2 m n : Int} (h1 : addV a b c d = (x1, x2, 0)) (h2 : tikV a b = (m, 0)) (h3 : tikV c d = (n, 0)) : tikV x1 x2 = (m + n, 0) ∧ -9223372036854775808 ≤ m + n ∧ m + n ≤ 9223372036854775807 := by
  obtain ⟨r1, r2, e1, e2, r3⟩ := addV_ok h1
  obtain ⟨_, t1, t2⟩ := tikV_ok h2
  obtain ⟨_, t3, t4⟩ := tikV_ok h3
  obtain ⟨a1, b1⟩ := raB_iff.1 r1
  obtain ⟨a2, b2⟩ := raB_iff.1 r2
  have k1 := tik_mul t1
  have k2 := tik_mul t3
  rw [← t2] at k1
  rw [← t4] at k2
  have hs := tik_sum (an := a) (ad := b) (bn := c) (bd := d) b1.1 b2.1 k1 k2
  rw [← e1, ← e2] at hs
  obtain ⟨_, b3⟩ := raB_iff.1 r3
  obtain ⟨u1, u2⟩ := tik_at b3.1 hs
  have bm : ∀ {u v k : Int}, k * v = u * 720 → (-16777216 ≤ u ∧ u ≤ 16777216) → 1 ≤ v → -12079595520 ≤ k ∧ k ≤ 12079595520 := by
    intro u v k h hu hv
    have e : k = (u * 720).tdiv v := by rw [← h, Int.mul_tdiv_cancel _ (by omega)]
    have e2 := tdiv_eq_if (u * 720) v
    have q1 := Int.ediv_le_self (a := u * 720) v
    have q2 := Int.ediv_le_self (a := -(u * 720)) v
    have q3 := @Int.ediv_nonneg (u * 720) v
    have q4 := @Int.ediv_nonneg (-(u * 720)) v
    rw [e, e2]
    split
    · have := q1 (by omega); have := q3 (by omega) (by omega); omega
    · have := q2 (by omega); have := q4 (by omega) (by omega); omega
  have v1 := bm k1 a1 b1.1
  have v2 := bm k2 a2 b2.1
  refine ⟨?_, by omega, by omega⟩
  unfold tikV
  rw [r3, if_pos rfl, if_pos u1, u2]
end Go.Proofs.Ytpmomgfepkegnaa
