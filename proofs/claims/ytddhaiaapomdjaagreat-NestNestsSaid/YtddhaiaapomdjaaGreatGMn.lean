/-
  Nests, plain: there is a first place, or none; what lies well and clear.
-/
import Derived.Test.YtddhaiaapomdjaaGreatGJn
set_option linter.unusedVariables false
set_option linter.unusedSimpArgs false
namespace Go.Proofs.YtddhaiaapomdjaaGreat
set_option linter.unusedVariables false
set_option linter.unusedSimpArgs false
open Go Go.ChangeShapes Go.WideShapes Go.ChangeAt Go.RowKit Go.Deep

namespace RG
theorem int_least {P : Int → Prop} {lo : Int} (hlo : ∀ z, P z → lo ≤ z) : ∀ (n : Nat) (z : Int), P z → z ≤ lo + n → ∃ u, P u ∧ ∀ v, P v → u ≤ v
  | 0, z, h, hz => ⟨z, h, fun v hv => by have := hlo v hv; have := hlo z h; omega⟩
  | n + 1, z, h, hz => by
    by_cases k : ∃ v, P v ∧ v ≤ lo + n
    · obtain ⟨v, hv, hn⟩ := k
      exact int_least hlo n v hv hn
    · refine ⟨z, h, fun v hv => ?_⟩
      have : ¬ v ≤ lo + n := fun e => k ⟨v, hv, e⟩
      omega
theorem least_of {P : Int → Prop} {lo : Int} (hlo : ∀ z, P z → lo ≤ z) {z : Int} (h : P z) : ∃ u, P u ∧ ∀ v, P v → u ≤ v :=
  int_least hlo (z - lo).toNat z h (by have := hlo z h; omega)
theorem fsO_ex (f : Br) (l : List Br) : ∃ o, FsO f l o := by
  by_cases h : ∃ x y, FreeP f l x y
  · obtain ⟨x, y, hxy⟩ := h
    obtain ⟨y0, ⟨x1, h1⟩, hy⟩ := least_of (P := fun y => ∃ x, FreeP f l x y) (lo := f.b) (fun z ⟨x, hz⟩ => hz.1.2.2.1) ⟨x, hxy⟩
    obtain ⟨x0, h0, hx⟩ := least_of (P := fun x => FreeP f l x y0) (lo := f.l) (fun z hz => hz.1.1) h1
    refine ⟨some (x0, y0), ⟨fun x y e => ?_, fun e => by cases e⟩⟩
    simp only [Option.some.injEq, Prod.mk.injEq] at e
    obtain ⟨rfl, rfl⟩ := e
    refine ⟨h0, fun x' y' h' => ?_⟩
    have a := hy y' ⟨x', h'⟩
    rcases Int.lt_or_le y0 y' with c | c
    · exact .inl c
    · obtain rfl : y0 = y' := by omega
      exact .inr ⟨rfl, hx x' h'⟩
  · exact ⟨none, ⟨(fun x y e => by cases e), fun _ x y hf => h ⟨x, y, hf⟩⟩⟩
theorem ftO_ex (o : Nat → Option (Int × Int)) : ∃ r, FtO o r := by
  have key : ∀ k, ∃ r : Option (Nat × Int × Int), (∀ t x y, r = some (t, x, y) → t < k ∧ o t = some (x, y) ∧ ∀ t' x' y', t' < k → o t' = some (x', y') → y < y' ∨ y = y' ∧ (x < x' ∨ x = x' ∧ t ≤ t')) ∧ (r = none → ∀ t, t < k → o t = none) := by
    intro k
    induction k with
    | zero => exact ⟨none, (fun _ _ _ e => by cases e), fun _ t ht => absurd ht (Nat.not_lt_zero t)⟩
    | succ k ih =>
      obtain ⟨r, h1, h2⟩ := ih
      cases hk : o k with
      | none =>
        refine ⟨r, fun t x y e => ?_, fun e t ht => ?_⟩
        · obtain ⟨a, b, c⟩ := h1 t x y e
          refine ⟨by omega, b, fun t' x' y' ht' he => ?_⟩
          by_cases q : t' = k
          · subst q; rw [hk] at he; cases he
          · exact c t' x' y' (by omega) he
        · by_cases q : t = k
          · subst q; exact hk
          · exact h2 e t (by omega)
      | some v =>
        obtain ⟨u, w⟩ := v
        cases r with
        | none =>
          refine ⟨some (k, u, w), fun t x y e => ?_, fun e => by cases e⟩
          simp only [Option.some.injEq, Prod.mk.injEq] at e
          obtain ⟨rfl, rfl, rfl⟩ := e
          refine ⟨by omega, hk, fun t' x' y' ht' he => ?_⟩
          by_cases q : t' = k
          · subst q
            rw [hk] at he
            simp only [Option.some.injEq, Prod.mk.injEq] at he
            omega
          · rw [h2 rfl t' (by omega)] at he; cases he
        | some z =>
          obtain ⟨t0, x0, y0⟩ := z
          obtain ⟨a, b, c⟩ := h1 t0 x0 y0 rfl
          by_cases q : y0 < w ∨ y0 = w ∧ x0 ≤ u
          · refine ⟨some (t0, x0, y0), fun t x y e => ?_, fun e => by cases e⟩
            simp only [Option.some.injEq, Prod.mk.injEq] at e
            obtain ⟨rfl, rfl, rfl⟩ := e
            refine ⟨by omega, b, fun t' x' y' ht' he => ?_⟩
            by_cases q' : t' = k
            · subst q'
              rw [hk] at he
              simp only [Option.some.injEq, Prod.mk.injEq] at he
              omega
            · exact c t' x' y' (by omega) he
          · refine ⟨some (k, u, w), fun t x y e => ?_, fun e => by cases e⟩
            simp only [Option.some.injEq, Prod.mk.injEq] at e
            obtain ⟨rfl, rfl, rfl⟩ := e
            refine ⟨by omega, hk, fun t' x' y' ht' he => ?_⟩
            by_cases q' : t' = k
            · subst q'
              rw [hk] at he
              simp only [Option.some.injEq, Prod.mk.injEq] at he
              omega
            · have := c t' x' y' (by omega) he
              omega
  obtain ⟨r, h1, h2⟩ := key 4
  exact ⟨r, ⟨h1, h2⟩⟩
theorem fitR_ex (s : ShT) (L : List Rc) (p : Pc) (t : St) : ∃ r, FitR s L p t r := by
  have h : ∀ k : Nat, ∃ v : Option (Int × Int), (alB p.mt s.mt p.ga s.ga p.gr s.gr k = false → v = none) ∧ (alB p.mt s.mt p.ga s.ga p.gr s.gr k = true → FsO (fdV (inmR s.wd s.ht t.m) (tnL p.r k p.r)) (fdB (tnL p.r k p.r) (s.cl ++ s.us) L t) v) := fun k => by
    cases e : alB p.mt s.mt p.ga s.ga p.gr s.gr k with
    | false => exact ⟨none, fun _ => rfl, fun e => by cases e⟩
    | true =>
      obtain ⟨v, hv⟩ := fsO_ex (fdV (inmR s.wd s.ht t.m) (tnL p.r k p.r)) (fdB (tnL p.r k p.r) (s.cl ++ s.us) L t)
      exact ⟨v, (fun e => by cases e), fun _ => hv⟩
  obtain ⟨r, hr⟩ := ftO_ex (fun k => Classical.choose (h k))
  exact ⟨r, fun k => Classical.choose (h k), ⟨fun k _ e => (Classical.choose_spec (h k)).1 e, fun k _ e => (Classical.choose_spec (h k)).2 e⟩, hr⟩
end RG
end Go.Proofs.YtddhaiaapomdjaaGreat
