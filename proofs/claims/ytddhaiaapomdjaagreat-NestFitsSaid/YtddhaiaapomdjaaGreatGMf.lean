/-
  Nests, plain: there is a first place, or none; what lies well and clear.
  Nests: lies, of the law NestLowest.
  Nests: arguments opened: what is on a sheet, a piece with settings.
-/
import Derived.Test.YtddhaiaapomdjaaGreatGJf
set_option linter.unusedVariables false
set_option linter.unusedSimpArgs false
namespace Go.Proofs.YtddhaiaapomdjaaGreat
set_option linter.unusedVariables false
set_option linter.unusedSimpArgs false
open Go Go.ChangeShapes Go.WideShapes Go.ChangeAt Go.RowKit Go.Deep

namespace RG
theorem int_least {P : Int → Prop} {lo : Int} (hlo : ∀ z, P z → lo ≤ z) : ∀ (n : Nat) (z : Int), P z → z ≤ lo + n → ∃ u, P u ∧ ∀ v, P v → u ≤ v
  | 0, z, h, hz => ⟨z, h, fun v hv => by have := hlo v hv; have := hlo z h; omega⟩
  | n + 1, z, h, hz => by
    by_cases k : ∃ v, P v ∧ v ≤ lo + n
    · obtain ⟨v, hv, hn⟩ := k
      exact int_least hlo n v hv hn
    · refine ⟨z, h, fun v hv => ?_⟩
      have : ¬ v ≤ lo + n := fun e => k ⟨v, hv, e⟩
      omega
theorem least_of {P : Int → Prop} {lo : Int} (hlo : ∀ z, P z → lo ≤ z) {z : Int} (h : P z) : ∃ u, P u ∧ ∀ v, P v → u ≤ v :=
  int_least hlo (z - lo).toNat z h (by have := hlo z h; omega)
theorem fsO_ex (f : Br) (l : List Br) : ∃ o, FsO f l o := by
  by_cases h : ∃ x y, FreeP f l x y
  · obtain ⟨x, y, hxy⟩ := h
    obtain ⟨y0, ⟨x1, h1⟩, hy⟩ := least_of (P := fun y => ∃ x, FreeP f l x y) (lo := f.b) (fun z ⟨x, hz⟩ => hz.1.2.2.1) ⟨x, hxy⟩
    obtain ⟨x0, h0, hx⟩ := least_of (P := fun x => FreeP f l x y0) (lo := f.l) (fun z hz => hz.1.1) h1
    refine ⟨some (x0, y0), ⟨fun x y e => ?_, fun e => by cases e⟩⟩
    simp only [Option.some.injEq, Prod.mk.injEq] at e
    obtain ⟨rfl, rfl⟩ := e
    refine ⟨h0, fun x' y' h' => ?_⟩
    have a := hy y' ⟨x', h'⟩
    rcases Int.lt_or_le y0 y' with c | c
    · exact .inl c
    · obtain rfl : y0 = y' := by omega
      exact .inr ⟨rfl, hx x' h'⟩
  · exact ⟨none, ⟨(fun x y e => by cases e), fun _ x y hf => h ⟨x, y, hf⟩⟩⟩
theorem ftO_ex (o : Nat → Option (Int × Int)) : ∃ r, FtO o r := by
  have key : ∀ k, ∃ r : Option (Nat × Int × Int), (∀ t x y, r = some (t, x, y) → t < k ∧ o t = some (x, y) ∧ ∀ t' x' y', t' < k → o t' = some (x', y') → y < y' ∨ y = y' ∧ (x < x' ∨ x = x' ∧ t ≤ t')) ∧ (r = none → ∀ t, t < k → o t = none) := by
    intro k
    induction k with
    | zero => exact ⟨none, (fun _ _ _ e => by cases e), fun _ t ht => absurd ht (Nat.not_lt_zero t)⟩
    | succ k ih =>
      obtain ⟨r, h1, h2⟩ := ih
      cases hk : o k with
      | none =>
        refine ⟨r, fun t x y e => ?_, fun e t ht => ?_⟩
        · obtain ⟨a, b, c⟩ := h1 t x y e
          refine ⟨by omega, b, fun t' x' y' ht' he => ?_⟩
          by_cases q : t' = k
          · subst q; rw [hk] at he; cases he
          · exact c t' x' y' (by omega) he
        · by_cases q : t = k
          · subst q; exact hk
          · exact h2 e t (by omega)
      | some v =>
        obtain ⟨u, w⟩ := v
        cases r with
        | none =>
          refine ⟨some (k, u, w), fun t x y e => ?_, fun e => by cases e⟩
          simp only [Option.some.injEq, Prod.mk.injEq] at e
          obtain ⟨rfl, rfl, rfl⟩ := e
          refine ⟨by omega, hk, fun t' x' y' ht' he => ?_⟩
          by_cases q : t' = k
          · subst q
            rw [hk] at he
            simp only [Option.some.injEq, Prod.mk.injEq] at he
            omega
          · rw [h2 rfl t' (by omega)] at he; cases he
        | some z =>
          obtain ⟨t0, x0, y0⟩ := z
          obtain ⟨a, b, c⟩ := h1 t0 x0 y0 rfl
          by_cases q : y0 < w ∨ y0 = w ∧ x0 ≤ u
          · refine ⟨some (t0, x0, y0), fun t x y e => ?_, fun e => by cases e⟩
            simp only [Option.some.injEq, Prod.mk.injEq] at e
            obtain ⟨rfl, rfl, rfl⟩ := e
            refine ⟨by omega, b, fun t' x' y' ht' he => ?_⟩
            by_cases q' : t' = k
            · subst q'
              rw [hk] at he
              simp only [Option.some.injEq, Prod.mk.injEq] at he
              omega
            · exact c t' x' y' (by omega) he
          · refine ⟨some (k, u, w), fun t x y e => ?_, fun e => by cases e⟩
            simp only [Option.some.injEq, Prod.mk.injEq] at e
            obtain ⟨rfl, rfl, rfl⟩ := e
            refine ⟨by omega, hk, fun t' x' y' ht' he => ?_⟩
            by_cases q' : t' = k
            · subst q'
              rw [hk] at he
              simp only [Option.some.injEq, Prod.mk.injEq] at he
              omega
            · have := c t' x' y' (by omega) he
              omega
  obtain ⟨r, h1, h2⟩ := key 4
  exact ⟨r, ⟨h1, h2⟩⟩
/-- each piece has its first place on a sheet beside what is there, or none -/
theorem fitR_ex (s : ShT) (L : List Rc) (p : Pc) (t : St) : ∃ r, FitR s L p t r := by
  have h : ∀ k : Nat, ∃ v : Option (Int × Int), (alB p.mt s.mt p.ga s.ga p.gr s.gr k = false → v = none) ∧ (alB p.mt s.mt p.ga s.ga p.gr s.gr k = true → FsO (fdV (inmR s.wd s.ht t.m) (tnL p.r k p.r)) (fdB (tnL p.r k p.r) (s.cl ++ s.us) L t) v) := fun k => by
    cases e : alB p.mt s.mt p.ga s.ga p.gr s.gr k with
    | false => exact ⟨none, fun _ => rfl, fun e => by cases e⟩
    | true =>
      obtain ⟨v, hv⟩ := fsO_ex (fdV (inmR s.wd s.ht t.m) (tnL p.r k p.r)) (fdB (tnL p.r k p.r) (s.cl ++ s.us) L t)
      exact ⟨v, (fun e => by cases e), fun _ => hv⟩
  obtain ⟨r, hr⟩ := ftO_ex (fun k => Classical.choose (h k))
  exact ⟨r, fun k => Classical.choose (h k), ⟨fun k _ e => (Classical.choose_spec (h k)).1 e, fun k _ e => (Classical.choose_spec (h k)).2 e⟩, hr⟩
end RG
end Go.Proofs.YtddhaiaapomdjaaGreat
set_option linter.unusedVariables false
set_option linter.unusedSimpArgs false
namespace Go.Proofs.YtddhaiaapomdjaaGreat
set_option linter.unusedVariables false
set_option linter.unusedSimpArgs false
open Go Go.ChangeShapes Go.WideShapes Go.ChangeAt Go.RowKit Go.Deep

namespace RG
abbrev glv (p : Pc) (t : St) : Value := .agg #[.string p.nm, .string p.mt, iv p.ga, iv p.gr, .slice p.rA p.r.length p.rc, .slice p.cA p.c.length p.cc, .slice p.fA p.f.length p.fc, iv t.g, iv t.m, .bool t.c]
end RG
end Go.Proofs.YtddhaiaapomdjaaGreat
set_option linter.unusedVariables false
set_option linter.unusedSimpArgs false
namespace Go.Proofs.YtddhaiaapomdjaaGreat
set_option linter.unusedVariables false
set_option linter.unusedSimpArgs false
open Go Go.ChangeShapes Go.WideShapes Go.ChangeAt Go.RowKit Go.Deep

namespace RG
theorem c7Rr : Tryz.prog.cellsOf 22 = 1 := by kernel_rfl
theorem c7Go : Tryz.prog.cellsOf 31 = 10 := by kernel_rfl
section
variable {H : Type} {enc : TypeId × Value → H} {W : World}
theorem o7_rrl {n : Nat} {cs : List Value} {x : DataW H × List MemPlace} (h : DataW.trod enc Tryz.prog W 0 (fun _ => true) true n 25 cs = some x) : ∃ (A : Option Addr) (c : Nat) (L : List RS), cs = [.slice A L.length c] ∧ SlRR W A c L := by
  obtain ⟨A, c, l, e, h1, h2, h3, h4⟩ := open_list (c := rsL) (Ok := fun y : RS => SlR W y.A y.c y.l) Tryz.underlying25 c7Rr (by decide) (fun {n cs x} hx => by
    obtain ⟨A, c, l, e, hl⟩ := o6_rl hx
    exact ⟨⟨A, c, l⟩, e, hl⟩) (fun _ => rfl) h
  exact ⟨A, c, l, e, h1, h2, h3, by unfold maxLen at h4; omega⟩
set_option maxRecDepth 100000 in
theorem o7_goal {base : Nat} {v : Value} {d : DataW H} {ps : List MemPlace} (hv : Value.okWide Tryz.prog W .any base 31 v) (hd : DataW.Trod enc Tryz.prog W 0 (fun _ => true) true 31 v d ps) :
    ∃ (p : Pc) (t : St), v = glv p t ∧ PcW W p := by
  obtain ⟨cs, rfl, _⟩ := okWide_struct Tryz.underlying31 hv
  obtain ⟨fuel, h⟩ := hd
  simp only [Value.cells] at h
  obtain ⟨xs, m, _, _, hl, hxl, hg⟩ := DataW.trod_struct Tryz.underlying31 h
  rw [c7Go] at hl
  have hxl : xs.length = 2 := hxl
  have el : ∀ i : Nat, i < 2 → xs[i]? = some (xs[i]?.getD (.nil, [])) := fun i hi => by rw [List.getElem?_eq_getElem (by omega)]; rfl
  have f0 := field_use hg 0 27 0 rfl
  have f1 := field_use hg 1 29 7 rfl
  rw [c6Pc, el 0 (by omega)] at f0
  rw [c6Set, el 1 (by omega)] at f1
  obtain ⟨cl⟩ := cs
  simp only at hl f0 f1
  match cl, hl with
  | [k0, k1, k2, k3, k4, k5, k6, k7, k8, k9], _ =>
    obtain ⟨p, e0, hp⟩ := o6_pc f0
    obtain ⟨t, e1⟩ := o6_set f1
    simp at e0 e1
    obtain ⟨rfl, rfl, rfl, rfl, rfl, rfl, rfl⟩ := e0
    obtain ⟨rfl, rfl, rfl⟩ := e1
    exact ⟨p, t, rfl, hp⟩
end
end RG
end Go.Proofs.YtddhaiaapomdjaaGreat
