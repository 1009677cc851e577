/-
  An argument that is a slice of points, opened.
-/
import Derived.Test.YtloefohekhkehaaDoorLaid
import Derived.Test.YtloefohekhkehaaDoorSl1
import Derived.Deep.Slices
namespace Go.Proofs.YtloefohekhkehaaDoor
set_option linter.unusedVariables false
set_option linter.unusedSimpArgs false
open Go Go.ChangeShapes Go.WideShapes Go.ChangeAt Go.RowKit Go.Deep

theorem cell_spot {w : World} {a : Addr} {v : Value} (h : w.cell? a = some v) : a.spot = none := by
  unfold World.cell? at h
  split at h
  · split at h
    · cases h
    · rename_i h1
      cases e : a.spot with
      | none => rfl
      | some _ => rw [e] at h1; simp at h1
  · cases h
theorem addr_add {b o n : Nat} : ((⟨b, o, none⟩ : Addr).add n) = ⟨b, o + n, none⟩ := by
  unfold Addr.add
  split
  · rename_i h; simp [h]
  · rfl
set_option maxRecDepth 100000 in
theorem open_points {base : Nat} {W : World} {H : Type} {enc : TypeId × Value → H} {v : Value} {d : DataW H} {ps : List MemPlace} (hv : Value.okWide Tryd.prog W .any base 29 v) (hd : DataW.Trod enc Tryd.prog W 0 (fun _ => true) true 29 v d ps) :
    ∃ (A : Option Addr) (c : Nat) (xs : List Pt), v = .slice A xs.length c ∧ Rd W A xs := by
  obtain ⟨A, len, cap, rfl⟩ := okWide_slice Tryd.underlying29 hv
  obtain ⟨fuel, h⟩ := hd
  rcases open_slice Tryd.underlying29 h with ⟨hc, _⟩ | ⟨a, len', cap', m, n, D, Pl, hc, _, hl, _, hm, _, hall⟩
  · have hc' : Value.slice A len cap = .slice none 0 0 := by simpa [Value.cells] using hc
    injection hc' with h1 h2 h3
    subst h1 h2 h3
    exact ⟨none, 0, [], rfl, fun i p hp => by simp at hp⟩
  · have hc' : Value.slice A len cap = .slice (some a) len' cap' := by simpa [Value.cells] using hc
    injection hc' with h1 h2 h3
    subst h1 h2 h3
    simp only [if_true] at hm
    have el : ∀ i, i < len → ∃ p : Pt, W.cell? ((a.add (i * 4)).add 0) = some (iv p.1) ∧ W.cell? ((a.add (i * 4)).add 1) = some (iv p.2.1) ∧ W.cell? ((a.add (i * 4)).add 2) = some (iv p.2.2.1) ∧ W.cell? ((a.add (i * 4)).add 3) = some (iv p.2.2.2) := by
      intro i hi
      obtain ⟨cs, h1, h2⟩ := hall i (by omega)
      rw [cellsPoint] at h1
      obtain ⟨zs, hz, hcs, _⟩ := intsPoint enc W 0 (fun _ => true) true _ _ _ h2
      obtain ⟨_, _, hat⟩ := World.cells?_some h1
      match zs, hz with
      | [z0, z1, z2, z3], _ =>
        subst hcs
        exact ⟨(z0, z1, z2, z3), hat 0 (by omega), hat 1 (by omega), hat 2 (by omega), hat 3 (by omega)⟩
    by_cases h0 : 0 < len
    · obtain ⟨z, c0, _⟩ := el 0 h0
      have hs : a.spot = none := cell_spot (w := W) (v := iv z.1) (by simpa [Addr.add] using c0)
      obtain ⟨b, off, sp⟩ := a
      simp only at hs
      subst hs
      let f : Nat → Pt := fun i => if hi : i < len then Classical.choose (el i hi) else (0, 0, 0, 0)
      refine ⟨some ⟨b, off, none⟩, cap, (List.range len).map f, by simp, fun i p hp => ?_⟩
      rw [List.getElem?_map] at hp
      by_cases hi : i < len
      · rw [List.getElem?_range hi] at hp
        simp only [Option.map_some, Option.some.injEq] at hp
        have e : f i = Classical.choose (el i hi) := dif_pos hi
        obtain ⟨k0, k1, k2, k3⟩ := Classical.choose_spec (el i hi)
        rw [← e, hp] at k0 k1 k2 k3
        simp only [addr_add, Nat.add_zero] at k0 k1 k2 k3
        exact ⟨b, off, rfl, k0, k1, k2, k3⟩
      · rw [List.getElem?_eq_none (by simpa using hi)] at hp
        simp at hp
    · have : len = 0 := by omega
      subst this
      exact ⟨some a, cap, [], rfl, fun i p hp => by simp at hp⟩
end Go.Proofs.YtloefohekhkehaaDoor
