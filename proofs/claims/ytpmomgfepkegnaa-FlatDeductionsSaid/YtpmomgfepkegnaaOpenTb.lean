/-
  An argument that is a bend table, opened.
-/
import Derived.Test.YtpmomgfepkegnaaTab1
import Derived.Test.YtpmomgfepkegnaaOpenPa
set_option linter.unusedVariables false
set_option linter.unusedSimpArgs false
namespace Go.Proofs.Ytpmomgfepkegnaa
set_option linter.unusedVariables false
set_option linter.unusedSimpArgs false
open Go Go.ChangeShapes Go.WideShapes Go.ChangeAt Go.RowKit Go.Deep

abbrev enL (x : En) : List Value := [iv x.an, iv x.nm, iv x.dn]
abbrev env (x : En) : Value := .agg #[iv x.an, iv x.nm, iv x.dn]
abbrev RdE (w : World) (A : Option Addr) (l : List En) : Prop := RdL w 3 enL A l
theorem RdL.en {w : World} {A : Option Addr} {l : List En} (h : RdL w 3 enL A l) {i : Nat} {f : En} (hi : l[i]? = some f) : ∃ b off, A = some ⟨b, off, none⟩ ∧ w.cell? ⟨b, off + i * 3, none⟩ = some (iv f.an) ∧ w.cell? ⟨b, off + i * 3 + 1, none⟩ = some (iv f.nm) ∧ w.cell? ⟨b, off + i * 3 + 2, none⟩ = some (iv f.dn) := by
  obtain ⟨b, off, e, h0, h1, h2, _⟩ := h i f hi
  exact ⟨b, off, e, h0, h1, h2⟩
abbrev tbv (t : Tb) (A : Option Addr) (c : Nat) : Value := .agg #[.string t.mt, iv t.ga, iv t.di, .slice A t.en.length c]
/-- a slice of entries as an argument has it -/
structure SlE (w : World) (A : Option Addr) (c : Nat) (l : List En) : Prop where
  rd : RdE w A l
  cap : l.length ≤ c
  capB : c ≤ 9223372036854775807
  len : l.length ≤ 1000
theorem SlE.gr {w w' : World} {A : Option Addr} {c : Nat} {l : List En} (h : SlE w A c l) (g : Gr w w') : SlE w' A c l := ⟨h.rd.gr g, h.cap, h.capB, h.len⟩
def EnI (f : En) : Prop := I64 f.an ∧ I64 f.nm ∧ I64 f.dn
theorem cellsEntry : Try.prog.cellsOf 82 = 3 := by kernel_rfl
theorem cellsSlE : Try.prog.cellsOf 69 = 1 := by kernel_rfl
theorem cellsTab : Try.prog.cellsOf 71 = 4 := by kernel_rfl
theorem intsEntry : IntsAt Try.prog 82 3 :=
  intsAt_struct (m := 3) (k := 1) Try.underlying82 intsInt cellsInt rfl cellsEntry (fun i hi => by
    match i, hi with
    | 0, _ => exact ⟨_, rfl, rfl, rfl⟩
    | 1, _ => exact ⟨_, rfl, rfl, rfl⟩
    | 2, _ => exact ⟨_, rfl, rfl, rfl⟩)
section
variable {H : Type} {enc : TypeId × Value → H} {W : World}
theorem open_entry {n : Nat} {cs : List Value} {x : DataW H × List MemPlace} (h : DataW.trod enc Try.prog W 0 (fun _ => true) true n 82 cs = some x) : ∃ f : En, cs = enL f ∧ EnI f := by
  obtain ⟨zs, hl, e, hb⟩ := intsEntry enc W 0 _ _ n _ _ h
  match zs, hl with
  | [a, b, c], _ => exact ⟨⟨a, b, c⟩, e, hb a (by simp), hb b (by simp), hb c (by simp)⟩
set_option maxRecDepth 100000 in
theorem open_tab {base : Nat} {v : Value} {d : DataW H} {ps : List MemPlace} (hv : Value.okWide Try.prog W .any base 71 v) (hd : DataW.Trod enc Try.prog W 0 (fun _ => true) true 71 v d ps) :
    ∃ (t : Tb) (A : Option Addr) (c : Nat), v = tbv t A c ∧ RdE W A t.en ∧ t.mt.size ≤ maxLen ∧ (∀ f ∈ t.en, EnI f) ∧ (t.en.length ≤ c ∧ c ≤ maxLen) := by
  obtain ⟨cs, rfl, _⟩ := okWide_struct Try.underlying71 hv
  obtain ⟨fuel, h⟩ := hd
  simp only [Value.cells] at h
  obtain ⟨xs, m, _, _, hl, hxl, hg⟩ := DataW.trod_struct Try.underlying71 h
  rw [cellsTab] at hl
  have hxl : xs.length = 4 := hxl
  have el : ∀ i : Nat, i < 4 → xs[i]? = some (xs[i]?.getD (.nil, [])) := fun i hi => by rw [List.getElem?_eq_getElem (by omega)]; rfl
  have f0 := field_use hg 0 9 0 rfl
  have f1 := field_use hg 1 3 1 rfl
  have f2 := field_use hg 2 3 2 rfl
  have f3 := field_use hg 3 69 3 rfl
  rw [cellsStr, el 0 (by omega)] at f0
  rw [cellsInt, el 1 (by omega)] at f1
  rw [cellsInt, el 2 (by omega)] at f2
  rw [cellsSlE, el 3 (by omega)] at f3
  obtain ⟨cl⟩ := cs
  simp only at hl f0 f1 f2 f3
  match cl, hl with
  | [c0, c1, c2, c3], _ =>
    obtain ⟨s, e0, _, hs⟩ := DataW.trod_string Try.underlying9 f0
    obtain ⟨z1, e1, b1⟩ := one_i64 (intsInt enc W 0 _ _ m _ _ f1)
    obtain ⟨z2, e2, b2⟩ := one_i64 (intsInt enc W 0 _ _ m _ _ f2)
    obtain ⟨A, c, l, e3, r, o, n⟩ := open_list (c := enL) (Ok := EnI) Try.underlying69 cellsEntry (by omega) (fun h => open_entry h) (fun _ => rfl) f3
    simp at e0 e1 e2 e3
    subst e0 e1 e2 e3
    exact ⟨⟨s, z1, z2, l⟩, A, c, rfl, r, hs, o, n⟩
end
end Go.Proofs.Ytpmomgfepkegnaa
