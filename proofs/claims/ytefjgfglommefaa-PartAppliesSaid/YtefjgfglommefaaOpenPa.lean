/-
  An argument that is a part, opened: its strings and numbers, and what lies where its slices point.
-/
import Derived.Test.YtefjgfglommefaaVal0
import Derived.Deep.Slices
set_option linter.unusedVariables false
set_option linter.unusedSimpArgs false
namespace Go.Proofs.Ytefjgfglommefaa
set_option linter.unusedVariables false
set_option linter.unusedSimpArgs false
open Go Go.ChangeShapes Go.WideShapes Go.ChangeAt Go.RowKit Go.Deep

theorem cell_spot {w : World} {a : Addr} {v : Value} (h : w.cell? a = some v) : a.spot = none := by
  unfold World.cell? at h
  split at h
  · split at h
    · cases h
    · rename_i h1
      cases e : a.spot with
      | none => rfl
      | some _ => rw [e] at h1; simp at h1
  · cases h
theorem addr_add {b o n : Nat} : ((⟨b, o, none⟩ : Addr).add n) = ⟨b, o + n, none⟩ := by
  unfold Addr.add
  split
  · rename_i h; simp [h]
  · rfl
theorem pick {α : Type} {n : Nat} {Q : Nat → α → Prop} (h : ∀ i, i < n → ∃ x, Q i x) : ∃ xs : List α, xs.length = n ∧ ∀ i x, xs[i]? = some x → Q i x := by
  induction n with
  | zero => exact ⟨[], rfl, fun i x hx => by simp at hx⟩
  | succ n ih =>
    obtain ⟨xs, hl, hq⟩ := ih (fun i hi => h i (by omega))
    obtain ⟨y, hy⟩ := h n (by omega)
    refine ⟨xs ++ [y], by simp [hl], fun i x hx => ?_⟩
    rcases Nat.lt_trichotomy i n with h1 | h1 | h1
    · rw [List.getElem?_append_left (by omega)] at hx
      exact hq i x hx
    · subst h1
      rw [List.getElem?_append_right (by omega)] at hx
      simp [hl] at hx
      rwa [← hx]
    · rw [List.getElem?_eq_none (by simp; omega)] at hx
      cases hx
/-- the cells of one place on, in order -/
def At (w : World) (b o : Nat) : List Value → Prop
  | [] => True
  | v :: vs => w.cell? ⟨b, o, none⟩ = some v ∧ At w b (o + 1) vs
/-- a slice of things of k cells each -/
def RdL (w : World) (k : Nat) {α : Type} (c : α → List Value) (A : Option Addr) (l : List α) : Prop :=
  ∀ i x, l[i]? = some x → ∃ b off, A = some ⟨b, off, none⟩ ∧ At w b (off + i * k) (c x)
theorem At.gr {a b : World} (g : Gr a b) {k : Nat} : ∀ {vs : List Value} {o : Nat}, At a k o vs → At b k o vs
  | [], _, _ => trivial
  | v :: vs, o, h => ⟨(g.cell _ _ (cell_lt (by rw [h.1]; rfl))).trans h.1, At.gr g h.2⟩
theorem RdL.gr {a b : World} {k : Nat} {α : Type} {c : α → List Value} {A : Option Addr} {l : List α} (h : RdL a k c A l) (g : Gr a b) : RdL b k c A l := by
  intro i x hx
  obtain ⟨k, off, e, h0⟩ := h i x hx
  exact ⟨k, off, e, h0.gr g⟩
theorem at_of {w : World} {b o : Nat} : ∀ {vs : List Value}, (∀ i v, vs[i]? = some v → w.cell? ⟨b, o + i, none⟩ = some v) → At w b o vs := by
  intro vs
  induction vs generalizing o with
  | nil => intro _; trivial
  | cons v vs ih =>
    intro h
    refine ⟨by simpa using h 0 v rfl, ih fun i x hx => ?_⟩
    have := h (i + 1) x (by simpa using hx)
    rwa [show o + 1 + i = o + (i + 1) by omega]
/-- a slice whose elements read as c says -/
theorem open_list {α : Type} {c : α → List Value} {Ok : α → Prop} {t e : TypeId} {k : Nat} {fuel : Nat} {cs : List Value} {H : Type} {enc : TypeId × Value → H} {W : World} {x : DataW H × List MemPlace}
    (ht : Try.prog.underlying t = some (.slice e)) (hk : Try.prog.cellsOf e = k) (hk0 : 0 < k)
    (he : ∀ {n : Nat} {cs : List Value} {x : DataW H × List MemPlace}, DataW.trod enc Try.prog W 0 (fun _ => true) true n e cs = some x → ∃ y : α, cs = c y ∧ Ok y) (hc : ∀ y, (c y).length = k)
    (h : DataW.trod enc Try.prog W 0 (fun _ => true) true fuel t cs = some x) :
    ∃ (A : Option Addr) (d : Nat) (l : List α), cs = [.slice A l.length d] ∧ RdL W k c A l ∧ (∀ y ∈ l, Ok y) ∧ l.length ≤ d ∧ d ≤ maxLen := by
  rcases open_slice ht h with ⟨rfl, _⟩ | ⟨a, len, cap, m, n, D, Pl, rfl, _, hl, hcap, hm, _, hall⟩
  · exact ⟨none, 0, [], rfl, fun i x hx => by simp at hx, fun y hy => by simp at hy, by simp, by simp⟩
  · simp only [if_true] at hm
    have el : ∀ i, i < len → ∃ y : α, (∀ j v, (c y)[j]? = some v → W.cell? ((a.add (i * k)).add j) = some v) ∧ Ok y := by
      intro i hi
      obtain ⟨cs, h1, h2⟩ := hall i (by omega)
      rw [hk] at h1
      obtain ⟨y, hy, hok⟩ := he h2
      obtain ⟨_, hlen, hat⟩ := World.cells?_some h1
      refine ⟨y, fun j v hj => ?_, hok⟩
      have hj2 : j < k := by rw [← hc y]; exact (List.getElem?_eq_some_iff.1 hj).1
      rw [hat j hj2, hy]
      exact hj
    by_cases h0 : 0 < len
    · obtain ⟨z, c0, _⟩ := el 0 h0
      have hz : 0 < (c z).length := by rw [hc]; exact hk0
      have hs : a.spot = none := cell_spot (w := W) (v := (c z)[0]) (by simpa [Addr.add] using c0 0 _ (List.getElem?_eq_getElem hz))
      obtain ⟨b, off, sp⟩ := a
      simp only at hs
      subst hs
      obtain ⟨l, hll, hq⟩ := pick el
      subst hll
      refine ⟨some ⟨b, off, none⟩, cap, l, rfl, fun i p hp => ⟨b, off, rfl, at_of fun j v hj => ?_⟩, fun y hy => ?_, hl, hcap⟩
      · have := (hq i p hp).1 j v hj
        simpa only [addr_add] using this
      · obtain ⟨i, hi⟩ := List.mem_iff_getElem?.1 hy
        exact (hq i y hi).2
    · have : len = 0 := by omega
      subst this
      exact ⟨some a, cap, [], rfl, fun i p hp => by simp at hp, fun y hy => by simp at hy, by simp, hcap⟩
abbrev flL (f : Fl) : List Value := [.string f.nm, iv f.pa, iv f.sd, iv f.o, iv f.wd, iv f.ln, iv f.an]
abbrev flv (f : Fl) : Value := .agg #[.string f.nm, iv f.pa, iv f.sd, iv f.o, iv f.wd, iv f.ln, iv f.an]
abbrev hoL (f : Ho) : List Value := [iv f.fa, iv f.kd, iv f.x, iv f.y, iv f.w, iv f.h]
abbrev hov (f : Ho) : Value := .agg #[iv f.fa, iv f.kd, iv f.x, iv f.y, iv f.w, iv f.h]
theorem RdL.fl {w : World} {A : Option Addr} {l : List Fl} (h : RdL w 7 flL A l) {i : Nat} {f : Fl} (hi : l[i]? = some f) : ∃ b off, A = some ⟨b, off, none⟩ ∧ w.cell? ⟨b, off + i * 7, none⟩ = some (.string f.nm) ∧ w.cell? ⟨b, off + i * 7 + 1, none⟩ = some (iv f.pa) ∧
    w.cell? ⟨b, off + i * 7 + 2, none⟩ = some (iv f.sd) ∧ w.cell? ⟨b, off + i * 7 + 3, none⟩ = some (iv f.o) ∧ w.cell? ⟨b, off + i * 7 + 4, none⟩ = some (iv f.wd) ∧ w.cell? ⟨b, off + i * 7 + 5, none⟩ = some (iv f.ln) ∧ w.cell? ⟨b, off + i * 7 + 6, none⟩ = some (iv f.an) := by
  obtain ⟨b, off, e, h0, h1, h2, h3, h4, h5, h6, _⟩ := h i f hi
  exact ⟨b, off, e, h0, h1, h2, h3, h4, h5, h6⟩
theorem RdL.ho {w : World} {A : Option Addr} {l : List Ho} (h : RdL w 6 hoL A l) {i : Nat} {f : Ho} (hi : l[i]? = some f) : ∃ b off, A = some ⟨b, off, none⟩ ∧ w.cell? ⟨b, off + i * 6, none⟩ = some (iv f.fa) ∧ w.cell? ⟨b, off + i * 6 + 1, none⟩ = some (iv f.kd) ∧
    w.cell? ⟨b, off + i * 6 + 2, none⟩ = some (iv f.x) ∧ w.cell? ⟨b, off + i * 6 + 3, none⟩ = some (iv f.y) ∧ w.cell? ⟨b, off + i * 6 + 4, none⟩ = some (iv f.w) ∧ w.cell? ⟨b, off + i * 6 + 5, none⟩ = some (iv f.h) := by
  obtain ⟨b, off, e, h0, h1, h2, h3, h4, h5, _⟩ := h i f hi
  exact ⟨b, off, e, h0, h1, h2, h3, h4, h5⟩
abbrev RdF (w : World) (A : Option Addr) (l : List Fl) : Prop := RdL w 7 flL A l
abbrev RdH (w : World) (A : Option Addr) (l : List Ho) : Prop := RdL w 6 hoL A l
abbrev pav (p : Pa) (A : Option Addr) (c : Nat) (B : Option Addr) (d : Nat) : Value := .agg #[.string p.nm, .string p.mt, iv p.ga, iv p.gr, iv p.wd, iv p.ht, .slice A p.fl.length c, .slice B p.ho.length d]
def FlI (f : Fl) : Prop := f.nm.size ≤ maxLen ∧ I64 f.pa ∧ I64 f.sd ∧ I64 f.o ∧ I64 f.wd ∧ I64 f.ln ∧ I64 f.an
def HoI (f : Ho) : Prop := I64 f.fa ∧ I64 f.kd ∧ I64 f.x ∧ I64 f.y ∧ I64 f.w ∧ I64 f.h
theorem cellsStr : Try.prog.cellsOf 9 = 1 := by kernel_rfl
theorem cellsFlange : Try.prog.cellsOf 27 = 7 := by kernel_rfl
theorem cellsHole : Try.prog.cellsOf 29 = 6 := by kernel_rfl
theorem cellsSlF : Try.prog.cellsOf 22 = 1 := by kernel_rfl
theorem cellsSlH : Try.prog.cellsOf 23 = 1 := by kernel_rfl
theorem cellsPart : Try.prog.cellsOf 25 = 8 := by kernel_rfl
theorem one_i64 {cs : List Value} (h : ∃ zs : List Int, zs.length = 1 ∧ cs = zs.map iv ∧ ∀ z ∈ zs, I64 z) : ∃ z : Int, cs = [iv z] ∧ I64 z := by
  obtain ⟨zs, hl, e, hb⟩ := h
  match zs, hl with
  | [z], _ => exact ⟨z, by simpa using e, hb z (by simp)⟩
section
variable {H : Type} {enc : TypeId × Value → H} {W : World}
set_option maxRecDepth 100000 in
theorem open_flange {n : Nat} {cs : List Value} {x : DataW H × List MemPlace} (h : DataW.trod enc Try.prog W 0 (fun _ => true) true n 27 cs = some x) : ∃ f : Fl, cs = flL f ∧ FlI f := by
  obtain ⟨xs, m, _, _, hl, hxl, hg⟩ := DataW.trod_struct Try.underlying27 h
  rw [cellsFlange] at hl
  have hxl : xs.length = 7 := hxl
  have el : ∀ i : Nat, i < 7 → xs[i]? = some (xs[i]?.getD (.nil, [])) := fun i hi => by rw [List.getElem?_eq_getElem (by omega)]; rfl
  have f0 := field_use hg 0 9 0 rfl
  have f1 := field_use hg 1 3 1 rfl
  have f2 := field_use hg 2 3 2 rfl
  have f3 := field_use hg 3 3 3 rfl
  have f4 := field_use hg 4 3 4 rfl
  have f5 := field_use hg 5 3 5 rfl
  have f6 := field_use hg 6 3 6 rfl
  rw [cellsStr, el 0 (by omega)] at f0
  rw [cellsInt, el 1 (by omega)] at f1
  rw [cellsInt, el 2 (by omega)] at f2
  rw [cellsInt, el 3 (by omega)] at f3
  rw [cellsInt, el 4 (by omega)] at f4
  rw [cellsInt, el 5 (by omega)] at f5
  rw [cellsInt, el 6 (by omega)] at f6
  match cs, hl with
  | [c0, c1, c2, c3, c4, c5, c6], _ =>
    obtain ⟨s, e0, _, hs⟩ := DataW.trod_string Try.underlying9 f0
    obtain ⟨z1, e1, b1⟩ := one_i64 (intsInt enc W 0 _ _ m _ _ f1)
    obtain ⟨z2, e2, b2⟩ := one_i64 (intsInt enc W 0 _ _ m _ _ f2)
    obtain ⟨z3, e3, b3⟩ := one_i64 (intsInt enc W 0 _ _ m _ _ f3)
    obtain ⟨z4, e4, b4⟩ := one_i64 (intsInt enc W 0 _ _ m _ _ f4)
    obtain ⟨z5, e5, b5⟩ := one_i64 (intsInt enc W 0 _ _ m _ _ f5)
    obtain ⟨z6, e6, b6⟩ := one_i64 (intsInt enc W 0 _ _ m _ _ f6)
    simp at e0 e1 e2 e3 e4 e5 e6
    subst e0 e1 e2 e3 e4 e5 e6
    exact ⟨⟨s, z1, z2, z3, z4, z5, z6⟩, rfl, hs, b1, b2, b3, b4, b5, b6⟩
theorem intsHole : IntsAt Try.prog 29 6 :=
  intsAt_struct (m := 6) (k := 1) Try.underlying29 intsInt cellsInt rfl cellsHole (fun i hi => by
    match i, hi with
    | 0, _ => exact ⟨_, rfl, rfl, rfl⟩
    | 1, _ => exact ⟨_, rfl, rfl, rfl⟩
    | 2, _ => exact ⟨_, rfl, rfl, rfl⟩
    | 3, _ => exact ⟨_, rfl, rfl, rfl⟩
    | 4, _ => exact ⟨_, rfl, rfl, rfl⟩
    | 5, _ => exact ⟨_, rfl, rfl, rfl⟩)
theorem open_hole {n : Nat} {cs : List Value} {x : DataW H × List MemPlace} (h : DataW.trod enc Try.prog W 0 (fun _ => true) true n 29 cs = some x) : ∃ f : Ho, cs = hoL f ∧ HoI f := by
  obtain ⟨zs, hl, e, hb⟩ := intsHole enc W 0 _ _ n _ _ h
  match zs, hl with
  | [a, b, c, d, e', f], _ => exact ⟨⟨a, b, c, d, e', f⟩, e, hb a (by simp), hb b (by simp), hb c (by simp), hb d (by simp), hb e' (by simp), hb f (by simp)⟩
/-- what an argument's numbers keep -/
structure PaI (p : Pa) : Prop where
  nm : p.nm.size ≤ maxLen
  mt : p.mt.size ≤ maxLen
  ga : I64 p.ga
  gr : I64 p.gr
  wd : I64 p.wd
  ht : I64 p.ht
  fl : ∀ f ∈ p.fl, FlI f
  ho : ∀ f ∈ p.ho, HoI f
set_option maxRecDepth 100000 in
theorem open_part {base : Nat} {v : Value} {d : DataW H} {ps : List MemPlace} (hv : Value.okWide Try.prog W .any base 25 v) (hd : DataW.Trod enc Try.prog W 0 (fun _ => true) true 25 v d ps) :
    ∃ (p : Pa) (A : Option Addr) (c : Nat) (B : Option Addr) (e : Nat), v = pav p A c B e ∧ RdF W A p.fl ∧ RdH W B p.ho ∧ PaI p ∧ (p.fl.length ≤ c ∧ c ≤ maxLen) ∧ p.ho.length ≤ e ∧ e ≤ maxLen := by
  obtain ⟨cs, rfl, _⟩ := okWide_struct Try.underlying25 hv
  obtain ⟨fuel, h⟩ := hd
  simp only [Value.cells] at h
  obtain ⟨xs, m, _, _, hl, hxl, hg⟩ := DataW.trod_struct Try.underlying25 h
  rw [cellsPart] at hl
  have hxl : xs.length = 8 := hxl
  have el : ∀ i : Nat, i < 8 → xs[i]? = some (xs[i]?.getD (.nil, [])) := fun i hi => by rw [List.getElem?_eq_getElem (by omega)]; rfl
  have f0 := field_use hg 0 9 0 rfl
  have f1 := field_use hg 1 9 1 rfl
  have f2 := field_use hg 2 3 2 rfl
  have f3 := field_use hg 3 3 3 rfl
  have f4 := field_use hg 4 3 4 rfl
  have f5 := field_use hg 5 3 5 rfl
  have f6 := field_use hg 6 22 6 rfl
  have f7 := field_use hg 7 23 7 rfl
  rw [cellsStr, el 0 (by omega)] at f0
  rw [cellsStr, el 1 (by omega)] at f1
  rw [cellsInt, el 2 (by omega)] at f2
  rw [cellsInt, el 3 (by omega)] at f3
  rw [cellsInt, el 4 (by omega)] at f4
  rw [cellsInt, el 5 (by omega)] at f5
  rw [cellsSlF, el 6 (by omega)] at f6
  rw [cellsSlH, el 7 (by omega)] at f7
  obtain ⟨cl⟩ := cs
  simp only at hl f0 f1 f2 f3 f4 f5 f6 f7
  match cl, hl with
  | [c0, c1, c2, c3, c4, c5, c6, c7], _ =>
    obtain ⟨s, e0, _, hs⟩ := DataW.trod_string Try.underlying9 f0
    obtain ⟨t, e1, _, ht⟩ := DataW.trod_string Try.underlying9 f1
    obtain ⟨z2, e2, b2⟩ := one_i64 (intsInt enc W 0 _ _ m _ _ f2)
    obtain ⟨z3, e3, b3⟩ := one_i64 (intsInt enc W 0 _ _ m _ _ f3)
    obtain ⟨z4, e4, b4⟩ := one_i64 (intsInt enc W 0 _ _ m _ _ f4)
    obtain ⟨z5, e5, b5⟩ := one_i64 (intsInt enc W 0 _ _ m _ _ f5)
    obtain ⟨A, c, lf, e6, rf, of, nf⟩ := open_list (c := flL) (Ok := FlI) Try.underlying22 cellsFlange (by omega) (fun h => open_flange h) (fun _ => rfl) f6
    obtain ⟨B, d, lh, e7, rh, oh, nh⟩ := open_list (c := hoL) (Ok := HoI) Try.underlying23 cellsHole (by omega) (fun h => open_hole h) (fun _ => rfl) f7
    simp at e0 e1 e2 e3 e4 e5 e6 e7
    subst e0 e1 e2 e3 e4 e5 e6 e7
    exact ⟨⟨s, t, z2, z3, z4, z5, lf, lh⟩, A, c, B, d, rfl, rf, rh, ⟨hs, ht, b2, b3, b4, b5, of, oh⟩, nf, nh⟩
end
end Go.Proofs.Ytefjgfglommefaa
