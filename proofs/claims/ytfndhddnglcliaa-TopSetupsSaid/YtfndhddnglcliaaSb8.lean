/-
  Setups: arguments opened.
-/
import Derived.Test.YtfndhddnglcliaaSb7
set_option linter.unusedVariables false
set_option linter.unusedSimpArgs false
namespace Go.Proofs.Ytfndhddnglcliaa
set_option linter.unusedVariables false
set_option linter.unusedSimpArgs false
open Go Go.ChangeShapes Go.WideShapes Go.ChangeAt Go.RowKit Go.Deep

/-- a change -/
structure Chg where
  st : Int
  sn : Int
  pr : Int
/-- a window -/
structure Wd where
  fm : Int
  tl : Int
abbrev chL (x : Chg) : List Value := [iv x.st, iv x.sn, iv x.pr]
abbrev chv (x : Chg) : Value := .agg #[iv x.st, iv x.sn, iv x.pr]
abbrev wdL (x : Wd) : List Value := [iv x.fm, iv x.tl]
abbrev wdv (x : Wd) : Value := .agg #[iv x.fm, iv x.tl]
theorem cellsChange : Try.prog.cellsOf 54 = 3 := by kernel_rfl
theorem cellsWindow : Try.prog.cellsOf 59 = 2 := by kernel_rfl
theorem cellsRig : Try.prog.cellsOf 24 = 2 := by kernel_rfl
theorem intsChange : IntsAt Try.prog 54 3 :=
  intsAt_struct (m := 3) (k := 1) Try.underlying54 intsInt cellsInt rfl cellsChange (fun i hi => by
    match i, hi with
    | 0, _ => exact ⟨_, rfl, rfl, rfl⟩
    | 1, _ => exact ⟨_, rfl, rfl, rfl⟩
    | 2, _ => exact ⟨_, rfl, rfl, rfl⟩)
theorem intsWindow : IntsAt Try.prog 59 2 :=
  intsAt_struct (m := 2) (k := 1) Try.underlying59 intsInt cellsInt rfl cellsWindow (fun i hi => by
    match i, hi with
    | 0, _ => exact ⟨_, rfl, rfl, rfl⟩
    | 1, _ => exact ⟨_, rfl, rfl, rfl⟩)
def ChI (f : Chg) : Prop := I64 f.st ∧ I64 f.sn ∧ I64 f.pr
def WdI (f : Wd) : Prop := I64 f.fm ∧ I64 f.tl
structure SlC (w : World) (A : Option Addr) (c : Nat) (l : List Chg) : Prop where
  rd : RdL w 3 chL A l
  cap : l.length ≤ c
  capB : c ≤ 9223372036854775807
theorem SlC.gr {w w' : World} {A : Option Addr} {c : Nat} {l : List Chg} (h : SlC w A c l) (g : Gr w w') : SlC w' A c l := ⟨h.rd.gr g, h.cap, h.capB⟩
theorem SlC.at_ {w : World} {A : Option Addr} {c : Nat} {l : List Chg} (h : SlC w A c l) {i : Nat} {z : Chg} (hi : l[i]? = some z) : ∃ b off, A = some ⟨b, off, none⟩ ∧ w.cell? ⟨b, off + i * 3, none⟩ = some (iv z.st) ∧ w.cell? ⟨b, off + i * 3 + 1, none⟩ = some (iv z.sn) ∧ w.cell? ⟨b, off + i * 3 + 2, none⟩ = some (iv z.pr) := by
  obtain ⟨b, off, e, h0, h1, h2, _⟩ := h.rd i z hi
  exact ⟨b, off, e, h0, h1, h2⟩
structure SlW (w : World) (A : Option Addr) (c : Nat) (l : List Wd) : Prop where
  rd : RdL w 2 wdL A l
  cap : l.length ≤ c
  capB : c ≤ 9223372036854775807
theorem SlW.gr {w w' : World} {A : Option Addr} {c : Nat} {l : List Wd} (h : SlW w A c l) (g : Gr w w') : SlW w' A c l := ⟨h.rd.gr g, h.cap, h.capB⟩
theorem SlW.at_ {w : World} {A : Option Addr} {c : Nat} {l : List Wd} (h : SlW w A c l) {i : Nat} {z : Wd} (hi : l[i]? = some z) : ∃ b off, A = some ⟨b, off, none⟩ ∧ w.cell? ⟨b, off + i * 2, none⟩ = some (iv z.fm) ∧ w.cell? ⟨b, off + i * 2 + 1, none⟩ = some (iv z.tl) := by
  obtain ⟨b, off, e, h0, h1, _⟩ := h.rd i z hi
  exact ⟨b, off, e, h0, h1⟩
section
variable {H : Type} {enc : TypeId × Value → H} {W : World}
set_option maxRecDepth 100000 in
theorem open_arg_list {α : Type} {c : α → List Value} {Ok : α → Prop} {t e : TypeId} {k base : Nat} {v : Value} {d : DataW H} {ps : List MemPlace}
    (ht : Try.prog.underlying t = some (.slice e)) (hk : Try.prog.cellsOf e = k) (hk0 : 0 < k)
    (he : ∀ {n : Nat} {cs : List Value} {x : DataW H × List MemPlace}, DataW.trod enc Try.prog W 0 (fun _ => true) true n e cs = some x → ∃ y : α, cs = c y ∧ Ok y) (hc : ∀ y, (c y).length = k)
    (hv : Value.okWide Try.prog W .any base t v) (hd : DataW.Trod enc Try.prog W 0 (fun _ => true) true t v d ps) :
    ∃ (A : Option Addr) (d : Nat) (l : List α), v = .slice A l.length d ∧ RdL W k c A l ∧ (∀ y ∈ l, Ok y) ∧ l.length ≤ d ∧ d ≤ 9223372036854775807 := by
  obtain ⟨A, len, cap, rfl⟩ := okWide_slice ht hv
  obtain ⟨fuel, h⟩ := hd
  obtain ⟨A', d', l, e1, r, o, n1, n2⟩ := open_list (c := c) (Ok := Ok) ht hk hk0 he hc h
  have e2 : Value.slice A len cap = .slice A' l.length d' := by simpa [Value.cells] using e1
  exact ⟨A', d', l, e2, r, o, n1, by unfold maxLen at n2; omega⟩
set_option maxRecDepth 100000 in
theorem open_change {n : Nat} {cs : List Value} {x : DataW H × List MemPlace} (h : DataW.trod enc Try.prog W 0 (fun _ => true) true n 54 cs = some x) : ∃ f : Chg, cs = chL f ∧ ChI f := by
  obtain ⟨zs, hl, e, hb⟩ := intsChange enc W 0 _ _ n _ _ h
  match zs, hl with
  | [a, b, c], _ => exact ⟨⟨a, b, c⟩, e, hb a (by simp), hb b (by simp), hb c (by simp)⟩
set_option maxRecDepth 100000 in
theorem open_window {n : Nat} {cs : List Value} {x : DataW H × List MemPlace} (h : DataW.trod enc Try.prog W 0 (fun _ => true) true n 59 cs = some x) : ∃ f : Wd, cs = wdL f ∧ WdI f := by
  obtain ⟨zs, hl, e, hb⟩ := intsWindow enc W 0 _ _ n _ _ h
  match zs, hl with
  | [a, b], _ => exact ⟨⟨a, b⟩, e, hb a (by simp), hb b (by simp)⟩
set_option maxRecDepth 100000 in
theorem open_needs {base : Nat} {v : Value} {d : DataW H} {ps : List MemPlace} (hv : Value.okWide Try.prog W .any base 22 v) (hd : DataW.Trod enc Try.prog W 0 (fun _ => true) true 22 v d ps) :
    ∃ (A : Option Addr) (c : Nat) (ns : List Nd), v = .slice A ns.length c ∧ SlN W A c ns ∧ ∀ x ∈ ns, ∀ z ∈ x.l, I64 z := by
  obtain ⟨A, c, l, e, r, o, n1, n2⟩ := open_arg_list (c := ndL) (Ok := NdI W) Try.underlying22 cellsSlI (by omega) (fun h => open_ints1 h) (fun _ => rfl) hv hd
  exact ⟨A, c, l, e, ⟨r, fun x hx => (o x hx).1, n1, n2⟩, fun x hx => (o x hx).2⟩
set_option maxRecDepth 100000 in
theorem open_ints {base : Nat} {v : Value} {d : DataW H} {ps : List MemPlace} (hv : Value.okWide Try.prog W .any base 30 v) (hd : DataW.Trod enc Try.prog W 0 (fun _ => true) true 30 v d ps) :
    ∃ (A : Option Addr) (c : Nat) (l : List Int), v = .slice A l.length c ∧ SlI W A c l ∧ ∀ z ∈ l, I64 z := by
  obtain ⟨A, c, l, e, r, o, n1, n2⟩ := open_arg_list (c := inL) (Ok := I64) Try.underlying30 cellsInt (by omega) (fun h => one_i64 (intsInt enc W 0 _ _ _ _ _ h)) (fun _ => rfl) hv hd
  exact ⟨A, c, l, e, ⟨r, n1, n2⟩, o⟩
set_option maxRecDepth 100000 in
theorem open_changes {base : Nat} {v : Value} {d : DataW H} {ps : List MemPlace} (hv : Value.okWide Try.prog W .any base 25 v) (hd : DataW.Trod enc Try.prog W 0 (fun _ => true) true 25 v d ps) :
    ∃ (A : Option Addr) (c : Nat) (l : List Chg), v = .slice A l.length c ∧ SlC W A c l ∧ ∀ z ∈ l, ChI z := by
  obtain ⟨A, c, l, e, r, o, n1, n2⟩ := open_arg_list (c := chL) (Ok := ChI) Try.underlying25 cellsChange (by omega) (fun h => open_change h) (fun _ => rfl) hv hd
  exact ⟨A, c, l, e, ⟨r, n1, n2⟩, o⟩
set_option maxRecDepth 100000 in
theorem open_windows {base : Nat} {v : Value} {d : DataW H} {ps : List MemPlace} (hv : Value.okWide Try.prog W .any base 26 v) (hd : DataW.Trod enc Try.prog W 0 (fun _ => true) true 26 v d ps) :
    ∃ (A : Option Addr) (c : Nat) (l : List Wd), v = .slice A l.length c ∧ SlW W A c l ∧ ∀ z ∈ l, WdI z := by
  obtain ⟨A, c, l, e, r, o, n1, n2⟩ := open_arg_list (c := wdL) (Ok := WdI) Try.underlying26 cellsWindow (by omega) (fun h => open_window h) (fun _ => rfl) hv hd
  exact ⟨A, c, l, e, ⟨r, n1, n2⟩, o⟩
set_option maxRecDepth 100000 in
theorem open_wd {base : Nat} {v : Value} {d : DataW H} {ps : List MemPlace} (hv : Value.okWide Try.prog W .any base 59 v) (hd : DataW.Trod enc Try.prog W 0 (fun _ => true) true 59 v d ps) : ∃ f : Wd, v = wdv f ∧ WdI f := by
  obtain ⟨zs, hl, e, hb⟩ := open_ints_struct Try.underlying59 intsWindow hv hd
  match zs, hl with
  | [a, b], _ => exact ⟨⟨a, b⟩, e, hb a (by simp), hb b (by simp)⟩
abbrev rgv (A : Option Addr) (n c : Nat) (s : Int) : Value := .agg #[.slice A n c, iv s]
set_option maxRecDepth 100000 in
theorem open_rig {base : Nat} {v : Value} {d : DataW H} {ps : List MemPlace} (hv : Value.okWide Try.prog W .any base 24 v) (hd : DataW.Trod enc Try.prog W 0 (fun _ => true) true 24 v d ps) :
    ∃ (A : Option Addr) (c : Nat) (ns : List Nd) (s : Int), v = rgv A ns.length c s ∧ SlN W A c ns ∧ (∀ x ∈ ns, ∀ z ∈ x.l, I64 z) ∧ I64 s := by
  obtain ⟨cs, rfl, _⟩ := okWide_struct Try.underlying24 hv
  obtain ⟨fuel, h⟩ := hd
  simp only [Value.cells] at h
  obtain ⟨xs, m, _, _, hl, hxl, hg⟩ := DataW.trod_struct Try.underlying24 h
  rw [cellsRig] at hl
  have hxl : xs.length = 2 := hxl
  have el : ∀ i : Nat, i < 2 → xs[i]? = some (xs[i]?.getD (.nil, [])) := fun i hi => by rw [List.getElem?_eq_getElem (by omega)]; rfl
  have f0 := field_use hg 0 22 0 rfl
  have f1 := field_use hg 1 3 1 rfl
  rw [cellsSlN, el 0 (by omega)] at f0
  rw [cellsInt, el 1 (by omega)] at f1
  obtain ⟨cl⟩ := cs
  simp only at hl f0 f1
  match cl, hl with
  | [c0, c1], _ =>
    obtain ⟨A, c, ns, e0, hs, ho⟩ := open_needs1 f0
    obtain ⟨z1, e1, b1⟩ := one_i64 (intsInt enc W 0 _ _ m _ _ f1)
    simp at e0 e1
    subst e0 e1
    exact ⟨A, c, ns, z1, rfl, hs, ho, b1⟩
end
end Go.Proofs.Ytfndhddnglcliaa
