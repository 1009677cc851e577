/-
  What the listed variable (the table of cosines) gives the walks; a start at which it lies; the last step of each law's card.
-/
import Derived.Test.YtfbhpeedjphpaaaDoorGeo6
import Derived.Test.YtfbhpeedjphpaaaDoorRows
import Derived.Test.YtfbhpeedjphpaaaDoorTie
import Derived.Test.YtfbhpeedjphpaaaDoorCards
namespace Go.Proofs.YtfbhpeedjphpaaaDoor
set_option linter.unusedVariables false
set_option linter.unusedSimpArgs false
open Go Go.ChangeShapes Go.WideShapes Go.ChangeAt Go.RowKit Go.Deep

theorem own : ownKnob Tryd.prog.godebug = none := by kernel_rfl
theorem laidOut : laidOutB Tryd.prog = true := by kernel_rfl
theorem gCos : Tryd.prog.globalNamed "sheetmetal/geom.cosines" = some 0 := by kernel_rfl
theorem tCos : (Tryd.prog.globals[0]?).map (·.type) = some 84 := by kernel_rfl
abbrev laidList : List (String × DataW Unit) := [("sheetmetal/geom.cosines", Rows.laid_sheetmetal_geom_cosines)]
theorem cellsRoot : Tryd.prog.cellsOf 38 = 2 := by kernel_rfl
theorem cellsInt : Tryd.prog.cellsOf 3 = 1 := by kernel_rfl
theorem cellsPoint : Tryd.prog.cellsOf 40 = 4 := by kernel_rfl
theorem cellsSpot : Tryd.prog.cellsOf 44 = 2 := by kernel_rfl
theorem cellsRect : Tryd.prog.cellsOf 59 = 4 := by kernel_rfl
theorem intsInt : IntsAt Tryd.prog 3 1 := intsAt_int Tryd.underlying3
theorem fieldAt {fs : Array Field} {i : Nat} {t : TypeId} {o : Nat} (h : (fs[i]?).map (fun f => (f.type, f.offset)) = some (t, o)) : ∃ f, fs[i]? = some f ∧ f.type = t ∧ f.offset = o := by
  cases e : fs[i]? with
  | none => rw [e] at h; cases h
  | some f =>
    rw [e] at h
    simp only [Option.map_some, Option.some.injEq, Prod.mk.injEq] at h
    exact ⟨f, rfl, h.1, h.2⟩
theorem intsRoot : IntsAt Tryd.prog 38 2 :=
  intsAt_struct (m := 2) (k := 1) Tryd.underlying38 intsInt cellsInt rfl cellsRoot (fun i hi => by
    match i, hi with
    | 0, _ => exact ⟨_, rfl, rfl, rfl⟩
    | 1, _ => exact ⟨_, rfl, rfl, rfl⟩)
theorem intsSpot : IntsAt Tryd.prog 44 2 :=
  intsAt_struct (m := 2) (k := 1) Tryd.underlying44 intsInt cellsInt rfl cellsSpot (fun i hi => by
    match i, hi with
    | 0, _ => exact ⟨_, rfl, rfl, rfl⟩
    | 1, _ => exact ⟨_, rfl, rfl, rfl⟩)
theorem intsPoint : IntsAt Tryd.prog 40 4 :=
  intsAt_struct (m := 2) (k := 2) Tryd.underlying40 intsRoot cellsRoot rfl cellsPoint (fun i hi => by
    match i, hi with
    | 0, _ => exact ⟨_, rfl, rfl, rfl⟩
    | 1, _ => exact ⟨_, rfl, rfl, rfl⟩)
theorem intsRect : IntsAt Tryd.prog 59 4 :=
  intsAt_struct (m := 4) (k := 1) Tryd.underlying59 intsInt cellsInt rfl cellsRect (fun i hi => by
    match i, hi with
    | 0, _ => exact ⟨_, rfl, rfl, rfl⟩
    | 1, _ => exact ⟨_, rfl, rfl, rfl⟩
    | 2, _ => exact ⟨_, rfl, rfl, rfl⟩
    | 3, _ => exact ⟨_, rfl, rfl, rfl⟩)

theorem fieldRootA : ∃ f, (#[{ name := "A", type := 3, offset := 0, embedded := false, tag := "", pkgPath := "", byteOffset := 0 }, { name := "B", type := 3, offset := 1, embedded := false, tag := "", pkgPath := "", byteOffset := 8 }] : Array Field)[0]? = some f ∧ f.type = 3 ∧ f.offset = 0 := ⟨_, rfl, rfl, rfl⟩
theorem fieldRootB : ∃ f, (#[{ name := "A", type := 3, offset := 0, embedded := false, tag := "", pkgPath := "", byteOffset := 0 }, { name := "B", type := 3, offset := 1, embedded := false, tag := "", pkgPath := "", byteOffset := 8 }] : Array Field)[1]? = some f ∧ f.type = 3 ∧ f.offset = 1 := ⟨_, rfl, rfl, rfl⟩
theorem door_met (os : Os) (args : Array Value) : laidMetH Tryd.prog laidList ((World.doorLaid Tryd.prog 26 os).forCall (fun _ _ => 0) ⟨#[], args, []⟩).memory :=
  laidMetH_of_parts3 (fuel := 8) (laidMet_of_run' 8 (by kernel_rfl) (by kernel_rfl)) (by kernel_rfl) (by kernel_rfl)

theorem tab_of_laid {W : World} (h : laidMetH Tryd.prog laidList W) : Tab W := by
  rw [MakeChecks.laidMetH_plain _ _ _ (by kernel_rfl)] at h
  obtain ⟨ps, ⟨g0, t0, cs0, f0, p0, q0, hg0, ht0, hv0, hd0, _, _⟩, _, _⟩ := h
  obtain rfl := Option.some.inj (gCos.symm.trans hg0)
  obtain rfl := Option.some.inj (tCos.symm.trans ht0)
  obtain ⟨xs, m1, rfl, hx1, hlen, hn, hel⟩ := DataW.trod_array Tryd.underlying84 hd0
  simp only [Prod.mk.injEq] at hx1
  have key : ∀ k, k < 12 → ∀ a b : Int, (xs.map (·.1))[k]? = some (.agg [.lit (.int .i64 a), .lit (.int .i64 b)]) → W.cell? ⟨0, k * 2, none⟩ = some (iv a) ∧ W.cell? ⟨0, k * 2 + 1, none⟩ = some (iv b) := by
    intro k hk a b hab
    have h0 := hel k hk
    rw [cellsRoot] at h0
    have hxk : xs[k]? = some (xs[k]'(by omega)) := List.getElem?_eq_getElem (by omega)
    rw [hxk] at h0
    obtain ⟨ys, n, rfl, hy, hyl, hys, hf⟩ := DataW.trod_struct Tryd.underlying38 h0
    obtain ⟨fA, a1, a2, a3⟩ := fieldRootA
    obtain ⟨fB, b1, b2, b3⟩ := fieldRootB
    have e0 := hf 0 fA a1
    have e1 := hf 1 fB b1
    rw [a2, a3, cellsInt] at e0
    rw [b2, b3, cellsInt] at e1
    match ys, hys with
    | [y0, y1], _ =>
      obtain ⟨n0, c0, d0, _⟩ := DataW.trod_int Tryd.underlying3 e0
      obtain ⟨n1, c1, d1, _⟩ := DataW.trod_int Tryd.underlying3 e1
      rw [List.getElem?_map, hxk] at hab
      simp only [Option.map_some, Option.some.injEq] at hab
      rw [hy] at hab
      simp only [d0, d1, List.map_cons, List.map_nil, DataW.agg.injEq, List.cons.injEq, DataW.lit.injEq, Lit.int.injEq, and_true, true_and] at hab
      obtain ⟨rfl, rfl⟩ := hab
      have hc : ∀ j, W.cell? ⟨0, j, none⟩ = cs0[j]? := fun j => by simpa using World.var?_cell hg0 hv0 j
      have q0 : cs0[k * 2]? = some (iv n0) := by
        have := congrArg (fun l : List Value => l[0]?) c0
        simpa using this
      have q1 : cs0[k * 2 + 1]? = some (iv n1) := by
        have := congrArg (fun l : List Value => l[0]?) c1
        simpa using this
      exact ⟨(hc _).trans q0, (hc _).trans q1⟩
  intro k hk
  have hd : (xs.map (·.1)) = _ := (DataW.agg.inj (show DataW.agg _ = DataW.agg _ from hx1.1.symm))
  refine key k hk _ _ ?_
  rw [hd]
  match k, hk with
  | 0, _ => rfl
  | 1, _ => rfl
  | 2, _ => rfl
  | 3, _ => rfl
  | 4, _ => rfl
  | 5, _ => rfl
  | 6, _ => rfl
  | 7, _ => rfl
  | 8, _ => rfl
  | 9, _ => rfl
  | 10, _ => rfl
  | 11, _ => rfl
set_option maxRecDepth 100000
theorem open_root {base : Nat} {W : World} {H : Type} {enc : TypeId × Value → H} {v : Value} {d : DataW H} {ps : List MemPlace} (hv : Value.okWide Tryd.prog W .any base 38 v) (hd : DataW.Trod enc Tryd.prog W 0 (fun _ => true) true 38 v d ps) :
    ∃ a b : Int, v = rt a b ∧ I64 a ∧ I64 b := by
  obtain ⟨zs, hl, hv', hb⟩ := open_ints_struct Tryd.underlying38 intsRoot hv hd
  match zs, hl with
  | [a, b], _ => exact ⟨a, b, hv', hb a (by simp), hb b (by simp)⟩
theorem open_spot {base : Nat} {W : World} {H : Type} {enc : TypeId × Value → H} {v : Value} {d : DataW H} {ps : List MemPlace} (hv : Value.okWide Tryd.prog W .any base 44 v) (hd : DataW.Trod enc Tryd.prog W 0 (fun _ => true) true 44 v d ps) :
    ∃ a b : Int, v = sp a b ∧ I64 a ∧ I64 b := by
  obtain ⟨zs, hl, hv', hb⟩ := open_ints_struct Tryd.underlying44 intsSpot hv hd
  match zs, hl with
  | [a, b], _ => exact ⟨a, b, hv', hb a (by simp), hb b (by simp)⟩
theorem open_point {base : Nat} {W : World} {H : Type} {enc : TypeId × Value → H} {v : Value} {d : DataW H} {ps : List MemPlace} (hv : Value.okWide Tryd.prog W .any base 40 v) (hd : DataW.Trod enc Tryd.prog W 0 (fun _ => true) true 40 v d ps) :
    ∃ a b c e : Int, v = pt a b c e ∧ I64 a ∧ I64 b ∧ I64 c ∧ I64 e := by
  obtain ⟨zs, hl, hv', hb⟩ := open_ints_struct Tryd.underlying40 intsPoint hv hd
  match zs, hl with
  | [a, b, c, e], _ => exact ⟨a, b, c, e, hv', hb a (by simp), hb b (by simp), hb c (by simp), hb e (by simp)⟩
abbrev rc (x y w h : Int) : Value := .agg #[iv x, iv y, iv w, iv h]
theorem open_rect {base : Nat} {W : World} {H : Type} {enc : TypeId × Value → H} {v : Value} {d : DataW H} {ps : List MemPlace} (hv : Value.okWide Tryd.prog W .any base 59 v) (hd : DataW.Trod enc Tryd.prog W 0 (fun _ => true) true 59 v d ps) :
    ∃ a b c e : Int, v = rc a b c e ∧ I64 a ∧ I64 b ∧ I64 c ∧ I64 e := by
  obtain ⟨zs, hl, hv', hb⟩ := open_ints_struct Tryd.underlying59 intsRect hv hd
  match zs, hl with
  | [a, b, c, e], _ => exact ⟨a, b, c, e, hv', hb a (by simp), hb b (by simp), hb c (by simp), hb e (by simp)⟩
end Go.Proofs.YtfbhpeedjphpaaaDoor
