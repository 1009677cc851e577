/-
  Flat patterns: the argument opened.
-/
import Derived.Test.YtjnfodbniohkhaaSf5
set_option linter.unusedVariables false
set_option linter.unusedSimpArgs false
namespace Go.Proofs.Ytjnfodbniohkhaa
set_option linter.unusedVariables false
set_option linter.unusedSimpArgs false
open Go Go.ChangeShapes Go.WideShapes Go.ChangeAt Go.RowKit Go.Deep

namespace RG
theorem cellsInt1 : Try.prog.cellsOf 3 = 1 := by kernel_rfl
theorem cellsRect : Try.prog.cellsOf 55 = 4 := by kernel_rfl
theorem cellsSeg : Try.prog.cellsOf 47 = 4 := by kernel_rfl
theorem cellsBend : Try.prog.cellsOf 49 = 8 := by kernel_rfl
theorem cellsSlR : Try.prog.cellsOf 22 = 1 := by kernel_rfl
theorem cellsSlB : Try.prog.cellsOf 23 = 1 := by kernel_rfl
theorem cellsFlat : Try.prog.cellsOf 25 = 4 := by kernel_rfl
theorem intsRect : IntsAt Try.prog 55 4 :=
  intsAt_struct (m := 4) (k := 1) Try.underlying55 intsInt cellsInt1 rfl cellsRect (fun i hi => by
    match i, hi with
    | 0, _ => exact ⟨_, rfl, rfl, rfl⟩
    | 1, _ => exact ⟨_, rfl, rfl, rfl⟩
    | 2, _ => exact ⟨_, rfl, rfl, rfl⟩
    | 3, _ => exact ⟨_, rfl, rfl, rfl⟩)
theorem intsSeg : IntsAt Try.prog 47 4 :=
  intsAt_struct (m := 4) (k := 1) Try.underlying47 intsInt cellsInt1 rfl cellsSeg (fun i hi => by
    match i, hi with
    | 0, _ => exact ⟨_, rfl, rfl, rfl⟩
    | 1, _ => exact ⟨_, rfl, rfl, rfl⟩
    | 2, _ => exact ⟨_, rfl, rfl, rfl⟩
    | 3, _ => exact ⟨_, rfl, rfl, rfl⟩)
set_option maxRecDepth 100000 in
theorem intsBend : IntsAt Try.prog 49 8 := by
  intro H enc w base spare held fuel cs x hx
  obtain ⟨xs, n, _, _, hl, hxl, hg⟩ := DataW.trod_struct Try.underlying49 hx
  rw [cellsBend] at hl
  have hxl : xs.length = 5 := hxl
  have el : ∀ i : Nat, i < 5 → xs[i]? = some (xs[i]?.getD (.nil, [])) := fun i hi => by rw [List.getElem?_eq_getElem (by omega)]; rfl
  have f0 := field_use hg 0 3 0 rfl
  have f1 := field_use hg 1 3 1 rfl
  have f2 := field_use hg 2 47 2 rfl
  have f3 := field_use hg 3 3 6 rfl
  have f4 := field_use hg 4 3 7 rfl
  rw [cellsInt1, el 0 (by omega)] at f0
  rw [cellsInt1, el 1 (by omega)] at f1
  rw [cellsSeg, el 2 (by omega)] at f2
  rw [cellsInt1, el 3 (by omega)] at f3
  rw [cellsInt1, el 4 (by omega)] at f4
  obtain ⟨z0, l0, e0, b0⟩ := intsInt enc w base spare held n _ _ f0
  obtain ⟨z1, l1, e1, b1⟩ := intsInt enc w base spare held n _ _ f1
  obtain ⟨z2, l2, e2, b2⟩ := intsSeg enc w base spare held n _ _ f2
  obtain ⟨z3, l3, e3, b3⟩ := intsInt enc w base spare held n _ _ f3
  obtain ⟨z4, l4, e4, b4⟩ := intsInt enc w base spare held n _ _ f4
  refine ⟨z0 ++ (z1 ++ (z2 ++ (z3 ++ z4))), by simp [l0, l1, l2, l3, l4], ?_, ?_⟩
  · simp only [List.map_append, ← e0, ← e1, ← e2, ← e3, ← e4]
    match cs, hl with
    | [_, _, _, _, _, _, _, _], _ => rfl
  · intro z hz
    simp only [List.mem_append] at hz
    rcases hz with h | h | h | h | h
    · exact b0 z h
    · exact b1 z h
    · exact b2 z h
    · exact b3 z h
    · exact b4 z h
section
variable {H : Type} {enc : TypeId × Value → H} {W : World}
theorem open_rl {n : Nat} {cs : List Value} {x : DataW H × List MemPlace} (h : DataW.trod enc Try.prog W 0 (fun _ => true) true n 22 cs = some x) : ∃ (A : Option Addr) (c : Nat) (l : List Rc), cs = [.slice A l.length c] ∧ SlR W A c l := by
  obtain ⟨A, c, l, e, h1, _, h3, h4⟩ := open_list (c := rcL) (Ok := fun _ => True) Try.underlying22 cellsRect (by decide) (fun {n cs x} hx => by
    obtain ⟨zs, hz, hcs, _⟩ := intsRect enc W 0 (fun _ => true) true _ _ _ hx
    match zs, hz with
    | [a, b, c, d], _ => exact ⟨⟨a, b, c, d⟩, hcs, trivial⟩) (fun _ => rfl) h
  exact ⟨A, c, l, e, h1, h3, by unfold maxLen at h4; omega⟩
theorem open_bl {n : Nat} {cs : List Value} {x : DataW H × List MemPlace} (h : DataW.trod enc Try.prog W 0 (fun _ => true) true n 23 cs = some x) : ∃ (A : Option Addr) (c : Nat) (l : List Bd), cs = [.slice A l.length c] ∧ SlB W A c l ∧ ∀ x ∈ l, I64 x.f ∧ I64 x.p ∧ I64 x.a ∧ I64 x.b ∧ I64 x.c ∧ I64 x.d ∧ I64 x.n ∧ I64 x.e := by
  obtain ⟨A, c, l, e, h1, h2, h3, h4⟩ := open_list (c := bdL) (Ok := fun x : Bd => I64 x.f ∧ I64 x.p ∧ I64 x.a ∧ I64 x.b ∧ I64 x.c ∧ I64 x.d ∧ I64 x.n ∧ I64 x.e) Try.underlying23 cellsBend (by decide) (fun {n cs x} hx => by
    obtain ⟨zs, hz, hcs, hb⟩ := intsBend enc W 0 (fun _ => true) true _ _ _ hx
    match zs, hz with
    | [a, b, c, d, e, f, g, h], _ => exact ⟨⟨a, b, c, d, e, f, g, h⟩, hcs, hb a (by simp), hb b (by simp), hb c (by simp), hb d (by simp), hb e (by simp), hb f (by simp), hb g (by simp), hb h (by simp)⟩) (fun _ => rfl) h
  exact ⟨A, c, l, e, ⟨h1, h3, by unfold maxLen at h4; omega⟩, h2⟩
set_option maxRecDepth 100000 in
theorem open_pat {base : Nat} {v : Value} {d : DataW H} {ps : List MemPlace} (hv : Value.okWide Try.prog W .any base 25 v) (hd : DataW.Trod enc Try.prog W 0 (fun _ => true) true 25 v d ps) :
    ∃ (A1 : Option Addr) (c1 : Nat) (A2 : Option Addr) (c2 : Nat) (A3 : Option Addr) (c3 : Nat) (A4 : Option Addr) (c4 : Nat) (F : Pat), v = ptv A1 F.r.length c1 A2 F.c.length c2 A3 F.f.length c3 A4 F.b.length c4 ∧ PatW W A1 c1 A2 c2 A3 c3 A4 c4 F ∧ ∀ x ∈ F.b, I64 x.f ∧ I64 x.p ∧ I64 x.a ∧ I64 x.b ∧ I64 x.c ∧ I64 x.d ∧ I64 x.n ∧ I64 x.e := by
  obtain ⟨cs, rfl, _⟩ := okWide_struct Try.underlying25 hv
  obtain ⟨fuel, h⟩ := hd
  simp only [Value.cells] at h
  obtain ⟨xs, m, _, _, hl, hxl, hg⟩ := DataW.trod_struct Try.underlying25 h
  rw [cellsFlat] at hl
  have hxl : xs.length = 4 := hxl
  have el : ∀ i : Nat, i < 4 → xs[i]? = some (xs[i]?.getD (.nil, [])) := fun i hi => by rw [List.getElem?_eq_getElem (by omega)]; rfl
  have f0 := field_use hg 0 22 0 rfl
  have f1 := field_use hg 1 22 1 rfl
  have f2 := field_use hg 2 22 2 rfl
  have f3 := field_use hg 3 23 3 rfl
  rw [cellsSlR, el 0 (by omega)] at f0
  rw [cellsSlR, el 1 (by omega)] at f1
  rw [cellsSlR, el 2 (by omega)] at f2
  rw [cellsSlB, el 3 (by omega)] at f3
  obtain ⟨cl⟩ := cs
  simp only at hl f0 f1 f2 f3
  match cl, hl with
  | [k0, k1, k2, k3], _ =>
    obtain ⟨A1, c1, r, e0, h0⟩ := open_rl f0
    obtain ⟨A2, c2, c, e1, h1⟩ := open_rl f1
    obtain ⟨A3, c3, f, e2, h2⟩ := open_rl f2
    obtain ⟨A4, c4, b, e3, h3, hb⟩ := open_bl f3
    simp at e0 e1 e2 e3
    subst e0 e1 e2 e3
    exact ⟨A1, c1, A2, c2, A3, c3, A4, c4, ⟨r, c, f, b⟩, rfl, ⟨h0, h1, h2, h3⟩, hb⟩
end
/-- a pattern with long lists -/
def lgB (F : Pat) : Bool := decide (60 < F.r.length) || (decide (60 < F.c.length) || (decide (60 < F.f.length) || decide (60 < F.b.length)))
theorem Long_any (A1 A2 A3 A4 : Option Addr) (c1 c2 c3 c4 : Nat) (F : Pat) (w : World) (h1 : c1 ≤ 9223372036854775807) (h2 : c2 ≤ 9223372036854775807) (h3 : c3 ≤ 9223372036854775807) (h4 : c4 ≤ 9223372036854775807) (k1 : F.r.length ≤ c1) (k2 : F.c.length ≤ c2) (k3 : F.f.length ≤ c3) (k4 : F.b.length ≤ c4) :
    Calls Try.prog 5 #[ptv A1 F.r.length c1 A2 F.c.length c2 A3 F.f.length c3 A4 F.b.length c4] w fun e w' => e = .returned (.bool (lgB F)) ∧ Gr w w' := by
  have HE := hide (show lgB F = (decide (60 < F.r.length) || (decide (60 < F.c.length) || (decide (60 < F.f.length) || decide (60 < F.b.length)))) from rfl)
  have key : ∀ n : Nat, (decide (60 < n) = true ∧ decide ((60 : Int) < (n : Int)) = true) ∨ (decide (60 < n) = false ∧ decide ((60 : Int) < (n : Int)) = false) := fun n => by
    by_cases h : 60 < n
    · left; simp only [decide_eq_true_iff]; omega
    · right; simp only [decide_eq_false_iff_not]; omega
  rcases key F.r.length with ⟨a1, a2⟩ | ⟨a1, a2⟩
  · go_enter Try.func5, Try.ntmps5
    go_wp2
    go_ret
    exact ⟨ret_bool (by rw [HE.out, a1]; rfl), Gr.alloc (Gr.refl _) _⟩
  rcases key F.c.length with ⟨b1, b2⟩ | ⟨b1, b2⟩
  · go_enter Try.func5, Try.ntmps5
    go_wp2
    go_ret
    exact ⟨ret_bool (by rw [HE.out, a1, b1]; rfl), Gr.alloc (Gr.refl _) _⟩
  rcases key F.f.length with ⟨d1, d2⟩ | ⟨d1, d2⟩
  · go_enter Try.func5, Try.ntmps5
    go_wp2
    go_ret
    exact ⟨ret_bool (by rw [HE.out, a1, b1, d1]; rfl), Gr.alloc (Gr.refl _) _⟩
  rcases key F.b.length with ⟨e1, e2⟩ | ⟨e1, e2⟩
  · go_enter Try.func5, Try.ntmps5
    go_wp2
    go_ret
    exact ⟨ret_bool (by rw [HE.out, a1, b1, d1, e1]; rfl), Gr.alloc (Gr.refl _) _⟩
  · go_enter Try.func5, Try.ntmps5
    go_wp2
    go_ret
    exact ⟨ret_bool (by rw [HE.out, a1, b1, d1, e1]; rfl), Gr.alloc (Gr.refl _) _⟩
end RG
end Go.Proofs.Ytjnfodbniohkhaa
