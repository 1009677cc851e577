/-
  Parts: whether a part is big; flanges and holes compared; what the laws take for granted of an argument.
  Parts compared, in the reference.
  Parts compared, in the reference: Equal.
  Parts copied, in the reference.
  PartValidates: the walk.
  Parts: the exported Faces of both sides.
  Parts, plain: the faces that move with a flange.
  Parts: the exported Moves of the code.
  Parts: the reference's Moves; the exported Moves of both sides.
  Parts: the exported Moves and Size of both sides; PartMoves: the walk.
  Parts: the reference's Size; lists of numbers compared; PartMoves: the walk.
  append of one element onto a slice of the call's own, said of lists, for seats of parts.
-/
import Derived.Test.YtdabhnefoigebaaGreatMV
import Derived.Test.YtdabhnefoigebaaGreatKnown
import Derived.Laws.StructEq
import Derived.Test.YtdabhnefoigebaaGreatMix2
import Derived.OwnWalk
set_option linter.unusedVariables false
set_option linter.unusedSimpArgs false
namespace Go.Proofs.YtdabhnefoigebaaGreat
set_option linter.unusedVariables false
set_option linter.unusedSimpArgs false
open Go Go.ChangeShapes Go.WideShapes Go.ChangeAt Go.RowKit Go.Deep

def bgH (p : Pa) : Bool := decide (300 < p.nm.size) || decide (300 < p.mt.size) || decide (30 < p.fl.length) || decide (40 < p.ho.length)
/-- whether a part is big -/
def bgB (p : Pa) : Bool := bgH p || p.fl.any fun f => decide (300 < f.nm.size)
theorem bgB_head {p : Pa} (h : bgH p = true) : bgB p = true := by
  unfold bgB
  rw [h]
  rfl
theorem bgB_name {p : Pa} {f : Fl} {i : Nat} (h : p.fl[i]? = some f) (k : 300 < f.nm.size) : bgB p = true := by
  unfold bgB
  rw [Bool.or_eq_true]
  exact .inr (List.any_eq_true.2 ⟨f, List.mem_of_getElem? h, by simpa using k⟩)
theorem bgB_no {p : Pa} (h : bgH p = false) (k : ∀ i f, i < p.fl.length → p.fl[i]? = some f → f.nm.size ≤ 300) : bgB p = false := by
  unfold bgB
  rw [h, Bool.false_or, List.any_eq_false]
  intro f hf
  obtain ⟨i, hi⟩ := List.mem_iff_getElem?.1 hf
  have := k i f (List.getElem?_eq_some_iff.1 hi).1 hi
  simpa using this
theorem bgH_no {p : Pa} (h : bgH p = false) : p.nm.size ≤ 300 ∧ p.mt.size ≤ 300 ∧ p.fl.length ≤ 30 ∧ p.ho.length ≤ 40 := by
  unfold bgH at h
  simp only [Bool.or_eq_false_iff, decide_eq_false_iff_not] at h
  omega
theorem bgH_yes {p : Pa} (h : bgH p = true) : ¬ (p.nm.size ≤ 300 ∧ p.mt.size ≤ 300 ∧ p.fl.length ≤ 30 ∧ p.ho.length ≤ 40) := by
  unfold bgH at h
  simp only [Bool.or_eq_true, decide_eq_true_eq] at h
  omega
/-- an argument that is a part, of whatever size -/
structure PaX (w : World) (p : Pa) (A : Option Addr) (c : Nat) (B : Option Addr) (d : Nat) : Prop where
  fl : RdF w A p.fl
  ho : RdH w B p.ho
  i : PaI p
  cap : p.fl.length ≤ c ∧ c ≤ maxLen
  cap2 : p.ho.length ≤ d ∧ d ≤ maxLen
theorem PaX.gr {w w' : World} {p : Pa} {A : Option Addr} {c : Nat} {B : Option Addr} {d : Nat} (h : PaX w p A c B d) (g : Gr w w') : PaX w' p A c B d := ⟨h.fl.gr g, h.ho.gr g, h.i, h.cap, h.cap2⟩
theorem PaX.small {w : World} {p : Pa} {A : Option Addr} {c : Nat} {B : Option Addr} {d : Nat} (h : PaX w p A c B d) (hb : bgB p = false) : PaW w p A c B d := by
  have hh : bgH p = false := by
    unfold bgB at hb
    rw [Bool.or_eq_false_iff] at hb
    exact hb.1
  have hf : ∀ f ∈ p.fl, f.nm.size ≤ 300 := by
    unfold bgB at hb
    rw [Bool.or_eq_false_iff, List.any_eq_false] at hb
    intro f hf
    have := hb.2 f hf
    simpa using this
  obtain ⟨a1, a2, a3, a4⟩ := bgH_no hh
  have c1 := h.cap
  have c2 := h.cap2
  unfold maxLen at c1 c2
  exact ⟨⟨h.fl, by omega, by omega, by omega, fun f k => by have := hf f k; omega⟩, ⟨h.ho, by omega, by omega, by omega⟩, by omega, by omega⟩
set_option maxRecDepth 100000 in
set_option maxHeartbeats 2000000 in
theorem big_any (p : Pa) (A B : Option Addr) (c d : Nat) (w : World) (hP : PaX w p A c B d) :
    Calls Tryz.prog 5 #[pav p A c B d] w fun e w' => e = .returned (.bool (bgB p)) ∧ Gr w w' := by
  have b1 := hP.i.nm
  have b2 := hP.i.mt
  have b3 := hP.cap
  have b4 := hP.cap2
  unfold maxLen at b1 b2 b3 b4
  cases hh : bgH p with
  | true =>
    have HN := hide (bgH_yes hh)
    have HE := hide (bgB_head hh)
    clear hh
    go_enter Tryz.func5, Tryz.ntmps5
    go_upto_region 3 with fail
    all_goals first
      | (go_ret
         exact ⟨ret_bool HE.out.symm, (by repeat (first | with_reducible exact Gr.refl _ | with_reducible assumption | with_reducible refine Gr.alloc ?_ _ | with_reducible refine Gr.drewN ?_ _ | with_reducible refine Gr.drew ?_ | with_reducible refine Gr.setCell ?_ (by first | (dsimp only; omega) | (simp only [World.size_alloc]; omega) | (with_reducible refine Gr.size ?_; (repeat (first | with_reducible exact Gr.refl _ | with_reducible assumption | with_reducible refine Gr.alloc ?_ _ | with_reducible refine Gr.drewN ?_ _ | with_reducible refine Gr.drew ?_ | with_reducible refine Gr.trans ?_ (by with_reducible assumption))); done)) _ | with_reducible refine Gr.trans ?_ (by with_reducible assumption)))⟩)
      | (exfalso
         refine HN.out ?_
         simp at *
         omega)
  | false =>
    obtain ⟨a1, a2, a3, a4⟩ := bgH_no hh
    have HH := hide hh
    have HP := hide hP
    clear hh hP
    go_enter Tryz.func5, Tryz.ntmps5
    go_upto_region 3 with fail
    go_wp2
    go_loopw [3] (fun i wr => ∃ k : Nat, k ≤ p.fl.length ∧ i = iv k ∧ Gr (w.alloc (.cells #[.string p.nm, .string p.mt, iv p.ga, iv p.gr, iv p.wd, iv p.ht, .slice A p.fl.length c, .slice B p.ho.length d] 25)) wr ∧ Hid (∀ i f, i < k → p.fl[i]? = some f → f.nm.size ≤ 300)) (fun i _ => p.fl.length - (intOf i).toNat)
    case atStart => exact ⟨0, by omega, rfl, Gr.refl _, by intro i f hi; omega⟩
    case round =>
      obtain ⟨k, hk, rfl, g, HS⟩ := hrel
      obtain ⟨Xr, Yr, cr, fr⟩ := g.use
      have zr := g.size
      simp only [World.size_alloc] at zr
      have l0 : w.heap.size < wr.heap.size := by omega
      by_cases hkl : k < p.fl.length
      · obtain ⟨f, hf⟩ : ∃ f, p.fl[k]? = some f := ⟨_, List.getElem?_eq_getElem hkl⟩
        obtain ⟨b, off, rfl, x0, x1, x2, x3, x4, x5, x6⟩ := HP.out.fl.fl hf
        have hb : b < w.heap.size := cell_lt (by rw [x0]; rfl)
        have hfi := (HP.out.i.fl f (List.mem_of_getElem? hf)).1
        unfold maxLen at hfi
        have HL := hide hf
        clear hf
        by_cases hs : 300 < f.nm.size
        · have HE := hide (bgB_name HL.out hs)
          go_wp2
          go_ret
          exact ⟨ret_bool HE.out.symm, (by repeat (first | with_reducible exact Gr.refl _ | with_reducible assumption | with_reducible refine Gr.alloc ?_ _ | with_reducible refine Gr.drewN ?_ _ | with_reducible refine Gr.drew ?_ | with_reducible refine Gr.setCell ?_ (by first | (dsimp only; omega) | (simp only [World.size_alloc]; omega) | (with_reducible refine Gr.size ?_; (repeat (first | with_reducible exact Gr.refl _ | with_reducible assumption | with_reducible refine Gr.alloc ?_ _ | with_reducible refine Gr.drewN ?_ _ | with_reducible refine Gr.drew ?_ | with_reducible refine Gr.trans ?_ (by with_reducible assumption))); done)) _ | with_reducible refine Gr.trans ?_ (by with_reducible assumption)))⟩
        · have HS' := hide (show ∀ i f, i < k + 1 → p.fl[i]? = some f → f.nm.size ≤ 300 by
            intro i g hi hg
            rcases Nat.lt_or_ge i k with h | h
            · exact HS.out i g h hg
            · obtain rfl : i = k := by omega
              rw [HL.out] at hg
              obtain rfl := Option.some.inj hg
              omega)
          go_wp2
          go_roundw
          case rel => exact ⟨k + 1, by omega, by go_num, (by repeat (first | with_reducible exact Gr.refl _ | with_reducible assumption | with_reducible refine Gr.alloc ?_ _ | with_reducible refine Gr.drewN ?_ _ | with_reducible refine Gr.drew ?_ | with_reducible refine Gr.setCell ?_ (by first | (dsimp only; omega) | (simp only [World.size_alloc]; omega) | (with_reducible refine Gr.size ?_; (repeat (first | with_reducible exact Gr.refl _ | with_reducible assumption | with_reducible refine Gr.alloc ?_ _ | with_reducible refine Gr.drewN ?_ _ | with_reducible refine Gr.drew ?_ | with_reducible refine Gr.trans ?_ (by with_reducible assumption))); done)) _ | with_reducible refine Gr.trans ?_ (by with_reducible assumption))), HS'⟩
          case measure => simp only [intOf]; omega
      · obtain rfl : k = p.fl.length := by omega
        have HE := hide (bgB_no HH.out HS.out)
        go_wp2
        go_ret
        exact ⟨ret_bool HE.out.symm, (by repeat (first | with_reducible exact Gr.refl _ | with_reducible assumption | with_reducible refine Gr.alloc ?_ _ | with_reducible refine Gr.drewN ?_ _ | with_reducible refine Gr.drew ?_ | with_reducible refine Gr.setCell ?_ (by first | (dsimp only; omega) | (simp only [World.size_alloc]; omega) | (with_reducible refine Gr.size ?_; (repeat (first | with_reducible exact Gr.refl _ | with_reducible assumption | with_reducible refine Gr.alloc ?_ _ | with_reducible refine Gr.drewN ?_ _ | with_reducible refine Gr.drew ?_ | with_reducible refine Gr.trans ?_ (by with_reducible assumption))); done)) _ | with_reducible refine Gr.trans ?_ (by with_reducible assumption)))⟩
theorem sFlg : Tryz.prog.underlying 50 = some (.struct (Tryz.prog.fieldsOf 50)) := by kernel_rfl
theorem pFlg : Tryz.prog.stoodInHeld 50 = false := by kernel_rfl
theorem gFlg : Tryz.prog.eqGuardType Tryz.prog.depth 50 = false := by kernel_rfl
theorem sHol : Tryz.prog.underlying 77 = some (.struct (Tryz.prog.fieldsOf 77)) := by kernel_rfl
theorem pHol : Tryz.prog.stoodInHeld 77 = false := by kernel_rfl
theorem gHol : Tryz.prog.eqGuardType Tryz.prog.depth 77 = false := by kernel_rfl
def flB (a b : Fl) : Bool := (a.nm.toList == b.nm.toList) && (a.pa == b.pa && (a.sd == b.sd && (a.o == b.o && (a.wd == b.wd && (a.ln == b.ln && a.an == b.an)))))
def hoQ (a b : Ho) : Bool := a.fa == b.fa && (a.kd == b.kd && (a.x == b.x && (a.y == b.y && (a.w == b.w && a.h == b.h))))
theorem flB_self (a : Fl) : flB a a = true := by simp [flB]
theorem hoQ_self (a : Ho) : hoQ a a = true := by simp [hoQ]
set_option maxHeartbeats 1000000 in
theorem eqFlg (a b : Fl) (w : World) : (Op.equalIn 10000 50 (flv a) (flv b)).run Tryz.prog w = .ok (flB a b) w := by
  have u3 := Tryz.underlying3
  have a3 := Tryz.isAgg3
  have z3 := Tryz.sizeOf3
  have u4 := Tryz.underlying9
  have a4 := Tryz.isAgg9
  have z4 := Tryz.sizeOf9
  rw [run_equalIn_agg w 9999 50 _ _ sFlg pFlg]
  simp only [Program.fieldsOf, Tryz.underlying50, flB]
  go_simp
  split
  case isFalse h => simp [h]
  rename_i h1
  split
  case isFalse h => simp [h1, h]
  rename_i h2
  split
  case isFalse h => simp [h1, h2, h]
  rename_i h3
  split
  case isFalse h => simp [h1, h2, h3, h]
  rename_i h4
  split
  case isFalse h => simp [h1, h2, h3, h4, h]
  rename_i h5
  split
  case isFalse h => simp [h1, h2, h3, h4, h5, h]
  rename_i h6
  split
  case isFalse h => simp [h1, h2, h3, h4, h5, h6, h]
  rename_i h7
  simp [h1, h2, h3, h4, h5, h6, h7]
set_option maxHeartbeats 1000000 in
theorem eqHol (a b : Ho) (w : World) : (Op.equalIn 10000 77 (hov a) (hov b)).run Tryz.prog w = .ok (hoQ a b) w := by
  have u3 := Tryz.underlying3
  have a3 := Tryz.isAgg3
  have z3 := Tryz.sizeOf3
  rw [run_equalIn_agg w 9999 77 _ _ sHol pHol]
  simp only [Program.fieldsOf, Tryz.underlying77, hoQ]
  go_simp
  split
  case isFalse h => simp [h]
  rename_i h1
  split
  case isFalse h => simp [h1, h]
  rename_i h2
  split
  case isFalse h => simp [h1, h2, h]
  rename_i h3
  split
  case isFalse h => simp [h1, h2, h3, h]
  rename_i h4
  split
  case isFalse h => simp [h1, h2, h3, h4, h]
  rename_i h5
  split
  case isFalse h => simp [h1, h2, h3, h4, h5, h]
  rename_i h6
  simp [h1, h2, h3, h4, h5, h6]
end Go.Proofs.YtdabhnefoigebaaGreat
set_option linter.unusedVariables false
set_option linter.unusedSimpArgs false
namespace Go.Proofs.YtdabhnefoigebaaGreat
set_option linter.unusedVariables false
set_option linter.unusedSimpArgs false
open Go Go.ChangeShapes Go.WideShapes Go.ChangeAt Go.RowKit Go.Deep

/-- whether f holds of two lists, place by place -/
noncomputable def lsB {α : Type} (f : α → α → Bool) (l m : List α) : Bool := @decide (l.length = m.length ∧ ∀ (i : Nat) (a b : α), l[i]? = some a → m[i]? = some b → f a b = true) (Classical.propDecidable _)
theorem lsB_iff {α : Type} {f : α → α → Bool} {l m : List α} : lsB f l m = true ↔ l.length = m.length ∧ ∀ (i : Nat) (a b : α), l[i]? = some a → m[i]? = some b → f a b = true := by
  unfold lsB
  exact @decide_eq_true_iff _ (Classical.propDecidable _)
theorem lsB_len {α : Type} {f : α → α → Bool} {l m : List α} (h : ¬ l.length = m.length) : lsB f l m = false := by
  rw [← Bool.not_eq_true, lsB_iff]
  exact fun k => h k.1
theorem lsB_stop {α : Type} {f : α → α → Bool} {l m : List α} {i : Nat} {a b : α} (ha : l[i]? = some a) (hb : m[i]? = some b) (h : f a b = false) : lsB f l m = false := by
  rw [← Bool.not_eq_true, lsB_iff]
  intro k
  have := k.2 i a b ha hb
  rw [h] at this
  cases this
theorem lsB_end {α : Type} {f : α → α → Bool} {l m : List α} (h : l.length = m.length) (k : ∀ (i : Nat) (a b : α), i < l.length → l[i]? = some a → m[i]? = some b → f a b = true) : lsB f l m = true :=
  lsB_iff.2 ⟨h, fun i a b ha hb => k i a b (List.getElem?_eq_some_iff.1 ha).1 ha hb⟩
theorem lsB_self {α : Type} {f : α → α → Bool} (h : ∀ a, f a a = true) (l : List α) : lsB f l l = true :=
  lsB_end rfl fun i a b _ ha hb => by
    rw [ha] at hb
    obtain rfl := Option.some.inj hb
    exact h a
theorem bn_eq {α : Type} [BEq α] {x y : α} (h : (x != y) = false) : (x == y) = true := by
  unfold bne at h
  simpa using h
theorem eq_bn {α : Type} [BEq α] {x y : α} (h : (x == y) = true) : (x != y) = false := by
  unfold bne
  rw [h]
  rfl
end Go.Proofs.YtdabhnefoigebaaGreat
set_option linter.unusedVariables false
set_option linter.unusedSimpArgs false
namespace Go.Proofs.YtdabhnefoigebaaGreat
set_option linter.unusedVariables false
set_option linter.unusedSimpArgs false
open Go Go.ChangeShapes Go.WideShapes Go.ChangeAt Go.RowKit Go.Deep

def hdQ (p q : Pa) : Bool := (p.nm.toList == q.nm.toList) && (p.mt.toList == q.mt.toList) && (p.ga == q.ga) && (p.gr == q.gr) && (p.wd == q.wd) && (p.ht == q.ht)
theorem hdQ_parts {p q : Pa} : hdQ p q = true ↔ (p.nm.toList == q.nm.toList) = true ∧ (p.mt.toList == q.mt.toList) = true ∧ (p.ga == q.ga) = true ∧ (p.gr == q.gr) = true ∧ (p.wd == q.wd) = true ∧ (p.ht == q.ht) = true := by
  unfold hdQ
  simp only [Bool.and_eq_true, and_assoc]
/-- whether two parts are equal -/
noncomputable def eqB (p q : Pa) : Bool := hdQ p q && (lsB flB p.fl q.fl && lsB hoQ p.ho q.ho)
theorem eqB_self (p : Pa) : eqB p p = true := by
  unfold eqB
  rw [lsB_self flB_self, lsB_self hoQ_self, hdQ_parts.2 (by simp)]
  rfl
theorem eqB_head {p q : Pa} (h : hdQ p q = false) : eqB p q = false := by
  unfold eqB
  rw [h]
  rfl
theorem eqB_fl {p q : Pa} (h : lsB flB p.fl q.fl = false) : eqB p q = false := by
  unfold eqB
  rw [h]
  simp
theorem eqB_rest {p q : Pa} (h : hdQ p q = true) (k : lsB flB p.fl q.fl = true) : eqB p q = lsB hoQ p.ho q.ho := by
  unfold eqB
  rw [h, k]
  rfl
end Go.Proofs.YtdabhnefoigebaaGreat
set_option linter.unusedVariables false
set_option linter.unusedSimpArgs false
namespace Go.Proofs.YtdabhnefoigebaaGreat
set_option linter.unusedVariables false
set_option linter.unusedSimpArgs false
open Go Go.ChangeShapes Go.WideShapes Go.ChangeAt Go.RowKit Go.Deep

theorem infoFl : (Tryz.prog.info? 50).map (fun i => (i.zero, i.size, i.bytes)) = some (some (.agg #[.string ⟨#[]⟩, .int .i64 0, .int .i64 0, .int .i64 0, .int .i64 0, .int .i64 0, .int .i64 0]), 7, 64) := by kernel_rfl
theorem infoHo : (Tryz.prog.info? 77).map (fun i => (i.zero, i.size, i.bytes)) = some (some (.agg #[.int .i64 0, .int .i64 0, .int .i64 0, .int .i64 0, .int .i64 0, .int .i64 0]), 6, 48) := by kernel_rfl
theorem one_fl (f : Fl) : ∀ u ∈ flL f, u.oneCell' = true := by
  intro u hu
  simp at hu
  rcases hu with rfl | rfl | rfl | rfl | rfl | rfl | rfl <;> rfl
theorem one_ho (f : Ho) : ∀ u ∈ hoL f, u.oneCell' = true := by
  intro u hu
  simp at hu
  rcases hu with rfl | rfl | rfl | rfl | rfl | rfl <;> rfl
theorem rd1_fl (w : World) (f : Fl) : ∀ j u, (flL f)[j]? = some u → (w.alloc (.cells #[.string f.nm, iv f.pa, iv f.sd, iv f.o, iv f.wd, iv f.ln, iv f.an] 50)).cell? ((⟨w.heap.size, 0, none⟩ : Addr).add j) = some u := by
  intro j u hu
  rw [addr_add, Nat.zero_add, (Made.new w #[.string f.nm, iv f.pa, iv f.sd, iv f.o, iv f.wd, iv f.ln, iv f.an] 50).2.1 j]
  simpa using hu
theorem rd1_ho (w : World) (f : Ho) : ∀ j u, (hoL f)[j]? = some u → (w.alloc (.cells #[iv f.fa, iv f.kd, iv f.x, iv f.y, iv f.w, iv f.h] 77)).cell? ((⟨w.heap.size, 0, none⟩ : Addr).add j) = some u := by
  intro j u hu
  rw [addr_add, Nat.zero_add, (Made.new w #[iv f.fa, iv f.kd, iv f.x, iv f.y, iv f.w, iv f.h] 77).2.1 j]
  simpa using hu
theorem own_nil {α : Type} (w : World) (base : Nat) (e : TypeId) (k : Nat) (c : α → List Value) : OwnL w base e k c (.slice none 0 0) [] := ⟨by simp, .inl ⟨rfl, rfl⟩⟩
theorem Made.grown {w w' : World} {B lo : Nat} {z : Array Value} {row : Option Nat} (h : Made w B z) (hg : w.grownBy w' row) (hr : ∀ k, row = some k → lo ≤ k) (hB : B < lo) : Made w' B z := by
  have hne : some B ≠ row := fun e => by have := hr B e.symm; omega
  refine ⟨?_, fun o => (hg.cell_far ⟨B, o, none⟩ h.1 hne).trans (h.2.1 o), fun o => (hg.frozen_far ⟨B, o, none⟩ h.1 hne).trans (h.2.2 o)⟩
  have hb := hg.block B h.1 hne
  have h1 := h.1
  refine Nat.not_le.1 fun hle => ?_
  rw [Array.getElem?_eq_none hle, Array.getElem?_eq_getElem h1] at hb
  cases hb
theorem Made.setAt {w : World} {B : Nat} {z z' : Array Value} (h : Made w B z) (i : Nat) (hi : i < z.size) (v : Value) (e : z' = z.setIfInBounds i v) : Made (w.setCell ⟨B, i, none⟩ v) B z' := by
  subst e
  obtain ⟨h0, h1, h2⟩ := h
  refine ⟨by simpa using h0, fun o => ?_, fun o => ?_⟩
  · have e1 := h1 i
    rw [Array.getElem?_eq_getElem hi] at e1
    have e2 := h1 o
    by_cases ho : o = i
    · subst ho
      simp [go_sem, e1, hi]
    · have ho' : ¬ i = o := fun e => ho e.symm
      simp [go_sem, e2, ho, ho', Array.getElem?_setIfInBounds]
  · have := h2 o
    simp [go_sem, this]
theorem own_far {w : World} {base : Nat} {e : TypeId} {k n : Nat} {v : Value} {xs : List Value} (h : w.ownsRow base e k v n xs) {a : Addr} (ha : a.block < base) (u : Value) : (w.setCell a u).ownsRow base e k v n xs := by
  obtain ⟨h0, h1 | ⟨b, cap, cur, h1, hb, h2, h3⟩⟩ := id h
  · exact ⟨h0, .inl h1⟩
  · refine ⟨h0, .inr ⟨b, cap, cur, h1, hb, ?_, h3⟩⟩
    rw [← h2]
    exact Below.heap_setCell w a u b (by omega)
theorem own_grown {w w' : World} {base lo : Nat} {e : TypeId} {k n : Nat} {v : Value} {xs : List Value} {row : Option Nat} (h : w.ownsRow base e k v n xs) (hg : w.grownBy w' row) (hr : ∀ k, row = some k → lo ≤ k) (hv : ∀ k, v.ownBlock = some k → k < lo) : w'.ownsRow base e k v n xs := by
  obtain ⟨h0, h1 | ⟨b, cap, cur, h1, hb, h2, h3⟩⟩ := id h
  · exact ⟨h0, .inl h1⟩
  · refine ⟨h0, .inr ⟨b, cap, cur, h1, hb, ?_, h3⟩⟩
    have hbl : b < lo := hv b (by rw [h1]; rfl)
    have hlt : b < w.heap.size := (Array.getElem?_eq_some_iff.1 h2).1
    rw [← h2]
    exact hg.block b hlt (fun e => by have := hr b e.symm; omega)
theorem take_snoc {α : Type} {l : List α} {k : Nat} {x : α} (h : l[k]? = some x) : l.take (k + 1) = l.take k ++ [x] := by
  rw [List.take_add_one, h]
  rfl
abbrev paZ (p : Pa) (A B : Option Addr) (n c m d : Nat) : Array Value := #[.string p.nm, .string p.mt, iv p.ga, iv p.gr, iv p.wd, iv p.ht, .slice A n c, .slice B m d]
end Go.Proofs.YtdabhnefoigebaaGreat
set_option linter.unusedVariables false
set_option linter.unusedSimpArgs false
namespace Go.Proofs.YtdabhnefoigebaaGreat
set_option linter.unusedVariables false
set_option linter.unusedSimpArgs false
open Go Go.ChangeShapes Go.WideShapes Go.ChangeAt Go.RowKit Go.Deep

theorem PaW.own {w w' : World} {p : Pa} {A B A' B' : Option Addr} {c d c' d' lo1 lo2 : Nat} (h : PaW w p A c B d) (h1 : OwnL w' lo1 50 7 flL (.slice A' p.fl.length c') p.fl) (h2 : OwnL w' lo2 77 6 hoL (.slice B' p.ho.length d') p.ho) : PaW w' p A' c' B' d' := by
  obtain ⟨-, r1, a1, a2⟩ := OwnL.rd (c := flL) (fun _ => rfl) h1
  obtain ⟨-, r2, b1, b2⟩ := OwnL.rd (c := hoL) (fun _ => rfl) h2
  unfold maxLen at a2 b2
  exact ⟨⟨r1, a1, by omega, h.fl.len, h.fl.nm⟩, ⟨r2, b1, by omega, h.ho.len⟩, h.nm, h.mt⟩
end Go.Proofs.YtdabhnefoigebaaGreat
set_option linter.unusedVariables false
set_option linter.unusedSimpArgs false
namespace Go.Proofs.YtdabhnefoigebaaGreat
set_option linter.unusedVariables false
set_option linter.unusedSimpArgs false
open Go Go.ChangeShapes Go.WideShapes Go.ChangeAt Go.RowKit Go.Deep

/-- what a valid part has -/
structure Good (p : Pa) : Prop where
  base : basB p = true
  nfl : p.fl.length ≤ 5
  nho : p.ho.length ≤ 6
  fl : FlOk p p.fl.length
  ho : p.ho.all (hoB p) = true
  no : anyB clC (facs flC p.wd p.ht p.fl allT p.fl.length) = false
theorem good_of {p : Pa} (h : valE p = 0) : Good p := by
  by_cases h1 : (nameB p.nm.toList && nameB p.mt.toList) = true
  · by_cases h2 : basB p = true
    · by_cases h3 : 5 < p.fl.length ∨ 6 < p.ho.length
      · rw [valE_large h1 h2 h3] at h
        cases h
      · rw [valE_rest h1 h2 h3] at h
        split at h
        · rename_i h4
          exact absurd h h4
        rename_i h4
        split at h
        · cases h
        split at h
        · cases h
        rename_i h5
        split at h
        · cases h
        split at h
        · cases h
        rename_i h6
        exact ⟨h2, by omega, by omega, FlOk.all h2 (by simpa using h4), by simpa using h5, by simpa using h6⟩
    · rw [valE_base h1 (by simpa using h2)] at h
      cases h
  · rw [valE_names (by simpa using h1)] at h
    cases h
/-- the greatest mask of a part -/
def fuM (p : Pa) : Int := ((2 ^ p.fl.length - 1 : Nat) : Int)
theorem fuM_lt {p : Pa} (h : p.fl.length ≤ 5) {m : Int} (hm : wiB m 0 (fuM p) = true) : ∃ k : Nat, m = k ∧ k < 64 := by
  rw [wiB_iff] at hm
  unfold fuM at hm
  have : 2 ^ p.fl.length ≤ 2 ^ 5 := Nat.pow_le_pow_right (by omega) h
  exact ⟨m.toNat, by omega, by omega⟩
/-- the error of a part and a mask -/
noncomputable def facE (p : Pa) (m : Int) : Int := if valE p ≠ 0 then valE p else if wiB m 0 (fuM p) then 0 else 1
/-- the faces of a part; none where there is an error -/
noncomputable def facL (p : Pa) (m : Int) : List Fc := if facE p m = 0 then facs flC p.wd p.ht p.fl (fun i => m.toNat.testBit i) p.fl.length else []
theorem facE_bad {p : Pa} {m : Int} (h : ¬ valE p = 0) : facE p m = valE p := by
  unfold facE
  rw [if_pos h]
theorem facE_arg {p : Pa} {m : Int} (h : valE p = 0) (k : wiB m 0 (fuM p) = false) : facE p m = 1 := by
  unfold facE
  rw [if_neg (by simpa using h), k]
  rfl
theorem facE_ok {p : Pa} {m : Int} (h : valE p = 0) (k : wiB m 0 (fuM p) = true) : facE p m = 0 := by
  unfold facE
  rw [if_neg (by simpa using h), k]
  rfl
theorem facL_none {p : Pa} {m : Int} (h : ¬ facE p m = 0) : facL p m = [] := by
  unfold facL
  rw [if_neg h]
theorem facL_some {p : Pa} {m : Int} (h : facE p m = 0) : facL p m = facs flC p.wd p.ht p.fl (fun i => m.toNat.testBit i) p.fl.length := by
  unfold facL
  rw [if_pos h]
theorem facE_zero {p : Pa} {m : Int} (h : facE p m = 0) : valE p = 0 ∧ wiB m 0 (fuM p) = true := by
  unfold facE at h
  split at h
  · rename_i h1
    exact absurd h h1
  · rename_i h1
    split at h
    · rename_i h2
      exact ⟨by simpa using h1, h2⟩
    · cases h
theorem facL_len {p : Pa} {m : Int} : (facL p m).length ≤ 6 := by
  by_cases h : facE p m = 0
  · rw [facL_some h, facs_len (Nat.le_refl _)]
    have := (good_of (facE_zero h).1).nfl
    omega
  · rw [facL_none h]
    simp
abbrev sle (v : Value) (e : Int) : Value := .tuple #[v, iv e]
theorem ret_sle {v : Value} {a b : Int} (h : a = b) : Ending.returned (sle v a) = .returned (sle v b) := by rw [h]
end Go.Proofs.YtdabhnefoigebaaGreat
set_option linter.unusedVariables false
set_option linter.unusedSimpArgs false
namespace Go.Proofs.YtdabhnefoigebaaGreat
set_option linter.unusedVariables false
set_option linter.unusedSimpArgs false
open Go Go.ChangeShapes Go.WideShapes Go.ChangeAt Go.RowKit Go.Deep

/-- whether each of the first k + 1 faces moves with the flange fl -/
def mvs (l : List Fl) (fl : Nat) : Nat → List Bool
  | 0 => [false]
  | k + 1 => match l[k]? with
    | some f => mvs l fl k ++ [decide (k = fl) || (mvs l fl k)[f.pa.toNat]?.getD false]
    | none => mvs l fl k
theorem mvs_succ {l : List Fl} {fl k : Nat} {f : Fl} (h : l[k]? = some f) : mvs l fl (k + 1) = mvs l fl k ++ [decide (k = fl) || (mvs l fl k)[f.pa.toNat]?.getD false] := by
  rw [mvs, h]
theorem mvs_len {l : List Fl} {fl : Nat} : ∀ {k : Nat}, k ≤ l.length → (mvs l fl k).length = k + 1
  | 0, _ => rfl
  | k + 1, h => by
    rw [mvs_succ (List.getElem?_eq_getElem (by omega)), List.length_append, mvs_len (by omega)]
    rfl
theorem mvs_at {l : List Fl} {fl j : Nat} : ∀ {k : Nat}, j ≤ k → k ≤ l.length → (mvs l fl k)[j]? = (mvs l fl j)[j]?
  | 0, hj, _ => by
    obtain rfl : j = 0 := by omega
    rfl
  | k + 1, hj, hk => by
    rcases Nat.lt_or_ge j (k + 1) with h | h
    · rw [mvs_succ (List.getElem?_eq_getElem (by omega)), List.getElem?_append_left (by rw [mvs_len (by omega)]; omega)]
      exact mvs_at (by omega) (by omega)
    · obtain rfl : j = k + 1 := by omega
      rfl
/-- whether a face moves with the flange fl -/
def mvB (l : List Fl) (fl j : Nat) : Bool := (mvs l fl l.length)[j]?.getD false
theorem mvB_zero (l : List Fl) (fl : Nat) : mvB l fl 0 = false := by
  unfold mvB
  rw [mvs_at (Nat.zero_le _) (Nat.le_refl _)]
  rfl
theorem mvB_succ {l : List Fl} {fl k : Nat} {f : Fl} (h : l[k]? = some f) {q : Nat} (hq : f.pa = q) (hk : q ≤ k) : mvB l fl (k + 1) = (decide (k = fl) || mvB l fl q) := by
  have hkl := (List.getElem?_eq_some_iff.1 h).1
  unfold mvB
  rw [mvs_at (show k + 1 ≤ l.length by omega) (Nat.le_refl _), mvs_succ h, List.getElem?_append_right (by rw [mvs_len (by omega)]; omega), mvs_len (by omega)]
  simp only [Nat.sub_self, List.getElem?_cons_zero, Option.getD_some]
  rw [hq, show ((q : Nat) : Int).toNat = q from rfl, mvs_at hk (by omega), mvs_at (show q ≤ l.length by omega) (Nat.le_refl _)]
theorem mvB_low {l : List Fl} {fl : Nat} (ok : Fit l) : ∀ {j : Nat}, j ≤ fl → j ≤ l.length → mvB l fl j = false := by
  intro j
  induction j using Nat.strongRecOn with
  | ind j ih =>
    intro h1 h2
    cases j with
    | zero => exact mvB_zero l fl
    | succ k =>
      obtain ⟨f, hf⟩ : ∃ f, l[k]? = some f := ⟨_, List.getElem?_eq_getElem (by omega)⟩
      obtain ⟨t0, t1, -, -⟩ := ok k f hf
      rw [mvB_succ (q := f.pa.toNat) hf (by omega) (by omega), ih f.pa.toNat (by omega) (by omega) (by omega)]
      simp
      omega
theorem mvB_own {l : List Fl} {fl : Nat} (ok : Fit l) (h : fl < l.length) : mvB l fl (fl + 1) = true := by
  obtain ⟨f, hf⟩ : ∃ f, l[fl]? = some f := ⟨_, List.getElem?_eq_getElem h⟩
  obtain ⟨t0, t1, -, -⟩ := ok fl f hf
  rw [mvB_succ (q := f.pa.toNat) hf (by omega) (by omega)]
  simp
theorem mvB_up {l : List Fl} {fl k : Nat} (ok : Fit l) {f : Fl} (hf : l[k]? = some f) {q : Nat} (hq : f.pa = q) (h : ¬ k = fl) : mvB l fl (k + 1) = mvB l fl q := by
  obtain ⟨t0, t1, -, -⟩ := ok k f hf
  rw [mvB_succ hf hq (by omega), decide_eq_false h, Bool.false_or]
/-- those of the first k flanges' faces that move -/
def moL (l : List Fl) (fl : Nat) : Nat → List Int
  | 0 => []
  | k + 1 => if mvB l fl (k + 1) = true then moL l fl k ++ [(k : Int) + 1] else moL l fl k
theorem moL_len (l : List Fl) (fl : Nat) : ∀ k, (moL l fl k).length ≤ k
  | 0 => by simp [moL]
  | k + 1 => by
    have := moL_len l fl k
    unfold moL
    split
    · simp
      omega
    · omega
theorem moL_low {l : List Fl} {fl : Nat} (ok : Fit l) : ∀ {k : Nat}, k ≤ fl → k ≤ l.length → moL l fl k = []
  | 0, _, _ => rfl
  | k + 1, h1, h2 => by
    unfold moL
    rw [mvB_low ok h1 h2, moL_low ok (by omega) (by omega)]
    rfl
/-- a row of bools in a block of the call's own -/
def BF (w : World) (B : Nat) (g : Nat → Bool) (n : Nat) : Prop := B < w.heap.size ∧ ∀ j, j ≤ n → w.cell? ⟨B, j, none⟩ = some (.bool (g j)) ∧ w.frozen? ⟨B, j, none⟩ = false
theorem BF.gr {w w' : World} {B n : Nat} {f : Nat → Bool} (h : BF w B f n) (g : Gr w w') : BF w' B f n :=
  ⟨Nat.lt_of_lt_of_le h.1 g.size, fun j hj => ⟨(g.cell B j h.1).trans (h.2 j hj).1, (g.frozen B j h.1).trans (h.2 j hj).2⟩⟩
theorem BF.grown {w w' : World} {B lo n : Nat} {f : Nat → Bool} {row : Option Nat} (h : BF w B f n) (hg : w.grownBy w' row) (hr : ∀ k, row = some k → lo ≤ k) (hB : B < lo) : BF w' B f n := by
  have hne : some B ≠ row := fun e => by have := hr B e.symm; omega
  refine ⟨?_, fun j hj => ⟨(hg.cell_far ⟨B, j, none⟩ h.1 hne).trans (h.2 j hj).1, (hg.frozen_far ⟨B, j, none⟩ h.1 hne).trans (h.2 j hj).2⟩⟩
  have hb := hg.block B h.1 hne
  have h1 := h.1
  refine Nat.not_le.1 fun hle => ?_
  rw [Array.getElem?_eq_none hle, Array.getElem?_eq_getElem h1] at hb
  cases hb
theorem BF.set {w : World} {B n k : Nat} {f g : Nat → Bool} (h : BF w B f n) (b : Bool) (hk : k ≤ n) (e : ∀ j, j ≤ n → g j = if j = k then b else f j) : BF (w.setCell ⟨B, k, none⟩ (.bool b)) B g n := by
  refine ⟨by simpa using h.1, fun j hj => ?_⟩
  obtain ⟨c1, f1⟩ := h.2 j hj
  obtain ⟨c2, f2⟩ := h.2 k hk
  rw [e j hj]
  by_cases hjk : j = k
  · subst hjk
    rw [if_pos rfl]
    exact ⟨by simp [go_sem, c2], by simp [go_sem, f1]⟩
  · rw [if_neg hjk]
    exact ⟨by simp [go_sem, c1, c2, hjk], by simp [go_sem, f1]⟩
end Go.Proofs.YtdabhnefoigebaaGreat
namespace Go.Proofs.YtdabhnefoigebaaGreat
open Go Go.ChangeShapes Go.WideShapes Go.ChangeAt Go.RowKit Go.Deep

/-- the error of a part and a flange -/
noncomputable def movE (p : Pa) (n : Int) : Int := if valE p ≠ 0 then valE p else if wiB n 0 (p.fl.length - 1) then 0 else 5
noncomputable def movL (p : Pa) (n : Int) : List Int := if movE p n = 0 then moL p.fl n.toNat p.fl.length else []
theorem movE_bad {p : Pa} {m : Int} (h : ¬ valE p = 0) : movE p m = valE p := by
  unfold movE
  rw [if_pos h]
theorem movE_none {p : Pa} {m : Int} (h : valE p = 0) (k : wiB m 0 (p.fl.length - 1) = false) : movE p m = 5 := by
  unfold movE
  rw [if_neg (by simpa using h), k]
  rfl
theorem movE_ok {p : Pa} {m : Int} (h : valE p = 0) (k : wiB m 0 (p.fl.length - 1) = true) : movE p m = 0 := by
  unfold movE
  rw [if_neg (by simpa using h), k]
  rfl
theorem movL_none {p : Pa} {m : Int} (h : ¬ movE p m = 0) : movL p m = [] := by
  unfold movL
  rw [if_neg h]
theorem movL_some {p : Pa} {m : Int} (h : movE p m = 0) : movL p m = moL p.fl m.toNat p.fl.length := by
  unfold movL
  rw [if_pos h]
abbrev inL (z : Int) : List Value := [iv z]
theorem infoIn : (Tryz.prog.info? 3).map (fun i => (i.zero, i.size, i.bytes)) = some (some (.int .i64 0), 1, 8) := by kernel_rfl
theorem infoBo : (Tryz.prog.info? 4).map (fun i => (i.zero, i.size, i.bytes)) = some (some (.bool false), 1, 1) := by kernel_rfl
theorem made_bools (n : Nat) (w : World) : BF (w.alloc (.cells (madeCells #[.bool false] (n + 1)) 4)) w.heap.size (fun _ => false) n := by
  obtain ⟨h0, h1, h2⟩ := Made.new w (madeCells #[.bool false] (n + 1)) 4
  refine ⟨h0, fun j hj => ⟨?_, h2 j⟩⟩
  rw [h1 j]
  have hj' : j < n + 1 := by omega
  simp [madeCells, hj', Nat.mod_one]
theorem one_in (w : World) (z : Int) : ∀ j u, [iv z][j]? = some u → (w.alloc (.cells #[iv z] 3)).cell? ((⟨w.heap.size, 0, none⟩ : Addr).add j) = some u := by
  intro j u hu
  rw [addr_add, Nat.zero_add, (Made.new w #[iv z] 3).2.1 j]
  simpa using hu
theorem bf_step {l : List Fl} {fl k : Nat} {b : Bool} (h : mvB l fl (k + 1) = b) (j : Nat) : (decide (j ≤ k + 1) && mvB l fl j) = if j = k + 1 then b else (decide (j ≤ k) && mvB l fl j) := by
  by_cases hj : j = k + 1
  · subst hj
    rw [if_pos rfl, h]
    simp
  · rw [if_neg hj, show decide (j ≤ k + 1) = decide (j ≤ k) by
      rw [Bool.eq_iff_iff, decide_eq_true_eq, decide_eq_true_eq]
      omega]
end Go.Proofs.YtdabhnefoigebaaGreat
namespace Go.Proofs.YtdabhnefoigebaaGreat
open Go Go.ChangeShapes Go.WideShapes Go.ChangeAt Go.RowKit Go.Deep

end Go.Proofs.YtdabhnefoigebaaGreat
namespace Go.Proofs.YtdabhnefoigebaaGreat
open Go Go.ChangeShapes Go.WideShapes Go.ChangeAt Go.RowKit Go.Deep

theorem wi_nat {n : Nat} {m : Int} (h : wiB m 0 ((n : Int) - 1) = true) : ∃ k : Nat, m = k ∧ k < n := by
  rw [wiB_iff] at h
  exact ⟨m.toNat, by omega, by omega⟩
/-- width, height and error of a face -/
noncomputable def sizV (p : Pa) (n : Int) : Int × Int × Int := if valE p ≠ 0 then (0, 0, valE p) else if wiB n 0 p.fl.length then (extW p n, extH p n, 0) else (0, 0, 5)
abbrev t3V (t : Int × Int × Int) : Value := .tuple #[iv t.1, iv t.2.1, iv t.2.2]
set_option maxRecDepth 100000 in
set_option maxHeartbeats 2000000 in
theorem Size_any (p : Pa) (A B : Option Addr) (c d : Nat) (n : Int) (w : World) (hP : PaW w p A c B d) :
    Calls Tryz.prog 16 #[pav p A c B d, iv n] w fun e w' => e = .returned (t3V (sizV p n)) ∧ Gr w w' := by
  have HV := hide (fun (w' : World) (g : Gr w w') => Validate_any p A B c d w' (hP.gr g))
  by_cases h0 : valE p = 0
  · rw [h0] at HV
    have HH := hide (fun w' => hasFace_any p A B c d n w')
    cases hm : wiB n 0 p.fl.length with
    | true =>
      rw [show sizV p n = (extW p n, extH p n, 0) by unfold sizV; rw [if_neg (by simpa using h0), hm]; rfl]
      obtain ⟨u1, u2⟩ := wiB_iff.1 hm
      have HS := hide (fun (w' : World) (g : Gr w w') => size_any p A B c d n w' (hP.fl.gr g) u1 u2)
      rw [hm] at HH
      generalize extW p n = ew at *
      generalize extH p n = eh at *
      clear h0 hP hm u1 u2
      go_enter Tryz.func16, Tryz.ntmps16
      go_wp2_with fail
      refine (HV.out _ (by repeat (first | with_reducible exact Gr.refl _ | with_reducible assumption | with_reducible refine Gr.alloc ?_ _ | with_reducible refine Gr.drewN ?_ _ | with_reducible refine Gr.drew ?_ | with_reducible refine Gr.setCell ?_ (by first | (dsimp only; omega) | (simp only [World.size_alloc]; omega) | (with_reducible refine Gr.size ?_; (repeat (first | with_reducible exact Gr.refl _ | with_reducible assumption | with_reducible refine Gr.alloc ?_ _ | with_reducible refine Gr.drewN ?_ _ | with_reducible refine Gr.drew ?_ | with_reducible refine Gr.trans ?_ (by with_reducible assumption))); done)) _ | with_reducible refine Gr.trans ?_ (by with_reducible assumption)))).mono ?_
      rintro e w1 ⟨rfl, g1⟩
      obtain ⟨X1, Y1, c1, f1⟩ := g1.use
      have z1 := g1.size
      simp only [World.size_alloc] at z1
      have l1 : w.heap.size < w1.heap.size := by omega
      have gw1 : Gr w w1 := (by repeat (first | with_reducible exact Gr.refl _ | with_reducible assumption | with_reducible refine Gr.alloc ?_ _ | with_reducible refine Gr.drewN ?_ _ | with_reducible refine Gr.drew ?_ | with_reducible refine Gr.setCell ?_ (by first | (dsimp only; omega) | (simp only [World.size_alloc]; omega) | (with_reducible refine Gr.size ?_; (repeat (first | with_reducible exact Gr.refl _ | with_reducible assumption | with_reducible refine Gr.alloc ?_ _ | with_reducible refine Gr.drewN ?_ _ | with_reducible refine Gr.drew ?_ | with_reducible refine Gr.trans ?_ (by with_reducible assumption))); done)) _ | with_reducible refine Gr.trans ?_ (by with_reducible assumption)))
      go_wp2_with fail
      refine (HH.out _).mono ?_
      rintro e w2 ⟨rfl, g2⟩
      obtain ⟨X2, Y2, c2, f2⟩ := g2.use
      have z2 := g2.size
      have l2 : w.heap.size < w2.heap.size := by omega
      have gw2 : Gr w w2 := gw1.trans g2
      go_wp2_with fail
      refine (HS.out _ gw2).mono ?_
      rintro e w3 ⟨rfl, g3⟩
      go_wp2_with fail
      refine bodyPost_ret (v := t3V (ew, eh, 0)) (by simp [results, Tryz.results16, go_sem]) rfl ⟨rfl, (by repeat (first | with_reducible exact Gr.refl _ | with_reducible assumption | with_reducible refine Gr.alloc ?_ _ | with_reducible refine Gr.drewN ?_ _ | with_reducible refine Gr.drew ?_ | with_reducible refine Gr.setCell ?_ (by first | (dsimp only; omega) | (simp only [World.size_alloc]; omega) | (with_reducible refine Gr.size ?_; (repeat (first | with_reducible exact Gr.refl _ | with_reducible assumption | with_reducible refine Gr.alloc ?_ _ | with_reducible refine Gr.drewN ?_ _ | with_reducible refine Gr.drew ?_ | with_reducible refine Gr.trans ?_ (by with_reducible assumption))); done)) _ | with_reducible refine Gr.trans ?_ (by with_reducible assumption)))⟩
    | false =>
      rw [show sizV p n = (0, 0, 5) by unfold sizV; rw [if_neg (by simpa using h0), hm]; rfl]
      rw [hm] at HH
      clear h0 hP hm
      go_enter Tryz.func16, Tryz.ntmps16
      go_wp2_with fail
      refine (HV.out _ (by repeat (first | with_reducible exact Gr.refl _ | with_reducible assumption | with_reducible refine Gr.alloc ?_ _ | with_reducible refine Gr.drewN ?_ _ | with_reducible refine Gr.drew ?_ | with_reducible refine Gr.setCell ?_ (by first | (dsimp only; omega) | (simp only [World.size_alloc]; omega) | (with_reducible refine Gr.size ?_; (repeat (first | with_reducible exact Gr.refl _ | with_reducible assumption | with_reducible refine Gr.alloc ?_ _ | with_reducible refine Gr.drewN ?_ _ | with_reducible refine Gr.drew ?_ | with_reducible refine Gr.trans ?_ (by with_reducible assumption))); done)) _ | with_reducible refine Gr.trans ?_ (by with_reducible assumption)))).mono ?_
      rintro e w1 ⟨rfl, g1⟩
      obtain ⟨X1, Y1, c1, f1⟩ := g1.use
      have z1 := g1.size
      simp only [World.size_alloc] at z1
      have l1 : w.heap.size < w1.heap.size := by omega
      have gw1 : Gr w w1 := (by repeat (first | with_reducible exact Gr.refl _ | with_reducible assumption | with_reducible refine Gr.alloc ?_ _ | with_reducible refine Gr.drewN ?_ _ | with_reducible refine Gr.drew ?_ | with_reducible refine Gr.setCell ?_ (by first | (dsimp only; omega) | (simp only [World.size_alloc]; omega) | (with_reducible refine Gr.size ?_; (repeat (first | with_reducible exact Gr.refl _ | with_reducible assumption | with_reducible refine Gr.alloc ?_ _ | with_reducible refine Gr.drewN ?_ _ | with_reducible refine Gr.drew ?_ | with_reducible refine Gr.trans ?_ (by with_reducible assumption))); done)) _ | with_reducible refine Gr.trans ?_ (by with_reducible assumption)))
      go_wp2_with fail
      refine (HH.out _).mono ?_
      rintro e w2 ⟨rfl, g2⟩
      go_wp2_with fail
      refine bodyPost_ret (v := t3V (0, 0, 5)) (by simp [results, Tryz.results16, go_sem]) rfl ⟨rfl, (by repeat (first | with_reducible exact Gr.refl _ | with_reducible assumption | with_reducible refine Gr.alloc ?_ _ | with_reducible refine Gr.drewN ?_ _ | with_reducible refine Gr.drew ?_ | with_reducible refine Gr.setCell ?_ (by first | (dsimp only; omega) | (simp only [World.size_alloc]; omega) | (with_reducible refine Gr.size ?_; (repeat (first | with_reducible exact Gr.refl _ | with_reducible assumption | with_reducible refine Gr.alloc ?_ _ | with_reducible refine Gr.drewN ?_ _ | with_reducible refine Gr.drew ?_ | with_reducible refine Gr.trans ?_ (by with_reducible assumption))); done)) _ | with_reducible refine Gr.trans ?_ (by with_reducible assumption)))⟩
  · rw [show sizV p n = (0, 0, valE p) by unfold sizV; rw [if_pos h0]]
    have h0' : (valE p != 0) = true := by simpa using h0
    generalize valE p = x at *
    clear h0 hP
    go_enter Tryz.func16, Tryz.ntmps16
    go_wp2_with fail
    refine (HV.out _ (by repeat (first | with_reducible exact Gr.refl _ | with_reducible assumption | with_reducible refine Gr.alloc ?_ _ | with_reducible refine Gr.drewN ?_ _ | with_reducible refine Gr.drew ?_ | with_reducible refine Gr.setCell ?_ (by first | (dsimp only; omega) | (simp only [World.size_alloc]; omega) | (with_reducible refine Gr.size ?_; (repeat (first | with_reducible exact Gr.refl _ | with_reducible assumption | with_reducible refine Gr.alloc ?_ _ | with_reducible refine Gr.drewN ?_ _ | with_reducible refine Gr.drew ?_ | with_reducible refine Gr.trans ?_ (by with_reducible assumption))); done)) _ | with_reducible refine Gr.trans ?_ (by with_reducible assumption)))).mono ?_
    rintro e w1 ⟨rfl, g1⟩
    go_wp2_with fail
    refine bodyPost_ret (v := t3V (0, 0, x)) (by simp [results, Tryz.results16, go_sem]) rfl ⟨rfl, (by repeat (first | with_reducible exact Gr.refl _ | with_reducible assumption | with_reducible refine Gr.alloc ?_ _ | with_reducible refine Gr.drewN ?_ _ | with_reducible refine Gr.drew ?_ | with_reducible refine Gr.setCell ?_ (by first | (dsimp only; omega) | (simp only [World.size_alloc]; omega) | (with_reducible refine Gr.size ?_; (repeat (first | with_reducible exact Gr.refl _ | with_reducible assumption | with_reducible refine Gr.alloc ?_ _ | with_reducible refine Gr.drewN ?_ _ | with_reducible refine Gr.drew ?_ | with_reducible refine Gr.trans ?_ (by with_reducible assumption))); done)) _ | with_reducible refine Gr.trans ?_ (by with_reducible assumption)))⟩
end Go.Proofs.YtdabhnefoigebaaGreat
namespace Go.Proofs.YtdabhnefoigebaaGreat
open Go Go.ChangeShapes Go.WideShapes Go.ChangeAt Go.RowKit Go.Deep

/-- a slice of numbers -/
structure SlI (w : World) (A : Option Addr) (c : Nat) (l : List Int) : Prop where
  rd : RdL w 1 inL A l
  cap : l.length ≤ c
  capB : c ≤ 9223372036854775807
  len : l.length ≤ 1000
theorem SlI.gr {w w' : World} {A : Option Addr} {c : Nat} {l : List Int} (h : SlI w A c l) (g : Gr w w') : SlI w' A c l := ⟨h.rd.gr g, h.cap, h.capB, h.len⟩
theorem slI_own {w : World} {base : Nat} {A : Option Addr} {n d : Nat} {xs : List Int} (h : OwnL w base 3 1 inL (.slice A n d) xs) (hl : xs.length ≤ 1000) : SlI w A d xs := by
  obtain ⟨h0, h1, h2, h3⟩ := OwnL.rd (c := inL) (fun _ => rfl) h
  exact ⟨h1, h2, by unfold maxLen at h3; omega, hl⟩
theorem RdL.int {w : World} {A : Option Addr} {l : List Int} (h : RdL w 1 inL A l) {i : Nat} {z : Int} (hi : l[i]? = some z) : ∃ b off, A = some ⟨b, off, none⟩ ∧ w.cell? ⟨b, off + i, none⟩ = some (iv z) := by
  obtain ⟨b, off, e, h0, _⟩ := h i z hi
  rw [Nat.mul_one] at h0
  exact ⟨b, off, e, h0⟩
set_option maxRecDepth 100000 in
set_option maxHeartbeats 2000000 in
theorem sameInts_any (A B : Option Addr) (c d : Nat) (l : List Int) (w : World) (hl : SlI w A c l) (hm : SlI w B d l) :
    Calls Tryz.prog 15 #[.slice A l.length c, .slice B l.length d] w fun e w' => e = .returned (.bool true) ∧ Gr w w' := by
  have n1 := hl.len
  have HLl := hide hl
  have HLm := hide hm
  clear hl hm
  go_enter Tryz.func15, Tryz.ntmps15
  go_wp2
  go_loopw [5] (fun i wr => ∃ k : Nat, k ≤ l.length ∧ i = iv k ∧ Gr w wr) (fun i _ => l.length - (intOf i).toNat)
  case atStart => exact ⟨0, by omega, rfl, Gr.refl _⟩
  case round =>
    obtain ⟨k, hk, rfl, g⟩ := hrel
    by_cases hkl : k < l.length
    · obtain ⟨a, ha⟩ : ∃ a, l[k]? = some a := ⟨_, List.getElem?_eq_getElem hkl⟩
      obtain ⟨p, o, rfl, x0⟩ := (HLl.out.gr g).rd.int ha
      obtain ⟨q, o', rfl, y0⟩ := (HLm.out.gr g).rd.int ha
      have hp : p < wr.heap.size := cell_lt (by rw [x0]; rfl)
      have hqw : q < wr.heap.size := cell_lt (by rw [y0]; rfl)
      have hk0 : (0 : Int) ≤ (k : Int) := by omega
      have hk1 : (k : Int) < (l.length : Int) := by omega
      clear ha
      go_upto_region 6 with fail
      have GC := @GrW.cell
      refine wp_region_grw _ (by kernel_rfl) (by kernel_rfl) (Gr.refl _) ?_
      repeat (go_big_quiet_step ((first | fail)))
      refine wpQuiet_nil ?_
      intro wq hwq
      obtain ⟨gq, hwq'⟩ := hwq
      subst hwq'
      clear GC
      have gq1 := gq.gr
      generalize gq.w = wq at gq1 ⊢
      obtain ⟨Xq, Yq, cq, fq⟩ := gq1.use
      have sq := gq1.size
      (try simp only [World.size_alloc, World.size_setCell, World.heap_drewN] at sq)
      go_wp2
      go_roundw
      case rel => exact ⟨k + 1, by omega, by go_num, (by repeat (first | with_reducible exact Gr.refl _ | with_reducible assumption | with_reducible refine Gr.alloc ?_ _ | with_reducible refine Gr.drewN ?_ _ | with_reducible refine Gr.drew ?_ | with_reducible refine Gr.setCell ?_ (by first | (dsimp only; omega) | (simp only [World.size_alloc]; omega) | (with_reducible refine Gr.size ?_; (repeat (first | with_reducible exact Gr.refl _ | with_reducible assumption | with_reducible refine Gr.alloc ?_ _ | with_reducible refine Gr.drewN ?_ _ | with_reducible refine Gr.drew ?_ | with_reducible refine Gr.trans ?_ (by with_reducible assumption))); done)) _ | with_reducible refine Gr.trans ?_ (by with_reducible assumption)))⟩
      case measure => simp only [intOf]; omega
    · obtain rfl : k = l.length := by omega
      go_wp2
      go_ret
      exact ⟨rfl, (by repeat (first | with_reducible exact Gr.refl _ | with_reducible assumption | with_reducible refine Gr.alloc ?_ _ | with_reducible refine Gr.drewN ?_ _ | with_reducible refine Gr.drew ?_ | with_reducible refine Gr.setCell ?_ (by first | (dsimp only; omega) | (simp only [World.size_alloc]; omega) | (with_reducible refine Gr.size ?_; (repeat (first | with_reducible exact Gr.refl _ | with_reducible assumption | with_reducible refine Gr.alloc ?_ _ | with_reducible refine Gr.drewN ?_ _ | with_reducible refine Gr.drew ?_ | with_reducible refine Gr.trans ?_ (by with_reducible assumption))); done)) _ | with_reducible refine Gr.trans ?_ (by with_reducible assumption)))⟩
theorem movL_len {p : Pa} {m : Int} (h : p.fl.length ≤ 1000) : (movL p m).length ≤ 1000 := by
  unfold movL
  split
  · have := moL_len p.fl m.toNat p.fl.length
    omega
  · simp
end Go.Proofs.YtdabhnefoigebaaGreat
set_option linter.unusedVariables false
set_option linter.unusedSimpArgs false
namespace Go.Proofs.YtdabhnefoigebaaGreat
set_option linter.unusedVariables false
set_option linter.unusedSimpArgs false
open Go Go.ChangeShapes Go.WideShapes Go.ChangeAt Go.RowKit Go.Deep

/-- a slice type and its elements: k cells, so many bytes -/
structure ElT (P : Program) (t e : TypeId) (k bts : Nat) : Prop where
  und : P.underlying t = some (.slice e)
  inf : ∃ i z, P.info? e = some i ∧ i.zero = some z ∧ i.size = k ∧ i.bytes = bts ∧ z.cells.size = k
theorem elT_of {P : Program} {t e : TypeId} {k bts : Nat} (z : Value) (h : P.underlying t = some (.slice e)) (hi : (P.info? e).map (fun i => (i.zero, i.size, i.bytes)) = some (some z, k, bts)) (hz : z.cells.size = k) : ElT P t e k bts := by
  refine ⟨h, ?_⟩
  cases e1 : P.info? e with
  | none => rw [e1] at hi; cases hi
  | some i =>
    rw [e1] at hi
    simp only [Option.map_some, Option.some.injEq, Prod.mk.injEq] at hi
    exact ⟨i, z, rfl, hi.1, hi.2.1, hi.2.2, hz⟩
theorem wpList_app1 {P : Program} {w : World} {ops : Array Oper} {rest : List Oper} {o : Oper} {a : Act} {Q : Exit → Act → World → Prop} (hgd : o.guard = none) (s x : Operand) (t : TypeId)
    (ho : o.op = .call { callee := .builtin .append, args := #[s, x], argTypes := #[t, t] })
    {α : Type} (c : α → List Value) (base : Nat) (e : TypeId) (k bts : Nat) (T : ElT P t e k bts) (hk : 0 < k) (xs : List α) (y : α) (ys : List α) (hys : xs ++ [y] = ys) (v : Value) (hs : a.eval s = v) (hown : OwnL w base e k c v xs)
    (ad : Addr) (cc : Nat) (hx : a.eval x = .slice (some ad) 1 cc) (hl : (c y).length = k) (hnews : ∀ j u, (c y)[j]? = some u → w.cell? (ad.add j) = some u) (h1 : ∀ u ∈ c y, u.oneCell' = true)
    (hn : xs.length ≤ 1000000) (hb : bts ≤ 10000) (hbase : base ≤ w.heap.size)
    (h : ∀ g cap w', OwnL w' base e k c (.slice (some ⟨g, 0, none⟩) ys.length cap) ys → (∀ b, Gr b w → b.heap.size ≤ base → Gr b w') → w.grownBy w' v.ownBlock → base ≤ g → g < w'.heap.size → wpList P ops Q rest (a.put o.dst (.slice (some ⟨g, 0, none⟩) ys.length cap)) w') : wpList P ops Q (o :: rest) a w := by
  obtain ⟨i, z, hi, hz, hsz, hby, hzs⟩ := T.inf
  subst hys
  have hlt := fun k hk => (World.ownsRow.lt hown k hk).1
  refine wpList_append_lies w hgd s x t ho base e i z k bts T.und hi hz hsz hby hzs hk v xs.length (xs.flatMap c) hs hown ad 1 cc (c y) hx (by rw [hl, Nat.one_mul]) hnews h1 (by omega) (by unfold maxLen; omega)
    (Nat.le_trans (Nat.mul_le_mul (show xs.length + 1 ≤ 1000001 by omega) hb) (by decide)) hbase _ rfl ?_
  intro g cap w' h2 h3 h4 h5
  have hO : OwnL w' base e k c (.slice (some ⟨g, 0, none⟩) (xs ++ [y]).length cap) (xs ++ [y]) := by
    unfold OwnL
    rw [fm_snoc, List.length_append]
    exact h2
  have := h g cap w' hO (fun b hb hle => Gr.grown hb h3 (fun k hk => by have := hlt k hk; omega)) h3 (by
    rcases h4 with h4 | h4
    · exact hlt g h4
    · omega) h5
  rwa [List.length_append] at this
theorem news1 {w : World} {B : Nat} {u0 : Value} (h : w.cell? ⟨B, 0, none⟩ = some u0) : ∀ j u, [u0][j]? = some u → w.cell? ((⟨B, 0, none⟩ : Addr).add j) = some u := by
  intro j u hu
  cases j with
  | zero => rw [addr_add]; simpa using hu ▸ h
  | succ j => simp at hu
theorem newsA (w : World) (cs : Array Value) (t : TypeId) : ∀ j u, cs.toList[j]? = some u → (w.alloc (.cells cs t)).cell? ((⟨w.heap.size, 0, none⟩ : Addr).add j) = some u :=
  World.news_of_block (B := w.heap.size) (cs := cs) (t := t) (fr := (0, 0)) (by show (w.heap.push _)[w.heap.size]? = _; simp)
/-- a literal slice owns its elements -/
theorem own_lit {α : Type} {c : α → List Value} {k : Nat} (w : World) (base : Nat) (e : TypeId) (cs : Array Value) (xs : List α) (hb : base ≤ w.heap.size) (hc : ∀ x, (c x).length = k) (hcs : cs.toList = xs.flatMap c) (hm : xs.length ≤ 1000000) :
    OwnL (w.alloc (.cells cs e)) base e k c (.slice (some ⟨w.heap.size, 0, none⟩) xs.length xs.length) xs := by
  have := World.ownsRow_lit (size := k) (e := e) w cs xs.length hb (by unfold maxLen; omega) (by rw [← Array.length_toList, hcs, fm_len hc])
  rw [hcs] at this
  exact this
theorem elInt : ElT Tryz.prog 43 3 1 8 := elT_of (.int .i64 0) Tryz.underlying43 (by kernel_rfl) rfl
end Go.Proofs.YtdabhnefoigebaaGreat
