/-
  Parts: whether a part is big; flanges and holes compared; what the laws take for granted of an argument.
  Parts compared, in the reference.
  Parts compared, in the reference: Equal.
  Parts copied, in the reference.
  PartValidates: the walk.
  Parts: the exported Faces of both sides.
  Flat patterns: places of faces, plainly. No program.
  Flat patterns: the code's place of a flange for that of its parent.
  Parts, plain: the faces that move with a flange.
  Parts: the exported Moves of the code.
  Parts: the reference's Moves; the exported Moves of both sides.
  Parts: the exported Moves and Size of both sides; PartMoves: the walk.
  Parts: the reference's Size; lists of numbers compared; PartMoves: the walk.
  append of one element onto a slice of the call's own, said of lists, for seats of parts.
  Flat patterns: the deductions of all flanges, in the code.
  Flat patterns: the places of all faces, in the code.
  Flat patterns: the reference's frame of a flange for that of its parent.
  Flat patterns: the frames of all faces, in the reference.
-/
import Derived.Test.YtjnfodbniohkhaaGreatMV
import Derived.Test.YtjnfodbniohkhaaGreatKnown
import Derived.Laws.StructEq
import Derived.Test.YtjnfodbniohkhaaGreatMT
import Derived.Test.YtjnfodbniohkhaaGreatMix2
import Derived.OwnWalk
import Derived.BigRegion
set_option linter.unusedVariables false
set_option linter.unusedSimpArgs false
namespace Go.Proofs.YtjnfodbniohkhaaGreat
set_option linter.unusedVariables false
set_option linter.unusedSimpArgs false
open Go Go.ChangeShapes Go.WideShapes Go.ChangeAt Go.RowKit Go.Deep

def bgH (p : Pa) : Bool := decide (300 < p.nm.size) || decide (300 < p.mt.size) || decide (30 < p.fl.length) || decide (40 < p.ho.length)
/-- whether a part is big -/
def bgB (p : Pa) : Bool := bgH p || p.fl.any fun f => decide (300 < f.nm.size)
theorem bgB_head {p : Pa} (h : bgH p = true) : bgB p = true := by
  unfold bgB
  rw [h]
  rfl
theorem bgB_name {p : Pa} {f : Fl} {i : Nat} (h : p.fl[i]? = some f) (k : 300 < f.nm.size) : bgB p = true := by
  unfold bgB
  rw [Bool.or_eq_true]
  exact .inr (List.any_eq_true.2 ⟨f, List.mem_of_getElem? h, by simpa using k⟩)
theorem bgB_no {p : Pa} (h : bgH p = false) (k : ∀ i f, i < p.fl.length → p.fl[i]? = some f → f.nm.size ≤ 300) : bgB p = false := by
  unfold bgB
  rw [h, Bool.false_or, List.any_eq_false]
  intro f hf
  obtain ⟨i, hi⟩ := List.mem_iff_getElem?.1 hf
  have := k i f (List.getElem?_eq_some_iff.1 hi).1 hi
  simpa using this
theorem bgH_no {p : Pa} (h : bgH p = false) : p.nm.size ≤ 300 ∧ p.mt.size ≤ 300 ∧ p.fl.length ≤ 30 ∧ p.ho.length ≤ 40 := by
  unfold bgH at h
  simp only [Bool.or_eq_false_iff, decide_eq_false_iff_not] at h
  omega
theorem bgH_yes {p : Pa} (h : bgH p = true) : ¬ (p.nm.size ≤ 300 ∧ p.mt.size ≤ 300 ∧ p.fl.length ≤ 30 ∧ p.ho.length ≤ 40) := by
  unfold bgH at h
  simp only [Bool.or_eq_true, decide_eq_true_eq] at h
  omega
/-- an argument that is a part, of whatever size -/
structure PaX (w : World) (p : Pa) (A : Option Addr) (c : Nat) (B : Option Addr) (d : Nat) : Prop where
  fl : RdF w A p.fl
  ho : RdH w B p.ho
  i : PaI p
  cap : p.fl.length ≤ c ∧ c ≤ maxLen
  cap2 : p.ho.length ≤ d ∧ d ≤ maxLen
theorem PaX.gr {w w' : World} {p : Pa} {A : Option Addr} {c : Nat} {B : Option Addr} {d : Nat} (h : PaX w p A c B d) (g : Gr w w') : PaX w' p A c B d := ⟨h.fl.gr g, h.ho.gr g, h.i, h.cap, h.cap2⟩
theorem PaX.small {w : World} {p : Pa} {A : Option Addr} {c : Nat} {B : Option Addr} {d : Nat} (h : PaX w p A c B d) (hb : bgB p = false) : PaW w p A c B d := by
  have hh : bgH p = false := by
    unfold bgB at hb
    rw [Bool.or_eq_false_iff] at hb
    exact hb.1
  have hf : ∀ f ∈ p.fl, f.nm.size ≤ 300 := by
    unfold bgB at hb
    rw [Bool.or_eq_false_iff, List.any_eq_false] at hb
    intro f hf
    have := hb.2 f hf
    simpa using this
  obtain ⟨a1, a2, a3, a4⟩ := bgH_no hh
  have c1 := h.cap
  have c2 := h.cap2
  unfold maxLen at c1 c2
  exact ⟨⟨h.fl, by omega, by omega, by omega, fun f k => by have := hf f k; omega⟩, ⟨h.ho, by omega, by omega, by omega⟩, by omega, by omega⟩
set_option maxRecDepth 100000 in
set_option maxHeartbeats 2000000 in
theorem big_any (p : Pa) (A B : Option Addr) (c d : Nat) (w : World) (hP : PaX w p A c B d) :
    Calls Tryz.prog 5 #[pav p A c B d] w fun e w' => e = .returned (.bool (bgB p)) ∧ Gr w w' := by
  have b1 := hP.i.nm
  have b2 := hP.i.mt
  have b3 := hP.cap
  have b4 := hP.cap2
  unfold maxLen at b1 b2 b3 b4
  cases hh : bgH p with
  | true =>
    have HN := hide (bgH_yes hh)
    have HE := hide (bgB_head hh)
    clear hh
    go_enter Tryz.func5, Tryz.ntmps5
    go_upto_region 3 with fail
    all_goals first
      | (go_ret
         exact ⟨ret_bool HE.out.symm, (by repeat (first | with_reducible exact Gr.refl _ | with_reducible assumption | with_reducible refine Gr.alloc ?_ _ | with_reducible refine Gr.drewN ?_ _ | with_reducible refine Gr.drew ?_ | with_reducible refine Gr.setCell ?_ (by first | (dsimp only; omega) | (simp only [World.size_alloc]; omega) | (with_reducible refine Gr.size ?_; (repeat (first | with_reducible exact Gr.refl _ | with_reducible assumption | with_reducible refine Gr.alloc ?_ _ | with_reducible refine Gr.drewN ?_ _ | with_reducible refine Gr.drew ?_ | with_reducible refine Gr.trans ?_ (by with_reducible assumption))); done)) _ | with_reducible refine Gr.trans ?_ (by with_reducible assumption)))⟩)
      | (exfalso
         refine HN.out ?_
         simp at *
         omega)
  | false =>
    obtain ⟨a1, a2, a3, a4⟩ := bgH_no hh
    have HH := hide hh
    have HP := hide hP
    clear hh hP
    go_enter Tryz.func5, Tryz.ntmps5
    go_upto_region 3 with fail
    go_wp2
    go_loopw [3] (fun i wr => ∃ k : Nat, k ≤ p.fl.length ∧ i = iv k ∧ Gr (w.alloc (.cells #[.string p.nm, .string p.mt, iv p.ga, iv p.gr, iv p.wd, iv p.ht, .slice A p.fl.length c, .slice B p.ho.length d] 25)) wr ∧ Hid (∀ i f, i < k → p.fl[i]? = some f → f.nm.size ≤ 300)) (fun i _ => p.fl.length - (intOf i).toNat)
    case atStart => exact ⟨0, by omega, rfl, Gr.refl _, by intro i f hi; omega⟩
    case round =>
      obtain ⟨k, hk, rfl, g, HS⟩ := hrel
      obtain ⟨Xr, Yr, cr, fr⟩ := g.use
      have zr := g.size
      simp only [World.size_alloc] at zr
      have l0 : w.heap.size < wr.heap.size := by omega
      by_cases hkl : k < p.fl.length
      · obtain ⟨f, hf⟩ : ∃ f, p.fl[k]? = some f := ⟨_, List.getElem?_eq_getElem hkl⟩
        obtain ⟨b, off, rfl, x0, x1, x2, x3, x4, x5, x6⟩ := HP.out.fl.fl hf
        have hb : b < w.heap.size := cell_lt (by rw [x0]; rfl)
        have hfi := (HP.out.i.fl f (List.mem_of_getElem? hf)).1
        unfold maxLen at hfi
        have HL := hide hf
        clear hf
        by_cases hs : 300 < f.nm.size
        · have HE := hide (bgB_name HL.out hs)
          go_wp2
          go_ret
          exact ⟨ret_bool HE.out.symm, (by repeat (first | with_reducible exact Gr.refl _ | with_reducible assumption | with_reducible refine Gr.alloc ?_ _ | with_reducible refine Gr.drewN ?_ _ | with_reducible refine Gr.drew ?_ | with_reducible refine Gr.setCell ?_ (by first | (dsimp only; omega) | (simp only [World.size_alloc]; omega) | (with_reducible refine Gr.size ?_; (repeat (first | with_reducible exact Gr.refl _ | with_reducible assumption | with_reducible refine Gr.alloc ?_ _ | with_reducible refine Gr.drewN ?_ _ | with_reducible refine Gr.drew ?_ | with_reducible refine Gr.trans ?_ (by with_reducible assumption))); done)) _ | with_reducible refine Gr.trans ?_ (by with_reducible assumption)))⟩
        · have HS' := hide (show ∀ i f, i < k + 1 → p.fl[i]? = some f → f.nm.size ≤ 300 by
            intro i g hi hg
            rcases Nat.lt_or_ge i k with h | h
            · exact HS.out i g h hg
            · obtain rfl : i = k := by omega
              rw [HL.out] at hg
              obtain rfl := Option.some.inj hg
              omega)
          go_wp2
          go_roundw
          case rel => exact ⟨k + 1, by omega, by go_num, (by repeat (first | with_reducible exact Gr.refl _ | with_reducible assumption | with_reducible refine Gr.alloc ?_ _ | with_reducible refine Gr.drewN ?_ _ | with_reducible refine Gr.drew ?_ | with_reducible refine Gr.setCell ?_ (by first | (dsimp only; omega) | (simp only [World.size_alloc]; omega) | (with_reducible refine Gr.size ?_; (repeat (first | with_reducible exact Gr.refl _ | with_reducible assumption | with_reducible refine Gr.alloc ?_ _ | with_reducible refine Gr.drewN ?_ _ | with_reducible refine Gr.drew ?_ | with_reducible refine Gr.trans ?_ (by with_reducible assumption))); done)) _ | with_reducible refine Gr.trans ?_ (by with_reducible assumption))), HS'⟩
          case measure => simp only [intOf]; omega
      · obtain rfl : k = p.fl.length := by omega
        have HE := hide (bgB_no HH.out HS.out)
        go_wp2
        go_ret
        exact ⟨ret_bool HE.out.symm, (by repeat (first | with_reducible exact Gr.refl _ | with_reducible assumption | with_reducible refine Gr.alloc ?_ _ | with_reducible refine Gr.drewN ?_ _ | with_reducible refine Gr.drew ?_ | with_reducible refine Gr.setCell ?_ (by first | (dsimp only; omega) | (simp only [World.size_alloc]; omega) | (with_reducible refine Gr.size ?_; (repeat (first | with_reducible exact Gr.refl _ | with_reducible assumption | with_reducible refine Gr.alloc ?_ _ | with_reducible refine Gr.drewN ?_ _ | with_reducible refine Gr.drew ?_ | with_reducible refine Gr.trans ?_ (by with_reducible assumption))); done)) _ | with_reducible refine Gr.trans ?_ (by with_reducible assumption)))⟩
theorem sFlg : Tryz.prog.underlying 49 = some (.struct (Tryz.prog.fieldsOf 49)) := by kernel_rfl
theorem pFlg : Tryz.prog.stoodInHeld 49 = false := by kernel_rfl
theorem gFlg : Tryz.prog.eqGuardType Tryz.prog.depth 49 = false := by kernel_rfl
theorem sHol : Tryz.prog.underlying 59 = some (.struct (Tryz.prog.fieldsOf 59)) := by kernel_rfl
theorem pHol : Tryz.prog.stoodInHeld 59 = false := by kernel_rfl
theorem gHol : Tryz.prog.eqGuardType Tryz.prog.depth 59 = false := by kernel_rfl
def flB (a b : Fl) : Bool := (a.nm.toList == b.nm.toList) && (a.pa == b.pa && (a.sd == b.sd && (a.o == b.o && (a.wd == b.wd && (a.ln == b.ln && a.an == b.an)))))
def hoQ (a b : Ho) : Bool := a.fa == b.fa && (a.kd == b.kd && (a.x == b.x && (a.y == b.y && (a.w == b.w && a.h == b.h))))
theorem flB_self (a : Fl) : flB a a = true := by simp [flB]
theorem hoQ_self (a : Ho) : hoQ a a = true := by simp [hoQ]
set_option maxHeartbeats 1000000 in
theorem eqFlg (a b : Fl) (w : World) : (Op.equalIn 10000 49 (flv a) (flv b)).run Tryz.prog w = .ok (flB a b) w := by
  have u3 := Tryz.underlying3
  have a3 := Tryz.isAgg3
  have z3 := Tryz.sizeOf3
  have u4 := Tryz.underlying9
  have a4 := Tryz.isAgg9
  have z4 := Tryz.sizeOf9
  rw [run_equalIn_agg w 9999 49 _ _ sFlg pFlg]
  simp only [Program.fieldsOf, Tryz.underlying49, flB]
  go_simp
  split
  case isFalse h => simp [h]
  rename_i h1
  split
  case isFalse h => simp [h1, h]
  rename_i h2
  split
  case isFalse h => simp [h1, h2, h]
  rename_i h3
  split
  case isFalse h => simp [h1, h2, h3, h]
  rename_i h4
  split
  case isFalse h => simp [h1, h2, h3, h4, h]
  rename_i h5
  split
  case isFalse h => simp [h1, h2, h3, h4, h5, h]
  rename_i h6
  split
  case isFalse h => simp [h1, h2, h3, h4, h5, h6, h]
  rename_i h7
  simp [h1, h2, h3, h4, h5, h6, h7]
set_option maxHeartbeats 1000000 in
theorem eqHol (a b : Ho) (w : World) : (Op.equalIn 10000 59 (hov a) (hov b)).run Tryz.prog w = .ok (hoQ a b) w := by
  have u3 := Tryz.underlying3
  have a3 := Tryz.isAgg3
  have z3 := Tryz.sizeOf3
  rw [run_equalIn_agg w 9999 59 _ _ sHol pHol]
  simp only [Program.fieldsOf, Tryz.underlying59, hoQ]
  go_simp
  split
  case isFalse h => simp [h]
  rename_i h1
  split
  case isFalse h => simp [h1, h]
  rename_i h2
  split
  case isFalse h => simp [h1, h2, h]
  rename_i h3
  split
  case isFalse h => simp [h1, h2, h3, h]
  rename_i h4
  split
  case isFalse h => simp [h1, h2, h3, h4, h]
  rename_i h5
  split
  case isFalse h => simp [h1, h2, h3, h4, h5, h]
  rename_i h6
  simp [h1, h2, h3, h4, h5, h6]
end Go.Proofs.YtjnfodbniohkhaaGreat
set_option linter.unusedVariables false
set_option linter.unusedSimpArgs false
namespace Go.Proofs.YtjnfodbniohkhaaGreat
set_option linter.unusedVariables false
set_option linter.unusedSimpArgs false
open Go Go.ChangeShapes Go.WideShapes Go.ChangeAt Go.RowKit Go.Deep

/-- whether f holds of two lists, place by place -/
noncomputable def lsB {α : Type} (f : α → α → Bool) (l m : List α) : Bool := @decide (l.length = m.length ∧ ∀ (i : Nat) (a b : α), l[i]? = some a → m[i]? = some b → f a b = true) (Classical.propDecidable _)
theorem lsB_iff {α : Type} {f : α → α → Bool} {l m : List α} : lsB f l m = true ↔ l.length = m.length ∧ ∀ (i : Nat) (a b : α), l[i]? = some a → m[i]? = some b → f a b = true := by
  unfold lsB
  exact @decide_eq_true_iff _ (Classical.propDecidable _)
theorem lsB_len {α : Type} {f : α → α → Bool} {l m : List α} (h : ¬ l.length = m.length) : lsB f l m = false := by
  rw [← Bool.not_eq_true, lsB_iff]
  exact fun k => h k.1
theorem lsB_stop {α : Type} {f : α → α → Bool} {l m : List α} {i : Nat} {a b : α} (ha : l[i]? = some a) (hb : m[i]? = some b) (h : f a b = false) : lsB f l m = false := by
  rw [← Bool.not_eq_true, lsB_iff]
  intro k
  have := k.2 i a b ha hb
  rw [h] at this
  cases this
theorem lsB_end {α : Type} {f : α → α → Bool} {l m : List α} (h : l.length = m.length) (k : ∀ (i : Nat) (a b : α), i < l.length → l[i]? = some a → m[i]? = some b → f a b = true) : lsB f l m = true :=
  lsB_iff.2 ⟨h, fun i a b ha hb => k i a b (List.getElem?_eq_some_iff.1 ha).1 ha hb⟩
theorem lsB_self {α : Type} {f : α → α → Bool} (h : ∀ a, f a a = true) (l : List α) : lsB f l l = true :=
  lsB_end rfl fun i a b _ ha hb => by
    rw [ha] at hb
    obtain rfl := Option.some.inj hb
    exact h a
theorem bn_eq {α : Type} [BEq α] {x y : α} (h : (x != y) = false) : (x == y) = true := by
  unfold bne at h
  simpa using h
theorem eq_bn {α : Type} [BEq α] {x y : α} (h : (x == y) = true) : (x != y) = false := by
  unfold bne
  rw [h]
  rfl
end Go.Proofs.YtjnfodbniohkhaaGreat
set_option linter.unusedVariables false
set_option linter.unusedSimpArgs false
namespace Go.Proofs.YtjnfodbniohkhaaGreat
set_option linter.unusedVariables false
set_option linter.unusedSimpArgs false
open Go Go.ChangeShapes Go.WideShapes Go.ChangeAt Go.RowKit Go.Deep

def hdQ (p q : Pa) : Bool := (p.nm.toList == q.nm.toList) && (p.mt.toList == q.mt.toList) && (p.ga == q.ga) && (p.gr == q.gr) && (p.wd == q.wd) && (p.ht == q.ht)
theorem hdQ_parts {p q : Pa} : hdQ p q = true ↔ (p.nm.toList == q.nm.toList) = true ∧ (p.mt.toList == q.mt.toList) = true ∧ (p.ga == q.ga) = true ∧ (p.gr == q.gr) = true ∧ (p.wd == q.wd) = true ∧ (p.ht == q.ht) = true := by
  unfold hdQ
  simp only [Bool.and_eq_true, and_assoc]
/-- whether two parts are equal -/
noncomputable def eqB (p q : Pa) : Bool := hdQ p q && (lsB flB p.fl q.fl && lsB hoQ p.ho q.ho)
theorem eqB_self (p : Pa) : eqB p p = true := by
  unfold eqB
  rw [lsB_self flB_self, lsB_self hoQ_self, hdQ_parts.2 (by simp)]
  rfl
theorem eqB_head {p q : Pa} (h : hdQ p q = false) : eqB p q = false := by
  unfold eqB
  rw [h]
  rfl
theorem eqB_fl {p q : Pa} (h : lsB flB p.fl q.fl = false) : eqB p q = false := by
  unfold eqB
  rw [h]
  simp
theorem eqB_rest {p q : Pa} (h : hdQ p q = true) (k : lsB flB p.fl q.fl = true) : eqB p q = lsB hoQ p.ho q.ho := by
  unfold eqB
  rw [h, k]
  rfl
end Go.Proofs.YtjnfodbniohkhaaGreat
set_option linter.unusedVariables false
set_option linter.unusedSimpArgs false
namespace Go.Proofs.YtjnfodbniohkhaaGreat
set_option linter.unusedVariables false
set_option linter.unusedSimpArgs false
open Go Go.ChangeShapes Go.WideShapes Go.ChangeAt Go.RowKit Go.Deep

theorem infoFl : (Tryz.prog.info? 49).map (fun i => (i.zero, i.size, i.bytes)) = some (some (.agg #[.string ⟨#[]⟩, .int .i64 0, .int .i64 0, .int .i64 0, .int .i64 0, .int .i64 0, .int .i64 0]), 7, 64) := by kernel_rfl
theorem infoHo : (Tryz.prog.info? 59).map (fun i => (i.zero, i.size, i.bytes)) = some (some (.agg #[.int .i64 0, .int .i64 0, .int .i64 0, .int .i64 0, .int .i64 0, .int .i64 0]), 6, 48) := by kernel_rfl
theorem one_fl (f : Fl) : ∀ u ∈ flL f, u.oneCell' = true := by
  intro u hu
  simp at hu
  rcases hu with rfl | rfl | rfl | rfl | rfl | rfl | rfl <;> rfl
theorem one_ho (f : Ho) : ∀ u ∈ hoL f, u.oneCell' = true := by
  intro u hu
  simp at hu
  rcases hu with rfl | rfl | rfl | rfl | rfl | rfl <;> rfl
theorem rd1_fl (w : World) (f : Fl) : ∀ j u, (flL f)[j]? = some u → (w.alloc (.cells #[.string f.nm, iv f.pa, iv f.sd, iv f.o, iv f.wd, iv f.ln, iv f.an] 49)).cell? ((⟨w.heap.size, 0, none⟩ : Addr).add j) = some u := by
  intro j u hu
  rw [addr_add, Nat.zero_add, (Made.new w #[.string f.nm, iv f.pa, iv f.sd, iv f.o, iv f.wd, iv f.ln, iv f.an] 49).2.1 j]
  simpa using hu
theorem rd1_ho (w : World) (f : Ho) : ∀ j u, (hoL f)[j]? = some u → (w.alloc (.cells #[iv f.fa, iv f.kd, iv f.x, iv f.y, iv f.w, iv f.h] 59)).cell? ((⟨w.heap.size, 0, none⟩ : Addr).add j) = some u := by
  intro j u hu
  rw [addr_add, Nat.zero_add, (Made.new w #[iv f.fa, iv f.kd, iv f.x, iv f.y, iv f.w, iv f.h] 59).2.1 j]
  simpa using hu
theorem own_nil {α : Type} (w : World) (base : Nat) (e : TypeId) (k : Nat) (c : α → List Value) : OwnL w base e k c (.slice none 0 0) [] := ⟨by simp, .inl ⟨rfl, rfl⟩⟩
theorem Made.grown {w w' : World} {B lo : Nat} {z : Array Value} {row : Option Nat} (h : Made w B z) (hg : w.grownBy w' row) (hr : ∀ k, row = some k → lo ≤ k) (hB : B < lo) : Made w' B z := by
  have hne : some B ≠ row := fun e => by have := hr B e.symm; omega
  refine ⟨?_, fun o => (hg.cell_far ⟨B, o, none⟩ h.1 hne).trans (h.2.1 o), fun o => (hg.frozen_far ⟨B, o, none⟩ h.1 hne).trans (h.2.2 o)⟩
  have hb := hg.block B h.1 hne
  have h1 := h.1
  refine Nat.not_le.1 fun hle => ?_
  rw [Array.getElem?_eq_none hle, Array.getElem?_eq_getElem h1] at hb
  cases hb
theorem Made.setAt {w : World} {B : Nat} {z z' : Array Value} (h : Made w B z) (i : Nat) (hi : i < z.size) (v : Value) (e : z' = z.setIfInBounds i v) : Made (w.setCell ⟨B, i, none⟩ v) B z' := by
  subst e
  obtain ⟨h0, h1, h2⟩ := h
  refine ⟨by simpa using h0, fun o => ?_, fun o => ?_⟩
  · have e1 := h1 i
    rw [Array.getElem?_eq_getElem hi] at e1
    have e2 := h1 o
    by_cases ho : o = i
    · subst ho
      simp [go_sem, e1, hi]
    · have ho' : ¬ i = o := fun e => ho e.symm
      simp [go_sem, e2, ho, ho', Array.getElem?_setIfInBounds]
  · have := h2 o
    simp [go_sem, this]
theorem own_far {w : World} {base : Nat} {e : TypeId} {k n : Nat} {v : Value} {xs : List Value} (h : w.ownsRow base e k v n xs) {a : Addr} (ha : a.block < base) (u : Value) : (w.setCell a u).ownsRow base e k v n xs := by
  obtain ⟨h0, h1 | ⟨b, cap, cur, h1, hb, h2, h3⟩⟩ := id h
  · exact ⟨h0, .inl h1⟩
  · refine ⟨h0, .inr ⟨b, cap, cur, h1, hb, ?_, h3⟩⟩
    rw [← h2]
    exact Below.heap_setCell w a u b (by omega)
theorem own_grown {w w' : World} {base lo : Nat} {e : TypeId} {k n : Nat} {v : Value} {xs : List Value} {row : Option Nat} (h : w.ownsRow base e k v n xs) (hg : w.grownBy w' row) (hr : ∀ k, row = some k → lo ≤ k) (hv : ∀ k, v.ownBlock = some k → k < lo) : w'.ownsRow base e k v n xs := by
  obtain ⟨h0, h1 | ⟨b, cap, cur, h1, hb, h2, h3⟩⟩ := id h
  · exact ⟨h0, .inl h1⟩
  · refine ⟨h0, .inr ⟨b, cap, cur, h1, hb, ?_, h3⟩⟩
    have hbl : b < lo := hv b (by rw [h1]; rfl)
    have hlt : b < w.heap.size := (Array.getElem?_eq_some_iff.1 h2).1
    rw [← h2]
    exact hg.block b hlt (fun e => by have := hr b e.symm; omega)
theorem take_snoc {α : Type} {l : List α} {k : Nat} {x : α} (h : l[k]? = some x) : l.take (k + 1) = l.take k ++ [x] := by
  rw [List.take_add_one, h]
  rfl
abbrev paZ (p : Pa) (A B : Option Addr) (n c m d : Nat) : Array Value := #[.string p.nm, .string p.mt, iv p.ga, iv p.gr, iv p.wd, iv p.ht, .slice A n c, .slice B m d]
end Go.Proofs.YtjnfodbniohkhaaGreat
set_option linter.unusedVariables false
set_option linter.unusedSimpArgs false
namespace Go.Proofs.YtjnfodbniohkhaaGreat
set_option linter.unusedVariables false
set_option linter.unusedSimpArgs false
open Go Go.ChangeShapes Go.WideShapes Go.ChangeAt Go.RowKit Go.Deep

theorem PaW.own {w w' : World} {p : Pa} {A B A' B' : Option Addr} {c d c' d' lo1 lo2 : Nat} (h : PaW w p A c B d) (h1 : OwnL w' lo1 49 7 flL (.slice A' p.fl.length c') p.fl) (h2 : OwnL w' lo2 59 6 hoL (.slice B' p.ho.length d') p.ho) : PaW w' p A' c' B' d' := by
  obtain ⟨-, r1, a1, a2⟩ := OwnL.rd (c := flL) (fun _ => rfl) h1
  obtain ⟨-, r2, b1, b2⟩ := OwnL.rd (c := hoL) (fun _ => rfl) h2
  unfold maxLen at a2 b2
  exact ⟨⟨r1, a1, by omega, h.fl.len, h.fl.nm⟩, ⟨r2, b1, by omega, h.ho.len⟩, h.nm, h.mt⟩
end Go.Proofs.YtjnfodbniohkhaaGreat
set_option linter.unusedVariables false
set_option linter.unusedSimpArgs false
namespace Go.Proofs.YtjnfodbniohkhaaGreat
set_option linter.unusedVariables false
set_option linter.unusedSimpArgs false
open Go Go.ChangeShapes Go.WideShapes Go.ChangeAt Go.RowKit Go.Deep

/-- what a valid part has -/
structure Good (p : Pa) : Prop where
  base : basB p = true
  nfl : p.fl.length ≤ 5
  nho : p.ho.length ≤ 6
  fl : FlOk p p.fl.length
  ho : p.ho.all (hoB p) = true
  no : anyB clC (facs flC p.wd p.ht p.fl allT p.fl.length) = false
theorem good_of {p : Pa} (h : valE p = 0) : Good p := by
  by_cases h1 : (nameB p.nm.toList && nameB p.mt.toList) = true
  · by_cases h2 : basB p = true
    · by_cases h3 : 5 < p.fl.length ∨ 6 < p.ho.length
      · rw [valE_large h1 h2 h3] at h
        cases h
      · rw [valE_rest h1 h2 h3] at h
        split at h
        · rename_i h4
          exact absurd h h4
        rename_i h4
        split at h
        · cases h
        split at h
        · cases h
        rename_i h5
        split at h
        · cases h
        split at h
        · cases h
        rename_i h6
        exact ⟨h2, by omega, by omega, FlOk.all h2 (by simpa using h4), by simpa using h5, by simpa using h6⟩
    · rw [valE_base h1 (by simpa using h2)] at h
      cases h
  · rw [valE_names (by simpa using h1)] at h
    cases h
/-- the greatest mask of a part -/
def fuM (p : Pa) : Int := ((2 ^ p.fl.length - 1 : Nat) : Int)
theorem fuM_lt {p : Pa} (h : p.fl.length ≤ 5) {m : Int} (hm : wiB m 0 (fuM p) = true) : ∃ k : Nat, m = k ∧ k < 64 := by
  rw [wiB_iff] at hm
  unfold fuM at hm
  have : 2 ^ p.fl.length ≤ 2 ^ 5 := Nat.pow_le_pow_right (by omega) h
  exact ⟨m.toNat, by omega, by omega⟩
/-- the error of a part and a mask -/
noncomputable def facE (p : Pa) (m : Int) : Int := if valE p ≠ 0 then valE p else if wiB m 0 (fuM p) then 0 else 1
/-- the faces of a part; none where there is an error -/
noncomputable def facL (p : Pa) (m : Int) : List Fc := if facE p m = 0 then facs flC p.wd p.ht p.fl (fun i => m.toNat.testBit i) p.fl.length else []
theorem facE_bad {p : Pa} {m : Int} (h : ¬ valE p = 0) : facE p m = valE p := by
  unfold facE
  rw [if_pos h]
theorem facE_arg {p : Pa} {m : Int} (h : valE p = 0) (k : wiB m 0 (fuM p) = false) : facE p m = 1 := by
  unfold facE
  rw [if_neg (by simpa using h), k]
  rfl
theorem facE_ok {p : Pa} {m : Int} (h : valE p = 0) (k : wiB m 0 (fuM p) = true) : facE p m = 0 := by
  unfold facE
  rw [if_neg (by simpa using h), k]
  rfl
theorem facL_none {p : Pa} {m : Int} (h : ¬ facE p m = 0) : facL p m = [] := by
  unfold facL
  rw [if_neg h]
theorem facL_some {p : Pa} {m : Int} (h : facE p m = 0) : facL p m = facs flC p.wd p.ht p.fl (fun i => m.toNat.testBit i) p.fl.length := by
  unfold facL
  rw [if_pos h]
theorem facE_zero {p : Pa} {m : Int} (h : facE p m = 0) : valE p = 0 ∧ wiB m 0 (fuM p) = true := by
  unfold facE at h
  split at h
  · rename_i h1
    exact absurd h h1
  · rename_i h1
    split at h
    · rename_i h2
      exact ⟨by simpa using h1, h2⟩
    · cases h
theorem facL_len {p : Pa} {m : Int} : (facL p m).length ≤ 6 := by
  by_cases h : facE p m = 0
  · rw [facL_some h, facs_len (Nat.le_refl _)]
    have := (good_of (facE_zero h).1).nfl
    omega
  · rw [facL_none h]
    simp
abbrev sle (v : Value) (e : Int) : Value := .tuple #[v, iv e]
theorem ret_sle {v : Value} {a b : Int} (h : a = b) : Ending.returned (sle v a) = .returned (sle v b) := by rw [h]
end Go.Proofs.YtjnfodbniohkhaaGreat
set_option linter.unusedVariables false
set_option linter.unusedSimpArgs false
namespace Go.Proofs.YtjnfodbniohkhaaGreat
set_option linter.unusedVariables false
set_option linter.unusedSimpArgs false
open Go Go.ChangeShapes Go.WideShapes Go.ChangeAt Go.RowKit Go.Deep

/-- a face in the flat pattern: origin, quarter turns, size in units, what it lost -/
structure Pl where
  x : Int
  y : Int
  t : Nat
  w : Int
  h : Int
  lo : Int
def pl0 : Pl := ⟨0, 0, 0, 0, 0, 0⟩
/-- n quarter turns of a point -/
def rt : Nat → Int × Int → Int × Int
  | 0, p => p
  | n + 1, p => (-(rt n p).2, (rt n p).1)
theorem rt_add (m n : Nat) (p : Int × Int) : rt (m + n) p = rt m (rt n p) := by
  induction m with
  | zero => rw [Nat.zero_add]; rfl
  | succ m ih => rw [Nat.succ_add, rt, ih, rt]
theorem rt_lin (n : Nat) (u v : Int) : rt n (u, v) = (u * (rt n (1, 0)).1 + v * (rt n (0, 1)).1, u * (rt n (1, 0)).2 + v * (rt n (0, 1)).2) := by
  induction n with
  | zero => simp [rt]
  | succ n ih =>
    rw [rt, ih, rt, rt]
    simp only [Prod.mk.injEq, and_true]
    rw [Int.mul_neg, Int.mul_neg, Int.neg_add]
theorem rt_bd (n : Nat) {u v m : Int} (h1 : -m ≤ u ∧ u ≤ m) (h2 : -m ≤ v ∧ v ≤ m) : (-m ≤ (rt n (u, v)).1 ∧ (rt n (u, v)).1 ≤ m) ∧ -m ≤ (rt n (u, v)).2 ∧ (rt n (u, v)).2 ≤ m := by
  induction n with
  | zero => exact ⟨h1, h2⟩
  | succ n ih =>
    rw [rt]
    dsimp only
    omega
/-- where the bend line of a flange begins -/
def beU (f : Fl) (q : Pl) : Int := if f.sd = 0 then q.w else if f.sd = 1 then q.w - f.o else if f.sd = 2 then 0 else f.o
def beV (f : Fl) (q : Pl) : Int := if f.sd = 0 then q.h - f.o else if f.sd = 1 then 0 else if f.sd = 2 then f.o else q.h
def ptX (q : Pl) (u v : Int) : Int := q.x + (rt q.t (u, v)).1
def ptY (q : Pl) (u v : Int) : Int := q.y + (rt q.t (u, v)).2
def abv (q : Pl) (v : Int) : Int := v * 720 - q.lo
def plC (q : Pl) (f : Fl) (d : Int) : Pl := ⟨ptX q (beU f q * 720) (abv q (beV f q)), ptY q (beU f q * 720) (abv q (beV f q)), q.t + (3 - f.sd).toNat, f.wd, f.ln, d⟩
/-- the places of the base and of k flanges; D: what a flange loses -/
def pls (w h : Int) (l : List Fl) (D : Fl → Int) : Nat → List Pl
  | 0 => [⟨0, 0, 0, w, h, 0⟩]
  | k + 1 => match l[k]? with
    | none => pls w h l D k
    | some f => pls w h l D k ++ [plC (((pls w h l D k)[f.pa.toNat]?).getD pl0) f (D f)]
theorem pls_succ {w h : Int} {l : List Fl} {D : Fl → Int} {k : Nat} {f : Fl} (hf : l[k]? = some f) : pls w h l D (k + 1) = pls w h l D k ++ [plC (((pls w h l D k)[f.pa.toNat]?).getD pl0) f (D f)] := by
  rw [pls, hf]
theorem pls_len {w h : Int} {l : List Fl} {D : Fl → Int} : ∀ {k : Nat}, k ≤ l.length → (pls w h l D k).length = k + 1
  | 0, _ => rfl
  | k + 1, hk => by
    obtain ⟨f, hf⟩ : ∃ f, l[k]? = some f := ⟨_, List.getElem?_eq_getElem (by omega)⟩
    rw [pls_succ hf, List.length_append, pls_len (by omega)]
    rfl
theorem pls_at {w h : Int} {l : List Fl} {D : Fl → Int} {j : Nat} : ∀ {k : Nat}, j ≤ k → k ≤ l.length → (pls w h l D k)[j]? = (pls w h l D j)[j]?
  | 0, hj, _ => by
    obtain rfl : j = 0 := by omega
    rfl
  | k + 1, hj, hk => by
    rcases Nat.lt_or_ge j (k + 1) with h1 | h1
    · obtain ⟨f, hf⟩ : ∃ f, l[k]? = some f := ⟨_, List.getElem?_eq_getElem (by omega)⟩
      rw [pls_succ hf, List.getElem?_append_left (by rw [pls_len (by omega)]; omega)]
      exact pls_at (by omega) (by omega)
    · obtain rfl : j = k + 1 := by omega
      rfl
/-- what a place keeps -/
structure PlB (k : Nat) (q : Pl) : Prop where
  x : -(122400 * (k : Int)) ≤ q.x ∧ q.x ≤ 122400 * (k : Int)
  y : -(122400 * (k : Int)) ≤ q.y ∧ q.y ≤ 122400 * (k : Int)
  t : q.t ≤ 3 * k
  w : 1 ≤ q.w ∧ q.w ≤ 150
  h : 1 ≤ q.h ∧ q.h ≤ 150
  lo : 0 ≤ q.lo ∧ q.lo ≤ 14400
/-- what a flange keeps -/
structure FlB (f : Fl) : Prop where
  sd : sdOk f.sd
  o : 0 ≤ f.o ∧ f.o ≤ 150
  wd : 1 ≤ f.wd ∧ f.wd ≤ 150
  ln : 1 ≤ f.ln ∧ f.ln ≤ 150
theorem be_bd {k : Nat} {q : Pl} {f : Fl} (hq : PlB k q) (hf : FlB f) (ho : f.o ≤ 150) : (-150 ≤ beU f q ∧ beU f q ≤ 150) ∧ -150 ≤ beV f q ∧ beV f q ≤ 150 := by
  have h1 := hq.w
  have h2 := hq.h
  have h3 := hf.o
  unfold beU beV
  constructor <;> (split <;> (try split) <;> (try split) <;> omega)
/-- the point on the parent at which the bend line begins, in ticks -/
theorem be_pos {k : Nat} {q : Pl} {f : Fl} (hq : PlB k q) (hf : FlB f) (hs : f.o ≤ (if f.sd = 0 ∨ f.sd = 2 then q.h else q.w)) : (0 ≤ beU f q ∧ beU f q ≤ 150) ∧ 0 ≤ beV f q ∧ beV f q ≤ 150 := by
  have h1 := hq.w
  have h2 := hq.h
  have h3 := hf.o
  unfold beU beV
  split at hs <;> (constructor <;> (split <;> (try split) <;> (try split) <;> omega))
theorem plC_b {k : Nat} {q : Pl} {f : Fl} {d : Int} (hq : PlB k q) (hf : FlB f) (hd : 0 ≤ d ∧ d ≤ 14400) : PlB (k + 1) (plC q f d) := by
  obtain ⟨b1, b2⟩ := be_bd hq hf hf.o.2
  have h1 := hq.lo
  obtain ⟨r1, r2⟩ := rt_bd q.t (u := beU f q * 720) (v := abv q (beV f q)) (m := 122400) (by omega) (by unfold abv; omega)
  have h2 := hq.x
  have h3 := hq.y
  have h4 := hq.t
  refine ⟨?_, ?_, ?_, hf.wd, hf.ln, hd⟩
  · show -(122400 * ((k + 1 : Nat) : Int)) ≤ q.x + _ ∧ q.x + _ ≤ 122400 * ((k + 1 : Nat) : Int)
    omega
  · show -(122400 * ((k + 1 : Nat) : Int)) ≤ q.y + _ ∧ q.y + _ ≤ 122400 * ((k + 1 : Nat) : Int)
    omega
  · show q.t + (3 - f.sd).toNat ≤ 3 * (k + 1)
    have := hf.sd
    unfold sdOk at this
    omega
theorem PlB.mono {j k : Nat} {q : Pl} (h : PlB j q) (hk : j ≤ k) : PlB k q := by
  have h1 := h.x
  have h2 := h.y
  have h3 := h.t
  exact ⟨by omega, by omega, by omega, h.w, h.h, h.lo⟩
/-- what a list of flanges keeps -/
structure FlsB (w h : Int) (l : List Fl) (D : Fl → Int) : Prop where
  bw : 1 ≤ w ∧ w ≤ 150
  bh : 1 ≤ h ∧ h ≤ 150
  pa : ∀ (i : Nat) (f : Fl), l[i]? = some f → 0 ≤ f.pa ∧ f.pa ≤ i
  fl : ∀ (i : Nat) (f : Fl), l[i]? = some f → FlB f
  d : ∀ (i : Nat) (f : Fl), l[i]? = some f → 0 ≤ D f ∧ D f ≤ 14400
theorem pls_b {w h : Int} {l : List Fl} {D : Fl → Int} (H : FlsB w h l D) : ∀ {k : Nat}, k ≤ l.length → ∀ q ∈ pls w h l D k, PlB k q
  | 0, _, q, hq => by
    obtain rfl := List.mem_singleton.1 (show q ∈ [(⟨0, 0, 0, w, h, 0⟩ : Pl)] from hq)
    exact ⟨by simp, by simp, by simp, H.bw, H.bh, by simp⟩
  | k + 1, hk, q, hq => by
    obtain ⟨f, hf⟩ : ∃ f, l[k]? = some f := ⟨_, List.getElem?_eq_getElem (by omega)⟩
    rw [pls_succ hf, List.mem_append, List.mem_singleton] at hq
    rcases hq with hq | rfl
    · exact (pls_b H (by omega) q hq).mono (by omega)
    · obtain ⟨h1, h2⟩ := H.pa k f hf
      obtain ⟨g, hg⟩ : ∃ g, (pls w h l D k)[f.pa.toNat]? = some g := ⟨_, List.getElem?_eq_getElem (by rw [pls_len (by omega)]; omega)⟩
      rw [hg]
      exact plC_b (pls_b H (by omega) g (List.mem_of_getElem? hg)) (H.fl k f hf) (H.d k f hf)
/-- the parent of a flange, and the flange's own place -/
theorem pls_flange {w h : Int} {l : List Fl} {D : Fl → Int} (H : FlsB w h l D) {i : Nat} {f : Fl} (hf : l[i]? = some f) :
    ∃ g, (pls w h l D l.length)[f.pa.toNat]? = some g ∧ (pls w h l D l.length)[i + 1]? = some (plC g f (D f)) := by
  have hi := (List.getElem?_eq_some_iff.1 hf).1
  obtain ⟨h1, h2⟩ := H.pa i f hf
  obtain ⟨g, hg⟩ : ∃ g, (pls w h l D i)[f.pa.toNat]? = some g := ⟨_, List.getElem?_eq_getElem (by rw [pls_len (by omega)]; omega)⟩
  refine ⟨g, ?_, ?_⟩
  · rw [pls_at (by omega) (Nat.le_refl _), ← pls_at (k := i) (by omega) (by omega)]
    exact hg
  · rw [pls_at (by omega) (Nat.le_refl _), pls_succ hf, hg, List.getElem?_append_right (by rw [pls_len (by omega)]; omega), pls_len (by omega)]
    simp
theorem pls_zero {w h : Int} {l : List Fl} {D : Fl → Int} : (pls w h l D l.length)[0]? = some ⟨0, 0, 0, w, h, 0⟩ := by
  rw [pls_at (Nat.zero_le _) (Nat.le_refl _)]
  rfl
/-- size and loss of a place -/
theorem pls_size {w h : Int} {l : List Fl} {D : Fl → Int} (H : FlsB w h l D) {i : Nat} {f : Fl} {q : Pl} (hf : l[i]? = some f) (hq : (pls w h l D l.length)[i + 1]? = some q) : q.w = f.wd ∧ q.h = f.ln ∧ q.lo = D f := by
  obtain ⟨g, _, h2⟩ := pls_flange H hf
  rw [h2] at hq
  obtain rfl := Option.some.inj hq
  exact ⟨rfl, rfl, rfl⟩
/-- the reference's frame of a face -/
structure Fr where
  x : Int
  y : Int
  ux : Int
  uy : Int
  vx : Int
  vy : Int
  w : Int
  h : Int
  le : Int
def frO (q : Pl) : Fr := ⟨q.x, q.y, (rt q.t (1, 0)).1, (rt q.t (1, 0)).2, (rt q.t (0, 1)).1, (rt q.t (0, 1)).2, q.w * 720, q.h * 720 - q.lo, q.lo⟩
theorem ptX_lin (q : Pl) (u v : Int) : ptX q u v = q.x + u * (frO q).ux + v * (frO q).vx := by
  unfold ptX
  rw [rt_lin]
  simp only [frO]
  omega
theorem ptY_lin (q : Pl) (u v : Int) : ptY q u v = q.y + u * (frO q).uy + v * (frO q).vy := by
  unfold ptY
  rw [rt_lin]
  simp only [frO]
  omega
theorem rt1 (p : Int × Int) : rt 1 p = (-p.2, p.1) := rfl
theorem rt2 (p : Int × Int) : rt 2 p = (-p.1, -p.2) := rfl
theorem rt3 (p : Int × Int) : rt 3 p = (-(-p.2), -p.1) := rfl
theorem rt_neg (n : Nat) (u v : Int) : rt n (-u, -v) = (-(rt n (u, v)).1, -(rt n (u, v)).2) := by
  induction n with
  | zero => rfl
  | succ n ih => rw [rt, ih, rt]
/-- the frame of a flange, side by side -/
theorem frO_dir (q : Pl) (f : Fl) (d : Int) (hs : sdOk f.sd) :
    ((frO (plC q f d)).ux, (frO (plC q f d)).uy, (frO (plC q f d)).vx, (frO (plC q f d)).vy) =
      if f.sd = 0 then (-(frO q).vx, -(frO q).vy, (frO q).ux, (frO q).uy) else if f.sd = 1 then (-(frO q).ux, -(frO q).uy, -(frO q).vx, -(frO q).vy)
      else if f.sd = 2 then ((frO q).vx, (frO q).vy, -(frO q).ux, -(frO q).uy) else ((frO q).ux, (frO q).uy, (frO q).vx, (frO q).vy) := by
  have n10 := rt_neg q.t 1 0
  have n01 := rt_neg q.t 0 1
  rcases hs with h | h | h | h <;> simp only [frO, plC, h, Int.reduceEq, Int.reduceSub, if_true, if_false, rt_add]
  · rw [show (3 : Int).toNat = 3 from rfl, rt3, rt3]
    simp only [Int.neg_zero, Int.neg_neg]
    simp only [Int.neg_zero] at n10 n01
    rw [n01]
  · rw [show (2 : Int).toNat = 2 from rfl, rt2, rt2]
    simp only [Int.neg_zero]
    simp only [Int.neg_zero] at n10 n01
    rw [n10, n01]
  · rw [show (1 : Int).toNat = 1 from rfl, rt1, rt1]
    simp only [Int.neg_zero]
    simp only [Int.neg_zero] at n10 n01
    rw [n10]
  · rw [show (0 : Int).toNat = 0 from rfl, rt, rt]
end Go.Proofs.YtjnfodbniohkhaaGreat
set_option linter.unusedVariables false
set_option linter.unusedSimpArgs false
namespace Go.Proofs.YtjnfodbniohkhaaGreat
set_option linter.unusedVariables false
set_option linter.unusedSimpArgs false
open Go Go.ChangeShapes Go.WideShapes Go.ChangeAt Go.RowKit Go.Deep

abbrev plv (q : Pl) : Value := .agg #[iv q.x, iv q.y, iv (q.t : Int), iv q.w, iv q.h, iv q.lo]
abbrev plL (q : Pl) : List Value := [iv q.x, iv q.y, iv (q.t : Int), iv q.w, iv q.h, iv q.lo]
abbrev fmv (q : Pl) : Value := .agg #[iv q.x, iv q.y, iv (q.t : Int)]
theorem ret_i2 {a b c d : Int} (h : a = c) (k : b = d) : Ending.returned (.tuple #[iv a, iv b]) = .returned (.tuple #[iv c, iv d]) := by rw [h, k]
theorem above_any (q : Pl) (v : Int) (w : World) (h1 : -1000000 ≤ v ∧ v ≤ 1000000) (h2 : 0 ≤ q.lo ∧ q.lo ≤ 14400) :
    Calls Tryz.prog 54 #[plv q, iv v] w fun e w' => e = .returned (iv (abv q v)) ∧ Gr w w' := by
  have W1 : IntKind.i64.wrap (v * 720) = v * 720 := IntWalk.i64_in _ (by omega)
  have W2 : IntKind.i64.wrap (v * 720 - q.lo) = v * 720 - q.lo := IntWalk.i64_in _ (by omega)
  have HE := hide (show v * 720 - q.lo = abv q v from rfl)
  clear h1 h2
  go_enter Tryz.func54, Tryz.ntmps54
  go_wp2
  go_ret
  exact ⟨ret_iv HE.out, (by repeat (first | with_reducible exact Gr.refl _ | with_reducible assumption | with_reducible refine Gr.alloc ?_ _ | with_reducible refine Gr.drewN ?_ _ | with_reducible refine Gr.drew ?_ | with_reducible refine Gr.setCell ?_ (by first | (dsimp only; omega) | (simp only [World.size_alloc]; omega) | (with_reducible refine Gr.size ?_; (repeat (first | with_reducible exact Gr.refl _ | with_reducible assumption | with_reducible refine Gr.alloc ?_ _ | with_reducible refine Gr.drewN ?_ _ | with_reducible refine Gr.drew ?_ | with_reducible refine Gr.trans ?_ (by with_reducible assumption))); done)) _ | with_reducible refine Gr.trans ?_ (by with_reducible assumption)))⟩
theorem beginning_any (f : Fl) (q : Pl) (w : World) (h1 : 0 ≤ f.o ∧ f.o ≤ 150) (h2 : 1 ≤ q.w ∧ q.w ≤ 150) (h3 : 1 ≤ q.h ∧ q.h ≤ 150) :
    Calls Tryz.prog 74 #[flv f, plv q] w fun e w' => e = .returned (.tuple #[iv (beU f q), iv (beV f q)]) ∧ Gr w w' := by
  have W1 : IntKind.i64.wrap (q.h - f.o) = q.h - f.o := IntWalk.i64_in _ (by omega)
  have W2 : IntKind.i64.wrap (q.w - f.o) = q.w - f.o := IntWalk.i64_in _ (by omega)
  have HU := hide (show beU f q = _ from rfl)
  have HV := hide (show beV f q = _ from rfl)
  clear h1 h2 h3
  by_cases s0 : f.sd = 0
  · rw [show beU f q = q.w by unfold beU; rw [if_pos s0], show beV f q = q.h - f.o by unfold beV; rw [if_pos s0]]
    go_enter Tryz.func74, Tryz.ntmps74
    go_upto_region 3 with fail
    have GC := @GrW.cell
    refine wp_region_grw _ (by kernel_rfl) (by kernel_rfl) (Gr.refl _) ?_
    repeat (go_big_quiet_step ((first | fail)))
    refine wpQuiet_nil ?_
    intro wq hwq
    obtain ⟨gq, hwq'⟩ := hwq
    subst hwq'
    clear GC
    have gq1 := gq.gr
    generalize gq.w = wq at gq1 ⊢
    obtain ⟨Xq, Yq, cq, fq⟩ := gq1.use
    have sq := gq1.size
    (try simp only [World.size_alloc, World.size_setCell, World.heap_drewN] at sq)
    go_wp2
    refine bodyPost_ret (v := .tuple #[iv (q.w), iv (q.h - f.o)]) (by simp [results, Tryz.results74, go_sem, *]) rfl ⟨rfl, (by repeat (first | with_reducible exact Gr.refl _ | with_reducible assumption | with_reducible refine Gr.alloc ?_ _ | with_reducible refine Gr.drewN ?_ _ | with_reducible refine Gr.drew ?_ | with_reducible refine Gr.setCell ?_ (by first | (dsimp only; omega) | (simp only [World.size_alloc]; omega) | (with_reducible refine Gr.size ?_; (repeat (first | with_reducible exact Gr.refl _ | with_reducible assumption | with_reducible refine Gr.alloc ?_ _ | with_reducible refine Gr.drewN ?_ _ | with_reducible refine Gr.drew ?_ | with_reducible refine Gr.trans ?_ (by with_reducible assumption))); done)) _ | with_reducible refine Gr.trans ?_ (by with_reducible assumption)))⟩
  by_cases s1 : f.sd = 1
  · rw [show beU f q = q.w - f.o by unfold beU; rw [if_neg s0, if_pos s1], show beV f q = 0 by unfold beV; rw [if_neg s0, if_pos s1]]
    go_enter Tryz.func74, Tryz.ntmps74
    go_wp2
    refine bodyPost_ret (v := .tuple #[iv (q.w - f.o), iv (0)]) (by simp [results, Tryz.results74, go_sem, *]) rfl ⟨rfl, (by repeat (first | with_reducible exact Gr.refl _ | with_reducible assumption | with_reducible refine Gr.alloc ?_ _ | with_reducible refine Gr.drewN ?_ _ | with_reducible refine Gr.drew ?_ | with_reducible refine Gr.setCell ?_ (by first | (dsimp only; omega) | (simp only [World.size_alloc]; omega) | (with_reducible refine Gr.size ?_; (repeat (first | with_reducible exact Gr.refl _ | with_reducible assumption | with_reducible refine Gr.alloc ?_ _ | with_reducible refine Gr.drewN ?_ _ | with_reducible refine Gr.drew ?_ | with_reducible refine Gr.trans ?_ (by with_reducible assumption))); done)) _ | with_reducible refine Gr.trans ?_ (by with_reducible assumption)))⟩
  by_cases s2 : f.sd = 2
  · rw [show beU f q = 0 by unfold beU; rw [if_neg s0, if_neg s1, if_pos s2], show beV f q = f.o by unfold beV; rw [if_neg s0, if_neg s1, if_pos s2]]
    go_enter Tryz.func74, Tryz.ntmps74
    go_upto_region 7 with fail
    have GC := @GrW.cell
    refine wp_region_grw _ (by kernel_rfl) (by kernel_rfl) (Gr.refl _) ?_
    repeat (go_big_quiet_step ((first | fail)))
    refine wpQuiet_nil ?_
    intro wq hwq
    obtain ⟨gq, hwq'⟩ := hwq
    subst hwq'
    clear GC
    have gq1 := gq.gr
    generalize gq.w = wq at gq1 ⊢
    obtain ⟨Xq, Yq, cq, fq⟩ := gq1.use
    have sq := gq1.size
    (try simp only [World.size_alloc, World.size_setCell, World.heap_drewN] at sq)
    go_wp2
    refine bodyPost_ret (v := .tuple #[iv (0), iv (f.o)]) (by simp [results, Tryz.results74, go_sem, *]) rfl ⟨rfl, (by repeat (first | with_reducible exact Gr.refl _ | with_reducible assumption | with_reducible refine Gr.alloc ?_ _ | with_reducible refine Gr.drewN ?_ _ | with_reducible refine Gr.drew ?_ | with_reducible refine Gr.setCell ?_ (by first | (dsimp only; omega) | (simp only [World.size_alloc]; omega) | (with_reducible refine Gr.size ?_; (repeat (first | with_reducible exact Gr.refl _ | with_reducible assumption | with_reducible refine Gr.alloc ?_ _ | with_reducible refine Gr.drewN ?_ _ | with_reducible refine Gr.drew ?_ | with_reducible refine Gr.trans ?_ (by with_reducible assumption))); done)) _ | with_reducible refine Gr.trans ?_ (by with_reducible assumption)))⟩
  · rw [show beU f q = f.o by unfold beU; rw [if_neg s0, if_neg s1, if_neg s2], show beV f q = q.h by unfold beV; rw [if_neg s0, if_neg s1, if_neg s2]]
    go_enter Tryz.func74, Tryz.ntmps74
    go_upto_region 8 with fail
    have GC := @GrW.cell
    refine wp_region_grw _ (by kernel_rfl) (by kernel_rfl) (Gr.refl _) ?_
    repeat (go_big_quiet_step ((first | fail)))
    refine wpQuiet_nil ?_
    intro wq hwq
    obtain ⟨gq, hwq'⟩ := hwq
    subst hwq'
    clear GC
    have gq1 := gq.gr
    generalize gq.w = wq at gq1 ⊢
    obtain ⟨Xq, Yq, cq, fq⟩ := gq1.use
    have sq := gq1.size
    (try simp only [World.size_alloc, World.size_setCell, World.heap_drewN] at sq)
    go_wp2
    refine bodyPost_ret (v := .tuple #[iv (f.o), iv (q.h)]) (by simp [results, Tryz.results74, go_sem, *]) rfl ⟨rfl, (by repeat (first | with_reducible exact Gr.refl _ | with_reducible assumption | with_reducible refine Gr.alloc ?_ _ | with_reducible refine Gr.drewN ?_ _ | with_reducible refine Gr.drew ?_ | with_reducible refine Gr.setCell ?_ (by first | (dsimp only; omega) | (simp only [World.size_alloc]; omega) | (with_reducible refine Gr.size ?_; (repeat (first | with_reducible exact Gr.refl _ | with_reducible assumption | with_reducible refine Gr.alloc ?_ _ | with_reducible refine Gr.drewN ?_ _ | with_reducible refine Gr.drew ?_ | with_reducible refine Gr.trans ?_ (by with_reducible assumption))); done)) _ | with_reducible refine Gr.trans ?_ (by with_reducible assumption)))⟩
set_option maxHeartbeats 1000000 in
theorem point_any (q : Pl) (u v : Int) (w : World) (h1 : -10000000 ≤ u ∧ u ≤ 10000000) (h2 : -10000000 ≤ v ∧ v ≤ 10000000) (h3 : -10000000 ≤ q.x ∧ q.x ≤ 10000000) (h4 : -10000000 ≤ q.y ∧ q.y ≤ 10000000) (h5 : q.t ≤ 1000) :
    Calls Tryz.prog 75 #[fmv q, iv u, iv v] w fun e w' => e = .returned (.tuple #[iv (ptX q u v), iv (ptY q u v)]) ∧ Gr w w' := by
  have HB := hide (fun n => rt_bd n h1 h2)
  have HX := hide (show ∀ z : Int × Int, z = rt q.t (u, v) → q.x + z.1 = ptX q u v ∧ q.y + z.2 = ptY q u v by rintro z rfl; exact ⟨rfl, rfl⟩)
  clear h1 h2
  go_enter Tryz.func75, Tryz.ntmps75
  go_wp2
  go_loopw [1, 2, 10] (fun a b i wr => ∃ k : Nat, k ≤ q.t ∧ i = iv k ∧ a = iv (rt k (u, v)).1 ∧ b = iv (rt k (u, v)).2 ∧ Gr (w.alloc (.cells #[iv q.x, iv q.y, iv (q.t : Int)] 97)) wr) (fun _ _ i _ => q.t - (intOf i).toNat)
  case atStart => exact ⟨0, by omega, rfl, rfl, rfl, Gr.refl _⟩
  case round =>
    obtain ⟨k, hk, rfl, rfl, rfl, g⟩ := hrel
    obtain ⟨Xr, Yr, cr, fr⟩ := g.use
    have zr := g.size
    simp only [World.size_alloc] at zr
    have l0 : w.heap.size < wr.heap.size := by omega
    obtain ⟨b1, b2⟩ := HB.out k
    by_cases hkl : k < q.t
    · have W1 : IntKind.i64.wrap (-(rt k (u, v)).2) = (rt (k + 1) (u, v)).1 := by rw [IntWalk.i64_in _ (by omega)]; rfl
      go_wp2
      go_roundw
      case rel => exact ⟨k + 1, by omega, by go_num, rfl, rfl, (by repeat (first | with_reducible exact Gr.refl _ | with_reducible assumption | with_reducible refine Gr.alloc ?_ _ | with_reducible refine Gr.drewN ?_ _ | with_reducible refine Gr.drew ?_ | with_reducible refine Gr.setCell ?_ (by first | (dsimp only; omega) | (simp only [World.size_alloc]; omega) | (with_reducible refine Gr.size ?_; (repeat (first | with_reducible exact Gr.refl _ | with_reducible assumption | with_reducible refine Gr.alloc ?_ _ | with_reducible refine Gr.drewN ?_ _ | with_reducible refine Gr.drew ?_ | with_reducible refine Gr.trans ?_ (by with_reducible assumption))); done)) _ | with_reducible refine Gr.trans ?_ (by with_reducible assumption)))⟩
      case measure => simp only [intOf]; omega
    · obtain rfl : k = q.t := by omega
      obtain ⟨e1, e2⟩ := HX.out _ rfl
      have W1 : IntKind.i64.wrap (q.x + (rt q.t (u, v)).1) = ptX q u v := by rw [IntWalk.i64_in _ (by omega)]; exact e1
      have W2 : IntKind.i64.wrap (q.y + (rt q.t (u, v)).2) = ptY q u v := by rw [IntWalk.i64_in _ (by omega)]; exact e2
      clear e1 e2 HX HB b1 b2
      generalize rt q.t (u, v) = z at *
      go_upto_region 5 with fail
      have GC := @GrW.cell
      refine wp_region_grw _ (by kernel_rfl) (by kernel_rfl) (Gr.refl _) ?_
      repeat (go_big_quiet_step ((first | fail)))
      refine wpQuiet_nil ?_
      intro wq hwq
      obtain ⟨gq, hwq'⟩ := hwq
      subst hwq'
      clear GC
      have gq1 := gq.gr
      generalize gq.w = wq at gq1 ⊢
      obtain ⟨Xq, Yq, cq, fq⟩ := gq1.use
      have sq := gq1.size
      (try simp only [World.size_alloc, World.size_setCell, World.heap_drewN] at sq)
      go_wp2
      refine bodyPost_ret (v := .tuple #[iv (ptX q u v), iv (ptY q u v)]) (by simp [results, Tryz.results75, go_sem, *]) rfl ⟨rfl, (by repeat (first | with_reducible exact Gr.refl _ | with_reducible assumption | with_reducible refine Gr.alloc ?_ _ | with_reducible refine Gr.drewN ?_ _ | with_reducible refine Gr.drew ?_ | with_reducible refine Gr.setCell ?_ (by first | (dsimp only; omega) | (simp only [World.size_alloc]; omega) | (with_reducible refine Gr.size ?_; (repeat (first | with_reducible exact Gr.refl _ | with_reducible assumption | with_reducible refine Gr.alloc ?_ _ | with_reducible refine Gr.drewN ?_ _ | with_reducible refine Gr.drew ?_ | with_reducible refine Gr.trans ?_ (by with_reducible assumption))); done)) _ | with_reducible refine Gr.trans ?_ (by with_reducible assumption)))⟩
theorem turnsTo_any (s : Int) (w : World) (h : sdOk s) :
    Calls Tryz.prog 76 #[iv s] w fun e w' => e = .returned (iv (3 - s)) ∧ w = w' := by
  have W1 : IntKind.i64.wrap (3 - s) = 3 - s := by unfold sdOk at h; rw [IntWalk.i64_in _ (by omega)]
  clear h
  go_enter Tryz.func76, Tryz.ntmps76
  go_wp2
  go_ret
  exact ⟨rfl, rfl⟩
set_option maxRecDepth 100000 in
set_option maxHeartbeats 1000000 in
theorem placeOf_any (f : Fl) (q : Pl) (d : Int) (k : Nat) (w : World) (hq : PlB k q) (hf : FlB f) (hk : k ≤ 10) :
    Calls Tryz.prog 53 #[flv f, plv q, iv d] w fun e w' => e = .returned (plv (plC q f d)) ∧ Gr w w' := by
  obtain ⟨u1, u2⟩ := be_bd hq hf hf.o.2
  have hx := hq.x
  have hy := hq.y
  have ht := hq.t
  have hlo := hq.lo
  have hw := hq.w
  have hh := hq.h
  have ho := hf.o
  have HA := hide (fun w => above_any q (beV f q) w (by omega) (by omega))
  have HB := hide (fun w => beginning_any f q w (by omega) (by omega) (by omega))
  have HP := hide (fun w => point_any q (beU f q * 720) (abv q (beV f q)) w (by omega) (by unfold abv; omega) (by omega) (by omega) (by omega))
  have HT := hide (fun w => turnsTo_any f.sd w hf.sd)
  have hs := hf.sd
  have W1 : IntKind.i64.wrap (beU f q * 720) = beU f q * 720 := IntWalk.i64_in _ (by omega)
  have W2 : IntKind.i64.wrap ((q.t : Int) + (3 - f.sd)) = ((plC q f d).t : Int) := by
    unfold sdOk at hs
    rw [IntWalk.i64_in _ (by omega)]
    show _ = ((q.t + (3 - f.sd).toNat : Nat) : Int)
    omega
  have HE := hide (show plC q f d = ⟨ptX q (beU f q * 720) (abv q (beV f q)), ptY q (beU f q * 720) (abv q (beV f q)), (plC q f d).t, f.wd, f.ln, d⟩ from rfl)
  rw [HE.out]
  clear hq hf u1 u2 hx hy ht hlo hw hh ho hs
  generalize (plC q f d).t = t9 at *
  generalize ptX q (beU f q * 720) (abv q (beV f q)) = px at *
  generalize ptY q (beU f q * 720) (abv q (beV f q)) = py at *
  generalize abv q (beV f q) = ab at *
  generalize beU f q = bu at *
  generalize beV f q = bv at *
  generalize 3 - f.sd = tt at *
  clear HE
  go_enter Tryz.func53, Tryz.ntmps53
  go_upto_region 2 with (first | (go_at_call 74; refine (HB.out _).mono ?_; rintro e w1 ⟨rfl, g1⟩; obtain ⟨X1, Y1, c1, f1⟩ := g1.use; have z1 := g1.size; (try simp only [World.size_alloc, World.size_setCell, World.heap_drewN, Nat.add_one_le_iff] at z1); (try have l0 : w.heap.size < w1.heap.size := by omega); (try have l1 : w.heap.size + 1 < w1.heap.size := by omega); (try have l2 : w.heap.size + 1 + 1 < w1.heap.size := by omega)))
  have GC := @GrW.cell
  refine wp_region_grw _ (by kernel_rfl) (by kernel_rfl) (Gr.refl _) ?_
  repeat (go_big_quiet_step ((first | (go_at_call 54; exact quiet_grw (HA.out _)) | (go_at_call 75; exact quiet_grw (HP.out _)))))
  refine wpQuiet_nil ?_
  intro wq hwq
  obtain ⟨gq, hwq'⟩ := hwq
  subst hwq'
  clear GC
  have gq1 := gq.gr
  generalize gq.w = wq at gq1 ⊢
  obtain ⟨Xq, Yq, cq, fq⟩ := gq1.use
  have sq := gq1.size
  (try simp only [World.size_alloc, World.size_setCell, World.heap_drewN] at sq)
  have l0 : w.heap.size < wq.heap.size := by omega
  have l1 : w.heap.size + 1 < wq.heap.size := by omega
  have l2 : w.heap.size + 1 + 1 < wq.heap.size := by omega
  go_upto_region 3 with fail
  have GC := @GrW.cell
  refine wp_region_grw_tail _ 16 (by kernel_rfl) (by kernel_rfl) (Gr.refl _) ?_
  simp only [List.take_succ_cons, List.take_zero, List.drop_succ_cons, List.drop_zero]
  repeat (go_big_quiet_step ((first | (go_at_call 76; exact quiet_grs (HT.out _)))))
  refine wpQuiet_nil ?_
  intro wq hwq
  obtain ⟨gq, hwq'⟩ := hwq
  subst hwq'
  clear GC
  have gq1 := gq.gr
  generalize gq.w = wq at gq1 ⊢
  obtain ⟨Xq, Yq, cq, fq⟩ := gq1.use
  have sq := gq1.size
  (try simp only [World.size_alloc, World.size_setCell, World.heap_drewN] at sq)
  go_wp2
  refine bodyPost_ret (v := plv ⟨px, py, t9, f.wd, f.ln, d⟩) (by simp [results, Tryz.results53, go_sem, *]) rfl ⟨rfl, (by repeat (first | with_reducible exact Gr.refl _ | with_reducible assumption | with_reducible refine Gr.alloc ?_ _ | with_reducible refine Gr.drewN ?_ _ | with_reducible refine Gr.drew ?_ | with_reducible refine Gr.setCell ?_ (by first | (dsimp only; omega) | (simp only [World.size_alloc]; omega) | (with_reducible refine Gr.size ?_; (repeat (first | with_reducible exact Gr.refl _ | with_reducible assumption | with_reducible refine Gr.alloc ?_ _ | with_reducible refine Gr.drewN ?_ _ | with_reducible refine Gr.drew ?_ | with_reducible refine Gr.trans ?_ (by with_reducible assumption))); done)) _ | with_reducible refine Gr.trans ?_ (by with_reducible assumption)))⟩
end Go.Proofs.YtjnfodbniohkhaaGreat
set_option linter.unusedVariables false
set_option linter.unusedSimpArgs false
namespace Go.Proofs.YtjnfodbniohkhaaGreat
set_option linter.unusedVariables false
set_option linter.unusedSimpArgs false
open Go Go.ChangeShapes Go.WideShapes Go.ChangeAt Go.RowKit Go.Deep

/-- whether each of the first k + 1 faces moves with the flange fl -/
def mvs (l : List Fl) (fl : Nat) : Nat → List Bool
  | 0 => [false]
  | k + 1 => match l[k]? with
    | some f => mvs l fl k ++ [decide (k = fl) || (mvs l fl k)[f.pa.toNat]?.getD false]
    | none => mvs l fl k
theorem mvs_succ {l : List Fl} {fl k : Nat} {f : Fl} (h : l[k]? = some f) : mvs l fl (k + 1) = mvs l fl k ++ [decide (k = fl) || (mvs l fl k)[f.pa.toNat]?.getD false] := by
  rw [mvs, h]
theorem mvs_len {l : List Fl} {fl : Nat} : ∀ {k : Nat}, k ≤ l.length → (mvs l fl k).length = k + 1
  | 0, _ => rfl
  | k + 1, h => by
    rw [mvs_succ (List.getElem?_eq_getElem (by omega)), List.length_append, mvs_len (by omega)]
    rfl
theorem mvs_at {l : List Fl} {fl j : Nat} : ∀ {k : Nat}, j ≤ k → k ≤ l.length → (mvs l fl k)[j]? = (mvs l fl j)[j]?
  | 0, hj, _ => by
    obtain rfl : j = 0 := by omega
    rfl
  | k + 1, hj, hk => by
    rcases Nat.lt_or_ge j (k + 1) with h | h
    · rw [mvs_succ (List.getElem?_eq_getElem (by omega)), List.getElem?_append_left (by rw [mvs_len (by omega)]; omega)]
      exact mvs_at (by omega) (by omega)
    · obtain rfl : j = k + 1 := by omega
      rfl
/-- whether a face moves with the flange fl -/
def mvB (l : List Fl) (fl j : Nat) : Bool := (mvs l fl l.length)[j]?.getD false
theorem mvB_zero (l : List Fl) (fl : Nat) : mvB l fl 0 = false := by
  unfold mvB
  rw [mvs_at (Nat.zero_le _) (Nat.le_refl _)]
  rfl
theorem mvB_succ {l : List Fl} {fl k : Nat} {f : Fl} (h : l[k]? = some f) {q : Nat} (hq : f.pa = q) (hk : q ≤ k) : mvB l fl (k + 1) = (decide (k = fl) || mvB l fl q) := by
  have hkl := (List.getElem?_eq_some_iff.1 h).1
  unfold mvB
  rw [mvs_at (show k + 1 ≤ l.length by omega) (Nat.le_refl _), mvs_succ h, List.getElem?_append_right (by rw [mvs_len (by omega)]; omega), mvs_len (by omega)]
  simp only [Nat.sub_self, List.getElem?_cons_zero, Option.getD_some]
  rw [hq, show ((q : Nat) : Int).toNat = q from rfl, mvs_at hk (by omega), mvs_at (show q ≤ l.length by omega) (Nat.le_refl _)]
theorem mvB_low {l : List Fl} {fl : Nat} (ok : Fit l) : ∀ {j : Nat}, j ≤ fl → j ≤ l.length → mvB l fl j = false := by
  intro j
  induction j using Nat.strongRecOn with
  | ind j ih =>
    intro h1 h2
    cases j with
    | zero => exact mvB_zero l fl
    | succ k =>
      obtain ⟨f, hf⟩ : ∃ f, l[k]? = some f := ⟨_, List.getElem?_eq_getElem (by omega)⟩
      obtain ⟨t0, t1, -, -⟩ := ok k f hf
      rw [mvB_succ (q := f.pa.toNat) hf (by omega) (by omega), ih f.pa.toNat (by omega) (by omega) (by omega)]
      simp
      omega
theorem mvB_own {l : List Fl} {fl : Nat} (ok : Fit l) (h : fl < l.length) : mvB l fl (fl + 1) = true := by
  obtain ⟨f, hf⟩ : ∃ f, l[fl]? = some f := ⟨_, List.getElem?_eq_getElem h⟩
  obtain ⟨t0, t1, -, -⟩ := ok fl f hf
  rw [mvB_succ (q := f.pa.toNat) hf (by omega) (by omega)]
  simp
theorem mvB_up {l : List Fl} {fl k : Nat} (ok : Fit l) {f : Fl} (hf : l[k]? = some f) {q : Nat} (hq : f.pa = q) (h : ¬ k = fl) : mvB l fl (k + 1) = mvB l fl q := by
  obtain ⟨t0, t1, -, -⟩ := ok k f hf
  rw [mvB_succ hf hq (by omega), decide_eq_false h, Bool.false_or]
/-- those of the first k flanges' faces that move -/
def moL (l : List Fl) (fl : Nat) : Nat → List Int
  | 0 => []
  | k + 1 => if mvB l fl (k + 1) = true then moL l fl k ++ [(k : Int) + 1] else moL l fl k
theorem moL_len (l : List Fl) (fl : Nat) : ∀ k, (moL l fl k).length ≤ k
  | 0 => by simp [moL]
  | k + 1 => by
    have := moL_len l fl k
    unfold moL
    split
    · simp
      omega
    · omega
theorem moL_low {l : List Fl} {fl : Nat} (ok : Fit l) : ∀ {k : Nat}, k ≤ fl → k ≤ l.length → moL l fl k = []
  | 0, _, _ => rfl
  | k + 1, h1, h2 => by
    unfold moL
    rw [mvB_low ok h1 h2, moL_low ok (by omega) (by omega)]
    rfl
/-- a row of bools in a block of the call's own -/
def BF (w : World) (B : Nat) (g : Nat → Bool) (n : Nat) : Prop := B < w.heap.size ∧ ∀ j, j ≤ n → w.cell? ⟨B, j, none⟩ = some (.bool (g j)) ∧ w.frozen? ⟨B, j, none⟩ = false
theorem BF.gr {w w' : World} {B n : Nat} {f : Nat → Bool} (h : BF w B f n) (g : Gr w w') : BF w' B f n :=
  ⟨Nat.lt_of_lt_of_le h.1 g.size, fun j hj => ⟨(g.cell B j h.1).trans (h.2 j hj).1, (g.frozen B j h.1).trans (h.2 j hj).2⟩⟩
theorem BF.grown {w w' : World} {B lo n : Nat} {f : Nat → Bool} {row : Option Nat} (h : BF w B f n) (hg : w.grownBy w' row) (hr : ∀ k, row = some k → lo ≤ k) (hB : B < lo) : BF w' B f n := by
  have hne : some B ≠ row := fun e => by have := hr B e.symm; omega
  refine ⟨?_, fun j hj => ⟨(hg.cell_far ⟨B, j, none⟩ h.1 hne).trans (h.2 j hj).1, (hg.frozen_far ⟨B, j, none⟩ h.1 hne).trans (h.2 j hj).2⟩⟩
  have hb := hg.block B h.1 hne
  have h1 := h.1
  refine Nat.not_le.1 fun hle => ?_
  rw [Array.getElem?_eq_none hle, Array.getElem?_eq_getElem h1] at hb
  cases hb
theorem BF.set {w : World} {B n k : Nat} {f g : Nat → Bool} (h : BF w B f n) (b : Bool) (hk : k ≤ n) (e : ∀ j, j ≤ n → g j = if j = k then b else f j) : BF (w.setCell ⟨B, k, none⟩ (.bool b)) B g n := by
  refine ⟨by simpa using h.1, fun j hj => ?_⟩
  obtain ⟨c1, f1⟩ := h.2 j hj
  obtain ⟨c2, f2⟩ := h.2 k hk
  rw [e j hj]
  by_cases hjk : j = k
  · subst hjk
    rw [if_pos rfl]
    exact ⟨by simp [go_sem, c2], by simp [go_sem, f1]⟩
  · rw [if_neg hjk]
    exact ⟨by simp [go_sem, c1, c2, hjk], by simp [go_sem, f1]⟩
end Go.Proofs.YtjnfodbniohkhaaGreat
namespace Go.Proofs.YtjnfodbniohkhaaGreat
open Go Go.ChangeShapes Go.WideShapes Go.ChangeAt Go.RowKit Go.Deep

/-- the error of a part and a flange -/
noncomputable def movE (p : Pa) (n : Int) : Int := if valE p ≠ 0 then valE p else if wiB n 0 (p.fl.length - 1) then 0 else 5
noncomputable def movL (p : Pa) (n : Int) : List Int := if movE p n = 0 then moL p.fl n.toNat p.fl.length else []
theorem movE_bad {p : Pa} {m : Int} (h : ¬ valE p = 0) : movE p m = valE p := by
  unfold movE
  rw [if_pos h]
theorem movE_none {p : Pa} {m : Int} (h : valE p = 0) (k : wiB m 0 (p.fl.length - 1) = false) : movE p m = 5 := by
  unfold movE
  rw [if_neg (by simpa using h), k]
  rfl
theorem movE_ok {p : Pa} {m : Int} (h : valE p = 0) (k : wiB m 0 (p.fl.length - 1) = true) : movE p m = 0 := by
  unfold movE
  rw [if_neg (by simpa using h), k]
  rfl
theorem movL_none {p : Pa} {m : Int} (h : ¬ movE p m = 0) : movL p m = [] := by
  unfold movL
  rw [if_neg h]
theorem movL_some {p : Pa} {m : Int} (h : movE p m = 0) : movL p m = moL p.fl m.toNat p.fl.length := by
  unfold movL
  rw [if_pos h]
abbrev inL (z : Int) : List Value := [iv z]
theorem infoIn : (Tryz.prog.info? 3).map (fun i => (i.zero, i.size, i.bytes)) = some (some (.int .i64 0), 1, 8) := by kernel_rfl
theorem infoBo : (Tryz.prog.info? 4).map (fun i => (i.zero, i.size, i.bytes)) = some (some (.bool false), 1, 1) := by kernel_rfl
theorem make_bools (n : Nat) (hn : n ≤ 1000) (w : World) : (Instr.makeSlice 117 (.int .i64 ((n : Int) + 1)) (.int .i64 ((n : Int) + 1))).run Tryz.prog w = .ok (.slice (some ⟨w.heap.size, 0, none⟩) (n + 1) (n + 1)) (w.alloc (.cells (madeCells #[.bool false] (n + 1)) 4)) := by
  obtain ⟨i0, hi0, hz0, hz1, hz2⟩ := info_parts infoBo
  have := run_makeSlice (P := Tryz.prog) w 117 4 i0 (.bool false) Tryz.underlying117 hi0 hz0 .i64 .i64 ((n : Int) + 1) ((n : Int) + 1) (by omega) (by omega) (by rw [hz1]; omega) (by rw [hz2]; omega) (by omega)
  rw [hz1, show ((n : Int) + 1).toNat = n + 1 by omega, Nat.mul_one] at this
  exact this
theorem made_bools (n : Nat) (w : World) : BF (w.alloc (.cells (madeCells #[.bool false] (n + 1)) 4)) w.heap.size (fun _ => false) n := by
  obtain ⟨h0, h1, h2⟩ := Made.new w (madeCells #[.bool false] (n + 1)) 4
  refine ⟨h0, fun j hj => ⟨?_, h2 j⟩⟩
  rw [h1 j]
  have hj' : j < n + 1 := by omega
  simp [madeCells, hj', Nat.mod_one]
theorem one_in (w : World) (z : Int) : ∀ j u, [iv z][j]? = some u → (w.alloc (.cells #[iv z] 3)).cell? ((⟨w.heap.size, 0, none⟩ : Addr).add j) = some u := by
  intro j u hu
  rw [addr_add, Nat.zero_add, (Made.new w #[iv z] 3).2.1 j]
  simpa using hu
theorem bf_step {l : List Fl} {fl k : Nat} {b : Bool} (h : mvB l fl (k + 1) = b) (j : Nat) : (decide (j ≤ k + 1) && mvB l fl j) = if j = k + 1 then b else (decide (j ≤ k) && mvB l fl j) := by
  by_cases hj : j = k + 1
  · subst hj
    rw [if_pos rfl, h]
    simp
  · rw [if_neg hj, show decide (j ≤ k + 1) = decide (j ≤ k) by
      rw [Bool.eq_iff_iff, decide_eq_true_eq, decide_eq_true_eq]
      omega]
end Go.Proofs.YtjnfodbniohkhaaGreat
namespace Go.Proofs.YtjnfodbniohkhaaGreat
open Go Go.ChangeShapes Go.WideShapes Go.ChangeAt Go.RowKit Go.Deep

end Go.Proofs.YtjnfodbniohkhaaGreat
namespace Go.Proofs.YtjnfodbniohkhaaGreat
open Go Go.ChangeShapes Go.WideShapes Go.ChangeAt Go.RowKit Go.Deep

theorem wi_nat {n : Nat} {m : Int} (h : wiB m 0 ((n : Int) - 1) = true) : ∃ k : Nat, m = k ∧ k < n := by
  rw [wiB_iff] at h
  exact ⟨m.toNat, by omega, by omega⟩
/-- width, height and error of a face -/
noncomputable def sizV (p : Pa) (n : Int) : Int × Int × Int := if valE p ≠ 0 then (0, 0, valE p) else if wiB n 0 p.fl.length then (extW p n, extH p n, 0) else (0, 0, 5)
abbrev t3V (t : Int × Int × Int) : Value := .tuple #[iv t.1, iv t.2.1, iv t.2.2]
end Go.Proofs.YtjnfodbniohkhaaGreat
namespace Go.Proofs.YtjnfodbniohkhaaGreat
open Go Go.ChangeShapes Go.WideShapes Go.ChangeAt Go.RowKit Go.Deep

/-- a slice of numbers -/
structure SlI (w : World) (A : Option Addr) (c : Nat) (l : List Int) : Prop where
  rd : RdL w 1 inL A l
  cap : l.length ≤ c
  capB : c ≤ 9223372036854775807
  len : l.length ≤ 1000
theorem SlI.gr {w w' : World} {A : Option Addr} {c : Nat} {l : List Int} (h : SlI w A c l) (g : Gr w w') : SlI w' A c l := ⟨h.rd.gr g, h.cap, h.capB, h.len⟩
theorem slI_own {w : World} {base : Nat} {A : Option Addr} {n d : Nat} {xs : List Int} (h : OwnL w base 3 1 inL (.slice A n d) xs) (hl : xs.length ≤ 1000) : SlI w A d xs := by
  obtain ⟨h0, h1, h2, h3⟩ := OwnL.rd (c := inL) (fun _ => rfl) h
  exact ⟨h1, h2, by unfold maxLen at h3; omega, hl⟩
theorem RdL.int {w : World} {A : Option Addr} {l : List Int} (h : RdL w 1 inL A l) {i : Nat} {z : Int} (hi : l[i]? = some z) : ∃ b off, A = some ⟨b, off, none⟩ ∧ w.cell? ⟨b, off + i, none⟩ = some (iv z) := by
  obtain ⟨b, off, e, h0, _⟩ := h i z hi
  rw [Nat.mul_one] at h0
  exact ⟨b, off, e, h0⟩
theorem movL_len {p : Pa} {m : Int} (h : p.fl.length ≤ 1000) : (movL p m).length ≤ 1000 := by
  unfold movL
  split
  · have := moL_len p.fl m.toNat p.fl.length
    omega
  · simp
end Go.Proofs.YtjnfodbniohkhaaGreat
set_option linter.unusedVariables false
set_option linter.unusedSimpArgs false
namespace Go.Proofs.YtjnfodbniohkhaaGreat
set_option linter.unusedVariables false
set_option linter.unusedSimpArgs false
open Go Go.ChangeShapes Go.WideShapes Go.ChangeAt Go.RowKit Go.Deep

/-- a slice type and its elements: k cells, so many bytes -/
structure ElT (P : Program) (t e : TypeId) (k bts : Nat) : Prop where
  und : P.underlying t = some (.slice e)
  inf : ∃ i z, P.info? e = some i ∧ i.zero = some z ∧ i.size = k ∧ i.bytes = bts ∧ z.cells.size = k
theorem elT_of {P : Program} {t e : TypeId} {k bts : Nat} (z : Value) (h : P.underlying t = some (.slice e)) (hi : (P.info? e).map (fun i => (i.zero, i.size, i.bytes)) = some (some z, k, bts)) (hz : z.cells.size = k) : ElT P t e k bts := by
  refine ⟨h, ?_⟩
  cases e1 : P.info? e with
  | none => rw [e1] at hi; cases hi
  | some i =>
    rw [e1] at hi
    simp only [Option.map_some, Option.some.injEq, Prod.mk.injEq] at hi
    exact ⟨i, z, rfl, hi.1, hi.2.1, hi.2.2, hz⟩
theorem wpList_app1 {P : Program} {w : World} {ops : Array Oper} {rest : List Oper} {o : Oper} {a : Act} {Q : Exit → Act → World → Prop} (hgd : o.guard = none) (s x : Operand) (t : TypeId)
    (ho : o.op = .call { callee := .builtin .append, args := #[s, x], argTypes := #[t, t] })
    {α : Type} (c : α → List Value) (base : Nat) (e : TypeId) (k bts : Nat) (T : ElT P t e k bts) (hk : 0 < k) (xs : List α) (y : α) (ys : List α) (hys : xs ++ [y] = ys) (v : Value) (hs : a.eval s = v) (hown : OwnL w base e k c v xs)
    (ad : Addr) (cc : Nat) (hx : a.eval x = .slice (some ad) 1 cc) (hl : (c y).length = k) (hnews : ∀ j u, (c y)[j]? = some u → w.cell? (ad.add j) = some u) (h1 : ∀ u ∈ c y, u.oneCell' = true)
    (hn : xs.length ≤ 1000000) (hb : bts ≤ 10000) (hbase : base ≤ w.heap.size)
    (h : ∀ g cap w', OwnL w' base e k c (.slice (some ⟨g, 0, none⟩) ys.length cap) ys → (∀ b, Gr b w → b.heap.size ≤ base → Gr b w') → w.grownBy w' v.ownBlock → base ≤ g → g < w'.heap.size → wpList P ops Q rest (a.put o.dst (.slice (some ⟨g, 0, none⟩) ys.length cap)) w') : wpList P ops Q (o :: rest) a w := by
  obtain ⟨i, z, hi, hz, hsz, hby, hzs⟩ := T.inf
  subst hys
  have hlt := fun k hk => (World.ownsRow.lt hown k hk).1
  refine wpList_append_lies w hgd s x t ho base e i z k bts T.und hi hz hsz hby hzs hk v xs.length (xs.flatMap c) hs hown ad 1 cc (c y) hx (by rw [hl, Nat.one_mul]) hnews h1 (by omega) (by unfold maxLen; omega)
    (Nat.le_trans (Nat.mul_le_mul (show xs.length + 1 ≤ 1000001 by omega) hb) (by decide)) hbase _ rfl ?_
  intro g cap w' h2 h3 h4 h5
  have hO : OwnL w' base e k c (.slice (some ⟨g, 0, none⟩) (xs ++ [y]).length cap) (xs ++ [y]) := by
    unfold OwnL
    rw [fm_snoc, List.length_append]
    exact h2
  have := h g cap w' hO (fun b hb hle => Gr.grown hb h3 (fun k hk => by have := hlt k hk; omega)) h3 (by
    rcases h4 with h4 | h4
    · exact hlt g h4
    · omega) h5
  rwa [List.length_append] at this
theorem news1 {w : World} {B : Nat} {u0 : Value} (h : w.cell? ⟨B, 0, none⟩ = some u0) : ∀ j u, [u0][j]? = some u → w.cell? ((⟨B, 0, none⟩ : Addr).add j) = some u := by
  intro j u hu
  cases j with
  | zero => rw [addr_add]; simpa using hu ▸ h
  | succ j => simp at hu
theorem newsA (w : World) (cs : Array Value) (t : TypeId) : ∀ j u, cs.toList[j]? = some u → (w.alloc (.cells cs t)).cell? ((⟨w.heap.size, 0, none⟩ : Addr).add j) = some u :=
  World.news_of_block (B := w.heap.size) (cs := cs) (t := t) (fr := (0, 0)) (by show (w.heap.push _)[w.heap.size]? = _; simp)
/-- a literal slice owns its elements -/
theorem own_lit {α : Type} {c : α → List Value} {k : Nat} (w : World) (base : Nat) (e : TypeId) (cs : Array Value) (xs : List α) (hb : base ≤ w.heap.size) (hc : ∀ x, (c x).length = k) (hcs : cs.toList = xs.flatMap c) (hm : xs.length ≤ 1000000) :
    OwnL (w.alloc (.cells cs e)) base e k c (.slice (some ⟨w.heap.size, 0, none⟩) xs.length xs.length) xs := by
  have := World.ownsRow_lit (size := k) (e := e) w cs xs.length hb (by unfold maxLen; omega) (by rw [← Array.length_toList, hcs, fm_len hc])
  rw [hcs] at this
  exact this
theorem elInt : ElT Tryz.prog 76 3 1 8 := elT_of (.int .i64 0) Tryz.underlying76 (by kernel_rfl) rfl
end Go.Proofs.YtjnfodbniohkhaaGreat
set_option linter.unusedVariables false
set_option linter.unusedSimpArgs false
namespace Go.Proofs.YtjnfodbniohkhaaGreat
set_option linter.unusedVariables false
set_option linter.unusedSimpArgs false
open Go Go.ChangeShapes Go.WideShapes Go.ChangeAt Go.RowKit Go.Deep

def abI (a : Int) : Int := if a < 0 then -a else a
/-- what a flange loses: the deduction, its ticks -/
def dR (t : Tb) (f : Fl) : R3 := dedA t (abI f.an)
def dT (t : Tb) (f : Fl) : Int := if (dR t f).2.2 = 0 then (tikV (dR t f).1 (dR t f).2.1).1 else 0
def dA (t : Tb) (l : List Fl) (i : Nat) : Int := match l[i]? with
  | some f => (dR t f).2.2
  | none => 0
def fitB (p : Pa) (t : Tb) : Bool := t.mt.toList == p.mt.toList && t.ga == p.ga
/-- the error of a part and a table -/
noncomputable def dlE (p : Pa) (t : Tb) : Int := if valE p ≠ 0 then valE p else if tbE t ≠ 0 then tbE t else if !fitB p t then 9 else firE (dA t p.fl) p.fl.length
theorem dlE_part {p : Pa} {t : Tb} (h : ¬ valE p = 0) : dlE p t = valE p := by
  unfold dlE
  rw [if_pos h]
theorem dlE_table {p : Pa} {t : Tb} (h : valE p = 0) (k : ¬ tbE t = 0) : dlE p t = tbE t := by
  unfold dlE
  rw [if_neg (by simpa using h), if_pos k]
theorem dlE_fit {p : Pa} {t : Tb} (h : valE p = 0) (k : tbE t = 0) (m : fitB p t = false) : dlE p t = 9 := by
  unfold dlE
  rw [if_neg (by simpa using h), if_neg (by simpa using k), m]
  rfl
theorem dlE_rest {p : Pa} {t : Tb} (h : valE p = 0) (k : tbE t = 0) (m : fitB p t = true) : dlE p t = firE (dA t p.fl) p.fl.length := by
  unfold dlE
  rw [if_neg (by simpa using h), if_neg (by simpa using k), m]
  rfl
theorem dlE_zero {p : Pa} {t : Tb} (h : dlE p t = 0) : valE p = 0 ∧ tbE t = 0 ∧ fitB p t = true ∧ firE (dA t p.fl) p.fl.length = 0 := by
  by_cases h1 : valE p = 0
  · by_cases h2 : tbE t = 0
    · cases h3 : fitB p t with
      | false => rw [dlE_fit h1 h2 h3] at h; cases h
      | true => rw [dlE_rest h1 h2 h3] at h; exact ⟨h1, h2, rfl, h⟩
    · rw [dlE_table h1 h2] at h; exact absurd h h2
  · rw [dlE_part h1] at h; exact absurd h h1
theorem dA_at {t : Tb} {l : List Fl} {i : Nat} {f : Fl} (h : l[i]? = some f) : dA t l i = (dR t f).2.2 := by
  unfold dA
  rw [h]
/-- a deduction without an error has ticks -/
theorem dR_ok {t : Tb} {f : Fl} (h : (dR t f).2.2 = 0) : tikV (dR t f).1 (dR t f).2.1 = (dT t f, 0) ∧ 0 ≤ dT t f ∧ dT t f ≤ 14400 := by
  have e : dedA t (abI f.an) = ((dR t f).1, (dR t f).2.1, 0) := by
    show dR t f = _
    rw [← h]
  obtain ⟨n, y, D⟩ := ded_ok e
  have h1 := D.tik
  have h2 := D.nn
  have h3 : dT t f = n := by unfold dT; rw [if_pos h, h1]
  rw [h3]
  exact ⟨h1, h2⟩
theorem dT_bd (t : Tb) (f : Fl) : 0 ≤ dT t f ∧ dT t f ≤ 14400 := by
  by_cases h : (dR t f).2.2 = 0
  · exact (dR_ok h).2
  · unfold dT
    rw [if_neg h]
    decide
theorem dT_list {t : Tb} {l : List Fl} {k : Nat} {f : Fl} (h : l[k]? = some f) : (l.take (k + 1)).map (dT t) = (l.take k).map (dT t) ++ [dT t f] := by
  obtain ⟨h1, rfl⟩ := List.getElem?_eq_some_iff.1 h
  rw [List.take_succ_eq_append_getElem h1, List.map_append]
  rfl
theorem ne_fit {p : Pa} {t : Tb} (h : fitB p t = false) : (t.mt.toList = p.mt.toList ∧ ¬ t.ga = p.ga) ∨ ¬ t.mt.toList = p.mt.toList := by
  unfold fitB at h
  simp only [Bool.and_eq_false_iff, beq_eq_false_iff_ne] at h
  by_cases k : t.mt.toList = p.mt.toList
  · rcases h with h | h
    · exact absurd k h
    · exact .inl ⟨k, h⟩
  · exact .inr k
theorem eq_fit {p : Pa} {t : Tb} (h : fitB p t = true) : t.mt.toList = p.mt.toList ∧ t.ga = p.ga := by
  unfold fitB at h
  simpa only [Bool.and_eq_true, beq_iff_eq] using h
set_option maxRecDepth 100000 in
set_option maxHeartbeats 4000000 in
theorem deductions_any (p : Pa) (t : Tb) (A B C : Option Addr) (c d q : Nat) (w : World) (hP : PaW w p A c B d) (hE : SlE w C q t.en) (hs : t.mt.size ≤ 1000) :
    Calls Tryz.prog 52 #[pav p A c B d, tbv t C q] w fun e w' => ∃ v, e = .returned (sle v (dlE p t)) ∧ (dlE p t = 0 → OwnL w' w.heap.size 3 1 inL v (p.fl.map (dT t))) ∧ Gr w w' := by
  have HV := hide (fun (w' : World) (g : Gr w w') => Validate_any p A B c d w' (hP.gr g))
  have HT := hide (fun (w' : World) (g : Gr w w') => fValidate_any t C q w' (hE.gr g) hs)
  have HF := hide hP.fl
  have HE := hide hE
  have hpl := hP.fl.len
  have hen := hE.len
  by_cases h1 : valE p = 0
  · rw [h1] at HV
    by_cases h2 : tbE t = 0
    · rw [h2] at HT
      cases h3 : fitB p t with
      | false =>
        have HN := hide (dlE_fit h1 h2 h3)
        have HK := hide (ne_fit h3)
        all_goals
          clear h1 h2 h3 hP hE
          go_enter Tryz.func52, Tryz.ntmps52
          go_wp2_with fail
          refine (HV.out _ (by repeat (first | with_reducible exact Gr.refl _ | with_reducible assumption | with_reducible refine Gr.alloc ?_ _ | with_reducible refine Gr.drewN ?_ _ | with_reducible refine Gr.drew ?_ | with_reducible refine Gr.setCell ?_ (by first | (dsimp only; omega) | (simp only [World.size_alloc]; omega) | (with_reducible refine Gr.size ?_; (repeat (first | with_reducible exact Gr.refl _ | with_reducible assumption | with_reducible refine Gr.alloc ?_ _ | with_reducible refine Gr.drewN ?_ _ | with_reducible refine Gr.drew ?_ | with_reducible refine Gr.trans ?_ (by with_reducible assumption))); done)) _ | with_reducible refine Gr.trans ?_ (by with_reducible assumption)))).mono ?_
          rintro e w1 ⟨rfl, g1⟩
          obtain ⟨X1, Y1, c1, f1⟩ := g1.use
          have z1 := g1.size
          simp only [World.size_alloc] at z1
          have l1 : w.heap.size + 1 < w1.heap.size := by omega
          have l0 : w.heap.size < w1.heap.size := by omega
          go_wp2_with fail
          refine (HT.out _ (by repeat (first | with_reducible exact Gr.refl _ | with_reducible assumption | with_reducible refine Gr.alloc ?_ _ | with_reducible refine Gr.drewN ?_ _ | with_reducible refine Gr.drew ?_ | with_reducible refine Gr.setCell ?_ (by first | (dsimp only; omega) | (simp only [World.size_alloc]; omega) | (with_reducible refine Gr.size ?_; (repeat (first | with_reducible exact Gr.refl _ | with_reducible assumption | with_reducible refine Gr.alloc ?_ _ | with_reducible refine Gr.drewN ?_ _ | with_reducible refine Gr.drew ?_ | with_reducible refine Gr.trans ?_ (by with_reducible assumption))); done)) _ | with_reducible refine Gr.trans ?_ (by with_reducible assumption)))).mono ?_
          rintro e w2 ⟨rfl, g2⟩
          obtain ⟨X2, Y2, c2, f2⟩ := g2.use
          have z2 := g2.size
          have m1 : w.heap.size + 1 < w2.heap.size := by omega
          have m0 : w.heap.size < w2.heap.size := by omega
          rcases HK.out with ⟨k1, k2⟩ | k1
          all_goals
           go_wp2_with fail
           refine bodyPost_ret (v := sle (.slice none 0 0) 9) (by simp [results, Tryz.results52, go_sem, *]) rfl ⟨_, ret_sle HN.out.symm, (fun h => by rw [HN.out] at h; cases h), (by repeat (first | with_reducible exact Gr.refl _ | with_reducible assumption | with_reducible refine Gr.alloc ?_ _ | with_reducible refine Gr.drewN ?_ _ | with_reducible refine Gr.drew ?_ | with_reducible refine Gr.setCell ?_ (by first | (dsimp only; omega) | (simp only [World.size_alloc]; omega) | (with_reducible refine Gr.size ?_; (repeat (first | with_reducible exact Gr.refl _ | with_reducible assumption | with_reducible refine Gr.alloc ?_ _ | with_reducible refine Gr.drewN ?_ _ | with_reducible refine Gr.drew ?_ | with_reducible refine Gr.trans ?_ (by with_reducible assumption))); done)) _ | with_reducible refine Gr.trans ?_ (by with_reducible assumption)))⟩
      | true =>
        have HN := hide (dlE_rest h1 h2 h3)
        have HB := hide (good_of h1)
        have HK := hide (eq_fit h3)
        clear h1 h2 h3 hP hE
        go_enter Tryz.func52, Tryz.ntmps52
        go_wp2_with fail
        refine (HV.out _ (by repeat (first | with_reducible exact Gr.refl _ | with_reducible assumption | with_reducible refine Gr.alloc ?_ _ | with_reducible refine Gr.drewN ?_ _ | with_reducible refine Gr.drew ?_ | with_reducible refine Gr.setCell ?_ (by first | (dsimp only; omega) | (simp only [World.size_alloc]; omega) | (with_reducible refine Gr.size ?_; (repeat (first | with_reducible exact Gr.refl _ | with_reducible assumption | with_reducible refine Gr.alloc ?_ _ | with_reducible refine Gr.drewN ?_ _ | with_reducible refine Gr.drew ?_ | with_reducible refine Gr.trans ?_ (by with_reducible assumption))); done)) _ | with_reducible refine Gr.trans ?_ (by with_reducible assumption)))).mono ?_
        rintro e w1 ⟨rfl, g1⟩
        obtain ⟨X1, Y1, c1, f1⟩ := g1.use
        have z1 := g1.size
        simp only [World.size_alloc] at z1
        have l1 : w.heap.size + 1 < w1.heap.size := by omega
        have l0 : w.heap.size < w1.heap.size := by omega
        go_wp2_with fail
        refine (HT.out _ (by repeat (first | with_reducible exact Gr.refl _ | with_reducible assumption | with_reducible refine Gr.alloc ?_ _ | with_reducible refine Gr.drewN ?_ _ | with_reducible refine Gr.drew ?_ | with_reducible refine Gr.setCell ?_ (by first | (dsimp only; omega) | (simp only [World.size_alloc]; omega) | (with_reducible refine Gr.size ?_; (repeat (first | with_reducible exact Gr.refl _ | with_reducible assumption | with_reducible refine Gr.alloc ?_ _ | with_reducible refine Gr.drewN ?_ _ | with_reducible refine Gr.drew ?_ | with_reducible refine Gr.trans ?_ (by with_reducible assumption))); done)) _ | with_reducible refine Gr.trans ?_ (by with_reducible assumption)))).mono ?_
        rintro e w2 ⟨rfl, g2⟩
        obtain ⟨X2, Y2, c2, f2⟩ := g2.use
        have z2 := g2.size
        have m1 : w.heap.size + 1 < w2.heap.size := by omega
        have m0 : w.heap.size < w2.heap.size := by omega
        have gw2 : Gr w w2 := (by repeat (first | with_reducible exact Gr.refl _ | with_reducible assumption | with_reducible refine Gr.alloc ?_ _ | with_reducible refine Gr.drewN ?_ _ | with_reducible refine Gr.drew ?_ | with_reducible refine Gr.setCell ?_ (by first | (dsimp only; omega) | (simp only [World.size_alloc]; omega) | (with_reducible refine Gr.size ?_; (repeat (first | with_reducible exact Gr.refl _ | with_reducible assumption | with_reducible refine Gr.alloc ?_ _ | with_reducible refine Gr.drewN ?_ _ | with_reducible refine Gr.drew ?_ | with_reducible refine Gr.trans ?_ (by with_reducible assumption))); done)) _ | with_reducible refine Gr.trans ?_ (by with_reducible assumption)))
        have n0 : w2.cell? ⟨w.heap.size + 1, 0, none⟩ = some (.string t.mt) := by rw [c2, c1]; simp [go_sem]
        have n1 : w2.cell? ⟨w.heap.size + 1, 1, none⟩ = some (iv t.ga) := by rw [c2, c1]; simp [go_sem]
        have n2 : w2.cell? ⟨w.heap.size + 1, 2, none⟩ = some (iv t.di) := by rw [c2, c1]; simp [go_sem]
        have n3 : w2.cell? ⟨w.heap.size + 1, 3, none⟩ = some (.slice C t.en.length q) := by rw [c2, c1]; simp [go_sem]
        obtain ⟨k1, k2⟩ := HK.out
        go_upto_region 8 with fail
        clear k1 k2
        go_wp2_with fail
        clear X1 Y1 c1 f1 X2 Y2 c2 f2
        go_loopw [8, 39] (fun v i wr => ∃ (k : Nat) (A1 : Option Addr) (d1 : Nat), k ≤ p.fl.length ∧ i = iv k ∧ v = .slice A1 k d1 ∧ Gr w2 wr ∧ Hid (∀ j, j < k → dA t p.fl j = 0) ∧ Hid (OwnL wr w2.heap.size 3 1 inL (.slice A1 k d1) ((p.fl.take k).map (dT t)))) (fun _ i _ => p.fl.length - (intOf i).toNat)
        case atStart => exact ⟨0, none, 0, by omega, rfl, rfl, Gr.refl _, (fun j hj => by omega), own_nil _ _ _ _ _⟩
        case round =>
          obtain ⟨k, A1, d1, hk, rfl, rfl, g, HS, HO⟩ := hrel
          have gW : Gr w wr := gw2.trans g
          have zr := g.size
          have l0 : w.heap.size < wr.heap.size := by omega
          have l1 : w.heap.size + 1 < wr.heap.size := by omega
          have o0 := (g.cell _ _ m1).trans n0
          have o1 := (g.cell _ _ m1).trans n1
          have o2 := (g.cell _ _ m1).trans n2
          have o3 := (g.cell _ _ m1).trans n3
          clear n0 n1 n2 n3
          by_cases hkl : k < p.fl.length
          · obtain ⟨f, hf⟩ : ∃ f, p.fl[k]? = some f := ⟨_, List.getElem?_eq_getElem hkl⟩
            obtain ⟨b, off, hA, x0, x1, x2, x3, x4, x5, x6⟩ := HF.out.rd.fl hf
            subst hA
            have hb : b < w.heap.size := cell_lt (by rw [x0]; rfl)
            have hbr : b < wr.heap.size := by omega
            have y0 := (gW.cell _ _ hb).trans x0
            have y1 := (gW.cell _ _ hb).trans x1
            have y2 := (gW.cell _ _ hb).trans x2
            have y3 := (gW.cell _ _ hb).trans x3
            have y4 := (gW.cell _ _ hb).trans x4
            have y5 := (gW.cell _ _ hb).trans x5
            have y6 := (gW.cell _ _ hb).trans x6
            clear x0 x1 x2 x3 x4 x5 x6
            have han : anOk f.an := (HB.out.fl.fl k f hkl hf).2.2.1
            have hk0 : (0 : Int) ≤ (k : Int) := by omega
            have hk1 : (k : Int) < (p.fl.length : Int) := by omega
            have HDED := hide (show ∀ z, z = abI f.an → ∀ w', Gr w w' → Calls Tryz.prog 16 #[tbv t C q, iv z] w' fun e w'' => e = .returned (trV (dR t f)) ∧ Gr w' w'' from fun z hz w' g => by rw [hz]; exact Deduction_any t C q (abI f.an) w' (HE.out.gr g) hs)
            have HAT := hide (dA_at (t := t) hf)
            have HLS := hide (dT_list (t := t) hf)
            have HOK := hide (fun h => dR_ok (t := t) (f := f) h)
            have hT : dT t f = dT t f := rfl
            obtain ⟨d1', d2', d3', hdr⟩ : ∃ a b c, dR t f = (a, b, c) := ⟨_, _, _, rfl⟩
            rw [hdr] at HDED HAT HOK
            simp only at HAT HOK
            have hab1 : ∀ z, z = f.an → wrap64 (-f.an) ≤ f.an → z = abI f.an := by
              intro z hz h
              unfold anOk at han
              rw [w_in (show I64 (-f.an) by unfold I64; omega)] at h
              unfold abI
              split <;> omega
            have hab2 : ∀ z, z = wrap64 (-f.an) → f.an ≤ wrap64 (-f.an) → z = abI f.an := by
              intro z hz h
              unfold anOk at han
              rw [w_in (show I64 (-f.an) by unfold I64; omega)] at h hz
              unfold abI
              split <;> omega
            have HA1 := hide hab1
            have HA2 := hide hab2
            clear hab1 hab2 han hT hdr hf
            by_cases he : d3' = 0
            · subst he
              obtain ⟨htk, hn1, hn2⟩ := HOK.out rfl
              have HTK := hide (fun w => Ticks_any d1' d2' w)
              rw [htk] at HTK
              have HS2 := hide (show ∀ j, j < k + 1 → dA t p.fl j = 0 by
                intro j hj
                rcases Nat.lt_or_ge j k with h | h
                · exact HS.out j h
                · obtain rfl : j = k := by omega
                  exact HAT.out)
              clear HOK htk HAT HS
              generalize dT t f = n at *
              obtain ⟨M1, hM1⟩ : ∃ M, (p.fl.take k).map (dT t) = M := ⟨_, rfl⟩
              obtain ⟨M2, hM2⟩ : ∃ M, (p.fl.take (k + 1)).map (dT t) = M := ⟨_, rfl⟩
              have HM2 := hide hM2
              have HL1 := hide (show k = M1.length by rw [← hM1, List.length_map, List.length_take]; omega)
              have HL2 := hide (show M2.length = k + 1 by rw [← hM2, List.length_map, List.length_take]; omega)
              rw [hM1] at HO HLS
              rw [hM2] at HLS
              clear hM1 hM2
              go_upto_region 14 with fail
              case' inr => refine (HDED.out f.an (HA1.out _ rfl h) _ (by repeat (first | with_reducible exact Gr.refl _ | with_reducible assumption | with_reducible refine Gr.alloc ?_ _ | with_reducible refine Gr.drewN ?_ _ | with_reducible refine Gr.drew ?_ | with_reducible refine Gr.setCell ?_ (by first | (dsimp only; omega) | (simp only [World.size_alloc]; omega) | (with_reducible refine Gr.size ?_; (repeat (first | with_reducible exact Gr.refl _ | with_reducible assumption | with_reducible refine Gr.alloc ?_ _ | with_reducible refine Gr.drewN ?_ _ | with_reducible refine Gr.drew ?_ | with_reducible refine Gr.trans ?_ (by with_reducible assumption))); done)) _ | with_reducible refine Gr.trans ?_ (by with_reducible assumption)))).mono ?_
              case' inl => refine (HDED.out (wrap64 (-f.an)) (HA2.out _ rfl (by omega)) _ (by repeat (first | with_reducible exact Gr.refl _ | with_reducible assumption | with_reducible refine Gr.alloc ?_ _ | with_reducible refine Gr.drewN ?_ _ | with_reducible refine Gr.drew ?_ | with_reducible refine Gr.setCell ?_ (by first | (dsimp only; omega) | (simp only [World.size_alloc]; omega) | (with_reducible refine Gr.size ?_; (repeat (first | with_reducible exact Gr.refl _ | with_reducible assumption | with_reducible refine Gr.alloc ?_ _ | with_reducible refine Gr.drewN ?_ _ | with_reducible refine Gr.drew ?_ | with_reducible refine Gr.trans ?_ (by with_reducible assumption))); done)) _ | with_reducible refine Gr.trans ?_ (by with_reducible assumption)))).mono ?_
              all_goals
                rintro e w3 ⟨rfl, g3⟩
                have z3 := g3.size
                simp only [World.size_alloc] at z3
                go_wp2_with fail
                refine (HTK.out _).mono ?_
                rintro e w4 ⟨rfl, g4⟩
                have z4 := g4.size
                simp only [World.size_alloc] at z4
                have gr4 : Gr wr w4 := (by repeat (first | with_reducible exact Gr.refl _ | with_reducible assumption | with_reducible refine Gr.alloc ?_ _ | with_reducible refine Gr.drewN ?_ _ | with_reducible refine Gr.drew ?_ | with_reducible refine Gr.setCell ?_ (by first | (dsimp only; omega) | (simp only [World.size_alloc]; omega) | (with_reducible refine Gr.size ?_; (repeat (first | with_reducible exact Gr.refl _ | with_reducible assumption | with_reducible refine Gr.alloc ?_ _ | with_reducible refine Gr.drewN ?_ _ | with_reducible refine Gr.drew ?_ | with_reducible refine Gr.trans ?_ (by with_reducible assumption))); done)) _ | with_reducible refine Gr.trans ?_ (by with_reducible assumption)))
                go_wp2_with (refine wpList_app1 rfl _ _ _ rfl inL w2.heap.size 3 1 8 elInt (by decide) M1 n M2 HLS.out.symm _ (by rw [HL1.out]) (by have := HO.out.gr gr4; rw [HL1.out] at this; exact OwnL.gr this (Gr.alloc (Gr.refl _) _)) _ 1 rfl rfl (by intro j u hu; refine newsA w4 #[iv n] 3 j u ?_; exact hu) (by intro u hu; simp at hu; subst hu; rfl) (by have := HL1.out; omega) (by decide) (by simp only [World.size_alloc]; omega) ?_; intro gg cap1 w8 hO8 hG8 _ _ _)
                go_roundw
                case rel => exact ⟨k + 1, some ⟨gg, 0, none⟩, cap1, by omega, by go_num, by rw [HL2.out], hG8 _ ((g.trans gr4).trans (Gr.alloc (Gr.refl _) _)) (Nat.le_refl _), HS2, by rw [HM2.out, ← HL2.out]; exact hO8⟩
                case measure => simp only [intOf]; omega
            · have HE0 := hide (show dlE p t = d3' by
                rw [HN.out, firE_at HS.out (by rw [HAT.out]; exact he) hkl, HAT.out])
              clear HOK HAT HS HLS HO
              go_upto_region 14 with fail
              case' inr => refine (HDED.out f.an (HA1.out _ rfl h) _ (by repeat (first | with_reducible exact Gr.refl _ | with_reducible assumption | with_reducible refine Gr.alloc ?_ _ | with_reducible refine Gr.drewN ?_ _ | with_reducible refine Gr.drew ?_ | with_reducible refine Gr.setCell ?_ (by first | (dsimp only; omega) | (simp only [World.size_alloc]; omega) | (with_reducible refine Gr.size ?_; (repeat (first | with_reducible exact Gr.refl _ | with_reducible assumption | with_reducible refine Gr.alloc ?_ _ | with_reducible refine Gr.drewN ?_ _ | with_reducible refine Gr.drew ?_ | with_reducible refine Gr.trans ?_ (by with_reducible assumption))); done)) _ | with_reducible refine Gr.trans ?_ (by with_reducible assumption)))).mono ?_
              case' inl => refine (HDED.out (wrap64 (-f.an)) (HA2.out _ rfl (by omega)) _ (by repeat (first | with_reducible exact Gr.refl _ | with_reducible assumption | with_reducible refine Gr.alloc ?_ _ | with_reducible refine Gr.drewN ?_ _ | with_reducible refine Gr.drew ?_ | with_reducible refine Gr.setCell ?_ (by first | (dsimp only; omega) | (simp only [World.size_alloc]; omega) | (with_reducible refine Gr.size ?_; (repeat (first | with_reducible exact Gr.refl _ | with_reducible assumption | with_reducible refine Gr.alloc ?_ _ | with_reducible refine Gr.drewN ?_ _ | with_reducible refine Gr.drew ?_ | with_reducible refine Gr.trans ?_ (by with_reducible assumption))); done)) _ | with_reducible refine Gr.trans ?_ (by with_reducible assumption)))).mono ?_
              all_goals
                rintro e w3 ⟨rfl, g3⟩
                go_wp2_with fail
                refine bodyPost_ret (v := sle (.slice none 0 0) d3') (by simp [results, Tryz.results52, go_sem, *]) rfl ⟨_, ret_sle HE0.out.symm, (fun h => by rw [HE0.out] at h; exact absurd h he), gW.trans (by repeat (first | with_reducible exact Gr.refl _ | with_reducible assumption | with_reducible refine Gr.alloc ?_ _ | with_reducible refine Gr.drewN ?_ _ | with_reducible refine Gr.drew ?_ | with_reducible refine Gr.setCell ?_ (by first | (dsimp only; omega) | (simp only [World.size_alloc]; omega) | (with_reducible refine Gr.size ?_; (repeat (first | with_reducible exact Gr.refl _ | with_reducible assumption | with_reducible refine Gr.alloc ?_ _ | with_reducible refine Gr.drewN ?_ _ | with_reducible refine Gr.drew ?_ | with_reducible refine Gr.trans ?_ (by with_reducible assumption))); done)) _ | with_reducible refine Gr.trans ?_ (by with_reducible assumption)))⟩
          · obtain rfl : k = p.fl.length := by omega
            have HE0 := hide (show dlE p t = 0 by rw [HN.out]; exact firE_none HS.out)
            rw [List.take_length] at HO
            have HO9 := hide (HO.out.weak (show w.heap.size ≤ w2.heap.size by omega))
            clear HO
            go_wp2
            refine bodyPost_ret (v := sle (.slice A1 p.fl.length d1) 0) (by simp [results, Tryz.results52, go_sem, *]) rfl ⟨_, ret_sle HE0.out.symm, (fun _ => HO9.out), gW⟩
    · have HN := hide (dlE_table h1 h2)
      have HZ := hide h2
      clear h1 h2 hP hE
      generalize tbE t = te at *
      have hz : ¬ te = 0 := HZ.out
      go_enter Tryz.func52, Tryz.ntmps52
      go_wp2_with fail
      refine (HV.out _ (by repeat (first | with_reducible exact Gr.refl _ | with_reducible assumption | with_reducible refine Gr.alloc ?_ _ | with_reducible refine Gr.drewN ?_ _ | with_reducible refine Gr.drew ?_ | with_reducible refine Gr.setCell ?_ (by first | (dsimp only; omega) | (simp only [World.size_alloc]; omega) | (with_reducible refine Gr.size ?_; (repeat (first | with_reducible exact Gr.refl _ | with_reducible assumption | with_reducible refine Gr.alloc ?_ _ | with_reducible refine Gr.drewN ?_ _ | with_reducible refine Gr.drew ?_ | with_reducible refine Gr.trans ?_ (by with_reducible assumption))); done)) _ | with_reducible refine Gr.trans ?_ (by with_reducible assumption)))).mono ?_
      rintro e w1 ⟨rfl, g1⟩
      obtain ⟨X1, Y1, c1, f1⟩ := g1.use
      have z1 := g1.size
      simp only [World.size_alloc] at z1
      have l1 : w.heap.size + 1 < w1.heap.size := by omega
      have l0 : w.heap.size < w1.heap.size := by omega
      go_wp2_with fail
      refine (HT.out _ (by repeat (first | with_reducible exact Gr.refl _ | with_reducible assumption | with_reducible refine Gr.alloc ?_ _ | with_reducible refine Gr.drewN ?_ _ | with_reducible refine Gr.drew ?_ | with_reducible refine Gr.setCell ?_ (by first | (dsimp only; omega) | (simp only [World.size_alloc]; omega) | (with_reducible refine Gr.size ?_; (repeat (first | with_reducible exact Gr.refl _ | with_reducible assumption | with_reducible refine Gr.alloc ?_ _ | with_reducible refine Gr.drewN ?_ _ | with_reducible refine Gr.drew ?_ | with_reducible refine Gr.trans ?_ (by with_reducible assumption))); done)) _ | with_reducible refine Gr.trans ?_ (by with_reducible assumption)))).mono ?_
      rintro e w2 ⟨rfl, g2⟩
      go_wp2_with fail
      refine bodyPost_ret (v := sle (.slice none 0 0) te) (by simp [results, Tryz.results52, go_sem, *]) rfl ⟨_, ret_sle HN.out.symm, (fun h => by rw [HN.out] at h; exact absurd h hz), (by repeat (first | with_reducible exact Gr.refl _ | with_reducible assumption | with_reducible refine Gr.alloc ?_ _ | with_reducible refine Gr.drewN ?_ _ | with_reducible refine Gr.drew ?_ | with_reducible refine Gr.setCell ?_ (by first | (dsimp only; omega) | (simp only [World.size_alloc]; omega) | (with_reducible refine Gr.size ?_; (repeat (first | with_reducible exact Gr.refl _ | with_reducible assumption | with_reducible refine Gr.alloc ?_ _ | with_reducible refine Gr.drewN ?_ _ | with_reducible refine Gr.drew ?_ | with_reducible refine Gr.trans ?_ (by with_reducible assumption))); done)) _ | with_reducible refine Gr.trans ?_ (by with_reducible assumption)))⟩
  · have HN := hide (dlE_part (t := t) h1)
    have HZ := hide h1
    clear h1 hP hE
    generalize valE p = te at *
    have hz : ¬ te = 0 := HZ.out
    go_enter Tryz.func52, Tryz.ntmps52
    go_wp2_with fail
    refine (HV.out _ (by repeat (first | with_reducible exact Gr.refl _ | with_reducible assumption | with_reducible refine Gr.alloc ?_ _ | with_reducible refine Gr.drewN ?_ _ | with_reducible refine Gr.drew ?_ | with_reducible refine Gr.setCell ?_ (by first | (dsimp only; omega) | (simp only [World.size_alloc]; omega) | (with_reducible refine Gr.size ?_; (repeat (first | with_reducible exact Gr.refl _ | with_reducible assumption | with_reducible refine Gr.alloc ?_ _ | with_reducible refine Gr.drewN ?_ _ | with_reducible refine Gr.drew ?_ | with_reducible refine Gr.trans ?_ (by with_reducible assumption))); done)) _ | with_reducible refine Gr.trans ?_ (by with_reducible assumption)))).mono ?_
    rintro e w1 ⟨rfl, g1⟩
    go_wp2_with fail
    refine bodyPost_ret (v := sle (.slice none 0 0) te) (by simp [results, Tryz.results52, go_sem, *]) rfl ⟨_, ret_sle HN.out.symm, (fun h => by rw [HN.out] at h; exact absurd h hz), (by repeat (first | with_reducible exact Gr.refl _ | with_reducible assumption | with_reducible refine Gr.alloc ?_ _ | with_reducible refine Gr.drewN ?_ _ | with_reducible refine Gr.drew ?_ | with_reducible refine Gr.setCell ?_ (by first | (dsimp only; omega) | (simp only [World.size_alloc]; omega) | (with_reducible refine Gr.size ?_; (repeat (first | with_reducible exact Gr.refl _ | with_reducible assumption | with_reducible refine Gr.alloc ?_ _ | with_reducible refine Gr.drewN ?_ _ | with_reducible refine Gr.drew ?_ | with_reducible refine Gr.trans ?_ (by with_reducible assumption))); done)) _ | with_reducible refine Gr.trans ?_ (by with_reducible assumption)))⟩
end Go.Proofs.YtjnfodbniohkhaaGreat
set_option linter.unusedVariables false
set_option linter.unusedSimpArgs false
namespace Go.Proofs.YtjnfodbniohkhaaGreat
set_option linter.unusedVariables false
set_option linter.unusedSimpArgs false
open Go Go.ChangeShapes Go.WideShapes Go.ChangeAt Go.RowKit Go.Deep

theorem elPl : ElT Tryz.prog 67 109 6 48 := elT_of (.agg #[.int .i64 0, .int .i64 0, .int .i64 0, .int .i64 0, .int .i64 0, .int .i64 0]) Tryz.underlying67 (by kernel_rfl) rfl
theorem one_pl (q : Pl) : ∀ u ∈ plL q, u.oneCell' = true := by
  intro u hu
  simp at hu
  rcases hu with rfl | rfl | rfl | rfl | rfl | rfl <;> rfl
theorem RdL.pl {w : World} {A : Option Addr} {l : List Pl} (h : RdL w 6 plL A l) {i : Nat} {f : Pl} (hi : l[i]? = some f) : ∃ b off, A = some ⟨b, off, none⟩ ∧ w.cell? ⟨b, off + i * 6, none⟩ = some (iv f.x) ∧ w.cell? ⟨b, off + i * 6 + 1, none⟩ = some (iv f.y) ∧
    w.cell? ⟨b, off + i * 6 + 2, none⟩ = some (iv (f.t : Int)) ∧ w.cell? ⟨b, off + i * 6 + 3, none⟩ = some (iv f.w) ∧ w.cell? ⟨b, off + i * 6 + 4, none⟩ = some (iv f.h) ∧ w.cell? ⟨b, off + i * 6 + 5, none⟩ = some (iv f.lo) := by
  obtain ⟨b, off, e, h0, h1, h2, h3, h4, h5, _⟩ := h i f hi
  exact ⟨b, off, e, h0, h1, h2, h3, h4, h5⟩
/-- a slice of places, as a callee gets it -/
structure SlP (w : World) (A : Option Addr) (c : Nat) (l : List Pl) : Prop where
  rd : RdL w 6 plL A l
  cap : l.length ≤ c
  capB : c ≤ 9223372036854775807
theorem SlP.gr {w w' : World} {A : Option Addr} {c : Nat} {l : List Pl} (h : SlP w A c l) (g : Gr w w') : SlP w' A c l := ⟨h.rd.gr g, h.cap, h.capB⟩
theorem slP_own {w : World} {base : Nat} {e : TypeId} {A : Option Addr} {n d : Nat} {xs : List Pl} (h : OwnL w base e 6 plL (.slice A n d) xs) : SlP w A d xs := by
  obtain ⟨_, h1, h2, h3⟩ := OwnL.rd (c := plL) (fun _ => rfl) h
  exact ⟨h1, h2, by unfold maxLen at h3; omega⟩
/-- the places of all faces of a part -/
def plsA (p : Pa) (t : Tb) : List Pl := pls p.wd p.ht p.fl (dT t) p.fl.length
def shB (l : List Pl) : Bool := l.any fun q => decide (abv q q.h < 1)
noncomputable def plE (p : Pa) (t : Tb) : Int := if dlE p t ≠ 0 then dlE p t else if shB (plsA p t) then 8 else 0
theorem plE_ded {p : Pa} {t : Tb} (h : ¬ dlE p t = 0) : plE p t = dlE p t := by
  unfold plE
  rw [if_pos h]
theorem plE_short {p : Pa} {t : Tb} (h : dlE p t = 0) {i : Nat} {q : Pl} (hq : (plsA p t)[i]? = some q) (k : abv q q.h < 1) : plE p t = 8 := by
  unfold plE shB
  rw [if_neg (by simpa using h), if_pos (List.any_eq_true.2 ⟨q, List.mem_of_getElem? hq, by simpa using k⟩)]
theorem plE_ok {p : Pa} {t : Tb} (h : dlE p t = 0) (k : ∀ i q, i < (plsA p t).length → (plsA p t)[i]? = some q → 1 ≤ abv q q.h) : plE p t = 0 := by
  unfold plE shB
  rw [if_neg (by simpa using h), if_neg]
  rw [List.any_eq_true]
  rintro ⟨q, hq, hk⟩
  obtain ⟨i, hi⟩ := List.mem_iff_getElem?.1 hq
  have := k i q (List.getElem?_eq_some_iff.1 hi).1 hi
  have hk2 : abv q q.h < 1 := by simpa using hk
  omega
theorem plE_zero {p : Pa} {t : Tb} (h : plE p t = 0) : dlE p t = 0 ∧ ∀ q ∈ plsA p t, 1 ≤ abv q q.h := by
  by_cases h1 : dlE p t = 0
  · refine ⟨h1, fun q hq => ?_⟩
    obtain ⟨i, hi⟩ := List.mem_iff_getElem?.1 hq
    refine Int.not_lt.1 fun k => ?_
    rw [plE_short h1 hi k] at h
    cases h
  · rw [plE_ded h1] at h
    exact absurd h h1
/-- a valid part's flanges, with the deductions of a table -/
theorem flsB_v {p : Pa} (t : Tb) (h1 : valE p = 0) : FlsB p.wd p.ht p.fl (dT t) := by
  have G := good_of h1
  have F := G.fl
  refine ⟨F.wd, F.ht, fun i f hf => ?_, fun i f hf => ?_, fun i f hf => dT_bd t f⟩
  · exact (F.fl i f (List.getElem?_eq_some_iff.1 hf).1 hf).1
  · obtain ⟨_, a2, _, a4, a5, a6⟩ := F.fl i f (List.getElem?_eq_some_iff.1 hf).1 hf
    exact ⟨a2, a6, a4, a5⟩
theorem flsB_of {p : Pa} {t : Tb} (h : dlE p t = 0) : FlsB p.wd p.ht p.fl (dT t) := flsB_v t (dlE_zero h).1
set_option maxRecDepth 100000 in
set_option maxHeartbeats 4000000 in
theorem places_any (p : Pa) (t : Tb) (A B C : Option Addr) (c d q : Nat) (w : World) (hP : PaW w p A c B d) (hE : SlE w C q t.en) (hs : t.mt.size ≤ 1000) :
    Calls Tryz.prog 22 #[pav p A c B d, tbv t C q] w fun e w' => ∃ v, e = .returned (sle v (plE p t)) ∧ (plE p t = 0 → OwnL w' w.heap.size 109 6 plL v (plsA p t)) ∧ Gr w w' := by
  have HD := hide (fun (w' : World) (g : Gr w w') => deductions_any p t A B C c d q w' (hP.gr g) (hE.gr g) hs)
  have HP := hide hP
  by_cases h0 : dlE p t = 0
  · have HB := hide (flsB_of h0)
    have HZ := hide h0
    have h5 := (good_of (dlE_zero h0).1).nfl
    rw [h0] at HD
    clear hP hE h0
    go_enter Tryz.func22, Tryz.ntmps22
    go_upto_region 2 with fail
    refine (HD.out _ (by repeat (first | with_reducible exact Gr.refl _ | with_reducible assumption | with_reducible refine Gr.alloc ?_ _ | with_reducible refine Gr.drewN ?_ _ | with_reducible refine Gr.drew ?_ | with_reducible refine Gr.setCell ?_ (by first | (dsimp only; omega) | (simp only [World.size_alloc]; omega) | (with_reducible refine Gr.size ?_; (repeat (first | with_reducible exact Gr.refl _ | with_reducible assumption | with_reducible refine Gr.alloc ?_ _ | with_reducible refine Gr.drewN ?_ _ | with_reducible refine Gr.drew ?_ | with_reducible refine Gr.trans ?_ (by with_reducible assumption))); done)) _ | with_reducible refine Gr.trans ?_ (by with_reducible assumption)))).mono ?_
    rintro e w1 ⟨v1, rfl, hO1, g1⟩
    have hO1 := hO1 (by trivial)
    obtain ⟨A1, d1, rfl⟩ := hO1.slice
    rw [List.length_map] at hO1 ⊢
    obtain ⟨X1, Y1, c1, f1⟩ := g1.use
    have z1 := g1.size
    simp only [World.size_alloc] at z1
    have l1 : w.heap.size + 1 < w1.heap.size := by omega
    have l0 : w.heap.size < w1.heap.size := by omega
    have gw1 : Gr w w1 := (by repeat (first | with_reducible exact Gr.refl _ | with_reducible assumption | with_reducible refine Gr.alloc ?_ _ | with_reducible refine Gr.drewN ?_ _ | with_reducible refine Gr.drew ?_ | with_reducible refine Gr.setCell ?_ (by first | (dsimp only; omega) | (simp only [World.size_alloc]; omega) | (with_reducible refine Gr.size ?_; (repeat (first | with_reducible exact Gr.refl _ | with_reducible assumption | with_reducible refine Gr.alloc ?_ _ | with_reducible refine Gr.drewN ?_ _ | with_reducible refine Gr.drew ?_ | with_reducible refine Gr.trans ?_ (by with_reducible assumption))); done)) _ | with_reducible refine Gr.trans ?_ (by with_reducible assumption)))
    have n4 : w1.cell? ⟨w.heap.size, 4, none⟩ = some (iv p.wd) := by rw [c1]; simp [go_sem]
    have n5 : w1.cell? ⟨w.heap.size, 5, none⟩ = some (iv p.ht) := by rw [c1]; simp [go_sem]
    have n6 : w1.cell? ⟨w.heap.size, 6, none⟩ = some (.slice A p.fl.length c) := by rw [c1]; simp [go_sem]
    have HO1 := hide hO1
    clear X1 Y1 c1 f1 hO1
    go_upto_region 5 with fail
    have g1b : Gr w1 (w1.alloc (.cells #[iv 0, iv 0, iv 0, iv p.wd, iv p.ht, iv 0] 109)) := Gr.alloc (Gr.refl _) _
    have own0 := own_lit (c := plL) (k := 6) w1 w1.heap.size 109 #[iv 0, iv 0, iv 0, iv p.wd, iv p.ht, iv 0] [⟨0, 0, 0, p.wd, p.ht, 0⟩] (Nat.le_refl _) (fun _ => rfl) rfl (by simp)
    have HO0 := hide own0
    clear own0
    go_wp2_with fail
    go_loopw [8, 31] (fun v i wr => ∃ (k : Nat) (A2 : Option Addr) (d2 : Nat), k ≤ p.fl.length ∧ i = iv k ∧ v = .slice A2 (k + 1) d2 ∧ Gr w1 wr ∧ Hid (OwnL wr w1.heap.size 109 6 plL (.slice A2 (k + 1) d2) (pls p.wd p.ht p.fl (dT t) k))) (fun _ i _ => p.fl.length - (intOf i).toNat)
    case atStart => exact ⟨0, _, _, by omega, rfl, rfl, g1b, HO0.out⟩
    case round =>
      obtain ⟨k, A2, d2, hk, rfl, rfl, g, HO⟩ := hrel
      have gW : Gr w wr := gw1.trans g
      have zr := g.size
      have l0 : w.heap.size < wr.heap.size := by omega
      have hlen : (pls p.wd p.ht p.fl (dT t) k).length = k + 1 := pls_len hk
      by_cases hkl : k < p.fl.length
      · obtain ⟨f, hf⟩ : ∃ f, p.fl[k]? = some f := ⟨_, List.getElem?_eq_getElem hkl⟩
        obtain ⟨b, off, hA, x0, x1, x2, x3, x4, x5, x6⟩ := HP.out.fl.rd.fl hf
        subst hA
        have hb : b < w.heap.size := cell_lt (by rw [x0]; rfl)
        have hbr : b < wr.heap.size := by omega
        have y0 := (gW.cell _ _ hb).trans x0
        have y1 := (gW.cell _ _ hb).trans x1
        have y2 := (gW.cell _ _ hb).trans x2
        have y3 := (gW.cell _ _ hb).trans x3
        have y4 := (gW.cell _ _ hb).trans x4
        have y5 := (gW.cell _ _ hb).trans x5
        have y6 := (gW.cell _ _ hb).trans x6
        clear x0 x1 x2 x3 x4 x5 x6
        have hpa := HB.out.pa k f hf
        obtain ⟨m, hm⟩ : ∃ m : Nat, f.pa = m := ⟨f.pa.toNat, by omega⟩
        have hmk : m ≤ k := by omega
        obtain ⟨gp, hgp⟩ : ∃ gp, (pls p.wd p.ht p.fl (dT t) k)[m]? = some gp := ⟨_, List.getElem?_eq_getElem (by omega)⟩
        have hpb : PlB k gp := pls_b HB.out hk gp (List.mem_of_getElem? hgp)
        have HPO := hide (fun w => placeOf_any f gp (dT t f) k w hpb (HB.out.fl k f hf) (by omega))
        have HS := hide (show pls p.wd p.ht p.fl (dT t) k ++ [plC gp f (dT t f)] = pls p.wd p.ht p.fl (dT t) (k + 1) by
          rw [pls_succ hf, hm, show ((m : Int)).toNat = m from rfl, hgp]; rfl)
        have HN := hide (pls_len (w := p.wd) (h := p.ht) (l := p.fl) (D := dT t) (k := k + 1) (by omega))
        obtain ⟨bs, os, hA2, v0, v1, v2, v3, v4, v5⟩ := (slP_own HO.out).rd.pl hgp
        subst hA2
        have hbs : bs < wr.heap.size := cell_lt (by rw [v0]; rfl)
        obtain ⟨lb, ol, hA3, u0⟩ := ((OwnL.rd (c := inL) (fun _ => rfl) HO1.out).2.1).int (i := k) (z := dT t f) (by rw [List.getElem?_map, hf]; rfl)
        subst hA3
        have hlb : lb < w1.heap.size := cell_lt (by rw [u0]; rfl)
        have u1 := (g.cell _ _ hlb).trans u0
        have hlb2 : lb < wr.heap.size := by omega
        clear u0 hgp hpb hf
        generalize hL1 : pls p.wd p.ht p.fl (dT t) k = L1 at *
        generalize hL2 : pls p.wd p.ht p.fl (dT t) (k + 1) = L2 at *
        have HL1 := hide hL1
        have HL2 := hide hL2
        clear hL1 hL2
        generalize dT t f = dd at *
        obtain ⟨nm, pa, sd, fo, wd, ln, an⟩ := f
        simp only at hm hpa y0 y1 y2 y3 y4 y5 y6
        subst hm
        have HPV := hide (show plC gp ⟨nm, (m : Int), sd, fo, wd, ln, an⟩ dd = plC gp ⟨nm, (m : Int), sd, fo, wd, ln, an⟩ dd from rfl)
        generalize plC gp ⟨nm, (m : Int), sd, fo, wd, ln, an⟩ dd = pq at *
        obtain ⟨q1, q2, q3, q4, q5, q6⟩ := pq
        have hk0 : (0 : Int) ≤ (k : Int) := by omega
        have hk1 : (k : Int) < (p.fl.length : Int) := by omega
        have hm0 : (0 : Int) ≤ (m : Int) := by omega
        have hm1 : (m : Int) < (k : Int) + 1 := by omega
        clear n4 n5 n6
        go_upto_region 8 with fail
        refine wp_region_build1 _ 12 (by kernel_rfl) (by kernel_rfl) (Gr.refl _) (d1 := some 48) rfl ?_
        intro s gs
        obtain ⟨Xs, Ys, cs, fs⟩ := gs.use
        have GC := @GrW.cell
        simp only [List.take_succ_cons, List.take_zero]
        repeat (go_big_quiet_step ((first | (go_at_call 53; exact quiet_grw (HPO.out _)))))
        refine wpQuiet_nil ?_
        clear GC cs fs gs
        refine ⟨fun BB => .slice (some ⟨BB, 0, none⟩) 1 1, #[iv q1, iv q2, iv (q3 : Int), iv q4, iv q5, iv q6], 109, ⟨rfl, rfl, fun w => by go_simp⟩, ?_⟩
        intro B1 wq gq1 l1 ⟨b1, c1, f1⟩
        obtain ⟨Xq, Yq, cq, fq⟩ := gq1.use
        have sq := gq1.size
        (try simp only [World.size_alloc, World.size_setCell, World.heap_drewN] at sq l1)
        simp only [List.drop_succ_cons, List.drop_zero]
        refine wpList_app1 rfl _ _ _ rfl plL w1.heap.size 109 6 48 elPl (by decide) L1 ⟨q1, q2, q3, q4, q5, q6⟩ L2 HS.out (.slice (some ⟨bs, os, none⟩) (k + 1) d2) rfl (HO.out.gr (show Gr wr wq from (by repeat (first | with_reducible exact Gr.refl _ | with_reducible assumption | with_reducible refine Gr.alloc ?_ _ | with_reducible refine Gr.drewN ?_ _ | with_reducible refine Gr.drew ?_ | with_reducible refine Gr.setCell ?_ (by first | (dsimp only; omega) | (simp only [World.size_alloc]; omega) | (with_reducible refine Gr.size ?_; (repeat (first | with_reducible exact Gr.refl _ | with_reducible assumption | with_reducible refine Gr.alloc ?_ _ | with_reducible refine Gr.drewN ?_ _ | with_reducible refine Gr.drew ?_ | with_reducible refine Gr.trans ?_ (by with_reducible assumption))); done)) _ | with_reducible refine Gr.trans ?_ (by with_reducible assumption))))) ⟨B1, 0, none⟩ 1 rfl rfl (by intro j u hu; rw [addr_add, Nat.zero_add, c1]; simpa using hu) (one_pl _) (by omega) (by decide) (by omega) ?_
        intro gg cap1 w8 hO8 hG8 _ _ _
        have G8 : Gr w1 w8 := hG8 _ (g.trans (show Gr wr wq from (by repeat (first | with_reducible exact Gr.refl _ | with_reducible assumption | with_reducible refine Gr.alloc ?_ _ | with_reducible refine Gr.drewN ?_ _ | with_reducible refine Gr.drew ?_ | with_reducible refine Gr.setCell ?_ (by first | (dsimp only; omega) | (simp only [World.size_alloc]; omega) | (with_reducible refine Gr.size ?_; (repeat (first | with_reducible exact Gr.refl _ | with_reducible assumption | with_reducible refine Gr.alloc ?_ _ | with_reducible refine Gr.drewN ?_ _ | with_reducible refine Gr.drew ?_ | with_reducible refine Gr.trans ?_ (by with_reducible assumption))); done)) _ | with_reducible refine Gr.trans ?_ (by with_reducible assumption))))) (Nat.le_refl _)
        clear c1 f1 cq fq hG8
        go_wp2
        go_roundw
        case rel => exact ⟨k + 1, some ⟨gg, 0, none⟩, cap1, by omega, by go_num, by rw [HN.out], G8, by rw [HL2.out, ← HN.out]; exact hO8⟩
        case measure => simp only [intOf]; omega
      · obtain rfl : k = p.fl.length := by omega
        have HLL := hide (show pls p.wd p.ht p.fl (dT t) p.fl.length = plsA p t from rfl)
        rw [HLL.out] at HO hlen
        have HS9 := hide (slP_own HO.out)
        have HLN := hide hlen
        have HW9 := hide (HO.out.weak (show w.heap.size ≤ w1.heap.size by omega))
        clear HO hlen n4 n5 n6
        go_wp2_with fail
        have HZE := hide (fun i q hq k => plE_short (t := t) (i := i) (q := q) HZ.out hq k)
        have HZO := hide (fun k => plE_ok (t := t) HZ.out k)
        rw [HLN.out] at HZO
        have HPB := hide (fun q hq => pls_b HB.out (Nat.le_refl _) q hq)
        rw [HLL.out] at HPB
        have HN5 := h5
        clear HD HO1 HO0 HLL
        generalize hLe : plsA p t = L at *
        have HLE := hide hLe
        clear hLe
        obtain ⟨wo, rfl⟩ : ∃ wo, wo = wr := ⟨_, rfl⟩
        go_loopw [53] (fun i wx => ∃ j : Nat, j ≤ p.fl.length + 1 ∧ i = iv j ∧ Gr wo wx ∧ Hid (∀ i q, i < j → L[i]? = some q → 1 ≤ abv q q.h)) (fun i _ => p.fl.length + 1 - (intOf i).toNat)
        case atStart => exact ⟨0, by omega, rfl, Gr.refl _, fun i q hi => by omega⟩
        case round =>
          obtain ⟨j, hj, rfl, g2, HS⟩ := hrel
          have zx := g2.size
          by_cases hjl : j < p.fl.length + 1
          · obtain ⟨q, hq⟩ : ∃ q, L[j]? = some q := ⟨_, List.getElem?_eq_getElem (by rw [HLN.out]; omega)⟩
            obtain ⟨b, off, hA2, v0, v1, v2, v3, v4, v5⟩ := (HS9.out.gr g2).rd.pl hq
            subst hA2
            have hbb : b < wr.heap.size := cell_lt (by rw [v0]; rfl)
            have hqb := HPB.out q (List.mem_of_getElem? hq)
            have hh1 := hqb.h
            have hh2 := hqb.lo
            have HAB := hide (fun w => above_any q q.h w (by omega) (by omega))
            have HQ := hide hq
            have hk0 : (0 : Int) ≤ (j : Int) := by omega
            have hk1 : (j : Int) < (p.fl.length : Int) + 1 := by omega
            clear hq hqb
            by_cases hsh : abv q q.h < 1
            · have HE := hide (HZE.out j q HQ.out hsh)
              go_wp2_with (first | (go_at_call 54; refine (HAB.out _).mono ?_; rintro e w1 ⟨rfl, g1⟩; obtain ⟨X1, Y1, c1, f1⟩ := g1.use; have z1 := g1.size; (try simp only [World.size_alloc, World.size_setCell, World.heap_drewN, Nat.add_one_le_iff] at z1); (try have l0 : w.heap.size < w1.heap.size := by omega); (try have l1 : w.heap.size + 1 < w1.heap.size := by omega); (try have l2 : w.heap.size + 1 + 1 < w1.heap.size := by omega)))
              refine bodyPost_ret (v := sle (.slice none 0 0) 8) (by simp [results, Tryz.results22, go_sem, *]) rfl ⟨_, ret_sle HE.out.symm, (fun h => by rw [HE.out] at h; cases h), (gW.trans g2).trans (by repeat (first | with_reducible exact Gr.refl _ | with_reducible assumption | with_reducible refine Gr.alloc ?_ _ | with_reducible refine Gr.drewN ?_ _ | with_reducible refine Gr.drew ?_ | with_reducible refine Gr.setCell ?_ (by first | (dsimp only; omega) | (simp only [World.size_alloc]; omega) | (with_reducible refine Gr.size ?_; (repeat (first | with_reducible exact Gr.refl _ | with_reducible assumption | with_reducible refine Gr.alloc ?_ _ | with_reducible refine Gr.drewN ?_ _ | with_reducible refine Gr.drew ?_ | with_reducible refine Gr.trans ?_ (by with_reducible assumption))); done)) _ | with_reducible refine Gr.trans ?_ (by with_reducible assumption)))⟩
            · have HS2 := hide (show ∀ i z, i < j + 1 → L[i]? = some z → 1 ≤ abv z z.h by
                intro i z hi hz
                rcases Nat.lt_or_ge i j with h | h
                · exact HS.out i z h hz
                · obtain rfl : i = j := by omega
                  rw [HQ.out] at hz
                  obtain rfl := Option.some.inj hz
                  omega)
              go_wp2_with (first | (go_at_call 54; refine (HAB.out _).mono ?_; rintro e w1 ⟨rfl, g1⟩; obtain ⟨X1, Y1, c1, f1⟩ := g1.use; have z1 := g1.size; (try simp only [World.size_alloc, World.size_setCell, World.heap_drewN, Nat.add_one_le_iff] at z1); (try have l0 : w.heap.size < w1.heap.size := by omega); (try have l1 : w.heap.size + 1 < w1.heap.size := by omega); (try have l2 : w.heap.size + 1 + 1 < w1.heap.size := by omega)))
              go_roundw
              case rel => exact ⟨j + 1, by omega, by go_num, g2.trans (by repeat (first | with_reducible exact Gr.refl _ | with_reducible assumption | with_reducible refine Gr.alloc ?_ _ | with_reducible refine Gr.drewN ?_ _ | with_reducible refine Gr.drew ?_ | with_reducible refine Gr.setCell ?_ (by first | (dsimp only; omega) | (simp only [World.size_alloc]; omega) | (with_reducible refine Gr.size ?_; (repeat (first | with_reducible exact Gr.refl _ | with_reducible assumption | with_reducible refine Gr.alloc ?_ _ | with_reducible refine Gr.drewN ?_ _ | with_reducible refine Gr.drew ?_ | with_reducible refine Gr.trans ?_ (by with_reducible assumption))); done)) _ | with_reducible refine Gr.trans ?_ (by with_reducible assumption))), HS2⟩
              case measure => simp only [intOf]; omega
          · obtain rfl : j = p.fl.length + 1 := by omega
            have HE := hide (HZO.out HS.out)
            go_wp2_with fail
            refine bodyPost_ret (v := sle (.slice A2 (p.fl.length + 1) d2) 0) (by simp [results, Tryz.results22, go_sem, *]) rfl ⟨_, ret_sle HE.out.symm, (fun _ => by rw [HLE.out]; exact HW9.out.gr g2), gW.trans g2⟩
  · have HN := hide (plE_ded h0)
    have HZ := hide h0
    clear h0 hP hE
    generalize dlE p t = te at *
    have hz : ¬ te = 0 := HZ.out
    go_enter Tryz.func22, Tryz.ntmps22
    go_wp2_with fail
    refine (HD.out _ (by repeat (first | with_reducible exact Gr.refl _ | with_reducible assumption | with_reducible refine Gr.alloc ?_ _ | with_reducible refine Gr.drewN ?_ _ | with_reducible refine Gr.drew ?_ | with_reducible refine Gr.setCell ?_ (by first | (dsimp only; omega) | (simp only [World.size_alloc]; omega) | (with_reducible refine Gr.size ?_; (repeat (first | with_reducible exact Gr.refl _ | with_reducible assumption | with_reducible refine Gr.alloc ?_ _ | with_reducible refine Gr.drewN ?_ _ | with_reducible refine Gr.drew ?_ | with_reducible refine Gr.trans ?_ (by with_reducible assumption))); done)) _ | with_reducible refine Gr.trans ?_ (by with_reducible assumption)))).mono ?_
    rintro e w1 ⟨v1, rfl, -, g1⟩
    go_wp2_with fail
    refine bodyPost_ret (v := sle (.slice none 0 0) te) (by simp [results, Tryz.results22, go_sem, *]) rfl ⟨_, ret_sle HN.out.symm, (fun h => by rw [HN.out] at h; exact absurd h hz), (by repeat (first | with_reducible exact Gr.refl _ | with_reducible assumption | with_reducible refine Gr.alloc ?_ _ | with_reducible refine Gr.drewN ?_ _ | with_reducible refine Gr.drew ?_ | with_reducible refine Gr.setCell ?_ (by first | (dsimp only; omega) | (simp only [World.size_alloc]; omega) | (with_reducible refine Gr.size ?_; (repeat (first | with_reducible exact Gr.refl _ | with_reducible assumption | with_reducible refine Gr.alloc ?_ _ | with_reducible refine Gr.drewN ?_ _ | with_reducible refine Gr.drew ?_ | with_reducible refine Gr.trans ?_ (by with_reducible assumption))); done)) _ | with_reducible refine Gr.trans ?_ (by with_reducible assumption)))⟩
end Go.Proofs.YtjnfodbniohkhaaGreat
set_option linter.unusedVariables false
set_option linter.unusedSimpArgs false
namespace Go.Proofs.YtjnfodbniohkhaaGreat
set_option linter.unusedVariables false
set_option linter.unusedSimpArgs false
open Go Go.ChangeShapes Go.WideShapes Go.ChangeAt Go.RowKit Go.Deep

abbrev frv (F : Fr) : Value := .agg #[iv F.x, iv F.y, iv F.ux, iv F.uy, iv F.vx, iv F.vy, iv F.w, iv F.h, iv F.le]
abbrev frL (F : Fr) : List Value := [iv F.x, iv F.y, iv F.ux, iv F.uy, iv F.vx, iv F.vy, iv F.w, iv F.h, iv F.le]
theorem frO_one (q : Pl) : (-1 ≤ (frO q).ux ∧ (frO q).ux ≤ 1) ∧ (-1 ≤ (frO q).uy ∧ (frO q).uy ≤ 1) ∧ (-1 ≤ (frO q).vx ∧ (frO q).vx ≤ 1) ∧ -1 ≤ (frO q).vy ∧ (frO q).vy ≤ 1 := by
  obtain ⟨a, b⟩ := rt_bd q.t (u := 1) (v := 0) (m := 1) (by omega) (by omega)
  obtain ⟨c, d⟩ := rt_bd q.t (u := 0) (v := 1) (m := 1) (by omega) (by omega)
  exact ⟨a, b, c, d⟩
theorem frO_plC (q : Pl) (f : Fl) (d : Int) (hs : sdOk f.sd) : frO (plC q f d) = ⟨ptX q (beU f q * 720) (abv q (beV f q)), ptY q (beU f q * 720) (abv q (beV f q)),
    (if f.sd = 0 then -(frO q).vx else if f.sd = 1 then -(frO q).ux else if f.sd = 2 then (frO q).vx else (frO q).ux),
    (if f.sd = 0 then -(frO q).vy else if f.sd = 1 then -(frO q).uy else if f.sd = 2 then (frO q).vy else (frO q).uy),
    (if f.sd = 0 then (frO q).ux else if f.sd = 1 then -(frO q).vx else if f.sd = 2 then -(frO q).ux else (frO q).vx),
    (if f.sd = 0 then (frO q).uy else if f.sd = 1 then -(frO q).vy else if f.sd = 2 then -(frO q).uy else (frO q).vy), f.wd * 720, f.ln * 720 - d, d⟩ := by
  have h := frO_dir q f d hs
  have e : ∀ F : Fr, F = ⟨F.x, F.y, F.ux, F.uy, F.vx, F.vy, F.w, F.h, F.le⟩ := fun F => rfl
  rw [e (frO (plC q f d))]
  have hx : (frO (plC q f d)).x = ptX q (beU f q * 720) (abv q (beV f q)) := rfl
  have hy : (frO (plC q f d)).y = ptY q (beU f q * 720) (abv q (beV f q)) := rfl
  have hw : (frO (plC q f d)).w = f.wd * 720 := rfl
  have hh : (frO (plC q f d)).h = f.ln * 720 - d := rfl
  have hl : (frO (plC q f d)).le = d := rfl
  rw [hx, hy, hw, hh, hl]
  rcases hs with s | s | s | s <;> simp only [s, if_true, if_false, Int.reduceEq, Prod.mk.injEq] at h ⊢ <;> (obtain ⟨a, b, c, d'⟩ := h; rw [a, b, c, d'])
end Go.Proofs.YtjnfodbniohkhaaGreat
set_option linter.unusedVariables false
set_option linter.unusedSimpArgs false
namespace Go.Proofs.YtjnfodbniohkhaaGreat
set_option linter.unusedVariables false
set_option linter.unusedSimpArgs false
open Go Go.ChangeShapes Go.WideShapes Go.ChangeAt Go.RowKit Go.Deep

/-- no flange of a valid part has an error -/
theorem flE_all {p : Pa} (h : valE p = 0) : ∀ (i : Nat) (f : Fl), p.fl[i]? = some f → flE p i f = 0 := by
  by_cases h1 : (nameB p.nm.toList && nameB p.mt.toList) = true
  · by_cases h2 : basB p = true
    · by_cases h3 : 5 < p.fl.length ∨ 6 < p.ho.length
      · rw [valE_large h1 h2 h3] at h
        cases h
      · rw [valE_rest h1 h2 h3] at h
        split at h
        · rename_i h4
          exact absurd h h4
        rename_i h4
        intro i f hf
        have := firE_zero (show firE (flA p) p.fl.length = 0 by simpa using h4) i (List.getElem?_eq_some_iff.1 hf).1
        unfold flA at this
        rw [hf] at this
        exact this
    · rw [valE_base h1 (by simpa using h2)] at h
      cases h
  · rw [valE_names (by simpa using h1)] at h
    cases h
/-- where a flange may lie -/
theorem flE_side {p : Pa} {i : Nat} {f : Fl} (h : flE p i f = 0) : (f.sd = 1 → f.pa = 0) ∧ 0 ≤ f.o ∧ f.o + f.wd ≤ sidL p f.pa f.sd := by
  unfold flE at h
  split at h
  · cases h
  split at h
  · cases h
  split at h
  · cases h
  rename_i h1
  split at h
  · cases h
  rename_i h2
  simp [wiB, sidB, angB, lenB] at h1 h2
  refine ⟨fun k => ?_, by omega, by omega⟩
  obtain ⟨⟨⟨⟨_, _, hb⟩, _⟩, _⟩, _⟩ := h1
  exact hb k
theorem a6_ang {a : Int} (h : anOk a) : a6B (abI a) = true := by
  unfold anOk at h
  rcases h with rfl | rfl | rfl | rfl <;> decide
theorem one_fr (q : Fr) : ∀ u ∈ frL q, u.oneCell' = true := by
  intro u hu
  simp at hu
  rcases hu with rfl | rfl | rfl | rfl | rfl | rfl | rfl | rfl | rfl <;> rfl
theorem RdL.fr {w : World} {A : Option Addr} {l : List Fr} (h : RdL w 9 frL A l) {i : Nat} {f : Fr} (hi : l[i]? = some f) : ∃ b off, A = some ⟨b, off, none⟩ ∧ w.cell? ⟨b, off + i * 9, none⟩ = some (iv f.x) ∧ w.cell? ⟨b, off + i * 9 + 1, none⟩ = some (iv f.y) ∧
    w.cell? ⟨b, off + i * 9 + 2, none⟩ = some (iv f.ux) ∧ w.cell? ⟨b, off + i * 9 + 3, none⟩ = some (iv f.uy) ∧ w.cell? ⟨b, off + i * 9 + 4, none⟩ = some (iv f.vx) ∧ w.cell? ⟨b, off + i * 9 + 5, none⟩ = some (iv f.vy) ∧
    w.cell? ⟨b, off + i * 9 + 6, none⟩ = some (iv f.w) ∧ w.cell? ⟨b, off + i * 9 + 7, none⟩ = some (iv f.h) ∧ w.cell? ⟨b, off + i * 9 + 8, none⟩ = some (iv f.le) := by
  obtain ⟨b, off, e, h0, h1, h2, h3, h4, h5, h6, h7, h8, _⟩ := h i f hi
  exact ⟨b, off, e, h0, h1, h2, h3, h4, h5, h6, h7, h8⟩
structure SlFr (w : World) (A : Option Addr) (c : Nat) (l : List Fr) : Prop where
  rd : RdL w 9 frL A l
  cap : l.length ≤ c
  capB : c ≤ 9223372036854775807
theorem SlFr.gr {w w' : World} {A : Option Addr} {c : Nat} {l : List Fr} (h : SlFr w A c l) (g : Gr w w') : SlFr w' A c l := ⟨h.rd.gr g, h.cap, h.capB⟩
theorem slFr_own {w : World} {base : Nat} {e : TypeId} {A : Option Addr} {n d : Nat} {xs : List Fr} (h : OwnL w base e 9 frL (.slice A n d) xs) : SlFr w A d xs := by
  obtain ⟨_, h1, h2, h3⟩ := OwnL.rd (c := frL) (fun _ => rfl) h
  exact ⟨h1, h2, by unfold maxLen at h3; omega⟩
theorem tik_quo {a b n : Int} (h : tikV a b = (n, 0)) : raB a b = true ∧ (a * 720).tdiv b = n := by
  unfold tikV at h
  split at h
  · rename_i h1
    split at h
    · exact ⟨h1, by simpa using h⟩
    · simp at h
  · simp at h
end Go.Proofs.YtjnfodbniohkhaaGreat
