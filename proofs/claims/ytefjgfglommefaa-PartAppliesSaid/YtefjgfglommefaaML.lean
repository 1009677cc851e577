/-
  Parts: whether a part is big; flanges and holes compared; what the laws take for granted of an argument.
  Parts compared, in the reference.
  Parts compared, in the reference: Equal.
  Parts copied, in the reference.
  PartValidates: the walk.
  Parts: lists compared and copied by package slices; flanges without their names.
  Parts compared, in the code: Equal; whether the outline differs.
  Parts compared, in the reference: whether the outline differs.
  Changed, on both sides; PartChanges: the walk.
  PartChanges: the walk.
  Parts: the exported Faces of both sides.
-/
import Derived.Test.YtefjgfglommefaaMW
import Derived.Test.YtefjgfglommefaaKnown
import Derived.Laws.StructEq
import Derived.Lib.SliceRun
set_option linter.unusedVariables false
set_option linter.unusedSimpArgs false
namespace Go.Proofs.Ytefjgfglommefaa
set_option linter.unusedVariables false
set_option linter.unusedSimpArgs false
open Go Go.ChangeShapes Go.WideShapes Go.ChangeAt Go.RowKit Go.Deep

def bgH (p : Pa) : Bool := decide (300 < p.nm.size) || decide (300 < p.mt.size) || decide (30 < p.fl.length) || decide (40 < p.ho.length)
/-- whether a part is big -/
def bgB (p : Pa) : Bool := bgH p || p.fl.any fun f => decide (300 < f.nm.size)
theorem bgB_head {p : Pa} (h : bgH p = true) : bgB p = true := by
  unfold bgB
  rw [h]
  rfl
theorem bgB_name {p : Pa} {f : Fl} {i : Nat} (h : p.fl[i]? = some f) (k : 300 < f.nm.size) : bgB p = true := by
  unfold bgB
  rw [Bool.or_eq_true]
  exact .inr (List.any_eq_true.2 ⟨f, List.mem_of_getElem? h, by simpa using k⟩)
theorem bgB_no {p : Pa} (h : bgH p = false) (k : ∀ i f, i < p.fl.length → p.fl[i]? = some f → f.nm.size ≤ 300) : bgB p = false := by
  unfold bgB
  rw [h, Bool.false_or, List.any_eq_false]
  intro f hf
  obtain ⟨i, hi⟩ := List.mem_iff_getElem?.1 hf
  have := k i f (List.getElem?_eq_some_iff.1 hi).1 hi
  simpa using this
theorem bgH_no {p : Pa} (h : bgH p = false) : p.nm.size ≤ 300 ∧ p.mt.size ≤ 300 ∧ p.fl.length ≤ 30 ∧ p.ho.length ≤ 40 := by
  unfold bgH at h
  simp only [Bool.or_eq_false_iff, decide_eq_false_iff_not] at h
  omega
theorem bgH_yes {p : Pa} (h : bgH p = true) : ¬ (p.nm.size ≤ 300 ∧ p.mt.size ≤ 300 ∧ p.fl.length ≤ 30 ∧ p.ho.length ≤ 40) := by
  unfold bgH at h
  simp only [Bool.or_eq_true, decide_eq_true_eq] at h
  omega
/-- an argument that is a part, of whatever size -/
structure PaX (w : World) (p : Pa) (A : Option Addr) (c : Nat) (B : Option Addr) (d : Nat) : Prop where
  fl : RdF w A p.fl
  ho : RdH w B p.ho
  i : PaI p
  cap : p.fl.length ≤ c ∧ c ≤ maxLen
  cap2 : p.ho.length ≤ d ∧ d ≤ maxLen
theorem PaX.gr {w w' : World} {p : Pa} {A : Option Addr} {c : Nat} {B : Option Addr} {d : Nat} (h : PaX w p A c B d) (g : Gr w w') : PaX w' p A c B d := ⟨h.fl.gr g, h.ho.gr g, h.i, h.cap, h.cap2⟩
theorem PaX.small {w : World} {p : Pa} {A : Option Addr} {c : Nat} {B : Option Addr} {d : Nat} (h : PaX w p A c B d) (hb : bgB p = false) : PaW w p A c B d := by
  have hh : bgH p = false := by
    unfold bgB at hb
    rw [Bool.or_eq_false_iff] at hb
    exact hb.1
  have hf : ∀ f ∈ p.fl, f.nm.size ≤ 300 := by
    unfold bgB at hb
    rw [Bool.or_eq_false_iff, List.any_eq_false] at hb
    intro f hf
    have := hb.2 f hf
    simpa using this
  obtain ⟨a1, a2, a3, a4⟩ := bgH_no hh
  have c1 := h.cap
  have c2 := h.cap2
  unfold maxLen at c1 c2
  exact ⟨⟨h.fl, by omega, by omega, by omega, fun f k => by have := hf f k; omega⟩, ⟨h.ho, by omega, by omega, by omega⟩, by omega, by omega⟩
set_option maxRecDepth 100000 in
set_option maxHeartbeats 2000000 in
theorem big_any (p : Pa) (A B : Option Addr) (c d : Nat) (w : World) (hP : PaX w p A c B d) :
    Calls Try.prog 5 #[pav p A c B d] w fun e w' => e = .returned (.bool (bgB p)) ∧ Gr w w' := by
  have b1 := hP.i.nm
  have b2 := hP.i.mt
  have b3 := hP.cap
  have b4 := hP.cap2
  unfold maxLen at b1 b2 b3 b4
  cases hh : bgH p with
  | true =>
    have HN := hide (bgH_yes hh)
    have HE := hide (bgB_head hh)
    clear hh
    go_enter Try.func5, Try.ntmps5
    go_upto_region 3 with fail
    all_goals first
      | (go_ret
         exact ⟨ret_bool HE.out.symm, (by repeat (first | with_reducible exact Gr.refl _ | with_reducible assumption | with_reducible refine Gr.alloc ?_ _ | with_reducible refine Gr.drewN ?_ _ | with_reducible refine Gr.drew ?_ | with_reducible refine Gr.setCell ?_ (by first | (dsimp only; omega) | (simp only [World.size_alloc]; omega) | (with_reducible refine Gr.size ?_; (repeat (first | with_reducible exact Gr.refl _ | with_reducible assumption | with_reducible refine Gr.alloc ?_ _ | with_reducible refine Gr.drewN ?_ _ | with_reducible refine Gr.drew ?_ | with_reducible refine Gr.trans ?_ (by with_reducible assumption))); done)) _ | with_reducible refine Gr.trans ?_ (by with_reducible assumption)))⟩)
      | (exfalso
         refine HN.out ?_
         simp at *
         omega)
  | false =>
    obtain ⟨a1, a2, a3, a4⟩ := bgH_no hh
    have HH := hide hh
    have HP := hide hP
    clear hh hP
    go_enter Try.func5, Try.ntmps5
    go_upto_region 3 with fail
    go_wp2
    go_loopw [3] (fun i wr => ∃ k : Nat, k ≤ p.fl.length ∧ i = iv k ∧ Gr (w.alloc (.cells #[.string p.nm, .string p.mt, iv p.ga, iv p.gr, iv p.wd, iv p.ht, .slice A p.fl.length c, .slice B p.ho.length d] 25)) wr ∧ Hid (∀ i f, i < k → p.fl[i]? = some f → f.nm.size ≤ 300)) (fun i _ => p.fl.length - (intOf i).toNat)
    case atStart => exact ⟨0, by omega, rfl, Gr.refl _, by intro i f hi; omega⟩
    case round =>
      obtain ⟨k, hk, rfl, g, HS⟩ := hrel
      obtain ⟨Xr, Yr, cr, fr⟩ := g.use
      have zr := g.size
      simp only [World.size_alloc] at zr
      have l0 : w.heap.size < wr.heap.size := by omega
      by_cases hkl : k < p.fl.length
      · obtain ⟨f, hf⟩ : ∃ f, p.fl[k]? = some f := ⟨_, List.getElem?_eq_getElem hkl⟩
        obtain ⟨b, off, rfl, x0, x1, x2, x3, x4, x5, x6⟩ := HP.out.fl.fl hf
        have hb : b < w.heap.size := cell_lt (by rw [x0]; rfl)
        have hfi := (HP.out.i.fl f (List.mem_of_getElem? hf)).1
        unfold maxLen at hfi
        have HL := hide hf
        clear hf
        by_cases hs : 300 < f.nm.size
        · have HE := hide (bgB_name HL.out hs)
          go_wp2
          go_ret
          exact ⟨ret_bool HE.out.symm, (by repeat (first | with_reducible exact Gr.refl _ | with_reducible assumption | with_reducible refine Gr.alloc ?_ _ | with_reducible refine Gr.drewN ?_ _ | with_reducible refine Gr.drew ?_ | with_reducible refine Gr.setCell ?_ (by first | (dsimp only; omega) | (simp only [World.size_alloc]; omega) | (with_reducible refine Gr.size ?_; (repeat (first | with_reducible exact Gr.refl _ | with_reducible assumption | with_reducible refine Gr.alloc ?_ _ | with_reducible refine Gr.drewN ?_ _ | with_reducible refine Gr.drew ?_ | with_reducible refine Gr.trans ?_ (by with_reducible assumption))); done)) _ | with_reducible refine Gr.trans ?_ (by with_reducible assumption)))⟩
        · have HS' := hide (show ∀ i f, i < k + 1 → p.fl[i]? = some f → f.nm.size ≤ 300 by
            intro i g hi hg
            rcases Nat.lt_or_ge i k with h | h
            · exact HS.out i g h hg
            · obtain rfl : i = k := by omega
              rw [HL.out] at hg
              obtain rfl := Option.some.inj hg
              omega)
          go_wp2
          go_roundw
          case rel => exact ⟨k + 1, by omega, by go_num, (by repeat (first | with_reducible exact Gr.refl _ | with_reducible assumption | with_reducible refine Gr.alloc ?_ _ | with_reducible refine Gr.drewN ?_ _ | with_reducible refine Gr.drew ?_ | with_reducible refine Gr.setCell ?_ (by first | (dsimp only; omega) | (simp only [World.size_alloc]; omega) | (with_reducible refine Gr.size ?_; (repeat (first | with_reducible exact Gr.refl _ | with_reducible assumption | with_reducible refine Gr.alloc ?_ _ | with_reducible refine Gr.drewN ?_ _ | with_reducible refine Gr.drew ?_ | with_reducible refine Gr.trans ?_ (by with_reducible assumption))); done)) _ | with_reducible refine Gr.trans ?_ (by with_reducible assumption))), HS'⟩
          case measure => simp only [intOf]; omega
      · obtain rfl : k = p.fl.length := by omega
        have HE := hide (bgB_no HH.out HS.out)
        go_wp2
        go_ret
        exact ⟨ret_bool HE.out.symm, (by repeat (first | with_reducible exact Gr.refl _ | with_reducible assumption | with_reducible refine Gr.alloc ?_ _ | with_reducible refine Gr.drewN ?_ _ | with_reducible refine Gr.drew ?_ | with_reducible refine Gr.setCell ?_ (by first | (dsimp only; omega) | (simp only [World.size_alloc]; omega) | (with_reducible refine Gr.size ?_; (repeat (first | with_reducible exact Gr.refl _ | with_reducible assumption | with_reducible refine Gr.alloc ?_ _ | with_reducible refine Gr.drewN ?_ _ | with_reducible refine Gr.drew ?_ | with_reducible refine Gr.trans ?_ (by with_reducible assumption))); done)) _ | with_reducible refine Gr.trans ?_ (by with_reducible assumption)))⟩
theorem sFlg : Try.prog.underlying 27 = some (.struct (Try.prog.fieldsOf 27)) := by kernel_rfl
theorem pFlg : Try.prog.stoodInHeld 27 = false := by kernel_rfl
theorem gFlg : Try.prog.eqGuardType Try.prog.depth 27 = false := by kernel_rfl
theorem sHol : Try.prog.underlying 29 = some (.struct (Try.prog.fieldsOf 29)) := by kernel_rfl
theorem pHol : Try.prog.stoodInHeld 29 = false := by kernel_rfl
theorem gHol : Try.prog.eqGuardType Try.prog.depth 29 = false := by kernel_rfl
def flB (a b : Fl) : Bool := (a.nm.toList == b.nm.toList) && (a.pa == b.pa && (a.sd == b.sd && (a.o == b.o && (a.wd == b.wd && (a.ln == b.ln && a.an == b.an)))))
def hoQ (a b : Ho) : Bool := a.fa == b.fa && (a.kd == b.kd && (a.x == b.x && (a.y == b.y && (a.w == b.w && a.h == b.h))))
theorem flB_self (a : Fl) : flB a a = true := by simp [flB]
theorem hoQ_self (a : Ho) : hoQ a a = true := by simp [hoQ]
set_option maxHeartbeats 1000000 in
theorem eqFlg (a b : Fl) (w : World) : (Op.equalIn 10000 27 (flv a) (flv b)).run Try.prog w = .ok (flB a b) w := by
  have u3 := Try.underlying3
  have a3 := Try.isAgg3
  have z3 := Try.sizeOf3
  have u4 := Try.underlying9
  have a4 := Try.isAgg9
  have z4 := Try.sizeOf9
  rw [run_equalIn_agg w 9999 27 _ _ sFlg pFlg]
  simp only [Program.fieldsOf, Try.underlying27, flB]
  go_simp
  split
  case isFalse h => simp [h]
  rename_i h1
  split
  case isFalse h => simp [h1, h]
  rename_i h2
  split
  case isFalse h => simp [h1, h2, h]
  rename_i h3
  split
  case isFalse h => simp [h1, h2, h3, h]
  rename_i h4
  split
  case isFalse h => simp [h1, h2, h3, h4, h]
  rename_i h5
  split
  case isFalse h => simp [h1, h2, h3, h4, h5, h]
  rename_i h6
  split
  case isFalse h => simp [h1, h2, h3, h4, h5, h6, h]
  rename_i h7
  simp [h1, h2, h3, h4, h5, h6, h7]
set_option maxHeartbeats 1000000 in
theorem eqHol (a b : Ho) (w : World) : (Op.equalIn 10000 29 (hov a) (hov b)).run Try.prog w = .ok (hoQ a b) w := by
  have u3 := Try.underlying3
  have a3 := Try.isAgg3
  have z3 := Try.sizeOf3
  rw [run_equalIn_agg w 9999 29 _ _ sHol pHol]
  simp only [Program.fieldsOf, Try.underlying29, hoQ]
  go_simp
  split
  case isFalse h => simp [h]
  rename_i h1
  split
  case isFalse h => simp [h1, h]
  rename_i h2
  split
  case isFalse h => simp [h1, h2, h]
  rename_i h3
  split
  case isFalse h => simp [h1, h2, h3, h]
  rename_i h4
  split
  case isFalse h => simp [h1, h2, h3, h4, h]
  rename_i h5
  split
  case isFalse h => simp [h1, h2, h3, h4, h5, h]
  rename_i h6
  simp [h1, h2, h3, h4, h5, h6]
end Go.Proofs.Ytefjgfglommefaa
set_option linter.unusedVariables false
set_option linter.unusedSimpArgs false
namespace Go.Proofs.Ytefjgfglommefaa
set_option linter.unusedVariables false
set_option linter.unusedSimpArgs false
open Go Go.ChangeShapes Go.WideShapes Go.ChangeAt Go.RowKit Go.Deep

/-- whether f holds of two lists, place by place -/
noncomputable def lsB {α : Type} (f : α → α → Bool) (l m : List α) : Bool := @decide (l.length = m.length ∧ ∀ (i : Nat) (a b : α), l[i]? = some a → m[i]? = some b → f a b = true) (Classical.propDecidable _)
theorem lsB_iff {α : Type} {f : α → α → Bool} {l m : List α} : lsB f l m = true ↔ l.length = m.length ∧ ∀ (i : Nat) (a b : α), l[i]? = some a → m[i]? = some b → f a b = true := by
  unfold lsB
  exact @decide_eq_true_iff _ (Classical.propDecidable _)
theorem lsB_len {α : Type} {f : α → α → Bool} {l m : List α} (h : ¬ l.length = m.length) : lsB f l m = false := by
  rw [← Bool.not_eq_true, lsB_iff]
  exact fun k => h k.1
theorem lsB_stop {α : Type} {f : α → α → Bool} {l m : List α} {i : Nat} {a b : α} (ha : l[i]? = some a) (hb : m[i]? = some b) (h : f a b = false) : lsB f l m = false := by
  rw [← Bool.not_eq_true, lsB_iff]
  intro k
  have := k.2 i a b ha hb
  rw [h] at this
  cases this
theorem lsB_end {α : Type} {f : α → α → Bool} {l m : List α} (h : l.length = m.length) (k : ∀ (i : Nat) (a b : α), i < l.length → l[i]? = some a → m[i]? = some b → f a b = true) : lsB f l m = true :=
  lsB_iff.2 ⟨h, fun i a b ha hb => k i a b (List.getElem?_eq_some_iff.1 ha).1 ha hb⟩
theorem lsB_self {α : Type} {f : α → α → Bool} (h : ∀ a, f a a = true) (l : List α) : lsB f l l = true :=
  lsB_end rfl fun i a b _ ha hb => by
    rw [ha] at hb
    obtain rfl := Option.some.inj hb
    exact h a
theorem bn_eq {α : Type} [BEq α] {x y : α} (h : (x != y) = false) : (x == y) = true := by
  unfold bne at h
  simpa using h
theorem eq_bn {α : Type} [BEq α] {x y : α} (h : (x == y) = true) : (x != y) = false := by
  unfold bne
  rw [h]
  rfl
set_option maxRecDepth 100000 in
set_option maxHeartbeats 2000000 in
theorem sameHoles_any (A B : Option Addr) (c d : Nat) (l m : List Ho) (w : World) (hl : SlH w A c l) (hm : SlH w B d m) :
    Calls Try.prog 21 #[.slice A l.length c, .slice B m.length d] w fun e w' => e = .returned (.bool (lsB hoQ l m)) ∧ Gr w w' := by
  have n1 := hl.len
  have n2 := hm.len
  have HLl := hide hl
  have HLm := hide hm
  clear hl hm
  by_cases hlen : l.length = m.length
  · have HN := hide hlen
    have hq : ((l.length : Int) == (m.length : Int)) = true := by rw [beq_iff_eq]; omega
    have GP := gHol
    clear hlen
    go_enter Try.func21, Try.ntmps21
    go_wp2
    go_loopw [5] (fun i wr => ∃ k : Nat, k ≤ l.length ∧ i = iv k ∧ Gr w wr ∧ Hid (∀ i a b, i < k → l[i]? = some a → m[i]? = some b → hoQ a b = true)) (fun i _ => l.length - (intOf i).toNat)
    case atStart => exact ⟨0, by omega, rfl, Gr.refl _, by intro i a b hi; omega⟩
    case round =>
      obtain ⟨k, hk, rfl, g, HS⟩ := hrel
      by_cases hkl : k < l.length
      · have hkm : k < m.length := by rw [← HN.out]; exact hkl
        obtain ⟨a, ha⟩ : ∃ a, l[k]? = some a := ⟨_, List.getElem?_eq_getElem hkl⟩
        obtain ⟨b, hb⟩ : ∃ b, m[k]? = some b := ⟨_, List.getElem?_eq_getElem hkm⟩
        obtain ⟨p, o, rfl, x0, x1, x2, x3, x4, x5⟩ := (HLl.out.gr g).rd.ho ha
        obtain ⟨q, o', rfl, y0, y1, y2, y3, y4, y5⟩ := (HLm.out.gr g).rd.ho hb
        have hp : p < wr.heap.size := cell_lt (by rw [x0]; rfl)
        have hqw : q < wr.heap.size := cell_lt (by rw [y0]; rfl)
        have NEQ := fun w => eqHol a b w
        have hk0 : (0 : Int) ≤ (k : Int) := by omega
        have hk1 : (k : Int) < (l.length : Int) := by omega
        have hk2 : (k : Int) < (m.length : Int) := by omega
        have HLa := hide ha
        have HLb := hide hb
        clear ha hb
        cases hv : hoQ a b with
        | true =>
          have HS' := hide (show ∀ i x y, i < k + 1 → l[i]? = some x → m[i]? = some y → hoQ x y = true by
            intro i x y hi hx hy
            rcases Nat.lt_or_ge i k with h | h
            · exact HS.out i x y h hx hy
            · obtain rfl : i = k := by omega
              rw [HLa.out] at hx
              rw [HLb.out] at hy
              obtain rfl := Option.some.inj hx
              obtain rfl := Option.some.inj hy
              exact hv)
          rw [hv] at NEQ
          clear hv
          go_upto_region 6 with fail
          have GC := @GrW.cell
          refine wp_region_grw _ (by kernel_rfl) (by kernel_rfl) (Gr.refl _) ?_
          repeat (go_big_quiet_step ((first | fail)))
          refine wpQuiet_nil ?_
          intro wq hwq
          obtain ⟨gq, hwq'⟩ := hwq
          subst hwq'
          clear GC
          have gq1 := gq.gr
          generalize gq.w = wq at gq1 ⊢
          obtain ⟨Xq, Yq, cq, fq⟩ := gq1.use
          have sq := gq1.size
          (try simp only [World.size_alloc, World.size_setCell, World.heap_drewN] at sq)
          go_wp2
          go_roundw
          case rel => exact ⟨k + 1, by omega, by go_num, (by repeat (first | with_reducible exact Gr.refl _ | with_reducible assumption | with_reducible refine Gr.alloc ?_ _ | with_reducible refine Gr.drewN ?_ _ | with_reducible refine Gr.drew ?_ | with_reducible refine Gr.setCell ?_ (by first | (dsimp only; omega) | (simp only [World.size_alloc]; omega) | (with_reducible refine Gr.size ?_; (repeat (first | with_reducible exact Gr.refl _ | with_reducible assumption | with_reducible refine Gr.alloc ?_ _ | with_reducible refine Gr.drewN ?_ _ | with_reducible refine Gr.drew ?_ | with_reducible refine Gr.trans ?_ (by with_reducible assumption))); done)) _ | with_reducible refine Gr.trans ?_ (by with_reducible assumption))), HS'⟩
          case measure => simp only [intOf]; omega
        | false =>
          have HE := hide (lsB_stop (f := hoQ) HLa.out HLb.out hv)
          rw [hv] at NEQ
          clear hv
          go_upto_region 6 with fail
          have GC := @GrW.cell
          refine wp_region_grw _ (by kernel_rfl) (by kernel_rfl) (Gr.refl _) ?_
          repeat (go_big_quiet_step ((first | fail)))
          refine wpQuiet_nil ?_
          intro wq hwq
          obtain ⟨gq, hwq'⟩ := hwq
          subst hwq'
          clear GC
          have gq1 := gq.gr
          generalize gq.w = wq at gq1 ⊢
          obtain ⟨Xq, Yq, cq, fq⟩ := gq1.use
          have sq := gq1.size
          (try simp only [World.size_alloc, World.size_setCell, World.heap_drewN] at sq)
          go_wp2
          go_ret
          exact ⟨ret_bool HE.out.symm, (by repeat (first | with_reducible exact Gr.refl _ | with_reducible assumption | with_reducible refine Gr.alloc ?_ _ | with_reducible refine Gr.drewN ?_ _ | with_reducible refine Gr.drew ?_ | with_reducible refine Gr.setCell ?_ (by first | (dsimp only; omega) | (simp only [World.size_alloc]; omega) | (with_reducible refine Gr.size ?_; (repeat (first | with_reducible exact Gr.refl _ | with_reducible assumption | with_reducible refine Gr.alloc ?_ _ | with_reducible refine Gr.drewN ?_ _ | with_reducible refine Gr.drew ?_ | with_reducible refine Gr.trans ?_ (by with_reducible assumption))); done)) _ | with_reducible refine Gr.trans ?_ (by with_reducible assumption)))⟩
      · obtain rfl : k = l.length := by omega
        have HE := hide (lsB_end (f := hoQ) HN.out HS.out)
        go_wp2
        go_ret
        exact ⟨ret_bool HE.out.symm, (by repeat (first | with_reducible exact Gr.refl _ | with_reducible assumption | with_reducible refine Gr.alloc ?_ _ | with_reducible refine Gr.drewN ?_ _ | with_reducible refine Gr.drew ?_ | with_reducible refine Gr.setCell ?_ (by first | (dsimp only; omega) | (simp only [World.size_alloc]; omega) | (with_reducible refine Gr.size ?_; (repeat (first | with_reducible exact Gr.refl _ | with_reducible assumption | with_reducible refine Gr.alloc ?_ _ | with_reducible refine Gr.drewN ?_ _ | with_reducible refine Gr.drew ?_ | with_reducible refine Gr.trans ?_ (by with_reducible assumption))); done)) _ | with_reducible refine Gr.trans ?_ (by with_reducible assumption)))⟩
  · have HE := hide (lsB_len (f := hoQ) hlen)
    have hq : ((l.length : Int) == (m.length : Int)) = false := by rw [beq_eq_false_iff_ne]; omega
    clear hlen
    go_enter Try.func21, Try.ntmps21
    go_wp2
    go_ret
    exact ⟨ret_bool HE.out.symm, (by repeat (first | with_reducible exact Gr.refl _ | with_reducible assumption | with_reducible refine Gr.alloc ?_ _ | with_reducible refine Gr.drewN ?_ _ | with_reducible refine Gr.drew ?_ | with_reducible refine Gr.setCell ?_ (by first | (dsimp only; omega) | (simp only [World.size_alloc]; omega) | (with_reducible refine Gr.size ?_; (repeat (first | with_reducible exact Gr.refl _ | with_reducible assumption | with_reducible refine Gr.alloc ?_ _ | with_reducible refine Gr.drewN ?_ _ | with_reducible refine Gr.drew ?_ | with_reducible refine Gr.trans ?_ (by with_reducible assumption))); done)) _ | with_reducible refine Gr.trans ?_ (by with_reducible assumption)))⟩
end Go.Proofs.Ytefjgfglommefaa
set_option linter.unusedVariables false
set_option linter.unusedSimpArgs false
namespace Go.Proofs.Ytefjgfglommefaa
set_option linter.unusedVariables false
set_option linter.unusedSimpArgs false
open Go Go.ChangeShapes Go.WideShapes Go.ChangeAt Go.RowKit Go.Deep

def hdQ (p q : Pa) : Bool := (p.nm.toList == q.nm.toList) && (p.mt.toList == q.mt.toList) && (p.ga == q.ga) && (p.gr == q.gr) && (p.wd == q.wd) && (p.ht == q.ht)
theorem hdQ_parts {p q : Pa} : hdQ p q = true ↔ (p.nm.toList == q.nm.toList) = true ∧ (p.mt.toList == q.mt.toList) = true ∧ (p.ga == q.ga) = true ∧ (p.gr == q.gr) = true ∧ (p.wd == q.wd) = true ∧ (p.ht == q.ht) = true := by
  unfold hdQ
  simp only [Bool.and_eq_true, and_assoc]
/-- whether two parts are equal -/
noncomputable def eqB (p q : Pa) : Bool := hdQ p q && (lsB flB p.fl q.fl && lsB hoQ p.ho q.ho)
theorem eqB_self (p : Pa) : eqB p p = true := by
  unfold eqB
  rw [lsB_self flB_self, lsB_self hoQ_self, hdQ_parts.2 (by simp)]
  rfl
theorem eqB_head {p q : Pa} (h : hdQ p q = false) : eqB p q = false := by
  unfold eqB
  rw [h]
  rfl
theorem eqB_fl {p q : Pa} (h : lsB flB p.fl q.fl = false) : eqB p q = false := by
  unfold eqB
  rw [h]
  simp
theorem eqB_rest {p q : Pa} (h : hdQ p q = true) (k : lsB flB p.fl q.fl = true) : eqB p q = lsB hoQ p.ho q.ho := by
  unfold eqB
  rw [h, k]
  rfl
set_option maxRecDepth 100000 in
set_option maxHeartbeats 4000000 in
theorem rEqual_any (p q : Pa) (A B A' B' : Option Addr) (c d c' d' : Nat) (w : World) (hp : PaW w p A c B d) (hq : PaW w q A' c' B' d') :
    Calls Try.prog 10 #[pav p A c B d, pav q A' c' B' d'] w fun e w' => e = .returned (.bool (eqB p q)) ∧ Gr w w' := by
  have n1 := hp.fl.len
  have n2 := hq.fl.len
  have HP := hide hp
  have HQ := hide hq
  clear hp hq
  cases hh : hdQ p q with
  | false =>
    have HN := hide (show ¬ ((p.nm.toList == q.nm.toList) = true ∧ (p.mt.toList == q.mt.toList) = true ∧ (p.ga == q.ga) = true ∧ (p.gr == q.gr) = true ∧ (p.wd == q.wd) = true ∧ (p.ht == q.ht) = true) by rw [← hdQ_parts, hh]; simp)
    have HE := hide (eqB_head hh)
    clear hh
    go_enter Try.func10, Try.ntmps10
    go_upto_region 3 with fail
    all_goals first
      | (go_ret
         exact ⟨ret_bool HE.out.symm, (by repeat (first | with_reducible exact Gr.refl _ | with_reducible assumption | with_reducible refine Gr.alloc ?_ _ | with_reducible refine Gr.drewN ?_ _ | with_reducible refine Gr.drew ?_ | with_reducible refine Gr.setCell ?_ (by first | (dsimp only; omega) | (simp only [World.size_alloc]; omega) | (with_reducible refine Gr.size ?_; (repeat (first | with_reducible exact Gr.refl _ | with_reducible assumption | with_reducible refine Gr.alloc ?_ _ | with_reducible refine Gr.drewN ?_ _ | with_reducible refine Gr.drew ?_ | with_reducible refine Gr.trans ?_ (by with_reducible assumption))); done)) _ | with_reducible refine Gr.trans ?_ (by with_reducible assumption)))⟩)
      | (exfalso
         refine HN.out ⟨?_, ?_, ?_, ?_, ?_, ?_⟩ <;> (first | assumption | exact bn_eq (by assumption) | (simp at *; assumption)))
  | true =>
    obtain ⟨k1, k2, k3, k4, k5, k6⟩ := hdQ_parts.1 hh
    have HH := hide hh
    have h3 := eq_bn k3
    have h4 := eq_bn k4
    have h5 := eq_bn k5
    have h6 := eq_bn k6
    clear hh k3 k4 k5 k6
    by_cases hlen : p.fl.length = q.fl.length
    · have HN := hide hlen
      have hqq : ((p.fl.length : Int) != (q.fl.length : Int)) = false := eq_bn (by rw [beq_iff_eq]; omega)
      have GP := gFlg
      clear hlen
      go_enter Try.func10, Try.ntmps10
      go_upto_region 3 with fail
      go_wp2
      clear k1 k2 h3 h4 h5 h6 hqq
      go_loopw [5] (fun i wr => ∃ k : Nat, k ≤ p.fl.length ∧ i = iv k ∧ Gr ((w.alloc (.cells #[.string p.nm, .string p.mt, iv p.ga, iv p.gr, iv p.wd, iv p.ht, .slice A p.fl.length c, .slice B p.ho.length d] 25)).alloc (.cells #[.string q.nm, .string q.mt, iv q.ga, iv q.gr, iv q.wd, iv q.ht, .slice A' q.fl.length c', .slice B' q.ho.length d'] 25)) wr ∧ Hid (∀ i a b, i < k → p.fl[i]? = some a → q.fl[i]? = some b → flB a b = true)) (fun i _ => p.fl.length - (intOf i).toNat)
      case atStart => exact ⟨0, by omega, rfl, Gr.refl _, by intro i a b hi; omega⟩
      case round =>
        obtain ⟨k, hk, rfl, g, HS⟩ := hrel
        have gW : Gr w wr := (by repeat (first | with_reducible exact Gr.refl _ | with_reducible assumption | with_reducible refine Gr.alloc ?_ _ | with_reducible refine Gr.drewN ?_ _ | with_reducible refine Gr.drew ?_ | with_reducible refine Gr.setCell ?_ (by first | (dsimp only; omega) | (simp only [World.size_alloc]; omega) | (with_reducible refine Gr.size ?_; (repeat (first | with_reducible exact Gr.refl _ | with_reducible assumption | with_reducible refine Gr.alloc ?_ _ | with_reducible refine Gr.drewN ?_ _ | with_reducible refine Gr.drew ?_ | with_reducible refine Gr.trans ?_ (by with_reducible assumption))); done)) _ | with_reducible refine Gr.trans ?_ (by with_reducible assumption)))
        obtain ⟨Xr, Yr, cr, fr⟩ := g.use
        have zr := g.size
        simp only [World.size_alloc] at zr
        have l0 : w.heap.size < wr.heap.size := by omega
        have l1 : w.heap.size + 1 < wr.heap.size := by omega
        by_cases hkl : k < p.fl.length
        · have hkm : k < q.fl.length := by rw [← HN.out]; exact hkl
          obtain ⟨a, ha⟩ : ∃ a, p.fl[k]? = some a := ⟨_, List.getElem?_eq_getElem hkl⟩
          obtain ⟨b, hb⟩ : ∃ b, q.fl[k]? = some b := ⟨_, List.getElem?_eq_getElem hkm⟩
          obtain ⟨pb, o, rfl, x0, x1, x2, x3, x4, x5, x6⟩ := HP.out.fl.rd.fl ha
          obtain ⟨qb, o', rfl, y0, y1, y2, y3, y4, y5, y6⟩ := HQ.out.fl.rd.fl hb
          have hp1 : pb < w.heap.size := cell_lt (by rw [x0]; rfl)
          have hq1 : qb < w.heap.size := cell_lt (by rw [y0]; rfl)
          have hp2 : pb < wr.heap.size := by omega
          have hq2 : qb < wr.heap.size := by omega
          have NEQ := fun w => eqFlg a b w
          have hk0 : (0 : Int) ≤ (k : Int) := by omega
          have hk1 : (k : Int) < (p.fl.length : Int) := by omega
          have hk2 : (k : Int) < (q.fl.length : Int) := by omega
          have HLa := hide ha
          have HLb := hide hb
          clear ha hb
          cases hv : flB a b with
          | true =>
            have HS' := hide (show ∀ i x y, i < k + 1 → p.fl[i]? = some x → q.fl[i]? = some y → flB x y = true by
              intro i x y hi hx hy
              rcases Nat.lt_or_ge i k with h | h
              · exact HS.out i x y h hx hy
              · obtain rfl : i = k := by omega
                rw [HLa.out] at hx
                rw [HLb.out] at hy
                obtain rfl := Option.some.inj hx
                obtain rfl := Option.some.inj hy
                exact hv)
            rw [hv] at NEQ
            clear hv
            go_upto_region 6 with fail
            have GC := @GrW.cell
            refine wp_region_grw _ (by kernel_rfl) (by kernel_rfl) (Gr.refl _) ?_
            repeat (go_big_quiet_step ((first | fail)))
            refine wpQuiet_nil ?_
            intro wq hwq
            obtain ⟨gq, hwq'⟩ := hwq
            subst hwq'
            clear GC
            have gq1 := gq.gr
            generalize gq.w = wq at gq1 ⊢
            obtain ⟨Xq, Yq, cq, fq⟩ := gq1.use
            have sq := gq1.size
            (try simp only [World.size_alloc, World.size_setCell, World.heap_drewN] at sq)
            go_wp2
            go_roundw
            case rel => exact ⟨k + 1, by omega, by go_num, (by repeat (first | with_reducible exact Gr.refl _ | with_reducible assumption | with_reducible refine Gr.alloc ?_ _ | with_reducible refine Gr.drewN ?_ _ | with_reducible refine Gr.drew ?_ | with_reducible refine Gr.setCell ?_ (by first | (dsimp only; omega) | (simp only [World.size_alloc]; omega) | (with_reducible refine Gr.size ?_; (repeat (first | with_reducible exact Gr.refl _ | with_reducible assumption | with_reducible refine Gr.alloc ?_ _ | with_reducible refine Gr.drewN ?_ _ | with_reducible refine Gr.drew ?_ | with_reducible refine Gr.trans ?_ (by with_reducible assumption))); done)) _ | with_reducible refine Gr.trans ?_ (by with_reducible assumption))), HS'⟩
            case measure => simp only [intOf]; omega
          | false =>
            have HE := hide (eqB_fl (p := p) (q := q) (lsB_stop (f := flB) HLa.out HLb.out hv))
            rw [hv] at NEQ
            clear hv
            go_upto_region 6 with fail
            have GC := @GrW.cell
            refine wp_region_grw _ (by kernel_rfl) (by kernel_rfl) (Gr.refl _) ?_
            repeat (go_big_quiet_step ((first | fail)))
            refine wpQuiet_nil ?_
            intro wq hwq
            obtain ⟨gq, hwq'⟩ := hwq
            subst hwq'
            clear GC
            have gq1 := gq.gr
            generalize gq.w = wq at gq1 ⊢
            obtain ⟨Xq, Yq, cq, fq⟩ := gq1.use
            have sq := gq1.size
            (try simp only [World.size_alloc, World.size_setCell, World.heap_drewN] at sq)
            go_wp2
            go_ret
            exact ⟨ret_bool HE.out.symm, (by repeat (first | with_reducible exact Gr.refl _ | with_reducible assumption | with_reducible refine Gr.alloc ?_ _ | with_reducible refine Gr.drewN ?_ _ | with_reducible refine Gr.drew ?_ | with_reducible refine Gr.setCell ?_ (by first | (dsimp only; omega) | (simp only [World.size_alloc]; omega) | (with_reducible refine Gr.size ?_; (repeat (first | with_reducible exact Gr.refl _ | with_reducible assumption | with_reducible refine Gr.alloc ?_ _ | with_reducible refine Gr.drewN ?_ _ | with_reducible refine Gr.drew ?_ | with_reducible refine Gr.trans ?_ (by with_reducible assumption))); done)) _ | with_reducible refine Gr.trans ?_ (by with_reducible assumption)))⟩
        · obtain rfl : k = p.fl.length := by omega
          have HE := hide (eqB_rest HH.out (lsB_end (f := flB) HN.out HS.out))
          have HSH := hide (sameHoles_any B B' d d' p.ho q.ho wr (HP.out.ho.gr gW) (HQ.out.ho.gr gW))
          go_wp2_with fail
          refine HSH.out.mono ?_
          rintro e w2 ⟨rfl, g2⟩
          go_wp2_with fail
          go_ret
          exact ⟨ret_bool HE.out.symm, (by repeat (first | with_reducible exact Gr.refl _ | with_reducible assumption | with_reducible refine Gr.alloc ?_ _ | with_reducible refine Gr.drewN ?_ _ | with_reducible refine Gr.drew ?_ | with_reducible refine Gr.setCell ?_ (by first | (dsimp only; omega) | (simp only [World.size_alloc]; omega) | (with_reducible refine Gr.size ?_; (repeat (first | with_reducible exact Gr.refl _ | with_reducible assumption | with_reducible refine Gr.alloc ?_ _ | with_reducible refine Gr.drewN ?_ _ | with_reducible refine Gr.drew ?_ | with_reducible refine Gr.trans ?_ (by with_reducible assumption))); done)) _ | with_reducible refine Gr.trans ?_ (by with_reducible assumption)))⟩
    · have HE := hide (eqB_fl (p := p) (q := q) (lsB_len (f := flB) hlen))
      have hqq : ((p.fl.length : Int) != (q.fl.length : Int)) = true := by rw [bne_iff_ne]; omega
      clear hlen
      go_enter Try.func10, Try.ntmps10
      go_wp2
      go_ret
      exact ⟨ret_bool HE.out.symm, (by repeat (first | with_reducible exact Gr.refl _ | with_reducible assumption | with_reducible refine Gr.alloc ?_ _ | with_reducible refine Gr.drewN ?_ _ | with_reducible refine Gr.drew ?_ | with_reducible refine Gr.setCell ?_ (by first | (dsimp only; omega) | (simp only [World.size_alloc]; omega) | (with_reducible refine Gr.size ?_; (repeat (first | with_reducible exact Gr.refl _ | with_reducible assumption | with_reducible refine Gr.alloc ?_ _ | with_reducible refine Gr.drewN ?_ _ | with_reducible refine Gr.drew ?_ | with_reducible refine Gr.trans ?_ (by with_reducible assumption))); done)) _ | with_reducible refine Gr.trans ?_ (by with_reducible assumption)))⟩
end Go.Proofs.Ytefjgfglommefaa
set_option linter.unusedVariables false
set_option linter.unusedSimpArgs false
namespace Go.Proofs.Ytefjgfglommefaa
set_option linter.unusedVariables false
set_option linter.unusedSimpArgs false
open Go Go.ChangeShapes Go.WideShapes Go.ChangeAt Go.RowKit Go.Deep

theorem infoFl : (Try.prog.info? 27).map (fun i => (i.zero, i.size, i.bytes)) = some (some (.agg #[.string ⟨#[]⟩, .int .i64 0, .int .i64 0, .int .i64 0, .int .i64 0, .int .i64 0, .int .i64 0]), 7, 64) := by kernel_rfl
theorem infoHo : (Try.prog.info? 29).map (fun i => (i.zero, i.size, i.bytes)) = some (some (.agg #[.int .i64 0, .int .i64 0, .int .i64 0, .int .i64 0, .int .i64 0, .int .i64 0]), 6, 48) := by kernel_rfl
theorem one_fl (f : Fl) : ∀ u ∈ flL f, u.oneCell' = true := by
  intro u hu
  simp at hu
  rcases hu with rfl | rfl | rfl | rfl | rfl | rfl | rfl <;> rfl
theorem one_ho (f : Ho) : ∀ u ∈ hoL f, u.oneCell' = true := by
  intro u hu
  simp at hu
  rcases hu with rfl | rfl | rfl | rfl | rfl | rfl <;> rfl
theorem rd1_fl (w : World) (f : Fl) : ∀ j u, (flL f)[j]? = some u → (w.alloc (.cells #[.string f.nm, iv f.pa, iv f.sd, iv f.o, iv f.wd, iv f.ln, iv f.an] 27)).cell? ((⟨w.heap.size, 0, none⟩ : Addr).add j) = some u := by
  intro j u hu
  rw [addr_add, Nat.zero_add, (Made.new w #[.string f.nm, iv f.pa, iv f.sd, iv f.o, iv f.wd, iv f.ln, iv f.an] 27).2.1 j]
  simpa using hu
theorem rd1_ho (w : World) (f : Ho) : ∀ j u, (hoL f)[j]? = some u → (w.alloc (.cells #[iv f.fa, iv f.kd, iv f.x, iv f.y, iv f.w, iv f.h] 29)).cell? ((⟨w.heap.size, 0, none⟩ : Addr).add j) = some u := by
  intro j u hu
  rw [addr_add, Nat.zero_add, (Made.new w #[iv f.fa, iv f.kd, iv f.x, iv f.y, iv f.w, iv f.h] 29).2.1 j]
  simpa using hu
theorem own_nil {α : Type} (w : World) (base : Nat) (e : TypeId) (k : Nat) (c : α → List Value) : OwnL w base e k c (.slice none 0 0) [] := ⟨by simp, .inl ⟨rfl, rfl⟩⟩
theorem Made.grown {w w' : World} {B lo : Nat} {z : Array Value} {row : Option Nat} (h : Made w B z) (hg : w.grownBy w' row) (hr : ∀ k, row = some k → lo ≤ k) (hB : B < lo) : Made w' B z := by
  have hne : some B ≠ row := fun e => by have := hr B e.symm; omega
  refine ⟨?_, fun o => (hg.cell_far ⟨B, o, none⟩ h.1 hne).trans (h.2.1 o), fun o => (hg.frozen_far ⟨B, o, none⟩ h.1 hne).trans (h.2.2 o)⟩
  have hb := hg.block B h.1 hne
  have h1 := h.1
  refine Nat.not_le.1 fun hle => ?_
  rw [Array.getElem?_eq_none hle, Array.getElem?_eq_getElem h1] at hb
  cases hb
theorem Made.setAt {w : World} {B : Nat} {z z' : Array Value} (h : Made w B z) (i : Nat) (hi : i < z.size) (v : Value) (e : z' = z.setIfInBounds i v) : Made (w.setCell ⟨B, i, none⟩ v) B z' := by
  subst e
  obtain ⟨h0, h1, h2⟩ := h
  refine ⟨by simpa using h0, fun o => ?_, fun o => ?_⟩
  · have e1 := h1 i
    rw [Array.getElem?_eq_getElem hi] at e1
    have e2 := h1 o
    by_cases ho : o = i
    · subst ho
      simp [go_sem, e1, hi]
    · have ho' : ¬ i = o := fun e => ho e.symm
      simp [go_sem, e2, ho, ho', Array.getElem?_setIfInBounds]
  · have := h2 o
    simp [go_sem, this]
theorem own_far {w : World} {base : Nat} {e : TypeId} {k n : Nat} {v : Value} {xs : List Value} (h : w.ownsRow base e k v n xs) {a : Addr} (ha : a.block < base) (u : Value) : (w.setCell a u).ownsRow base e k v n xs := by
  obtain ⟨h0, h1 | ⟨b, cap, cur, h1, hb, h2, h3⟩⟩ := id h
  · exact ⟨h0, .inl h1⟩
  · refine ⟨h0, .inr ⟨b, cap, cur, h1, hb, ?_, h3⟩⟩
    rw [← h2]
    exact Below.heap_setCell w a u b (by omega)
theorem own_grown {w w' : World} {base lo : Nat} {e : TypeId} {k n : Nat} {v : Value} {xs : List Value} {row : Option Nat} (h : w.ownsRow base e k v n xs) (hg : w.grownBy w' row) (hr : ∀ k, row = some k → lo ≤ k) (hv : ∀ k, v.ownBlock = some k → k < lo) : w'.ownsRow base e k v n xs := by
  obtain ⟨h0, h1 | ⟨b, cap, cur, h1, hb, h2, h3⟩⟩ := id h
  · exact ⟨h0, .inl h1⟩
  · refine ⟨h0, .inr ⟨b, cap, cur, h1, hb, ?_, h3⟩⟩
    have hbl : b < lo := hv b (by rw [h1]; rfl)
    have hlt : b < w.heap.size := (Array.getElem?_eq_some_iff.1 h2).1
    rw [← h2]
    exact hg.block b hlt (fun e => by have := hr b e.symm; omega)
theorem take_snoc {α : Type} {l : List α} {k : Nat} {x : α} (h : l[k]? = some x) : l.take (k + 1) = l.take k ++ [x] := by
  rw [List.take_add_one, h]
  rfl
abbrev paZ (p : Pa) (A B : Option Addr) (n c m d : Nat) : Array Value := #[.string p.nm, .string p.mt, iv p.ga, iv p.gr, iv p.wd, iv p.ht, .slice A n c, .slice B m d]
set_option maxRecDepth 100000 in
set_option maxHeartbeats 4000000 in
theorem copy_any (p : Pa) (A B : Option Addr) (c d : Nat) (w : World) (hP : PaW w p A c B d) :
    Calls Try.prog 7 #[pav p A c B d] w fun e w' => ∃ A' c' B' d', e = .returned (pav p A' c' B' d') ∧ OwnL w' w.heap.size 27 7 flL (.slice A' p.fl.length c') p.fl ∧ OwnL w' w.heap.size 29 6 hoL (.slice B' p.ho.length d') p.ho ∧ Gr w w' := by
  obtain ⟨i0, hi0, hz0, hz1, hz2⟩ := info_parts infoFl
  obtain ⟨i1, hi1, hy0, hy1, hy2⟩ := info_parts infoHo
  have n1 := hP.fl.len
  have n2 := hP.ho.len
  have HP := hide hP
  clear hP
  go_enter Try.func7, Try.ntmps7
  go_upto_region 3 with fail
  have g0 : Gr ((w.alloc (.cells #[.string p.nm, .string p.mt, iv p.ga, iv p.gr, iv p.wd, iv p.ht, .slice A p.fl.length c, .slice B p.ho.length d] 25)).alloc (.cells #[.string ⟨#[]⟩, .string ⟨#[]⟩, iv 0, iv 0, iv 0, iv 0, .slice none 0 0, .slice none 0 0] 25)) (((w.alloc (.cells #[.string p.nm, .string p.mt, iv p.ga, iv p.gr, iv p.wd, iv p.ht, .slice A p.fl.length c, .slice B p.ho.length d] 25)).alloc (.cells #[.string ⟨#[]⟩, .string ⟨#[]⟩, iv 0, iv 0, iv 0, iv 0, .slice none 0 0, .slice none 0 0] 25)).alloc (.cells (paZ p none none 0 0 0 0) 25)) := Gr.alloc (Gr.refl _) _
  have m0 := Made.new ((w.alloc (.cells #[.string p.nm, .string p.mt, iv p.ga, iv p.gr, iv p.wd, iv p.ht, .slice A p.fl.length c, .slice B p.ho.length d] 25)).alloc (.cells #[.string ⟨#[]⟩, .string ⟨#[]⟩, iv 0, iv 0, iv 0, iv 0, .slice none 0 0, .slice none 0 0] 25)) (paZ p none none 0 0 0 0) 25
  rw [World.size_alloc, World.size_alloc] at m0
  go_wp2
  generalize hwS : World.alloc (World.alloc (World.alloc _ _) _) _ = wS at *
  clear hwS
  go_loopw [4] (fun i wr => ∃ (k : Nat) (A' : Option Addr) (d' : Nat), k ≤ p.fl.length ∧ i = iv k ∧ Gr ((w.alloc (.cells #[.string p.nm, .string p.mt, iv p.ga, iv p.gr, iv p.wd, iv p.ht, .slice A p.fl.length c, .slice B p.ho.length d] 25)).alloc (.cells #[.string ⟨#[]⟩, .string ⟨#[]⟩, iv 0, iv 0, iv 0, iv 0, .slice none 0 0, .slice none 0 0] 25)) wr ∧ Hid (OwnL wr (w.heap.size + 3) 27 7 flL (.slice A' k d') (p.fl.take k)) ∧ Hid (Made wr (w.heap.size + 1 + 1) (paZ p A' none k d' 0 0))) (fun i _ => p.fl.length - (intOf i).toNat)
  case atStart => exact ⟨0, none, 0, by omega, rfl, g0, by rw [List.take_zero]; exact own_nil _ _ _ _ _, m0⟩
  case round =>
    obtain ⟨k, A1, d1, hk, rfl, g, HO, HM⟩ := hrel
    have gW : Gr w wr := (by repeat (first | with_reducible exact Gr.refl _ | with_reducible assumption | with_reducible refine Gr.alloc ?_ _ | with_reducible refine Gr.drewN ?_ _ | with_reducible refine Gr.drew ?_ | with_reducible refine Gr.setCell ?_ (by first | (dsimp only; omega) | (simp only [World.size_alloc]; omega) | (with_reducible refine Gr.size ?_; (repeat (first | with_reducible exact Gr.refl _ | with_reducible assumption | with_reducible refine Gr.alloc ?_ _ | with_reducible refine Gr.drewN ?_ _ | with_reducible refine Gr.drew ?_ | with_reducible refine Gr.trans ?_ (by with_reducible assumption))); done)) _ | with_reducible refine Gr.trans ?_ (by with_reducible assumption)))
    obtain ⟨Xr, Yr, cr, fr⟩ := g.use
    obtain ⟨M0, M1, M2⟩ := id HM.out
    have zr := M0
    have l0 : w.heap.size < wr.heap.size := by omega
    have lb : w.heap.size + 3 ≤ wr.heap.size := by omega
    by_cases hkl : k < p.fl.length
    · obtain ⟨f, hf⟩ : ∃ f, p.fl[k]? = some f := ⟨_, List.getElem?_eq_getElem hkl⟩
      obtain ⟨b, off, rfl, x0, x1, x2, x3, x4, x5, x6⟩ := HP.out.fl.rd.fl hf
      have hb : b < w.heap.size := cell_lt (by rw [x0]; rfl)
      have hbr : b < wr.heap.size := by omega
      have hk0 : (0 : Int) ≤ (k : Int) := by omega
      have hk1 : (k : Int) < (p.fl.length : Int) := by omega
      have hlen : (p.fl.take k).length = k := by rw [List.length_take]; omega
      have FIN := hide (show ∀ (w8 : World) (gg cap1 : Nat), w8.ownsRow (w.heap.size + 3) 27 7 (.slice (some ⟨gg, 0, none⟩) (k + 1) cap1) (k + 1) ((p.fl.take k).flatMap flL ++ flL f) → OwnL w8 (w.heap.size + 3) 27 7 flL (.slice (some ⟨gg, 0, none⟩) (k + 1) cap1) (p.fl.take (k + 1)) by
        intro w8 gg cap1 h
        unfold OwnL
        rw [take_snoc hf, fm_snoc, List.length_append, hlen]
        exact h)
      have HOW := hide (show World.ownsRow wr (w.heap.size + 3) 27 7 (.slice A1 k d1) k ((p.fl.take k).flatMap flL) by
        have := HO.out
        unfold OwnL at this
        rwa [hlen] at this)
      clear hf hlen HO
      generalize (p.fl.take k).flatMap flL = FL at *
      go_upto_region 6 with fail
      go_region_law (first
        | (refine step_append_lies _ (by rfl) _ _ _ (by rfl) (w.heap.size + 3) 27 i0 _ 7 64 Try.underlying22 hi0 hz0 hz1 hz2 rfl (by omega) _ k FL (by rfl) (own_gr HOW.out (by repeat (first | with_reducible exact Gr.refl _ | with_reducible assumption | with_reducible refine Gr.alloc ?_ _ | with_reducible refine Gr.drewN ?_ _ | with_reducible refine Gr.drew ?_ | with_reducible refine Gr.setCell ?_ (by first | (dsimp only; omega) | (simp only [World.size_alloc]; omega) | (with_reducible refine Gr.size ?_; (repeat (first | with_reducible exact Gr.refl _ | with_reducible assumption | with_reducible refine Gr.alloc ?_ _ | with_reducible refine Gr.drewN ?_ _ | with_reducible refine Gr.drew ?_ | with_reducible refine Gr.trans ?_ (by with_reducible assumption))); done)) _ | with_reducible refine Gr.trans ?_ (by with_reducible assumption)))) _ 1 1 (flL f) (by rfl) (by rfl) (rd1_fl _ f) (one_fl _) (by omega) (by unfold maxLen; omega) (by omega) (Nat.le_trans lb (Gr.size (by repeat (first | with_reducible exact Gr.refl _ | with_reducible assumption | with_reducible refine Gr.alloc ?_ _ | with_reducible refine Gr.drewN ?_ _ | with_reducible refine Gr.drew ?_ | with_reducible refine Gr.setCell ?_ (by first | (dsimp only; omega) | (simp only [World.size_alloc]; omega) | (with_reducible refine Gr.size ?_; (repeat (first | with_reducible exact Gr.refl _ | with_reducible assumption | with_reducible refine Gr.alloc ?_ _ | with_reducible refine Gr.drewN ?_ _ | with_reducible refine Gr.drew ?_ | with_reducible refine Gr.trans ?_ (by with_reducible assumption))); done)) _ | with_reducible refine Gr.trans ?_ (by with_reducible assumption))))) _ rfl ?_; intro gg cap1 w8 hown8 hgrow hat hlt; (have m8 := Made.grown (HM.out.gr (by repeat (first | with_reducible exact Gr.refl _ | with_reducible assumption | with_reducible refine Gr.alloc ?_ _ | with_reducible refine Gr.drewN ?_ _ | with_reducible refine Gr.drew ?_ | with_reducible refine Gr.setCell ?_ (by first | (dsimp only; omega) | (simp only [World.size_alloc]; omega) | (with_reducible refine Gr.size ?_; (repeat (first | with_reducible exact Gr.refl _ | with_reducible assumption | with_reducible refine Gr.alloc ?_ _ | with_reducible refine Gr.drewN ?_ _ | with_reducible refine Gr.drew ?_ | with_reducible refine Gr.trans ?_ (by with_reducible assumption))); done)) _ | with_reducible refine Gr.trans ?_ (by with_reducible assumption)))) hgrow (fun k hk => (World.ownsRow.lt HOW.out k hk).1) (by omega)); obtain ⟨m80, m81, m82⟩ := id m8))
      all_goals
        have ho8 := hide (FIN.out w8 gg cap1 hown8)
        have g8 := Gr.grown (show Gr _ _ from g.trans (by repeat (first | with_reducible exact Gr.refl _ | with_reducible assumption | with_reducible refine Gr.alloc ?_ _ | with_reducible refine Gr.drewN ?_ _ | with_reducible refine Gr.drew ?_ | with_reducible refine Gr.setCell ?_ (by first | (dsimp only; omega) | (simp only [World.size_alloc]; omega) | (with_reducible refine Gr.size ?_; (repeat (first | with_reducible exact Gr.refl _ | with_reducible assumption | with_reducible refine Gr.alloc ?_ _ | with_reducible refine Gr.drewN ?_ _ | with_reducible refine Gr.drew ?_ | with_reducible refine Gr.trans ?_ (by with_reducible assumption))); done)) _ | with_reducible refine Gr.trans ?_ (by with_reducible assumption)))) hgrow (fun k hk => by have := (World.ownsRow.lt HOW.out k hk).1; simp only [World.size_alloc]; omega)
        have o9 := hide (show OwnL (w8.setCell ⟨w.heap.size + 1 + 1, 6, none⟩ (.slice (some ⟨gg, 0, none⟩) (k + 1) cap1)) (w.heap.size + 3) 27 7 flL (.slice (some ⟨gg, 0, none⟩) (k + 1) cap1) (p.fl.take (k + 1)) from own_far ho8.out (by dsimp only; omega) _)
        have m9 := hide (show Made (w8.setCell ⟨w.heap.size + 1 + 1, 6, none⟩ (.slice (some ⟨gg, 0, none⟩) (k + 1) cap1)) (w.heap.size + 1 + 1) (paZ p (some ⟨gg, 0, none⟩) none (k + 1) cap1 0 0) from Made.setAt m8 6 (by simp) _ rfl)
        clear hown8 hgrow hat hlt FIN HOW m8 m80 m81 m82 HM M0 M1 M2
        go_wp2
        go_roundw
        case rel => exact ⟨k + 1, _, _, by omega, by go_num, Gr.setCell g8 (by simp only [World.size_alloc]; omega) _, o9.out, m9.out⟩
        case measure => simp only [intOf]; omega
    · obtain rfl : k = p.fl.length := by omega
      rw [List.take_length] at HO
      have HB := hide (fun k (h : (Value.slice A1 p.fl.length d1).ownBlock = some k) => (World.ownsRow.lt (show World.ownsRow wr (w.heap.size + 3) 27 7 (.slice A1 p.fl.length d1) p.fl.length (p.fl.flatMap flL) from HO.out) k h).2)
      go_wp2
      clear cr fr M0 M1 M2
      obtain ⟨wT, rfl⟩ : ∃ wT, wT = wr := ⟨_, rfl⟩
      go_loopw [5] (fun i wr => ∃ (k : Nat) (A' : Option Addr) (d' : Nat), k ≤ p.ho.length ∧ i = iv k ∧ Gr ((w.alloc (.cells #[.string p.nm, .string p.mt, iv p.ga, iv p.gr, iv p.wd, iv p.ht, .slice A p.fl.length c, .slice B p.ho.length d] 25)).alloc (.cells #[.string ⟨#[]⟩, .string ⟨#[]⟩, iv 0, iv 0, iv 0, iv 0, .slice none 0 0, .slice none 0 0] 25)) wr ∧ wT.heap.size ≤ wr.heap.size ∧ Hid (OwnL wr (w.heap.size + 3) 27 7 flL (.slice A1 p.fl.length d1) p.fl) ∧ Hid (OwnL wr wT.heap.size 29 6 hoL (.slice A' k d') (p.ho.take k)) ∧ Hid (Made wr (w.heap.size + 1 + 1) (paZ p A1 A' p.fl.length d1 k d'))) (fun i _ => p.ho.length - (intOf i).toNat)
      case atStart => exact ⟨0, none, 0, by omega, rfl, g, Nat.le_refl _, HO.out, by rw [List.take_zero]; exact own_nil _ _ _ _ _, HM.out⟩
      case round =>
        clear HO HM g gW
        obtain ⟨k, A2, d2, hk, rfl, g, lT, HO, HO2, HM⟩ := hrel
        have gW : Gr w wr := (by repeat (first | with_reducible exact Gr.refl _ | with_reducible assumption | with_reducible refine Gr.alloc ?_ _ | with_reducible refine Gr.drewN ?_ _ | with_reducible refine Gr.drew ?_ | with_reducible refine Gr.setCell ?_ (by first | (dsimp only; omega) | (simp only [World.size_alloc]; omega) | (with_reducible refine Gr.size ?_; (repeat (first | with_reducible exact Gr.refl _ | with_reducible assumption | with_reducible refine Gr.alloc ?_ _ | with_reducible refine Gr.drewN ?_ _ | with_reducible refine Gr.drew ?_ | with_reducible refine Gr.trans ?_ (by with_reducible assumption))); done)) _ | with_reducible refine Gr.trans ?_ (by with_reducible assumption)))
        obtain ⟨Xr, Yr, cr, fr⟩ := g.use
        obtain ⟨M0, M1, M2⟩ := id HM.out
        have lb2 : w.heap.size + 3 ≤ wT.heap.size := lb
        by_cases hkl : k < p.ho.length
        · obtain ⟨f, hf⟩ : ∃ f, p.ho[k]? = some f := ⟨_, List.getElem?_eq_getElem hkl⟩
          obtain ⟨b, off, rfl, x0, x1, x2, x3, x4, x5⟩ := HP.out.ho.rd.ho hf
          have hb : b < w.heap.size := cell_lt (by rw [x0]; rfl)
          have hbr : b < wr.heap.size := by omega
          have hk0 : (0 : Int) ≤ (k : Int) := by omega
          have hk1 : (k : Int) < (p.ho.length : Int) := by omega
          have hlen : (p.ho.take k).length = k := by rw [List.length_take]; omega
          have FIN := hide (show ∀ (w8 : World) (gg cap1 : Nat), w8.ownsRow wT.heap.size 29 6 (.slice (some ⟨gg, 0, none⟩) (k + 1) cap1) (k + 1) ((p.ho.take k).flatMap hoL ++ hoL f) → OwnL w8 wT.heap.size 29 6 hoL (.slice (some ⟨gg, 0, none⟩) (k + 1) cap1) (p.ho.take (k + 1)) by
            intro w8 gg cap1 h
            unfold OwnL
            rw [take_snoc hf, fm_snoc, List.length_append, hlen]
            exact h)
          have HOW := hide (show World.ownsRow wr wT.heap.size 29 6 (.slice A2 k d2) k ((p.ho.take k).flatMap hoL) by
            have := HO2.out
            unfold OwnL at this
            rwa [hlen] at this)
          clear hf hlen HO2
          generalize (p.ho.take k).flatMap hoL = FL at *
          go_upto_region 10 with fail
          go_region_law (first
            | (refine step_append_lies _ (by rfl) _ _ _ (by rfl) wT.heap.size 29 i1 _ 6 48 Try.underlying23 hi1 hy0 hy1 hy2 rfl (by omega) _ k FL (by rfl) (own_gr HOW.out (by repeat (first | with_reducible exact Gr.refl _ | with_reducible assumption | with_reducible refine Gr.alloc ?_ _ | with_reducible refine Gr.drewN ?_ _ | with_reducible refine Gr.drew ?_ | with_reducible refine Gr.setCell ?_ (by first | (dsimp only; omega) | (simp only [World.size_alloc]; omega) | (with_reducible refine Gr.size ?_; (repeat (first | with_reducible exact Gr.refl _ | with_reducible assumption | with_reducible refine Gr.alloc ?_ _ | with_reducible refine Gr.drewN ?_ _ | with_reducible refine Gr.drew ?_ | with_reducible refine Gr.trans ?_ (by with_reducible assumption))); done)) _ | with_reducible refine Gr.trans ?_ (by with_reducible assumption)))) _ 1 1 (hoL f) (by rfl) (by rfl) (rd1_ho _ f) (one_ho _) (by omega) (by unfold maxLen; omega) (by omega) (Nat.le_trans lT (Gr.size (by repeat (first | with_reducible exact Gr.refl _ | with_reducible assumption | with_reducible refine Gr.alloc ?_ _ | with_reducible refine Gr.drewN ?_ _ | with_reducible refine Gr.drew ?_ | with_reducible refine Gr.setCell ?_ (by first | (dsimp only; omega) | (simp only [World.size_alloc]; omega) | (with_reducible refine Gr.size ?_; (repeat (first | with_reducible exact Gr.refl _ | with_reducible assumption | with_reducible refine Gr.alloc ?_ _ | with_reducible refine Gr.drewN ?_ _ | with_reducible refine Gr.drew ?_ | with_reducible refine Gr.trans ?_ (by with_reducible assumption))); done)) _ | with_reducible refine Gr.trans ?_ (by with_reducible assumption))))) _ rfl ?_; intro gg cap1 w8 hown8 hgrow hat hlt; (have m8 := Made.grown (HM.out.gr (by repeat (first | with_reducible exact Gr.refl _ | with_reducible assumption | with_reducible refine Gr.alloc ?_ _ | with_reducible refine Gr.drewN ?_ _ | with_reducible refine Gr.drew ?_ | with_reducible refine Gr.setCell ?_ (by first | (dsimp only; omega) | (simp only [World.size_alloc]; omega) | (with_reducible refine Gr.size ?_; (repeat (first | with_reducible exact Gr.refl _ | with_reducible assumption | with_reducible refine Gr.alloc ?_ _ | with_reducible refine Gr.drewN ?_ _ | with_reducible refine Gr.drew ?_ | with_reducible refine Gr.trans ?_ (by with_reducible assumption))); done)) _ | with_reducible refine Gr.trans ?_ (by with_reducible assumption)))) hgrow (fun k hk => (World.ownsRow.lt HOW.out k hk).1) (by omega)); obtain ⟨m80, m81, m82⟩ := id m8; (have q8 := hide (own_grown (own_gr HO.out (show Gr wr _ from (by repeat (first | with_reducible exact Gr.refl _ | with_reducible assumption | with_reducible refine Gr.alloc ?_ _ | with_reducible refine Gr.drewN ?_ _ | with_reducible refine Gr.drew ?_ | with_reducible refine Gr.setCell ?_ (by first | (dsimp only; omega) | (simp only [World.size_alloc]; omega) | (with_reducible refine Gr.size ?_; (repeat (first | with_reducible exact Gr.refl _ | with_reducible assumption | with_reducible refine Gr.alloc ?_ _ | with_reducible refine Gr.drewN ?_ _ | with_reducible refine Gr.drew ?_ | with_reducible refine Gr.trans ?_ (by with_reducible assumption))); done)) _ | with_reducible refine Gr.trans ?_ (by with_reducible assumption))))) hgrow (fun k hk => (World.ownsRow.lt HOW.out k hk).1) HB.out))))
          all_goals
            have ho8 := hide (FIN.out w8 gg cap1 hown8)
            have g8 := Gr.grown (show Gr _ _ from g.trans (by repeat (first | with_reducible exact Gr.refl _ | with_reducible assumption | with_reducible refine Gr.alloc ?_ _ | with_reducible refine Gr.drewN ?_ _ | with_reducible refine Gr.drew ?_ | with_reducible refine Gr.setCell ?_ (by first | (dsimp only; omega) | (simp only [World.size_alloc]; omega) | (with_reducible refine Gr.size ?_; (repeat (first | with_reducible exact Gr.refl _ | with_reducible assumption | with_reducible refine Gr.alloc ?_ _ | with_reducible refine Gr.drewN ?_ _ | with_reducible refine Gr.drew ?_ | with_reducible refine Gr.trans ?_ (by with_reducible assumption))); done)) _ | with_reducible refine Gr.trans ?_ (by with_reducible assumption)))) hgrow (fun k hk => by have := (World.ownsRow.lt HOW.out k hk).1; simp only [World.size_alloc]; omega)
            have q9 := hide (show OwnL (w8.setCell ⟨w.heap.size + 1 + 1, 7, none⟩ (.slice (some ⟨gg, 0, none⟩) (k + 1) cap1)) (w.heap.size + 3) 27 7 flL (.slice A1 p.fl.length d1) p.fl from own_far q8.out (by dsimp only; omega) _)
            have o9 := hide (show OwnL (w8.setCell ⟨w.heap.size + 1 + 1, 7, none⟩ (.slice (some ⟨gg, 0, none⟩) (k + 1) cap1)) wT.heap.size 29 6 hoL (.slice (some ⟨gg, 0, none⟩) (k + 1) cap1) (p.ho.take (k + 1)) from own_far ho8.out (by dsimp only; omega) _)
            have m9 := hide (show Made (w8.setCell ⟨w.heap.size + 1 + 1, 7, none⟩ (.slice (some ⟨gg, 0, none⟩) (k + 1) cap1)) (w.heap.size + 1 + 1) (paZ p A1 (some ⟨gg, 0, none⟩) p.fl.length d1 (k + 1) cap1) from Made.setAt m8 7 (by simp) _ rfl)
            have s9 : wT.heap.size ≤ (w8.setCell ⟨w.heap.size + 1 + 1, 7, none⟩ (.slice (some ⟨gg, 0, none⟩) (k + 1) cap1)).heap.size := by
              rw [World.size_setCell]
              exact Nat.le_trans lT (Nat.le_trans (Gr.size (show Gr wr _ from (by repeat (first | with_reducible exact Gr.refl _ | with_reducible assumption | with_reducible refine Gr.alloc ?_ _ | with_reducible refine Gr.drewN ?_ _ | with_reducible refine Gr.drew ?_ | with_reducible refine Gr.setCell ?_ (by first | (dsimp only; omega) | (simp only [World.size_alloc]; omega) | (with_reducible refine Gr.size ?_; (repeat (first | with_reducible exact Gr.refl _ | with_reducible assumption | with_reducible refine Gr.alloc ?_ _ | with_reducible refine Gr.drewN ?_ _ | with_reducible refine Gr.drew ?_ | with_reducible refine Gr.trans ?_ (by with_reducible assumption))); done)) _ | with_reducible refine Gr.trans ?_ (by with_reducible assumption))))) (World.grownBy.size hgrow))
            clear hown8 hgrow hat hlt FIN HOW m8 m80 m81 m82 HM M0 M1 M2 q8 ho8
            go_wp2
            go_roundw
            case rel => exact ⟨k + 1, _, _, by omega, by go_num, Gr.setCell g8 (by simp only [World.size_alloc]; omega) _, s9, q9.out, o9.out, m9.out⟩
            case measure => simp only [intOf]; omega
        · obtain rfl : k = p.ho.length := by omega
          rw [List.take_length] at HO2
          have zw : w.heap.size + 1 < wr.heap.size := by omega
          have O1 := hide (HO.out.weak (show w.heap.size + 2 ≤ w.heap.size + 3 by omega))
          have O2 := hide (HO2.out.weak (show w.heap.size + 2 ≤ wT.heap.size by omega))
          clear HO HO2 HB cr fr
          have hp7 : wr.cell? ⟨w.heap.size, 7, none⟩ = some (.slice B p.ho.length d) := (g.cell _ 7 (by simp only [World.size_alloc]; omega)).trans (by simp [go_sem])
          have e0 : wr.cell? ⟨w.heap.size + 1 + 1, 0, none⟩ = some (.string p.nm) := M1 0
          have e1 : wr.cell? ⟨w.heap.size + 1 + 1, 1, none⟩ = some (.string p.mt) := M1 1
          have e2 : wr.cell? ⟨w.heap.size + 1 + 1, 2, none⟩ = some (iv p.ga) := M1 2
          have e3 : wr.cell? ⟨w.heap.size + 1 + 1, 3, none⟩ = some (iv p.gr) := M1 3
          have e4 : wr.cell? ⟨w.heap.size + 1 + 1, 4, none⟩ = some (iv p.wd) := M1 4
          have e5 : wr.cell? ⟨w.heap.size + 1 + 1, 5, none⟩ = some (iv p.ht) := M1 5
          have e6 : wr.cell? ⟨w.heap.size + 1 + 1, 6, none⟩ = some (.slice A1 p.fl.length d1) := M1 6
          have e7 : wr.cell? ⟨w.heap.size + 1 + 1, 7, none⟩ = some (.slice A2 p.ho.length d2) := M1 7
          have r0 : wr.cell? ⟨w.heap.size + 1, 0, none⟩ = some (.string ⟨#[]⟩) := (g.cell _ 0 (by simp)).trans (by simp [go_sem])
          have q0 : wr.frozen? ⟨w.heap.size + 1, 0, none⟩ = false := (g.frozen _ 0 (by simp)).trans (by simp [go_sem])
          have r1 : wr.cell? ⟨w.heap.size + 1, 1, none⟩ = some (.string ⟨#[]⟩) := (g.cell _ 1 (by simp)).trans (by simp [go_sem])
          have q1 : wr.frozen? ⟨w.heap.size + 1, 1, none⟩ = false := (g.frozen _ 1 (by simp)).trans (by simp [go_sem])
          have r2 : wr.cell? ⟨w.heap.size + 1, 2, none⟩ = some (iv 0) := (g.cell _ 2 (by simp)).trans (by simp [go_sem])
          have q2 : wr.frozen? ⟨w.heap.size + 1, 2, none⟩ = false := (g.frozen _ 2 (by simp)).trans (by simp [go_sem])
          have r3 : wr.cell? ⟨w.heap.size + 1, 3, none⟩ = some (iv 0) := (g.cell _ 3 (by simp)).trans (by simp [go_sem])
          have q3 : wr.frozen? ⟨w.heap.size + 1, 3, none⟩ = false := (g.frozen _ 3 (by simp)).trans (by simp [go_sem])
          have r4 : wr.cell? ⟨w.heap.size + 1, 4, none⟩ = some (iv 0) := (g.cell _ 4 (by simp)).trans (by simp [go_sem])
          have q4 : wr.frozen? ⟨w.heap.size + 1, 4, none⟩ = false := (g.frozen _ 4 (by simp)).trans (by simp [go_sem])
          have r5 : wr.cell? ⟨w.heap.size + 1, 5, none⟩ = some (iv 0) := (g.cell _ 5 (by simp)).trans (by simp [go_sem])
          have q5 : wr.frozen? ⟨w.heap.size + 1, 5, none⟩ = false := (g.frozen _ 5 (by simp)).trans (by simp [go_sem])
          have r6 : wr.cell? ⟨w.heap.size + 1, 6, none⟩ = some (.slice none 0 0) := (g.cell _ 6 (by simp)).trans (by simp [go_sem])
          have q6 : wr.frozen? ⟨w.heap.size + 1, 6, none⟩ = false := (g.frozen _ 6 (by simp)).trans (by simp [go_sem])
          have r7 : wr.cell? ⟨w.heap.size + 1, 7, none⟩ = some (.slice none 0 0) := (g.cell _ 7 (by simp only [World.size_alloc]; omega)).trans (by simp [go_sem])
          have q7 : wr.frozen? ⟨w.heap.size + 1, 7, none⟩ = false := (g.frozen _ 7 (by simp)).trans (by simp [go_sem])
          clear M1 M2
          go_wp2
          refine bodyPost_ret (v := pav p A1 d1 A2 d2) (by simp [results, Try.results7, go_sem, *]) rfl ⟨A1, d1, A2, d2, rfl, ?_, ?_, ?_⟩
          · refine OwnL.weak (lo := w.heap.size) (base := w.heap.size + 2) ?_ (by omega)
            unfold OwnL
            repeat (with_reducible refine own_far ?_ (by dsimp only; omega) _)
            exact O1.out
          · refine OwnL.weak (lo := w.heap.size) (base := w.heap.size + 2) ?_ (by omega)
            unfold OwnL
            repeat (with_reducible refine own_far ?_ (by dsimp only; omega) _)
            exact O2.out
          · exact (by repeat (first | with_reducible exact Gr.refl _ | with_reducible assumption | with_reducible refine Gr.alloc ?_ _ | with_reducible refine Gr.drewN ?_ _ | with_reducible refine Gr.drew ?_ | with_reducible refine Gr.setCell ?_ (by first | (dsimp only; omega) | (simp only [World.size_alloc]; omega) | (with_reducible refine Gr.size ?_; (repeat (first | with_reducible exact Gr.refl _ | with_reducible assumption | with_reducible refine Gr.alloc ?_ _ | with_reducible refine Gr.drewN ?_ _ | with_reducible refine Gr.drew ?_ | with_reducible refine Gr.trans ?_ (by with_reducible assumption))); done)) _ | with_reducible refine Gr.trans ?_ (by with_reducible assumption)))
end Go.Proofs.Ytefjgfglommefaa
set_option linter.unusedVariables false
set_option linter.unusedSimpArgs false
namespace Go.Proofs.Ytefjgfglommefaa
set_option linter.unusedVariables false
set_option linter.unusedSimpArgs false
open Go Go.ChangeShapes Go.WideShapes Go.ChangeAt Go.RowKit Go.Deep

theorem PaW.own {w w' : World} {p : Pa} {A B A' B' : Option Addr} {c d c' d' lo1 lo2 : Nat} (h : PaW w p A c B d) (h1 : OwnL w' lo1 27 7 flL (.slice A' p.fl.length c') p.fl) (h2 : OwnL w' lo2 29 6 hoL (.slice B' p.ho.length d') p.ho) : PaW w' p A' c' B' d' := by
  obtain ⟨-, r1, a1, a2⟩ := OwnL.rd (c := flL) (fun _ => rfl) h1
  obtain ⟨-, r2, b1, b2⟩ := OwnL.rd (c := hoL) (fun _ => rfl) h2
  unfold maxLen at a2 b2
  exact ⟨⟨r1, a1, by omega, h.fl.len, h.fl.nm⟩, ⟨r2, b1, by omega, h.ho.len⟩, h.nm, h.mt⟩
end Go.Proofs.Ytefjgfglommefaa
set_option linter.unusedVariables false
set_option linter.unusedSimpArgs false
namespace Go.Proofs.Ytefjgfglommefaa
set_option linter.unusedVariables false
set_option linter.unusedSimpArgs false
open Go Go.ChangeShapes Go.WideShapes Go.ChangeAt Go.RowKit Go.Deep

set_option maxRecDepth 100000 in
set_option maxHeartbeats 2000000 in
theorem eqHos_any (A B : Option Addr) (c d : Nat) (l m : List Ho) (w : World) (hl : SlH w A c l) (hm : SlH w B d m) :
    Calls Try.prog 23 #[.slice A l.length c, .slice B m.length d] w fun e w' => e = .returned (.bool (lsB hoQ l m)) ∧ Gr w w' := by
  have n1 := hl.len
  have n2 := hm.len
  have HLl := hide hl
  have HLm := hide hm
  clear hl hm
  by_cases hlen : l.length = m.length
  · have HN := hide hlen
    have hq : ((l.length : Int) != (m.length : Int)) = false := by rw [bne_eq_false_iff_eq]; omega
    have GP := gHol
    clear hlen
    go_enter Try.func23, Try.ntmps23
    go_wp2
    go_loopw [13] (fun i wr => ∃ k : Nat, k ≤ l.length ∧ i = iv k ∧ Gr w wr ∧ Hid (∀ i a b, i < k → l[i]? = some a → m[i]? = some b → hoQ a b = true)) (fun i _ => l.length - (intOf i).toNat)
    case atStart => exact ⟨0, by omega, rfl, Gr.refl _, by intro i a b hi; omega⟩
    case round =>
      obtain ⟨k, hk, rfl, g, HS⟩ := hrel
      by_cases hkl : k < l.length
      · have hkm : k < m.length := by rw [← HN.out]; exact hkl
        obtain ⟨a, ha⟩ : ∃ a, l[k]? = some a := ⟨_, List.getElem?_eq_getElem hkl⟩
        obtain ⟨b, hb⟩ : ∃ b, m[k]? = some b := ⟨_, List.getElem?_eq_getElem hkm⟩
        obtain ⟨p, o, rfl, x0, x1, x2, x3, x4, x5⟩ := (HLl.out.gr g).rd.ho ha
        obtain ⟨q, o', rfl, y0, y1, y2, y3, y4, y5⟩ := (HLm.out.gr g).rd.ho hb
        have hp : p < wr.heap.size := cell_lt (by rw [x0]; rfl)
        have hqw : q < wr.heap.size := cell_lt (by rw [y0]; rfl)
        have NEQ := fun w => eqHol a b w
        have hk0 : (0 : Int) ≤ (k : Int) := by omega
        have hk1 : (k : Int) < (l.length : Int) := by omega
        have hk2 : (k : Int) < (m.length : Int) := by omega
        have HLa := hide ha
        have HLb := hide hb
        clear ha hb
        cases hv : hoQ a b with
        | true =>
          have HS' := hide (show ∀ i x y, i < k + 1 → l[i]? = some x → m[i]? = some y → hoQ x y = true by
            intro i x y hi hx hy
            rcases Nat.lt_or_ge i k with h | h
            · exact HS.out i x y h hx hy
            · obtain rfl : i = k := by omega
              rw [HLa.out] at hx
              rw [HLb.out] at hy
              obtain rfl := Option.some.inj hx
              obtain rfl := Option.some.inj hy
              exact hv)
          rw [hv] at NEQ
          clear hv
          go_upto_region 6 with fail
          have GC := @GrW.cell
          refine wp_region_grw _ (by kernel_rfl) (by kernel_rfl) (Gr.refl _) ?_
          repeat (go_big_quiet_step ((first | fail)))
          refine wpQuiet_nil ?_
          intro wq hwq
          obtain ⟨gq, hwq'⟩ := hwq
          subst hwq'
          clear GC
          have gq1 := gq.gr
          generalize gq.w = wq at gq1 ⊢
          obtain ⟨Xq, Yq, cq, fq⟩ := gq1.use
          have sq := gq1.size
          (try simp only [World.size_alloc, World.size_setCell, World.heap_drewN] at sq)
          go_wp2
          go_roundw
          case rel => exact ⟨k + 1, by omega, by go_num, (by repeat (first | with_reducible exact Gr.refl _ | with_reducible assumption | with_reducible refine Gr.alloc ?_ _ | with_reducible refine Gr.drewN ?_ _ | with_reducible refine Gr.drew ?_ | with_reducible refine Gr.setCell ?_ (by first | (dsimp only; omega) | (simp only [World.size_alloc]; omega) | (with_reducible refine Gr.size ?_; (repeat (first | with_reducible exact Gr.refl _ | with_reducible assumption | with_reducible refine Gr.alloc ?_ _ | with_reducible refine Gr.drewN ?_ _ | with_reducible refine Gr.drew ?_ | with_reducible refine Gr.trans ?_ (by with_reducible assumption))); done)) _ | with_reducible refine Gr.trans ?_ (by with_reducible assumption))), HS'⟩
          case measure => simp only [intOf]; omega
        | false =>
          have HE := hide (lsB_stop (f := hoQ) HLa.out HLb.out hv)
          rw [hv] at NEQ
          clear hv
          go_upto_region 6 with fail
          have GC := @GrW.cell
          refine wp_region_grw _ (by kernel_rfl) (by kernel_rfl) (Gr.refl _) ?_
          repeat (go_big_quiet_step ((first | fail)))
          refine wpQuiet_nil ?_
          intro wq hwq
          obtain ⟨gq, hwq'⟩ := hwq
          subst hwq'
          clear GC
          have gq1 := gq.gr
          generalize gq.w = wq at gq1 ⊢
          obtain ⟨Xq, Yq, cq, fq⟩ := gq1.use
          have sq := gq1.size
          (try simp only [World.size_alloc, World.size_setCell, World.heap_drewN] at sq)
          go_wp2
          go_ret
          exact ⟨ret_bool HE.out.symm, (by repeat (first | with_reducible exact Gr.refl _ | with_reducible assumption | with_reducible refine Gr.alloc ?_ _ | with_reducible refine Gr.drewN ?_ _ | with_reducible refine Gr.drew ?_ | with_reducible refine Gr.setCell ?_ (by first | (dsimp only; omega) | (simp only [World.size_alloc]; omega) | (with_reducible refine Gr.size ?_; (repeat (first | with_reducible exact Gr.refl _ | with_reducible assumption | with_reducible refine Gr.alloc ?_ _ | with_reducible refine Gr.drewN ?_ _ | with_reducible refine Gr.drew ?_ | with_reducible refine Gr.trans ?_ (by with_reducible assumption))); done)) _ | with_reducible refine Gr.trans ?_ (by with_reducible assumption)))⟩
      · obtain rfl : k = l.length := by omega
        have HE := hide (lsB_end (f := hoQ) HN.out HS.out)
        go_wp2
        go_ret
        exact ⟨ret_bool HE.out.symm, (by repeat (first | with_reducible exact Gr.refl _ | with_reducible assumption | with_reducible refine Gr.alloc ?_ _ | with_reducible refine Gr.drewN ?_ _ | with_reducible refine Gr.drew ?_ | with_reducible refine Gr.setCell ?_ (by first | (dsimp only; omega) | (simp only [World.size_alloc]; omega) | (with_reducible refine Gr.size ?_; (repeat (first | with_reducible exact Gr.refl _ | with_reducible assumption | with_reducible refine Gr.alloc ?_ _ | with_reducible refine Gr.drewN ?_ _ | with_reducible refine Gr.drew ?_ | with_reducible refine Gr.trans ?_ (by with_reducible assumption))); done)) _ | with_reducible refine Gr.trans ?_ (by with_reducible assumption)))⟩
  · have HE := hide (lsB_len (f := hoQ) hlen)
    have hq : ((l.length : Int) != (m.length : Int)) = true := by rw [bne_iff_ne]; omega
    clear hlen
    go_enter Try.func23, Try.ntmps23
    go_wp2
    go_ret
    exact ⟨ret_bool HE.out.symm, (by repeat (first | with_reducible exact Gr.refl _ | with_reducible assumption | with_reducible refine Gr.alloc ?_ _ | with_reducible refine Gr.drewN ?_ _ | with_reducible refine Gr.drew ?_ | with_reducible refine Gr.setCell ?_ (by first | (dsimp only; omega) | (simp only [World.size_alloc]; omega) | (with_reducible refine Gr.size ?_; (repeat (first | with_reducible exact Gr.refl _ | with_reducible assumption | with_reducible refine Gr.alloc ?_ _ | with_reducible refine Gr.drewN ?_ _ | with_reducible refine Gr.drew ?_ | with_reducible refine Gr.trans ?_ (by with_reducible assumption))); done)) _ | with_reducible refine Gr.trans ?_ (by with_reducible assumption)))⟩
set_option maxRecDepth 100000 in
set_option maxHeartbeats 2000000 in
theorem eqFls_any (A B : Option Addr) (c d : Nat) (l m : List Fl) (w : World) (hl : SlF w A c l) (hm : SlF w B d m) :
    Calls Try.prog 22 #[.slice A l.length c, .slice B m.length d] w fun e w' => e = .returned (.bool (lsB flB l m)) ∧ Gr w w' := by
  have n1 := hl.len
  have n2 := hm.len
  have HLl := hide hl
  have HLm := hide hm
  clear hl hm
  by_cases hlen : l.length = m.length
  · have HN := hide hlen
    have hq : ((l.length : Int) != (m.length : Int)) = false := by rw [bne_eq_false_iff_eq]; omega
    have GP := gFlg
    clear hlen
    go_enter Try.func22, Try.ntmps22
    go_wp2
    go_loopw [13] (fun i wr => ∃ k : Nat, k ≤ l.length ∧ i = iv k ∧ Gr w wr ∧ Hid (∀ i a b, i < k → l[i]? = some a → m[i]? = some b → flB a b = true)) (fun i _ => l.length - (intOf i).toNat)
    case atStart => exact ⟨0, by omega, rfl, Gr.refl _, by intro i a b hi; omega⟩
    case round =>
      obtain ⟨k, hk, rfl, g, HS⟩ := hrel
      by_cases hkl : k < l.length
      · have hkm : k < m.length := by rw [← HN.out]; exact hkl
        obtain ⟨a, ha⟩ : ∃ a, l[k]? = some a := ⟨_, List.getElem?_eq_getElem hkl⟩
        obtain ⟨b, hb⟩ : ∃ b, m[k]? = some b := ⟨_, List.getElem?_eq_getElem hkm⟩
        obtain ⟨p, o, rfl, x0, x1, x2, x3, x4, x5, x6⟩ := (HLl.out.gr g).rd.fl ha
        obtain ⟨q, o', rfl, y0, y1, y2, y3, y4, y5, y6⟩ := (HLm.out.gr g).rd.fl hb
        have hp : p < wr.heap.size := cell_lt (by rw [x0]; rfl)
        have hqw : q < wr.heap.size := cell_lt (by rw [y0]; rfl)
        have NEQ := fun w => eqFlg a b w
        have hk0 : (0 : Int) ≤ (k : Int) := by omega
        have hk1 : (k : Int) < (l.length : Int) := by omega
        have hk2 : (k : Int) < (m.length : Int) := by omega
        have HLa := hide ha
        have HLb := hide hb
        clear ha hb
        cases hv : flB a b with
        | true =>
          have HS' := hide (show ∀ i x y, i < k + 1 → l[i]? = some x → m[i]? = some y → flB x y = true by
            intro i x y hi hx hy
            rcases Nat.lt_or_ge i k with h | h
            · exact HS.out i x y h hx hy
            · obtain rfl : i = k := by omega
              rw [HLa.out] at hx
              rw [HLb.out] at hy
              obtain rfl := Option.some.inj hx
              obtain rfl := Option.some.inj hy
              exact hv)
          rw [hv] at NEQ
          clear hv
          go_upto_region 6 with fail
          have GC := @GrW.cell
          refine wp_region_grw _ (by kernel_rfl) (by kernel_rfl) (Gr.refl _) ?_
          repeat (go_big_quiet_step ((first | fail)))
          refine wpQuiet_nil ?_
          intro wq hwq
          obtain ⟨gq, hwq'⟩ := hwq
          subst hwq'
          clear GC
          have gq1 := gq.gr
          generalize gq.w = wq at gq1 ⊢
          obtain ⟨Xq, Yq, cq, fq⟩ := gq1.use
          have sq := gq1.size
          (try simp only [World.size_alloc, World.size_setCell, World.heap_drewN] at sq)
          go_wp2
          go_roundw
          case rel => exact ⟨k + 1, by omega, by go_num, (by repeat (first | with_reducible exact Gr.refl _ | with_reducible assumption | with_reducible refine Gr.alloc ?_ _ | with_reducible refine Gr.drewN ?_ _ | with_reducible refine Gr.drew ?_ | with_reducible refine Gr.setCell ?_ (by first | (dsimp only; omega) | (simp only [World.size_alloc]; omega) | (with_reducible refine Gr.size ?_; (repeat (first | with_reducible exact Gr.refl _ | with_reducible assumption | with_reducible refine Gr.alloc ?_ _ | with_reducible refine Gr.drewN ?_ _ | with_reducible refine Gr.drew ?_ | with_reducible refine Gr.trans ?_ (by with_reducible assumption))); done)) _ | with_reducible refine Gr.trans ?_ (by with_reducible assumption))), HS'⟩
          case measure => simp only [intOf]; omega
        | false =>
          have HE := hide (lsB_stop (f := flB) HLa.out HLb.out hv)
          rw [hv] at NEQ
          clear hv
          go_upto_region 6 with fail
          have GC := @GrW.cell
          refine wp_region_grw _ (by kernel_rfl) (by kernel_rfl) (Gr.refl _) ?_
          repeat (go_big_quiet_step ((first | fail)))
          refine wpQuiet_nil ?_
          intro wq hwq
          obtain ⟨gq, hwq'⟩ := hwq
          subst hwq'
          clear GC
          have gq1 := gq.gr
          generalize gq.w = wq at gq1 ⊢
          obtain ⟨Xq, Yq, cq, fq⟩ := gq1.use
          have sq := gq1.size
          (try simp only [World.size_alloc, World.size_setCell, World.heap_drewN] at sq)
          go_wp2
          go_ret
          exact ⟨ret_bool HE.out.symm, (by repeat (first | with_reducible exact Gr.refl _ | with_reducible assumption | with_reducible refine Gr.alloc ?_ _ | with_reducible refine Gr.drewN ?_ _ | with_reducible refine Gr.drew ?_ | with_reducible refine Gr.setCell ?_ (by first | (dsimp only; omega) | (simp only [World.size_alloc]; omega) | (with_reducible refine Gr.size ?_; (repeat (first | with_reducible exact Gr.refl _ | with_reducible assumption | with_reducible refine Gr.alloc ?_ _ | with_reducible refine Gr.drewN ?_ _ | with_reducible refine Gr.drew ?_ | with_reducible refine Gr.trans ?_ (by with_reducible assumption))); done)) _ | with_reducible refine Gr.trans ?_ (by with_reducible assumption)))⟩
      · obtain rfl : k = l.length := by omega
        have HE := hide (lsB_end (f := flB) HN.out HS.out)
        go_wp2
        go_ret
        exact ⟨ret_bool HE.out.symm, (by repeat (first | with_reducible exact Gr.refl _ | with_reducible assumption | with_reducible refine Gr.alloc ?_ _ | with_reducible refine Gr.drewN ?_ _ | with_reducible refine Gr.drew ?_ | with_reducible refine Gr.setCell ?_ (by first | (dsimp only; omega) | (simp only [World.size_alloc]; omega) | (with_reducible refine Gr.size ?_; (repeat (first | with_reducible exact Gr.refl _ | with_reducible assumption | with_reducible refine Gr.alloc ?_ _ | with_reducible refine Gr.drewN ?_ _ | with_reducible refine Gr.drew ?_ | with_reducible refine Gr.trans ?_ (by with_reducible assumption))); done)) _ | with_reducible refine Gr.trans ?_ (by with_reducible assumption)))⟩
  · have HE := hide (lsB_len (f := flB) hlen)
    have hq : ((l.length : Int) != (m.length : Int)) = true := by rw [bne_iff_ne]; omega
    clear hlen
    go_enter Try.func22, Try.ntmps22
    go_wp2
    go_ret
    exact ⟨ret_bool HE.out.symm, (by repeat (first | with_reducible exact Gr.refl _ | with_reducible assumption | with_reducible refine Gr.alloc ?_ _ | with_reducible refine Gr.drewN ?_ _ | with_reducible refine Gr.drew ?_ | with_reducible refine Gr.setCell ?_ (by first | (dsimp only; omega) | (simp only [World.size_alloc]; omega) | (with_reducible refine Gr.size ?_; (repeat (first | with_reducible exact Gr.refl _ | with_reducible assumption | with_reducible refine Gr.alloc ?_ _ | with_reducible refine Gr.drewN ?_ _ | with_reducible refine Gr.drew ?_ | with_reducible refine Gr.trans ?_ (by with_reducible assumption))); done)) _ | with_reducible refine Gr.trans ?_ (by with_reducible assumption)))⟩
theorem at_get {w : World} {b : Nat} : ∀ {vs : List Value} {o i : Nat} {v : Value}, At w b o vs → vs[i]? = some v → w.cell? ⟨b, o + i, none⟩ = some v
  | [], _, _, _, _, h => by simp at h
  | x :: xs, o, 0, v, h, k => by
    simp only [List.getElem?_cons_zero, Option.some.injEq] at k
    subst k
    exact h.1
  | x :: xs, o, i + 1, v, h, k => by
    have := at_get (i := i) h.2 (by simpa using k)
    rwa [show o + 1 + i = o + (i + 1) by omega] at this
theorem rdF_none {w : World} {l : List Fl} (h : RdF w none l) : l = [] := by
  cases l with
  | nil => rfl
  | cons f l =>
    obtain ⟨b, off, e, _⟩ := h.fl (i := 0) (f := f) rfl
    cases e
set_option maxRecDepth 100000 in
set_option maxHeartbeats 2000000 in
theorem cloneFls_any (A : Option Addr) (c : Nat) (l : List Fl) (w : World) (hl : SlF w A c l) :
    Calls Try.prog 68 #[.slice A l.length c] w fun e w' => ∃ A' c', e = .returned (.slice A' l.length c') ∧ OwnL w' w.heap.size 27 7 flL (.slice A' l.length c') l ∧ Gr w w' := by
  have q22 : ∀ (w : World) (a : Option Addr) (n c n' c' : Nat), (binOp .eql 22 (.slice a n c) (.slice none n' c')).run Try.prog w = .ok (.bool a.isNone) w := fun w a n c n' c' => Lib.run_eql_slice_nil w _ _ a n c n' c' Try.underlying22
  cases A with
  | none =>
    obtain rfl := rdF_none hl.rd
    clear hl
    go_enter Try.func68, Try.ntmps68
    go_wp2
    go_ret
    exact ⟨none, 0, rfl, own_nil _ _ _ _ _, Gr.refl _⟩
  | some a =>
    obtain ⟨i0, hi0, hz0, hz1, hz2⟩ := info_parts infoFl
    have n1 := hl.len
    have HL := hide hl
    clear hl
    go_enter Try.func68, Try.ntmps68
    go_wp2_with (at_builtin; refine wpList_append_own _ rfl _ _ 22 rfl w.heap.size 27 i0 _ 7 64 Try.underlying22 hi0 hz0 hz1 hz2 rfl (by omega) _ _ _ rfl (World.ownsRow_made w #[] 0 (Nat.le_refl _) (Nat.zero_le _) (by simp)) a l.length c (l.flatMap flL) rfl ?qc1 ?qc2 ?qc3 ?qc4 ?qc5 ?qc6 ?_)
    case qc1 => exact fm_len (c := flL) (fun _ => rfl) l
    case qc2 =>
      intro j u hj
      have hlt := (List.getElem?_eq_some_iff.1 hj).1
      rw [fm_len (c := flL) (k := 7) (fun _ => rfl) l] at hlt
      obtain ⟨f, hf⟩ : ∃ f, l[j / 7]? = some f := ⟨_, List.getElem?_eq_getElem (by omega)⟩
      obtain ⟨b, off, e, hat⟩ := HL.out.rd (j / 7) f hf
      have e2 := fm_at (c := flL) (k := 7) (fun _ => rfl) l (j / 7) f (j % 7) hf (by omega)
      rw [show j / 7 * 7 + j % 7 = j by omega, hj] at e2
      obtain rfl := Option.some.inj e
      have e3 := at_get hat e2.symm
      rw [show off + j / 7 * 7 + j % 7 = off + j by omega] at e3
      rw [addr_add]
      exact Lib.cell?_alloc_some _ e3
    case qc3 =>
      intro u hu
      obtain ⟨f, _, hu⟩ := List.mem_flatMap.1 hu
      exact one_fl f u hu
    case qc4 => unfold maxLen; omega
    case qc5 => omega
    case qc6 => simp
    intro v' w1 hown hgrow hnil
    have ho : OwnL w1 w.heap.size 27 7 flL v' l := by
      unfold OwnL
      simpa using hown
    obtain ⟨A', c', rfl⟩ := ho.slice
    go_wp2
    go_ret
    exact ⟨A', c', rfl, ho, Gr.grown (Gr.alloc (Gr.refl _) _) hgrow (by intro k hk; simp [Value.ownBlock] at hk; omega)⟩
/-- a flange without its name -/
def unn (f : Fl) : Fl := { f with nm := ⟨#[]⟩ }
/-- the flanges, the first k without their names -/
def mixU (l : List Fl) (k : Nat) : List Fl := (l.take k).map unn ++ l.drop k
theorem mixU_zero (l : List Fl) : mixU l 0 = l := by simp [mixU]
theorem mixU_end (l : List Fl) : mixU l l.length = l.map unn := by simp [mixU]
theorem mixU_len {l : List Fl} {k : Nat} (h : k ≤ l.length) : (mixU l k).length = l.length := by
  simp only [mixU, List.length_append, List.length_map, List.length_take, List.length_drop]
  omega
theorem mixU_at {l : List Fl} {k : Nat} {f : Fl} (h : l[k]? = some f) : mixU l k = (l.take k).map unn ++ f :: l.drop (k + 1) ∧ mixU l (k + 1) = (l.take k).map unn ++ unn f :: l.drop (k + 1) := by
  have hk := (List.getElem?_eq_some_iff.1 h).1
  constructor
  · unfold mixU
    rw [List.drop_eq_getElem_cons hk, (List.getElem?_eq_some_iff.1 h).2]
  · unfold mixU
    rw [take_snoc h]
    simp
theorem mixU_set {l : List Fl} {k : Nat} {f : Fl} (h : l[k]? = some f) : ((mixU l k).flatMap flL).set (k * 7) (.string ⟨#[]⟩) = (mixU l (k + 1)).flatMap flL := by
  have hk := (List.getElem?_eq_some_iff.1 h).1
  rw [(mixU_at h).1, (mixU_at h).2, List.flatMap_append, List.flatMap_append, List.flatMap_cons, List.flatMap_cons]
  have hl : (((l.take k).map unn).flatMap flL).length = k * 7 := by
    rw [fm_len (c := flL) (k := 7) (fun _ => rfl), List.length_map, List.length_take]
    omega
  rw [List.set_append, if_neg (by omega), hl, Nat.sub_self]
  rfl
theorem mixU_cell {l : List Fl} {k : Nat} {f : Fl} (h : l[k]? = some f) : ((mixU l k).flatMap flL)[k * 7]? = some (.string f.nm) := by
  have hk := (List.getElem?_eq_some_iff.1 h).1
  have := fm_at (c := flL) (k := 7) (fun _ => rfl) (mixU l k) k f 0 (by rw [(mixU_at h).1, List.getElem?_append_right (by rw [List.length_map, List.length_take]; omega)]; simp [Nat.min_eq_left (Nat.le_of_lt hk)]) (by omega)
  rw [Nat.add_zero] at this
  exact this
end Go.Proofs.Ytefjgfglommefaa
namespace Go.Proofs.Ytefjgfglommefaa
open Go Go.ChangeShapes Go.WideShapes Go.ChangeAt Go.RowKit Go.Deep

set_option maxRecDepth 100000 in
set_option maxHeartbeats 4000000 in
theorem cEqual_any (p q : Pa) (A B A' B' : Option Addr) (c d c' d' : Nat) (w : World) (hp : PaW w p A c B d) (hq : PaW w q A' c' B' d') :
    Calls Try.prog 11 #[pav p A c B d, pav q A' c' B' d'] w fun e w' => e = .returned (.bool (eqB p q)) ∧ Gr w w' := by
  have HFE := hide (fun (w' : World) (g : Gr w w') => eqFls_any A A' c c' p.fl q.fl w' (hp.fl.gr g) (hq.fl.gr g))
  have HHE := hide (fun (w' : World) (g : Gr w w') => eqHos_any B B' d d' p.ho q.ho w' (hp.ho.gr g) (hq.ho.gr g))
  clear hp hq
  cases hh : hdQ p q with
  | false =>
    have HN := hide (show ¬ ((p.nm.toList == q.nm.toList) = true ∧ (p.mt.toList == q.mt.toList) = true ∧ (p.ga == q.ga) = true ∧ (p.gr == q.gr) = true ∧ (p.wd == q.wd) = true ∧ (p.ht == q.ht) = true) by rw [← hdQ_parts, hh]; simp)
    have HE := hide (eqB_head hh)
    clear hh
    go_enter Try.func11, Try.ntmps11
    go_wp2_with fail
    all_goals first
      | (go_ret
         exact ⟨ret_bool HE.out.symm, (by repeat (first | with_reducible exact Gr.refl _ | with_reducible assumption | with_reducible refine Gr.alloc ?_ _ | with_reducible refine Gr.drewN ?_ _ | with_reducible refine Gr.drew ?_ | with_reducible refine Gr.setCell ?_ (by first | (dsimp only; omega) | (simp only [World.size_alloc]; omega) | (with_reducible refine Gr.size ?_; (repeat (first | with_reducible exact Gr.refl _ | with_reducible assumption | with_reducible refine Gr.alloc ?_ _ | with_reducible refine Gr.drewN ?_ _ | with_reducible refine Gr.drew ?_ | with_reducible refine Gr.trans ?_ (by with_reducible assumption))); done)) _ | with_reducible refine Gr.trans ?_ (by with_reducible assumption)))⟩)
      | (exfalso
         refine HN.out ⟨?_, ?_, ?_, ?_, ?_, ?_⟩ <;> (first | assumption | (simp at *; assumption)))
  | true =>
    obtain ⟨k1, k2, k3, k4, k5, k6⟩ := hdQ_parts.1 hh
    cases hf : lsB flB p.fl q.fl with
    | true =>
      have HE := hide (eqB_rest hh hf)
      rw [hf] at HFE
      clear hh hf
      go_enter Try.func11, Try.ntmps11
      go_wp2_with fail
      refine (HFE.out _ (by repeat (first | with_reducible exact Gr.refl _ | with_reducible assumption | with_reducible refine Gr.alloc ?_ _ | with_reducible refine Gr.drewN ?_ _ | with_reducible refine Gr.drew ?_ | with_reducible refine Gr.setCell ?_ (by first | (dsimp only; omega) | (simp only [World.size_alloc]; omega) | (with_reducible refine Gr.size ?_; (repeat (first | with_reducible exact Gr.refl _ | with_reducible assumption | with_reducible refine Gr.alloc ?_ _ | with_reducible refine Gr.drewN ?_ _ | with_reducible refine Gr.drew ?_ | with_reducible refine Gr.trans ?_ (by with_reducible assumption))); done)) _ | with_reducible refine Gr.trans ?_ (by with_reducible assumption)))).mono ?_
      rintro e w1 ⟨rfl, g1⟩
      obtain ⟨X1, Y1, c1, f1⟩ := g1.use
      have z1 := g1.size
      simp only [World.size_alloc] at z1
      have l1 : w.heap.size < w1.heap.size := by omega
      have l2 : w.heap.size + 1 < w1.heap.size := by omega
      have gw1 : Gr w w1 := (by repeat (first | with_reducible exact Gr.refl _ | with_reducible assumption | with_reducible refine Gr.alloc ?_ _ | with_reducible refine Gr.drewN ?_ _ | with_reducible refine Gr.drew ?_ | with_reducible refine Gr.setCell ?_ (by first | (dsimp only; omega) | (simp only [World.size_alloc]; omega) | (with_reducible refine Gr.size ?_; (repeat (first | with_reducible exact Gr.refl _ | with_reducible assumption | with_reducible refine Gr.alloc ?_ _ | with_reducible refine Gr.drewN ?_ _ | with_reducible refine Gr.drew ?_ | with_reducible refine Gr.trans ?_ (by with_reducible assumption))); done)) _ | with_reducible refine Gr.trans ?_ (by with_reducible assumption)))
      go_wp2_with fail
      refine (HHE.out _ gw1).mono ?_
      rintro e w2 ⟨rfl, g2⟩
      go_wp2
      go_ret
      exact ⟨ret_bool HE.out.symm, (by repeat (first | with_reducible exact Gr.refl _ | with_reducible assumption | with_reducible refine Gr.alloc ?_ _ | with_reducible refine Gr.drewN ?_ _ | with_reducible refine Gr.drew ?_ | with_reducible refine Gr.setCell ?_ (by first | (dsimp only; omega) | (simp only [World.size_alloc]; omega) | (with_reducible refine Gr.size ?_; (repeat (first | with_reducible exact Gr.refl _ | with_reducible assumption | with_reducible refine Gr.alloc ?_ _ | with_reducible refine Gr.drewN ?_ _ | with_reducible refine Gr.drew ?_ | with_reducible refine Gr.trans ?_ (by with_reducible assumption))); done)) _ | with_reducible refine Gr.trans ?_ (by with_reducible assumption)))⟩
    | false =>
      have HE := hide (eqB_fl (p := p) (q := q) hf)
      rw [hf] at HFE
      clear hh hf
      go_enter Try.func11, Try.ntmps11
      go_wp2_with fail
      refine (HFE.out _ (by repeat (first | with_reducible exact Gr.refl _ | with_reducible assumption | with_reducible refine Gr.alloc ?_ _ | with_reducible refine Gr.drewN ?_ _ | with_reducible refine Gr.drew ?_ | with_reducible refine Gr.setCell ?_ (by first | (dsimp only; omega) | (simp only [World.size_alloc]; omega) | (with_reducible refine Gr.size ?_; (repeat (first | with_reducible exact Gr.refl _ | with_reducible assumption | with_reducible refine Gr.alloc ?_ _ | with_reducible refine Gr.drewN ?_ _ | with_reducible refine Gr.drew ?_ | with_reducible refine Gr.trans ?_ (by with_reducible assumption))); done)) _ | with_reducible refine Gr.trans ?_ (by with_reducible assumption)))).mono ?_
      rintro e w1 ⟨rfl, g1⟩
      go_wp2
      go_ret
      exact ⟨ret_bool HE.out.symm, (by repeat (first | with_reducible exact Gr.refl _ | with_reducible assumption | with_reducible refine Gr.alloc ?_ _ | with_reducible refine Gr.drewN ?_ _ | with_reducible refine Gr.drew ?_ | with_reducible refine Gr.setCell ?_ (by first | (dsimp only; omega) | (simp only [World.size_alloc]; omega) | (with_reducible refine Gr.size ?_; (repeat (first | with_reducible exact Gr.refl _ | with_reducible assumption | with_reducible refine Gr.alloc ?_ _ | with_reducible refine Gr.drewN ?_ _ | with_reducible refine Gr.drew ?_ | with_reducible refine Gr.trans ?_ (by with_reducible assumption))); done)) _ | with_reducible refine Gr.trans ?_ (by with_reducible assumption)))⟩
/-- two flanges compared but for their names -/
def flQ (a b : Fl) : Bool := a.pa == b.pa && (a.sd == b.sd && (a.o == b.o && (a.wd == b.wd && (a.ln == b.ln && a.an == b.an))))
theorem flB_unn (a b : Fl) : flB (unn a) (unn b) = flQ a b := by simp [flB, unn, flQ]
theorem lsB_unn (l m : List Fl) : lsB flB (l.map unn) (m.map unn) = lsB flQ l m := by
  rw [Bool.eq_iff_iff, lsB_iff, lsB_iff, List.length_map, List.length_map]
  refine and_congr_right fun _ => ⟨fun h i a b ha hb => ?_, fun h i a b ha hb => ?_⟩
  · rw [← flB_unn]
    exact h i _ _ (by rw [List.getElem?_map, ha]; rfl) (by rw [List.getElem?_map, hb]; rfl)
  · rw [List.getElem?_map] at ha hb
    obtain ⟨a', ha', rfl⟩ := Option.map_eq_some_iff.1 ha
    obtain ⟨b', hb', rfl⟩ := Option.map_eq_some_iff.1 hb
    rw [flB_unn]
    exact h i a' b' ha' hb'
def ouH (p q : Pa) : Bool := (p.mt.toList == q.mt.toList) && (p.ga == q.ga) && (p.gr == q.gr) && (p.wd == q.wd) && (p.ht == q.ht)
theorem ouH_parts {p q : Pa} : ouH p q = true ↔ (p.mt.toList == q.mt.toList) = true ∧ (p.ga == q.ga) = true ∧ (p.gr == q.gr) = true ∧ (p.wd == q.wd) = true ∧ (p.ht == q.ht) = true := by
  unfold ouH
  simp only [Bool.and_eq_true, and_assoc]
/-- whether the outlines of two parts differ -/
noncomputable def ouD (p q : Pa) : Bool := !(ouH p q && lsB flQ p.fl q.fl)
def paU (p : Pa) (nm : ByteArray) (ho : List Ho) : Pa := ⟨nm, p.mt, p.ga, p.gr, p.wd, p.ht, p.fl.map unn, ho⟩
theorem eqB_paU (p q : Pa) : (!(eqB (paU p q.nm q.ho) (paU q q.nm q.ho))) = ouD p q := by
  unfold eqB ouD paU
  dsimp only
  rw [lsB_unn, lsB_self hoQ_self, Bool.and_true]
  unfold hdQ ouH
  simp
theorem PaW.unn {w w' : World} {p q : Pa} {A B A' B' A1 : Option Addr} {c d c' d' c1 lo : Nat} (h : PaW w p A c B d) (k : PaW w q A' c' B' d') (g : Gr w w') (h1 : OwnL w' lo 27 7 flL (.slice A1 p.fl.length c1) (p.fl.map unn)) : PaW w' (paU p q.nm q.ho) A1 c1 B' d' := by
  obtain ⟨-, r1, a1, a2⟩ := OwnL.rd (c := flL) (fun _ => rfl) h1
  unfold maxLen at a2
  refine ⟨⟨r1, a1, by omega, ?_, ?_⟩, k.ho.gr g, k.nm, h.mt⟩
  · show (p.fl.map _).length ≤ 1000
    rw [List.length_map]
    exact h.fl.len
  · intro f hf
    obtain ⟨f', _, rfl⟩ := List.mem_map.1 (show f ∈ p.fl.map _ from hf)
    show (⟨#[]⟩ : ByteArray).size ≤ 1000
    decide
theorem cEqU_any (p q : Pa) (A B A' B' : Option Addr) (c d c' d' : Nat) (w : World) (hp : PaW w (paU p q.nm q.ho) A c B d) (hq : PaW w (paU q q.nm q.ho) A' c' B' d') :
    Calls Try.prog 11 #[.agg #[.string q.nm, .string p.mt, iv p.ga, iv p.gr, iv p.wd, iv p.ht, .slice A p.fl.length c, .slice B q.ho.length d], .agg #[.string q.nm, .string q.mt, iv q.ga, iv q.gr, iv q.wd, iv q.ht, .slice A' q.fl.length c', .slice B' q.ho.length d']] w fun e w' => e = .returned (.bool (eqB (paU p q.nm q.ho) (paU q q.nm q.ho))) ∧ Gr w w' := by
  have h := cEqual_any (paU p q.nm q.ho) (paU q q.nm q.ho) A B A' B' c d c' d' w hp hq
  generalize eqB (paU p q.nm q.ho) (paU q q.nm q.ho) = eb at h ⊢
  simpa only [pav, paU, List.length_map] using h
end Go.Proofs.Ytefjgfglommefaa
namespace Go.Proofs.Ytefjgfglommefaa
open Go Go.ChangeShapes Go.WideShapes Go.ChangeAt Go.RowKit Go.Deep

theorem ouD_head {p q : Pa} (h : ouH p q = false) : ouD p q = true := by
  unfold ouD
  rw [h]
  rfl
theorem ouD_fl {p q : Pa} (h : lsB flQ p.fl q.fl = false) : ouD p q = true := by
  unfold ouD
  rw [h]
  simp
theorem ouD_no {p q : Pa} (h : ouH p q = true) (k : lsB flQ p.fl q.fl = true) : ouD p q = false := by
  unfold ouD
  rw [h, k]
  rfl
end Go.Proofs.Ytefjgfglommefaa
namespace Go.Proofs.Ytefjgfglommefaa
open Go Go.ChangeShapes Go.WideShapes Go.ChangeAt Go.RowKit Go.Deep

/-- what has changed: the outline, the holes, the error -/
noncomputable def chV (p q : Pa) : Bool × Bool × Int := if valE p ≠ 0 then (false, false, valE p) else if valE q ≠ 0 then (false, false, valE q) else (ouD p q, !(lsB hoQ p.ho q.ho), 0)
theorem chV_p {p q : Pa} (h : ¬ valE p = 0) : chV p q = (false, false, valE p) := by
  unfold chV
  rw [if_pos h]
theorem chV_q {p q : Pa} (h : valE p = 0) (k : ¬ valE q = 0) : chV p q = (false, false, valE q) := by
  unfold chV
  rw [if_neg (by simpa using h), if_pos k]
theorem chV_ok {p q : Pa} (h : valE p = 0) (k : valE q = 0) : chV p q = (ouD p q, !(lsB hoQ p.ho q.ho), 0) := by
  unfold chV
  rw [if_neg (by simpa using h), if_neg (by simpa using k)]
theorem chV_err (p q : Pa) : (chV p q).2.2 = 0 ∨ ((chV p q).1 = false ∧ (chV p q).2.1 = false) := by
  unfold chV
  split
  · exact .inr ⟨rfl, rfl⟩
  · split
    · exact .inr ⟨rfl, rfl⟩
    · exact .inl rfl
def chS (t : Bool × Bool × Int) : Bool := decide (t.2.2 = 0) && (!t.1 && !t.2.1)
abbrev chW (s : Bool) (t : Bool × Bool × Int) : Value := .tuple #[.agg #[.bool s, .bool t.1, .bool t.2.1, .bool t.1], iv t.2.2]
abbrev chR (t : Bool × Bool × Int) : Value := .tuple #[.bool t.1, .bool t.2.1, iv t.2.2]
end Go.Proofs.Ytefjgfglommefaa
namespace Go.Proofs.Ytefjgfglommefaa
open Go Go.ChangeShapes Go.WideShapes Go.ChangeAt Go.RowKit Go.Deep

end Go.Proofs.Ytefjgfglommefaa
set_option linter.unusedVariables false
set_option linter.unusedSimpArgs false
namespace Go.Proofs.Ytefjgfglommefaa
set_option linter.unusedVariables false
set_option linter.unusedSimpArgs false
open Go Go.ChangeShapes Go.WideShapes Go.ChangeAt Go.RowKit Go.Deep

/-- what a valid part has -/
structure Good (p : Pa) : Prop where
  base : basB p = true
  nfl : p.fl.length ≤ 5
  nho : p.ho.length ≤ 6
  fl : FlOk p p.fl.length
  ho : p.ho.all (hoB p) = true
  no : anyB clC (facs flC p.wd p.ht p.fl allT p.fl.length) = false
theorem good_of {p : Pa} (h : valE p = 0) : Good p := by
  by_cases h1 : (nameB p.nm.toList && nameB p.mt.toList) = true
  · by_cases h2 : basB p = true
    · by_cases h3 : 5 < p.fl.length ∨ 6 < p.ho.length
      · rw [valE_large h1 h2 h3] at h
        cases h
      · rw [valE_rest h1 h2 h3] at h
        split at h
        · rename_i h4
          exact absurd h h4
        rename_i h4
        split at h
        · cases h
        split at h
        · cases h
        rename_i h5
        split at h
        · cases h
        split at h
        · cases h
        rename_i h6
        exact ⟨h2, by omega, by omega, FlOk.all h2 (by simpa using h4), by simpa using h5, by simpa using h6⟩
    · rw [valE_base h1 (by simpa using h2)] at h
      cases h
  · rw [valE_names (by simpa using h1)] at h
    cases h
/-- the greatest mask of a part -/
def fuM (p : Pa) : Int := ((2 ^ p.fl.length - 1 : Nat) : Int)
theorem fuM_lt {p : Pa} (h : p.fl.length ≤ 5) {m : Int} (hm : wiB m 0 (fuM p) = true) : ∃ k : Nat, m = k ∧ k < 64 := by
  rw [wiB_iff] at hm
  unfold fuM at hm
  have : 2 ^ p.fl.length ≤ 2 ^ 5 := Nat.pow_le_pow_right (by omega) h
  exact ⟨m.toNat, by omega, by omega⟩
/-- the error of a part and a mask -/
noncomputable def facE (p : Pa) (m : Int) : Int := if valE p ≠ 0 then valE p else if wiB m 0 (fuM p) then 0 else 1
/-- the faces of a part; none where there is an error -/
noncomputable def facL (p : Pa) (m : Int) : List Fc := if facE p m = 0 then facs flC p.wd p.ht p.fl (fun i => m.toNat.testBit i) p.fl.length else []
theorem facE_bad {p : Pa} {m : Int} (h : ¬ valE p = 0) : facE p m = valE p := by
  unfold facE
  rw [if_pos h]
theorem facE_arg {p : Pa} {m : Int} (h : valE p = 0) (k : wiB m 0 (fuM p) = false) : facE p m = 1 := by
  unfold facE
  rw [if_neg (by simpa using h), k]
  rfl
theorem facE_ok {p : Pa} {m : Int} (h : valE p = 0) (k : wiB m 0 (fuM p) = true) : facE p m = 0 := by
  unfold facE
  rw [if_neg (by simpa using h), k]
  rfl
theorem facL_none {p : Pa} {m : Int} (h : ¬ facE p m = 0) : facL p m = [] := by
  unfold facL
  rw [if_neg h]
theorem facL_some {p : Pa} {m : Int} (h : facE p m = 0) : facL p m = facs flC p.wd p.ht p.fl (fun i => m.toNat.testBit i) p.fl.length := by
  unfold facL
  rw [if_pos h]
theorem facE_zero {p : Pa} {m : Int} (h : facE p m = 0) : valE p = 0 ∧ wiB m 0 (fuM p) = true := by
  unfold facE at h
  split at h
  · rename_i h1
    exact absurd h h1
  · rename_i h1
    split at h
    · rename_i h2
      exact ⟨by simpa using h1, h2⟩
    · cases h
theorem facL_len {p : Pa} {m : Int} : (facL p m).length ≤ 6 := by
  by_cases h : facE p m = 0
  · rw [facL_some h, facs_len (Nat.le_refl _)]
    have := (good_of (facE_zero h).1).nfl
    omega
  · rw [facL_none h]
    simp
abbrev sle (v : Value) (e : Int) : Value := .tuple #[v, iv e]
theorem ret_sle {v : Value} {a b : Int} (h : a = b) : Ending.returned (sle v a) = .returned (sle v b) := by rw [h]
end Go.Proofs.Ytefjgfglommefaa
