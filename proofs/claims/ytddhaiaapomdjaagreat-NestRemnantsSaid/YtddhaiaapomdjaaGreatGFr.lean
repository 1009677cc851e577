/-
  Nests, plain: a piece that is valid, and turned.
  Nests: rectangles moved by a placement; Quarter at a turn that is none.
  Nests: the piece at a placement, of the code: what is refused.
  Nests: the piece at a placement, of the code: what is put.
  Nests: the piece at a placement, of the code: the walk where all is right.
-/
import Derived.Test.YtddhaiaapomdjaaGreatNp6r
import Derived.Test.YtddhaiaapomdjaaGreatGAr
import Derived.Test.YtddhaiaapomdjaaGreatGBr
import Derived.Deep.Cut
set_option linter.unusedVariables false
set_option linter.unusedSimpArgs false
namespace Go.Proofs.YtddhaiaapomdjaaGreat
set_option linter.unusedVariables false
set_option linter.unusedSimpArgs false
open Go Go.ChangeShapes Go.WideShapes Go.ChangeAt Go.RowKit Go.Deep

namespace RG
/-- what a piece without error is -/
structure PcG (p : Pc) : Prop where
  nm : (nameB p.nm.toList && nameB p.mt.toList) = true
  kn : knB p.ga p.gr = true
  n1 : p.r.length ≤ 12
  n2 : p.c.length ≤ 12
  n3 : p.f.length ≤ 12
  n0 : 0 < p.r.length
  vr : vaB p.r = true
  vc : vaB p.c = true
  vf : vaB p.f = true
  bo : boB p.r = true
  ap : apB ovQ p.r = false
  ho : hoFB p.r p.c p.f = true
  tt : apB toR (p.c ++ p.f) = false
theorem vpE_good {p : Pc} {b : Bool} (h : vpE p b = 0) : PcG p ∧ b = true := by
  unfold vpE at h
  by_cases h1 : (nameB p.nm.toList && nameB p.mt.toList) = true
  · rw [if_pos h1] at h
    by_cases h2 : knB p.ga p.gr = true
    · rw [if_pos h2] at h
      by_cases h3 : 12 < p.r.length ∨ 12 < p.c.length ∨ 12 < p.f.length
      · rw [if_pos h3] at h; omega
      · rw [if_neg h3] at h
        by_cases h4 : p.r.length = 0
        · rw [if_pos h4] at h; omega
        · rw [if_neg h4] at h
          by_cases h5 : (vaB p.r && (vaB p.c && vaB p.f)) = true
          · rw [if_pos h5] at h
            by_cases h6 : boB p.r = true
            · rw [if_pos h6] at h
              by_cases h7 : apB ovQ p.r = true
              · rw [if_pos h7] at h; omega
              · rw [if_neg h7] at h
                by_cases h8 : b = true
                · rw [if_pos h8] at h
                  by_cases h9 : hoFB p.r p.c p.f = true
                  · rw [if_pos h9] at h
                    by_cases h10 : apB toR (p.c ++ p.f) = true
                    · rw [if_pos h10] at h; omega
                    · simp only [Bool.and_eq_true] at h5
                      exact ⟨⟨h1, h2, by omega, by omega, by omega, by omega, h5.1, h5.2.1, h5.2.2, h6, by simpa using h7, h9, by simpa using h10⟩, h8⟩
                  · rw [if_neg h9] at h; omega
                · rw [if_neg h8] at h; omega
            · rw [if_neg h6] at h; omega
          · rw [if_neg h5] at h; omega
    · rw [if_neg h2] at h; omega
  · rw [if_neg h1] at h; omega
theorem vaB_iff {l : List Rc} : vaB l = true ↔ ∀ r ∈ l, vrR r = true := List.all_eq_true
theorem boB_atO {l : List Rc} (h : boB l = true) (hv : vaB l = true) : AtO l := by
  cases l with
  | nil => cases h
  | cons q l =>
    have h' : ((mnV (q :: l) (q.x, q.y)).1 == 0 && (mnV (q :: l) (q.x, q.y)).2 == 0) = true := h
    simp only [Bool.and_eq_true, beq_iff_eq] at h'
    have k := fun x y => mnV_le (l := q :: l) (z := (q.x, q.y)) (x := x) (y := y)
    have k0 := k 0 0
    have k1 := k 1 1
    rw [h'.1, h'.2] at k0 k1
    obtain ⟨a1, a2⟩ := k0.1.1 (Int.le_refl _)
    obtain ⟨b1, b2⟩ := k0.2.1 (Int.le_refl _)
    refine ⟨vaB_iff.1 hv, a2, b2, ?_, ?_⟩
    · refine Classical.byContradiction fun hn => ?_
      have : ∀ r ∈ q :: l, 1 ≤ r.x := fun r hr => by
        have := a2 r hr
        rcases Int.lt_or_le r.x 1 with c | c
        · exact absurd ⟨r, hr, by omega⟩ hn
        · exact c
      have := k1.1.2 ⟨this q List.mem_cons_self, this⟩
      omega
    · refine Classical.byContradiction fun hn => ?_
      have : ∀ r ∈ q :: l, 1 ≤ r.y := fun r hr => by
        have := b2 r hr
        rcases Int.lt_or_le r.y 1 with c | c
        · exact absurd ⟨r, hr, by omega⟩ hn
        · exact c
      have := k1.2.2 ⟨this q List.mem_cons_self, this⟩
      omega
theorem PcG.at {p : Pc} (h : PcG p) : AtO p.r := boB_atO h.bo h.vr
theorem bnV_low : ∀ (l : List Rc) (s : Int × Int × Int × Int) (x : Int), (x ≤ (bnV l s).1 ↔ x ≤ s.1 ∧ ∀ r ∈ l, x ≤ r.x) ∧ (x ≤ (bnV l s).2.1 ↔ x ≤ s.2.1 ∧ ∀ r ∈ l, x ≤ r.y) ∧ ((bnV l s).2.2.1 ≤ x ↔ s.2.2.1 ≤ x ∧ ∀ r ∈ l, r.x + r.w ≤ x) ∧ ((bnV l s).2.2.2 ≤ x ↔ s.2.2.2 ≤ x ∧ ∀ r ∈ l, r.y + r.h ≤ x)
  | [], s, x => by simp [bnV]
  | r :: l, s, x => by
    have ih := bnV_low l (min s.1 r.x, min s.2.1 r.y, max s.2.2.1 (r.x + r.w), max s.2.2.2 (r.y + r.h)) x
    have e : bnV (r :: l) s = bnV l (min s.1 r.x, min s.2.1 r.y, max s.2.2.1 (r.x + r.w), max s.2.2.2 (r.y + r.h)) := rfl
    rw [e, ih.1, ih.2.1, ih.2.2.1, ih.2.2.2]
    simp only [List.mem_cons, forall_eq_or_imp]
    refine ⟨⟨?_, ?_⟩, ⟨?_, ?_⟩, ⟨?_, ?_⟩, ⟨?_, ?_⟩⟩ <;> first | (rintro ⟨h1, h2, h3⟩; exact ⟨by omega, h3⟩) | (rintro ⟨h1, h2⟩; exact ⟨by omega, by omega, h2⟩)
/-- a rectangle of a piece, turned with the piece and settled -/
def tnR (rs : List Rc) (t : Nat) (r : Rc) : Rc := Sh (-(bnR (rs.map (RN t))).x) (-(bnR (rs.map (RN t))).y) (RN t r)
def tnL (rs : List Rc) (t : Nat) (l : List Rc) : List Rc := l.map (tnR rs t)
/-- the pattern of a piece -/
def pcF (p : Pc) : Pat := ⟨p.r, p.c, p.f, []⟩
theorem pos_nn {l : List Rc} (h : vaB l = true) : ∀ r ∈ l, 0 ≤ r.w ∧ 0 ≤ r.h := fun r hr => by
  have := vr_pos (vaB_iff.1 h r hr)
  omega
theorem PcG.nn {p : Pc} (h : PcG p) : nnB (pcF p) := ⟨pos_nn h.vr, pos_nn h.vc, pos_nn h.vf⟩
theorem PcG.bn {p : Pc} (h : PcG p) : (bnR p.r).w ≤ 1048576 ∧ (bnR p.r).h ≤ 1048576 := by
  have hA := h.at
  have h0 := h.n0
  have k : ∀ r ∈ p.r, r.x + r.w ≤ 1048576 ∧ r.y + r.h ≤ 1048576 := fun r hr => by
    have := vrR_iff.1 (hA.v r hr)
    exact ⟨this.x', this.y'⟩
  match hl : p.r with
  | [] => rw [hl] at h0; simp at h0
  | q :: l =>
    rw [hl] at k
    have ax := hA.px
    have ay := hA.py
    rw [hl] at ax ay
    have b := bnV_low (q :: l) (q.x, q.y, q.x, q.y)
    have kq := k q List.mem_cons_self
    have vq := vr_pos (hA.v q (by rw [hl]; exact List.mem_cons_self))
    have e1 := (b 0).1.2 ⟨ax q List.mem_cons_self, ax⟩
    have e2 := (b 0).2.1.2 ⟨ay q List.mem_cons_self, ay⟩
    have e3 := (b 1048576).2.2.1.2 ⟨by dsimp only; omega, fun r hr => (k r hr).1⟩
    have e4 := (b 1048576).2.2.2.2 ⟨by dsimp only; omega, fun r hr => (k r hr).2⟩
    show (bnV (q :: l) (q.x, q.y, q.x, q.y)).2.2.1 - (bnV (q :: l) (q.x, q.y, q.x, q.y)).1 ≤ _ ∧ (bnV (q :: l) (q.x, q.y, q.x, q.y)).2.2.2 - (bnV (q :: l) (q.x, q.y, q.x, q.y)).2.1 ≤ _
    omega
/-- a rectangle of the piece, or in one of them -/
theorem stB_in {r s : Rc} (h : stB r s = true) : s.x < r.x ∧ s.y < r.y ∧ r.x + r.w < s.x + s.w ∧ r.y + r.h < s.y + s.h := by
  have h' := (isR_iff r ⟨s.x + 1, s.y + 1, s.w - 2, s.h - 2⟩).1 h
  dsimp only at h'
  omega
theorem PcG.wb {p : Pc} (h : PcG p) : (∀ r ∈ p.r, wbR r (bnR p.r)) ∧ (∀ r ∈ p.c, wbR r (bnR p.r)) ∧ ∀ r ∈ p.f, wbR r (bnR p.r) := by
  have h1 : ∀ r ∈ p.r, wbR r (bnR p.r) := fun r hr => bnR_wbR h.n0 hr
  have key : ∀ r : Rc, p.r.any (stB r) = true → wbR r (bnR p.r) := fun r hr => by
    obtain ⟨s, hs, hq⟩ := List.any_eq_true.1 hr
    have a := stB_in hq
    have b := h1 s hs
    unfold wbR at b ⊢
    omega
  have ho := h.ho
  simp only [hoFB, Bool.and_eq_true, List.all_eq_true] at ho
  refine ⟨h1, fun r hr => key r ?_, fun r hr => key r (ho.2 r hr)⟩
  have := ho.1 r hr
  simp only [hcB, Bool.and_eq_true] at this
  exact this.2.2
theorem qt_tn {p : Pc} (h : PcG p) (t : Nat) : (qtF (pcF p) t).r = tnL p.r t p.r ∧ (qtF (pcF p) t).c = tnL p.r t p.c ∧ (qtF (pcF p) t).f = tnL p.r t p.f ∧ (qtF (pcF p) t).b = [] := by
  have := qt_r h.nn t
  refine ⟨this.1, this.2.1, this.2.2, ?_⟩
  show List.zipWith fix [] (stF (patM 0 0 t (pcF p))).b = []
  rfl
/-- the turned rectangles are valid and not negative -/
theorem tn_in {p : Pc} (h : PcG p) (t : Nat) {r : Rc} (hv : vrR r = true) (hw : wbR r (bnR p.r)) : vrR (tnR p.r t r) = true ∧ 0 ≤ (tnR p.r t r).x ∧ 0 ≤ (tnR p.r t r).y := by
  have k := qt_in (F := pcF p) (L := 1048576) h.n0 (pos_nn h.vr) h.bn hw t
  have q := RN_pos (vr_pos hv) t
  have e : Sh (qU (pcF p) t) (qV (pcF p) t) (RN t r) = tnR p.r t r := rfl
  rw [e] at k
  have ew : (tnR p.r t r).w = (RN t r).w := rfl
  have eh : (tnR p.r t r).h = (RN t r).h := rfl
  refine ⟨vrR_iff.2 ⟨by omega, by omega, by omega, by omega, by omega, by omega⟩, by omega, by omega⟩
theorem PcG.va {p : Pc} (h : PcG p) (t : Nat) : vaB (tnL p.r t p.r) = true ∧ vaB (tnL p.r t p.c) = true ∧ vaB (tnL p.r t p.f) = true := by
  have w := h.wb
  have key : ∀ l : List Rc, vaB l = true → (∀ r ∈ l, wbR r (bnR p.r)) → vaB (tnL p.r t l) = true := fun l hv hw => by
    rw [vaB_iff]
    intro r hr
    obtain ⟨q, hq, rfl⟩ := List.mem_map.1 hr
    exact (tn_in h t (vaB_iff.1 hv q hq) (hw q hq)).1
  exact ⟨key _ h.vr w.1, key _ h.vc w.2.1, key _ h.vf w.2.2⟩
theorem PcG.atT {p : Pc} (h : PcG p) (t : Nat) : AtO (tnL p.r t p.r) := by
  have w := h.wb
  have hz := qt_zero h.nn h.n0 t
  rw [(qt_tn h t).1] at hz
  have key : ∀ r ∈ tnL p.r t p.r, vrR r = true ∧ 0 ≤ r.x ∧ 0 ≤ r.y := fun r hr => by
    obtain ⟨q, hq, rfl⟩ := List.mem_map.1 hr
    exact tn_in h t (vaB_iff.1 h.vr q hq) (w.1 q hq)
  have hl : 0 < (tnL p.r t p.r).length := by unfold tnL; rw [List.length_map]; exact h.n0
  generalize tnL p.r t p.r = L at *
  match L, hl with
  | q :: l, _ =>
    have b := bnV_low (q :: l) (q.x, q.y, q.x, q.y) 1
    have ex : (bnV (q :: l) (q.x, q.y, q.x, q.y)).1 = 0 := hz.1
    have ey : (bnV (q :: l) (q.x, q.y, q.x, q.y)).2.1 = 0 := hz.2
    rw [ex, ey] at b
    refine ⟨fun r hr => (key r hr).1, fun r hr => (key r hr).2.1, fun r hr => (key r hr).2.2, ?_, ?_⟩
    · refine Classical.byContradiction fun hn => ?_
      have : ∀ r ∈ q :: l, 1 ≤ r.x := fun r hr => by
        have := (key r hr).2.1
        rcases Int.lt_or_le r.x 1 with c | c
        · exact absurd ⟨r, hr, by omega⟩ hn
        · exact c
      have := b.1.2 ⟨this q List.mem_cons_self, this⟩
      omega
    · refine Classical.byContradiction fun hn => ?_
      have : ∀ r ∈ q :: l, 1 ≤ r.y := fun r hr => by
        have := (key r hr).2.2
        rcases Int.lt_or_le r.y 1 with c | c
        · exact absurd ⟨r, hr, by omega⟩ hn
        · exact c
      have := b.2.1.2 ⟨this q List.mem_cons_self, this⟩
      omega
/-- the pattern of a valid piece may be turned, and turned it is in the limits -/
theorem PcG.ch {p : Pc} (h : PcG p) : chE (pcF p) = 0 := by
  have n1 := h.n1; have n2 := h.n2; have n3 := h.n3; have n0 := h.n0
  refine if_pos ⟨⟨h.n0, by show p.r.length ≤ 48; omega⟩, by show p.c.length ≤ 48; omega, by show p.f.length ≤ 48; omega, ?_⟩
  show ((p.r.all vrR && p.c.all vrR && p.f.all vrR) && List.all [] bdB) = true
  have e1 : p.r.all vrR = true := h.vr
  have e2 : p.c.all vrR = true := h.vc
  have e3 : p.f.all vrR = true := h.vf
  rw [e1, e2, e3]
  rfl
theorem PcG.qt {p : Pc} (h : PcG p) (t : Nat) : qtE (pcF p) t = 0 ∧ qtP (pcF p) t = ⟨tnL p.r t p.r, tnL p.r t p.c, tnL p.r t p.f, []⟩ := by
  obtain ⟨e1, e2, e3, e4⟩ := qt_tn h t
  have hq : qtF (pcF p) t = ⟨tnL p.r t p.r, tnL p.r t p.c, tnL p.r t p.f, []⟩ := by
    rw [← e1, ← e2, ← e3, ← e4]
  obtain ⟨v1, v2, v3⟩ := h.va t
  have hl : lmB (qtF (pcF p) t) = true := by
    rw [hq]
    show ((vaB (tnL p.r t p.r) && vaB (tnL p.r t p.c) && vaB (tnL p.r t p.f)) && List.all [] bdB) = true
    rw [v1, v2, v3]
    rfl
  have hE : qtE (pcF p) t = 0 := by
    unfold qtE
    rw [if_pos h.ch, if_pos hl]
  exact ⟨hE, by unfold qtP; rw [if_pos hE, hq]⟩
end RG
end Go.Proofs.YtddhaiaapomdjaaGreat
set_option linter.unusedVariables false
set_option linter.unusedSimpArgs false
namespace Go.Proofs.YtddhaiaapomdjaaGreat
set_option linter.unusedVariables false
set_option linter.unusedSimpArgs false
open Go Go.ChangeShapes Go.WideShapes Go.ChangeAt Go.RowKit Go.Deep

namespace RG
abbrev atv (pi sh x y t : Int) : Value := .agg #[iv pi, iv sh, iv x, iv y, iv t]
theorem box5 {w w' : World} {a b c d e : Value} {t : TypeId} (g : Gr (w.alloc (.cells #[a, b, c, d, e] t)) w') : w.heap.size < w'.heap.size ∧ w'.cell? ⟨w.heap.size, 0, none⟩ = some a ∧ w'.cell? ⟨w.heap.size, 1, none⟩ = some b ∧ w'.cell? ⟨w.heap.size, 2, none⟩ = some c ∧ w'.cell? ⟨w.heap.size, 3, none⟩ = some d ∧ w'.cell? ⟨w.heap.size, 4, none⟩ = some e := by
  have hl : w.heap.size < (w.alloc (.cells #[a, b, c, d, e] t)).heap.size := by simp
  exact ⟨Nat.lt_of_lt_of_le hl g.size, (g.cell _ _ hl).trans (by simp [go_sem]), (g.cell _ _ hl).trans (by simp [go_sem]), (g.cell _ _ hl).trans (by simp [go_sem]), (g.cell _ _ hl).trans (by simp [go_sem]), (g.cell _ _ hl).trans (by simp [go_sem])⟩
theorem own_slrN {w : World} {n m q : Nat} {D : Option Addr} {l : List Rc} (h : OwnL w n 70 4 rcL (.slice D m q) l) : m = l.length ∧ SlR w D q l := by
  obtain ⟨h0, h1, h2, h3⟩ := OwnL.rd (c := rcL) (fun _ => rfl) h
  exact ⟨h0, h1, h2, by unfold maxLen at h3; omega⟩
theorem own_new {w : World} {n m q : Nat} {D : Option Addr} {l : List Rc} (h : OwnL w n 70 4 rcL (.slice D m q) l) : ∀ a, D = some a → n ≤ a.block ∧ a.block < w.heap.size := by
  intro a ha
  subst ha
  rcases h.2 with ⟨h0, _⟩ | ⟨g', cap', cur, hv, hg, hh, _⟩
  · cases h0
  · injection hv with hv
    injection hv with hv
    subst hv
    exact ⟨hg, (Array.getElem?_eq_some_iff.1 hh).1⟩
theorem newsB (w : World) (ob : Obj) (cs : Array Value) (t : TypeId) : ∀ j u, cs.toList[j]? = some u → ((w.alloc ob).alloc (.cells cs t)).cell? ((⟨w.heap.size + 1, 0, none⟩ : Addr).add j) = some u := by
  intro j u h
  have := newsA (w.alloc ob) cs t j u h
  rwa [World.size_alloc] at this
set_option maxHeartbeats 4000000 in
set_option maxRecDepth 100000 in
theorem moved_any (A : Option Addr) (c : Nat) (l : List Rc) (pi sh x y t : Int) (w : World) (hl : SlR w A c l) (hv : ∀ r ∈ l, vrR r = true) (hx : -1048576 ≤ x ∧ x ≤ 1048576) (hy : -1048576 ≤ y ∧ y ≤ 1048576) (hn : l.length ≤ 1000) :
    Calls Tryz.prog 107 #[.slice A l.length c, atv pi sh x y t] w fun e w' => ∃ D q, e = .returned (.slice D l.length q) ∧ OwnL w' w.heap.size 70 4 rcL (.slice D l.length q) (l.map (mvR x y)) ∧ Gr w w' := by
  have n1 := hl.cap
  have n2 := hl.capB
  have HL := hide hl
  have HV := hide hv
  have HM := hide (fun (k : Nat) (r : Rc) (h : l[k]? = some r) => map_take1 (mvR x y) h)
  clear hl hv
  have g0 : Gr w (w.alloc (.cells #[iv pi, iv sh, iv x, iv y, iv t] 33)) := Gr.alloc (Gr.refl _) _
  go_enter Tryz.func107, Tryz.ntmps107
  go_wp2_with fail
  go_loopw [5, 10] (fun xv i wr => ∃ (k : Nat) (O : List Rc) (A1 : Option Addr) (d1 : Nat), k ≤ l.length ∧ i = iv k ∧ xv = .slice A1 O.length d1 ∧ Gr (w.alloc (.cells #[iv pi, iv sh, iv x, iv y, iv t] 33)) wr ∧ Hid (OwnL wr (w.heap.size + 1) 70 4 rcL (.slice A1 O.length d1) O) ∧ Hid (O = (l.take k).map (mvR x y)) ∧ O.length ≤ k) (fun _ i _ => l.length - (intOf i).toNat)
  case atStart => exact ⟨0, [], none, 0, by omega, rfl, rfl, Gr.refl _, own_nil _ _ _ _ _, rfl, by simp⟩
  case round =>
    obtain ⟨k, O, A1, d1, hk, rfl, rfl, g, HO, HE, hO⟩ := hrel
    obtain ⟨s0, m0, m1, m2, m3, m4⟩ := box5 g
    clear m0 m1 m4
    by_cases hkl : k < l.length
    · obtain ⟨r, hr⟩ : ∃ r, l[k]? = some r := ⟨_, List.getElem?_eq_getElem hkl⟩
      obtain ⟨b2, o2, hA, y0, y1, y2, y3⟩ := (HL.out.gr (g0.trans g)).at_ hr
      have hbl : b2 < wr.heap.size := cell_lt (by rw [y0]; rfl)
      have hk0 : (0 : Int) ≤ (k : Int) := by omega
      have hk1 : (k : Int) < (l.length : Int) := by omega
      have sg := g.size
      simp only [World.size_alloc] at sg
      have HN := hide (HM.out k r hr)
      have hvr := vrR_iff.1 (HV.out r (List.mem_of_getElem? hr))
      have p1 := hvr.w
      have p2 := hvr.h
      have p3 := hvr.x
      have p4 := hvr.y
      have p5 := hvr.x'
      have p6 := hvr.y'
      have W1 : IntKind.i64.wrap (r.x + x) = r.x + x := IntWalk.i64_in _ (by omega)
      have W2 : IntKind.i64.wrap (r.y + y) = r.y + y := IntWalk.i64_in _ (by omega)
      clear p1 p2 p3 p4 p5 p6 hvr
      subst hA
      clear hr
      obtain ⟨O2, hO2⟩ : ∃ O2, O ++ [mvR x y r] = O2 := ⟨_, rfl⟩
      have HO2 := hide hO2
      have HE2 := hide (show O2 = (l.take (k + 1)).map (mvR x y) by rw [HN.out, ← HE.out]; exact hO2.symm)
      have hO2e : O2.length ≤ k + 1 := by rw [← hO2]; simp; omega
      clear hO2 HE HN
      go_wp2_with (refine wpList_app1 rfl _ _ _ rfl rcL (w.heap.size + 1) 70 4 32 elRect (by decide) O ⟨r.x + x, r.y + y, r.w, r.h⟩ O2 HO2.out _ rfl (OwnL.gr HO.out (by with_reducible repeat (first | exact Gr.refl _ | assumption | refine Gr.alloc ?_ _ | refine Gr.drewN ?_ _ | refine Gr.drew ?_ | refine Gr.setCell ?_ (by first | (dsimp only; omega) | (simp only [World.size_alloc]; omega) | (refine Gr.size ?_; (repeat (first | exact Gr.refl _ | assumption | refine Gr.alloc ?_ _ | refine Gr.drewN ?_ _ | refine Gr.drew ?_ | refine Gr.trans ?_ (by assumption))); done)) _ | refine Gr.trans ?_ (by assumption)))) _ 1 rfl rfl (by intro j u hu; refine newsB _ _ #[iv (r.x + x), iv (r.y + y), iv r.w, iv r.h] 70 j u ?_; exact hu) (one_rc _) (by omega) (by decide) (by simp only [World.size_alloc]; omega) ?_; intro gg cap1 w8 hO8 hG8 hgrow hgb hg8)
      have HO8 := hide hO8
      have g8 := hG8 (w.alloc (.cells #[iv pi, iv sh, iv x, iv y, iv t] 33)) (g.trans (by with_reducible repeat (first | exact Gr.refl _ | assumption | refine Gr.alloc ?_ _ | refine Gr.drewN ?_ _ | refine Gr.drew ?_ | refine Gr.setCell ?_ (by first | (dsimp only; omega) | (simp only [World.size_alloc]; omega) | (refine Gr.size ?_; (repeat (first | exact Gr.refl _ | assumption | refine Gr.alloc ?_ _ | refine Gr.drewN ?_ _ | refine Gr.drew ?_ | refine Gr.trans ?_ (by assumption))); done)) _ | refine Gr.trans ?_ (by assumption)))) (by simp)
      clear hG8 hO8 hgrow
      go_roundw
      case rel => exact ⟨k + 1, O2, some ⟨gg, 0, none⟩, cap1, by omega, by go_num, rfl, g8, HO8, HE2, hO2e⟩
      case measure => simp only [intOf]; omega
    · obtain rfl : k = l.length := by omega
      have HR := hide (show OwnL wr w.heap.size 70 4 rcL (.slice A1 O.length d1) (l.map (mvR x y)) ∧ O.length = l.length by
        have e := HE.out
        rw [List.take_length] at e
        refine ⟨?_, by rw [e, List.length_map]⟩
        rw [← e]
        exact HO.out.weak (by omega))
      clear HO HE
      go_wp2
      go_ret
      refine ⟨A1, d1, by rw [HR.out.2]; rfl, ?_, g0.trans g⟩
      have := HR.out.1
      rwa [HR.out.2] at this
end RG
end Go.Proofs.YtddhaiaapomdjaaGreat
set_option linter.unusedVariables false
set_option linter.unusedSimpArgs false
namespace Go.Proofs.YtddhaiaapomdjaaGreat
set_option linter.unusedVariables false
set_option linter.unusedSimpArgs false
open Go Go.ChangeShapes Go.WideShapes Go.ChangeAt Go.RowKit Go.Deep

namespace RG
/-- moved at these lists, from here on -/
structure Mvs (w0 : World) (pi sh x y t : Int) (A : Option Addr) (m c : Nat) (G : List Rc) : Prop where
  use : ∀ w', Gr w0 w' → Calls Tryz.prog 107 #[.slice A m c, atv pi sh x y t] w' fun e w'' => ∃ (D : Option Addr) (q : Nat), e = .returned (.slice D G.length q) ∧ SlR w'' D q G ∧ (∀ a, D = some a → w'.heap.size ≤ a.block) ∧ Gr w' w''
abbrev noPcV : Value := pcvv ⟨#[]⟩ ⟨#[]⟩ 0 0 (.slice none 0 0) (.slice none 0 0) (.slice none 0 0)
theorem patW_pc {w : World} {p : Pc} (h : PcW w p) : PatW w p.rA p.rc p.cA p.cc p.fA p.fc none 0 (pcF p) := ⟨h.r, h.c, h.f, ⟨fun i x hx => by simp [pcF] at hx, by simp [pcF], by omega⟩⟩
/-- Quarter of a valid piece, from here on -/
theorem quarter_pc (p : Pc) (t : Nat) (w : World) (hp : PcW w p) (g : PcG p) (ht : t ≤ 3) :
    Calls Tryz.prog 106 #[ptv p.rA p.r.length p.rc p.cA p.c.length p.cc p.fA p.f.length p.fc none 0 0, iv (t : Int)] w fun e w' => ∃ (D1 D2 D3 D4 : Option Addr) (q1 q2 q3 q4 : Nat), e = .returned (sle (ptv D1 (tnL p.r t p.r).length q1 D2 (tnL p.r t p.c).length q2 D3 (tnL p.r t p.f).length q3 D4 0 q4) 0) ∧ (SlR w' D1 q1 (tnL p.r t p.r) ∧ SlR w' D2 q2 (tnL p.r t p.c) ∧ SlR w' D3 q3 (tnL p.r t p.f)) ∧ ((tnL p.r t p.r ≠ [] → ∀ a, D1 = some a → w.heap.size ≤ a.block) ∧ (tnL p.r t p.c ≠ [] → ∀ a, D2 = some a → w.heap.size ≤ a.block) ∧ (tnL p.r t p.f ≠ [] → ∀ a, D3 = some a → w.heap.size ≤ a.block)) ∧ Gr w w' := by
  refine (Quarter_any p.rA p.cA p.fA none p.rc p.cc p.fc 0 (pcF p) t w (patW_pc hp) ht (by simp [pcF])).mono ?_
  intro e w' h
  obtain ⟨hE, hP⟩ := g.qt t
  rw [hE, hP] at h
  obtain ⟨D1, D2, D3, D4, q1, q2, q3, q4, he, hw, hf, gg⟩ := h
  exact ⟨D1, D2, D3, D4, q1, q2, q3, q4, he, ⟨hw.r, hw.c, hw.f⟩, ⟨hf.1, hf.2.1, hf.2.2.1⟩, gg⟩
end RG
end Go.Proofs.YtddhaiaapomdjaaGreat
set_option linter.unusedVariables false
set_option linter.unusedSimpArgs false
namespace Go.Proofs.YtddhaiaapomdjaaGreat
set_option linter.unusedVariables false
set_option linter.unusedSimpArgs false
open Go Go.ChangeShapes Go.WideShapes Go.ChangeAt Go.RowKit Go.Deep

namespace RG
/-- all but the first block from w on are as in wb; that one may be stored over -/
structure Hd (w wb w' : World) : Prop where
  gr : Gr w w'
  sz : wb.heap.size ≤ w'.heap.size
  cell : ∀ b o, w.heap.size < b → b < wb.heap.size → w'.cell? ⟨b, o, none⟩ = wb.cell? ⟨b, o, none⟩
  fz : ∀ b o, w.heap.size < b → b < wb.heap.size → w'.frozen? ⟨b, o, none⟩ = wb.frozen? ⟨b, o, none⟩
  lt : w.heap.size < w'.heap.size
  c0 : ∀ o, o < 7 → (w'.cell? ⟨w.heap.size, o, none⟩).isSome = true
  f0 : ∀ o, w'.frozen? ⟨w.heap.size, o, none⟩ = false
theorem Hd.gr' {w wb w' w'' : World} (h : Hd w wb w') (g : Gr w' w'') : Hd w wb w'' :=
  ⟨h.gr.trans g, Nat.le_trans h.sz g.size, fun b o h1 h2 => (g.cell b o (Nat.lt_of_lt_of_le h2 h.sz)).trans (h.cell b o h1 h2), fun b o h1 h2 => (g.frozen b o (Nat.lt_of_lt_of_le h2 h.sz)).trans (h.fz b o h1 h2), Nat.lt_of_lt_of_le h.lt g.size, fun o ho => by rw [g.cell _ _ h.lt]; exact h.c0 o ho, fun o => (g.frozen _ _ h.lt).trans (h.f0 o)⟩
theorem Hd.drew {w wb w' : World} (h : Hd w wb w') : Hd w wb w'.drew := h.gr' (Gr.drew (Gr.refl _))
theorem Hd.set {w wb w' : World} (h : Hd w wb w') (o : Nat) (v : Value) : Hd w wb (w'.setCell ⟨w.heap.size, o, none⟩ v) := by
  refine ⟨Gr.setCell h.gr (Nat.le_refl _) v, by simpa using h.sz, fun b i h1 h2 => ?_, fun b i h1 h2 => ?_, by simpa using h.lt, fun i hi => ?_, fun i => ?_⟩
  · exact (World.cell?_of_block (heap_setCell_other w' ⟨w.heap.size, o, none⟩ b v (fun e => by simp at e; omega))).trans (h.cell b i h1 h2)
  · have : b ≠ w.heap.size := by omega
    simp [go_sem, h.fz b i h1 h2, this]
  · have := h.c0 i hi
    by_cases e : i = o
    · subst e
      rw [World.cell?_setCell_same' _ _ _ this]
      rfl
    · rw [show (w'.setCell ⟨w.heap.size, o, none⟩ v).cell? ⟨w.heap.size, i, none⟩ = w'.cell? ⟨w.heap.size, i, none⟩ by simp [go_sem, e]]
      exact this
  · simp [go_sem, h.f0 i]
theorem Hd.slr {w wb w' : World} {D : Option Addr} {q : Nat} {l : List Rc} (h : Hd w wb w') (hs : SlR wb D q l) (hf : l ≠ [] → ∀ a, D = some a → w.heap.size < a.block) : SlR w' D q l :=
  slr_keep hs fun hl x hx o => h.cell _ _ (hf hl x hx) (slr_lt hs hl x hx)
/-- moved at these lists, while the first block may be stored over -/
structure Mvh (w wb : World) (pi sh x y t : Int) (A : Option Addr) (m c : Nat) (G : List Rc) : Prop where
  use : ∀ w', Hd w wb w' → Calls Tryz.prog 107 #[.slice A m c, atv pi sh x y t] w' fun e w'' => ∃ (D : Option Addr) (q : Nat), e = .returned (.slice D G.length q) ∧ SlR w'' D q G ∧ (∀ a, D = some a → w'.heap.size ≤ a.block) ∧ Gr w' w''
theorem mvh_at {w wb : World} {pi sh x y t : Int} {A : Option Addr} {m c : Nat} {G : List Rc} (h : Mvh w wb pi sh x y t A m c G) (w' : World) (g : Hd w wb w') : Calls Tryz.prog 107 #[.slice A m c, atv pi sh x y t] w' fun e w'' => ∃ (D : Option Addr) (q : Nat), e = .returned (.slice D G.length q) ∧ SlR w'' D q G ∧ (∀ a, D = some a → w'.heap.size ≤ a.block) ∧ Gr w' w'' := h.use w' g
theorem mvh_of {w wb : World} {A : Option Addr} {c : Nat} {l : List Rc} (pi sh x y t : Int) (h : SlR wb A c l) (hf : l ≠ [] → ∀ a, A = some a → w.heap.size < a.block) (hv : ∀ r ∈ l, vrR r = true) (hx : -1048576 ≤ x ∧ x ≤ 1048576) (hy : -1048576 ≤ y ∧ y ≤ 1048576) (hn : l.length ≤ 1000) : Mvh w wb pi sh x y t A l.length c (l.map (mvR x y)) :=
  ⟨fun w' g => (moved_any A c l pi sh x y t w' (g.slr h hf) hv hx hy hn).mono fun e w'' ⟨D, q, he, hO, gg⟩ => ⟨D, q, by rw [List.length_map]; exact he, own_slr hO, fun a ha => (own_new hO a ha).1, gg⟩⟩
/-- what the region reads and stores over -/
def FaP (w : World) (B : Nat) (pi sh x y t : Int) (u0 u1 u2 : Value) (w' : World) : Prop :=
  (w'.cell? ⟨w.heap.size + 1, 0, none⟩ = some (iv pi) ∧ w'.cell? ⟨w.heap.size + 1, 1, none⟩ = some (iv sh) ∧ w'.cell? ⟨w.heap.size + 1, 2, none⟩ = some (iv x) ∧ w'.cell? ⟨w.heap.size + 1, 3, none⟩ = some (iv y) ∧ w'.cell? ⟨w.heap.size + 1, 4, none⟩ = some (iv t)) ∧
  (w'.cell? ⟨B, 0, none⟩ = some u0 ∧ w'.cell? ⟨B, 1, none⟩ = some u1 ∧ w'.cell? ⟨B, 2, none⟩ = some u2) ∧ w.heap.size < w'.heap.size
theorem fa_of {w wb w' : World} {B : Nat} {pi sh x y t : Int} {u0 u1 u2 : Value} (h : Hd w wb w') (k : FaP w B pi sh x y t u0 u1 u2 wb) (h1 : w.heap.size + 1 < wb.heap.size) (h2 : w.heap.size < B) (h3 : B < wb.heap.size) : FaP w B pi sh x y t u0 u1 u2 w' := by
  obtain ⟨⟨a0, a1, a2, a3, a4⟩, ⟨b0, b1, b2⟩, _⟩ := k
  have hc := fun o => h.cell (w.heap.size + 1) o (Nat.lt_succ_self _) h1
  have hb := fun o => h.cell B o h2 h3
  exact ⟨⟨(hc 0).trans a0, (hc 1).trans a1, (hc 2).trans a2, (hc 3).trans a3, (hc 4).trans a4⟩, ⟨(hb 0).trans b0, (hb 1).trans b1, (hb 2).trans b2⟩, h.lt⟩
end RG
end Go.Proofs.YtddhaiaapomdjaaGreat
set_option linter.unusedVariables false
set_option linter.unusedSimpArgs false
namespace Go.Proofs.YtddhaiaapomdjaaGreat
set_option linter.unusedVariables false
set_option linter.unusedSimpArgs false
open Go Go.ChangeShapes Go.WideShapes Go.ChangeAt Go.RowKit Go.Deep

namespace RG
/-- what is put where nothing is refused -/
def PutOk (nm mt : ByteArray) (ga gr : Int) (M1 M2 M3 : List Rc) (w w' : World) (e : Ending) : Prop := ∃ (D1 D2 D3 : Option Addr) (q1 q2 q3 : Nat), e = .returned (sle (pcvv nm mt ga gr (.slice D1 M1.length q1) (.slice D2 M2.length q2) (.slice D3 M3.length q3)) 0) ∧ (SlR w' D1 q1 M1 ∧ SlR w' D2 q2 M2 ∧ SlR w' D3 q3 M3) ∧ ((M1 ≠ [] → ∀ a, D1 = some a → w.heap.size ≤ a.block) ∧ (M2 ≠ [] → ∀ a, D2 = some a → w.heap.size ≤ a.block) ∧ (M3 ≠ [] → ∀ a, D3 = some a → w.heap.size ≤ a.block)) ∧ Gr w w'
def PutR (nm mt : ByteArray) (ga gr : Int) (M1 M2 M3 : List Rc) (w w' : World) (e : Ending) : Prop := if (vaB M1 && (vaB M2 && vaB M3)) = true then PutOk nm mt ga gr M1 M2 M3 w w' e else (e = .returned (sle noPcV 4) ∧ Gr w w')
theorem slr_far {w : World} {D : Option Addr} {q C i : Nat} {l : List Rc} {v : Value} (h : SlR w D q l) (hf : l ≠ [] → ∀ a, D = some a → a.block ≠ C) : SlR (w.setCell ⟨C, i, none⟩ v) D q l :=
  slr_keep h fun hl x hx o => World.cell?_of_block (heap_setCell_other w ⟨C, i, none⟩ x.block v (fun e => hf hl x hx (by simpa using e)))
set_option maxHeartbeats 16000000 in
set_option maxRecDepth 100000 in
theorem Put_ok (p : Pc) (b : Bool) (pi sh x y : Int) (t : Nat) (w : World) (hp : PcW w p) (hb : CoB p.r b) (h0 : vpE p b = 0) (ht : t ≤ 3) (hx : -1048576 ≤ x ∧ x ≤ 1048576) (hy : -1048576 ≤ y ∧ y ≤ 1048576) :
    Calls Tryz.prog 67 #[p.v, atv pi sh x y t] w fun e w' => PutR p.nm p.mt p.ga p.gr ((tnL p.r t p.r).map (mvR x y)) ((tnL p.r t p.c).map (mvR x y)) ((tnL p.r t p.f).map (mvR x y)) w w' e := by
  have HV := hide (fun (w' : World) (g : Gr w w') => ValidatePiece_any p b w' (hp.gr g) hb)
  have HQ := hide (fun (w' : World) (g : Gr w w') => quarter_pc p t w' (hp.gr g) (vpE_good h0).1 ht)
  rw [h0] at HV
  have HVA := hide ((vpE_good h0).1.va t)
  have HLN := hide (show (tnL p.r t p.r).length ≤ 1000 ∧ (tnL p.r t p.c).length ≤ 1000 ∧ (tnL p.r t p.f).length ≤ 1000 by
    have g := (vpE_good h0).1
    have n1 := g.n1; have n2 := g.n2; have n3 := g.n3
    unfold tnL
    simp only [List.length_map]
    omega)
  obtain ⟨nm, mt, ga, gr, rA, rc, r, cA, cc, c, fA, fc, f⟩ := p
  dsimp only at HQ HVA HLN ⊢
  generalize tnL r t r = G1 at *
  generalize tnL r t c = G2 at *
  generalize tnL r t f = G3 at *
  clear hp hb h0 ht
  have HWX := hide (show wiB x (-1048576) 1048576 = true by rw [wiB_iff]; exact hx)
  have HWY := hide (show wiB y (-1048576) 1048576 = true by rw [wiB_iff]; exact hy)
  have HX := hide (And.intro hx hy)
  clear hx hy
  obtain ⟨w0, hw0⟩ : ∃ w0, ((w.alloc (.cells #[.string nm, .string mt, iv ga, iv gr, .slice rA r.length rc, .slice cA c.length cc, .slice fA f.length fc] 27)).alloc (.cells #[iv pi, iv sh, iv x, iv y, iv t] 33)).alloc (.cells #[.string ⟨#[]⟩, .string ⟨#[]⟩, iv 0, iv 0, .slice none 0 0, .slice none 0 0, .slice none 0 0] 27) = w0 := ⟨_, rfl⟩
  have gw0 : Gr w w0 := by rw [← hw0]; exact Gr.alloc (Gr.alloc (Gr.alloc (Gr.refl _) _) _) _
  have s0 : w.heap.size + 2 < w0.heap.size := by rw [← hw0]; simp
  have k0 : w0.cell? ⟨w.heap.size, 0, none⟩ = some (.string nm) ∧ w0.cell? ⟨w.heap.size, 1, none⟩ = some (.string mt) ∧ w0.cell? ⟨w.heap.size, 2, none⟩ = some (iv ga) ∧ w0.cell? ⟨w.heap.size, 3, none⟩ = some (iv gr) ∧ w0.cell? ⟨w.heap.size, 4, none⟩ = some (.slice rA r.length rc) ∧ w0.cell? ⟨w.heap.size, 5, none⟩ = some (.slice cA c.length cc) ∧ w0.cell? ⟨w.heap.size, 6, none⟩ = some (.slice fA f.length fc) := by rw [← hw0]; simp [go_sem]
  have k1 : w0.cell? ⟨w.heap.size + 1, 0, none⟩ = some (iv pi) ∧ w0.cell? ⟨w.heap.size + 1, 1, none⟩ = some (iv sh) ∧ w0.cell? ⟨w.heap.size + 1, 2, none⟩ = some (iv x) ∧ w0.cell? ⟨w.heap.size + 1, 3, none⟩ = some (iv y) ∧ w0.cell? ⟨w.heap.size + 1, 4, none⟩ = some (iv t) := by rw [← hw0]; simp [go_sem]
  have kf : (∀ o, w0.frozen? ⟨w.heap.size, o, none⟩ = false) ∧ ∀ o, w0.frozen? ⟨w.heap.size + 1 + 1, o, none⟩ = false := by rw [← hw0]; simp [go_sem]
  have k2 : w0.cell? ⟨w.heap.size + 1 + 1, 0, none⟩ = some (.string ⟨#[]⟩) ∧ w0.cell? ⟨w.heap.size + 1 + 1, 1, none⟩ = some (.string ⟨#[]⟩) ∧ w0.cell? ⟨w.heap.size + 1 + 1, 2, none⟩ = some (iv 0) ∧ w0.cell? ⟨w.heap.size + 1 + 1, 3, none⟩ = some (iv 0) ∧ w0.cell? ⟨w.heap.size + 1 + 1, 4, none⟩ = some (.slice none 0 0) ∧ w0.cell? ⟨w.heap.size + 1 + 1, 5, none⟩ = some (.slice none 0 0) ∧ w0.cell? ⟨w.heap.size + 1 + 1, 6, none⟩ = some (.slice none 0 0) := by rw [← hw0]; simp [go_sem]
  have HK0 := hide k0
  have HK1 := hide k1
  have HK2 := hide k2
  have HKF := hide kf
  obtain ⟨k00, k01, k02, k03, k04, k05, k06⟩ := k0
  obtain ⟨k10, k11, k12, k13, k14⟩ := k1
  clear k2 kf
  go_enter Tryz.func67, Tryz.ntmps67
  go_upto_region 1 with fail
  clear hw0
  go_wp2_with fail
  refine (HV.out _ gw0).mono ?_
  rintro e w1 ⟨rfl, g1⟩
  have z1 := g1.size
  have e04 : w1.cell? ⟨w.heap.size, 4, none⟩ = some (.slice rA r.length rc) := (g1.cell _ _ (by omega)).trans k04
  have e05 : w1.cell? ⟨w.heap.size, 5, none⟩ = some (.slice cA c.length cc) := (g1.cell _ _ (by omega)).trans k05
  have e06 : w1.cell? ⟨w.heap.size, 6, none⟩ = some (.slice fA f.length fc) := (g1.cell _ _ (by omega)).trans k06
  have e14 : w1.cell? ⟨w.heap.size + 1, 4, none⟩ = some (iv t) := (g1.cell _ _ (by omega)).trans k14
  have l0 : w.heap.size < w1.heap.size := by omega
  have l1 : w.heap.size + 1 < w1.heap.size := by omega
  clear k00 k01 k02 k03 k04 k05 k06 k10 k11 k12 k13 k14
  go_wp2_with fail
  refine (HQ.out _ (gw0.trans g1)).mono ?_
  rintro e w2 ⟨D1, D2, D3, D4, q1, q2, q3, q4, rfl, ⟨hs1, hs2, hs3⟩, ⟨hf1, hf2, hf3⟩, g2⟩
  have g12 := g1.trans g2
  have z2 := g12.size
  have e12 : w2.cell? ⟨w.heap.size + 1, 2, none⟩ = some (iv x) := (g12.cell _ _ (by omega)).trans HK1.out.2.2.1
  have e13 : w2.cell? ⟨w.heap.size + 1, 3, none⟩ = some (iv y) := (g12.cell _ _ (by omega)).trans HK1.out.2.2.2.1
  have l2 : w.heap.size + 1 < w2.heap.size := by omega
  clear e04 e05 e06 e14 l0 l1
  have hwx := HWX.out
  have hwy := HWY.out
  go_upto_region 9 with (go_at_call 60; refine (nwithin_any _ _ _ _).mono ?_; rintro e w1 ⟨rfl, rfl⟩)
  clear hwx hwy e12 e13
  obtain ⟨M1, hM1⟩ : ∃ M, G1.map (mvR x y) = M := ⟨_, rfl⟩
  obtain ⟨M2, hM2⟩ : ∃ M, G2.map (mvR x y) = M := ⟨_, rfl⟩
  obtain ⟨M3, hM3⟩ : ∃ M, G3.map (mvR x y) = M := ⟨_, rfl⟩
  have gb : Gr w2 (w2.alloc (.cells #[.slice D1 G1.length q1, .slice D2 G2.length q2, .slice D3 G3.length q3, .slice D4 0 q4] 86)) := Gr.alloc (Gr.refl _) _
  have zb := hide (show (w2.alloc (.cells #[.slice D1 G1.length q1, .slice D2 G2.length q2, .slice D3 G3.length q3, .slice D4 0 q4] 86)).heap.size = w2.heap.size + 1 by simp)
  have kb : (w2.alloc (.cells #[.slice D1 G1.length q1, .slice D2 G2.length q2, .slice D3 G3.length q3, .slice D4 0 q4] 86)).cell? ⟨w2.heap.size, 0, none⟩ = some (.slice D1 G1.length q1) ∧ (w2.alloc (.cells #[.slice D1 G1.length q1, .slice D2 G2.length q2, .slice D3 G3.length q3, .slice D4 0 q4] 86)).cell? ⟨w2.heap.size, 1, none⟩ = some (.slice D2 G2.length q2) ∧ (w2.alloc (.cells #[.slice D1 G1.length q1, .slice D2 G2.length q2, .slice D3 G3.length q3, .slice D4 0 q4] 86)).cell? ⟨w2.heap.size, 2, none⟩ = some (.slice D3 G3.length q3) := by simp [go_sem]
  obtain ⟨B, hB⟩ : ∃ B, w2.heap.size = B := ⟨_, rfl⟩
  have HB := hide hB
  rw [hB] at kb zb ⊢
  have g1b := g12.trans gb
  have rb1 := hs1.gr gb
  have rb2 := hs2.gr gb
  have rb3 := hs3.gr gb
  generalize w2.alloc (.cells #[.slice D1 G1.length q1, .slice D2 G2.length q2, .slice D3 G3.length q3, .slice D4 0 q4] 86) = wb at *
  have lB : w.heap.size + 1 + 1 < B := by omega
  have lb1 : B < wb.heap.size := by have := zb.out; omega
  have hf' : ∀ a : Addr, w1.heap.size ≤ a.block → w.heap.size < a.block := fun a h => by omega
  have m1 : Mvh w wb pi sh x y t D1 G1.length q1 M1 := by rw [← hM1]; exact mvh_of pi sh x y t rb1 (fun h a ha => hf' a (hf1 h a ha)) (vaB_iff.1 HVA.out.1) HX.out.1 HX.out.2 HLN.out.1
  have m2 : Mvh w wb pi sh x y t D2 G2.length q2 M2 := by rw [← hM2]; exact mvh_of pi sh x y t rb2 (fun h a ha => hf' a (hf2 h a ha)) (vaB_iff.1 HVA.out.2.1) HX.out.1 HX.out.2 HLN.out.2.1
  have m3 : Mvh w wb pi sh x y t D3 G3.length q3 M3 := by rw [← hM3]; exact mvh_of pi sh x y t rb3 (fun h a ha => hf' a (hf3 h a ha)) (vaB_iff.1 HVA.out.2.2) HX.out.1 HX.out.2 HLN.out.2.2
  have c0b := hide (show (wb.cell? ⟨w.heap.size, 0, none⟩ = some (.string nm) ∧ wb.cell? ⟨w.heap.size, 1, none⟩ = some (.string mt) ∧ wb.cell? ⟨w.heap.size, 2, none⟩ = some (iv ga) ∧ wb.cell? ⟨w.heap.size, 3, none⟩ = some (iv gr)) ∧ (wb.cell? ⟨w.heap.size, 4, none⟩ = some (.slice rA r.length rc) ∧ wb.cell? ⟨w.heap.size, 5, none⟩ = some (.slice cA c.length cc) ∧ wb.cell? ⟨w.heap.size, 6, none⟩ = some (.slice fA f.length fc)) from by
    obtain ⟨a0, a1, a2, a3, a4, a5, a6⟩ := HK0.out
    have h := fun o => g1b.cell w.heap.size o (by omega)
    exact ⟨⟨(h 0).trans a0, (h 1).trans a1, (h 2).trans a2, (h 3).trans a3⟩, (h 4).trans a4, (h 5).trans a5, (h 6).trans a6⟩)
  have hd0 : Hd w wb wb := ⟨gw0.trans g1b, Nat.le_refl _, fun _ _ _ _ => rfl, fun _ _ _ _ => rfl, by omega, fun o ho => by
    obtain ⟨⟨a0, a1, a2, a3⟩, a4, a5, a6⟩ := c0b.out
    rcases (by omega : o = 0 ∨ o = 1 ∨ o = 2 ∨ o = 3 ∨ o = 4 ∨ o = 5 ∨ o = 6) with e | e | e | e | e | e | e <;> subst e <;> simp [*], fun o => (g1b.frozen _ _ (by omega)).trans (HKF.out.1 o)⟩
  have fa0 : FaP w B pi sh x y t (.slice D1 G1.length q1) (.slice D2 G2.length q2) (.slice D3 G3.length q3) wb := by
    obtain ⟨a0, a1, a2, a3, a4⟩ := HK1.out
    have h := fun o => g1b.cell (w.heap.size + 1) o (by omega)
    exact ⟨⟨(h 0).trans a0, (h 1).trans a1, (h 2).trans a2, (h 3).trans a3, (h 4).trans a4⟩, kb, hd0.lt⟩
  have HFA := hide fa0
  have lB1 : w.heap.size + 1 < wb.heap.size := by omega
  have lB0 : w.heap.size < B := by omega
  have hne1 : B ≠ w.heap.size := by omega
  have hne2 : w.heap.size ≠ B := by omega
  have HE1 := hide hM1
  have HE2 := hide hM2
  have HE3 := hide hM3
  have HZZ := hide (And.intro g1b gw0)
  have HZS := hide s0
  clear hM1 hM2 hM3 hs1 hs2 hs3 hf1 hf2 hf3 rb1 rb2 rb3 hf' kb hB g1 g2 g12 gb g1b gw0 z1 z2 l2 s0
  go_cut [] from 43 to 57 (fun wx => ∃ (E1 E2 E3 : Option Addr) (p1 p2 p3 : Nat), Hd w wb wx ∧ SlK (w.heap.size + 1 + 1 + 1) wx.heap.size w.heap.size wx E1 p1 M1 ∧ SlK (w.heap.size + 1 + 1 + 1) wx.heap.size w.heap.size wx E2 p2 M2 ∧ SlK (w.heap.size + 1 + 1 + 1) wx.heap.size w.heap.size wx E3 p3 M3 ∧ ((wx.cell? ⟨w.heap.size, 0, none⟩ = some (.string nm) ∧ wx.cell? ⟨w.heap.size, 1, none⟩ = some (.string mt) ∧ wx.cell? ⟨w.heap.size, 2, none⟩ = some (iv ga) ∧ wx.cell? ⟨w.heap.size, 3, none⟩ = some (iv gr)) ∧ (wx.cell? ⟨w.heap.size, 4, none⟩ = some (.slice E1 M1.length p1) ∧ wx.cell? ⟨w.heap.size, 5, none⟩ = some (.slice E2 M2.length p2) ∧ wx.cell? ⟨w.heap.size, 6, none⟩ = some (.slice E3 M3.length p3))))
  case first =>
    obtain ⟨-, e4, e5, e6⟩ := c0b.out
    have v4 := hd0.f0 4
    have v5 := hd0.f0 5
    have v6 := hd0.f0 6
    go_region_held3 (fun w' => Hd w wb w' ∧ ((w'.cell? ⟨w.heap.size + 1, 0, none⟩ = some (iv pi) ∧ w'.cell? ⟨w.heap.size + 1, 1, none⟩ = some (iv sh) ∧ w'.cell? ⟨w.heap.size + 1, 2, none⟩ = some (iv x) ∧ w'.cell? ⟨w.heap.size + 1, 3, none⟩ = some (iv y) ∧ w'.cell? ⟨w.heap.size + 1, 4, none⟩ = some (iv t)) ∧ (w'.cell? ⟨B, 0, none⟩ = some (.slice D1 G1.length q1) ∧ w'.cell? ⟨B, 1, none⟩ = some (.slice D2 G2.length q2) ∧ w'.cell? ⟨B, 2, none⟩ = some (.slice D3 G3.length q3)) ∧ w.heap.size < w'.heap.size)) (((refine And.intro ?_ (fa_of ?_ HFA.out lB1 lB0 lb1)) <;> (repeat (first | with_reducible assumption | exact (And.left (by with_reducible assumption)) | with_reducible refine Hd.drew ?_ | with_reducible refine Hd.set ?_ _ _ | with_reducible refine Hd.gr' ?_ (by with_reducible assumption))); done)) (first | (go_at_call 107; refine (mvh_at (by with_reducible assumption) _ (by (repeat (first | with_reducible assumption | exact (And.left (by with_reducible assumption)) | with_reducible refine Hd.drew ?_ | with_reducible refine Hd.set ?_ _ _ | with_reducible refine Hd.gr' ?_ (by with_reducible assumption))))).mono ?_; rintro e w6 ⟨D5, q5, rfl, hs5, hf5, g5⟩; obtain ⟨X5, Y5, c5, f5⟩ := g5.use; obtain ⟨w5, rfl⟩ : ∃ w5, w5 = w6 := ⟨_, rfl⟩; (have z5 := g5.size); (try simp only [World.size_alloc, World.size_setCell, World.size_drew, World.heap_drewN, Nat.add_one_le_iff] at z5 hf5)))
    all_goals
      go_wp2_with fail
      go_meet
      refine ⟨_, _, _, _, _, _, ?_, slk_of (lo' := w.heap.size + 1 + 1 + 1) (by with_reducible assumption) (by with_reducible assumption) ?_ ?_ ?_ ?_, slk_of (lo' := w.heap.size + 1 + 1 + 1) (by with_reducible assumption) (by with_reducible assumption) ?_ ?_ ?_ ?_, slk_of (lo' := w.heap.size + 1 + 1 + 1) (by with_reducible assumption) (by with_reducible assumption) ?_ ?_ ?_ ?_, ?_⟩
      · (repeat (first | with_reducible exact hd0 | with_reducible refine Hd.drew ?_ | with_reducible refine Hd.set ?_ _ _ | with_reducible refine Hd.gr' ?_ (by with_reducible assumption)))
      · (repeat (first | with_reducible exact Kp.refl _ | with_reducible refine Kp.alloc ?_ (by (first | omega | (simp only [World.size_alloc, World.size_setCell, World.size_drew, World.heap_drewN]; omega))) _ | with_reducible refine Kp.drew ?_ | with_reducible refine Kp.setCell ?_ (by (first | omega | (simp only [World.size_alloc, World.size_setCell, World.size_drew, World.heap_drewN]; omega))) _ | with_reducible refine Kp.gr ?_ (by with_reducible assumption) (by (first | omega | (simp only [World.size_alloc, World.size_setCell, World.size_drew, World.heap_drewN]; omega)))))
      · (first | omega | (simp only [World.size_alloc, World.size_setCell, World.size_drew, World.heap_drewN]; omega))
      · (first | omega | (simp only [World.size_alloc, World.size_setCell, World.size_drew, World.heap_drewN]; omega))
      · (first | omega | (simp only [World.size_alloc, World.size_setCell, World.size_drew, World.heap_drewN]; omega))
      · (repeat (first | with_reducible exact Kp.refl _ | with_reducible refine Kp.alloc ?_ (by (first | omega | (simp only [World.size_alloc, World.size_setCell, World.size_drew, World.heap_drewN]; omega))) _ | with_reducible refine Kp.drew ?_ | with_reducible refine Kp.setCell ?_ (by (first | omega | (simp only [World.size_alloc, World.size_setCell, World.size_drew, World.heap_drewN]; omega))) _ | with_reducible refine Kp.gr ?_ (by with_reducible assumption) (by (first | omega | (simp only [World.size_alloc, World.size_setCell, World.size_drew, World.heap_drewN]; omega)))))
      · (first | omega | (simp only [World.size_alloc, World.size_setCell, World.size_drew, World.heap_drewN]; omega))
      · (first | omega | (simp only [World.size_alloc, World.size_setCell, World.size_drew, World.heap_drewN]; omega))
      · (first | omega | (simp only [World.size_alloc, World.size_setCell, World.size_drew, World.heap_drewN]; omega))
      · (repeat (first | with_reducible exact Kp.refl _ | with_reducible refine Kp.alloc ?_ (by (first | omega | (simp only [World.size_alloc, World.size_setCell, World.size_drew, World.heap_drewN]; omega))) _ | with_reducible refine Kp.drew ?_ | with_reducible refine Kp.setCell ?_ (by (first | omega | (simp only [World.size_alloc, World.size_setCell, World.size_drew, World.heap_drewN]; omega))) _ | with_reducible refine Kp.gr ?_ (by with_reducible assumption) (by (first | omega | (simp only [World.size_alloc, World.size_setCell, World.size_drew, World.heap_drewN]; omega)))))
      · (first | omega | (simp only [World.size_alloc, World.size_setCell, World.size_drew, World.heap_drewN]; omega))
      · (first | omega | (simp only [World.size_alloc, World.size_setCell, World.size_drew, World.heap_drewN]; omega))
      · (first | omega | (simp only [World.size_alloc, World.size_setCell, World.size_drew, World.heap_drewN]; omega))
      · obtain ⟨⟨a0, a1, a2, a3⟩, -⟩ := c0b.out
        simp [go_sem, *]
  case rest =>
    obtain ⟨E1, E2, E3, p1, p2, p3, hd, hk1, hk2, hk3, ⟨a0, a1, a2, a3⟩, a4, a5, a6⟩ := hcut
    have HH := hide hd
    have HS1 := hide hk1
    have HS2 := hide hk2
    have HS3 := hide hk3
    have lw := hd.lt
    have HRR := slRR_3n 22 hk1.sl hk2.sl hk3.sl
    have HVR := hide (validRects_any _ 3 _ _ HRR)
    rw [show vasB [⟨E1, p1, M1⟩, ⟨E2, p2, M2⟩, ⟨E3, p3, M3⟩] = (vaB M1 && (vaB M2 && vaB M3)) by simp [vasB], show ([⟨E1, p1, M1⟩, ⟨E2, p2, M2⟩, ⟨E3, p3, M3⟩] : List RS).length = 3 from rfl] at HVR
    have kz := hide (show ((wc.cell? ⟨w.heap.size + 1 + 1, 0, none⟩ = some (.string ⟨#[]⟩) ∧ wc.cell? ⟨w.heap.size + 1 + 1, 1, none⟩ = some (.string ⟨#[]⟩) ∧ wc.cell? ⟨w.heap.size + 1 + 1, 2, none⟩ = some (iv 0) ∧ wc.cell? ⟨w.heap.size + 1 + 1, 3, none⟩ = some (iv 0) ∧ wc.cell? ⟨w.heap.size + 1 + 1, 4, none⟩ = some (.slice none 0 0) ∧ wc.cell? ⟨w.heap.size + 1 + 1, 5, none⟩ = some (.slice none 0 0) ∧ wc.cell? ⟨w.heap.size + 1 + 1, 6, none⟩ = some (.slice none 0 0)) ∧ ∀ o, wc.frozen? ⟨w.heap.size + 1 + 1, o, none⟩ = false) from by
      obtain ⟨b0, b1, b2, b3, b4, b5, b6⟩ := HK2.out
      have h1 := HZZ.out.1.size
      have h := fun o => (hd.cell (w.heap.size + 1 + 1) o (by omega) (by omega)).trans (HZZ.out.1.cell (w.heap.size + 1 + 1) o (by have := HZS.out; omega))
      exact ⟨⟨(h 0).trans b0, (h 1).trans b1, (h 2).trans b2, (h 3).trans b3, (h 4).trans b4, (h 5).trans b5, (h 6).trans b6⟩, fun o => (hd.fz (w.heap.size + 1 + 1) o (by omega) (by omega)).trans ((HZZ.out.1.frozen _ _ (by have := HZS.out; omega)).trans (HKF.out.2 o))⟩)
    have lz : w.heap.size + 1 + 1 < wc.heap.size := by have := hd.sz; omega
    have gc := hd.gr
    have HG := hide gc
    cases hv : (vaB M1 && (vaB M2 && vaB M3)) with
    | false =>
      rw [hv] at HVR
      have HQR := hide (show ∀ e w', (e = .returned (sle noPcV 4) ∧ Gr w w') → PutR nm mt ga gr (G1.map (mvR x y)) (G2.map (mvR x y)) (G3.map (mvR x y)) w w' e from fun e w' h => by unfold PutR; rw [HE1.out, HE2.out, HE3.out, hv]; exact h)
      clear hv hk1 hk2 hk3 hd HRR
      obtain ⟨⟨b0, b1, b2, b3, b4, b5, b6⟩, bf⟩ := kz.out
      go_wp2_with (first | (go_at_call 61; refine (HVR.out).mono ?_; rintro e w1 ⟨rfl, g1⟩; obtain ⟨X1, Y1, c1, f1⟩ := g1.use; have z1 := g1.size; (try simp only [World.size_alloc, World.size_setCell, World.heap_drewN, Nat.add_one_le_iff] at z1); (try have l0 : w.heap.size < w1.heap.size := by omega); (try have l1 : w.heap.size + 1 < w1.heap.size := by omega); (try have l2 : w.heap.size + 1 + 1 < w1.heap.size := by omega)))
      refine bodyPost_ret (v := sle noPcV 4) (by simp [results, Tryz.results67, go_sem, *]) rfl (HQR.out _ _ ⟨rfl, ?_⟩)
      exact (by with_reducible repeat (first | exact Gr.refl _ | assumption | refine Gr.alloc ?_ _ | refine Gr.drewN ?_ _ | refine Gr.drew ?_ | refine Gr.setCell ?_ (by first | (dsimp only; omega) | (simp only [World.size_alloc]; omega) | (refine Gr.size ?_; (repeat (first | exact Gr.refl _ | assumption | refine Gr.alloc ?_ _ | refine Gr.drewN ?_ _ | refine Gr.drew ?_ | refine Gr.trans ?_ (by assumption))); done)) _ | refine Gr.trans ?_ (by assumption)))
    | true =>
      rw [hv] at HVR
      have HQR := hide (show ∀ e w', PutOk nm mt ga gr M1 M2 M3 w w' e → PutR nm mt ga gr (G1.map (mvR x y)) (G2.map (mvR x y)) (G3.map (mvR x y)) w w' e from fun e w' h => by unfold PutR; rw [HE1.out, HE2.out, HE3.out, hv]; exact h)
      clear hv hk1 hk2 hk3 hd HRR
      obtain ⟨⟨b0, b1, b2, b3, b4, b5, b6⟩, bf⟩ := kz.out
      go_wp2_with (first | (go_at_call 61; refine (HVR.out).mono ?_; rintro e w1 ⟨rfl, g1⟩; obtain ⟨X1, Y1, c1, f1⟩ := g1.use; have z1 := g1.size; (try simp only [World.size_alloc, World.size_setCell, World.heap_drewN, Nat.add_one_le_iff] at z1); (try have l0 : w.heap.size < w1.heap.size := by omega); (try have l1 : w.heap.size + 1 < w1.heap.size := by omega); (try have l2 : w.heap.size + 1 + 1 < w1.heap.size := by omega)))
      refine bodyPost_ret (v := sle (pcvv nm mt ga gr (.slice E1 M1.length p1) (.slice E2 M2.length p2) (.slice E3 M3.length p3)) 0) (by simp [results, Tryz.results67, go_sem, *]) rfl (HQR.out _ _ ⟨E1, E2, E3, p1, p2, p3, rfl, ⟨?_, ?_, ?_⟩, ⟨fun h a ha => ?_, fun h a ha => ?_, fun h a ha => ?_⟩, ?_⟩)
      · repeat (with_reducible refine slr_far ?_ (fun h a ha => by have := (HS1.out.far h a ha).1; omega))
        exact HS1.out.sl.gr (by with_reducible repeat (first | exact Gr.refl _ | assumption | refine Gr.alloc ?_ _ | refine Gr.drewN ?_ _ | refine Gr.drew ?_ | refine Gr.setCell ?_ (by first | (dsimp only; omega) | (simp only [World.size_alloc]; omega) | (refine Gr.size ?_; (repeat (first | exact Gr.refl _ | assumption | refine Gr.alloc ?_ _ | refine Gr.drewN ?_ _ | refine Gr.drew ?_ | refine Gr.trans ?_ (by assumption))); done)) _ | refine Gr.trans ?_ (by assumption)))
      · repeat (with_reducible refine slr_far ?_ (fun h a ha => by have := (HS2.out.far h a ha).1; omega))
        exact HS2.out.sl.gr (by with_reducible repeat (first | exact Gr.refl _ | assumption | refine Gr.alloc ?_ _ | refine Gr.drewN ?_ _ | refine Gr.drew ?_ | refine Gr.setCell ?_ (by first | (dsimp only; omega) | (simp only [World.size_alloc]; omega) | (refine Gr.size ?_; (repeat (first | exact Gr.refl _ | assumption | refine Gr.alloc ?_ _ | refine Gr.drewN ?_ _ | refine Gr.drew ?_ | refine Gr.trans ?_ (by assumption))); done)) _ | refine Gr.trans ?_ (by assumption)))
      · repeat (with_reducible refine slr_far ?_ (fun h a ha => by have := (HS3.out.far h a ha).1; omega))
        exact HS3.out.sl.gr (by with_reducible repeat (first | exact Gr.refl _ | assumption | refine Gr.alloc ?_ _ | refine Gr.drewN ?_ _ | refine Gr.drew ?_ | refine Gr.setCell ?_ (by first | (dsimp only; omega) | (simp only [World.size_alloc]; omega) | (refine Gr.size ?_; (repeat (first | exact Gr.refl _ | assumption | refine Gr.alloc ?_ _ | refine Gr.drewN ?_ _ | refine Gr.drew ?_ | refine Gr.trans ?_ (by assumption))); done)) _ | refine Gr.trans ?_ (by assumption)))
      · have := (HS1.out.far h a ha).1; omega
      · have := (HS2.out.far h a ha).1; omega
      · have := (HS3.out.far h a ha).1; omega
      · exact (by with_reducible repeat (first | exact Gr.refl _ | assumption | refine Gr.alloc ?_ _ | refine Gr.drewN ?_ _ | refine Gr.drew ?_ | refine Gr.setCell ?_ (by first | (dsimp only; omega) | (simp only [World.size_alloc]; omega) | (refine Gr.size ?_; (repeat (first | exact Gr.refl _ | assumption | refine Gr.alloc ?_ _ | refine Gr.drewN ?_ _ | refine Gr.drew ?_ | refine Gr.trans ?_ (by assumption))); done)) _ | refine Gr.trans ?_ (by assumption)))
end RG
end Go.Proofs.YtddhaiaapomdjaaGreat
