/-
  Nests, plain: a valid piece that is turned is a valid piece; turns of a piece add up.
  Nests: lists of rectangles, and pieces, that are the same, by the reference.
  Nests: the law NestTurns.
-/
import Derived.Test.YtocbcbfniiioaaaGreatGJ
set_option linter.unusedVariables false
set_option linter.unusedSimpArgs false
namespace Go.Proofs.YtocbcbfniiioaaaGreat
set_option linter.unusedVariables false
set_option linter.unusedSimpArgs false
open Go Go.ChangeShapes Go.WideShapes Go.ChangeAt Go.RowKit Go.Deep

namespace RG
theorem pr_tn {p : Rc → Rc → Prop} (h1 : ∀ r s, p (R1 r) (R1 s) ↔ p r s) (h2 : ∀ u v r s, p (Sh u v r) (Sh u v s) ↔ p r s) (rs : List Rc) (r s : Rc) (k : Nat) : p (tnR rs k r) (tnR rs k s) ↔ p r s := by
  unfold tnR
  rw [h2]
  induction k with
  | zero => exact Iff.rfl
  | succ n ih => show p (R1 (RN n r)) (R1 (RN n s)) ↔ _; rw [h1, ih]
def ovP (r s : Rc) : Prop := (r.x < s.x + s.w ∧ s.x < r.x + r.w) ∧ r.y < s.y + s.h ∧ s.y < r.y + r.h
def toP (r s : Rc) : Prop := (s.x ≤ r.x + r.w ∧ r.x ≤ s.x + s.w) ∧ s.y ≤ r.y + r.h ∧ r.y ≤ s.y + s.h
def stP (r s : Rc) : Prop := (s.x < r.x ∧ s.y < r.y) ∧ r.x + r.w < s.x + s.w ∧ r.y + r.h < s.y + s.h
def nbP (r s : Rc) : Prop := (bigI r.x s.x ≤ lesI (r.x + r.w) (s.x + s.w) ∧ bigI r.y s.y ≤ lesI (r.y + r.h) (s.y + s.h)) ∧ (bigI r.x s.x < lesI (r.x + r.w) (s.x + s.w) ∨ bigI r.y s.y < lesI (r.y + r.h) (s.y + s.h))
theorem ov_tn (rs : List Rc) (r s : Rc) (k : Nat) : ovP (tnR rs k r) (tnR rs k s) ↔ ovP r s :=
  pr_tn (fun r s => by simp only [ovP, R1]; omega) (fun u v r s => by simp only [ovP, Sh]; omega) rs r s k
theorem to_tn (rs : List Rc) (r s : Rc) (k : Nat) : toP (tnR rs k r) (tnR rs k s) ↔ toP r s :=
  pr_tn (fun r s => by simp only [toP, R1]; omega) (fun u v r s => by simp only [toP, Sh]; omega) rs r s k
theorem st_tn (rs : List Rc) (r s : Rc) (k : Nat) : stP (tnR rs k r) (tnR rs k s) ↔ stP r s :=
  pr_tn (fun r s => by simp only [stP, R1]; omega) (fun u v r s => by simp only [stP, Sh]; omega) rs r s k
theorem bl_le (a b c d : Int) : bigI a b ≤ lesI c d ↔ (a ≤ c ∧ a ≤ d) ∧ b ≤ c ∧ b ≤ d := by
  unfold bigI lesI
  split <;> split <;> omega
theorem bl_lt (a b c d : Int) : bigI a b < lesI c d ↔ (a < c ∧ a < d) ∧ b < c ∧ b < d := by
  unfold bigI lesI
  split <;> split <;> omega
theorem nb_tn (rs : List Rc) (r s : Rc) (k : Nat) : nbP (tnR rs k r) (tnR rs k s) ↔ nbP r s :=
  pr_tn (fun r s => by simp only [nbP, R1, bl_le, bl_lt]; omega) (fun u v r s => by simp only [nbP, Sh, bl_le, bl_lt]; omega) rs r s k
theorem ovQ_iff {r s : Rc} (hr : vrR r = true) (hs : vrR s = true) : ovQ r s = true ↔ ovP r s := by
  have h1 : vrB r.x r.y r.w r.h = true := hr
  have h2 : vrB s.x s.y s.w s.h = true := hs
  unfold ovQ ovB ovP soB
  rw [h1, h2]
  simp only [Bool.and_eq_true, decide_eq_true_eq, true_and, Bool.true_and]
theorem toR_iff {r s : Rc} (hr : vrR r = true) (hs : vrR s = true) : toR r s = true ↔ toP r s := by
  have h1 : vrB r.x r.y r.w r.h = true := hr
  have h2 : vrB s.x s.y s.w s.h = true := hs
  unfold toR diR diV toP
  rw [h1, h2]
  simp only [Bool.and_true, if_true, beq_iff_eq]
  unfold diM poV gaV
  split <;> split <;> split <;> (try split) <;> (try split) <;> omega
theorem stB_iff {r s : Rc} (hr : vrR r = true) (hs : vrR s = true) : stB r s = true ↔ stP r s := by
  unfold stB
  rw [isR_iff]
  have a := vrR_iff.1 hr
  have b := vrR_iff.1 hs
  have a1 := a.w; have a2 := a.h; have a3 := a.x; have a4 := a.y; have a5 := a.x'; have a6 := a.y'
  have b1 := b.w; have b2 := b.h; have b3 := b.x; have b4 := b.y; have b5 := b.x'; have b6 := b.y'
  unfold stP
  dsimp only
  constructor
  · rintro ⟨_, h1, h2⟩
    omega
  · rintro ⟨h1, h2⟩
    exact ⟨⟨hr, vrR_iff.2 ⟨by dsimp only; omega, by dsimp only; omega, by dsimp only; omega, by dsimp only; omega, by dsimp only; omega, by dsimp only; omega⟩⟩, by omega, by omega⟩
theorem nbB_iff (r s : Rc) : nbB r s = true ↔ nbP r s := by
  unfold nbB coB nbP
  simp only [Bool.and_eq_true, Bool.or_eq_true, decide_eq_true_eq]
/-- a list of valid rectangles that stays valid when it is turned -/
def okL (rs : List Rc) (k : Nat) (l : List Rc) : Prop := ∀ r ∈ l, vrR r = true ∧ vrR (tnR rs k r) = true
theorem apB_map {p : Rc → Rc → Bool} {f : Rc → Rc} {l : List Rc} (h : ∀ r ∈ l, ∀ s ∈ l, p (f r) (f s) = p r s) : apB p (l.map f) = apB p l := by
  unfold apB
  rw [List.length_map, Bool.eq_iff_iff]
  have k : ∀ i j, i < l.length → j < i → pjB p (l.map f) j i = pjB p l j i := fun i j hi hj => by
    have e1 := List.getElem?_eq_getElem hi
    have e2 := List.getElem?_eq_getElem (show j < l.length by omega)
    have f1 : (l.map f)[i]? = some (f l[i]) := by rw [List.getElem?_map, e1]; rfl
    have f2 : (l.map f)[j]? = some (f (l[j]'(by omega))) := by rw [List.getElem?_map, e2]; rfl
    rw [pjB_at f2 f1, pjB_at e2 e1]
    exact h _ (List.mem_of_getElem? e2) _ (List.mem_of_getElem? e1)
  simp only [List.any_eq_true, List.mem_range]
  constructor
  · rintro ⟨i, hi, j, hj, e⟩; exact ⟨i, hi, j, hj, by rw [← k i j hi hj]; exact e⟩
  · rintro ⟨i, hi, j, hj, e⟩; exact ⟨i, hi, j, hj, by rw [k i j hi hj]; exact e⟩
theorem ap_ov {rs : List Rc} {k : Nat} {l : List Rc} (h : okL rs k l) : apB ovQ (tnL rs k l) = apB ovQ l :=
  apB_map fun r hr s hs => by rw [Bool.eq_iff_iff, ovQ_iff (h r hr).2 (h s hs).2, ovQ_iff (h r hr).1 (h s hs).1]; exact ov_tn rs r s k
theorem ap_to {rs : List Rc} {k : Nat} {l : List Rc} (h : okL rs k l) : apB toR (l.map (tnR rs k)) = apB toR l :=
  apB_map fun r hr s hs => by rw [Bool.eq_iff_iff, toR_iff (h r hr).2 (h s hs).2, toR_iff (h r hr).1 (h s hs).1]; exact to_tn rs r s k
theorem con_tn {rs : List Rc} {k : Nat} {l : List Rc} : nbL (tnL rs k l) = nbL l := by
  funext i j
  unfold nbL tnL
  rw [List.getElem?_map, List.getElem?_map]
  cases l[i]? with
  | none => rfl
  | some a =>
    cases l[j]? with
    | none => rfl
    | some b =>
      show nbB (tnR rs k a) (tnR rs k b) = nbB a b
      rw [Bool.eq_iff_iff, nbB_iff, nbB_iff]
      exact nb_tn rs a b k
theorem co_tn {rs : List Rc} {k : Nat} {l : List Rc} {b : Bool} (h : CoB l b) : CoB (tnL rs k l) b := by
  unfold CoB at *
  rw [con_tn, tnL, List.length_map]
  exact h
theorem wh_tn (rs : List Rc) (k : Nat) (r : Rc) : ((tnR rs k r).w = r.w ∧ (tnR rs k r).h = r.h) ∨ ((tnR rs k r).w = r.h ∧ (tnR rs k r).h = r.w) := by
  show ((RN k r).w = r.w ∧ (RN k r).h = r.h) ∨ ((RN k r).w = r.h ∧ (RN k r).h = r.w)
  induction k with
  | zero => exact .inl ⟨rfl, rfl⟩
  | succ n ih =>
    show ((RN n r).h = r.w ∧ (RN n r).w = r.h) ∨ ((RN n r).h = r.h ∧ (RN n r).w = r.w)
    omega
theorem any_st {rs : List Rc} {k : Nat} {l : List Rc} {s : Rc} (h : okL rs k l) (hs : vrR s = true ∧ vrR (tnR rs k s) = true) : (tnL rs k l).any (stB (tnR rs k s)) = l.any (stB s) := by
  unfold tnL
  rw [List.any_map, Bool.eq_iff_iff]
  simp only [List.any_eq_true]
  constructor
  · rintro ⟨r, hr, e⟩
    exact ⟨r, hr, (stB_iff hs.1 (h r hr).1).2 ((st_tn rs s r k).1 ((stB_iff hs.2 (h r hr).2).1 e))⟩
  · rintro ⟨r, hr, e⟩
    exact ⟨r, hr, (stB_iff hs.2 (h r hr).2).2 ((st_tn rs s r k).2 ((stB_iff hs.1 (h r hr).1).1 e))⟩
theorem ho_tn {rs : List Rc} {k : Nat} {l c f : List Rc} (h : okL rs k l) (hc : okL rs k c) (hf : okL rs k f) : hoFB (tnL rs k l) (tnL rs k c) (tnL rs k f) = hoFB l c f := by
  unfold hoFB
  have e1 : (tnL rs k c).all (hcB (tnL rs k l)) = c.all (hcB l) := by
    unfold tnL
    rw [List.all_map, Bool.eq_iff_iff]
    simp only [List.all_eq_true]
    have key : ∀ s ∈ c, hcB (List.map (tnR rs k) l) (tnR rs k s) = hcB l s := fun s hs => by
      have := any_st h (hc s hs)
      unfold hcB
      unfold tnL at this
      rw [this]
      rcases wh_tn rs k s with ⟨a, b⟩ | ⟨a, b⟩ <;> rw [a, b]
      cases (s.w == 1) <;> cases (s.h == 1) <;> rfl
    constructor
    · intro q s hs; rw [← key s hs]; exact q s hs
    · intro q s hs; show hcB _ (tnR rs k s) = true; rw [key s hs]; exact q s hs
  have e2 : ((tnL rs k f).all fun s => (tnL rs k l).any (stB s)) = f.all fun s => l.any (stB s) := by
    rw [Bool.eq_iff_iff]
    simp only [List.all_eq_true]
    constructor
    · intro q s hs
      rw [← any_st h (hf s hs)]
      exact q _ (List.mem_map_of_mem hs)
    · intro q s hs
      obtain ⟨u, hu, rfl⟩ := List.mem_map.1 hs
      rw [any_st h (hf u hu)]
      exact q u hu
  rw [e1, e2]
theorem atO_boB {l : List Rc} (h : AtO l) : boB l = true := by
  cases l with
  | nil => obtain ⟨r, hr, _⟩ := h.zx; cases hr
  | cons q l =>
    show ((mnV (q :: l) (q.x, q.y)).1 == 0 && (mnV (q :: l) (q.x, q.y)).2 == 0) = true
    have k := fun x y => mnV_le (l := q :: l) (z := (q.x, q.y)) (x := x) (y := y)
    obtain ⟨r, hr, r0⟩ := h.zx
    obtain ⟨s, hs, s0⟩ := h.zy
    have a1 := (k 0 0).1.2 ⟨h.px q List.mem_cons_self, h.px⟩
    have a2 := (k 0 0).2.2 ⟨h.py q List.mem_cons_self, h.py⟩
    have b1 := ((k ((mnV (q :: l) (q.x, q.y)).1) 0).1.1 (Int.le_refl _)).2 r hr
    have b2 := ((k 0 ((mnV (q :: l) (q.x, q.y)).2)).2.1 (Int.le_refl _)).2 s hs
    simp only [Bool.and_eq_true, beq_iff_eq]
    omega
/-- the turned piece, where it lies -/
abbrev tnP (p : Pc) (k : Nat) (A : Option Addr) (a : Nat) (B : Option Addr) (b : Nat) (C : Option Addr) (c : Nat) : Pc := ⟨p.nm, p.mt, p.ga, p.gr, A, a, tnL p.r k p.r, B, b, tnL p.r k p.c, C, c, tnL p.r k p.f⟩
theorem PcG.okL {p : Pc} (h : PcG p) (k : Nat) : okL p.r k p.r ∧ RG.okL p.r k p.c ∧ RG.okL p.r k p.f := by
  have w := h.wb
  exact ⟨fun r hr => ⟨vaB_iff.1 h.vr r hr, (tn_in h k (vaB_iff.1 h.vr r hr) (w.1 r hr)).1⟩, fun r hr => ⟨vaB_iff.1 h.vc r hr, (tn_in h k (vaB_iff.1 h.vc r hr) (w.2.1 r hr)).1⟩, fun r hr => ⟨vaB_iff.1 h.vf r hr, (tn_in h k (vaB_iff.1 h.vf r hr) (w.2.2 r hr)).1⟩⟩
theorem vp_tn {p : Pc} (h : PcG p) (k : Nat) (A : Option Addr) (a : Nat) (B : Option Addr) (b : Nat) (C : Option Addr) (c : Nat) : vpE (tnP p k A a B b C c) true = 0 := by
  obtain ⟨o1, o2, o3⟩ := h.okL k
  obtain ⟨v1, v2, v3⟩ := h.va k
  have e1 : (tnL p.r k p.r).length = p.r.length := List.length_map ..
  have e2 : (tnL p.r k p.c).length = p.c.length := List.length_map ..
  have e3 : (tnL p.r k p.f).length = p.f.length := List.length_map ..
  have q1 : boB (tnL p.r k p.r) = true := atO_boB (h.atT k)
  have q2 : apB ovQ (tnL p.r k p.r) = false := by rw [ap_ov o1]; exact h.ap
  have q3 : hoFB (tnL p.r k p.r) (tnL p.r k p.c) (tnL p.r k p.f) = true := by rw [ho_tn o1 o2 o3]; exact h.ho
  have q4 : apB toR (tnL p.r k p.c ++ tnL p.r k p.f) = false := by
    unfold tnL
    rw [← List.map_append, ap_to (fun r hr => by
      rcases List.mem_append.1 hr with hr | hr
      · exact o2 r hr
      · exact o3 r hr)]
    exact h.tt
  have n1 := h.n1; have n2 := h.n2; have n3 := h.n3; have n0 := h.n0
  unfold vpE
  dsimp only
  rw [if_pos h.nm, if_pos h.kn, e1, e2, e3, if_neg (by omega), if_neg (by omega), v1, v2, v3, q1, q2, q3, q4]
  rfl
/-- turns add up -/
theorem tn_tn {p : Pc} (h : PcG p) (a b : Nat) (hab : a + b < 8) : tnL (tnL p.r a p.r) b (tnL p.r a p.r) = tnL p.r ((a + b) % 4) p.r ∧ tnL (tnL p.r a p.r) b (tnL p.r a p.c) = tnL p.r ((a + b) % 4) p.c ∧ tnL (tnL p.r a p.r) b (tnL p.r a p.f) = tnL p.r ((a + b) % 4) p.f := by
  have hn := h.nn
  have hq := qt_qt hn rfl h.n0 a b
  rw [← qt_mod hn hab rfl] at hq
  obtain ⟨x1, x2, x3, x4⟩ := qt_tn h a
  obtain ⟨y1, y2, y3, y4⟩ := qt_tn h ((a + b) % 4)
  have hG : PcG (tnP p a none 0 none 0 none 0) := (vpE_good (vp_tn h a none 0 none 0 none 0)).1
  obtain ⟨z1, z2, z3, z4⟩ := qt_tn hG b
  have e : pcF (tnP p a none 0 none 0 none 0) = qtF (pcF p) a := by
    show (⟨tnL p.r a p.r, tnL p.r a p.c, tnL p.r a p.f, []⟩ : Pat) = _
    rw [← x1, ← x2, ← x3, ← x4]
  rw [e, hq] at z1 z2 z3
  exact ⟨z1.symm.trans y1, z2.symm.trans y2, z3.symm.trans y3⟩
end RG
end Go.Proofs.YtocbcbfniiioaaaGreat
set_option linter.unusedVariables false
set_option linter.unusedSimpArgs false
namespace Go.Proofs.YtocbcbfniiioaaaGreat
set_option linter.unusedVariables false
set_option linter.unusedSimpArgs false
open Go Go.ChangeShapes Go.WideShapes Go.ChangeAt Go.RowKit Go.Deep

namespace RG
set_option maxHeartbeats 4000000 in
set_option maxRecDepth 100000 in
theorem sameR6_any (A B : Option Addr) (c d : Nat) (l : List Rc) (w : World) (hl : SlR w A c l) (hm : SlR w B d l) :
    Calls Tryz.prog 56 #[.slice A l.length c, .slice B l.length d] w fun e w' => e = .returned (.bool true) ∧ Gr w w' := by
  have n1 := hl.cap
  have n2 := hl.capB
  have n3 := hm.cap
  have HL := hide hl
  have HM := hide hm
  clear hl hm
  go_enter Tryz.func56, Tryz.ntmps56
  go_wp2
  go_loopw [5] (fun i wr => ∃ k : Nat, k ≤ l.length ∧ i = iv k ∧ Gr w wr) (fun i _ => l.length - (intOf i).toNat)
  case atStart => exact ⟨0, by omega, rfl, Gr.refl _⟩
  case round =>
    obtain ⟨k, hk, rfl, g⟩ := hrel
    by_cases hkl : k < l.length
    · obtain ⟨z, hz⟩ : ∃ z, l[k]? = some z := ⟨_, List.getElem?_eq_getElem hkl⟩
      obtain ⟨b, o, rfl, x0, x1, x2, x3⟩ := (HL.out.gr g).at_ hz
      obtain ⟨b', o', rfl, y0, y1, y2, y3⟩ := (HM.out.gr g).at_ hz
      have hk0 : (0 : Int) ≤ (k : Int) := by omega
      have hk1 : (k : Int) < (l.length : Int) := by omega
      clear hz
      go_wp2
      have GC := @GrW.cell
      refine wp_region_grw _ (by kernel_rfl) (by kernel_rfl) (Gr.refl _) ?_
      repeat (go_big_quiet_step ((first | fail)))
      refine wpQuiet_nil ?_
      intro wq hwq
      obtain ⟨gq, hwq'⟩ := hwq
      subst hwq'
      clear GC
      have gq1 := gq.gr
      generalize gq.w = wq at gq1 ⊢
      obtain ⟨Xq, Yq, cq, fq⟩ := gq1.use
      have sq := gq1.size
      (try simp only [World.size_alloc, World.size_setCell, World.heap_drewN] at sq)
      go_wp2
      go_roundw
      case rel => exact ⟨k + 1, by omega, by go_num, (by repeat (first | with_reducible exact Gr.refl _ | with_reducible assumption | with_reducible refine Gr.alloc ?_ _ | with_reducible refine Gr.drewN ?_ _ | with_reducible refine Gr.drew ?_ | with_reducible refine Gr.setCell ?_ (by first | (dsimp only; omega) | (simp only [World.size_alloc]; omega) | (with_reducible refine Gr.size ?_; (repeat (first | with_reducible exact Gr.refl _ | with_reducible assumption | with_reducible refine Gr.alloc ?_ _ | with_reducible refine Gr.drewN ?_ _ | with_reducible refine Gr.drew ?_ | with_reducible refine Gr.trans ?_ (by with_reducible assumption))); done)) _ | with_reducible refine Gr.trans ?_ (by with_reducible assumption)))⟩
      case measure => simp only [intOf]; omega
    · obtain rfl : k = l.length := by omega
      go_wp2
      go_ret
      exact ⟨rfl, (by repeat (first | with_reducible exact Gr.refl _ | with_reducible assumption | with_reducible refine Gr.alloc ?_ _ | with_reducible refine Gr.drewN ?_ _ | with_reducible refine Gr.drew ?_ | with_reducible refine Gr.setCell ?_ (by first | (dsimp only; omega) | (simp only [World.size_alloc]; omega) | (with_reducible refine Gr.size ?_; (repeat (first | with_reducible exact Gr.refl _ | with_reducible assumption | with_reducible refine Gr.alloc ?_ _ | with_reducible refine Gr.drewN ?_ _ | with_reducible refine Gr.drew ?_ | with_reducible refine Gr.trans ?_ (by with_reducible assumption))); done)) _ | with_reducible refine Gr.trans ?_ (by with_reducible assumption)))⟩
structure SrC (w0 : World) (A : Option Addr) (n c : Nat) (B : Option Addr) (m d : Nat) : Prop where
  use : ∀ w', Gr w0 w' → Calls Tryz.prog 56 #[.slice A n c, .slice B m d] w' fun e w'' => e = .returned (.bool true) ∧ Gr w' w''
theorem srC_of {w : World} {A B : Option Addr} {c d : Nat} {l : List Rc} (h : SlR w A c l) (k : SlR w B d l) : SrC w A l.length c B l.length d := ⟨fun w' g => sameR6_any A B c d l w' (h.gr g) (k.gr g)⟩
set_option maxHeartbeats 4000000 in
set_option maxRecDepth 100000 in
theorem sameP6_any (nm mt : ByteArray) (ga gr : Int) (A1 A2 A3 B1 B2 B3 : Option Addr) (a1 a2 a3 b1 b2 b3 n1 n2 n3 : Nat) (w : World) (h1 : SrC w A1 n1 a1 B1 n1 b1) (h2 : SrC w A2 n2 a2 B2 n2 b2) (h3 : SrC w A3 n3 a3 B3 n3 b3) :
    Calls Tryz.prog 19 #[pcvv nm mt ga gr (.slice A1 n1 a1) (.slice A2 n2 a2) (.slice A3 n3 a3), pcvv nm mt ga gr (.slice B1 n1 b1) (.slice B2 n2 b2) (.slice B3 n3 b3)] w fun e w' => e = .returned (.bool true) ∧ Gr w w' := by
  go_enter Tryz.func19, Tryz.ntmps19
  go_wp2_with (first | (go_at_call 56; refine (SrC.use (by with_reducible assumption) _ (by repeat (first | with_reducible exact Gr.refl _ | with_reducible assumption | with_reducible refine Gr.alloc ?_ _ | with_reducible refine Gr.drewN ?_ _ | with_reducible refine Gr.drew ?_ | with_reducible refine Gr.setCell ?_ (by first | (dsimp only; omega) | (simp only [World.size_alloc]; omega) | (with_reducible refine Gr.size ?_; (repeat (first | with_reducible exact Gr.refl _ | with_reducible assumption | with_reducible refine Gr.alloc ?_ _ | with_reducible refine Gr.drewN ?_ _ | with_reducible refine Gr.drew ?_ | with_reducible refine Gr.trans ?_ (by with_reducible assumption))); done)) _ | with_reducible refine Gr.trans ?_ (by with_reducible assumption)))).mono ?_; rintro e w1 ⟨rfl, g1⟩; obtain ⟨X1, Y1, c1, f1⟩ := g1.use; have z1 := g1.size; (try simp only [World.size_alloc, World.size_setCell, World.heap_drewN, Nat.add_one_le_iff] at z1); (try have l0 : w.heap.size < w1.heap.size := by omega); (try have l1 : w.heap.size + 1 < w1.heap.size := by omega); (try have l2 : w.heap.size + 1 + 1 < w1.heap.size := by omega)))
  go_ret
  exact ⟨rfl, (by repeat (first | with_reducible exact Gr.refl _ | with_reducible assumption | with_reducible refine Gr.alloc ?_ _ | with_reducible refine Gr.drewN ?_ _ | with_reducible refine Gr.drew ?_ | with_reducible refine Gr.setCell ?_ (by first | (dsimp only; omega) | (simp only [World.size_alloc]; omega) | (with_reducible refine Gr.size ?_; (repeat (first | with_reducible exact Gr.refl _ | with_reducible assumption | with_reducible refine Gr.alloc ?_ _ | with_reducible refine Gr.drewN ?_ _ | with_reducible refine Gr.drew ?_ | with_reducible refine Gr.trans ?_ (by with_reducible assumption))); done)) _ | with_reducible refine Gr.trans ?_ (by with_reducible assumption)))⟩
end RG
end Go.Proofs.YtocbcbfniiioaaaGreat
set_option linter.unusedVariables false
set_option linter.unusedSimpArgs false
namespace Go.Proofs.YtocbcbfniiioaaaGreat
set_option linter.unusedVariables false
set_option linter.unusedSimpArgs false
open Go Go.ChangeShapes Go.WideShapes Go.ChangeAt Go.RowKit Go.Deep

namespace RG
/-- Put at 0, 0 of a valid piece -/
theorem put0_any (p : Pc) (k : Nat) (w : World) (hp : PcW w p) (hb : CoB p.r true) (h0 : vpE p true = 0) (hk : k ≤ 3) :
    Calls Tryz.prog 17 #[p.v, atv 0 0 0 0 k] w fun e w' => PutOk p.nm p.mt p.ga p.gr (tnL p.r k p.r) (tnL p.r k p.c) (tnL p.r k p.f) w w' e := by
  have h := Put_ok p true 0 0 0 0 k w hp hb h0 hk (by omega) (by omega)
  rw [mv0, mv0, mv0] at h
  obtain ⟨v1, v2, v3⟩ := (vpE_good h0).1.va k
  refine h.mono fun e w' q => ?_
  unfold PutR at q
  rwa [if_pos (by rw [v1, v2, v3]; rfl)] at q
set_option maxHeartbeats 8000000 in
set_option maxRecDepth 100000 in
theorem turns_bad (p : Pc) (a b : Int) (E : Int) (w : World) (hE : E ≠ 0) (HP : ∀ w', Gr w w' → Calls Tryz.prog 17 #[p.v, atv 0 0 0 0 a] w' fun e w'' => e = .returned (sle noPcV E) ∧ Gr w' w'') :
    Calls Tryz.prog 5 #[p.v, iv a, iv b] w fun e w' => e = .returned (.bool true) ∧ Gr w w' := by
  have H1 := hide HP
  have hE1 : (E != 0) = true := by simpa using hE
  clear HP
  go_enter Tryz.func5, Tryz.ntmps5
  go_wp2_with fail
  refine (H1.out _ (by repeat (first | with_reducible exact Gr.refl _ | with_reducible assumption | with_reducible refine Gr.alloc ?_ _ | with_reducible refine Gr.drewN ?_ _ | with_reducible refine Gr.drew ?_ | with_reducible refine Gr.setCell ?_ (by first | (dsimp only; omega) | (simp only [World.size_alloc]; omega) | (with_reducible refine Gr.size ?_; (repeat (first | with_reducible exact Gr.refl _ | with_reducible assumption | with_reducible refine Gr.alloc ?_ _ | with_reducible refine Gr.drewN ?_ _ | with_reducible refine Gr.drew ?_ | with_reducible refine Gr.trans ?_ (by with_reducible assumption))); done)) _ | with_reducible refine Gr.trans ?_ (by with_reducible assumption)))).mono ?_
  rintro e w1 ⟨rfl, g1⟩
  have gw1 : Gr w w1 := Gr.trans (by repeat (first | with_reducible exact Gr.refl _ | with_reducible assumption | with_reducible refine Gr.alloc ?_ _ | with_reducible refine Gr.drewN ?_ _ | with_reducible refine Gr.drew ?_ | with_reducible refine Gr.setCell ?_ (by first | (dsimp only; omega) | (simp only [World.size_alloc]; omega) | (with_reducible refine Gr.size ?_; (repeat (first | with_reducible exact Gr.refl _ | with_reducible assumption | with_reducible refine Gr.alloc ?_ _ | with_reducible refine Gr.drewN ?_ _ | with_reducible refine Gr.drew ?_ | with_reducible refine Gr.trans ?_ (by with_reducible assumption))); done)) _ | with_reducible refine Gr.trans ?_ (by with_reducible assumption))) g1
  go_wp2_with (first | (go_at_call 16; refine (known6_any _).mono ?_; rintro e w1 ⟨rfl, g1⟩; obtain ⟨X1, Y1, c1, f1⟩ := g1.use))
  go_ret
  exact ⟨rfl, (by repeat (first | with_reducible exact Gr.refl _ | with_reducible assumption | with_reducible refine Gr.alloc ?_ _ | with_reducible refine Gr.drewN ?_ _ | with_reducible refine Gr.drew ?_ | with_reducible refine Gr.setCell ?_ (by first | (dsimp only; omega) | (simp only [World.size_alloc]; omega) | (with_reducible refine Gr.size ?_; (repeat (first | with_reducible exact Gr.refl _ | with_reducible assumption | with_reducible refine Gr.alloc ?_ _ | with_reducible refine Gr.drewN ?_ _ | with_reducible refine Gr.drew ?_ | with_reducible refine Gr.trans ?_ (by with_reducible assumption))); done)) _ | with_reducible refine Gr.trans ?_ (by with_reducible assumption)))⟩
set_option maxHeartbeats 8000000 in
set_option maxRecDepth 100000 in
theorem turns_walk (p : Pc) (a b : Int) (w : World) (hp : PcW w p) :
    Calls Tryz.prog 5 #[p.v, iv a, iv b] w fun e w' => e = .returned (.bool true) ∧ Gr w w' := by
  obtain ⟨c, hc⟩ := coB_ex p.r
  by_cases h0 : vpE p c = 0
  case neg => exact turns_bad p a b _ w h0 (fun w' g => Put_inv p c 0 0 0 0 a w' (hp.gr g) hc h0)
  case pos =>
  obtain rfl : c = true := (vpE_good h0).2
  cases ha : wiB a 0 3 with
  | false => exact turns_bad p a b 1 w (by decide) (fun w' g => Put_turn p true 0 0 0 0 a w' (hp.gr g) hc h0 ha)
  | true =>
  obtain ⟨ha0, ha3⟩ := wiB_iff.1 ha
  obtain ⟨k, rfl⟩ : ∃ k : Nat, a = k := ⟨a.toNat, by omega⟩
  have hG := (vpE_good h0).1
  have H1 := hide (fun (w' : World) (g : Gr w w') => put0_any p k w' (hp.gr g) hc h0 (by omega))
  have HV := hide (fun (A : Option Addr) (a : Nat) (B : Option Addr) (b : Nat) (C : Option Addr) (c : Nat) => vp_tn hG k A a B b C c)
  have HC := hide (co_tn (rs := p.r) (k := k) hc)
  have HN := hide (⟨hp.n1, hp.n2⟩ : p.nm.size ≤ 9223372036854775807 ∧ p.mt.size ≤ 9223372036854775807)
  have m0 := hp.r.cap
  cases hb : wiB b 0 3 with
  | false =>
    have hbb : b < 0 ∨ 3 < b := by
      rcases Int.lt_or_le b 0 with h | h
      · exact .inl h
      · rcases Int.lt_or_le 3 b with h' | h'
        · exact .inr h'
        · rw [wiB_iff.2 ⟨h, h'⟩] at hb; cases hb
    have HB := hide hb
    clear hb hp hc ha m0
    rcases hbb with h | h
    · go_enter Tryz.func5, Tryz.ntmps5
      go_wp2_with fail
      refine (H1.out _ (by repeat (first | with_reducible exact Gr.refl _ | with_reducible assumption | with_reducible refine Gr.alloc ?_ _ | with_reducible refine Gr.drewN ?_ _ | with_reducible refine Gr.drew ?_ | with_reducible refine Gr.setCell ?_ (by first | (dsimp only; omega) | (simp only [World.size_alloc]; omega) | (with_reducible refine Gr.size ?_; (repeat (first | with_reducible exact Gr.refl _ | with_reducible assumption | with_reducible refine Gr.alloc ?_ _ | with_reducible refine Gr.drewN ?_ _ | with_reducible refine Gr.drew ?_ | with_reducible refine Gr.trans ?_ (by with_reducible assumption))); done)) _ | with_reducible refine Gr.trans ?_ (by with_reducible assumption)))).mono ?_
      rintro e w1 ⟨D1, D2, D3, q1, q2, q3, rfl, ⟨s1, s2, s3⟩, _, g1⟩
      have gw1 : Gr w w1 := Gr.trans (by repeat (first | with_reducible exact Gr.refl _ | with_reducible assumption | with_reducible refine Gr.alloc ?_ _ | with_reducible refine Gr.drewN ?_ _ | with_reducible refine Gr.drew ?_ | with_reducible refine Gr.setCell ?_ (by first | (dsimp only; omega) | (simp only [World.size_alloc]; omega) | (with_reducible refine Gr.size ?_; (repeat (first | with_reducible exact Gr.refl _ | with_reducible assumption | with_reducible refine Gr.alloc ?_ _ | with_reducible refine Gr.drewN ?_ _ | with_reducible refine Gr.drew ?_ | with_reducible refine Gr.trans ?_ (by with_reducible assumption))); done)) _ | with_reducible refine Gr.trans ?_ (by with_reducible assumption))) g1
      have HPT := hide (fun (w' : World) (g : Gr w1 w') => Put_turn (tnP p k D1 q1 D2 q2 D3 q3) true 0 0 0 0 b w' ⟨s1.gr g, s2.gr g, s3.gr g, HN.out.1, HN.out.2⟩ HC.out (HV.out _ _ _ _ _ _) HB.out)
      clear s1 s2 s3
      go_wp2_with fail
      refine (HPT.out _ (by repeat (first | with_reducible exact Gr.refl _ | with_reducible assumption | with_reducible refine Gr.alloc ?_ _ | with_reducible refine Gr.drewN ?_ _ | with_reducible refine Gr.drew ?_ | with_reducible refine Gr.setCell ?_ (by first | (dsimp only; omega) | (simp only [World.size_alloc]; omega) | (with_reducible refine Gr.size ?_; (repeat (first | with_reducible exact Gr.refl _ | with_reducible assumption | with_reducible refine Gr.alloc ?_ _ | with_reducible refine Gr.drewN ?_ _ | with_reducible refine Gr.drew ?_ | with_reducible refine Gr.trans ?_ (by with_reducible assumption))); done)) _ | with_reducible refine Gr.trans ?_ (by with_reducible assumption)))).mono ?_
      rintro e w2 ⟨rfl, g2⟩
      have gw2 : Gr w w2 := gw1.trans (Gr.trans (by repeat (first | with_reducible exact Gr.refl _ | with_reducible assumption | with_reducible refine Gr.alloc ?_ _ | with_reducible refine Gr.drewN ?_ _ | with_reducible refine Gr.drew ?_ | with_reducible refine Gr.setCell ?_ (by first | (dsimp only; omega) | (simp only [World.size_alloc]; omega) | (with_reducible refine Gr.size ?_; (repeat (first | with_reducible exact Gr.refl _ | with_reducible assumption | with_reducible refine Gr.alloc ?_ _ | with_reducible refine Gr.drewN ?_ _ | with_reducible refine Gr.drew ?_ | with_reducible refine Gr.trans ?_ (by with_reducible assumption))); done)) _ | with_reducible refine Gr.trans ?_ (by with_reducible assumption))) g2)
      go_wp2_with (first | (go_at_call 16; refine (known6_any _).mono ?_; rintro e w1 ⟨rfl, g1⟩; obtain ⟨X1, Y1, c1, f1⟩ := g1.use))
      go_ret
      exact ⟨rfl, (by repeat (first | with_reducible exact Gr.refl _ | with_reducible assumption | with_reducible refine Gr.alloc ?_ _ | with_reducible refine Gr.drewN ?_ _ | with_reducible refine Gr.drew ?_ | with_reducible refine Gr.setCell ?_ (by first | (dsimp only; omega) | (simp only [World.size_alloc]; omega) | (with_reducible refine Gr.size ?_; (repeat (first | with_reducible exact Gr.refl _ | with_reducible assumption | with_reducible refine Gr.alloc ?_ _ | with_reducible refine Gr.drewN ?_ _ | with_reducible refine Gr.drew ?_ | with_reducible refine Gr.trans ?_ (by with_reducible assumption))); done)) _ | with_reducible refine Gr.trans ?_ (by with_reducible assumption)))⟩
    · have h' : decide (b < 0) = false := decide_eq_false (by omega)
      go_enter Tryz.func5, Tryz.ntmps5
      go_wp2_with fail
      refine (H1.out _ (by repeat (first | with_reducible exact Gr.refl _ | with_reducible assumption | with_reducible refine Gr.alloc ?_ _ | with_reducible refine Gr.drewN ?_ _ | with_reducible refine Gr.drew ?_ | with_reducible refine Gr.setCell ?_ (by first | (dsimp only; omega) | (simp only [World.size_alloc]; omega) | (with_reducible refine Gr.size ?_; (repeat (first | with_reducible exact Gr.refl _ | with_reducible assumption | with_reducible refine Gr.alloc ?_ _ | with_reducible refine Gr.drewN ?_ _ | with_reducible refine Gr.drew ?_ | with_reducible refine Gr.trans ?_ (by with_reducible assumption))); done)) _ | with_reducible refine Gr.trans ?_ (by with_reducible assumption)))).mono ?_
      rintro e w1 ⟨D1, D2, D3, q1, q2, q3, rfl, ⟨s1, s2, s3⟩, _, g1⟩
      have gw1 : Gr w w1 := Gr.trans (by repeat (first | with_reducible exact Gr.refl _ | with_reducible assumption | with_reducible refine Gr.alloc ?_ _ | with_reducible refine Gr.drewN ?_ _ | with_reducible refine Gr.drew ?_ | with_reducible refine Gr.setCell ?_ (by first | (dsimp only; omega) | (simp only [World.size_alloc]; omega) | (with_reducible refine Gr.size ?_; (repeat (first | with_reducible exact Gr.refl _ | with_reducible assumption | with_reducible refine Gr.alloc ?_ _ | with_reducible refine Gr.drewN ?_ _ | with_reducible refine Gr.drew ?_ | with_reducible refine Gr.trans ?_ (by with_reducible assumption))); done)) _ | with_reducible refine Gr.trans ?_ (by with_reducible assumption))) g1
      have HPT := hide (fun (w' : World) (g : Gr w1 w') => Put_turn (tnP p k D1 q1 D2 q2 D3 q3) true 0 0 0 0 b w' ⟨s1.gr g, s2.gr g, s3.gr g, HN.out.1, HN.out.2⟩ HC.out (HV.out _ _ _ _ _ _) HB.out)
      clear s1 s2 s3
      go_wp2_with fail
      refine (HPT.out _ (by repeat (first | with_reducible exact Gr.refl _ | with_reducible assumption | with_reducible refine Gr.alloc ?_ _ | with_reducible refine Gr.drewN ?_ _ | with_reducible refine Gr.drew ?_ | with_reducible refine Gr.setCell ?_ (by first | (dsimp only; omega) | (simp only [World.size_alloc]; omega) | (with_reducible refine Gr.size ?_; (repeat (first | with_reducible exact Gr.refl _ | with_reducible assumption | with_reducible refine Gr.alloc ?_ _ | with_reducible refine Gr.drewN ?_ _ | with_reducible refine Gr.drew ?_ | with_reducible refine Gr.trans ?_ (by with_reducible assumption))); done)) _ | with_reducible refine Gr.trans ?_ (by with_reducible assumption)))).mono ?_
      rintro e w2 ⟨rfl, g2⟩
      have gw2 : Gr w w2 := gw1.trans (Gr.trans (by repeat (first | with_reducible exact Gr.refl _ | with_reducible assumption | with_reducible refine Gr.alloc ?_ _ | with_reducible refine Gr.drewN ?_ _ | with_reducible refine Gr.drew ?_ | with_reducible refine Gr.setCell ?_ (by first | (dsimp only; omega) | (simp only [World.size_alloc]; omega) | (with_reducible refine Gr.size ?_; (repeat (first | with_reducible exact Gr.refl _ | with_reducible assumption | with_reducible refine Gr.alloc ?_ _ | with_reducible refine Gr.drewN ?_ _ | with_reducible refine Gr.drew ?_ | with_reducible refine Gr.trans ?_ (by with_reducible assumption))); done)) _ | with_reducible refine Gr.trans ?_ (by with_reducible assumption))) g2)
      go_wp2_with (first | (go_at_call 16; refine (known6_any _).mono ?_; rintro e w1 ⟨rfl, g1⟩; obtain ⟨X1, Y1, c1, f1⟩ := g1.use))
      go_ret
      exact ⟨rfl, (by repeat (first | with_reducible exact Gr.refl _ | with_reducible assumption | with_reducible refine Gr.alloc ?_ _ | with_reducible refine Gr.drewN ?_ _ | with_reducible refine Gr.drew ?_ | with_reducible refine Gr.setCell ?_ (by first | (dsimp only; omega) | (simp only [World.size_alloc]; omega) | (with_reducible refine Gr.size ?_; (repeat (first | with_reducible exact Gr.refl _ | with_reducible assumption | with_reducible refine Gr.alloc ?_ _ | with_reducible refine Gr.drewN ?_ _ | with_reducible refine Gr.drew ?_ | with_reducible refine Gr.trans ?_ (by with_reducible assumption))); done)) _ | with_reducible refine Gr.trans ?_ (by with_reducible assumption)))⟩
  | true =>
    obtain ⟨hb0, hb3⟩ := wiB_iff.1 hb
    obtain ⟨j, rfl⟩ : ∃ j : Nat, b = j := ⟨b.toNat, by omega⟩
    have hb1 : decide ((j : Int) < 0) = false := decide_eq_false (by omega)
    have hb2 : decide ((j : Int) > 3) = false := decide_eq_false (by omega)
    obtain ⟨t1, t2, t3⟩ := tn_tn hG k j (by omega)
    have T1 := hide t1
    have T2 := hide t2
    have T3 := hide t3
    have e4 : (((k + j) % 4 : Nat) : Int) = ((k : Int) + (j : Int)) % 4 := by omega
    have H3 := hide (fun (w' : World) (g : Gr w w') => by
      have := put0_any p ((k + j) % 4) w' (hp.gr g) hc h0 (by omega)
      rw [e4] at this
      exact this)
    clear e4
    have W1 : IntKind.i64.wrap ((k : Int) + (j : Int)) = (k : Int) + j := IntWalk.i64_in _ (by omega)
    clear hb hp hc ha m0 t1 t2 t3
    go_enter Tryz.func5, Tryz.ntmps5
    go_wp2_with fail
    have M0 := hide (Made.new w #[.string p.nm, .string p.mt, iv p.ga, iv p.gr, .slice p.rA p.r.length p.rc, .slice p.cA p.c.length p.cc, .slice p.fA p.f.length p.fc] 26)
    have g0 : Gr w (w.alloc (.cells #[.string p.nm, .string p.mt, iv p.ga, iv p.gr, .slice p.rA p.r.length p.rc, .slice p.cA p.c.length p.cc, .slice p.fA p.f.length p.fc] 26)) := Gr.alloc (Gr.refl _) _
    generalize w.alloc (.cells #[.string p.nm, .string p.mt, iv p.ga, iv p.gr, .slice p.rA p.r.length p.rc, .slice p.cA p.c.length p.cc, .slice p.fA p.f.length p.fc] 26) = w0 at *
    generalize w.heap.size = b0 at *
    refine (H1.out _ g0).mono ?_
    rintro e w1 ⟨D1, D2, D3, q1, q2, q3, rfl, ⟨s1, s2, s3⟩, _, g1⟩
    have HPT := hide (fun (w' : World) (g : Gr w1 w') => put0_any (tnP p k D1 q1 D2 q2 D3 q3) j w' ⟨s1.gr g, s2.gr g, s3.gr g, HN.out.1, HN.out.2⟩ HC.out (HV.out _ _ _ _ _ _) (by omega))
    dsimp only at HPT
    rw [T1.out, T2.out, T3.out] at HPT
    clear s1 s2 s3
    go_wp2_with fail
    refine (HPT.out _ (by repeat (first | with_reducible exact Gr.refl _ | with_reducible assumption | with_reducible refine Gr.alloc ?_ _ | with_reducible refine Gr.drewN ?_ _ | with_reducible refine Gr.drew ?_ | with_reducible refine Gr.setCell ?_ (by first | (dsimp only; omega) | (simp only [World.size_alloc]; omega) | (with_reducible refine Gr.size ?_; (repeat (first | with_reducible exact Gr.refl _ | with_reducible assumption | with_reducible refine Gr.alloc ?_ _ | with_reducible refine Gr.drewN ?_ _ | with_reducible refine Gr.drew ?_ | with_reducible refine Gr.trans ?_ (by with_reducible assumption))); done)) _ | with_reducible refine Gr.trans ?_ (by with_reducible assumption)))).mono ?_
    rintro e w2 ⟨E1, E2, E3, r1, r2, r3, rfl, ⟨u1, u2, u3⟩, _, g2⟩
    have g12 : Gr w1 w2 := Gr.trans (by repeat (first | with_reducible exact Gr.refl _ | with_reducible assumption | with_reducible refine Gr.alloc ?_ _ | with_reducible refine Gr.drewN ?_ _ | with_reducible refine Gr.drew ?_ | with_reducible refine Gr.setCell ?_ (by first | (dsimp only; omega) | (simp only [World.size_alloc]; omega) | (with_reducible refine Gr.size ?_; (repeat (first | with_reducible exact Gr.refl _ | with_reducible assumption | with_reducible refine Gr.alloc ?_ _ | with_reducible refine Gr.drewN ?_ _ | with_reducible refine Gr.drew ?_ | with_reducible refine Gr.trans ?_ (by with_reducible assumption))); done)) _ | with_reducible refine Gr.trans ?_ (by with_reducible assumption))) g2
    have gw2 : Gr w w2 := (g0.trans g1).trans g12
    obtain ⟨l0, y0, _⟩ := M0.out.gr (g1.trans g12)
    have a00 := y0 0
    have a01 := y0 1
    have a02 := y0 2
    have a03 := y0 3
    have a04 := y0 4
    have a05 := y0 5
    have a06 := y0 6
    clear y0
    have U1 := hide u1
    have U2 := hide u2
    have U3 := hide u3
    clear u1 u2 u3
    go_wp2_with fail
    have M5 := hide (Made.new w2 #[.string p.nm, .string p.mt, iv p.ga, iv p.gr, .slice E1 (tnL p.r ((k + j) % 4) p.r).length r1, .slice E2 (tnL p.r ((k + j) % 4) p.c).length r2, .slice E3 (tnL p.r ((k + j) % 4) p.f).length r3] 26)
    have g23 : Gr w2 (w2.alloc (.cells #[.string p.nm, .string p.mt, iv p.ga, iv p.gr, .slice E1 (tnL p.r ((k + j) % 4) p.r).length r1, .slice E2 (tnL p.r ((k + j) % 4) p.c).length r2, .slice E3 (tnL p.r ((k + j) % 4) p.f).length r3] 26)) := Gr.alloc (Gr.refl _) _
    have gw3 := gw2.trans g23
    refine (H3.out _ gw3).mono ?_
    rintro e w4 ⟨F1, F2, F3, v1, v2, v3, rfl, ⟨x1, x2, x3⟩, _, g4⟩
    have gw4 := gw3.trans g4
    obtain ⟨l5, y5, _⟩ := M5.out.gr g4
    have a50 := y5 0
    have a51 := y5 1
    have a52 := y5 2
    have a53 := y5 3
    have a54 := y5 4
    have a55 := y5 5
    have a56 := y5 6
    clear y5 a00 a01 a02 a03 a04 a05 a06 l0
    have S1 := srC_of (U1.out.gr (g23.trans g4)) x1
    have S2 := srC_of (U2.out.gr (g23.trans g4)) x2
    have S3 := srC_of (U3.out.gr (g23.trans g4)) x3
    have HSP := hide (fun (w' : World) (g : Gr w4 w') => sameP6_any p.nm p.mt p.ga p.gr E1 E2 E3 F1 F2 F3 r1 r2 r3 v1 v2 v3 _ _ _ w' ⟨fun w'' g' => S1.use w'' (g.trans g')⟩ ⟨fun w'' g' => S2.use w'' (g.trans g')⟩ ⟨fun w'' g' => S3.use w'' (g.trans g')⟩)
    clear S1 S2 S3 x1 x2 x3
    go_wp2_with fail
    refine (HSP.out _ (by repeat (first | with_reducible exact Gr.refl _ | with_reducible assumption | with_reducible refine Gr.alloc ?_ _ | with_reducible refine Gr.drewN ?_ _ | with_reducible refine Gr.drew ?_ | with_reducible refine Gr.setCell ?_ (by first | (dsimp only; omega) | (simp only [World.size_alloc]; omega) | (with_reducible refine Gr.size ?_; (repeat (first | with_reducible exact Gr.refl _ | with_reducible assumption | with_reducible refine Gr.alloc ?_ _ | with_reducible refine Gr.drewN ?_ _ | with_reducible refine Gr.drew ?_ | with_reducible refine Gr.trans ?_ (by with_reducible assumption))); done)) _ | with_reducible refine Gr.trans ?_ (by with_reducible assumption)))).mono ?_
    rintro e w6 ⟨rfl, g6⟩
    have gw6 : Gr w w6 := gw4.trans (Gr.trans (by repeat (first | with_reducible exact Gr.refl _ | with_reducible assumption | with_reducible refine Gr.alloc ?_ _ | with_reducible refine Gr.drewN ?_ _ | with_reducible refine Gr.drew ?_ | with_reducible refine Gr.setCell ?_ (by first | (dsimp only; omega) | (simp only [World.size_alloc]; omega) | (with_reducible refine Gr.size ?_; (repeat (first | with_reducible exact Gr.refl _ | with_reducible assumption | with_reducible refine Gr.alloc ?_ _ | with_reducible refine Gr.drewN ?_ _ | with_reducible refine Gr.drew ?_ | with_reducible refine Gr.trans ?_ (by with_reducible assumption))); done)) _ | with_reducible refine Gr.trans ?_ (by with_reducible assumption))) g6)
    go_wp2_with (first | (go_at_call 16; refine (known6_any _).mono ?_; rintro e w1 ⟨rfl, g1⟩; obtain ⟨X1, Y1, c1, f1⟩ := g1.use))
    go_ret
    exact ⟨rfl, (by repeat (first | with_reducible exact Gr.refl _ | with_reducible assumption | with_reducible refine Gr.alloc ?_ _ | with_reducible refine Gr.drewN ?_ _ | with_reducible refine Gr.drew ?_ | with_reducible refine Gr.setCell ?_ (by first | (dsimp only; omega) | (simp only [World.size_alloc]; omega) | (with_reducible refine Gr.size ?_; (repeat (first | with_reducible exact Gr.refl _ | with_reducible assumption | with_reducible refine Gr.alloc ?_ _ | with_reducible refine Gr.drewN ?_ _ | with_reducible refine Gr.drew ?_ | with_reducible refine Gr.trans ?_ (by with_reducible assumption))); done)) _ | with_reducible refine Gr.trans ?_ (by with_reducible assumption)))⟩
end RG
end Go.Proofs.YtocbcbfniiioaaaGreat
