/-
  A region that draws its order, of which the first n operations come before all others and read, or call what lays memory of its own: one walk of those in the order of the text; then the others, in whatever order they may come up. No program.
  Nests: whether a piece that is put lies well, of the code; a new nesting.
  Nests: a placement added to what has been placed, of the code (add).
  Nests: what has been placed, after one more, in memory.
  A region that draws its order, whose last operation comes behind all others: the others first, as a region of their own. No program.
  Nests: a placement that is right is added to what has been placed, of the code (add).
-/
import Derived.Test.YtddhaiaapomdjaaGreatTailr
import Derived.Test.YtddhaiaapomdjaaGreatGHr
import Derived.Deep.RegionHeld3
namespace Go.Proofs.YtddhaiaapomdjaaGreat
set_option linter.unusedVariables false
set_option linter.unusedSimpArgs false
open Go Go.ChangeShapes Go.WideShapes Go.ChangeAt Go.RowKit Go.Deep

section
variable {P : Program} {ops : Array Oper} {md : Region.Mode} {C : World → Prop}
/-- each of the first n is waited for by a later one of them, or by all others that wait for none of the others -/
def preB (md : Region.Mode) (ops : Array Oper) (n : Nat) : Bool :=
  (List.range n).all fun i => ((List.range n).any fun j => decide (i < j) && Region.waitsFor md ops j i) || (List.range ops.size).all fun t => decide (t < n) || (Region.waitsFor md ops t i || (List.range ops.size).any fun u => decide (n ≤ u) && Region.waitsFor md ops t u)
def preArr : Nat → Nat → Array Bool → Array Bool
  | 0, _, m => m
  | f + 1, k, m => preArr f (k + 1) (m.setIfInBounds k true)
def lexPre (md : Region.Mode) (ops : Array Oper) (n : Nat) : Nat → Nat → Array Bool → Bool
  | 0, _, m => (Region.ready md ops m).all fun j => decide (n ≤ j)
  | f + 1, k, m => (Region.ready md ops m).contains k && Region.free md ops m k && lexPre md ops n f (k + 1) (m.setIfInBounds k true)
theorem last_un {n : Nat} {m : Array Bool} (hp : preB md ops n = true) (inv : HeadInv md ops n m) : ∀ (d i : Nat), n - i = d → i < n → m.getD i false = false → ∃ k, k < n ∧ m.getD k false = false ∧ ∀ t, t < ops.size → t < n ∨ (Region.waitsFor md ops t k = true ∨ ∃ u, u < ops.size ∧ n ≤ u ∧ Region.waitsFor md ops t u = true) := by
  simp only [preB, Bool.and_eq_true, Bool.or_eq_true, List.all_eq_true, List.mem_range, List.any_eq_true, decide_eq_true_eq] at hp
  intro d
  induction d using Nat.strongRecOn with
  | _ d ih =>
    intro i hd hi hu
    rcases hp i hi with ⟨j, hj, hij, hw⟩ | h
    · obtain ⟨oj, hoj, e, he, hb, heq⟩ := Region.waitsFor_spec hw
      refine ih (n - j) (by omega) j rfl hj ?_
      cases hl : m.getD j false with
      | false => rfl
      | true =>
        have := inv.closed j oj hoj hl e he hb
        rw [heq, hu] at this
        cases this
    · exact ⟨i, hi, hu, h⟩
theorem in_pre {n i j : Nat} {m : Array Bool} (hp : preB md ops n = true) (inv : HeadInv md ops n m) (hin : i < n) (hr : i ∈ Region.ready md ops m) (hj : j ∈ Region.ready md ops m) : j < n := by
  rcases Nat.lt_or_ge j n with h | h
  · exact h
  · obtain ⟨hiu, _⟩ := mem_ready.1 hr
    obtain ⟨hju, oj, hoj, hall⟩ := mem_ready.1 hj
    obtain ⟨k, hk, hl, hw⟩ := last_un hp inv _ i rfl hin (getD_both hiu)
    have hjs : j < ops.size := (Array.getElem?_eq_some_iff.1 hoj).1
    have key : ∀ q, m.getD q false = false → Region.waitsFor md ops j q = true → False := fun q hq c => by
      obtain ⟨oj', hoj', e, he, hb, heq⟩ := Region.waitsFor_spec c
      rw [hoj] at hoj'
      obtain rfl := Option.some.inj hoj'
      have := hall e he hb
      rw [heq, hq] at this
      cases this
    rcases hw j hjs with c | c | ⟨u, hu, hnu, c⟩
    · omega
    · exact (key k hl c).elim
    · exact (key u (getD_both (inv.tail u hnu hu)) c).elim
theorem preQ_first {n i : Nat} {oi : Oper} {v : Value} {L : Array Bool → Act → Prop} (hi : ops[i]? = some oi) (hsel : ∀ (j : Nat) (o : Oper) cs b, ops[j]? = some o → o.op ≠ .select cs b)
    (hp : preB md ops n = true) (hin : i < n) (hdone : ∀ m a, L m a → ∀ j ∈ Region.ready md ops m, n ≤ j) (k : Nat) :
    ∀ (m : Array Bool) (a : Act), HeadInv md ops n m →
      (∀ j oj, ops[j]? = some oj → j ≠ i → m.getD j true = false → (∀ e ∈ oj.after, Region.binds md e = true → e.on ≠ i) → oi.apart ops oj = true) →
      i ∈ Region.ready md ops m → YieldsIn P ops C oi v a →
      headQ P md ops C n L k (m.setIfInBounds i true) (a.put oi.dst v) → headQ P md ops C n L (k + 1) m a := by
  induction k with
  | zero =>
    intro m a inv _ hr hy H
    refine ⟨fun e => (by rw [e] at hr; cases hr), fun j hj => ⟨in_pre hp inv hin hr hj, ?_⟩⟩
    rcases Nat.decEq j i with hji | hji
    · have := hdone _ _ H j (ready_mono hj hji)
      have := in_pre hp inv hin hr hj
      omega
    · subst hji
      exact hy.qOp hi H
  | succ k ih =>
    intro m a inv hfree hr hy H
    refine ⟨fun e => (by rw [e] at hr; cases hr), fun j hj => ⟨in_pre hp inv hin hr hj, ?_⟩⟩
    rcases Nat.decEq j i with hji | hji
    · obtain ⟨hjun, oj, hoj, hall⟩ := mem_ready.1 hj
      have hjn := in_pre hp inv hin hr hj
      have hnot : ∀ e ∈ oj.after, Region.binds md e = true → e.on ≠ i := fun e he hb heq => by
        have h1 := hall e he hb
        rw [heq, getD_both (mem_ready.1 hr).1] at h1
        cases h1
      have step := qOp_put hoj (hfree j oj hoj hji hjun hnot) (fun cs b => hsel i oi cs b hi) (fun cs b => hsel j oj cs b hoj) hy (H.2 j (ready_mono hj hji)).2
      refine qOp_mono (fun a' h3 => ?_) step
      refine ih (m.setIfInBounds j true) a' (inv.set hj hjn) (fun t ot ht hti hun hno => hfree t ot ht hti ?_ hno) (ready_mono hr (Ne.symm hji)) h3.1 ?_
      · rcases Nat.decEq j t with e | e
        · rwa [getD_set_ne true e] at hun
        · subst e; exact hjun
      · rw [Array.setIfInBounds_comm _ _ hji]
        exact h3.2
    · subst hji
      exact hy.qOp hi H
theorem preQ_lex {n : Nat} {Lq : Act → Prop} (hsel : Region.noSelect ops = true) (hp : preB md ops n = true) (l : List Oper) :
    ∀ (k : Nat) (m : Array Bool) (a : Act), (∀ j, j < l.length → l[j]? = ops[k + j]?) → k + l.length = n → HeadInv md ops n m →
    lexPre md ops n l.length k m = true → wpQuiet P ops C Lq l a → headQ P md ops C n (fun m' a' => (m' = preArr l.length k m ∧ ∀ j ∈ Region.ready md ops m', n ≤ j) ∧ Lq a') l.length m a := by
  induction l with
  | nil =>
    intro k m a _ hk _ hB h
    refine ⟨⟨rfl, fun j hj => ?_⟩, h⟩
    have := List.all_eq_true.1 hB j hj
    simpa using this
  | cons o l ih =>
    intro k m a hl hk inv hB h
    have h0 : ops[k]? = some o := by simpa using (hl 0 (by simp)).symm
    simp only [List.length_cons, lexPre, Bool.and_eq_true] at hB
    simp only [List.length_cons] at hk
    obtain ⟨⟨hr, hf⟩, hB'⟩ := hB
    have hr' : k ∈ Region.ready md ops m := by simpa using hr
    have hst : qOp P ops C k (wpQuiet P ops C Lq l) a := by unfold qOp; simp only [h0]; exact h
    obtain ⟨v, hy, hK⟩ := yieldsIn_of_qOp h0 hst
    refine preQ_first h0 (Region.noSelect_spec hsel) hp (by omega) (fun m' a' hL => hL.1.2) l.length m a inv (Region.free_spec h0 hf) hr' hy ?_
    refine ih (k + 1) _ _ (fun j hj => ?_) (by omega) (inv.set hr' (by omega)) hB' hK
    have := hl (j + 1) (by simp only [List.length_cons]; omega)
    rw [show k + 1 + j = k + (j + 1) by omega, ← this]
    rfl
/-- One walk of the first n operations; behind it the others, in every world of the class, in whatever order. -/
theorem wp_region_quiet_pre {id : Nat} {Q : Exit → Act → World → Prop} {a : Act} {w : World} {l : List Oper} (n : Nat) (hm : P.follows .mixedOrders = true) (hB : (Region.noSelect l.toArray && decide (n < l.toArray.size) && preB .any l.toArray n && lexPre .any l.toArray n n 0 (Array.replicate l.toArray.size false)) = true) (hC : C { w with drawn := w.drawn + 1 })
    (h : wpQuiet P l.toArray C (fun a' => ∀ w', C w' → wpAny P .any l.toArray Q (l.length - n) (preArr n 0 (Array.replicate l.toArray.size false)) a' w') (l.take n) a) : (Code.region id l.toArray true).wp P Q a w := by
  simp only [Bool.and_eq_true, decide_eq_true_eq] at hB
  obtain ⟨⟨⟨hsel, hn⟩, hp⟩, hlex⟩ := hB
  have hn' : n < l.length := by simpa using hn
  have htl : (l.take n).length = n := by simp; omega
  have inv : HeadInv .any l.toArray n (Array.replicate l.toArray.size false) :=
    ⟨by simp, fun j oj _ hl => (by rw [getD_replicate_false] at hl; cases hl), fun t _ ht => getD_in (by simpa using ht) (getD_replicate_false _ _)⟩
  have H := preQ_lex (md := .any) hsel hp (l.take n) 0 _ a (fun j hj => by
    rw [htl] at hj
    simp [hj]) (by simpa using htl) inv (by rw [htl]; exact hlex) h
  refine wp_region_any hm ?_
  have K := headQ_any (Q := Q) (g := l.toArray.size - n) (fun m a' w' hw' hL => by
    obtain ⟨⟨e, _⟩, hq⟩ := hL
    rw [e, htl]
    have := hq w' hw'
    rwa [show l.length - n = l.toArray.size - n by simp] at this) _ _ _ _ hC H
  rw [htl, show n + (l.toArray.size - n) = l.toArray.size by omega] at K
  exact K
end
theorem wp_region_grw_pre {P : Program} {id : Nat} {Q : Exit → Act → World → Prop} {a : Act} {w : World} {l : List Oper} (n : Nat) (hm : P.follows .mixedOrders = true) (hB : (Region.noSelect l.toArray && decide (n < l.toArray.size) && preB .any l.toArray n && lexPre .any l.toArray n n 0 (Array.replicate l.toArray.size false)) = true)
    (h : wpQuiet P l.toArray (fun w' => ∃ g : GrW w, w' = g.w) (fun a' => ∀ w', (∃ g : GrW w, w' = g.w) → wpAny P .any l.toArray Q (l.length - n) (preArr n 0 (Array.replicate l.toArray.size false)) a' w') (l.take n) a) : (Code.region id l.toArray true).wp P Q a w :=
  wp_region_quiet_pre (C := fun w' => ∃ g : GrW w, w' = g.w) n hm hB ⟨⟨_, Gr.drew (Gr.refl w)⟩, rfl⟩ h
end Go.Proofs.YtddhaiaapomdjaaGreat
set_option linter.unusedVariables false
set_option linter.unusedSimpArgs false
namespace Go.Proofs.YtddhaiaapomdjaaGreat
set_option linter.unusedVariables false
set_option linter.unusedSimpArgs false
open Go Go.ChangeShapes Go.WideShapes Go.ChangeAt Go.RowKit Go.Deep

namespace RG
/-- whether rectangles lie well on a sheet, with a turn -/
def lwB (mt' : ByteArray) (ga' gr' : Int) (l : List Rc) (s : ShT) (k m : Int) : Bool := alB mt' s.mt ga' s.ga gr' s.gr k && (aiB l (inmR s.wd s.ht m) && !npB ovQ l (s.cl ++ s.us))
set_option maxHeartbeats 8000000 in
set_option maxRecDepth 100000 in
theorem liesWell_any (nm' mt' : ByteArray) (ga' gr' : Int) (rA : Option Addr) (rc : Nat) (l : List Rc) (V5 V6 : Value) (s : ShT) (k : Int) (t : St) (w : World) (hs : ShW w s) (hl : SlR w rA rc l) (hS : ShG s) (hm : 0 ≤ t.m ∧ t.m ≤ 14400) :
    Calls Tryz.prog 80 #[pcvv nm' mt' ga' gr' (.slice rA l.length rc) V5 V6, s.v, iv k, stvv t] w fun e w' => e = .returned (.bool (lwB mt' ga' gr' l s k t.m)) ∧ Gr w w' := by
  have HA := hide (fun (w' : World) => Allowed_any nm' mt' ga' gr' (.slice rA l.length rc) V5 V6 s.nm s.mt s.ga s.gr (iv s.wd) (iv s.ht) (.slice s.cA s.cl.length s.cc) (.slice s.uA s.us.length s.uc) k w')
  have HW := hide (fun (w' : World) => withoutMargin_any s.nm s.mt s.ga s.gr s.wd s.ht (.slice s.cA s.cl.length s.cc) (.slice s.uA s.us.length s.uc) t.m w' ⟨by have := hS.wd; omega, by have := hS.wd; omega⟩ ⟨by have := hS.ht; omega, by have := hS.ht; omega⟩ ⟨by omega, by omega⟩)
  have HI := hide (fun (w' : World) (g : Gr w w') => allInside_any rA rc l (inmR s.wd s.ht t.m) w' (hl.gr g))
  have HB := hide (fun (w' : World) (g : Gr w w') => blocks_any s.nm s.mt s.ga s.gr s.wd s.ht s.cA s.cc s.cl s.uA s.uc s.us w' (hs.c.gr g) (hs.u.gr g) (by have := hS.n; rw [List.length_append] at this; omega) (by have := hS.n; rw [List.length_append] at this; omega))
  have HO := hide (fun (D : Option Addr) (q : Nat) (w' : World) (g : Gr w w') (hd : SlR w' D q (s.cl ++ s.us)) => anyOverlap_any rA rc l D q (s.cl ++ s.us) w' (hl.gr g) hd)
  have HE := hide (show lwB mt' ga' gr' l s k t.m = (alB mt' s.mt ga' s.ga gr' s.gr k && (aiB l (inmR s.wd s.ht t.m) && !npB ovQ l (s.cl ++ s.us))) from rfl)
  clear hs hl hS hm
  obtain ⟨nm, mt, ga, gr, wd, ht, cA, cc, cl, uA, uc, us⟩ := s
  obtain ⟨g, m, cm⟩ := t
  dsimp only at HA HW HI HB HO HE ⊢
  obtain ⟨L, hL⟩ : ∃ L, cl ++ us = L := ⟨_, rfl⟩
  rw [hL] at HB HO HE
  clear hL
  generalize lwB _ _ _ _ _ _ _ = E at *
  generalize alB _ _ _ _ _ _ _ = E1 at *
  generalize aiB _ _ = E2 at *
  generalize npB _ _ _ = E3 at *
  cases E1 with
  | false =>
    have HF := hide (show E = false by rw [HE.out]; rfl)
    go_enter Tryz.func80, Tryz.ntmps80
    go_wp2_with fail
    have GC := @GrW.cell
    refine wp_region_grw _ (by kernel_rfl) (by kernel_rfl) (Gr.refl _) ?_
    repeat (go_big_quiet_step ((first | (go_at_call 66; exact quiet_grw (HA.out _)))))
    refine wpQuiet_nil ?_
    intro wq hwq
    obtain ⟨gq, hwq'⟩ := hwq
    subst hwq'
    clear GC
    have gq1 := gq.gr
    generalize gq.w = wq at gq1 ⊢
    obtain ⟨Xq, Yq, cq, fq⟩ := gq1.use
    have sq := gq1.size
    (try simp only [World.size_alloc, World.size_setCell, World.heap_drewN] at sq)
    go_wp2
    go_ret
    exact ⟨ret_bool HF.out.symm, (by with_reducible repeat (first | exact Gr.refl _ | assumption | refine Gr.alloc ?_ _ | refine Gr.drewN ?_ _ | refine Gr.drew ?_ | refine Gr.setCell ?_ (by first | (dsimp only; omega) | (simp only [World.size_alloc]; omega) | (refine Gr.size ?_; (repeat (first | exact Gr.refl _ | assumption | refine Gr.alloc ?_ _ | refine Gr.drewN ?_ _ | refine Gr.drew ?_ | refine Gr.trans ?_ (by assumption))); done)) _ | refine Gr.trans ?_ (by assumption)))⟩
  | true =>
    cases E2 with
    | false =>
      have HF := hide (show E = false by rw [HE.out]; rfl)
      go_enter Tryz.func80, Tryz.ntmps80
      go_wp2_with fail
      have GC := @GrW.cell
      refine wp_region_grw _ (by kernel_rfl) (by kernel_rfl) (Gr.refl _) ?_
      repeat (go_big_quiet_step ((first | (go_at_call 66; exact quiet_grw (HA.out _)) | (go_at_call 108; exact quiet_grw (HW.out _)) | (go_at_call 89; exact quiet_grw (HI.out _ (Gr.trans (Gr.alloc (Gr.alloc (Gr.alloc (Gr.refl w) _) _) _) (GrW.gr _)))))))
      refine wpQuiet_nil ?_
      intro wq hwq
      obtain ⟨gq, hwq'⟩ := hwq
      subst hwq'
      clear GC
      have gq1 := gq.gr
      generalize gq.w = wq at gq1 ⊢
      obtain ⟨Xq, Yq, cq, fq⟩ := gq1.use
      have sq := gq1.size
      (try simp only [World.size_alloc, World.size_setCell, World.heap_drewN] at sq)
      go_wp2
      go_ret
      exact ⟨ret_bool HF.out.symm, (by with_reducible repeat (first | exact Gr.refl _ | assumption | refine Gr.alloc ?_ _ | refine Gr.drewN ?_ _ | refine Gr.drew ?_ | refine Gr.setCell ?_ (by first | (dsimp only; omega) | (simp only [World.size_alloc]; omega) | (refine Gr.size ?_; (repeat (first | exact Gr.refl _ | assumption | refine Gr.alloc ?_ _ | refine Gr.drewN ?_ _ | refine Gr.drew ?_ | refine Gr.trans ?_ (by assumption))); done)) _ | refine Gr.trans ?_ (by assumption)))⟩
    | true =>
      have HF := hide (show E = !E3 by rw [HE.out]; rfl)
      go_enter Tryz.func80, Tryz.ntmps80
      go_wp2_with fail
      have GC := @GrW.cell
      refine wp_region_grw_pre 14 (by kernel_rfl) (by kernel_rfl) ?_
      simp only [List.take_succ_cons, List.take_zero]
      repeat (go_big_quiet_step ((first | (go_at_call 66; exact quiet_grw (HA.out _)) | (go_at_call 108; exact quiet_grw (HW.out _)) | (go_at_call 89; exact quiet_grw (HI.out _ (Gr.trans (Gr.alloc (Gr.alloc (Gr.alloc (Gr.refl w) _) _) _) (GrW.gr _)))))))
      refine wpQuiet_nil ?_
      intro wq hwq
      obtain ⟨gq, hwq'⟩ := hwq
      subst hwq'
      clear GC
      have gq1 := gq.gr
      generalize gq.w = wq at gq1 ⊢
      obtain ⟨Xq, Yq, cq, fq⟩ := gq1.use
      change wpAny _ .any _ _ 8 #[true, true, true, true, true, true, true, true, true, true, true, true, true, true, false, false, false, false, false, false, false, false] _ _
      refine wpAny_ready (rs := [14, 16]) (by kernel_rfl) (by simp) ?_
      refine AllReady.cons rfl (fun K hK => ?_) ?_
      · go_simp
        refine hK _ _ ?_
        clear hK K
        refine wpAny_ready (rs := [15, 16]) (by kernel_rfl) (by simp) ?_
        refine AllReady.cons rfl (fun K hK => ?_) ?_
        · go_simp
          refine hK _ _ ?_
          clear hK K
          refine wpAny_ready (rs := [16]) (by kernel_rfl) (by simp) ?_
          refine AllReady.cons rfl (fun K hK => ?_) ?_
          · go_simp
            refine hK _ _ ?_
            clear hK K
            refine wpAny_ready (rs := [17]) (by kernel_rfl) (by simp) ?_
            refine AllReady.cons rfl (fun K hK => ?_) ?_
            · go_simp
              go_wp2_with (go_at_call 44; refine (HB.out _ (by with_reducible repeat (first | exact Gr.refl _ | assumption | refine Gr.alloc ?_ _ | refine Gr.drewN ?_ _ | refine Gr.drew ?_ | refine Gr.setCell ?_ (by first | (dsimp only; omega) | (simp only [World.size_alloc]; omega) | (refine Gr.size ?_; (repeat (first | exact Gr.refl _ | assumption | refine Gr.alloc ?_ _ | refine Gr.drewN ?_ _ | refine Gr.drew ?_ | refine Gr.trans ?_ (by assumption))); done)) _ | refine Gr.trans ?_ (by assumption)))).mono ?_; rintro e w1 ⟨D, rfl, hD, g1⟩; obtain ⟨X1, Y1, c1, f1⟩ := g1.use)
              (try (refine hK _ _ ?_; clear hK K))
              refine wpAny_ready (rs := [18]) (by kernel_rfl) (by simp) ?_
              refine AllReady.cons rfl (fun K hK => ?_) ?_
              · go_simp
                go_wp2_with (go_at_call 43; refine (HO.out _ _ _ (by with_reducible repeat (first | exact Gr.refl _ | assumption | refine Gr.alloc ?_ _ | refine Gr.drewN ?_ _ | refine Gr.drew ?_ | refine Gr.setCell ?_ (by first | (dsimp only; omega) | (simp only [World.size_alloc]; omega) | (refine Gr.size ?_; (repeat (first | exact Gr.refl _ | assumption | refine Gr.alloc ?_ _ | refine Gr.drewN ?_ _ | refine Gr.drew ?_ | refine Gr.trans ?_ (by assumption))); done)) _ | refine Gr.trans ?_ (by assumption))) (SlR.gr (by with_reducible assumption) (by with_reducible repeat (first | exact Gr.refl _ | assumption | refine Gr.alloc ?_ _ | refine Gr.drewN ?_ _ | refine Gr.drew ?_ | refine Gr.setCell ?_ (by first | (dsimp only; omega) | (simp only [World.size_alloc]; omega) | (refine Gr.size ?_; (repeat (first | exact Gr.refl _ | assumption | refine Gr.alloc ?_ _ | refine Gr.drewN ?_ _ | refine Gr.drew ?_ | refine Gr.trans ?_ (by assumption))); done)) _ | refine Gr.trans ?_ (by assumption))))).mono ?_; rintro e w2 ⟨rfl, g2⟩; obtain ⟨X2, Y2, c2, f2⟩ := g2.use)
                (try (refine hK _ _ ?_; clear hK K))
                refine wpAny_ready (rs := [19]) (by kernel_rfl) (by simp) ?_
                refine AllReady.cons rfl (fun K hK => ?_) ?_
                · go_simp
                  refine hK _ _ ?_
                  clear hK K
                  refine wpAny_ready (rs := [20]) (by kernel_rfl) (by simp) ?_
                  refine AllReady.cons rfl (fun K hK => ?_) ?_
                  · go_simp
                    refine hK _ _ ?_
                    clear hK K
                    refine wpAny_ready (rs := [21]) (by kernel_rfl) (by simp) ?_
                    refine AllReady.cons rfl (fun K hK => ?_) ?_
                    · go_simp
                      refine hK _ _ ?_
                      clear hK K
                      refine wpAny_done (by kernel_rfl) ?_ _
                      go_wp2
                      go_ret
                      exact ⟨ret_bool HF.out.symm, (by with_reducible repeat (first | exact Gr.refl _ | assumption | refine Gr.alloc ?_ _ | refine Gr.drewN ?_ _ | refine Gr.drew ?_ | refine Gr.setCell ?_ (by first | (dsimp only; omega) | (simp only [World.size_alloc]; omega) | (refine Gr.size ?_; (repeat (first | exact Gr.refl _ | assumption | refine Gr.alloc ?_ _ | refine Gr.drewN ?_ _ | refine Gr.drew ?_ | refine Gr.trans ?_ (by assumption))); done)) _ | refine Gr.trans ?_ (by assumption)))⟩
                    exact AllReady.nil
                  exact AllReady.nil
                exact AllReady.nil
              exact AllReady.nil
            exact AllReady.nil
          exact AllReady.nil
        refine AllReady.cons rfl (fun K hK => ?_) ?_
        · go_simp
          refine hK _ _ ?_
          clear hK K
          refine wpAny_ready (rs := [15, 17]) (by kernel_rfl) (by simp) ?_
          refine AllReady.cons rfl (fun K hK => ?_) ?_
          · go_simp
            refine hK _ _ ?_
            clear hK K
            refine wpAny_ready (rs := [17]) (by kernel_rfl) (by simp) ?_
            refine AllReady.cons rfl (fun K hK => ?_) ?_
            · go_simp
              go_wp2_with (go_at_call 44; refine (HB.out _ (by with_reducible repeat (first | exact Gr.refl _ | assumption | refine Gr.alloc ?_ _ | refine Gr.drewN ?_ _ | refine Gr.drew ?_ | refine Gr.setCell ?_ (by first | (dsimp only; omega) | (simp only [World.size_alloc]; omega) | (refine Gr.size ?_; (repeat (first | exact Gr.refl _ | assumption | refine Gr.alloc ?_ _ | refine Gr.drewN ?_ _ | refine Gr.drew ?_ | refine Gr.trans ?_ (by assumption))); done)) _ | refine Gr.trans ?_ (by assumption)))).mono ?_; rintro e w1 ⟨D, rfl, hD, g1⟩; obtain ⟨X1, Y1, c1, f1⟩ := g1.use)
              (try (refine hK _ _ ?_; clear hK K))
              refine wpAny_ready (rs := [18]) (by kernel_rfl) (by simp) ?_
              refine AllReady.cons rfl (fun K hK => ?_) ?_
              · go_simp
                go_wp2_with (go_at_call 43; refine (HO.out _ _ _ (by with_reducible repeat (first | exact Gr.refl _ | assumption | refine Gr.alloc ?_ _ | refine Gr.drewN ?_ _ | refine Gr.drew ?_ | refine Gr.setCell ?_ (by first | (dsimp only; omega) | (simp only [World.size_alloc]; omega) | (refine Gr.size ?_; (repeat (first | exact Gr.refl _ | assumption | refine Gr.alloc ?_ _ | refine Gr.drewN ?_ _ | refine Gr.drew ?_ | refine Gr.trans ?_ (by assumption))); done)) _ | refine Gr.trans ?_ (by assumption))) (SlR.gr (by with_reducible assumption) (by with_reducible repeat (first | exact Gr.refl _ | assumption | refine Gr.alloc ?_ _ | refine Gr.drewN ?_ _ | refine Gr.drew ?_ | refine Gr.setCell ?_ (by first | (dsimp only; omega) | (simp only [World.size_alloc]; omega) | (refine Gr.size ?_; (repeat (first | exact Gr.refl _ | assumption | refine Gr.alloc ?_ _ | refine Gr.drewN ?_ _ | refine Gr.drew ?_ | refine Gr.trans ?_ (by assumption))); done)) _ | refine Gr.trans ?_ (by assumption))))).mono ?_; rintro e w2 ⟨rfl, g2⟩; obtain ⟨X2, Y2, c2, f2⟩ := g2.use)
                (try (refine hK _ _ ?_; clear hK K))
                refine wpAny_ready (rs := [19]) (by kernel_rfl) (by simp) ?_
                refine AllReady.cons rfl (fun K hK => ?_) ?_
                · go_simp
                  refine hK _ _ ?_
                  clear hK K
                  refine wpAny_ready (rs := [20]) (by kernel_rfl) (by simp) ?_
                  refine AllReady.cons rfl (fun K hK => ?_) ?_
                  · go_simp
                    refine hK _ _ ?_
                    clear hK K
                    refine wpAny_ready (rs := [21]) (by kernel_rfl) (by simp) ?_
                    refine AllReady.cons rfl (fun K hK => ?_) ?_
                    · go_simp
                      refine hK _ _ ?_
                      clear hK K
                      refine wpAny_done (by kernel_rfl) ?_ _
                      go_wp2
                      go_ret
                      exact ⟨ret_bool HF.out.symm, (by with_reducible repeat (first | exact Gr.refl _ | assumption | refine Gr.alloc ?_ _ | refine Gr.drewN ?_ _ | refine Gr.drew ?_ | refine Gr.setCell ?_ (by first | (dsimp only; omega) | (simp only [World.size_alloc]; omega) | (refine Gr.size ?_; (repeat (first | exact Gr.refl _ | assumption | refine Gr.alloc ?_ _ | refine Gr.drewN ?_ _ | refine Gr.drew ?_ | refine Gr.trans ?_ (by assumption))); done)) _ | refine Gr.trans ?_ (by assumption)))⟩
                    exact AllReady.nil
                  exact AllReady.nil
                exact AllReady.nil
              exact AllReady.nil
            exact AllReady.nil
          refine AllReady.cons rfl (fun K hK => ?_) ?_
          · go_simp
            go_wp2_with (go_at_call 44; refine (HB.out _ (by with_reducible repeat (first | exact Gr.refl _ | assumption | refine Gr.alloc ?_ _ | refine Gr.drewN ?_ _ | refine Gr.drew ?_ | refine Gr.setCell ?_ (by first | (dsimp only; omega) | (simp only [World.size_alloc]; omega) | (refine Gr.size ?_; (repeat (first | exact Gr.refl _ | assumption | refine Gr.alloc ?_ _ | refine Gr.drewN ?_ _ | refine Gr.drew ?_ | refine Gr.trans ?_ (by assumption))); done)) _ | refine Gr.trans ?_ (by assumption)))).mono ?_; rintro e w1 ⟨D, rfl, hD, g1⟩; obtain ⟨X1, Y1, c1, f1⟩ := g1.use)
            (try (refine hK _ _ ?_; clear hK K))
            refine wpAny_ready (rs := [15]) (by kernel_rfl) (by simp) ?_
            refine AllReady.cons rfl (fun K hK => ?_) ?_
            · go_simp
              refine hK _ _ ?_
              clear hK K
              refine wpAny_ready (rs := [18]) (by kernel_rfl) (by simp) ?_
              refine AllReady.cons rfl (fun K hK => ?_) ?_
              · go_simp
                go_wp2_with (go_at_call 43; refine (HO.out _ _ _ (by with_reducible repeat (first | exact Gr.refl _ | assumption | refine Gr.alloc ?_ _ | refine Gr.drewN ?_ _ | refine Gr.drew ?_ | refine Gr.setCell ?_ (by first | (dsimp only; omega) | (simp only [World.size_alloc]; omega) | (refine Gr.size ?_; (repeat (first | exact Gr.refl _ | assumption | refine Gr.alloc ?_ _ | refine Gr.drewN ?_ _ | refine Gr.drew ?_ | refine Gr.trans ?_ (by assumption))); done)) _ | refine Gr.trans ?_ (by assumption))) (SlR.gr (by with_reducible assumption) (by with_reducible repeat (first | exact Gr.refl _ | assumption | refine Gr.alloc ?_ _ | refine Gr.drewN ?_ _ | refine Gr.drew ?_ | refine Gr.setCell ?_ (by first | (dsimp only; omega) | (simp only [World.size_alloc]; omega) | (refine Gr.size ?_; (repeat (first | exact Gr.refl _ | assumption | refine Gr.alloc ?_ _ | refine Gr.drewN ?_ _ | refine Gr.drew ?_ | refine Gr.trans ?_ (by assumption))); done)) _ | refine Gr.trans ?_ (by assumption))))).mono ?_; rintro e w2 ⟨rfl, g2⟩; obtain ⟨X2, Y2, c2, f2⟩ := g2.use)
                (try (refine hK _ _ ?_; clear hK K))
                refine wpAny_ready (rs := [19]) (by kernel_rfl) (by simp) ?_
                refine AllReady.cons rfl (fun K hK => ?_) ?_
                · go_simp
                  refine hK _ _ ?_
                  clear hK K
                  refine wpAny_ready (rs := [20]) (by kernel_rfl) (by simp) ?_
                  refine AllReady.cons rfl (fun K hK => ?_) ?_
                  · go_simp
                    refine hK _ _ ?_
                    clear hK K
                    refine wpAny_ready (rs := [21]) (by kernel_rfl) (by simp) ?_
                    refine AllReady.cons rfl (fun K hK => ?_) ?_
                    · go_simp
                      refine hK _ _ ?_
                      clear hK K
                      refine wpAny_done (by kernel_rfl) ?_ _
                      go_wp2
                      go_ret
                      exact ⟨ret_bool HF.out.symm, (by with_reducible repeat (first | exact Gr.refl _ | assumption | refine Gr.alloc ?_ _ | refine Gr.drewN ?_ _ | refine Gr.drew ?_ | refine Gr.setCell ?_ (by first | (dsimp only; omega) | (simp only [World.size_alloc]; omega) | (refine Gr.size ?_; (repeat (first | exact Gr.refl _ | assumption | refine Gr.alloc ?_ _ | refine Gr.drewN ?_ _ | refine Gr.drew ?_ | refine Gr.trans ?_ (by assumption))); done)) _ | refine Gr.trans ?_ (by assumption)))⟩
                    exact AllReady.nil
                  exact AllReady.nil
                exact AllReady.nil
              exact AllReady.nil
            exact AllReady.nil
          exact AllReady.nil
        exact AllReady.nil
      refine AllReady.cons rfl (fun K hK => ?_) ?_
      · go_simp
        refine hK _ _ ?_
        clear hK K
        refine wpAny_ready (rs := [14, 17]) (by kernel_rfl) (by simp) ?_
        refine AllReady.cons rfl (fun K hK => ?_) ?_
        · go_simp
          refine hK _ _ ?_
          clear hK K
          refine wpAny_ready (rs := [15, 17]) (by kernel_rfl) (by simp) ?_
          refine AllReady.cons rfl (fun K hK => ?_) ?_
          · go_simp
            refine hK _ _ ?_
            clear hK K
            refine wpAny_ready (rs := [17]) (by kernel_rfl) (by simp) ?_
            refine AllReady.cons rfl (fun K hK => ?_) ?_
            · go_simp
              go_wp2_with (go_at_call 44; refine (HB.out _ (by with_reducible repeat (first | exact Gr.refl _ | assumption | refine Gr.alloc ?_ _ | refine Gr.drewN ?_ _ | refine Gr.drew ?_ | refine Gr.setCell ?_ (by first | (dsimp only; omega) | (simp only [World.size_alloc]; omega) | (refine Gr.size ?_; (repeat (first | exact Gr.refl _ | assumption | refine Gr.alloc ?_ _ | refine Gr.drewN ?_ _ | refine Gr.drew ?_ | refine Gr.trans ?_ (by assumption))); done)) _ | refine Gr.trans ?_ (by assumption)))).mono ?_; rintro e w1 ⟨D, rfl, hD, g1⟩; obtain ⟨X1, Y1, c1, f1⟩ := g1.use)
              (try (refine hK _ _ ?_; clear hK K))
              refine wpAny_ready (rs := [18]) (by kernel_rfl) (by simp) ?_
              refine AllReady.cons rfl (fun K hK => ?_) ?_
              · go_simp
                go_wp2_with (go_at_call 43; refine (HO.out _ _ _ (by with_reducible repeat (first | exact Gr.refl _ | assumption | refine Gr.alloc ?_ _ | refine Gr.drewN ?_ _ | refine Gr.drew ?_ | refine Gr.setCell ?_ (by first | (dsimp only; omega) | (simp only [World.size_alloc]; omega) | (refine Gr.size ?_; (repeat (first | exact Gr.refl _ | assumption | refine Gr.alloc ?_ _ | refine Gr.drewN ?_ _ | refine Gr.drew ?_ | refine Gr.trans ?_ (by assumption))); done)) _ | refine Gr.trans ?_ (by assumption))) (SlR.gr (by with_reducible assumption) (by with_reducible repeat (first | exact Gr.refl _ | assumption | refine Gr.alloc ?_ _ | refine Gr.drewN ?_ _ | refine Gr.drew ?_ | refine Gr.setCell ?_ (by first | (dsimp only; omega) | (simp only [World.size_alloc]; omega) | (refine Gr.size ?_; (repeat (first | exact Gr.refl _ | assumption | refine Gr.alloc ?_ _ | refine Gr.drewN ?_ _ | refine Gr.drew ?_ | refine Gr.trans ?_ (by assumption))); done)) _ | refine Gr.trans ?_ (by assumption))))).mono ?_; rintro e w2 ⟨rfl, g2⟩; obtain ⟨X2, Y2, c2, f2⟩ := g2.use)
                (try (refine hK _ _ ?_; clear hK K))
                refine wpAny_ready (rs := [19]) (by kernel_rfl) (by simp) ?_
                refine AllReady.cons rfl (fun K hK => ?_) ?_
                · go_simp
                  refine hK _ _ ?_
                  clear hK K
                  refine wpAny_ready (rs := [20]) (by kernel_rfl) (by simp) ?_
                  refine AllReady.cons rfl (fun K hK => ?_) ?_
                  · go_simp
                    refine hK _ _ ?_
                    clear hK K
                    refine wpAny_ready (rs := [21]) (by kernel_rfl) (by simp) ?_
                    refine AllReady.cons rfl (fun K hK => ?_) ?_
                    · go_simp
                      refine hK _ _ ?_
                      clear hK K
                      refine wpAny_done (by kernel_rfl) ?_ _
                      go_wp2
                      go_ret
                      exact ⟨ret_bool HF.out.symm, (by with_reducible repeat (first | exact Gr.refl _ | assumption | refine Gr.alloc ?_ _ | refine Gr.drewN ?_ _ | refine Gr.drew ?_ | refine Gr.setCell ?_ (by first | (dsimp only; omega) | (simp only [World.size_alloc]; omega) | (refine Gr.size ?_; (repeat (first | exact Gr.refl _ | assumption | refine Gr.alloc ?_ _ | refine Gr.drewN ?_ _ | refine Gr.drew ?_ | refine Gr.trans ?_ (by assumption))); done)) _ | refine Gr.trans ?_ (by assumption)))⟩
                    exact AllReady.nil
                  exact AllReady.nil
                exact AllReady.nil
              exact AllReady.nil
            exact AllReady.nil
          refine AllReady.cons rfl (fun K hK => ?_) ?_
          · go_simp
            go_wp2_with (go_at_call 44; refine (HB.out _ (by with_reducible repeat (first | exact Gr.refl _ | assumption | refine Gr.alloc ?_ _ | refine Gr.drewN ?_ _ | refine Gr.drew ?_ | refine Gr.setCell ?_ (by first | (dsimp only; omega) | (simp only [World.size_alloc]; omega) | (refine Gr.size ?_; (repeat (first | exact Gr.refl _ | assumption | refine Gr.alloc ?_ _ | refine Gr.drewN ?_ _ | refine Gr.drew ?_ | refine Gr.trans ?_ (by assumption))); done)) _ | refine Gr.trans ?_ (by assumption)))).mono ?_; rintro e w1 ⟨D, rfl, hD, g1⟩; obtain ⟨X1, Y1, c1, f1⟩ := g1.use)
            (try (refine hK _ _ ?_; clear hK K))
            refine wpAny_ready (rs := [15]) (by kernel_rfl) (by simp) ?_
            refine AllReady.cons rfl (fun K hK => ?_) ?_
            · go_simp
              refine hK _ _ ?_
              clear hK K
              refine wpAny_ready (rs := [18]) (by kernel_rfl) (by simp) ?_
              refine AllReady.cons rfl (fun K hK => ?_) ?_
              · go_simp
                go_wp2_with (go_at_call 43; refine (HO.out _ _ _ (by with_reducible repeat (first | exact Gr.refl _ | assumption | refine Gr.alloc ?_ _ | refine Gr.drewN ?_ _ | refine Gr.drew ?_ | refine Gr.setCell ?_ (by first | (dsimp only; omega) | (simp only [World.size_alloc]; omega) | (refine Gr.size ?_; (repeat (first | exact Gr.refl _ | assumption | refine Gr.alloc ?_ _ | refine Gr.drewN ?_ _ | refine Gr.drew ?_ | refine Gr.trans ?_ (by assumption))); done)) _ | refine Gr.trans ?_ (by assumption))) (SlR.gr (by with_reducible assumption) (by with_reducible repeat (first | exact Gr.refl _ | assumption | refine Gr.alloc ?_ _ | refine Gr.drewN ?_ _ | refine Gr.drew ?_ | refine Gr.setCell ?_ (by first | (dsimp only; omega) | (simp only [World.size_alloc]; omega) | (refine Gr.size ?_; (repeat (first | exact Gr.refl _ | assumption | refine Gr.alloc ?_ _ | refine Gr.drewN ?_ _ | refine Gr.drew ?_ | refine Gr.trans ?_ (by assumption))); done)) _ | refine Gr.trans ?_ (by assumption))))).mono ?_; rintro e w2 ⟨rfl, g2⟩; obtain ⟨X2, Y2, c2, f2⟩ := g2.use)
                (try (refine hK _ _ ?_; clear hK K))
                refine wpAny_ready (rs := [19]) (by kernel_rfl) (by simp) ?_
                refine AllReady.cons rfl (fun K hK => ?_) ?_
                · go_simp
                  refine hK _ _ ?_
                  clear hK K
                  refine wpAny_ready (rs := [20]) (by kernel_rfl) (by simp) ?_
                  refine AllReady.cons rfl (fun K hK => ?_) ?_
                  · go_simp
                    refine hK _ _ ?_
                    clear hK K
                    refine wpAny_ready (rs := [21]) (by kernel_rfl) (by simp) ?_
                    refine AllReady.cons rfl (fun K hK => ?_) ?_
                    · go_simp
                      refine hK _ _ ?_
                      clear hK K
                      refine wpAny_done (by kernel_rfl) ?_ _
                      go_wp2
                      go_ret
                      exact ⟨ret_bool HF.out.symm, (by with_reducible repeat (first | exact Gr.refl _ | assumption | refine Gr.alloc ?_ _ | refine Gr.drewN ?_ _ | refine Gr.drew ?_ | refine Gr.setCell ?_ (by first | (dsimp only; omega) | (simp only [World.size_alloc]; omega) | (refine Gr.size ?_; (repeat (first | exact Gr.refl _ | assumption | refine Gr.alloc ?_ _ | refine Gr.drewN ?_ _ | refine Gr.drew ?_ | refine Gr.trans ?_ (by assumption))); done)) _ | refine Gr.trans ?_ (by assumption)))⟩
                    exact AllReady.nil
                  exact AllReady.nil
                exact AllReady.nil
              exact AllReady.nil
            exact AllReady.nil
          exact AllReady.nil
        refine AllReady.cons rfl (fun K hK => ?_) ?_
        · go_simp
          go_wp2_with (go_at_call 44; refine (HB.out _ (by with_reducible repeat (first | exact Gr.refl _ | assumption | refine Gr.alloc ?_ _ | refine Gr.drewN ?_ _ | refine Gr.drew ?_ | refine Gr.setCell ?_ (by first | (dsimp only; omega) | (simp only [World.size_alloc]; omega) | (refine Gr.size ?_; (repeat (first | exact Gr.refl _ | assumption | refine Gr.alloc ?_ _ | refine Gr.drewN ?_ _ | refine Gr.drew ?_ | refine Gr.trans ?_ (by assumption))); done)) _ | refine Gr.trans ?_ (by assumption)))).mono ?_; rintro e w1 ⟨D, rfl, hD, g1⟩; obtain ⟨X1, Y1, c1, f1⟩ := g1.use)
          (try (refine hK _ _ ?_; clear hK K))
          refine wpAny_ready (rs := [14]) (by kernel_rfl) (by simp) ?_
          refine AllReady.cons rfl (fun K hK => ?_) ?_
          · go_simp
            refine hK _ _ ?_
            clear hK K
            refine wpAny_ready (rs := [15]) (by kernel_rfl) (by simp) ?_
            refine AllReady.cons rfl (fun K hK => ?_) ?_
            · go_simp
              refine hK _ _ ?_
              clear hK K
              refine wpAny_ready (rs := [18]) (by kernel_rfl) (by simp) ?_
              refine AllReady.cons rfl (fun K hK => ?_) ?_
              · go_simp
                go_wp2_with (go_at_call 43; refine (HO.out _ _ _ (by with_reducible repeat (first | exact Gr.refl _ | assumption | refine Gr.alloc ?_ _ | refine Gr.drewN ?_ _ | refine Gr.drew ?_ | refine Gr.setCell ?_ (by first | (dsimp only; omega) | (simp only [World.size_alloc]; omega) | (refine Gr.size ?_; (repeat (first | exact Gr.refl _ | assumption | refine Gr.alloc ?_ _ | refine Gr.drewN ?_ _ | refine Gr.drew ?_ | refine Gr.trans ?_ (by assumption))); done)) _ | refine Gr.trans ?_ (by assumption))) (SlR.gr (by with_reducible assumption) (by with_reducible repeat (first | exact Gr.refl _ | assumption | refine Gr.alloc ?_ _ | refine Gr.drewN ?_ _ | refine Gr.drew ?_ | refine Gr.setCell ?_ (by first | (dsimp only; omega) | (simp only [World.size_alloc]; omega) | (refine Gr.size ?_; (repeat (first | exact Gr.refl _ | assumption | refine Gr.alloc ?_ _ | refine Gr.drewN ?_ _ | refine Gr.drew ?_ | refine Gr.trans ?_ (by assumption))); done)) _ | refine Gr.trans ?_ (by assumption))))).mono ?_; rintro e w2 ⟨rfl, g2⟩; obtain ⟨X2, Y2, c2, f2⟩ := g2.use)
                (try (refine hK _ _ ?_; clear hK K))
                refine wpAny_ready (rs := [19]) (by kernel_rfl) (by simp) ?_
                refine AllReady.cons rfl (fun K hK => ?_) ?_
                · go_simp
                  refine hK _ _ ?_
                  clear hK K
                  refine wpAny_ready (rs := [20]) (by kernel_rfl) (by simp) ?_
                  refine AllReady.cons rfl (fun K hK => ?_) ?_
                  · go_simp
                    refine hK _ _ ?_
                    clear hK K
                    refine wpAny_ready (rs := [21]) (by kernel_rfl) (by simp) ?_
                    refine AllReady.cons rfl (fun K hK => ?_) ?_
                    · go_simp
                      refine hK _ _ ?_
                      clear hK K
                      refine wpAny_done (by kernel_rfl) ?_ _
                      go_wp2
                      go_ret
                      exact ⟨ret_bool HF.out.symm, (by with_reducible repeat (first | exact Gr.refl _ | assumption | refine Gr.alloc ?_ _ | refine Gr.drewN ?_ _ | refine Gr.drew ?_ | refine Gr.setCell ?_ (by first | (dsimp only; omega) | (simp only [World.size_alloc]; omega) | (refine Gr.size ?_; (repeat (first | exact Gr.refl _ | assumption | refine Gr.alloc ?_ _ | refine Gr.drewN ?_ _ | refine Gr.drew ?_ | refine Gr.trans ?_ (by assumption))); done)) _ | refine Gr.trans ?_ (by assumption)))⟩
                    exact AllReady.nil
                  exact AllReady.nil
                exact AllReady.nil
              exact AllReady.nil
            exact AllReady.nil
          exact AllReady.nil
        exact AllReady.nil
      exact AllReady.nil
end RG
end Go.Proofs.YtddhaiaapomdjaaGreat
set_option linter.unusedVariables false
set_option linter.unusedSimpArgs false
namespace Go.Proofs.YtddhaiaapomdjaaGreat
set_option linter.unusedVariables false
set_option linter.unusedSimpArgs false
open Go Go.ChangeShapes Go.WideShapes Go.ChangeAt Go.RowKit Go.Deep

namespace RG
end RG
end Go.Proofs.YtddhaiaapomdjaaGreat
set_option linter.unusedVariables false
set_option linter.unusedSimpArgs false
namespace Go.Proofs.YtddhaiaapomdjaaGreat
set_option linter.unusedVariables false
set_option linter.unusedSimpArgs false
open Go Go.ChangeShapes Go.WideShapes Go.ChangeAt Go.RowKit Go.Deep

namespace RG
theorem NsS.kx {X : Nat → Prop} {w w' : World} {lo P T : Nat} {pl : List Bool} {tk : List Tk} (h : NsS w lo P T pl tk) (g : Kx X w w') (hP : ¬ X P) (hT : ¬ X T) (hx : ∀ i, X i → i < lo) (hy : ∀ (k : Nat) (x : Tk), tk[k]? = some x → ∀ y ∈ x.L, y.l ≠ [] → ∀ a, y.A = some a → ¬ X a.block) : NsS w' lo P T pl tk := by
  have hp := h.lp
  have ht := h.lt
  have hs := h.sz
  refine ⟨fun i b hb => (g.cell (by omega) hP _).trans (h.p i b hb), fun i => (g.frozen (by omega) hP _).trans (h.pf i), fun k x hx => (g.cell (by omega) hT _).trans (h.t k x hx), fun i => (g.frozen (by omega) hT _).trans (h.tf i), fun k x hk => (h.ow k x hk).kx g (fun i hi hX => ?_), fun k x hk y hy' => SlR.kx (h.el k x hk y hy') g (fun hl a ha => hy k x hk y hy' hl a ha), h.far, h.dj, hp, ht, Nat.le_trans hs g.size, h.ne⟩
  have h1 := (World.ownsRow.lt (h.ow k x hk) i hi).1
  have h2 := hx i hX
  omega
/-- a piece placed: its Boolean -/
theorem NsS.setP {w : World} {lo P T : Nat} {pl : List Bool} {tk : List Tk} (h : NsS w lo P T pl tk) (i : Nat) (b : Bool) : NsS (w.setCell ⟨P, i, none⟩ (.bool b)) lo P T (pl.set i b) tk := by
  have hp := h.lp
  have ht := h.lt
  have hs := h.sz
  have hne := h.ne
  have g : Kx (fun k => k = P) w (w.setCell ⟨P, i, none⟩ (.bool b)) := (Kx.refl _ w).set i _ (.inl rfl)
  refine ⟨fun q c hq => ?_, fun q => ?_, fun k x hx => (g.cell (by omega) (Ne.symm hne) _).trans (h.t k x hx), fun q => (g.frozen (by omega) (Ne.symm hne) _).trans (h.tf q), fun k x hk => (h.ow k x hk).kx g (fun q hq hX => ?_), fun k x hk y hy => SlR.kx (h.el k x hk y hy) g (fun hl a ha => (h.far k x hk y hy hl a ha).1.1), h.far, h.dj, hp, ht, by simpa using hs, hne⟩
  · rw [List.getElem?_set] at hq
    by_cases e : i = q
    · subst e
      rw [if_pos rfl] at hq
      split at hq
      · rename_i hl
        obtain rfl := Option.some.inj hq
        have := h.p i _ (List.getElem?_eq_getElem hl)
        simp [go_sem, this]
      · cases hq
    · rw [if_neg e] at hq
      have := h.p q c hq
      have e' : q ≠ i := Ne.symm e
      simp [go_sem, this, e']
  · simp [go_sem, h.pf q]
  · have h1 := (World.ownsRow.lt (h.ow k x hk) q hq).1
    subst hX
    omega
/-- a list of rectangles taken on a sheet: its row grown, and stored in the row of all -/
theorem NsS.app {w w2 : World} {lo P T : Nat} {pl : List Bool} {tk : List Tk} (h : NsS w lo P T pl tk) {j : Nat} {z : Tk} (hz : tk[j]? = some z) {gg cap : Nat} (y : RS) (hg : w.grownBy w2 (Value.slice z.D z.L.length z.q).ownBlock)
    (ho : OwnL w2 lo 22 1 rsL (.slice (some ⟨gg, 0, none⟩) (z.L ++ [y]).length cap) (z.L ++ [y])) (hat : (Value.slice z.D z.L.length z.q).ownBlock = some gg ∨ w.heap.size ≤ gg) (hy : SlR w y.A y.c y.l)
    (hf : y.l ≠ [] → ∀ a, y.A = some a → (a.block ≠ P ∧ a.block ≠ T) ∧ ∀ (k : Nat) (x : Tk), tk[k]? = some x → ∀ b, x.D = some b → a.block ≠ b.block) :
    NsS (w2.setCell ⟨T, j, none⟩ (.slice (some ⟨gg, 0, none⟩) (z.L ++ [y]).length cap)) lo P T pl (tk.set j ⟨some ⟨gg, 0, none⟩, cap, z.L ++ [y]⟩) := by
  have hp := h.lp
  have ht := h.lt
  have hs := h.sz
  have hne := h.ne
  have hrow : ∀ k, (Value.slice z.D z.L.length z.q).ownBlock = some k → lo ≤ k ∧ k < w.heap.size := fun k hk => World.ownsRow.lt (h.ow j z hz) k hk
  have hmap : ∀ k, (Value.slice z.D z.L.length z.q).ownBlock = some k → ∃ b, z.D = some b ∧ b.block = k := fun k hk => by
    have := (own_map (h.ow j z hz)).1 hk
    cases hD : z.D with
    | none => rw [hD] at this; cases this
    | some b => rw [hD] at this; exact ⟨b, rfl, by simpa using this⟩
  have g2 : Kx (fun k => (Value.slice z.D z.L.length z.q).ownBlock = some k) w w2 := Kx.grown (Kx.refl _ _) hg (fun k hk => .inl hk)
  have g3 : Kx (fun k => (Value.slice z.D z.L.length z.q).ownBlock = some k ∨ k = T) w (w2.setCell ⟨T, j, none⟩ (.slice (some ⟨gg, 0, none⟩) (z.L ++ [y]).length cap)) :=
    Kx.set ⟨g2.os, g2.tape, g2.output, g2.size, fun b hb hn => g2.block b hb (fun e => hn (.inl e))⟩ j _ (.inl (.inr rfl))
  have nP : ¬ ((Value.slice z.D z.L.length z.q).ownBlock = some P ∨ P = T) := fun e => by
    rcases e with e | e
    · have := hrow P e; omega
    · exact hne e
  have nT : ¬ ((Value.slice z.D z.L.length z.q).ownBlock = some T) := fun e => by have := hrow T e; omega
  have hjl : j < tk.length := (List.getElem?_eq_some_iff.1 hz).1
  have hset : ∀ (k : Nat) (x : Tk), (tk.set j ⟨some ⟨gg, 0, none⟩, cap, z.L ++ [y]⟩)[k]? = some x → (k = j ∧ x = ⟨some ⟨gg, 0, none⟩, cap, z.L ++ [y]⟩) ∨ (k ≠ j ∧ tk[k]? = some x) := fun k x hx => by
    rw [List.getElem?_set] at hx
    by_cases e : j = k
    · subst e
      rw [if_pos rfl, if_pos hjl] at hx
      exact .inl ⟨rfl, (Option.some.inj hx).symm⟩
    · rw [if_neg e] at hx
      exact .inr ⟨Ne.symm e, hx⟩
  have tj : w2.cell? ⟨T, j, none⟩ = some (.slice z.D z.L.length z.q) := (g2.cell (by omega) nT _).trans (h.t j z hz)
  have old : ∀ (k : Nat) (x : Tk), tk[k]? = some x → ∀ y' ∈ x.L, SlR (w2.setCell ⟨T, j, none⟩ (.slice (some ⟨gg, 0, none⟩) (z.L ++ [y]).length cap)) y'.A y'.c y'.l := fun k x hk y' hy' => SlR.kx (h.el k x hk y' hy') g3 (fun hl a ha e => by
    obtain ⟨f1, f2⟩ := h.far k x hk y' hy' hl a ha
    rcases e with e | e
    · obtain ⟨b, hb, hbb⟩ := hmap _ e
      exact f2 j z hz b hb hbb.symm
    · exact f1.2 e)
  have lt_of : ∀ (r : RS), SlR w r.A r.c r.l → r.l ≠ [] → ∀ a, r.A = some a → a.block < w.heap.size := fun r hr hl a ha => slr_lt hr hl a ha
  have newb : ∀ (r : RS), SlR w r.A r.c r.l → r.l ≠ [] → (∀ a, r.A = some a → ∀ (k : Nat) (x : Tk), tk[k]? = some x → ∀ b, x.D = some b → a.block ≠ b.block) → ∀ a, r.A = some a → a.block ≠ gg := fun r hr hl hh a ha e => by
    rcases hat with c | c
    · obtain ⟨b, hb, hbb⟩ := hmap _ c
      exact hh a ha j z hz b hb (by omega)
    · have := lt_of r hr hl a ha
      omega
  refine ⟨fun i b hb => (g3.cell (by omega) nP _).trans (h.p i b hb), fun i => (g3.frozen (by omega) nP _).trans (h.pf i), fun k x hx => ?_, fun i => ?_, fun k x hx => ?_, fun k x hx y' hy' => ?_, fun k x hx y' hy' hl a ha => ?_, fun k x q v hx hv hkq a b ha hb => ?_, hp, ht, Nat.le_trans hs g3.size, hne⟩
  · rcases hset k x hx with ⟨rfl, rfl⟩ | ⟨hkj, hx'⟩
    · simp [go_sem, tj]
    · have := (g2.cell (by omega) nT k).trans (h.t k x hx')
      simp [go_sem, this, hkj]
  · have := (g2.frozen (i := T) (by omega) nT i).trans (h.tf i)
    simp [go_sem, this]
  · rcases hset k x hx with ⟨rfl, rfl⟩ | ⟨hkj, hx'⟩
    · exact own_setK ho _ _ ht
    · refine (h.ow k x hx').kx g3 (fun i hi e => ?_)
      rcases e with e | e
      · obtain ⟨b, hb, hbb⟩ := hmap _ e
        have hi' := (own_map (h.ow k x hx')).1 hi
        cases hD : x.D with
        | none => rw [hD] at hi'; cases hi'
        | some c =>
          rw [hD] at hi'
          have hc : c.block = i := by simpa using hi'
          exact h.dj k x j z hx' hz hkj c b hD hb (by omega)
      · have := (World.ownsRow.lt (h.ow k x hx') i hi).1
        omega
  · rcases hset k x hx with ⟨rfl, rfl⟩ | ⟨hkj, hx'⟩
    · rcases List.mem_append.1 hy' with c | c
      · exact old k z hz y' c
      · obtain rfl := List.mem_singleton.1 c
        exact SlR.kx hy g3 (fun hl a ha e => by
          obtain ⟨f1, f2⟩ := hf hl a ha
          rcases e with e | e
          · obtain ⟨b, hb, hbb⟩ := hmap _ e
            exact f2 k z hz b hb hbb.symm
          · exact f1.2 e)
    · exact old k x hx' y' hy'
  · have key : SlR w y'.A y'.c y'.l ∧ (a.block ≠ P ∧ a.block ≠ T) ∧ ∀ (k : Nat) (x : Tk), tk[k]? = some x → ∀ b, x.D = some b → a.block ≠ b.block := by
      rcases hset k x hx with ⟨rfl, rfl⟩ | ⟨hkj, hx'⟩
      · rcases List.mem_append.1 hy' with c | c
        · exact ⟨h.el k z hz y' c, h.far k z hz y' c hl a ha⟩
        · obtain rfl := List.mem_singleton.1 c
          exact ⟨hy, hf hl a ha⟩
      · exact ⟨h.el k x hx' y' hy', h.far k x hx' y' hy' hl a ha⟩
    refine ⟨key.2.1, fun q v hv b hb => ?_⟩
    rcases hset q v hv with ⟨rfl, rfl⟩ | ⟨hqj, hv'⟩
    · obtain rfl : (⟨gg, 0, none⟩ : Addr) = b := Option.some.inj hb
      exact newb y' key.1 hl (fun a' ha' => by rw [ha] at ha'; obtain rfl := Option.some.inj ha'; exact key.2.2) a ha
    · exact key.2.2 q v hv' b hb
  · have bl : ∀ (k : Nat) (x : Tk) (c : Addr), tk[k]? = some x → k ≠ j → x.D = some c → c.block ≠ gg := fun k x c hk hkj hc e => by
      rcases hat with d | d
      · obtain ⟨b', hb', hbb⟩ := hmap _ d
        exact h.dj k x j z hk hz hkj c b' hc hb' (by omega)
      · have := (World.ownsRow.lt (h.ow k x hk) c.block ((own_map (h.ow k x hk)).2 (by rw [hc]; rfl))).2
        omega
    rcases hset k x hx with ⟨rfl, rfl⟩ | ⟨hkj, hx'⟩
    · rcases hset q v hv with ⟨rfl, rfl⟩ | ⟨hqj, hv'⟩
      · exact absurd rfl hkq
      · obtain rfl : (⟨gg, 0, none⟩ : Addr) = a := Option.some.inj ha
        exact fun e => bl q v b hv' hqj hb e.symm
    · rcases hset q v hv with ⟨rfl, rfl⟩ | ⟨hqj, hv'⟩
      · obtain rfl : (⟨gg, 0, none⟩ : Addr) = b := Option.some.inj hb
        exact bl k x a hx' hkj ha
      · exact h.dj k x q v hx' hv' hkq a b ha hb
end RG
end Go.Proofs.YtddhaiaapomdjaaGreat
namespace Go.Proofs.YtddhaiaapomdjaaGreat
set_option linter.unusedVariables false
set_option linter.unusedSimpArgs false
open Go Go.ChangeShapes Go.WideShapes Go.ChangeAt Go.RowKit Go.Deep

section
variable {P : Program}
/-- no guards; each waits for earlier ones alone; each but the last is waited for -/
def popB (ops : Array Oper) (n : Nat) : Bool :=
  (List.range ops.size).all (fun i => ((ops[i]?).map fun o => o.guard.isNone && o.after.all fun e => decide (e.on < i)).getD false) &&
  (List.range n).all fun i => (List.range (n + 1)).any fun j => decide (i < j) && Region.waitsFor .any ops j i
/-- what follows the others: the last operation -/
def popQ (P : Program) (ol : Oper) (Q : Exit → Act → World → Prop) : Exit → Act → World → Prop
  | .normal, a, w => ol.wp P a w (Q .normal) Q
  | e, a, w => Q e a w
theorem popQ_op {ol o : Oper} {Q : Exit → Act → World → Prop} {a : Act} {w : World} {K K' : Act → World → Prop} (hK : ∀ a w, K a w → K' a w) (h : o.wp P a w K (popQ P ol Q)) : o.wp P a w K' Q := by
  have h := Oper.wp_mono hK h
  unfold Oper.wp at *
  generalize (execOp a.eval o).run P w = r at *
  cases r with
  | ok n w' => cases n <;> exact h
  | halt x w' => cases x <;> exact h
structure PopI (ops : Array Oper) (n : Nat) (m m0 : Array Bool) : Prop where
  s : m.size = n + 1
  s0 : m0.size = n
  eq : ∀ j, j < n → m0.getD j false = m.getD j false
  last : m.getD n false = false
  closed : ∀ j oj, ops[j]? = some oj → m.getD j false = true → ∀ e ∈ oj.after, Region.binds .any e = true → m.getD e.on false = true
variable {l : List Oper} {n : Nat}
theorem pop_at (i : Nat) (h : i < n) (hl : l.length = n + 1) : (l.take n).toArray[i]? = l.toArray[i]? := by
  simp [List.getElem?_take, h]
theorem pop_fact (hl : l.length = n + 1) (hB : popB l.toArray n = true) {i : Nat} {o : Oper} (ho : l.toArray[i]? = some o) : o.guard = none ∧ ∀ e ∈ o.after, e.on < i := by
  simp only [popB, Bool.and_eq_true, List.all_eq_true, List.mem_range] at hB
  have hi : i < l.toArray.size := (Array.getElem?_eq_some_iff.1 ho).1
  have := hB.1 i hi
  rw [ho] at this
  simp only [Option.map_some, Option.getD_some, Bool.and_eq_true, Option.isNone_iff_eq_none, Array.all_eq_true', decide_eq_true_eq] at this
  exact this
theorem pop_all (hl : l.length = n + 1) (hB : popB l.toArray n = true) {m m0 : Array Bool} (I : PopI l.toArray n m m0) (hr : n ∈ Region.ready .any l.toArray m) : ∀ (d i : Nat), n - i = d → i < n → m.getD i false = true := by
  obtain ⟨_, ol, hol, hall⟩ := mem_ready.1 hr
  simp only [popB, Bool.and_eq_true, List.all_eq_true, List.mem_range, List.any_eq_true, decide_eq_true_eq] at hB
  intro d
  induction d using Nat.strongRecOn with
  | _ d ih =>
    intro i hd hi
    obtain ⟨j, hj, hij, hw⟩ := hB.2 i hi
    obtain ⟨oj, hoj, e, he, hb, heq⟩ := Region.waitsFor_spec hw
    rcases Nat.lt_or_ge j n with h | h
    · have := I.closed j oj hoj (ih (n - j) (by omega) j rfl h) e he hb
      rwa [heq] at this
    · obtain rfl : j = n := by omega
      rw [hol] at hoj
      obtain rfl := Option.some.inj hoj
      have := hall e he hb
      rwa [heq] at this
theorem pop_ready (hl : l.length = n + 1) (hB : popB l.toArray n = true) {m m0 : Array Bool} (I : PopI l.toArray n m m0) {i : Nat} (hi : i < n) : i ∈ Region.ready .any l.toArray m ↔ i ∈ Region.ready .any (l.take n).toArray m0 := by
  rw [mem_ready, mem_ready, pop_at i hi hl]
  have h1 : m.getD i true = false ↔ m0.getD i true = false := by
    constructor
    · intro h
      have := getD_both h
      exact getD_in (by rw [I.s0]; exact hi) (by rw [I.eq i hi]; exact this)
    · intro h
      have := getD_both h
      exact getD_in (by rw [I.s]; omega) (by rw [← I.eq i hi]; exact this)
  rw [h1]
  constructor
  · rintro ⟨a, o, ho, h⟩
    refine ⟨a, o, ho, fun e he hb => ?_⟩
    have := (pop_fact hl hB ho).2 e he
    rw [I.eq _ (by omega)]
    exact h e he hb
  · rintro ⟨a, o, ho, h⟩
    refine ⟨a, o, ho, fun e he hb => ?_⟩
    have := (pop_fact hl hB ho).2 e he
    rw [← I.eq _ (by omega)]
    exact h e he hb
theorem wpAny_nil {md : Region.Mode} {ops : Array Oper} {Q : Exit → Act → World → Prop} {m : Array Bool} {a : Act} {w : World} (hr : Region.ready md ops m = []) (h : Q .normal a w) : ∀ f, wpAny P md ops Q f m a w
  | 0 => ⟨hr, h⟩
  | f + 1 => ⟨fun _ => h, by rw [hr]; simp⟩
theorem pop_end {Q : Exit → Act → World → Prop} {ol : Oper} (hl : l.length = n + 1) (hol : l.toArray[n]? = some ol) (hB : popB l.toArray n = true) {m m0 : Array Bool} (I : PopI l.toArray n m m0) (hr : Region.ready .any (l.take n).toArray m0 = []) {a : Act} {w : World} (h : popQ P ol Q .normal a w) (f : Nat) : wpAny P .any l.toArray Q (f + 1) m a w := by
  have hlt : ∀ (d i : Nat), i = d → i < n → m.getD i false = true := by
    intro d
    induction d using Nat.strongRecOn with
    | _ d ih =>
      intro i hd hi
      cases hc : m.getD i false with
      | true => rfl
      | false =>
        have hi' : i < l.toArray.size := by simp; omega
        have ho := Array.getElem?_eq_getElem hi'
        have : i ∈ Region.ready .any l.toArray m := mem_ready.2 ⟨getD_in (by rw [I.s]; omega) hc, _, ho, fun e he hb => by
          have := (pop_fact hl hB ho).2 e he
          exact ih e.on (by omega) e.on rfl (by omega)⟩
        rw [(pop_ready hl hB I hi), hr] at this
        cases this
  have hn : n ∈ Region.ready .any l.toArray m := mem_ready.2 ⟨getD_in (by rw [I.s]; omega) I.last, ol, hol, fun e he hb => hlt e.on e.on rfl ((pop_fact hl hB hol).2 e he)⟩
  have hend : Region.ready .any l.toArray (m.setIfInBounds n true) = [] := by
    rw [List.eq_nil_iff_forall_not_mem]
    intro j hj
    obtain ⟨h1, oj, hoj, _⟩ := mem_ready.1 hj
    have hjs : j < l.toArray.size := (Array.getElem?_eq_some_iff.1 hoj).1
    have hjs' : j < n + 1 := by simpa [hl] using hjs
    have h2 := getD_both h1
    by_cases e : n = j
    · subst e
      have hs : n < m.size := by rw [I.s]; omega
      simp [hs] at h2
    · rw [getD_set_ne false e, hlt j j rfl (by omega)] at h2
      cases h2
  refine ⟨fun e => (by rw [e] at hn; cases hn), fun i hi => ?_⟩
  obtain ⟨_, oi, hoi, _⟩ := mem_ready.1 hi
  have hin : i = n := by
    have hjs : i < l.toArray.size := (Array.getElem?_eq_some_iff.1 hoi).1
    have hjs' : i < n + 1 := by simpa [hl] using hjs
    rcases Nat.lt_or_ge i n with c | c
    · rw [pop_ready hl hB I c, hr] at hi; cases hi
    · omega
  subst hin
  unfold wpOp
  rw [hol]
  dsimp only
  rw [if_pos (by unfold Region.wanted; rw [(pop_fact hl hB hol).1])]
  exact .inl (Oper.wp_mono (fun a' w' q => wpAny_nil hend q f) h)
theorem wpAny_pop {Q : Exit → Act → World → Prop} {ol : Oper} (hl : l.length = n + 1) (hol : l.toArray[n]? = some ol) (hB : popB l.toArray n = true) : ∀ (f : Nat) (m m0 : Array Bool) (a : Act) (w : World), PopI l.toArray n m m0 → wpAny P .any (l.take n).toArray (popQ P ol Q) f m0 a w → wpAny P .any l.toArray Q (f + 1) m a w
  | 0, m, m0, a, w, I, h => pop_end hl hol hB I h.1 h.2 0
  | f + 1, m, m0, a, w, I, h => by
    by_cases hr : Region.ready .any (l.take n).toArray m0 = []
    · exact pop_end hl hol hB I hr (h.1 hr) (f + 1)
    · obtain ⟨k, hk⟩ := List.exists_mem_of_ne_nil _ hr
      have hkn : k < n := by
        obtain ⟨_, ok, hok, _⟩ := mem_ready.1 hk
        have := (Array.getElem?_eq_some_iff.1 hok).1
        simp at this
        omega
      have hk' := (pop_ready hl hB I hkn).2 hk
      refine ⟨fun e => (by rw [e] at hk'; cases hk'), fun i hi => ?_⟩
      obtain ⟨_, oi, hoi, hall⟩ := mem_ready.1 hi
      have hin : i < n := by
        have hjs : i < l.toArray.size := (Array.getElem?_eq_some_iff.1 hoi).1
        have hjs' : i < n + 1 := by simpa [hl] using hjs
        rcases Nat.lt_or_ge i n with c | c
        · exact c
        · obtain rfl : i = n := by omega
          have := pop_all hl hB I hi _ k rfl hkn
          have h2 := getD_both (mem_ready.1 hk').1
          rw [this] at h2
          cases h2
      have hp := h.2 i ((pop_ready hl hB I hin).1 hi)
      have I' : PopI l.toArray n (m.setIfInBounds i true) (m0.setIfInBounds i true) := by
        refine ⟨by simp [I.s], by simp [I.s0], fun j hj => ?_, by rw [getD_set_ne false (by omega)]; exact I.last, fun j oj hj hlj e he hb => ?_⟩
        · by_cases e : i = j
          · subst e
            have h1 : i < m0.size := by rw [I.s0]; exact hin
            have h2 : i < m.size := by rw [I.s]; omega
            simp [h1, h2]
          · rw [getD_set_ne false e, getD_set_ne false e]; exact I.eq j hj
        · by_cases e' : i = j
          · subst e'
            rw [hoi] at hj
            obtain rfl := Option.some.inj hj
            exact getD_set_true (hall e he hb)
          · rw [getD_set_ne false e'] at hlj
            exact getD_set_true (I.closed j oj hj hlj e he hb)
      unfold wpOp at hp ⊢
      rw [pop_at i hin hl, hoi] at hp
      rw [hoi]
      dsimp only at hp ⊢
      have hw : ∀ (y : Nat → Option Bool), Region.wanted oi y = true := fun y => by unfold Region.wanted; rw [(pop_fact hl hB hoi).1]
      rw [if_pos (hw _)] at hp ⊢
      rcases hp with hp | ⟨hp, hq⟩
      · exact .inl (popQ_op (fun a' w' q => wpAny_pop hl hol hB f _ _ a' w' I' q) hp)
      · exact .inr ⟨hp, hq⟩
/-- The others first, then the last one. -/
theorem wp_region_pop {id : Nat} {Q : Exit → Act → World → Prop} {a : Act} {w : World} (n : Nat) {ol : Oper} (S : World → Prop) (hm : P.follows .mixedOrders = true) (hl : l.length = n + 1) (hol : l.toArray[n]? = some ol) (hB : popB l.toArray n = true) (hS : S w.drew)
    (h : S w.drew → wpAnyH P .any (l.take n).toArray (popQ P ol Q) S n (Array.replicate n false) a w.drew) : (Code.region id l.toArray true).wp P Q a w := by
  refine wp_region_any hm ?_
  have e : l.toArray.size = n + 1 := by simpa using hl
  rw [e]
  refine wpAny_pop hl hol hB n _ _ a _ ⟨by simp, by simp, fun j hj => ?_, getD_replicate_false _ _, fun j oj _ hlj => ?_⟩ (wpAny_of_held _ _ _ _ (h hS))
  · rw [getD_replicate_false, getD_replicate_false]
  · rw [getD_replicate_false] at hlj; cases hlj
end
end Go.Proofs.YtddhaiaapomdjaaGreat
set_option linter.unusedVariables false
set_option linter.unusedSimpArgs false
namespace Go.Proofs.YtddhaiaapomdjaaGreat
set_option linter.unusedVariables false
set_option linter.unusedSimpArgs false
open Go Go.ChangeShapes Go.WideShapes Go.ChangeAt Go.RowKit Go.Deep

namespace RG
theorem elRL : ElT Tryz.prog 25 22 1 24 := elT_of (.slice none 0 0) (by kernel_rfl) (by kernel_rfl) rfl
theorem c_far {w9 wb w10 : World} {B o : Nat} {v : Value} {row : Option Nat} (h : w9.cell? ⟨B, o, none⟩ = some v) (l : B < w9.heap.size) (g : Gr w9 wb) (hg : wb.grownBy w10 row) (hn : some B ≠ row) : w10.cell? ⟨B, o, none⟩ = some v ∧ B < w10.heap.size :=
  ⟨(World.grownBy.cell_far hg ⟨B, o, none⟩ (Nat.lt_of_lt_of_le l g.size) hn).trans ((g.cell _ _ l).trans h), Nat.lt_of_lt_of_le (Nat.lt_of_lt_of_le l g.size) hg.size⟩
theorem t_far {w9 wb w10 : World} {T j : Nat} {v : Value} {row : Option Nat} (h : w9.cell? ⟨T, j, none⟩ = some v) (f : w9.frozen? ⟨T, j, none⟩ = false) (l : T < w9.heap.size) (g : Gr w9 wb) (hg : wb.grownBy w10 row) (hn : some T ≠ row) : w10.cell? ⟨T, j, none⟩ = some v ∧ w10.frozen? ⟨T, j, none⟩ = false ∧ T < w10.heap.size :=
  ⟨(World.grownBy.cell_far hg ⟨T, j, none⟩ (Nat.lt_of_lt_of_le l g.size) hn).trans ((g.cell _ _ l).trans h), (World.grownBy.frozen_far hg ⟨T, j, none⟩ (Nat.lt_of_lt_of_le l g.size) hn).trans ((g.frozen _ _ l).trans f), Nat.lt_of_lt_of_le (Nat.lt_of_lt_of_le l g.size) hg.size⟩
set_option maxHeartbeats 8000000 in
set_option maxRecDepth 100000 in
theorem add_ok (SA : Option Addr) (sc : Nat) (S : List ShT) (PA : Option Addr) (pc : Nat) (Ps : List Pc) (lo P T : Nat) (pl : List Bool) (tk : List Tk) (t : St) (i j : Nat) (p : Pc) (s : ShT) (z : Tk) (x y k : Int) (M1 M2' M3' : List Rc) (w : World)
    (hS : SlS w SA sc S) (hP : SlP w PA pc Ps) (hN : NsS w lo P T pl tk) (hp : Ps[i]? = some p) (hs : S[j]? = some s) (hz : tk[j]? = some z) (hb : pl[i]? = some false) (hn : S.length ≤ 4) (hm : Ps.length ≤ 8) (hG : ShG s) (htm : 0 ≤ t.m ∧ t.m ≤ 14400)
    (hU : ∀ w', Gr w w' → Calls Tryz.prog 67 #[p.v, atv i j x y k] w' fun e w'' => PutOk p.nm p.mt p.ga p.gr M1 M2' M3' w' w'' e) (hlw : lwB p.mt p.ga p.gr M1 s k t.m = true) (hic : icB t M1 z.L = true) (hz8 : z.L.length ≤ 1000) :
    Calls Tryz.prog 36 #[nsv SA sc S.length PA pc Ps.length t P T, atv i j x y k] w fun e w' => e = .returned (iv 0) ∧ ∃ (D : Option Addr) (q : Nat) (D1 : Option Addr) (q1 : Nat), NsS w' lo P T (pl.set i true) (tk.set j ⟨D, q, z.L ++ [⟨D1, q1, M1⟩]⟩) ∧ Kx (fun u => u = P ∨ u = T ∨ (z.D.map Addr.block) = some u) w w' ∧ (∀ g, D.map Addr.block = some g → z.D.map Addr.block = some g ∨ w.heap.size ≤ g) ∧ (M1 ≠ [] → ∀ a, D1 = some a → w.heap.size ≤ a.block) := by
  have hil : i < Ps.length := (List.getElem?_eq_some_iff.1 hp).1
  have hjl : j < S.length := (List.getElem?_eq_some_iff.1 hs).1
  have n1 := hS.cap
  have n2 := hS.capB
  have n3 := hP.cap
  have n4 := hP.capB
  have HS := hide hS
  have HP := hide hP
  have HN := hide hN
  have HLW0 := hide hlw
  have HIC0 := hide hic
  have HU := hide hU
  have HPI := hide hp
  have HSI := hide hs
  have HZI := hide hz
  have HBI := hide hb
  have HG := hide hG
  have HTM := hide htm
  have i0 : (0 : Int) ≤ (i : Int) := by omega
  have i1 : (i : Int) < (Ps.length : Int) := by omega
  have j0 : (0 : Int) ≤ (j : Int) := by omega
  have j1 : (j : Int) < (S.length : Int) := by omega
  have HW := hide (fun (u v : Int) (w' : World) (h1 : 0 ≤ u) (h2 : u ≤ v) => show Calls Tryz.prog 60 #[iv u, iv 0, iv v] w' fun e w'' => e = .returned (.bool true) ∧ w' = w'' from (wiB_iff.2 ⟨h1, h2⟩ : wiB u 0 v = true) ▸ nwithin_any u 0 v w')
  have W1 : IntKind.i64.wrap ((Ps.length : Int) - 1) = (Ps.length : Int) - 1 := IntWalk.i64_in _ (by omega)
  have W2 : IntKind.i64.wrap ((S.length : Int) - 1) = (S.length : Int) - 1 := IntWalk.i64_in _ (by omega)
  obtain ⟨g, m, cm⟩ := t
  clear hS hP hN hU hp hs hz hb hG htm hlw hic
  go_enter Tryz.func36, Tryz.ntmps36
  go_upto_region 3 with (first | (go_at_call 60; refine (HW.out _ _ _ (by omega) (by omega)).mono ?_; rintro e w1 ⟨rfl, rfl⟩))
  obtain ⟨w1, hw1⟩ : ∃ W, W = (w.alloc (.cells #[.slice SA S.length sc, .slice PA Ps.length pc, iv g, iv m, .bool cm, .slice (some ⟨P, 0, none⟩) Ps.length Ps.length, .slice (some ⟨T, 0, none⟩) S.length S.length] 75)).alloc (.cells #[iv i, iv j, iv x, iv y, iv k] 33) := ⟨_, rfl⟩
  have M2 := hide ((Made.new w #[.slice SA S.length sc, .slice PA Ps.length pc, iv g, iv m, .bool cm, .slice (some ⟨P, 0, none⟩) Ps.length Ps.length, .slice (some ⟨T, 0, none⟩) S.length S.length] 75).gr (show Gr _ w1 from by rw [hw1]; exact Gr.alloc (Gr.refl _) _))
  have M3 := Made.new (w.alloc (.cells #[.slice SA S.length sc, .slice PA Ps.length pc, iv g, iv m, .bool cm, .slice (some ⟨P, 0, none⟩) Ps.length Ps.length, .slice (some ⟨T, 0, none⟩) S.length S.length] 75)) #[iv i, iv j, iv x, iv y, iv k] 33
  rw [World.size_alloc, ← hw1] at M3
  have M3 := hide M3
  have g0 : Gr w w1 := by rw [hw1]; exact Gr.alloc (Gr.alloc (Gr.refl _) _) _
  rw [← hw1]
  clear hw1
  have hb2 : w.heap.size ≠ w.heap.size + 1 := by omega
  generalize hb3 : w.heap.size + 1 = b3 at *
  generalize hb2' : w.heap.size = b2 at M2 hb2 ⊢
  obtain ⟨bp, op, hB, ⟨y0, y1, y2, y3, y4, y5, y6⟩, _⟩ := (HP.out.gr g0).at_ HPI.out
  subst hB
  have hbp : bp < w1.heap.size := cell_lt (by rw [y0]; rfl)
  have HUW := hide (show ∀ w', Gr w1 w' → Calls Tryz.prog 67 #[p.v, atv i j x y k] w' fun e w'' => PutOk p.nm p.mt p.ga p.gr M1 M2' M3' w' w'' e from fun w' g => HU.out w' (g0.trans g))
  obtain ⟨l2, y2, _⟩ := M2.out.gr (Gr.refl w1)
  have a20 := y2 0
  have a21 := y2 1
  have a22 := y2 2
  have a23 := y2 3
  have a24 := y2 4
  have a25 := y2 5
  have a26 := y2 6
  clear y2
  obtain ⟨l3, y3, _⟩ := M3.out.gr (Gr.refl w1)
  have a30 := y3 0
  have a31 := y3 1
  have a32 := y3 2
  have a33 := y3 3
  have a34 := y3 4
  clear y3
  go_cut [5, 6] from 25 to 35 (fun p5 v6 wx => ∃ (B5 : Nat) (D1 D2 D3 : Option Addr) (q1 q2 q3 : Nat), p5 = .pointer (some ⟨B5, 0, none⟩) ∧ v6 = iv 0 ∧ (wx.cell? ⟨B5, 0, none⟩ = some (.string p.nm) ∧ wx.cell? ⟨B5, 1, none⟩ = some (.string p.mt) ∧ wx.cell? ⟨B5, 2, none⟩ = some (iv p.ga) ∧ wx.cell? ⟨B5, 3, none⟩ = some (iv p.gr) ∧ wx.cell? ⟨B5, 4, none⟩ = some (.slice D1 M1.length q1) ∧ wx.cell? ⟨B5, 5, none⟩ = some (.slice D2 M2'.length q2) ∧ wx.cell? ⟨B5, 6, none⟩ = some (.slice D3 M3'.length q3)) ∧ SlR wx D1 q1 M1 ∧ (M1 ≠ [] → ∀ a, D1 = some a → w1.heap.size ≤ a.block) ∧ w1.heap.size ≤ B5 ∧ B5 < wx.heap.size ∧ Gr w1 wx)
  case first =>
    go_region_held3 (fun w' => Gr (w1) w' ∧ ∀ ii oo, ii < (w1).heap.size → w'.cell? ⟨ii, oo, none⟩ = (w1).cell? ⟨ii, oo, none⟩) ((refine And.intro ?_ (Gr.cell ?_) <;> ((with_reducible repeat (first | exact Gr.refl _ | assumption | refine Gr.alloc ?_ _ | refine Gr.drewN ?_ _ | refine Gr.drew ?_ | refine Gr.setCell ?_ (by first | (dsimp only; omega) | (simp only [World.size_alloc]; omega) | (refine Gr.size ?_; (repeat (first | exact Gr.refl _ | assumption | refine Gr.alloc ?_ _ | refine Gr.drewN ?_ _ | refine Gr.drew ?_ | refine Gr.trans ?_ (by assumption))); done)) _ | refine Gr.trans ?_ (by assumption))); done)))
     (first | (go_at_call 67; refine (HUW.out _ (by with_reducible repeat (first | exact Gr.refl _ | assumption | refine Gr.alloc ?_ _ | refine Gr.drewN ?_ _ | refine Gr.drew ?_ | refine Gr.setCell ?_ (by first | (dsimp only; omega) | (simp only [World.size_alloc]; omega) | (refine Gr.size ?_; (repeat (first | exact Gr.refl _ | assumption | refine Gr.alloc ?_ _ | refine Gr.drewN ?_ _ | refine Gr.drew ?_ | refine Gr.trans ?_ (by assumption))); done)) _ | refine Gr.trans ?_ (by assumption)))).mono ?_; rintro e w9 ⟨D1, D2, D3, q1, q2, q3, rfl, ⟨hs1, _, _⟩, ⟨hf1, _, _⟩, g9⟩; obtain ⟨X1, Y1, c1, f1⟩ := g9.use; (have z9 := g9.size); (try simp only [World.size_alloc, World.size_drew, World.heap_drewN] at z9 hf1)))
    · go_wp2_with fail
      go_meet
      refine ⟨_, D1, D2, D3, q1, q2, q3, rfl, rfl, ?_, ?_, ?_, ?_, ?_, (by with_reducible repeat (first | exact Gr.refl _ | assumption | refine Gr.alloc ?_ _ | refine Gr.drewN ?_ _ | refine Gr.drew ?_ | refine Gr.setCell ?_ (by first | (dsimp only; omega) | (simp only [World.size_alloc]; omega) | (refine Gr.size ?_; (repeat (first | exact Gr.refl _ | assumption | refine Gr.alloc ?_ _ | refine Gr.drewN ?_ _ | refine Gr.drew ?_ | refine Gr.trans ?_ (by assumption))); done)) _ | refine Gr.trans ?_ (by assumption)))⟩
      · simp [go_sem, *]
      · exact SlR.gr hs1 (Gr.alloc (Gr.refl w9) _)
      · exact fun h a ha => by have := hf1 h a ha; omega
      · first | omega | (simp only [World.size_alloc, World.size_setCell, World.size_drew, World.heap_drewN]; omega)
      · first | omega | (simp only [World.size_alloc, World.size_setCell, World.size_drew, World.heap_drewN]; omega)
    · go_wp2_with fail
      go_meet
      refine ⟨_, D1, D2, D3, q1, q2, q3, rfl, rfl, ?_, ?_, ?_, ?_, ?_, (by with_reducible repeat (first | exact Gr.refl _ | assumption | refine Gr.alloc ?_ _ | refine Gr.drewN ?_ _ | refine Gr.drew ?_ | refine Gr.setCell ?_ (by first | (dsimp only; omega) | (simp only [World.size_alloc]; omega) | (refine Gr.size ?_; (repeat (first | exact Gr.refl _ | assumption | refine Gr.alloc ?_ _ | refine Gr.drewN ?_ _ | refine Gr.drew ?_ | refine Gr.trans ?_ (by assumption))); done)) _ | refine Gr.trans ?_ (by assumption)))⟩
      · simp [go_sem, *]
      · exact SlR.kx hs1 ((((((((Kx.refl (fun i => i = w1.heap.size) w9).set 0 _ (.inl rfl)).set 1 _ (.inl rfl)).set 2 _ (.inl rfl)).set 3 _ (.inl rfl)).set 4 _ (.inl rfl)).set 5 _ (.inl rfl)).set 6 _ (.inl rfl)) (fun h a ha e => by have := hf1 h a ha; omega)
      · exact fun h a ha => by have := hf1 h a ha; omega
      · first | omega | (simp only [World.size_alloc, World.size_setCell, World.size_drew, World.heap_drewN]; omega)
      · first | omega | (simp only [World.size_alloc, World.size_setCell, World.size_drew, World.heap_drewN]; omega)
  case rest =>
    obtain ⟨B5, D1, D2, D3, q1, q2, q3, rfl, rfl, ⟨e0, e1, e2, e3, e4, e5, e6⟩, hs1, hf1, hB5, hB5', gc⟩ := hcut
    have HS1 := hide hs1
    have HF1 := hide hf1
    have g0c := g0.trans gc
    have HNc := hide (HN.out.gr g0c)
    have tP := HNc.out.p i false HBI.out
    have hPl : P < wc.heap.size := by have := HNc.out.lp; have := HNc.out.sz; omega
    clear l2 l3 a20 a21 a22 a23 a24 a25 a26 a30 a31 a32 a33 a34
    obtain ⟨l2, y2, _⟩ := M2.out.gr gc
    have a20 := y2 0
    have a21 := y2 1
    have a22 := y2 2
    have a23 := y2 3
    have a24 := y2 4
    have a25 := y2 5
    have a26 := y2 6
    clear y2
    obtain ⟨l3, y3, _⟩ := M3.out.gr gc
    have a30 := y3 0
    have a31 := y3 1
    have a32 := y3 2
    have a33 := y3 3
    have a34 := y3 4
    clear y3
    clear hs1 hf1 y0 y1 y2 y3 y4 y5 y6
    have HLW := hide (fun (w' : World) (g' : Gr wc w') => liesWell_any p.nm p.mt p.ga p.gr D1 q1 M1 (.slice D2 M2'.length q2) (.slice D3 M3'.length q3) s k ⟨g, m, cm⟩ w' ((HS.out.el s (List.mem_of_getElem? HSI.out)).gr (g0c.trans g')) (HS1.out.gr g') HG.out HTM.out)
    obtain ⟨bs, os, hA, ⟨x0, x1, x2, x3, x4, x5, x6, x7⟩, _⟩ := (HS.out.gr g0c).at_ HSI.out
    subst hA
    have hbs : bs < wc.heap.size := cell_lt (by rw [x0]; rfl)
    have HZC := hide (HNc.out.t j z HZI.out)
    have HZR := hide (HNc.out.slrr HZI.out)
    have HIC := hide (fun (w' : World) (g' : Gr wc w') => isClear_any (some ⟨bs, os, none⟩) sc S.length (some ⟨bp, op, none⟩) pc Ps.length ⟨g, m, cm⟩ P T j z D1 q1 M1 w' ((g'.cell _ _ (by have := HNc.out.lt; have := HNc.out.sz; omega)).trans HZC.out) (HZR.out.gr g') (HS1.out.gr g') hjl hn)
    dsimp only at HLW
    rw [show lwB p.mt p.ga p.gr M1 s k m = true from HLW0.out] at HLW
    rw [show icB ⟨g, m, cm⟩ M1 z.L = true from HIC0.out] at HIC
    go_wp2_with fail
    have GC := @GrW.cell
    refine wp_region_grw _ (by kernel_rfl) (by kernel_rfl) (Gr.refl _) ?_
    repeat (go_big_quiet_step ((first | (go_at_call 80; exact quiet_grw (HLW.out _ (GrW.gr _))))))
    refine wpQuiet_nil ?_
    intro wq hwq
    obtain ⟨gq, hwq'⟩ := hwq
    subst hwq'
    clear GC
    have gq1 := gq.gr
    generalize gq.w = wq at gq1 ⊢
    obtain ⟨Xq, Yq, cq, fq⟩ := gq1.use
    have sq := gq1.size
    (try simp only [World.size_alloc, World.size_setCell, World.heap_drewN] at sq)
    have lq2 : b2 < wq.heap.size := by omega
    have lq3 : b3 < wq.heap.size := by omega
    have lq5 : B5 < wq.heap.size := by omega
    go_wp2_with fail
    refine (HIC.out _ gq1).mono ?_
    rintro e w8 ⟨rfl, g8⟩
    have gc8 : Gr wc w8 := gq1.trans g8
    have HN8 := hide (HNc.out.gr gc8)
    have HS8 := hide (HS1.out.gr gc8)
    have t8P := HN8.out.p i false HBI.out
    have t8f := HN8.out.pf i
    have t8l : P < w8.heap.size := by have := HN8.out.lp; have := HN8.out.sz; omega
    clear l2 l3 a20 a21 a22 a23 a24 a25 a26 a30 a31 a32 a33 a34 cq fq tP
    obtain ⟨l2, y2, _⟩ := M2.out.gr (gc.trans gc8)
    have a20 := y2 0
    have a21 := y2 1
    have a22 := y2 2
    have a23 := y2 3
    have a24 := y2 4
    have a25 := y2 5
    have a26 := y2 6
    clear y2
    obtain ⟨l3, y3, _⟩ := M3.out.gr (gc.trans gc8)
    have a30 := y3 0
    have a31 := y3 1
    have a32 := y3 2
    have a33 := y3 3
    have a34 := y3 4
    clear y3
    have u4 : w8.cell? ⟨B5, 4, none⟩ = some (.slice D1 M1.length q1) := (gc8.cell _ _ hB5').trans e4
    have lB5 : B5 < w8.heap.size := Nat.lt_of_lt_of_le hB5' gc8.size
    clear e0 e1 e2 e3 e4 e5 e6 x0 x1 x2 x3 x4 x5 x6 x7
    go_wp2_with fail
    have HN9 := hide (HN8.out.setP i true)
    have k89 : Kx (fun u => u = P) w8 (w8.setCell ⟨P, i, none⟩ (.bool true)) := (Kx.refl _ w8).set i _ (.inl rfl)
    have hPb2 : b2 ≠ P := by have := HN.out.lp; have := HN.out.sz; omega
    have hPb3 : b3 ≠ P := by have := HN.out.lp; have := HN.out.sz; omega
    have hPB5 : B5 ≠ P := by have := HN.out.lp; have := HN.out.sz; have := g0.size; omega
    have r26 := (k89.cell l2 hPb2 6).trans a26
    have r31 := (k89.cell l3 hPb3 1).trans a31
    have r54 := (k89.cell lB5 hPB5 4).trans u4
    have HT9 := HN9.out.t j z HZI.out
    have HTf := HN9.out.tf j
    have lT9 : T < (w8.setCell ⟨P, i, none⟩ (.bool true)).heap.size := by have := HN9.out.lt; have := HN9.out.sz; omega
    have lb2 : b2 < (w8.setCell ⟨P, i, none⟩ (.bool true)).heap.size := by rw [World.size_setCell]; exact l2
    have lb3 : b3 < (w8.setCell ⟨P, i, none⟩ (.bool true)).heap.size := by rw [World.size_setCell]; exact l3
    have lb5 : B5 < (w8.setCell ⟨P, i, none⟩ (.bool true)).heap.size := by rw [World.size_setCell]; exact lB5
    have HSl9 := hide (show SlR (w8.setCell ⟨P, i, none⟩ (.bool true)) D1 q1 M1 from SlR.kx HS8.out k89 (fun h a ha e => by have := HF1.out h a ha; have := HN.out.lp; have := HN.out.sz; have := g0.size; omega))
    have HK9 := hide (show Kx (fun u => u = P) w (w8.setCell ⟨P, i, none⟩ (.bool true)) from (Kx.of_gr (g0c.trans gc8)).set i _ (.inl rfl))
    clear l2 l3 a20 a21 a22 a23 a24 a25 a26 a30 a31 a32 a33 a34 u4 lB5 k89 t8P t8f t8l
    generalize w8.setCell ⟨P, i, none⟩ (.bool true) = w9 at *
    obtain ⟨i0', z0, hi0, hz0, hsz0, hby0, hzc0⟩ := (elRL).inf
    have HOW := hide (show World.ownsRow w9 lo 22 1 (.slice z.D z.L.length z.q) z.L.length (z.L.flatMap rsL) from HN9.out.ow j z HZI.out)
    have HFI := hide (show ∀ (w' : World) (gg cap1 : Nat), w'.ownsRow lo 22 1 (.slice (some ⟨gg, 0, none⟩) (z.L.length + 1) cap1) (z.L.length + 1) (z.L.flatMap rsL ++ [.slice D1 M1.length q1]) → OwnL w' lo 22 1 rsL (.slice (some ⟨gg, 0, none⟩) (z.L ++ [(⟨D1, q1, M1⟩ : RS)]).length cap1) (z.L ++ [⟨D1, q1, M1⟩]) from fun w' gg cap1 h => by
      have e : (z.L ++ [(⟨D1, q1, M1⟩ : RS)]).length = z.L.length + 1 := by rw [List.length_append]; rfl
      rw [e]
      unfold OwnL
      rw [e, fm_snoc]
      exact h)
    have HROW := hide (fun q hq => World.ownsRow.lt HOW.out q hq)
    have hn8 : z.L.length ≤ 1000 := hz8
    have HSZ := hide (show lo ≤ w9.heap.size from HN9.out.sz)
    obtain ⟨FL, hFL⟩ : ∃ FL, z.L.flatMap rsL = FL := ⟨_, rfl⟩
    rw [hFL] at HOW HFI
    clear hFL
    have hnr : ∀ B, w.heap.size ≤ B → B < w9.heap.size → True := fun _ _ _ => trivial
    have HN2 := hide (show some b2 ≠ (Value.slice z.D z.L.length z.q).ownBlock from fun e => by have := World.ownsRow.lt (HN.out.ow j z HZI.out) b2 e.symm; omega)
    have HN3 := hide (show some b3 ≠ (Value.slice z.D z.L.length z.q).ownBlock from fun e => by have := World.ownsRow.lt (HN.out.ow j z HZI.out) b3 e.symm; omega)
    clear hnr
    have HTN := hide (show some T ≠ (Value.slice z.D z.L.length z.q).ownBlock from fun e => by have := HROW.out T e.symm; have := HN.out.lt; omega)
    have HFIN := hide (show ∀ (wb w10 : World) (gg cap1 : Nat), Gr w9 wb → wb.grownBy w10 (Value.slice z.D z.L.length z.q).ownBlock → w10.ownsRow lo 22 1 (.slice (some ⟨gg, 0, none⟩) (z.L.length + 1) cap1) (z.L.length + 1) (FL ++ [.slice D1 M1.length q1]) → ((Value.slice z.D z.L.length z.q).ownBlock = some gg ∨ gg = wb.heap.size) →
        ∃ (D : Option Addr) (q : Nat) (D1 : Option Addr) (q1 : Nat), NsS (w10.setCell ⟨T, j, none⟩ (.slice (some ⟨gg, 0, none⟩) (z.L.length + 1) cap1)) lo P T (pl.set i true) (tk.set j ⟨D, q, z.L ++ [⟨D1, q1, M1⟩]⟩) ∧ Kx (fun u => u = P ∨ u = T ∨ (z.D.map Addr.block) = some u) w (w10.setCell ⟨T, j, none⟩ (.slice (some ⟨gg, 0, none⟩) (z.L.length + 1) cap1)) ∧ (∀ g, D.map Addr.block = some g → z.D.map Addr.block = some g ∨ w.heap.size ≤ g) ∧ (M1 ≠ [] → ∀ a, D1 = some a → w.heap.size ≤ a.block) from by
      intro wb w10 gg cap1 gb hgrow hown hat
      refine ⟨some ⟨gg, 0, none⟩, cap1, D1, q1, ?_, ?_, fun u hu => ?_, fun hl a ha => by have := HF1.out hl a ha; have := g0.size; omega⟩
      · have h := NsS.app (HN9.out.gr gb) HZI.out (⟨D1, q1, M1⟩ : RS) hgrow (HFI.out w10 gg cap1 hown) (hat.imp id (fun e => by omega)) (HSl9.out.gr gb) (fun hl a ha => by
          have h1 := HF1.out hl a ha
          have h2 := g0.size
          have h3 := HN.out.lp
          have h4 := HN.out.lt
          have h5 := HN.out.sz
          refine ⟨⟨by omega, by omega⟩, fun k x hk b hb e => ?_⟩
          have h6 := (World.ownsRow.lt (HN.out.ow k x hk) b.block ((own_map (HN.out.ow k x hk)).2 (by rw [hb]; rfl))).2
          omega)
        have e : (z.L ++ [(⟨D1, q1, M1⟩ : RS)]).length = z.L.length + 1 := by rw [List.length_append]; rfl
        rw [e] at h
        exact h
      · have h1 : Kx (fun u => u = P ∨ u = T ∨ (z.D.map Addr.block) = some u) w w9 := ⟨HK9.out.os, HK9.out.tape, HK9.out.output, HK9.out.size, fun b hb hn => HK9.out.block b hb (fun e => hn (.inl e))⟩
        exact Kx.set (Kx.grown (h1.gr gb) hgrow (fun k hk => .inl (.inr (.inr ((own_map (HN.out.ow j z HZI.out)).1 hk))))) j _ (.inl (.inr (.inl rfl)))
      · have e : gg = u := by simpa using hu
        subst e
        rcases hat with h | h
        · exact .inl ((own_map (HN.out.ow j z HZI.out)).1 h)
        · exact .inr (by have := HK9.out.size; have := gb.size; omega))
    have hb2T : b2 ≠ T := by have := HN.out.lt; have := HN.out.sz; omega
    have hb3T : b3 ≠ T := by have := HN.out.lt; have := HN.out.sz; omega
    have HN5 := hide (show some B5 ≠ (Value.slice z.D z.L.length z.q).ownBlock from fun e => by have := World.ownsRow.lt (HN.out.ow j z HZI.out) B5 e.symm; have := g0.size; omega)
    refine wp_region_pop 15 (fun w' => (w'.cell? ⟨b2, 6, none⟩ = some (.slice (some ⟨T, 0, none⟩) S.length S.length) ∧ w'.cell? ⟨b3, 1, none⟩ = some (iv j) ∧ w'.cell? ⟨T, j, none⟩ = some (.slice z.D z.L.length z.q) ∧ w'.cell? ⟨B5, 4, none⟩ = some (.slice D1 M1.length q1)) ∧ b2 < w'.heap.size ∧ b3 < w'.heap.size ∧ T < w'.heap.size ∧ B5 < w'.heap.size) (by kernel_rfl) rfl rfl (by kernel_rfl) ?hS0 (fun hH0 => ?_)
    case hS0 =>
      refine ⟨⟨?_, ?_, ?_, ?_⟩, ?_, ?_, ?_, ?_⟩ <;> first | (simp [go_sem, *]; done) | (simp only [World.size_drew]; omega)
    simp only [List.take_succ_cons, List.take_zero]
    refine wpAnyH_take (i := 0) (v := .pointer (some ⟨b2, 6, none⟩)) rfl (by kernel_rfl) (by kernel_rfl) (by kernel_rfl) (fun _ _ _ h => h) (Or.inl ⟨by rfl, ?hy⟩) (by assumption) ?_
    case hy =>
      intro w hSw
      obtain ⟨⟨s1, s2, s3, s4⟩, s5, s6, s7, s8⟩ := hSw
      go_simp
    simp only [List.getElem_toArray, List.getElem_cons_zero, List.getElem_cons_succ, Act.put, List.setIfInBounds_toArray, List.set_cons_zero, List.set_cons_succ]
    refine wpAnyH_take (i := 1) (v := .slice (some ⟨T, 0, none⟩) S.length S.length) rfl (by kernel_rfl) (by kernel_rfl) (by kernel_rfl) (fun _ _ _ h => h) (Or.inl ⟨by rfl, ?hy⟩) (by assumption) ?_
    case hy =>
      intro w hSw
      obtain ⟨⟨s1, s2, s3, s4⟩, s5, s6, s7, s8⟩ := hSw
      go_simp
    simp only [List.getElem_toArray, List.getElem_cons_zero, List.getElem_cons_succ, Act.put, List.setIfInBounds_toArray, List.set_cons_zero, List.set_cons_succ]
    refine wpAnyH_take (i := 2) (v := .pointer (some ⟨b3, 1, none⟩)) rfl (by kernel_rfl) (by kernel_rfl) (by kernel_rfl) (fun _ _ _ h => h) (Or.inl ⟨by rfl, ?hy⟩) (by assumption) ?_
    case hy =>
      intro w hSw
      obtain ⟨⟨s1, s2, s3, s4⟩, s5, s6, s7, s8⟩ := hSw
      go_simp
    simp only [List.getElem_toArray, List.getElem_cons_zero, List.getElem_cons_succ, Act.put, List.setIfInBounds_toArray, List.set_cons_zero, List.set_cons_succ]
    refine wpAnyH_take (i := 3) (v := iv j) rfl (by kernel_rfl) (by kernel_rfl) (by kernel_rfl) (fun _ _ _ h => h) (Or.inl ⟨by rfl, ?hy⟩) (by assumption) ?_
    case hy =>
      intro w hSw
      obtain ⟨⟨s1, s2, s3, s4⟩, s5, s6, s7, s8⟩ := hSw
      go_simp
    simp only [List.getElem_toArray, List.getElem_cons_zero, List.getElem_cons_succ, Act.put, List.setIfInBounds_toArray, List.set_cons_zero, List.set_cons_succ]
    refine wpAnyH_take (i := 4) (v := .pointer (some ⟨b2, 6, none⟩)) rfl (by kernel_rfl) (by kernel_rfl) (by kernel_rfl) (fun _ _ _ h => h) (Or.inl ⟨by rfl, ?hy⟩) (by assumption) ?_
    case hy =>
      intro w hSw
      obtain ⟨⟨s1, s2, s3, s4⟩, s5, s6, s7, s8⟩ := hSw
      go_simp
    simp only [List.getElem_toArray, List.getElem_cons_zero, List.getElem_cons_succ, Act.put, List.setIfInBounds_toArray, List.set_cons_zero, List.set_cons_succ]
    refine wpAnyH_take (i := 5) (v := .slice (some ⟨T, 0, none⟩) S.length S.length) rfl (by kernel_rfl) (by kernel_rfl) (by kernel_rfl) (fun _ _ _ h => h) (Or.inl ⟨by rfl, ?hy⟩) (by assumption) ?_
    case hy =>
      intro w hSw
      obtain ⟨⟨s1, s2, s3, s4⟩, s5, s6, s7, s8⟩ := hSw
      go_simp
    simp only [List.getElem_toArray, List.getElem_cons_zero, List.getElem_cons_succ, Act.put, List.setIfInBounds_toArray, List.set_cons_zero, List.set_cons_succ]
    refine wpAnyH_take (i := 6) (v := .pointer (some ⟨b3, 1, none⟩)) rfl (by kernel_rfl) (by kernel_rfl) (by kernel_rfl) (fun _ _ _ h => h) (Or.inl ⟨by rfl, ?hy⟩) (by assumption) ?_
    case hy =>
      intro w hSw
      obtain ⟨⟨s1, s2, s3, s4⟩, s5, s6, s7, s8⟩ := hSw
      go_simp
    simp only [List.getElem_toArray, List.getElem_cons_zero, List.getElem_cons_succ, Act.put, List.setIfInBounds_toArray, List.set_cons_zero, List.set_cons_succ]
    refine wpAnyH_take (i := 7) (v := iv j) rfl (by kernel_rfl) (by kernel_rfl) (by kernel_rfl) (fun _ _ _ h => h) (Or.inl ⟨by rfl, ?hy⟩) (by assumption) ?_
    case hy =>
      intro w hSw
      obtain ⟨⟨s1, s2, s3, s4⟩, s5, s6, s7, s8⟩ := hSw
      go_simp
    simp only [List.getElem_toArray, List.getElem_cons_zero, List.getElem_cons_succ, Act.put, List.setIfInBounds_toArray, List.set_cons_zero, List.set_cons_succ]
    refine wpAnyH_take (i := 8) (v := .pointer (some ⟨T, j, none⟩)) rfl (by kernel_rfl) (by kernel_rfl) (by kernel_rfl) (fun _ _ _ h => h) (Or.inl ⟨by rfl, ?hy⟩) (by assumption) ?_
    case hy =>
      intro w hSw
      obtain ⟨⟨s1, s2, s3, s4⟩, s5, s6, s7, s8⟩ := hSw
      go_simp
    simp only [List.getElem_toArray, List.getElem_cons_zero, List.getElem_cons_succ, Act.put, List.setIfInBounds_toArray, List.set_cons_zero, List.set_cons_succ]
    refine wpAnyH_take (i := 9) (v := .slice z.D z.L.length z.q) rfl (by kernel_rfl) (by kernel_rfl) (by kernel_rfl) (fun _ _ _ h => h) (Or.inl ⟨by rfl, ?hy⟩) (by assumption) ?_
    case hy =>
      intro w hSw
      obtain ⟨⟨s1, s2, s3, s4⟩, s5, s6, s7, s8⟩ := hSw
      go_simp
    simp only [List.getElem_toArray, List.getElem_cons_zero, List.getElem_cons_succ, Act.put, List.setIfInBounds_toArray, List.set_cons_zero, List.set_cons_succ]
    refine wpAnyH_take (i := 10) (v := .pointer (some ⟨B5, 4, none⟩)) rfl (by kernel_rfl) (by kernel_rfl) (by kernel_rfl) (fun _ _ _ h => h) (Or.inl ⟨by rfl, ?hy⟩) (by assumption) ?_
    case hy =>
      intro w hSw
      obtain ⟨⟨s1, s2, s3, s4⟩, s5, s6, s7, s8⟩ := hSw
      go_simp
    simp only [List.getElem_toArray, List.getElem_cons_zero, List.getElem_cons_succ, Act.put, List.setIfInBounds_toArray, List.set_cons_zero, List.set_cons_succ]
    refine wpAnyH_take (i := 11) (v := .slice D1 M1.length q1) rfl (by kernel_rfl) (by kernel_rfl) (by kernel_rfl) (fun _ _ _ h => h) (Or.inl ⟨by rfl, ?hy⟩) (by assumption) ?_
    case hy =>
      intro w hSw
      obtain ⟨⟨s1, s2, s3, s4⟩, s5, s6, s7, s8⟩ := hSw
      go_simp
    simp only [List.getElem_toArray, List.getElem_cons_zero, List.getElem_cons_succ, Act.put, List.setIfInBounds_toArray, List.set_cons_zero, List.set_cons_succ]
    refine wpAnyH_ready (rs := [12]) (by kernel_rfl) (by simp) ?_
    refine AllReadyH.cons rfl (fun K hK => ?_) AllReadyH.nil
    go_simp
    refine hK.out _ _ ?hS1 (fun hH1 => ?_)
    case hS1 =>
      refine ⟨⟨?_, ?_, ?_, ?_⟩, ?_, ?_, ?_, ?_⟩ <;> first | (simp [go_sem, *]; done) | (simp only [World.size_alloc, World.size_drew]; omega)
    clear hK K
    (try simp only [Act.put, List.setIfInBounds_toArray, List.set_cons_zero, List.set_cons_succ])
    refine wpAnyH_ready (rs := [13]) (by kernel_rfl) (by simp) ?_
    refine AllReadyH.cons rfl (fun K hK => ?_) AllReadyH.nil
    refine step_append_lies _ (by rfl) _ _ _ (by rfl) lo 22 i0' _ 1 24 elRL.und hi0 hz0 hsz0 hby0 hzc0 (by omega) _ z.L.length FL (by rfl) (own_gr HOW.out (by with_reducible repeat (first | exact Gr.refl _ | assumption | refine Gr.alloc ?_ _ | refine Gr.drewN ?_ _ | refine Gr.drew ?_ | refine Gr.setCell ?_ (by first | (dsimp only; omega) | (simp only [World.size_alloc]; omega) | (refine Gr.size ?_; (repeat (first | exact Gr.refl _ | assumption | refine Gr.alloc ?_ _ | refine Gr.drewN ?_ _ | refine Gr.drew ?_ | refine Gr.trans ?_ (by assumption))); done)) _ | refine Gr.trans ?_ (by assumption)))) ⟨w9.heap.size, 0, none⟩ 1 1 [.slice D1 M1.length q1] (by rfl) (by rfl) (newsA _ #[.slice D1 M1.length q1] 22) (by intro u hu; simp at hu; subst hu; rfl) (by omega) (by unfold maxLen; omega) (by omega) (Nat.le_trans HSZ.out (Gr.size (by with_reducible repeat (first | exact Gr.refl _ | assumption | refine Gr.alloc ?_ _ | refine Gr.drewN ?_ _ | refine Gr.drew ?_ | refine Gr.setCell ?_ (by first | (dsimp only; omega) | (simp only [World.size_alloc]; omega) | (refine Gr.size ?_; (repeat (first | exact Gr.refl _ | assumption | refine Gr.alloc ?_ _ | refine Gr.drewN ?_ _ | refine Gr.drew ?_ | refine Gr.trans ?_ (by assumption))); done)) _ | refine Gr.trans ?_ (by assumption))))) _ rfl ?_
    intro gg cap1 w10 hown10 hgrow hat hlt
    obtain ⟨t10, f10, l10⟩ := t_far HT9 HTf lT9 (by with_reducible repeat (first | exact Gr.refl _ | assumption | refine Gr.alloc ?_ _ | refine Gr.drewN ?_ _ | refine Gr.drew ?_ | refine Gr.setCell ?_ (by first | (dsimp only; omega) | (simp only [World.size_alloc]; omega) | (refine Gr.size ?_; (repeat (first | exact Gr.refl _ | assumption | refine Gr.alloc ?_ _ | refine Gr.drewN ?_ _ | refine Gr.drew ?_ | refine Gr.trans ?_ (by assumption))); done)) _ | refine Gr.trans ?_ (by assumption))) hgrow HTN.out
    obtain ⟨s26, l26⟩ := c_far r26 lb2 (by with_reducible repeat (first | exact Gr.refl _ | assumption | refine Gr.alloc ?_ _ | refine Gr.drewN ?_ _ | refine Gr.drew ?_ | refine Gr.setCell ?_ (by first | (dsimp only; omega) | (simp only [World.size_alloc]; omega) | (refine Gr.size ?_; (repeat (first | exact Gr.refl _ | assumption | refine Gr.alloc ?_ _ | refine Gr.drewN ?_ _ | refine Gr.drew ?_ | refine Gr.trans ?_ (by assumption))); done)) _ | refine Gr.trans ?_ (by assumption))) hgrow HN2.out
    obtain ⟨s31, l31⟩ := c_far r31 lb3 (by with_reducible repeat (first | exact Gr.refl _ | assumption | refine Gr.alloc ?_ _ | refine Gr.drewN ?_ _ | refine Gr.drew ?_ | refine Gr.setCell ?_ (by first | (dsimp only; omega) | (simp only [World.size_alloc]; omega) | (refine Gr.size ?_; (repeat (first | exact Gr.refl _ | assumption | refine Gr.alloc ?_ _ | refine Gr.drewN ?_ _ | refine Gr.drew ?_ | refine Gr.trans ?_ (by assumption))); done)) _ | refine Gr.trans ?_ (by assumption))) hgrow HN3.out
    obtain ⟨s54, l54⟩ := c_far r54 lb5 (by with_reducible repeat (first | exact Gr.refl _ | assumption | refine Gr.alloc ?_ _ | refine Gr.drewN ?_ _ | refine Gr.drew ?_ | refine Gr.setCell ?_ (by first | (dsimp only; omega) | (simp only [World.size_alloc]; omega) | (refine Gr.size ?_; (repeat (first | exact Gr.refl _ | assumption | refine Gr.alloc ?_ _ | refine Gr.drewN ?_ _ | refine Gr.drew ?_ | refine Gr.trans ?_ (by assumption))); done)) _ | refine Gr.trans ?_ (by assumption))) hgrow HN5.out
    refine hK.out _ _ ⟨⟨s26, s31, t10, s54⟩, l26, l31, l10, l54⟩ (fun hH2 => ?_)
    clear hK K
    (try simp only [Act.put, List.setIfInBounds_toArray, List.set_cons_zero, List.set_cons_succ])
    refine wpAnyH_ready (rs := [14]) (by kernel_rfl) (by simp) ?_
    refine AllReadyH.cons rfl (fun K hK => ?_) AllReadyH.nil
    go_simp
    refine hK.out _ _ ⟨⟨s26, s31, t10, s54⟩, l26, l31, l10, l54⟩ (fun hH3 => ?_)
    clear hK K
    (try simp only [Act.put, List.setIfInBounds_toArray, List.set_cons_zero, List.set_cons_succ])
    refine wpAnyH_done (by kernel_rfl) ?_ _
    have HG := hide (HFIN.out _ _ _ _ (by with_reducible repeat (first | exact Gr.refl _ | assumption | refine Gr.alloc ?_ _ | refine Gr.drewN ?_ _ | refine Gr.drew ?_ | refine Gr.setCell ?_ (by first | (dsimp only; omega) | (simp only [World.size_alloc]; omega) | (refine Gr.size ?_; (repeat (first | exact Gr.refl _ | assumption | refine Gr.alloc ?_ _ | refine Gr.drewN ?_ _ | refine Gr.drew ?_ | refine Gr.trans ?_ (by assumption))); done)) _ | refine Gr.trans ?_ (by assumption))) hgrow hown10 hat)
    unfold popQ
    dsimp only
    clear hH0 hH1 hH2 hH3 hgrow hown10 hat
    go_simp
    go_wp2
    go_ret
    exact ⟨rfl, HG.out⟩
end RG
end Go.Proofs.YtddhaiaapomdjaaGreat
