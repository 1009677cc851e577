/-
  A region that draws its order and lays one new block out of what its calls and reads gave ('append(out, T{f(..), g(..)})'): one walk of the calls and reads in the order of the text; then what follows the block. No program.
-/
import Derived.Test.YtocbcbfniiioaaaGreatMix
namespace Go.Proofs.YtocbcbfniiioaaaGreat
set_option linter.unusedVariables false
set_option linter.unusedSimpArgs false
open Go Go.ChangeShapes Go.WideShapes Go.ChangeAt Go.RowKit Go.Deep

section
variable {P : Program} {ops : Array Oper} {md : Region.Mode}
/-- the operation lays a block of what the frame holds -/
def BuildAt (P : Program) (ops : Array Oper) (o : Oper) (a : Act) (d : Option Tmp) (F : Nat → Value) (z : Array Value) (t : TypeId) : Prop :=
  o.dst = d ∧ Region.wanted o (yielded ops a.tmps) = true ∧ ∀ w, (execOp a.eval o).run P w = .ok (.value (F w.heap.size)) (w.alloc (.cells z t))
theorem BuildAt.of_same {o : Oper} {a a' : Act} {d : Option Tmp} {F : Nat → Value} {z : Array Value} {t : TypeId} (h : BuildAt P ops o a d F z t) (he : execOp a'.eval o = execOp a.eval o)
    (hw : Region.wanted o (yielded ops a'.tmps) = Region.wanted o (yielded ops a.tmps)) : BuildAt P ops o a' d F z t := ⟨h.1, hw.trans h.2.1, fun w => by rw [he]; exact h.2.2 w⟩
/-- Calls and reads below h, new blocks from h to n, in whatever order. -/
def bixQ (P : Program) (md : Region.Mode) (ops : Array Oper) (h n : Nat) (L : Array Bool → Act → World → Prop) : Nat → Array Bool → Act → World → Prop
  | 0, m, a, s => L m a s
  | f + 1, m, a, s => ¬ Region.ready md ops m = [] ∧ ∀ i ∈ Region.ready md ops m, i < n ∧
      ((i < h ∧ relOp P ops s i (fun a' => bixQ P md ops h n L f (m.setIfInBounds i true) a' s) a) ∨
       (h ≤ i ∧ ∃ o d F z t, ops[i]? = some o ∧ BuildAt P ops o a d F z t ∧ ∀ s', Gr s s' → bixQ P md ops h n L f (m.setIfInBounds i true) (a.put d (F s'.heap.size)) (s'.alloc (.cells z t))))
theorem bixQ_any {h n g : Nat} {L : Array Bool → Act → World → Prop} {Q : Exit → Act → World → Prop} (hL : ∀ m a s, L m a s → ∀ w, Gr s w → wpAny P md ops Q g m a w) (f : Nat) :
    ∀ (m : Array Bool) (a : Act) (s : World), bixQ P md ops h n L f m a s → ∀ w, Gr s w → wpAny P md ops Q (f + g) m a w := by
  induction f with
  | zero => intro m a s k w hw; rw [Nat.zero_add]; exact hL _ _ _ k _ hw
  | succ f ih =>
    intro m a s k w hw
    rw [Nat.succ_add]
    refine ⟨fun e => (k.1 e).elim, fun i hi => ?_⟩
    rcases (k.2 i hi).2 with ⟨_, o, v, ho, hy, hK⟩ | ⟨_, o, d, F, z, t, ho, ⟨hd, hw', hr⟩, hK⟩
    · unfold wpOp
      simp only [ho]
      rcases hy with ⟨hw1, hq⟩ | ⟨hw1, rfl⟩
      · simp only [hw1, if_true]
        exact .inl (wp_of_rel (hq w hw) fun w' hg => ih _ _ _ hK w' (hw.trans hg))
      · simp only [hw1, Bool.false_eq_true, if_false]
        exact ih _ _ _ hK w hw
    · unfold wpOp
      simp only [ho, hw', if_true]
      refine .inl ?_
      unfold Oper.wp
      rw [hr]
      simp only [Oper.upon]
      rw [hd]
      exact ih _ _ _ (hK w hw) _ (Gr.refl _)
theorem bixQ_first {h n i : Nat} {oi : Oper} {v : Value} {L : Array Bool → Act → World → Prop} (hi : ops[i]? = some oi) (hsel : ∀ (j : Nat) (o : Oper) cs b, ops[j]? = some o → o.op ≠ .select cs b)
    (hs : Region.sinkB md ops n = true) (hc : Region.chainB md ops n = true) (hn : n < ops.size) (hin : i < n) (hih : i < h) (hdone : ∀ m a s, L m a s → ∀ j ∈ Region.ready md ops m, n ≤ j) (f : Nat) :
    ∀ (m : Array Bool) (a : Act) (s : World), HeadInv md ops n m →
      (∀ j oj, ops[j]? = some oj → j ≠ i → m.getD j true = false → (∀ e ∈ oj.after, Region.binds md e = true → e.on ≠ i) → oi.apart ops oj = true) →
      i ∈ Region.ready md ops m → relY P ops s oi v a →
      bixQ P md ops h n L f (m.setIfInBounds i true) (a.put oi.dst v) s → bixQ P md ops h n L (f + 1) m a s := by
  induction f with
  | zero =>
    intro m a s inv _ hr hy H
    refine ⟨fun e => (by rw [e] at hr; cases hr), fun j hj => ⟨in_head hs hc hn inv hin hr hj, ?_⟩⟩
    rcases Nat.decEq j i with hji | hji
    · have := hdone _ _ _ H j (ready_mono hj hji)
      have := in_head hs hc hn inv hin hr hj
      omega
    · subst hji
      exact .inl ⟨hih, oi, v, hi, hy, H⟩
  | succ f ih =>
    intro m a s inv hfree hr hy H
    refine ⟨fun e => (by rw [e] at hr; cases hr), fun j hj => ⟨in_head hs hc hn inv hin hr hj, ?_⟩⟩
    rcases Nat.decEq j i with hji | hji
    · obtain ⟨hjun, oj, hoj, hall⟩ := mem_ready.1 hj
      have hjn := in_head hs hc hn inv hin hr hj
      have hnot : ∀ e ∈ oj.after, Region.binds md e = true → e.on ≠ i := fun e he hb heq => by
        have h1 := hall e he hb
        rw [heq, getD_both (mem_ready.1 hr).1] at h1
        cases h1
      obtain ⟨a1, a2, a3⟩ := Oper.apart_spec (hfree j oj hoj hji hjun hnot)
      have si := fun cs b => hsel i oi cs b hi
      have sj := fun cs b => hsel j oj cs b hoj
      have on : ∀ {a' : Act} {s' : World}, Gr s s' → ∀ u, a' = a.put oj.dst u → bixQ P md ops h n L f ((m.setIfInBounds j true).setIfInBounds i true) (a'.put oi.dst v) s' → bixQ P md ops h n L (f + 1) (m.setIfInBounds j true) a' s' := by
        rintro a' s' hg u rfl hm
        refine ih (m.setIfInBounds j true) _ s' (inv.set hj hjn) (fun t ot ht hti hun hno => hfree t ot ht hti ?_ hno) (ready_mono hr (Ne.symm hji)) ((hy.up hg).of_same (execOp_put oi si a oj.dst u a3) (wanted_put oi a oj.dst u a3)) hm
        rcases Nat.decEq j t with e | e
        · rwa [getD_set_ne true e] at hun
        · subst e; exact hjun
      rcases (H.2 j (ready_mono hj hji)).2 with ⟨hjh, o, u, ho, hyj, hK⟩ | ⟨hjh, o, d, F, z, t, ho, hn', hK⟩
      · obtain rfl := Option.some.inj (ho.symm.trans hoj)
        refine .inl ⟨hjh, o, u, ho, hyj.of_same (execOp_put o sj a oi.dst v a1).symm (wanted_put o a oi.dst v a1).symm, ?_⟩
        refine on (Gr.refl s) u rfl ?_
        rw [Array.setIfInBounds_comm _ _ hji, ← Act.put_comm a v u a2]
        exact hK
      · obtain rfl := Option.some.inj (ho.symm.trans hoj)
        refine .inr ⟨hjh, o, d, F, z, t, ho, hn'.of_same (execOp_put o sj a oi.dst v a1).symm (wanted_put o a oi.dst v a1).symm, fun s' hg => ?_⟩
        have hd := hn'.1
        subst hd
        refine on (hg.trans (Gr.alloc (Gr.refl s') _)) _ rfl ?_
        rw [Array.setIfInBounds_comm _ _ hji, ← Act.put_comm a v _ a2]
        exact hK s' hg
    · subst hji
      exact .inl ⟨hih, oi, v, hi, hy, H⟩
theorem bixQ_lex {h n k g : Nat} {L : Array Bool → Act → World → Prop} {s : World} {Lq : Act → Prop} (hsel : Region.noSelect ops = true) (hs : Region.sinkB md ops n = true) (hc : Region.chainB md ops n = true) (hn : n < ops.size) (hhn : h ≤ n) (hdone : ∀ m a s, L m a s → ∀ j ∈ Region.ready md ops m, n ≤ j) (l : List Oper) :
    ∀ (i : Nat) (m : Array Bool) (a : Act), (∀ j, j < l.length → l[j]? = ops[i + j]?) → i + l.length = h → HeadInv md ops n m →
    Region.lexHead md ops g (l.length + k) i m = true → wpRel P ops s Lq l a →
    (∀ j, j < i → m.getD j true = true) →
    (∀ m' a', HeadInv md ops n m' → Region.lexHead md ops g k h m' = true → (∀ j, j < h → m'.getD j true = true) → Lq a' → bixQ P md ops h n L k m' a' s) → bixQ P md ops h n L (l.length + k) m a s := by
  induction l with
  | nil =>
    intro i m a _ hk inv hB H hd fin
    obtain rfl : i = h := by simpa using hk
    simp only [List.length_nil, Nat.zero_add] at hB ⊢
    exact fin m a inv hB hd H
  | cons o l ih =>
    intro i m a hl hk inv hB H hd fin
    have h0 : ops[i]? = some o := by simpa using (hl 0 (by simp)).symm
    simp only [List.length_cons] at hk hB ⊢
    rw [show l.length + 1 + k = (l.length + k) + 1 by omega] at hB ⊢
    simp only [Region.lexHead, Bool.and_eq_true] at hB
    obtain ⟨⟨hr, hf⟩, hB'⟩ := hB
    have hr' : i ∈ Region.ready md ops m := by simpa using hr
    obtain ⟨v, hy, hK⟩ := H
    refine bixQ_first h0 (Region.noSelect_spec hsel) hs hc hn (by omega) (by omega) hdone _ m a s inv (Region.free_spec h0 hf) hr' hy ?_
    refine ih (i + 1) _ _ (fun j hj => ?_) (by omega) (inv.set hr' (by omega)) hB' hK (fun j hj => ?_) fin
    rotate_left
    · rcases Nat.decEq i j with e | e
      · rw [getD_set_ne true e]
        exact hd j (by omega)
      · subst e
        exact set_at _ _
    have := hl (j + 1) (by simp only [List.length_cons]; omega)
    rw [show i + 1 + j = i + (j + 1) by omega, ← this]
    rfl
theorem wp_region_bix {id : Nat} {Q : Exit → Act → World → Prop} {a : Act} {w : World} {l : List Oper} (b : World) (h k : Nat) (hm : P.follows .mixedOrders = true) (hB : Region.lexTailB .any l.toArray (h + k) = true) (h0 : Gr b w) {Lq : Act → Prop}
    (H : ∀ s, Gr b s → wpQuiet P l.toArray (fun w' => ∃ g : GrW s, w' = g.w) Lq (l.take h) a)
    (fin : ∀ (s : World), Gr b s → ∀ m a', HeadInv .any l.toArray (h + k) m → Region.lexHead .any l.toArray (l.toArray.size - (h + k)) k h m = true → (∀ j, j < h → m.getD j true = true) → Lq a' → bixQ P .any l.toArray h (h + k) (endQ P Q l (h + k)) k m a' s) :
    (Code.region id l.toArray true).wp P Q a w := by
  simp only [Region.lexTailB, Bool.and_eq_true, decide_eq_true_eq] at hB
  obtain ⟨⟨⟨⟨hsel, hn⟩, hs⟩, hc⟩, hlex⟩ := hB
  have hn' : h + k < l.length := by simpa using hn
  have htl : (l.take h).length = h := by simp; omega
  have hg : (l.drop (h + k)).length = l.toArray.size - (h + k) := by simp
  have gs : Gr b { w with drawn := w.drawn + 1 } := Gr.drew h0
  have inv : HeadInv .any l.toArray (h + k) (Array.replicate l.toArray.size false) :=
    ⟨by simp, fun j oj _ hl => (by rw [getD_replicate_false] at hl; cases hl), fun t _ ht => getD_in (by simpa using ht) (getD_replicate_false _ _)⟩
  have R := wpRel_of (b := { w with drawn := w.drawn + 1 }) (l.take h) a fun s hgs => H s (gs.trans hgs)
  have M := bixQ_lex (P := P) (md := .any) (ops := l.toArray) (h := h) (n := h + k) (k := k) (g := l.toArray.size - (h + k)) (L := endQ P Q l (h + k)) hsel hs hc hn (by omega) (fun m a s hL => seqB_ready hL.1) (l.take h) 0 _ a (fun j hj => by
    rw [htl] at hj
    simp [hj]) (by simpa using htl) inv (by rw [htl]; exact hlex) R (fun j hj => by omega) (fin _ gs)
  refine wp_region_any hm ?_
  have K := bixQ_any (Q := Q) (g := l.toArray.size - (h + k)) (fun m a' s hL w' hw' => by
    have := wpAny_of_seq (md := .any) (Q' := Q) (l.drop (h + k)) (h + k) m a' w' (fun j => by simp [List.getElem?_drop]) (by rw [hg]; exact hL.1) (hL.2 w' hw')
    rwa [hg] at this) _ _ _ _ M _ (Gr.refl _)
  rw [htl, show h + k + (l.toArray.size - (h + k)) = l.toArray.size by omega] at K
  exact K
theorem wp_region_build1 {id : Nat} {Q : Exit → Act → World → Prop} {a : Act} {w : World} {l : List Oper} (b : World) (h : Nat) (hm : P.follows .mixedOrders = true) (hB : Region.lexTailB .any l.toArray (h + 1) = true) (h0 : Gr b w)
    {x1 : Oper} {d1 : Option Tmp} (e1 : l[h]? = some x1)
    (H : ∀ s, Gr b s → wpQuiet P l.toArray (fun w' => ∃ g : GrW s, w' = g.w) (fun a' => ∃ F z1 t1, BuildAt P l.toArray x1 a' d1 F z1 t1 ∧ ∀ B1 w', Gr b w' → b.heap.size ≤ B1 → Made w' B1 z1 → wpList P l.toArray Q (l.drop (h + 1)) (a'.put d1 (F B1)) w') (l.take h) a) :
    (Code.region id l.toArray true).wp P Q a w := by
  have hB' := hB
  simp only [Region.lexTailB, Bool.and_eq_true, decide_eq_true_eq] at hB'
  obtain ⟨⟨⟨⟨_, hn⟩, hs⟩, hc⟩, _⟩ := hB'
  refine wp_region_bix b h 1 hm hB h0 H fun s gs m a' inv hx hd hq => ?_
  obtain ⟨F, z1, t1, n1, hq⟩ := hq
  simp only [Region.lexHead, Bool.and_eq_true] at hx
  obtain ⟨⟨r1, _⟩, q⟩ := hx
  have r1' : h ∈ Region.ready .any l.toArray m := by simpa using r1
  refine ⟨fun e => (by rw [e] at r1'; cases r1'), fun i hi => ?_⟩
  have i1 := in_head hs hc hn inv (i := h) (by omega) r1' hi
  have i2 : ¬ i < h := fun c => not_listed hi (hd i c)
  obtain rfl : i = h := by omega
  refine ⟨i1, .inr ⟨Nat.le_refl _, x1, d1, F, z1, t1, by simpa using e1, n1, fun s' g' => ⟨q, fun w' gw => ?_⟩⟩⟩
  exact hq _ w' ((gs.trans g').trans ((Gr.alloc (Gr.refl _) _).trans gw)) (gs.trans g').size ((Made.new s' z1 t1).gr gw)
end
end Go.Proofs.YtocbcbfniiioaaaGreat
