/-
  A region that draws its order and makes new variables between its calls ('x, y := f(..), g(..)'): one walk of the calls in the order of the text; then the stores, whatever blocks the variables got. No program.
-/
import Derived.Test.YtocbcbfniiioaaaGreatTail
import Derived.Calls
import Derived.Fence
import Derived.Laws.Rows
namespace Go.Proofs.YtocbcbfniiioaaaGreat
set_option linter.unusedVariables false
set_option linter.unusedSimpArgs false
open Go Go.ChangeShapes Go.WideShapes Go.ChangeAt Go.RowKit Go.Deep

section
variable {P : Program}
theorem ends_once {m x y : Machine} {o o' : Outcome} {w w' : World} (h1 : Steps P m x) (e1 : step P x = .ended o w) (h2 : Steps P m y) (e2 : step P y = .ended o' w') : x = y := by
  rw [steps_iff] at h1 h2
  induction h1 with
  | refl m =>
    cases h2 with
    | refl => rfl
    | head _ h _ => rw [e1] at h; cases h
  | head _ h _ ih =>
    cases h2 with
    | refl => rw [e2] at h; cases h
    | head _ h' k' =>
      rw [h] at h'
      cases h'
      exact ih e1 k'
/-- a caller that takes what it is given, and stands -/
def taker (P : Program) : Frame := { fn := P.funcs.size, tmps := #[], todo := [.extern "" #[], .code (.cond (.const undef) .skip .skip)], defers := [], mode := .run, kind := .normal }
theorem taker_ends (P : Program) (v : Value) (w : World) : ∃ o, step P (lone ((taker P).finish v) [] w) = .ended o w := by
  refine ⟨_, step_lone_ended (o := .stuck "cond: bool expected" (((taker P).finish v).pos P)) ?_⟩
  simp [stepG, stepG.exec, taker, Frame.finish, Frame.eval, undef]
  try rfl
theorem Calls.same {f : FuncId} {args : Array Value} {w : World} {v1 v2 : Value} {R1 R2 : World → Prop} (h1 : Calls P f args w fun e w' => e = .returned v1 ∧ R1 w') (h2 : Calls P f args w fun e w' => e = .returned v2 ∧ R2 w') : v1 = v2 := by
  obtain ⟨e1, w1, f1, ⟨rfl, _⟩, c1, _, l1⟩ := h1 [taker P]
  obtain ⟨e2, w2, f2, ⟨rfl, _⟩, c2, _, l2⟩ := h2 [taker P]
  obtain ⟨o1, k1⟩ := taker_ends P v1 w1
  obtain ⟨o2, k2⟩ := taker_ends P v2 w2
  have s1 : Steps P (lone (Frame.enter P f args .normal) [taker P] w) (lone ((taker P).finish v1) [] w1) := Steps.trans c1 (Steps.one (step_leave_returned l1))
  have s2 : Steps P (lone (Frame.enter P f args .normal) [taker P] w) (lone ((taker P).finish v2) [] w2) := Steps.trans c2 (Steps.one (step_leave_returned l2))
  have e := ends_once s1 k1 s2 k2
  have e' : w1 = w2 ∧ v1 = v2 := by simpa [lone, taker, Frame.finish] using e
  exact e'.2

variable {ops : Array Oper} {md : Region.Mode}
/-- one value, from every world grown out of s; each leaves a world grown out of its own -/
def relQ (P : Program) (o : Oper) (a : Act) (s : World) (v : Value) : Prop := ∀ w, Gr s w → o.quietAt P a (Gr w) w v
def relY (P : Program) (ops : Array Oper) (s : World) (o : Oper) (v : Value) (a : Act) : Prop :=
  (Region.wanted o (yielded ops a.tmps) = true ∧ relQ P o a s v) ∨ (Region.wanted o (yielded ops a.tmps) = false ∧ v = undef)
theorem relY.up {s s' : World} {o : Oper} {v : Value} {a : Act} (h : relY P ops s o v a) (g : Gr s s') : relY P ops s' o v a :=
  h.imp (fun ⟨k, r⟩ => ⟨k, fun w hw => r w (g.trans hw)⟩) id
theorem relY.of_same {s : World} {o : Oper} {v : Value} {a a' : Act} (hy : relY P ops s o v a) (he : execOp a'.eval o = execOp a.eval o)
    (hw : Region.wanted o (yielded ops a'.tmps) = Region.wanted o (yielded ops a.tmps)) : relY P ops s o v a' := by
  unfold relY relQ Oper.quietAt at *
  rw [he, hw]
  exact hy
theorem quietAt_same {o : Oper} {a : Act} {w : World} {C D : World → Prop} {u v : Value} (h : o.quietAt P a C w u) (k : o.quietAt P a D w v) : u = v := by
  unfold Oper.quietAt at h k
  generalize (execOp a.eval o).run P w = r at *
  cases r with
  | ok n w' =>
    cases n <;> simp only [Oper.quietUpon] at h k
    case value x => exact h.2.symm.trans k.2
    case skip => exact h.2.trans k.2.symm
    case enter f args => exact Calls.same h.2 k.2
  | halt x w' => simp only [Oper.quietUpon] at h
theorem wp_of_rel {o : Oper} {a : Act} {v : Value} {K : Act → World → Prop} {Q : Exit → Act → World → Prop} {w : World} (h : o.quietAt P a (Gr w) w v) (hk : ∀ w', Gr w w' → K (a.put o.dst v) w') : o.wp P a w K Q := by
  unfold Oper.quietAt at h
  unfold Oper.wp
  generalize (execOp a.eval o).run P w = r at *
  cases r with
  | ok n w' =>
    cases n <;> simp only [Oper.quietUpon] at h <;> simp only [Oper.upon]
    case value x =>
      obtain ⟨e1, e2⟩ := h
      rw [e1, e2]
      exact hk _ (Gr.refl w)
    case skip =>
      obtain ⟨e1, e2⟩ := h
      rw [e1, ← e2]
      exact hk _ (Gr.refl w)
    case enter f args =>
      obtain ⟨e1, hc⟩ := h
      rw [e1]
      exact hc.mono fun e w'' ⟨he, hw''⟩ => by subst he; exact hk _ hw''
  | halt x w' => simp only [Oper.quietUpon] at h
/-- the walk in the order of the text -/
def wpRel (P : Program) (ops : Array Oper) (s : World) (Q : Act → Prop) : List Oper → Act → Prop
  | [], a => Q a
  | o :: l, a => ∃ v, relY P ops s o v a ∧ wpRel P ops s Q l (a.put o.dst v)
theorem wpRel_of {b : World} {Q : Act → Prop} : ∀ (l : List Oper) (a : Act), (∀ s, Gr b s → wpQuiet P ops (fun w' => ∃ g : GrW s, w' = g.w) Q l a) → wpRel P ops b Q l a
  | [], _, H => H b (Gr.refl b)
  | o :: l, a, H => by
    cases hw : Region.wanted o (yielded ops a.tmps) with
    | false =>
      refine ⟨undef, .inr ⟨hw, rfl⟩, wpRel_of l _ fun s hs => ?_⟩
      have := H s hs
      simp only [wpQuiet, hw] at this
      exact this
    | true =>
      have key : ∀ s, Gr b s → ∃ v, (∀ w, (∃ g : GrW s, w = g.w) → o.quietAt P a (fun w' => ∃ g : GrW s, w' = g.w) w v) ∧ wpQuiet P ops (fun w' => ∃ g : GrW s, w' = g.w) Q l (a.put o.dst v) := fun s hs => by
        have := H s hs
        simp only [wpQuiet, hw] at this
        exact this
      obtain ⟨v, h1, _⟩ := key b (Gr.refl b)
      have same : ∀ s, Gr b s → o.quietAt P a (Gr s) s v ∧ wpQuiet P ops (fun w' => ∃ g : GrW s, w' = g.w) Q l (a.put o.dst v) := fun s hs => by
        obtain ⟨u, k1, k2⟩ := key s hs
        have q1 := h1 s ⟨⟨s, hs⟩, rfl⟩
        have q2 := k1 s ⟨⟨s, Gr.refl s⟩, rfl⟩
        obtain rfl := quietAt_same q1 q2
        refine ⟨?_, k2⟩
        have e : (fun w' => ∃ g : GrW s, w' = g.w) = Gr s := by
          funext x
          exact propext ⟨fun ⟨g, e⟩ => e ▸ g.gr, fun g => ⟨⟨x, g⟩, rfl⟩⟩
        rw [e] at q2
        exact q2
      exact ⟨v, .inl ⟨hw, fun w hg => (same w hg).1⟩, wpRel_of l _ fun s hs => (same s hs).2⟩
abbrev ptr (B : Nat) : Value := .pointer (some ⟨B, 0, none⟩)
/-- the operation makes a variable -/
structure NewAt (P : Program) (o : Oper) (d : Option Tmp) (z : Array Value) (t : TypeId) : Prop where
  dst : o.dst = d
  wanted : ∀ y, Region.wanted o y = true
  alone : o.after = #[]
  run : ∀ (a : Act) (w : World), (execOp a.eval o).run P w = .ok (.value (ptr w.heap.size)) (w.alloc (.cells z t))
def relOp (P : Program) (ops : Array Oper) (s : World) (i : Nat) (K : Act → Prop) (a : Act) : Prop := ∃ o v, ops[i]? = some o ∧ relY P ops s o v a ∧ K (a.put o.dst v)
/-- Calls and reads below h, new variables from h to n, in whatever order. -/
def mixQ (P : Program) (md : Region.Mode) (ops : Array Oper) (h n : Nat) (L : Array Bool → Act → World → Prop) : Nat → Array Bool → Act → World → Prop
  | 0, m, a, s => L m a s
  | f + 1, m, a, s => ¬ Region.ready md ops m = [] ∧ ∀ i ∈ Region.ready md ops m, i < n ∧
      ((i < h ∧ relOp P ops s i (fun a' => mixQ P md ops h n L f (m.setIfInBounds i true) a' s) a) ∨
       (h ≤ i ∧ ∃ o d z t, ops[i]? = some o ∧ NewAt P o d z t ∧ ∀ s', Gr s s' → mixQ P md ops h n L f (m.setIfInBounds i true) (a.put d (ptr s'.heap.size)) (s'.alloc (.cells z t))))
theorem mixQ_any {h n g : Nat} {L : Array Bool → Act → World → Prop} {Q : Exit → Act → World → Prop} (hL : ∀ m a s, L m a s → ∀ w, Gr s w → wpAny P md ops Q g m a w) (f : Nat) :
    ∀ (m : Array Bool) (a : Act) (s : World), mixQ P md ops h n L f m a s → ∀ w, Gr s w → wpAny P md ops Q (f + g) m a w := by
  induction f with
  | zero => intro m a s k w hw; rw [Nat.zero_add]; exact hL _ _ _ k _ hw
  | succ f ih =>
    intro m a s k w hw
    rw [Nat.succ_add]
    refine ⟨fun e => (k.1 e).elim, fun i hi => ?_⟩
    rcases (k.2 i hi).2 with ⟨_, o, v, ho, hy, hK⟩ | ⟨_, o, d, z, t, ho, hn, hK⟩
    · unfold wpOp
      simp only [ho]
      rcases hy with ⟨hw1, hq⟩ | ⟨hw1, rfl⟩
      · simp only [hw1, if_true]
        exact .inl (wp_of_rel (hq w hw) fun w' hg => ih _ _ _ hK w' (hw.trans hg))
      · simp only [hw1, Bool.false_eq_true, if_false]
        exact ih _ _ _ hK w hw
    · unfold wpOp
      simp only [ho, hn.wanted, if_true]
      refine .inl ?_
      unfold Oper.wp
      rw [hn.run]
      simp only [Oper.upon]
      rw [hn.dst]
      exact ih _ _ _ (hK w hw) _ (Gr.refl _)
theorem mixQ_first {h n i : Nat} {oi : Oper} {v : Value} {L : Array Bool → Act → World → Prop} (hi : ops[i]? = some oi) (hsel : ∀ (j : Nat) (o : Oper) cs b, ops[j]? = some o → o.op ≠ .select cs b)
    (hs : Region.sinkB md ops n = true) (hc : Region.chainB md ops n = true) (hn : n < ops.size) (hin : i < n) (hih : i < h) (hdone : ∀ m a s, L m a s → ∀ j ∈ Region.ready md ops m, n ≤ j) (f : Nat) :
    ∀ (m : Array Bool) (a : Act) (s : World), HeadInv md ops n m →
      (∀ j oj, ops[j]? = some oj → j ≠ i → m.getD j true = false → (∀ e ∈ oj.after, Region.binds md e = true → e.on ≠ i) → oi.apart ops oj = true) →
      i ∈ Region.ready md ops m → relY P ops s oi v a →
      mixQ P md ops h n L f (m.setIfInBounds i true) (a.put oi.dst v) s → mixQ P md ops h n L (f + 1) m a s := by
  induction f with
  | zero =>
    intro m a s inv _ hr hy H
    refine ⟨fun e => (by rw [e] at hr; cases hr), fun j hj => ⟨in_head hs hc hn inv hin hr hj, ?_⟩⟩
    rcases Nat.decEq j i with hji | hji
    · have := hdone _ _ _ H j (ready_mono hj hji)
      have := in_head hs hc hn inv hin hr hj
      omega
    · subst hji
      exact .inl ⟨hih, oi, v, hi, hy, H⟩
  | succ f ih =>
    intro m a s inv hfree hr hy H
    refine ⟨fun e => (by rw [e] at hr; cases hr), fun j hj => ⟨in_head hs hc hn inv hin hr hj, ?_⟩⟩
    rcases Nat.decEq j i with hji | hji
    · obtain ⟨hjun, oj, hoj, hall⟩ := mem_ready.1 hj
      have hjn := in_head hs hc hn inv hin hr hj
      have hnot : ∀ e ∈ oj.after, Region.binds md e = true → e.on ≠ i := fun e he hb heq => by
        have h1 := hall e he hb
        rw [heq, getD_both (mem_ready.1 hr).1] at h1
        cases h1
      obtain ⟨a1, a2, a3⟩ := Oper.apart_spec (hfree j oj hoj hji hjun hnot)
      have si := fun cs b => hsel i oi cs b hi
      have sj := fun cs b => hsel j oj cs b hoj
      have on : ∀ {a' : Act} {s' : World}, Gr s s' → ∀ u, a' = a.put oj.dst u → mixQ P md ops h n L f ((m.setIfInBounds j true).setIfInBounds i true) (a'.put oi.dst v) s' → mixQ P md ops h n L (f + 1) (m.setIfInBounds j true) a' s' := by
        rintro a' s' hg u rfl hm
        refine ih (m.setIfInBounds j true) _ s' (inv.set hj hjn) (fun t ot ht hti hun hno => hfree t ot ht hti ?_ hno) (ready_mono hr (Ne.symm hji)) ((hy.up hg).of_same (execOp_put oi si a oj.dst u a3) (wanted_put oi a oj.dst u a3)) hm
        rcases Nat.decEq j t with e | e
        · rwa [getD_set_ne true e] at hun
        · subst e; exact hjun
      rcases (H.2 j (ready_mono hj hji)).2 with ⟨hjh, o, u, ho, hyj, hK⟩ | ⟨hjh, o, d, z, t, ho, hn', hK⟩
      · obtain rfl := Option.some.inj (ho.symm.trans hoj)
        refine .inl ⟨hjh, o, u, ho, hyj.of_same (execOp_put o sj a oi.dst v a1).symm (wanted_put o a oi.dst v a1).symm, ?_⟩
        refine on (Gr.refl s) u rfl ?_
        rw [Array.setIfInBounds_comm _ _ hji, ← Act.put_comm a v u a2]
        exact hK
      · obtain rfl := Option.some.inj (ho.symm.trans hoj)
        refine .inr ⟨hjh, o, d, z, t, ho, hn', fun s' hg => ?_⟩
        have hd := hn'.dst
        subst hd
        refine on (hg.trans (Gr.alloc (Gr.refl s') _)) _ rfl ?_
        rw [Array.setIfInBounds_comm _ _ hji, ← Act.put_comm a v _ a2]
        exact hK s' hg
    · subst hji
      exact .inl ⟨hih, oi, v, hi, hy, H⟩
theorem set_at (m : Array Bool) (i : Nat) : (m.setIfInBounds i true).getD i true = true := by
  by_cases h : i < m.size <;> simp [h]
theorem mixQ_lex {h n k g : Nat} {L : Array Bool → Act → World → Prop} {s : World} {Lq : Act → Prop} (hsel : Region.noSelect ops = true) (hs : Region.sinkB md ops n = true) (hc : Region.chainB md ops n = true) (hn : n < ops.size) (hhn : h ≤ n) (hdone : ∀ m a s, L m a s → ∀ j ∈ Region.ready md ops m, n ≤ j) (l : List Oper) :
    ∀ (i : Nat) (m : Array Bool) (a : Act), (∀ j, j < l.length → l[j]? = ops[i + j]?) → i + l.length = h → HeadInv md ops n m →
    Region.lexHead md ops g (l.length + k) i m = true → wpRel P ops s Lq l a →
    (∀ j, j < i → m.getD j true = true) →
    (∀ m' a', HeadInv md ops n m' → Region.lexHead md ops g k h m' = true → (∀ j, j < h → m'.getD j true = true) → Lq a' → mixQ P md ops h n L k m' a' s) → mixQ P md ops h n L (l.length + k) m a s := by
  induction l with
  | nil =>
    intro i m a _ hk inv hB H hd fin
    obtain rfl : i = h := by simpa using hk
    simp only [List.length_nil, Nat.zero_add] at hB ⊢
    exact fin m a inv hB hd H
  | cons o l ih =>
    intro i m a hl hk inv hB H hd fin
    have h0 : ops[i]? = some o := by simpa using (hl 0 (by simp)).symm
    simp only [List.length_cons] at hk hB ⊢
    rw [show l.length + 1 + k = (l.length + k) + 1 by omega] at hB ⊢
    simp only [Region.lexHead, Bool.and_eq_true] at hB
    obtain ⟨⟨hr, hf⟩, hB'⟩ := hB
    have hr' : i ∈ Region.ready md ops m := by simpa using hr
    obtain ⟨v, hy, hK⟩ := H
    refine mixQ_first h0 (Region.noSelect_spec hsel) hs hc hn (by omega) (by omega) hdone _ m a s inv (Region.free_spec h0 hf) hr' hy ?_
    refine ih (i + 1) _ _ (fun j hj => ?_) (by omega) (inv.set hr' (by omega)) hB' hK (fun j hj => ?_) fin
    rotate_left
    · rcases Nat.decEq i j with e | e
      · rw [getD_set_ne true e]
        exact hd j (by omega)
      · subst e
        exact set_at _ _
    have := hl (j + 1) (by simp only [List.length_cons]; omega)
    rw [show i + 1 + j = i + (j + 1) by omega, ← this]
    rfl
/-- block B holds z, and may be written -/
def Made (w : World) (B : Nat) (z : Array Value) : Prop := B < w.heap.size ∧ (∀ o, w.cell? ⟨B, o, none⟩ = z[o]?) ∧ ∀ o, w.frozen? ⟨B, o, none⟩ = false
theorem Made.new (w : World) (z : Array Value) (t : TypeId) : Made (w.alloc (.cells z t)) w.heap.size z := by
  have hb : (w.alloc (.cells z t)).heap[w.heap.size]? = some (.cells z t (0, 0)) := heap_alloc_new w _
  refine ⟨by simp, fun o => cell_of_row _ _ o z t (0, 0) hb, fun o => ?_⟩
  unfold World.frozen?
  simp only [hb]
  simp
theorem Made.gr {w w' : World} {B : Nat} {z : Array Value} (h : Made w B z) (g : Gr w w') : Made w' B z :=
  ⟨Nat.lt_of_lt_of_le h.1 g.size, fun o => (g.cell B o h.1).trans (h.2.1 o), fun o => (g.frozen B o h.1).trans (h.2.2 o)⟩
def endQ (P : Program) (Q : Exit → Act → World → Prop) (l : List Oper) (n : Nat) (m : Array Bool) (a : Act) (s : World) : Prop :=
  Region.seqB .any l.toArray (l.toArray.size - n) n m = true ∧ ∀ w', Gr s w' → wpList P l.toArray Q (l.drop n) a w'
theorem wp_region_mix {id : Nat} {Q : Exit → Act → World → Prop} {a : Act} {w : World} {l : List Oper} (b : World) (h k : Nat) (hm : P.follows .mixedOrders = true) (hB : Region.lexTailB .any l.toArray (h + k) = true) (h0 : Gr b w) {Lq : Act → Prop}
    (H : ∀ s, Gr b s → wpQuiet P l.toArray (fun w' => ∃ g : GrW s, w' = g.w) Lq (l.take h) a)
    (fin : ∀ (s : World), Gr b s → ∀ m a', HeadInv .any l.toArray (h + k) m → Region.lexHead .any l.toArray (l.toArray.size - (h + k)) k h m = true → (∀ j, j < h → m.getD j true = true) → Lq a' → mixQ P .any l.toArray h (h + k) (endQ P Q l (h + k)) k m a' s) :
    (Code.region id l.toArray true).wp P Q a w := by
  simp only [Region.lexTailB, Bool.and_eq_true, decide_eq_true_eq] at hB
  obtain ⟨⟨⟨⟨hsel, hn⟩, hs⟩, hc⟩, hlex⟩ := hB
  have hn' : h + k < l.length := by simpa using hn
  have htl : (l.take h).length = h := by simp; omega
  have hg : (l.drop (h + k)).length = l.toArray.size - (h + k) := by simp
  have gs : Gr b { w with drawn := w.drawn + 1 } := Gr.drew h0
  have inv : HeadInv .any l.toArray (h + k) (Array.replicate l.toArray.size false) :=
    ⟨by simp, fun j oj _ hl => (by rw [getD_replicate_false] at hl; cases hl), fun t _ ht => getD_in (by simpa using ht) (getD_replicate_false _ _)⟩
  have R := wpRel_of (b := { w with drawn := w.drawn + 1 }) (l.take h) a fun s hgs => H s (gs.trans hgs)
  have M := mixQ_lex (P := P) (md := .any) (ops := l.toArray) (h := h) (n := h + k) (k := k) (g := l.toArray.size - (h + k)) (L := endQ P Q l (h + k)) hsel hs hc hn (by omega) (fun m a s hL => seqB_ready hL.1) (l.take h) 0 _ a (fun j hj => by
    rw [htl] at hj
    simp [hj]) (by simpa using htl) inv (by rw [htl]; exact hlex) R (fun j hj => by omega) (fin _ gs)
  refine wp_region_any hm ?_
  have K := mixQ_any (Q := Q) (g := l.toArray.size - (h + k)) (fun m a' s hL w' hw' => by
    have := wpAny_of_seq (md := .any) (Q' := Q) (l.drop (h + k)) (h + k) m a' w' (fun j => by simp [List.getElem?_drop]) (by rw [hg]; exact hL.1) (hL.2 w' hw')
    rwa [hg] at this) _ _ _ _ M _ (Gr.refl _)
  rw [htl, show h + k + (l.toArray.size - (h + k)) = l.toArray.size by omega] at K
  exact K
theorem mixQ_new {h n f i : Nat} {L : Array Bool → Act → World → Prop} {m : Array Bool} {a : Act} {s : World} (hi : i ∈ Region.ready md ops m)
    (H : ∀ i ∈ Region.ready md ops m, i < n ∧ h ≤ i ∧ ∃ o d z t, ops[i]? = some o ∧ NewAt P o d z t ∧ ∀ s', Gr s s' → mixQ P md ops h n L f (m.setIfInBounds i true) (a.put d (ptr s'.heap.size)) (s'.alloc (.cells z t))) : mixQ P md ops h n L (f + 1) m a s :=
  ⟨fun e => (by rw [e] at hi; cases hi), fun i hi => ⟨(H i hi).1, .inr (H i hi).2⟩⟩
theorem not_listed {m : Array Bool} {i : Nat} (h : i ∈ Region.ready md ops m) (k : m.getD i true = true) : False := by
  rw [(mem_ready.1 h).1] at k
  cases k
theorem wp_region_new1 {id : Nat} {Q : Exit → Act → World → Prop} {a : Act} {w : World} {l : List Oper} (b : World) (h : Nat) (hm : P.follows .mixedOrders = true) (hB : Region.lexTailB .any l.toArray (h + 1) = true) (h0 : Gr b w)
    {x1 : Oper} {d1 : Option Tmp} {z1 : Array Value} {t1 : TypeId} (e1 : l[h]? = some x1) (n1 : NewAt P x1 d1 z1 t1)
    (H : ∀ s, Gr b s → wpQuiet P l.toArray (fun w' => ∃ g : GrW s, w' = g.w) (fun a' => ∀ B1 w', Gr b w' → b.heap.size ≤ B1 → Made w' B1 z1 → wpList P l.toArray Q (l.drop (h + 1)) (a'.put d1 (ptr B1)) w') (l.take h) a) :
    (Code.region id l.toArray true).wp P Q a w := by
  have hB' := hB
  simp only [Region.lexTailB, Bool.and_eq_true, decide_eq_true_eq] at hB'
  obtain ⟨⟨⟨⟨_, hn⟩, hs⟩, hc⟩, _⟩ := hB'
  refine wp_region_mix b h 1 hm hB h0 H fun s gs m a' inv hx hd hq => ?_
  simp only [Region.lexHead, Bool.and_eq_true] at hx
  obtain ⟨⟨r1, _⟩, q⟩ := hx
  have r1' : h ∈ Region.ready .any l.toArray m := by simpa using r1
  refine mixQ_new r1' fun i hi => ?_
  have i1 := in_head hs hc hn inv (i := h) (by omega) r1' hi
  have i2 : ¬ i < h := fun c => not_listed hi (hd i c)
  obtain rfl : i = h := by omega
  refine ⟨i1, Nat.le_refl _, x1, d1, z1, t1, by simpa using e1, n1, fun s' g' => ⟨q, fun w' gw => ?_⟩⟩
  exact hq _ w' ((gs.trans g').trans ((Gr.alloc (Gr.refl _) _).trans gw)) (gs.trans g').size ((Made.new s' z1 t1).gr gw)
theorem wp_region_new2 {id : Nat} {Q : Exit → Act → World → Prop} {a : Act} {w : World} {l : List Oper} (b : World) (h : Nat) (hm : P.follows .mixedOrders = true) (hB : Region.lexTailB .any l.toArray (h + 2) = true) (h0 : Gr b w)
    {x1 x2 : Oper} {d1 d2 : Option Tmp} {z1 z2 : Array Value} {t1 t2 : TypeId} (e1 : l[h]? = some x1) (e2 : l[h + 1]? = some x2) (n1 : NewAt P x1 d1 z1 t1) (n2 : NewAt P x2 d2 z2 t2) (hd12 : ∀ (a : Act) u v, (a.put d1 u).put d2 v = (a.put d2 v).put d1 u)
    (H : ∀ s, Gr b s → wpQuiet P l.toArray (fun w' => ∃ g : GrW s, w' = g.w) (fun a' => ∀ B1 B2 w', Gr b w' → b.heap.size ≤ B1 → b.heap.size ≤ B2 → B1 ≠ B2 → Made w' B1 z1 → Made w' B2 z2 → wpList P l.toArray Q (l.drop (h + 2)) ((a'.put d1 (ptr B1)).put d2 (ptr B2)) w') (l.take h) a) :
    (Code.region id l.toArray true).wp P Q a w := by
  have hB' := hB
  simp only [Region.lexTailB, Bool.and_eq_true, decide_eq_true_eq] at hB'
  obtain ⟨⟨⟨⟨_, hn⟩, hs⟩, hc⟩, _⟩ := hB'
  refine wp_region_mix b h 2 hm hB h0 H fun s gs m a' inv hx hd hq => ?_
  simp only [Region.lexHead, Bool.and_eq_true] at hx
  obtain ⟨⟨r1, _⟩, ⟨r2, _⟩, q⟩ := hx
  have r1' : h ∈ Region.ready .any l.toArray m := by simpa using r1
  have r2' : h + 1 ∈ Region.ready .any l.toArray (m.setIfInBounds h true) := by simpa using r2
  have E1 : l.toArray[h]? = some x1 := by simpa using e1
  have E2 : l.toArray[h + 1]? = some x2 := by simpa using e2
  refine mixQ_new r1' fun i hi => ?_
  have i1 := in_head hs hc hn inv (i := h) (by omega) r1' hi
  have i2 : ¬ i < h := fun c => not_listed hi (hd i c)
  refine ⟨i1, by omega, ?_⟩
  rcases Nat.lt_or_ge h i with c | c
  · obtain rfl : i = h + 1 := by omega
    refine ⟨x2, d2, z2, t2, E2, n2, fun s' g' => ?_⟩
    have k1 : h ∈ Region.ready .any l.toArray (m.setIfInBounds (h + 1) true) := ready_mono r1' (by omega)
    refine mixQ_new k1 fun j hj => ?_
    have j1 := in_head hs hc hn (inv.set hi i1) (i := h) (by omega) k1 hj
    have j2 : ¬ j < h := fun c => not_listed hj (by rw [getD_set_ne true (by omega)]; exact hd j c)
    have j3 : j ≠ h + 1 := fun e => by subst e; exact not_listed hj (set_at _ _)
    obtain rfl : j = h := by omega
    refine ⟨j1, Nat.le_refl _, x1, d1, z1, t1, E1, n1, fun s'' g'' => ⟨by rw [Array.setIfInBounds_comm _ _ (by omega)]; exact q, fun w' gw => ?_⟩⟩
    have g1 := (Gr.alloc (Gr.refl s') (.cells z2 t2)).trans g''
    have g2 := (Gr.alloc (Gr.refl s'') (.cells z1 t1)).trans gw
    have z := g''.size
    simp at z
    rw [← hd12]
    exact hq _ _ w' ((gs.trans g').trans (g1.trans g2)) ((gs.trans g').trans g1).size (gs.trans g').size (by omega) ((Made.new s'' z1 t1).gr gw) ((Made.new s' z2 t2).gr (g''.trans g2))
  · obtain rfl : i = h := by omega
    refine ⟨x1, d1, z1, t1, E1, n1, fun s' g' => ?_⟩
    refine mixQ_new r2' fun j hj => ?_
    have j1 := in_head hs hc hn (inv.set hi i1) (i := i + 1) (by omega) r2' hj
    have j2 : ¬ j < i := fun c => not_listed hj (by rw [getD_set_ne true (by omega)]; exact hd j c)
    have j3 : j ≠ i := fun e => by subst e; exact not_listed hj (set_at _ _)
    obtain rfl : j = i + 1 := by omega
    refine ⟨j1, by omega, x2, d2, z2, t2, E2, n2, fun s'' g'' => ⟨q, fun w' gw => ?_⟩⟩
    have g1 := (Gr.alloc (Gr.refl s') (.cells z1 t1)).trans g''
    have g2 := (Gr.alloc (Gr.refl s'') (.cells z2 t2)).trans gw
    have z := g''.size
    simp at z
    exact hq _ _ w' ((gs.trans g').trans (g1.trans g2)) (gs.trans g').size ((gs.trans g').trans g1).size (by omega) ((Made.new s' z1 t1).gr (g''.trans g2)) ((Made.new s'' z2 t2).gr gw)
theorem new_ready {m : Array Bool} {i : Nat} {o : Oper} {d : Option Tmp} {z : Array Value} {t : TypeId} (N : NewAt P o d z t) (E : ops[i]? = some o) (h : m.getD i true = false) : i ∈ Region.ready md ops m :=
  mem_ready.2 ⟨h, o, E, fun e he => by rw [N.alone] at he; simp at he⟩
theorem rest1 {n h i : Nat} {L : Array Bool → Act → World → Prop} {m : Array Bool} {a : Act} {s : World} {x : Oper} {d : Option Tmp} {z : Array Value} {t : TypeId}
    (hs : Region.sinkB md ops n = true) (hc : Region.chainB md ops n = true) (hn : n < ops.size) (inv : HeadInv md ops n m) (hi : i ∈ Region.ready md ops m) (hin : i < n) (hhi : h ≤ i) (oth : ∀ t, t < n → t ≠ i → m.getD t true = true) (E : ops[i]? = some x) (N : NewAt P x d z t)
    (F : ∀ s', Gr s s' → L (m.setIfInBounds i true) (a.put d (ptr s'.heap.size)) (s'.alloc (.cells z t))) : mixQ P md ops h n L 1 m a s := by
  refine mixQ_new hi fun k hk => ?_
  have k1 := in_head hs hc hn inv hin hi hk
  obtain rfl : k = i := Classical.byContradiction fun c => not_listed hk (oth k k1 c)
  exact ⟨k1, hhi, x, d, z, t, E, N, F⟩
theorem rest2 {n h i j : Nat} {L : Array Bool → Act → World → Prop} {m : Array Bool} {a : Act} {s : World} {x y : Oper} {d e : Option Tmp} {z u : Array Value} {t r : TypeId}
    (hs : Region.sinkB md ops n = true) (hc : Region.chainB md ops n = true) (hn : n < ops.size) (inv : HeadInv md ops n m) (hi : i ∈ Region.ready md ops m) (hj : j ∈ Region.ready md ops m) (hij : i ≠ j) (hin : i < n) (hjn : j < n) (hhi : h ≤ i) (hhj : h ≤ j)
    (oth : ∀ t, t < n → t ≠ i → t ≠ j → m.getD t true = true) (E : ops[i]? = some x) (N : NewAt P x d z t) (E' : ops[j]? = some y) (N' : NewAt P y e u r)
    (F : ∀ s', Gr s s' → ∀ s'', Gr (s'.alloc (.cells z t)) s'' → L ((m.setIfInBounds i true).setIfInBounds j true) ((a.put d (ptr s'.heap.size)).put e (ptr s''.heap.size)) (s''.alloc (.cells u r)))
    (F' : ∀ s', Gr s s' → ∀ s'', Gr (s'.alloc (.cells u r)) s'' → L ((m.setIfInBounds j true).setIfInBounds i true) ((a.put e (ptr s'.heap.size)).put d (ptr s''.heap.size)) (s''.alloc (.cells z t))) : mixQ P md ops h n L 2 m a s := by
  refine mixQ_new hi fun k hk => ?_
  have k1 := in_head hs hc hn inv hin hi hk
  have k2 : k = i ∨ k = j := by
    rcases Nat.decEq k i with c | c
    · rcases Nat.decEq k j with c' | c'
      · exact (not_listed hk (oth k k1 c c')).elim
      · exact .inr c'
    · exact .inl c
  rcases k2 with rfl | rfl
  · refine ⟨k1, hhi, x, d, z, t, E, N, fun s' g' => ?_⟩
    exact rest1 hs hc hn (inv.set hk k1) (ready_mono hj (Ne.symm hij)) hjn hhj (fun t ht hne => by
      rcases Nat.decEq k t with c | c
      · rw [getD_set_ne true c]; exact oth t ht (Ne.symm c) hne
      · subst c; exact set_at _ _) E' N' (F s' g')
  · refine ⟨k1, hhj, y, e, u, r, E', N', fun s' g' => ?_⟩
    exact rest1 hs hc hn (inv.set hk k1) (ready_mono hi hij) hin hhi (fun t ht hne => by
      rcases Nat.decEq k t with c | c
      · rw [getD_set_ne true c]; exact oth t ht hne (Ne.symm c)
      · subst c; exact set_at _ _) E N (F' s' g')
theorem wp_region_new3 {id : Nat} {Q : Exit → Act → World → Prop} {a : Act} {w : World} {l : List Oper} (b : World) (h : Nat) (hm : P.follows .mixedOrders = true) (hB : Region.lexTailB .any l.toArray (h + 3) = true) (h0 : Gr b w)
    {x1 x2 x3 : Oper} {d1 d2 d3 : Option Tmp} {z1 z2 z3 : Array Value} {t1 t2 t3 : TypeId} (e1 : l[h]? = some x1) (e2 : l[h + 1]? = some x2) (e3 : l[h + 2]? = some x3) (n1 : NewAt P x1 d1 z1 t1) (n2 : NewAt P x2 d2 z2 t2) (n3 : NewAt P x3 d3 z3 t3)
    (h12 : ∀ (a : Act) u v, (a.put d1 u).put d2 v = (a.put d2 v).put d1 u) (h13 : ∀ (a : Act) u v, (a.put d1 u).put d3 v = (a.put d3 v).put d1 u) (h23 : ∀ (a : Act) u v, (a.put d2 u).put d3 v = (a.put d3 v).put d2 u)
    (H : ∀ s, Gr b s → wpQuiet P l.toArray (fun w' => ∃ g : GrW s, w' = g.w) (fun a' => ∀ B1 B2 B3 w', Gr b w' → b.heap.size ≤ B1 → b.heap.size ≤ B2 → b.heap.size ≤ B3 → B1 ≠ B2 → B1 ≠ B3 → B2 ≠ B3 → Made w' B1 z1 → Made w' B2 z2 → Made w' B3 z3 → wpList P l.toArray Q (l.drop (h + 3)) (((a'.put d1 (ptr B1)).put d2 (ptr B2)).put d3 (ptr B3)) w') (l.take h) a) :
    (Code.region id l.toArray true).wp P Q a w := by
  have hB' := hB
  simp only [Region.lexTailB, Bool.and_eq_true, decide_eq_true_eq] at hB'
  obtain ⟨⟨⟨⟨_, hn⟩, hs⟩, hc⟩, _⟩ := hB'
  refine wp_region_mix b h 3 hm hB h0 H fun s gs m a' inv hx hd hq => ?_
  simp only [Region.lexHead, Bool.and_eq_true] at hx
  obtain ⟨⟨r1, _⟩, ⟨r2, _⟩, ⟨r3, _⟩, q⟩ := hx
  have r1' : h ∈ Region.ready .any l.toArray m := by simpa using r1
  have r2' : h + 1 ∈ Region.ready .any l.toArray (m.setIfInBounds h true) := by simpa using r2
  have r3' : h + 2 ∈ Region.ready .any l.toArray ((m.setIfInBounds h true).setIfInBounds (h + 1) true) := by simpa using r3
  have E1 : l.toArray[h]? = some x1 := by simpa using e1
  have E2 : l.toArray[h + 1]? = some x2 := by simpa using e2
  have E3 : l.toArray[h + 2]? = some x3 := by simpa using e3
  have c12 : ∀ m : Array Bool, (m.setIfInBounds h true).setIfInBounds (h + 1) true = (m.setIfInBounds (h + 1) true).setIfInBounds h true := fun m => Array.setIfInBounds_comm _ _ (by omega)
  have c13 : ∀ m : Array Bool, (m.setIfInBounds h true).setIfInBounds (h + 2) true = (m.setIfInBounds (h + 2) true).setIfInBounds h true := fun m => Array.setIfInBounds_comm _ _ (by omega)
  have c23 : ∀ m : Array Bool, (m.setIfInBounds (h + 1) true).setIfInBounds (h + 2) true = (m.setIfInBounds (h + 2) true).setIfInBounds (h + 1) true := fun m => Array.setIfInBounds_comm _ _ (by omega)
  -- whatever came first, the end is one
  have fin : ∀ B1 B2 B3 (s1 : World), Gr s s1 → s.heap.size ≤ B1 → s.heap.size ≤ B2 → s.heap.size ≤ B3 → B1 ≠ B2 → B1 ≠ B3 → B2 ≠ B3 → Made s1 B1 z1 → Made s1 B2 z2 → Made s1 B3 z3 →
      endQ P Q l (h + 3) (((m.setIfInBounds h true).setIfInBounds (h + 1) true).setIfInBounds (h + 2) true) (((a'.put d1 (ptr B1)).put d2 (ptr B2)).put d3 (ptr B3)) s1 := fun B1 B2 B3 s1 g k1 k2 k3 m1 m2 m3 f1 f2 f3 =>
    ⟨q, fun w' gw => hq B1 B2 B3 w' (gs.trans (g.trans gw)) (Nat.le_trans gs.size k1) (Nat.le_trans gs.size k2) (Nat.le_trans gs.size k3) m1 m2 m3 (f1.gr gw) (f2.gr gw) (f3.gr gw)⟩
  refine mixQ_new r1' fun i hi => ?_
  have i1 := in_head hs hc hn inv (i := h) (by omega) r1' hi
  have i2 : ¬ i < h := fun c => not_listed hi (hd i c)
  refine ⟨i1, by omega, ?_⟩
  have oth : ∀ {i t : Nat}, t < h → i ≠ t → (m.setIfInBounds i true).getD t true = true := fun ht hne => by rw [getD_set_ne true hne]; exact hd _ ht
  have u1 := (mem_ready.1 r1').1
  have u2 : m.getD (h + 1) true = false := by have := (mem_ready.1 r2').1; rwa [getD_set_ne true (by omega)] at this
  have u3 : m.getD (h + 2) true = false := by have := (mem_ready.1 r3').1; rwa [getD_set_ne true (by omega), getD_set_ne true (by omega)] at this
  have un : ∀ {i j : Nat}, m.getD j true = false → i ≠ j → (m.setIfInBounds i true).getD j true = false := fun hu hne => by rw [getD_set_ne true hne]; exact hu
  have G := fun (x : World) (o : Obj) => Gr.alloc (Gr.refl x) o
  rcases (by omega : i = h ∨ i = h + 1 ∨ i = h + 2) with rfl | rfl | rfl
  · refine ⟨x1, d1, z1, t1, E1, n1, fun s' g' => ?_⟩
    refine rest2 (i := i + 1) (j := i + 2) hs hc hn (inv.set hi i1) (new_ready n2 E2 (un u2 (by omega))) (new_ready n3 E3 (un u3 (by omega))) (by omega) (by omega) (by omega) (by omega) (by omega) (fun t ht ha hb => ?_) E2 n2 E3 n3 (fun p gp r gr => ?_) (fun p gp r gr => ?_)
    · rcases Nat.lt_or_ge t i with c | c
      · exact oth c (by omega)
      · obtain rfl : t = i := by omega
        exact set_at _ _
    · have k1 := (g'.size); have k2 := gp.size; have k3 := gr.size
      simp at k1 k2 k3
      exact fin _ _ _ _ (g'.trans ((G _ _).trans (gp.trans ((G _ _).trans (gr.trans (G _ _)))))) (by omega) (by omega) (by omega) (by omega) (by omega) (by omega) ((Made.new s' z1 t1).gr (gp.trans ((G _ _).trans (gr.trans (G _ _))))) ((Made.new p z2 t2).gr (gr.trans (G _ _))) (Made.new r z3 t3)
    · have k1 := (g'.size); have k2 := gp.size; have k3 := gr.size
      simp at k1 k2 k3
      rw [← c23, ← h23]
      exact fin _ _ _ _ (g'.trans ((G _ _).trans (gp.trans ((G _ _).trans (gr.trans (G _ _)))))) (by omega) (by omega) (by omega) (by omega) (by omega) (by omega) ((Made.new s' z1 t1).gr (gp.trans ((G _ _).trans (gr.trans (G _ _))))) (Made.new r z2 t2) ((Made.new p z3 t3).gr (gr.trans (G _ _)))
  · refine ⟨x2, d2, z2, t2, E2, n2, fun s' g' => ?_⟩
    refine rest2 (i := h) (j := h + 2) hs hc hn (inv.set hi i1) (new_ready n1 E1 (un u1 (by omega))) (new_ready n3 E3 (un u3 (by omega))) (by omega) (by omega) (by omega) (by omega) (by omega) (fun t ht ha hb => ?_) E1 n1 E3 n3 (fun p gp r gr => ?_) (fun p gp r gr => ?_)
    · rcases Nat.lt_or_ge t h with c | c
      · exact oth c (by omega)
      · obtain rfl : t = h + 1 := by omega
        exact set_at _ _
    · have k1 := (g'.size); have k2 := gp.size; have k3 := gr.size
      simp at k1 k2 k3
      rw [← c12, ← h12]
      exact fin _ _ _ _ (g'.trans ((G _ _).trans (gp.trans ((G _ _).trans (gr.trans (G _ _)))))) (by omega) (by omega) (by omega) (by omega) (by omega) (by omega) ((Made.new p z1 t1).gr (gr.trans (G _ _))) ((Made.new s' z2 t2).gr (gp.trans ((G _ _).trans (gr.trans (G _ _))))) (Made.new r z3 t3)
    · have k1 := (g'.size); have k2 := gp.size; have k3 := gr.size
      simp at k1 k2 k3
      rw [← c13, ← c12, ← h13, ← h12]
      exact fin _ _ _ _ (g'.trans ((G _ _).trans (gp.trans ((G _ _).trans (gr.trans (G _ _)))))) (by omega) (by omega) (by omega) (by omega) (by omega) (by omega) (Made.new r z1 t1) ((Made.new s' z2 t2).gr (gp.trans ((G _ _).trans (gr.trans (G _ _))))) ((Made.new p z3 t3).gr (gr.trans (G _ _)))
  · refine ⟨x3, d3, z3, t3, E3, n3, fun s' g' => ?_⟩
    refine rest2 (i := h) (j := h + 1) hs hc hn (inv.set hi i1) (new_ready n1 E1 (un u1 (by omega))) (new_ready n2 E2 (un u2 (by omega))) (by omega) (by omega) (by omega) (by omega) (by omega) (fun t ht ha hb => ?_) E1 n1 E2 n2 (fun p gp r gr => ?_) (fun p gp r gr => ?_)
    · rcases Nat.lt_or_ge t h with c | c
      · exact oth c (by omega)
      · obtain rfl : t = h + 2 := by omega
        exact set_at _ _
    · have k1 := (g'.size); have k2 := gp.size; have k3 := gr.size
      simp at k1 k2 k3
      rw [← c13, ← c23, ← h13, ← h23]
      exact fin _ _ _ _ (g'.trans ((G _ _).trans (gp.trans ((G _ _).trans (gr.trans (G _ _)))))) (by omega) (by omega) (by omega) (by omega) (by omega) (by omega) ((Made.new p z1 t1).gr (gr.trans (G _ _))) (Made.new r z2 t2) ((Made.new s' z3 t3).gr (gp.trans ((G _ _).trans (gr.trans (G _ _)))))
    · have k1 := (g'.size); have k2 := gp.size; have k3 := gr.size
      simp at k1 k2 k3
      rw [← c23, ← c13, ← c12, ← h23, ← h13, ← h12]
      exact fin _ _ _ _ (g'.trans ((G _ _).trans (gp.trans ((G _ _).trans (gr.trans (G _ _)))))) (by omega) (by omega) (by omega) (by omega) (by omega) (by omega) (Made.new r z1 t1) ((Made.new p z2 t2).gr (gr.trans (G _ _))) ((Made.new s' z3 t3).gr (gp.trans ((G _ _).trans (gr.trans (G _ _)))))
end
end Go.Proofs.YtocbcbfniiioaaaGreat
