/-
  The frame of every law of a seat: arguments opened to integers, the law's step, over whatever program. No program.
-/
import Derived.WalkKit
import Derived.ProofKit
import Derived.LaidMore
import Derived.OpenShut
import Derived.Stop.Joined
import Derived.SevenTiedAt
import Derived.Lib.SmallJoins
import Derived.Deep.Slices
import Derived.Deep.Fields
import Derived.Deep.QuietTactic
import Derived.BigQuiet
namespace Go.Proofs.YtddhaiaapomdjaaGreat
set_option linter.unusedVariables false
set_option linter.unusedSimpArgs false
open Go Go.ChangeShapes Go.WideShapes Go.ChangeAt Go.RowKit Go.Deep

/-- an int64 -/
def I64 (z : Int) : Prop := -9223372036854775808 ≤ z ∧ z ≤ 9223372036854775807
abbrev iv (z : Int) : Value := .int .i64 z

/-- Type t reads as k integers, one a cell. -/
def IntsAt (P : Program) (t : TypeId) (k : Nat) : Prop :=
  ∀ {H : Type} (enc : TypeId × Value → H) (w : World) (base : Nat) (spare : Nat → Bool) (held : Bool) (fuel : Nat) (cs : List Value) (x : DataW H × List MemPlace),
    DataW.trod enc P w base spare held fuel t cs = some x → ∃ zs : List Int, zs.length = k ∧ cs = zs.map iv ∧ ∀ z ∈ zs, I64 z

theorem intsAt_int {P : Program} {t : TypeId} (h : P.underlying t = some (.int .i64)) : IntsAt P t 1 := by
  intro H enc w base spare held fuel cs x hx
  obtain ⟨n, rfl, _, hw⟩ := DataW.trod_int h hx
  refine ⟨[n], rfl, rfl, ?_⟩
  intro z hz
  obtain rfl := List.mem_singleton.1 hz
  simpa [Lit.wf, IntKind.min, IntKind.max, IntKind.signed, IntKind.bits, I64] using hw

theorem list_parts (cs : List Value) (k : Nat) : ∀ (m : Nat), cs.length = m * k → (∀ i, i < m → ∃ zs : List Int, zs.length = k ∧ (cs.drop (i * k)).take k = zs.map iv ∧ ∀ z ∈ zs, I64 z) →
    ∃ zs : List Int, zs.length = m * k ∧ cs = zs.map iv ∧ ∀ z ∈ zs, I64 z := by
  intro m
  induction m generalizing cs with
  | zero => intro hl _; exact ⟨[], by simp, by simpa using hl, by simp⟩
  | succ m ih =>
    intro hl h
    obtain ⟨z0, l0, e0, b0⟩ := h 0 (by omega)
    simp only [Nat.zero_mul, List.drop_zero] at e0
    obtain ⟨z1, l1, e1, b1⟩ := ih (cs.drop k) (by rw [List.length_drop, hl, Nat.succ_mul]; omega) (fun i hi => by
      obtain ⟨z, l, e, b⟩ := h (i + 1) (by omega)
      refine ⟨z, l, ?_, b⟩
      rw [List.drop_drop, ← e, Nat.succ_mul, Nat.add_comm])
    refine ⟨z0 ++ z1, by rw [List.length_append, l0, l1, Nat.succ_mul]; omega, ?_, fun z hz => ?_⟩
    · rw [List.map_append, ← e0, ← e1, List.take_append_drop]
    · rcases List.mem_append.1 hz with h | h
      · exact b0 z h
      · exact b1 z h

/-- A struct of m fields of one type that reads as k integers. -/
theorem intsAt_struct {P : Program} {t e : TypeId} {fs : Array Field} {k m : Nat} (h : P.underlying t = some (.struct fs)) (he : IntsAt P e k) (hk : P.cellsOf e = k) (hm : fs.size = m) (hC : P.cellsOf t = m * k)
    (hf : ∀ i, i < m → ∃ f, fs[i]? = some f ∧ f.type = e ∧ f.offset = i * k) : IntsAt P t (m * k) := by
  intro H enc w base spare held fuel cs x hx
  obtain ⟨xs, n, _, _, hl, hxl, hg⟩ := DataW.trod_struct h hx
  refine list_parts cs k m (hl.trans hC) fun i hi => ?_
  obtain ⟨f, h1, h2, h3⟩ := hf i hi
  have h4 := hg i f h1
  rw [h2, h3, hk] at h4
  have h5 : xs[i]? = some (xs[i]'(by omega)) := List.getElem?_eq_getElem (by omega)
  rw [h5] at h4
  exact he enc w base spare held n _ _ h4

/-- A field's reading, by its type and place. -/
theorem field_use {P : Program} {fs : Array Field} {H : Type} {enc : TypeId × Value → H} {w : World} {base : Nat} {spare : Nat → Bool} {held : Bool} {n : Nat} {cs : List Value} {xs : List (DataW H × List MemPlace)}
    (hg : ∀ (i : Nat) (f : Field), fs[i]? = some f → DataW.trod enc P w base spare held n f.type ((cs.drop f.offset).take (P.cellsOf f.type)) = xs[i]?)
    (i : Nat) (T : TypeId) (o : Nat) (e : (fs[i]?).map (fun f => (f.type, f.offset)) = some (T, o)) : DataW.trod enc P w base spare held n T ((cs.drop o).take (P.cellsOf T)) = xs[i]? := by
  cases e1 : fs[i]? with
  | none => rw [e1] at e; cases e
  | some f =>
    rw [e1] at e
    simp only [Option.map_some, Option.some.injEq, Prod.mk.injEq] at e
    obtain ⟨rfl, rfl⟩ := e
    exact hg i f e1

/-- What came in reads behind the call as it did, where nothing below the heap's old size has turned. -/
theorem trodAll_keep {H : Type} {enc : TypeId × Value → H} {P : Program} (hl : laidOutB P = true) {W W' : World} (hb : Below W.heap.size W W') :
    ∀ {ts : List TypeId} {vs : List Value} {ds : List (DataW H)} {ps : List MemPlace}, (ts.all fun t => P.readableRec t && decide (t < P.types.size)) = true → (∀ x ∈ ps, x.block < W.heap.size) →
      DataW.TrodAll enc P W 0 (fun _ => true) true ts vs ds ps → DataW.TrodAll enc P W' 0 (fun b => decide (b < W.heap.size)) true ts vs ds ps
  | [], [], [], _, _, _, h => h
  | t :: ts, v :: vs, d :: ds, _, hr, hlt, h => by
    obtain ⟨p, q, h1, h2, rfl⟩ := h
    simp only [List.all_cons, Bool.and_eq_true, decide_eq_true_eq] at hr
    exact ⟨p, q, Below.trod hl hr.1.1 hr.1.2 h1 hb (fun x hx => hlt x (List.mem_append_left _ hx)), trodAll_keep hl hb hr.2 (fun x hx => hlt x (List.mem_append_right _ hx)) h2, rfl⟩
  | [], [], _ :: _, _, _, _, h => h.elim
  | [], _ :: _, _, _, _, _, h => h.elim
  | _ :: _, [], _, _, _, _, h => h.elim
  | _ :: _, _ :: _, [], _, _, _, h => h.elim

/-- A law over a plain specification: it says true, what came in reads as it did. -/
structure LawSpec (s : ChangeSpec) (n : Nat) : Prop where
  vars : s.vars = []
  says : ∀ (H : Type) (ds : List (DataW H)), ds.length = n → s.fn H ds = { results := [.lit (.bool true)], args := ds }

theorem trodAll_length {H : Type} {enc : TypeId × Value → H} {P : Program} {w : World} {base : Nat} {sp : Nat → Bool} {held : Bool} : ∀ {ts : List TypeId} {vs : List Value} {ds : List (DataW H)} {ps : List MemPlace}, DataW.TrodAll enc P w base sp held ts vs ds ps → ds.length = ts.length
  | [], [], [], _, _ => rfl
  | _ :: _, _ :: _, _ :: _, _, h => by
    obtain ⟨p, q, _, h2, _⟩ := h
    simp [trodAll_length h2]
  | [], [], _ :: _, _, h => h.elim
  | [], _ :: _, _, _, h => h.elim
  | _ :: _, [], _, _, h => h.elim
  | _ :: _, _ :: _, [], _, h => h.elim

/-- The step of the row of any law: the walk is what is left. -/
theorem law_step {P : Program} {f : FuncId} {fn : Func} {s : ChangeSpec} {n bt : Nat} {H : Type} {enc : TypeId × Value → H} (hs : LawSpec s n) (hn : fn.params.size = n) (hl : laidOutB P = true) (hb4 : P.underlying bt = some .bool) (hrt : fn.resultTypes = #[bt])
    (hro : (fn.params.toList.all fun t => P.readableRec t && decide (t < P.types.size)) = true)
    {W : World} {args : Array Value} {ds gs : List (DataW H)} {before : List MemPlace} (hW : DataW.Whole enc P fn.params.toList s.vars false W args.toList ds gs before)
    (walk : Calls P f args W fun e W' => e = .returned (.bool true) ∧ Below W.heap.size W W') :
    Calls P f args W fun e W' => ∃ v, e = .returned v ∧ s.post enc P fn false true false false W args v W' := by
  refine walk.mono fun e W' ⟨he, hb⟩ => ?_
  have hlt : ∀ x ∈ before, x.block < W.heap.size := fun x hx => hW.lt x hx
  have hW0 := hW
  obtain ⟨p, q, hA, hV, rfl, hfz, hnd⟩ := hW
  rw [hs.vars] at hV
  obtain ⟨rfl, rfl⟩ : gs = [] ∧ q = [] := by
    cases gs with
    | nil => exact ⟨rfl, hV⟩
    | cons g r => exact absurd hV (by intro h; cases h)
  have hlen : ds.length = n := by rw [trodAll_length hA, ← hn]; simp
  have e1 := hs.says H ds hlen
  refine ⟨_, he, ds, [], p ++ [], [], p, [], hW0, ?_, ?_, ?_, hb.frame _, fun h => by cases h⟩
  · rw [List.append_nil, e1, hrt]
    exact trodAll_mk1 (shut_bool hb4 true)
  · rw [List.append_nil, e1]
    exact trodAll_keep hl hb hro (fun x hx => hlt x (List.mem_append_left _ hx)) hA
  · rw [hs.vars, List.append_nil, e1]
    rfl

theorem hide {p : Prop} (h : p) : Hid p := h
/-- w' is w with more behind it: what was there is as it was. -/
def Gr (w w' : World) : Prop := Below w.heap.size w w'
theorem Gr.refl (w : World) : Gr w w := Below.refl _ _
theorem Gr.size {a b : World} (h : Gr a b) : a.heap.size ≤ b.heap.size := Below.size h
theorem Gr.trans {a b c : World} (h : Gr a b) (k : Gr b c) : Gr a c := Below.trans h (Below.mono k h.size)
theorem Gr.alloc {a b : World} (h : Gr a b) (o : Obj) : Gr a (b.alloc o) := Below.alloc h h.size o
theorem Gr.drew {a b : World} (h : Gr a b) : Gr a b.drew := Below.drew h
theorem Gr.drewN {a b : World} (h : Gr a b) (n : Nat) : Gr a (b.drewN n) := ⟨h.os, h.tape, h.output, h.size, h.block⟩
theorem Gr.setCell {a b : World} (h : Gr a b) {p : Addr} (hp : a.heap.size ≤ p.block) (u : Value) : Gr a (b.setCell p u) := Below.setCell h hp u
theorem Gr.grown {a b c : World} {row : Option Nat} (h : Gr a b) (hg : b.grownBy c row) (hr : ∀ k, row = some k → a.heap.size ≤ k) : Gr a c := Below.grown h hg h.size hr
theorem Gr.cell {a b : World} (h : Gr a b) : ∀ i o, i < a.heap.size → b.cell? ⟨i, o, none⟩ = a.cell? ⟨i, o, none⟩ := fun i o hi => Below.cell (p := ⟨i, o, none⟩) h hi
theorem Gr.frozen {a b : World} (h : Gr a b) : ∀ i o, i < a.heap.size → b.frozen? ⟨i, o, none⟩ = a.frozen? ⟨i, o, none⟩ := fun i o hi => Below.frozen (p := ⟨i, o, none⟩) h hi
theorem cell_lt {w : World} {i o : Nat} (h : (w.cell? ⟨i, o, none⟩).isSome = true) : i < w.heap.size := by
  refine Nat.not_le.1 fun hle => ?_
  have e : w.heap[i]? = none := by simp [hle]
  simp [World.cell?, e] at h
theorem cell_keep_alloc {w : World} {i o : Nat} {v : Value} (h : w.cell? ⟨i, o, none⟩ = some v) (ob : Obj) : (w.alloc ob).cell? ⟨i, o, none⟩ = some v := by
  rw [(Gr.alloc (Gr.refl w) ob).cell i o (cell_lt (by rw [h]; rfl)), h]
/-- What a walk wants of a world that has grown, with no side condition: each cell is the old one, where there was one. -/
theorem Gr.use {a b : World} (h : Gr a b) : ∃ (X : Nat → Nat → Option Value) (Y : Nat → Nat → Bool),
    (∀ i o, b.cell? ⟨i, o, none⟩ = (a.cell? ⟨i, o, none⟩).or (X i o)) ∧ (∀ i o, b.frozen? ⟨i, o, none⟩ = cond (a.cell? ⟨i, o, none⟩).isSome (a.frozen? ⟨i, o, none⟩) (Y i o)) := by
  refine ⟨fun i o => b.cell? ⟨i, o, none⟩, fun i o => b.frozen? ⟨i, o, none⟩, fun i o => ?_, fun i o => ?_⟩
  · cases e : a.cell? ⟨i, o, none⟩ with
    | none => rfl
    | some v => rw [h.cell i o (cell_lt (by rw [e]; rfl)), e]; rfl
  · cases e : a.cell? ⟨i, o, none⟩ with
    | none => rfl
    | some v => rw [h.frozen i o (cell_lt (by rw [e]; rfl))]; rfl

/-- From block lo on, what was there is as it was. -/
def Ab (lo : Nat) (a b : World) : Prop := a.heap.size ≤ b.heap.size ∧ ∀ k, lo < k → k < a.heap.size → b.heap[k]? = a.heap[k]?
theorem Ab.refl (lo : Nat) (a : World) : Ab lo a a := ⟨Nat.le_refl _, fun _ _ _ => rfl⟩
theorem Ab.gr {lo : Nat} {a b c : World} (h : Ab lo a b) (g : Gr b c) : Ab lo a c :=
  ⟨Nat.le_trans h.1 g.size, fun k h1 h2 => (Below.block g k (Nat.lt_of_lt_of_le h2 h.1)).trans (h.2 k h1 h2)⟩
theorem Ab.drew {lo : Nat} {a b : World} (h : Ab lo a b) : Ab lo a b.drew := h
theorem Ab.drewN {lo : Nat} {a b : World} (h : Ab lo a b) (n : Nat) : Ab lo a (b.drewN n) := h
theorem Ab.alloc {lo : Nat} {a b : World} (h : Ab lo a b) (o : Obj) : Ab lo a (b.alloc o) := h.gr (Gr.alloc (Gr.refl b) o)
theorem Ab.setCell {lo : Nat} {a b : World} (h : Ab lo a b) {p : Addr} (hp : p.block ≤ lo) (u : Value) : Ab lo a (b.setCell p u) :=
  ⟨by simpa using h.1, fun k h1 h2 => (Below.heap_setCell b p u k (by omega)).trans (h.2 k h1 h2)⟩
theorem Ab.cell {lo : Nat} {a b : World} (h : Ab lo a b) : ∀ ii oo, lo < ii → ii < a.heap.size → b.cell? ⟨ii, oo, none⟩ = a.cell? ⟨ii, oo, none⟩ :=
  fun ii oo h1 h2 => World.cell?_of_block (w := a) (h.2 ii h1 h2)

/-- A world that has grown out of b: for a region that draws its order and whose callees lay blocks of their own, walked once. -/
structure GrW (b : World) where
  w : World
  gr : Gr b w
instance grwInhabited (b : World) : Inhabited (GrW b) := ⟨⟨b, Gr.refl b⟩⟩
def GrW.X {b : World} (g : GrW b) (i o : Nat) : Option Value := g.w.cell? ⟨i, o, none⟩
theorem GrW.cell {b : World} (g : GrW b) (i o : Nat) : g.w.cell? ⟨i, o, none⟩ = (b.cell? ⟨i, o, none⟩).or (g.X i o) := by
  cases e : b.cell? ⟨i, o, none⟩ with
  | none => rfl
  | some v => rw [g.gr.cell i o (cell_lt (by rw [e]; rfl)), e]; rfl
theorem wp_region_grw {P : Program} {id : Nat} {Q : Exit → Act → World → Prop} {a : Act} {w : World} {l : List Oper} (b : World) (hm : P.follows .mixedOrders = true) (hB : Region.lexB .any l.toArray = true) (h0 : Gr b w)
    (h : wpQuiet P l.toArray (fun w' => ∃ g : GrW b, w' = g.w) (fun a' => ∀ w', (∃ g : GrW b, w' = g.w) → Q .normal a' w') l a) : (Code.region id l.toArray true).wp P Q a w :=
  wp_region_quiet (C := fun w' => ∃ g : GrW b, w' = g.w) hm hB ⟨⟨_, Gr.drew h0⟩, rfl⟩ (by simpa using h)
theorem quiet_grw {P : Program} {f : FuncId} {args : Array Value} {b : World} {g : GrW b} {v : Value} (c : Calls P f args g.w fun e w' => e = .returned v ∧ Gr g.w w') :
    Calls P f args g.w fun e w'' => e = .returned v ∧ ∃ g' : GrW b, w'' = g'.w :=
  c.mono fun _ w'' ⟨he, h⟩ => ⟨he, ⟨w'', g.gr.trans h⟩, rfl⟩
end Go.Proofs.YtddhaiaapomdjaaGreat
