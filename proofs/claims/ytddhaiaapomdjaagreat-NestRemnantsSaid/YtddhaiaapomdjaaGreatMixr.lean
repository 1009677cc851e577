/-
  A region that draws its order and makes new variables between its calls ('x, y := f(..), g(..)'): one walk of the calls in the order of the text; then the stores, whatever blocks the variables got. No program.
-/
import Derived.Test.YtddhaiaapomdjaaGreatTailr
import Derived.Calls
import Derived.Fence
import Derived.Laws.Rows
namespace Go.Proofs.YtddhaiaapomdjaaGreat
set_option linter.unusedVariables false
set_option linter.unusedSimpArgs false
open Go Go.ChangeShapes Go.WideShapes Go.ChangeAt Go.RowKit Go.Deep

section
variable {P : Program}
theorem ends_once {m x y : Machine} {o o' : Outcome} {w w' : World} (h1 : Steps P m x) (e1 : step P x = .ended o w) (h2 : Steps P m y) (e2 : step P y = .ended o' w') : x = y := by
  rw [steps_iff] at h1 h2
  induction h1 with
  | refl m =>
    cases h2 with
    | refl => rfl
    | head _ h _ => rw [e1] at h; cases h
  | head _ h _ ih =>
    cases h2 with
    | refl => rw [e2] at h; cases h
    | head _ h' k' =>
      rw [h] at h'
      cases h'
      exact ih e1 k'
/-- a caller that takes what it is given, and stands -/
def taker (P : Program) : Frame := { fn := P.funcs.size, tmps := #[], todo := [.extern "" #[], .code (.cond (.const undef) .skip .skip)], defers := [], mode := .run, kind := .normal }
theorem taker_ends (P : Program) (v : Value) (w : World) : ∃ o, step P (lone ((taker P).finish v) [] w) = .ended o w := by
  refine ⟨_, step_lone_ended (o := .stuck "cond: bool expected" (((taker P).finish v).pos P)) ?_⟩
  simp [stepG, stepG.exec, taker, Frame.finish, Frame.eval, undef]
  try rfl
theorem Calls.same {f : FuncId} {args : Array Value} {w : World} {v1 v2 : Value} {R1 R2 : World → Prop} (h1 : Calls P f args w fun e w' => e = .returned v1 ∧ R1 w') (h2 : Calls P f args w fun e w' => e = .returned v2 ∧ R2 w') : v1 = v2 := by
  obtain ⟨e1, w1, f1, ⟨rfl, _⟩, c1, _, l1⟩ := h1 [taker P]
  obtain ⟨e2, w2, f2, ⟨rfl, _⟩, c2, _, l2⟩ := h2 [taker P]
  obtain ⟨o1, k1⟩ := taker_ends P v1 w1
  obtain ⟨o2, k2⟩ := taker_ends P v2 w2
  have s1 : Steps P (lone (Frame.enter P f args .normal) [taker P] w) (lone ((taker P).finish v1) [] w1) := Steps.trans c1 (Steps.one (step_leave_returned l1))
  have s2 : Steps P (lone (Frame.enter P f args .normal) [taker P] w) (lone ((taker P).finish v2) [] w2) := Steps.trans c2 (Steps.one (step_leave_returned l2))
  have e := ends_once s1 k1 s2 k2
  have e' : w1 = w2 ∧ v1 = v2 := by simpa [lone, taker, Frame.finish] using e
  exact e'.2

variable {ops : Array Oper} {md : Region.Mode}
/-- one value, from every world grown out of s; each leaves a world grown out of its own -/
def relQ (P : Program) (o : Oper) (a : Act) (s : World) (v : Value) : Prop := ∀ w, Gr s w → o.quietAt P a (Gr w) w v
def relY (P : Program) (ops : Array Oper) (s : World) (o : Oper) (v : Value) (a : Act) : Prop :=
  (Region.wanted o (yielded ops a.tmps) = true ∧ relQ P o a s v) ∨ (Region.wanted o (yielded ops a.tmps) = false ∧ v = undef)
theorem relY.up {s s' : World} {o : Oper} {v : Value} {a : Act} (h : relY P ops s o v a) (g : Gr s s') : relY P ops s' o v a :=
  h.imp (fun ⟨k, r⟩ => ⟨k, fun w hw => r w (g.trans hw)⟩) id
abbrev ptr (B : Nat) : Value := .pointer (some ⟨B, 0, none⟩)
/-- the operation makes a variable -/
structure NewAt (P : Program) (o : Oper) (d : Option Tmp) (z : Array Value) (t : TypeId) : Prop where
  dst : o.dst = d
  wanted : ∀ y, Region.wanted o y = true
  alone : o.after = #[]
  run : ∀ (a : Act) (w : World), (execOp a.eval o).run P w = .ok (.value (ptr w.heap.size)) (w.alloc (.cells z t))
/-- block B holds z, and may be written -/
def Made (w : World) (B : Nat) (z : Array Value) : Prop := B < w.heap.size ∧ (∀ o, w.cell? ⟨B, o, none⟩ = z[o]?) ∧ ∀ o, w.frozen? ⟨B, o, none⟩ = false
theorem Made.new (w : World) (z : Array Value) (t : TypeId) : Made (w.alloc (.cells z t)) w.heap.size z := by
  have hb : (w.alloc (.cells z t)).heap[w.heap.size]? = some (.cells z t (0, 0)) := heap_alloc_new w _
  refine ⟨by simp, fun o => cell_of_row _ _ o z t (0, 0) hb, fun o => ?_⟩
  unfold World.frozen?
  simp only [hb]
  simp
theorem Made.gr {w w' : World} {B : Nat} {z : Array Value} (h : Made w B z) (g : Gr w w') : Made w' B z :=
  ⟨Nat.lt_of_lt_of_le h.1 g.size, fun o => (g.cell B o h.1).trans (h.2.1 o), fun o => (g.frozen B o h.1).trans (h.2.2 o)⟩
end
end Go.Proofs.YtddhaiaapomdjaaGreat
