/-
  What is mounted at a step, on both sides.
-/
import Derived.Test.YtfndhddnglcliaaSb14
set_option linter.unusedVariables false
set_option linter.unusedSimpArgs false
namespace Go.Proofs.Ytfndhddnglcliaa
set_option linter.unusedVariables false
set_option linter.unusedSimpArgs false
open Go Go.ChangeShapes Go.WideShapes Go.ChangeAt Go.RowKit Go.Deep

/-- what one change makes of the pair on station i -/
def moF (step i : Int) (a : Int) (x : Chg) : Int := if x.st ≤ step ∧ x.sn = i then x.pr else a
/-- the pair on station i at a step -/
def mo1 (l : List Chg) (step i : Int) : Int := l.foldl (moF step i) (-1)
def moL (s : Nat) (l : List Chg) (step : Int) : List Int := (List.range s).map fun i : Nat => mo1 l step (i : Int)
theorem moL_len (s : Nat) (l : List Chg) (step : Int) : (moL s l step).length = s := by simp [moL]
theorem moL_at {s i : Nat} {l : List Chg} {step : Int} (h : i < s) : (moL s l step)[i]? = some (mo1 l step i) := by
  unfold moL
  rw [List.getElem?_map, List.getElem?_range h]
  rfl
theorem mo1_at {l : List Chg} {k : Nat} {x : Chg} {step i : Int} (h : l[k]? = some x) : mo1 (l.take (k + 1)) step i = moF step i (mo1 (l.take k) step i) x := by
  unfold mo1
  rw [take_at h, List.foldl_append]
  rfl
/-- the error of Mounted, and what it gives -/
noncomputable def mtE (ns : List Nd) (s : Int) (l : List Chg) (step : Int) : Int := if chE ns s ≠ 0 then chE ns s else if orB ns.length s l then (if wiB step 0 ((ns.length : Int) - 1) then 0 else 1) else 12
noncomputable def mtL (ns : List Nd) (s : Int) (l : List Chg) (step : Int) : List Int := if mtE ns s l step = 0 then moL s.toNat l step else []
theorem mtE_bad {ns : List Nd} {s : Int} {l : List Chg} {step : Int} (h : ¬ chE ns s = 0) : mtE ns s l step = chE ns s := by unfold mtE; rw [if_pos h]
theorem mtE_ord {ns : List Nd} {s : Int} {l : List Chg} {step : Int} (h : chE ns s = 0) (k : orB ns.length s l = false) : mtE ns s l step = 12 := by unfold mtE; rw [if_neg (by simpa using h), k]; rfl
theorem mtE_in {ns : List Nd} {s : Int} {l : List Chg} {step : Int} (h : chE ns s = 0) (k : orB ns.length s l = true) : mtE ns s l step = if wiB step 0 ((ns.length : Int) - 1) then 0 else 1 := by unfold mtE; rw [if_neg (by simpa using h), k]; rfl
theorem mtL_no {ns : List Nd} {s : Int} {l : List Chg} {step : Int} (h : ¬ mtE ns s l step = 0) : mtL ns s l step = [] := by unfold mtL; rw [if_neg h]
theorem mtL_yes {ns : List Nd} {s : Int} {l : List Chg} {step : Int} (h : mtE ns s l step = 0) : mtL ns s l step = moL s.toNat l step := by unfold mtL; rw [if_pos h]
theorem okC_sn {n : Nat} {s : Int} {c : Chg} (h : okC n s c = true) : 0 ≤ c.sn ∧ c.sn ≤ s - 1 := by
  unfold okC at h
  simp only [Bool.and_eq_true, wiB_iff] at h
  exact h.2.1
theorem sli_nil (w : World) : SlI w none 0 [] := ⟨fun i x hx => by simp at hx, by simp, by decide⟩
theorem Blk.sli {w : World} {B n : Nat} {l : List Int} (h : Blk w B (fun i => iv (l.getD i 0)) n) (hn : l.length = n) (hm : n ≤ 1000) : SlI w (some ⟨B, 0, none⟩) n l := by
  refine ⟨fun i x hx => ⟨B, 0, rfl, ?_, trivial⟩, by omega, by omega⟩
  have hi := (List.getElem?_eq_some_iff.1 hx).1
  have := (h.2 i (by omega)).1
  rw [Nat.zero_add, Nat.mul_one, this]
  dsimp only
  rw [List.getD_eq_getElem?_getD, hx]
  rfl
theorem Blk.congr {w : World} {B n : Nat} {f g : Nat → Value} (h : Blk w B f n) (e : ∀ i, i < n → f i = g i) : Blk w B g n :=
  ⟨h.1, fun j hj => ⟨by rw [(h.2 j hj).1, e j hj], (h.2 j hj).2⟩⟩
theorem row_blk {w : World} {B n : Nat} {e : TypeId} {v : Value} (h : w.heap[B]? = some (.cells (List.replicate n v).toArray e (0, 0))) : Blk w B (fun _ => v) n := by
  refine ⟨(Array.getElem?_eq_some_iff.1 h).1, fun j hj => ⟨?_, ?_⟩⟩
  · rw [row_cells h, List.getElem?_replicate, if_pos hj]
  · simp [World.frozen?, h]
/-- the stations' block behind one more change -/
theorem mo_set {w : World} {B s k : Nat} {l : List Chg} {x : Chg} {step : Int} (h : Blk w B (fun i => iv (mo1 (l.take k) step (i : Int))) s) (hx : l[k]? = some x) (hst : x.st ≤ step) {j : Nat} (hj : x.sn = (j : Int)) (hjs : j < s) :
    Blk (w.setCell ⟨B, j, none⟩ (iv x.pr)) B (fun i => iv (mo1 (l.take (k + 1)) step (i : Int))) s := by
  refine (Blk.set h (iv x.pr) rfl hjs).congr fun i hi => ?_
  rw [mo1_at hx]
  unfold moF
  by_cases e : i = j
  · rw [if_pos e, if_pos ⟨hst, by omega⟩]
  · rw [if_neg e, if_neg (by omega)]
theorem mo_skip {w : World} {B s k : Nat} {l : List Chg} {x : Chg} {step : Int} (h : Blk w B (fun i => iv (mo1 (l.take k) step (i : Int))) s) (hx : l[k]? = some x) (hst : ¬ x.st ≤ step) :
    Blk w B (fun i => iv (mo1 (l.take (k + 1)) step (i : Int))) s := by
  refine h.congr fun i hi => ?_
  rw [mo1_at hx]
  unfold moF
  rw [if_neg (fun q => hst q.1)]
end Go.Proofs.Ytfndhddnglcliaa
