/-
  Bounds that windows prove, on both sides.
-/
import Derived.Test.YtjdiepnbchcnoaaSb12
import Derived.Test.YtjdiepnbchcnoaaLst3
set_option linter.unusedVariables false
set_option linter.unusedSimpArgs false
namespace Go.Proofs.Ytjdiepnbchcnoaa
set_option linter.unusedVariables false
set_option linter.unusedSimpArgs false
open Go Go.ChangeShapes Go.WideShapes Go.ChangeAt Go.RowKit Go.Deep

theorem up_to2 {α : Type} {ns : List α} {P : α → Prop} {k : Nat} {x : α} (H : ∀ i x, i < k → ns[i]? = some x → P x) (hx : ns[k]? = some x) (h : P x) : ∀ i x, i < k + 1 → ns[i]? = some x → P x := up_to H hx h
/-- windows in order -/
def Odr (ws : List Wd) (k : Nat) : Prop := ∀ i x y, i + 1 < k → ws[i]? = some x → ws[i+1]? = some y → x.tl ≤ y.fm
noncomputable def odB (ws : List Wd) : Bool := @decide (Odr ws ws.length) (Classical.propDecidable _)
theorem odB_iff {ws : List Wd} : odB ws = true ↔ Odr ws ws.length := by
  unfold odB
  exact @decide_eq_true_iff _ (Classical.propDecidable _)
theorem odB_stop {ws : List Wd} {i : Nat} {x y : Wd} (hx : ws[i]? = some x) (hy : ws[i+1]? = some y) (h : y.fm < x.tl) : odB ws = false := by
  rw [← Bool.not_eq_true, odB_iff]
  intro H
  have := H i x y (List.getElem?_eq_some_iff.1 hy).1 hx hy
  omega
theorem odr_step {ws : List Wd} {i : Nat} {x y : Wd} (H : Odr ws (i + 1)) (hx : ws[i]? = some x) (hy : ws[i+1]? = some y) (h : x.tl ≤ y.fm) : Odr ws (i + 1 + 1) := by
  intro j a b hj ha hb
  rcases Nat.lt_or_ge (j + 1) (i + 1) with q | q
  · exact H j a b q ha hb
  · obtain rfl : j = i := by omega
    rw [hx] at ha
    rw [hy] at hb
    obtain rfl := Option.some.inj ha
    obtain rfl := Option.some.inj hb
    exact h
def vwB (ns : List Nd) (ws : List Wd) : Bool := ws.all fun x => wnB x ns.length
def bwF (ns : List Nd) (s : Int) (x : Wd) : Bool := bkB (mks ns) s.toNat x.fm.toNat x.tl.toNat
def bwB (ns : List Nd) (s : Int) (ws : List Wd) : Bool := ws.all (bwF ns s)
noncomputable def cbE (ns : List Nd) (s : Int) (ws : List Wd) : Int := if chE ns s ≠ 0 then chE ns s else if vwB ns ws then (if odB ws then (if bwB ns s ws then 0 else 11) else 12) else 1
noncomputable def cbV (ns : List Nd) (s : Int) (ws : List Wd) : Int := if cbE ns s ws = 0 then (if ns.length = 0 then 0 else ws.length + 1) else 0
theorem cbE_bad {ns : List Nd} {s : Int} {ws : List Wd} (h : ¬ chE ns s = 0) : cbE ns s ws = chE ns s := by unfold cbE; rw [if_pos h]
theorem cbE_vw {ns : List Nd} {s : Int} {ws : List Wd} (h : chE ns s = 0) (k : vwB ns ws = false) : cbE ns s ws = 1 := by unfold cbE; rw [if_neg (by simpa using h), k]; rfl
theorem cbE_od {ns : List Nd} {s : Int} {ws : List Wd} (h : chE ns s = 0) (k : vwB ns ws = true) (o : odB ws = false) : cbE ns s ws = 12 := by unfold cbE; rw [if_neg (by simpa using h), k, o]; rfl
theorem cbE_bw {ns : List Nd} {s : Int} {ws : List Wd} (h : chE ns s = 0) (k : vwB ns ws = true) (o : odB ws = true) (b : bwB ns s ws = false) : cbE ns s ws = 11 := by unfold cbE; rw [if_neg (by simpa using h), k, o, b]; rfl
theorem cbE_ok {ns : List Nd} {s : Int} {ws : List Wd} (h : chE ns s = 0) (k : vwB ns ws = true) (o : odB ws = true) (b : bwB ns s ws = true) : cbE ns s ws = 0 := by unfold cbE; rw [if_neg (by simpa using h), k, o, b]; rfl
theorem cbV_no {ns : List Nd} {s : Int} {ws : List Wd} (h : ¬ cbE ns s ws = 0) : cbV ns s ws = 0 := by unfold cbV; rw [if_neg h]
theorem vw_nat {ns : List Nd} {ws : List Wd} (h : vwB ns ws = true) {x : Wd} (hx : x ∈ ws) : ∃ f t : Nat, x = ⟨f, t⟩ ∧ f ≤ t ∧ t < ns.length := by
  have := wnB_iff.1 (List.all_eq_true.1 h x hx)
  obtain ⟨a, b⟩ := x
  simp only at this
  exact ⟨a.toNat, b.toNat, by rw [Int.toNat_of_nonneg this.1, Int.toNat_of_nonneg (by omega)], by omega, by omega⟩
end Go.Proofs.Ytjdiepnbchcnoaa
