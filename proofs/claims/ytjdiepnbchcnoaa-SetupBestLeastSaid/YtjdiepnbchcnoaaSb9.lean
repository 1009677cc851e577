/-
  Windows: valid ones, what serves them, blocked ones, on both sides.
-/
import Derived.Test.YtjdiepnbchcnoaaSb8
set_option linter.unusedVariables false
set_option linter.unusedSimpArgs false
namespace Go.Proofs.Ytjdiepnbchcnoaa
set_option linter.unusedVariables false
set_option linter.unusedSimpArgs false
open Go Go.ChangeShapes Go.WideShapes Go.ChangeAt Go.RowKit Go.Deep

theorem all_stop {α : Type} {f : α → Bool} {l : List α} {k : Nat} {x : α} (hx : l[k]? = some x) (h : f x = false) : l.all f = false := by
  rw [List.all_eq_false]
  exact ⟨x, List.mem_of_getElem? hx, by simp [h]⟩
theorem all_end {α : Type} {f : α → Bool} {l : List α} (h : ∀ i x, i < l.length → l[i]? = some x → f x = true) : l.all f = true := by
  rw [List.all_eq_true]
  intro x hx
  obtain ⟨i, hi⟩ := List.mem_iff_getElem?.1 hx
  exact h i x (List.getElem?_eq_some_iff.1 hi).1 hi
/-- a window that is valid for n steps -/
def wnB (x : Wd) (n : Nat) : Bool := wiB x.fm 0 x.tl && decide (x.tl < n)
theorem wnB_iff {x : Wd} {n : Nat} : wnB x n = true ↔ 0 ≤ x.fm ∧ x.fm ≤ x.tl ∧ x.tl < n := by
  unfold wnB wiB
  simp only [Bool.and_eq_true, decide_eq_true_eq]
  omega
theorem wiB_swap (x : Wd) : (decide (0 ≤ x.fm) && decide (x.fm ≤ x.tl)) = wiB x.fm 0 x.tl := rfl
/-- whether a set serves the steps f to t -/
def svB (ss : List Nat) (f t m : Nat) : Bool := ((ss.drop f).take (t + 1 - f)).all fun n => LS.mt m n
theorem sub_len {ss : List Nat} {f t : Nat} (ht : t < ss.length) : ((ss.drop f).take (t + 1 - f)).length = t + 1 - f := by
  rw [List.length_take, List.length_drop]
  omega
theorem sub_at {ss : List Nat} {f t i : Nat} (hi : i < t + 1 - f) : ((ss.drop f).take (t + 1 - f))[i]? = ss[f + i]? := by
  rw [List.getElem?_take, if_pos hi, List.getElem?_drop]
theorem mt_comm (m n : Nat) : LS.mt m n = LS.mt n m := by
  unfold LS.mt
  congr 1
  funext i
  exact Bool.and_comm _ _
theorem i_and_all {m n : Nat} (h : m < 512) (k : n < 512) : bits .and .i64 (m : Int) (n : Int) = ((m &&& n : Nat) : Int) := by
  have e : (BitVec.ofInt 64 (m : Int) &&& BitVec.ofInt 64 (n : Int)).toNat = m &&& n := by
    rw [BitVec.toNat_and]
    simp only [BitVec.ofInt_natCast, BitVec.toNat_ofNat]
    rw [Nat.mod_eq_of_lt (by omega), Nat.mod_eq_of_lt (by omega)]
  show IntKind.i64.wrap ((BitVec.ofInt 64 (m : Int) &&& BitVec.ofInt 64 (n : Int)).toNat : Int) = _
  rw [e]
  have := Nat.and_le_left (n := m) (m := n)
  exact IntWalk.i64_in _ (by omega)
theorem and_eq {m n : Nat} (hn : n < 512) : (((m &&& n : Nat) : Int) == 0) = !LS.mt m n := by
  have := LS.mt_and (m := m) hn
  cases e : LS.mt m n with
  | true =>
    rw [e] at this
    have h := this.1 rfl
    simp only [Bool.not_true, beq_eq_false_iff_ne, ne_eq]
    omega
  | false =>
    rw [e] at this
    have h : m &&& n = 0 := Classical.byContradiction fun hc => absurd (this.2 hc) (by simp)
    rw [h]
    rfl
set_option maxRecDepth 100000 in
set_option maxHeartbeats 2000000 in
theorem rserves_any (A : Option Addr) (c : Nat) (ns : List Nd) (m f t : Nat) (w : World) (hl : SlN w A c ns) (hv : ndsB ns = true) (hm : m < 512) (hf : f ≤ t) (ht : t < ns.length) (hss : ns.length ≤ 1000) :
    Calls Try.prog 30 #[.slice A ns.length c, iv f, iv t, iv m] w fun e w' => e = .returned (.bool (svB (mks ns) f t m)) ∧ w = w' := by
  have n1 := hl.cap
  have n2 := hl.capB
  have HL := hide hl
  have hNs := sub_len (ss := mks ns) (f := f) (t := t) (by rw [mks_len]; exact ht)
  have HS := hide (fun i (hi : i < t + 1 - f) => sub_at (ss := mks ns) (f := f) hi)
  have HV := hide (show svB (mks ns) f t m = (((mks ns).drop f).take (t + 1 - f)).all (fun n => LS.mt m n) from rfl)
  have HB := hide (fun (x : Nd) (hx : x ∈ ns) => inR_of (nds_in hv hx).2)
  generalize ((mks ns).drop f).take (t + 1 - f) = L at *
  have hm' := hide hm
  clear hl hm hv
  go_enter Try.func30, Try.ntmps30
  go_wp2
  go_loop [9] (fun i => ∃ k : Nat, k ≤ t + 1 - f ∧ i = iv ((f + k : Nat) : Int) ∧ Hid (∀ i x, i < k → L[i]? = some x → LS.mt m x = true)) (fun i => t + 1 - (intOf i).toNat)
  case atStart => exact ⟨0, by omega, rfl, hide (fun i x hi => absurd hi (Nat.not_lt_zero i))⟩
  case round =>
    obtain ⟨k, hk, rfl, HK⟩ := hrel
    by_cases hkl : k < t + 1 - f
    · obtain ⟨x, hx⟩ : ∃ x, ns[f + k]? = some x := ⟨_, List.getElem?_eq_getElem (by omega)⟩
      have hx2 : L[k]? = some (mk x.l) := by rw [HS.out k hkl]; unfold mks; rw [List.getElem?_map, hx]; rfl
      obtain ⟨b, o, rfl, x0, xl⟩ := HL.out.at_ hx
      have HX := hide hx2
      have hxr := HB.out x (List.mem_of_getElem? hx)
      have HBI := hide (bits_any x.A x.c x.l w xl hxr)
      have hmk := mk_lt hxr
      have W1 := i_and_all hmk hm'.out
      have W2 := and_eq (m := mk x.l) hm'.out
      rw [mt_comm] at W2
      have hkt : decide (f + k ≤ t) = true := by rw [decide_eq_true_eq]; omega
      have hjt : f + k ≤ t := by omega
      have hk0 : (0 : Int) ≤ ((f + k : Nat) : Int) := by omega
      have hk1 : ((f + k : Nat) : Int) < (ns.length : Int) := by omega
      clear hx hx2 hNs hxr xl hmk
      generalize hj : f + k = j at *
      have hj' := hide hj
      clear hj
      generalize mk x.l = n at *
      cases hv : LS.mt m n with
      | true =>
        have HE := hide (up_to HK.out HX.out hv)
        rw [hv] at W2
        clear hv
        go_wp2_with (first | (go_at_call 48; refine (HBI.out).mono ?_; rintro e w1 ⟨rfl, rfl⟩))
        go_round
        case rel => exact ⟨k + 1, by omega, by have := hj'.out; exact iv_eq (by omega), HE⟩
        case measure => simp only [intOf]; omega
      | false =>
        have HE := hide (show svB (mks ns) f t m = false by rw [HV.out]; exact all_stop HX.out hv)
        rw [hv] at W2
        clear hv
        go_wp2_with (first | (go_at_call 48; refine (HBI.out).mono ?_; rintro e w1 ⟨rfl, rfl⟩))
        go_ret
        exact ⟨ret_bool HE.out.symm, rfl⟩
    · have HE := hide (show svB (mks ns) f t m = true by rw [HV.out]; exact all_end fun i x hi hx => HK.out i x (by omega) hx)
      have hkt : decide (f + k ≤ t) = false := by rw [decide_eq_false_iff_not]; omega
      clear hNs
      generalize f + k = j at *
      go_wp2
      go_ret
      exact ⟨ret_bool HE.out.symm, rfl⟩
end Go.Proofs.Ytjdiepnbchcnoaa
