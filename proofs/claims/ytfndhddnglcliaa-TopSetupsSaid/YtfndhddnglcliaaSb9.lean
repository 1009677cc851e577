/-
  Windows: valid ones, what serves them, blocked ones, on both sides.
-/
import Derived.Test.YtfndhddnglcliaaSb8
set_option linter.unusedVariables false
set_option linter.unusedSimpArgs false
namespace Go.Proofs.Ytfndhddnglcliaa
set_option linter.unusedVariables false
set_option linter.unusedSimpArgs false
open Go Go.ChangeShapes Go.WideShapes Go.ChangeAt Go.RowKit Go.Deep

theorem all_stop {α : Type} {f : α → Bool} {l : List α} {k : Nat} {x : α} (hx : l[k]? = some x) (h : f x = false) : l.all f = false := by
  rw [List.all_eq_false]
  exact ⟨x, List.mem_of_getElem? hx, by simp [h]⟩
theorem all_end {α : Type} {f : α → Bool} {l : List α} (h : ∀ i x, i < l.length → l[i]? = some x → f x = true) : l.all f = true := by
  rw [List.all_eq_true]
  intro x hx
  obtain ⟨i, hi⟩ := List.mem_iff_getElem?.1 hx
  exact h i x (List.getElem?_eq_some_iff.1 hi).1 hi
/-- a window that is valid for n steps -/
def wnB (x : Wd) (n : Nat) : Bool := wiB x.fm 0 x.tl && decide (x.tl < n)
theorem wnB_iff {x : Wd} {n : Nat} : wnB x n = true ↔ 0 ≤ x.fm ∧ x.fm ≤ x.tl ∧ x.tl < n := by
  unfold wnB wiB
  simp only [Bool.and_eq_true, decide_eq_true_eq]
  omega
theorem wiB_swap (x : Wd) : (decide (0 ≤ x.fm) && decide (x.fm ≤ x.tl)) = wiB x.fm 0 x.tl := rfl
theorem validWindow_any (x : Wd) (n : Nat) (w : World) :
    Calls Try.prog 18 #[wdv x, iv n] w fun e w' => e = .returned (.bool (wnB x n)) ∧ Gr w w' := by
  cases hv : wiB x.fm 0 x.tl with
  | true =>
    have HE := hide (show wnB x n = decide (x.tl < n) by unfold wnB; rw [hv]; rfl)
    go_enter Try.func18, Try.ntmps18
    go_wp2_with (first | (go_at_call 34; refine (swithin_any _ _ _ _).mono ?_; rintro e w1 ⟨rfl, rfl⟩))
    go_ret
    exact ⟨ret_bool HE.out.symm, (by repeat (first | with_reducible exact Gr.refl _ | with_reducible assumption | with_reducible refine Gr.alloc ?_ _ | with_reducible refine Gr.drewN ?_ _ | with_reducible refine Gr.drew ?_ | with_reducible refine Gr.setCell ?_ (by first | (dsimp only; omega) | (simp only [World.size_alloc]; omega) | (with_reducible refine Gr.size ?_; (repeat (first | with_reducible exact Gr.refl _ | with_reducible assumption | with_reducible refine Gr.alloc ?_ _ | with_reducible refine Gr.drewN ?_ _ | with_reducible refine Gr.drew ?_ | with_reducible refine Gr.trans ?_ (by with_reducible assumption))); done)) _ | with_reducible refine Gr.trans ?_ (by with_reducible assumption)))⟩
  | false =>
    have HE := hide (show wnB x n = false by unfold wnB; rw [hv]; rfl)
    go_enter Try.func18, Try.ntmps18
    go_wp2_with (first | (go_at_call 34; refine (swithin_any _ _ _ _).mono ?_; rintro e w1 ⟨rfl, rfl⟩))
    go_ret
    exact ⟨ret_bool HE.out.symm, (by repeat (first | with_reducible exact Gr.refl _ | with_reducible assumption | with_reducible refine Gr.alloc ?_ _ | with_reducible refine Gr.drewN ?_ _ | with_reducible refine Gr.drew ?_ | with_reducible refine Gr.setCell ?_ (by first | (dsimp only; omega) | (simp only [World.size_alloc]; omega) | (with_reducible refine Gr.size ?_; (repeat (first | with_reducible exact Gr.refl _ | with_reducible assumption | with_reducible refine Gr.alloc ?_ _ | with_reducible refine Gr.drewN ?_ _ | with_reducible refine Gr.drew ?_ | with_reducible refine Gr.trans ?_ (by with_reducible assumption))); done)) _ | with_reducible refine Gr.trans ?_ (by with_reducible assumption)))⟩
/-- whether a set serves the steps f to t -/
def svB (ss : List Nat) (f t m : Nat) : Bool := ((ss.drop f).take (t + 1 - f)).all fun n => LS.mt m n
theorem sub_len {ss : List Nat} {f t : Nat} (ht : t < ss.length) : ((ss.drop f).take (t + 1 - f)).length = t + 1 - f := by
  rw [List.length_take, List.length_drop]
  omega
theorem sub_at {ss : List Nat} {f t i : Nat} (hi : i < t + 1 - f) : ((ss.drop f).take (t + 1 - f))[i]? = ss[f + i]? := by
  rw [List.getElem?_take, if_pos hi, List.getElem?_drop]
theorem mt_comm (m n : Nat) : LS.mt m n = LS.mt n m := by
  unfold LS.mt
  congr 1
  funext i
  exact Bool.and_comm _ _
set_option maxRecDepth 100000 in
set_option maxHeartbeats 2000000 in
theorem serves_any (A : Option Addr) (c : Nat) (ss : List Nat) (m f t : Nat) (w : World) (hl : SlU w A c ss) (hm : m < 512) (hlt : ∀ n ∈ ss, n < 512) (hf : f ≤ t) (ht : t < ss.length) (hss : ss.length ≤ 1000) :
    Calls Try.prog 35 #[uv m, .slice A ss.length c, wdv ⟨f, t⟩] w fun e w' => e = .returned (.bool (svB ss f t m)) ∧ Gr w w' := by
  have n1 := hl.cap
  have n2 := hl.capB
  have HL := hide hl
  have HT := hide hlt
  obtain ⟨n0, hn0⟩ : ∃ n0, ss[f]? = some n0 := ⟨_, List.getElem?_eq_getElem (by omega)⟩
  obtain ⟨b, o, rfl, -⟩ := hl.rd.uv_ hn0
  have W1 : IntKind.i64.wrap ((t : Int) + 1) = (t : Int) + 1 := IntWalk.i64_in _ (by omega)
  have a1 : (0 : Int) ≤ (f : Int) := by omega
  have a2 : (f : Int) ≤ (t : Int) + 1 := by omega
  have a3 : (t : Int) + 1 ≤ (c : Int) := by omega
  clear hl hlt hn0
  go_enter Try.func35, Try.ntmps35
  go_wp2
  have hN : t + 1 - f ≤ 1000 := by omega
  have hNc : t + 1 - f ≤ c - f := by omega
  have hNs := sub_len (f := f) ht
  have HS := hide (fun i (hi : i < t + 1 - f) => sub_at (ss := ss) (f := f) hi)
  have HV := hide (show svB ss f t m = ((ss.drop f).take (t + 1 - f)).all (fun n => LS.mt m n) from rfl)
  generalize (ss.drop f).take (t + 1 - f) = L at *
  generalize t + 1 - f = N at *
  generalize hcf : c - f = cf at *
  have hcf2 : cf ≤ 9223372036854775807 := by omega
  have hm' := hide hm
  clear a1 a2 a3 W1 hcf hm
  go_loop [17] (fun i => ∃ k : Nat, k ≤ N ∧ i = iv k ∧ Hid (∀ i x, i < k → L[i]? = some x → LS.mt m x = true)) (fun i => N - (intOf i).toNat)
  case atStart => exact ⟨0, by omega, rfl, hide (fun i x hi => absurd hi (Nat.not_lt_zero i))⟩
  case round =>
    obtain ⟨k, hk, rfl, HK⟩ := hrel
    by_cases hkl : k < N
    · obtain ⟨x, hx⟩ : ∃ x, L[k]? = some x := ⟨_, List.getElem?_eq_getElem (by omega)⟩
      have hx2 : ss[f + k]? = some x := by rw [← HS.out k hkl, hx]
      obtain ⟨b', o', hA', x0⟩ := HL.out.rd.uv_ hx2
      obtain ⟨rfl, rfl⟩ : b = b' ∧ o = o' := by simpa using hA'
      rw [← Nat.add_assoc] at x0
      have hbw : b < w.heap.size := cell_lt (by rw [x0]; rfl)
      have HX := hide hx
      have HM := hide (fun w => meets_any m x w hm'.out (HT.out x (List.mem_of_getElem? hx2)))
      have hk0 : (0 : Int) ≤ (k : Int) := by omega
      have hk1 : (k : Int) < (N : Int) := by omega
      clear hA' hx hx2 hNs
      cases hv : LS.mt m x with
      | true =>
        have HE := hide (up_to HK.out HX.out hv)
        rw [hv] at HM
        clear hv
        go_wp2_with (first | (go_at_call 15; refine (HM.out _).mono ?_; rintro e w1 ⟨rfl, rfl⟩))
        go_round
        case rel => exact ⟨k + 1, by omega, by go_num, HE⟩
        case measure => simp only [intOf]; omega
      | false =>
        have HE := hide (show svB ss f t m = false by rw [HV.out]; exact all_stop HX.out hv)
        rw [hv] at HM
        clear hv
        go_wp2_with (first | (go_at_call 15; refine (HM.out _).mono ?_; rintro e w1 ⟨rfl, rfl⟩))
        go_ret
        exact ⟨ret_bool HE.out.symm, (by repeat (first | with_reducible exact Gr.refl _ | with_reducible assumption | with_reducible refine Gr.alloc ?_ _ | with_reducible refine Gr.drewN ?_ _ | with_reducible refine Gr.drew ?_ | with_reducible refine Gr.setCell ?_ (by first | (dsimp only; omega) | (simp only [World.size_alloc]; omega) | (with_reducible refine Gr.size ?_; (repeat (first | with_reducible exact Gr.refl _ | with_reducible assumption | with_reducible refine Gr.alloc ?_ _ | with_reducible refine Gr.drewN ?_ _ | with_reducible refine Gr.drew ?_ | with_reducible refine Gr.trans ?_ (by with_reducible assumption))); done)) _ | with_reducible refine Gr.trans ?_ (by with_reducible assumption)))⟩
    · have HE := hide (show svB ss f t m = true by rw [HV.out]; exact all_end fun i x hi hx => HK.out i x (by omega) hx)
      clear hNs
      go_wp2
      go_ret
      exact ⟨ret_bool HE.out.symm, (by repeat (first | with_reducible exact Gr.refl _ | with_reducible assumption | with_reducible refine Gr.alloc ?_ _ | with_reducible refine Gr.drewN ?_ _ | with_reducible refine Gr.drew ?_ | with_reducible refine Gr.setCell ?_ (by first | (dsimp only; omega) | (simp only [World.size_alloc]; omega) | (with_reducible refine Gr.size ?_; (repeat (first | with_reducible exact Gr.refl _ | with_reducible assumption | with_reducible refine Gr.alloc ?_ _ | with_reducible refine Gr.drewN ?_ _ | with_reducible refine Gr.drew ?_ | with_reducible refine Gr.trans ?_ (by with_reducible assumption))); done)) _ | with_reducible refine Gr.trans ?_ (by with_reducible assumption)))⟩
theorem i_and_all {m n : Nat} (h : m < 512) (k : n < 512) : bits .and .i64 (m : Int) (n : Int) = ((m &&& n : Nat) : Int) := by
  have e : (BitVec.ofInt 64 (m : Int) &&& BitVec.ofInt 64 (n : Int)).toNat = m &&& n := by
    rw [BitVec.toNat_and]
    simp only [BitVec.ofInt_natCast, BitVec.toNat_ofNat]
    rw [Nat.mod_eq_of_lt (by omega), Nat.mod_eq_of_lt (by omega)]
  show IntKind.i64.wrap ((BitVec.ofInt 64 (m : Int) &&& BitVec.ofInt 64 (n : Int)).toNat : Int) = _
  rw [e]
  have := Nat.and_le_left (n := m) (m := n)
  exact IntWalk.i64_in _ (by omega)
theorem and_eq {m n : Nat} (hn : n < 512) : (((m &&& n : Nat) : Int) == 0) = !LS.mt m n := by
  have := LS.mt_and (m := m) hn
  cases e : LS.mt m n with
  | true =>
    rw [e] at this
    have h := this.1 rfl
    simp only [Bool.not_true, beq_eq_false_iff_ne, ne_eq]
    omega
  | false =>
    rw [e] at this
    have h : m &&& n = 0 := Classical.byContradiction fun hc => absurd (this.2 hc) (by simp)
    rw [h]
    rfl
end Go.Proofs.Ytfndhddnglcliaa
