/-
  Needs: sets of pairs and their errors, on both sides.
-/
import Derived.Test.YtfndhddnglcliaaSb0
set_option linter.unusedVariables false
set_option linter.unusedSimpArgs false
namespace Go.Proofs.Ytfndhddnglcliaa
set_option linter.unusedVariables false
set_option linter.unusedSimpArgs false
open Go Go.ChangeShapes Go.WideShapes Go.ChangeAt Go.RowKit Go.Deep

theorem swithin_any (n lo hi : Int) (w : World) :
    Calls Try.prog 34 #[iv n, iv lo, iv hi] w fun e w' => e = .returned (.bool (wiB n lo hi)) ∧ w = w' := by
  go_enter Try.func34, Try.ntmps34
  go_wp2
  all_goals
    go_ret
    exact ⟨ret_bool (by simp [wiB]; omega), rfl⟩
theorem isPair_any (n : Int) (w : World) :
    Calls Try.prog 36 #[iv n] w fun e w' => e = .returned (.bool (wiB n 0 8)) ∧ w = w' := by
  go_enter Try.func36, Try.ntmps36
  go_wp2_with (first | (go_at_call 34; refine (swithin_any _ _ _ _).mono ?_; rintro e w1 ⟨rfl, rfl⟩))
  go_ret
  exact ⟨rfl, rfl⟩
theorem validStations_any (n : Int) (w : World) :
    Calls Try.prog 24 #[iv n] w fun e w' => e = .returned (.bool (wiB n 1 3)) ∧ w = w' := by
  go_enter Try.func24, Try.ntmps24
  go_wp2_with (first | (go_at_call 34; refine (swithin_any _ _ _ _).mono ?_; rintro e w1 ⟨rfl, rfl⟩))
  go_ret
  exact ⟨rfl, rfl⟩
/-- pairs that ascend from behind lo on -/
def asB (lo : Int) : List Int → Bool
  | [] => true
  | z :: l => wiB z 0 8 && (decide (lo < z) && asB z l)
def stB (l : List Int) : Bool := asB (-1) l
/-- what stands ahead of place k -/
def la (l : List Int) (k : Nat) : Int := if k = 0 then -1 else (l[k-1]?).getD (-1)
theorem la_zero (l : List Int) : la l 0 = -1 := rfl
theorem la_succ {l : List Int} {k : Nat} {z : Int} (h : l[k]? = some z) : la l (k + 1) = z := by
  unfold la
  rw [if_neg (by omega), Nat.add_sub_cancel, h]
  rfl
theorem asB_out {lo z : Int} {l : List Int} (h : wiB z 0 8 = false) : asB lo (z :: l) = false := by
  simp [asB, h]
theorem asB_low {lo z : Int} {l : List Int} (h : z ≤ lo) : asB lo (z :: l) = false := by
  simp [asB]
  omega
theorem asB_go {lo z : Int} {l : List Int} (h : wiB z 0 8 = true) (k : lo < z) : asB lo (z :: l) = asB z l := by
  simp [asB, h, k]
set_option maxRecDepth 100000 in
set_option maxHeartbeats 2000000 in
theorem isSetOfPairs_any (A : Option Addr) (c : Nat) (l : List Int) (w : World) (hl : SlI w A c l) :
    Calls Try.prog 41 #[.slice A l.length c] w fun e w' => e = .returned (.bool (stB l)) ∧ w = w' := by
  have n1 := hl.cap
  have n2 := hl.capB
  have HL := hide hl
  clear hl
  go_enter Try.func41, Try.ntmps41
  go_wp2
  go_loop [7] (fun i => ∃ k : Nat, k ≤ l.length ∧ i = iv k ∧ Hid (stB l = asB (la l k) (l.drop k))) (fun i => l.length - (intOf i).toNat)
  case atStart => exact ⟨0, by omega, rfl, rfl⟩
  case round =>
    obtain ⟨k, hk, rfl, HS⟩ := hrel
    by_cases hkl : k < l.length
    · obtain ⟨z, hz⟩ : ∃ z, l[k]? = some z := ⟨_, List.getElem?_eq_getElem hkl⟩
      obtain ⟨b, o, rfl, x0⟩ := HL.out.rd.in_ hz
      have HZ := hide hz
      have HD := hide (drop_at hz)
      have hk0 : (0 : Int) ≤ (k : Int) := by omega
      have hk1 : (k : Int) < (l.length : Int) := by omega
      clear hz
      cases hv : wiB z 0 8 with
      | false =>
        have HE := hide (show stB l = false by rw [HS.out, HD.out, asB_out hv])
        go_wp2_with (first | (go_at_call 36; refine (isPair_any _ _).mono ?_; rintro e w1 ⟨rfl, rfl⟩))
        go_ret
        exact ⟨ret_bool HE.out.symm, rfl⟩
      | true =>
        by_cases hk : k = 0
        · subst hk
          have HE := hide (show stB l = asB (la l (0 + 1)) (l.drop (0 + 1)) by
            rw [HS.out, HD.out, la_zero, la_succ HZ.out, asB_go hv (by have := wiB_iff.1 hv; omega)])
          simp only [Nat.add_zero] at x0
          go_wp2_with (first | (go_at_call 36; refine (isPair_any _ _).mono ?_; rintro e w1 ⟨rfl, rfl⟩))
          go_round
          case rel => exact ⟨0 + 1, by omega, by go_num, HE⟩
          case measure => simp only [intOf]; omega
        · obtain ⟨j, rfl⟩ : ∃ j, k = j + 1 := ⟨k - 1, by omega⟩
          obtain ⟨y, hy⟩ : ∃ y, l[j]? = some y := ⟨_, List.getElem?_eq_getElem (by omega)⟩
          obtain ⟨b', o', hA', y0⟩ := HL.out.rd.in_ hy
          obtain ⟨rfl, rfl⟩ : b = b' ∧ o = o' := by simpa using hA'
          have HY := hide (la_succ hy)
          have W1 : IntKind.i64.wrap ((j : Int) + 1 - 1) = (j : Int) := by rw [IntWalk.i64_in _ (by omega)]; omega
          have hj0 : (0 : Int) ≤ (j : Int) := by omega
          have hj1 : (j : Int) < (l.length : Int) := by omega
          have hjk : decide ((0 : Int) < (j : Int) + 1) = true := by rw [decide_eq_true_eq]; omega
          clear hA' hy hk
          by_cases hyz : z ≤ y
          · have hyz' : decide (z ≤ y) = true := by simpa using hyz
            have HE := hide (show stB l = false by rw [HS.out, HD.out, HY.out, asB_low hyz])
            clear hyz
            go_wp2_with (first | (go_at_call 36; refine (isPair_any _ _).mono ?_; rintro e w1 ⟨rfl, rfl⟩))
            go_ret
            exact ⟨ret_bool HE.out.symm, rfl⟩
          · have hyz' : decide (z ≤ y) = false := by simpa using hyz
            have HE := hide (show stB l = asB (la l (j + 1 + 1)) (l.drop (j + 1 + 1)) by
              rw [HS.out, HD.out, HY.out, la_succ HZ.out, asB_go hv (by omega)])
            clear hyz
            go_wp2_with (first | (go_at_call 36; refine (isPair_any _ _).mono ?_; rintro e w1 ⟨rfl, rfl⟩))
            go_round
            case rel => exact ⟨j + 1 + 1, by omega, by go_num, HE⟩
            case measure => simp only [intOf]; omega
    · obtain rfl : k = l.length := by omega
      have HE := hide (show stB l = true by rw [HS.out, List.drop_length]; rfl)
      go_wp2
      go_ret
      exact ⟨ret_bool HE.out.symm, rfl⟩
/-- a need that is right -/
def ndB (x : Nd) : Bool := !x.l.isEmpty && stB x.l
def ndsB (ns : List Nd) : Bool := ns.all ndB
/-- the error of needs -/
def vaE (ns : List Nd) : Int := if 24 < ns.length then 4 else if ndsB ns then 0 else 1
/-- the error of needs and stations -/
def chE (ns : List Nd) (s : Int) : Int := if vaE ns ≠ 0 then vaE ns else if wiB s 1 3 then 0 else 1
theorem vaE_large {ns : List Nd} (h : 24 < ns.length) : vaE ns = 4 := if_pos h
theorem vaE_small {ns : List Nd} (h : ¬ 24 < ns.length) : vaE ns = if ndsB ns then 0 else 1 := if_neg h
theorem vaE_ok {ns : List Nd} (h : vaE ns = 0) : ns.length ≤ 24 ∧ ndsB ns = true := by
  unfold vaE at h
  split at h
  · cases h
  · split at h
    · exact ⟨by omega, by assumption⟩
    · cases h
theorem chE_ok {ns : List Nd} {s : Int} (h : chE ns s = 0) : vaE ns = 0 ∧ wiB s 1 3 = true := by
  unfold chE at h
  split at h
  · rename_i h1; exact absurd h h1
  · rename_i h1
    split at h
    · exact ⟨by simpa using h1, by assumption⟩
    · cases h
theorem nds_stop {ns : List Nd} {k : Nat} {x : Nd} (hx : ns[k]? = some x) (h : ndB x = false) : ndsB ns = false := by
  unfold ndsB
  rw [List.all_eq_false]
  exact ⟨x, List.mem_of_getElem? hx, by simp [h]⟩
theorem nds_end {ns : List Nd} (h : ∀ i x, i < ns.length → ns[i]? = some x → ndB x = true) : ndsB ns = true := by
  unfold ndsB
  rw [List.all_eq_true]
  intro x hx
  obtain ⟨i, hi⟩ := List.mem_iff_getElem?.1 hx
  exact h i x (List.getElem?_eq_some_iff.1 hi).1 hi
theorem up_to {α : Type} {ns : List α} {P : α → Prop} {k : Nat} {x : α} (H : ∀ i x, i < k → ns[i]? = some x → P x) (hx : ns[k]? = some x) (h : P x) : ∀ i x, i < k + 1 → ns[i]? = some x → P x := by
  intro i y hi hy
  rcases Nat.lt_or_ge i k with h1 | h1
  · exact H i y h1 hy
  · obtain rfl : i = k := by omega
    rw [hx] at hy
    obtain rfl := Option.some.inj hy
    exact h
set_option maxRecDepth 100000 in
set_option maxHeartbeats 2000000 in
theorem sValidate_any (A : Option Addr) (c : Nat) (ns : List Nd) (w : World) (hl : SlN w A c ns) :
    Calls Try.prog 30 #[.slice A ns.length c] w fun e w' => e = .returned (iv (vaE ns)) ∧ w = w' := by
  have n1 := hl.cap
  have n2 := hl.capB
  have HL := hide hl
  clear hl
  by_cases hn : 24 < ns.length
  · have HE := hide (vaE_large hn)
    go_enter Try.func30, Try.ntmps30
    go_wp2
    go_ret
    exact ⟨ret_iv HE.out.symm, rfl⟩
  · have HV := hide (vaE_small hn)
    go_enter Try.func30, Try.ntmps30
    go_wp2
    go_loop [10] (fun i => ∃ k : Nat, k ≤ ns.length ∧ i = iv k ∧ Hid (∀ i x, i < k → ns[i]? = some x → ndB x = true)) (fun i => ns.length - (intOf i).toNat)
    case atStart => exact ⟨0, by omega, rfl, hide (fun i x hi => absurd hi (Nat.not_lt_zero i))⟩
    case round =>
      obtain ⟨k, hk, rfl, HS⟩ := hrel
      by_cases hkl : k < ns.length
      · obtain ⟨x, hx⟩ : ∃ z, ns[k]? = some z := ⟨_, List.getElem?_eq_getElem hkl⟩
        obtain ⟨b, o, rfl, x0, xl⟩ := HL.out.at_ hx
        have HX := hide hx
        have hc1 := xl.cap
        have hc2 := xl.capB
        have HXL := hide xl
        have hk0 : (0 : Int) ≤ (k : Int) := by omega
        have hk1 : (k : Int) < (ns.length : Int) := by omega
        clear hx xl
        cases hv : ndB x with
        | false =>
          have HE := hide (show vaE ns = 1 by rw [HV.out, nds_stop HX.out hv]; rfl)
          by_cases h0 : x.l.length = 0
          · have h0' : ((x.l.length : Int) == 0) = true := by rw [beq_iff_eq]; omega
            clear hv
            go_wp2
            go_ret
            exact ⟨ret_iv HE.out.symm, rfl⟩
          · have h0' : ((x.l.length : Int) == 0) = false := by rw [beq_eq_false_iff_ne]; omega
            have hs : stB x.l = false := by
              unfold ndB at hv
              cases e : stB x.l with
              | false => rfl
              | true =>
                rw [e, Bool.and_true, Bool.not_eq_false', List.isEmpty_iff] at hv
                rw [hv] at h0
                exact absurd rfl h0
            have HC := hide (isSetOfPairs_any x.A x.c x.l w HXL.out)
            rw [hs] at HC
            clear hv h0 hs
            go_wp2_with (first | (go_at_call 41; refine (HC.out).mono ?_; rintro e w1 ⟨rfl, rfl⟩))
            go_ret
            exact ⟨ret_iv HE.out.symm, rfl⟩
        | true =>
          have HE := hide (up_to HS.out HX.out hv)
          have h0' : ((x.l.length : Int) == 0) = false := by
            rw [beq_eq_false_iff_ne]
            intro h
            have : x.l = [] := List.eq_nil_of_length_eq_zero (by omega)
            unfold ndB at hv
            rw [this] at hv
            cases hv
          have hs : stB x.l = true := by
            unfold ndB at hv
            rw [Bool.and_eq_true] at hv
            exact hv.2
          have HC := hide (isSetOfPairs_any x.A x.c x.l w HXL.out)
          rw [hs] at HC
          clear hv hs
          go_wp2_with (first | (go_at_call 41; refine (HC.out).mono ?_; rintro e w1 ⟨rfl, rfl⟩))
          go_round
          case rel => exact ⟨k + 1, by omega, by go_num, HE⟩
          case measure => simp only [intOf]; omega
      · obtain rfl : k = ns.length := by omega
        have HE := hide (show vaE ns = 0 by rw [HV.out, nds_end HS.out]; rfl)
        go_wp2
        go_ret
        exact ⟨ret_iv HE.out.symm, rfl⟩
theorem scheck_any (A : Option Addr) (c : Nat) (ns : List Nd) (s : Int) (w : World) (hl : SlN w A c ns) :
    Calls Try.prog 11 #[.slice A ns.length c, iv s] w fun e w' => e = .returned (iv (chE ns s)) ∧ w = w' := by
  have HV := hide (sValidate_any A c ns w hl)
  clear hl
  by_cases h0 : vaE ns = 0
  · have HE := hide (show chE ns s = if wiB s 1 3 then 0 else 1 from by unfold chE; rw [if_neg (by simpa using h0)])
    rw [h0] at HV
    clear h0
    cases hv : wiB s 1 3 <;> rw [hv] at HE
    all_goals
      go_enter Try.func11, Try.ntmps11
      go_wp2_with (first | (go_at_call 30; refine (HV.out).mono ?_; rintro e w1 ⟨rfl, rfl⟩) | (go_at_call 24; refine (validStations_any _ _).mono ?_; rintro e w1 ⟨rfl, rfl⟩))
      go_ret
      exact ⟨ret_iv (by rw [HE.out]; rfl), rfl⟩
  · have HE := hide (show chE ns s = vaE ns from by unfold chE; rw [if_pos h0])
    rw [HE.out]
    have h1 : (vaE ns != 0) = true := by simpa using h0
    generalize vaE ns = x at *
    clear h0
    go_enter Try.func11, Try.ntmps11
    go_wp2_with (first | (go_at_call 30; refine (HV.out).mono ?_; rintro e w1 ⟨rfl, rfl⟩))
    go_ret
    exact ⟨rfl, rfl⟩
end Go.Proofs.Ytfndhddnglcliaa
