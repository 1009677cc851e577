/-
  The laws' Long; the law of serving.
-/
import Derived.Test.YtfndhddnglcliaaSb11
set_option linter.unusedVariables false
set_option linter.unusedSimpArgs false
namespace Go.Proofs.Ytfndhddnglcliaa
set_option linter.unusedVariables false
set_option linter.unusedSimpArgs false
open Go Go.ChangeShapes Go.WideShapes Go.ChangeAt Go.RowKit Go.Deep

def lgB (ns : List Nd) : Bool := decide (60 < ns.length) || ns.any fun x => decide (60 < x.l.length)
theorem any_yes {α : Type} {f : α → Bool} {l : List α} {i : Nat} {x : α} (h : l[i]? = some x) (k : f x = true) : l.any f = true := List.any_eq_true.2 ⟨x, List.mem_of_getElem? h, k⟩
theorem any_no {α : Type} {f : α → Bool} {l : List α} (h : ∀ i x, i < l.length → l[i]? = some x → f x = false) : l.any f = false := by
  rw [List.any_eq_false]
  intro x hx
  obtain ⟨i, hi⟩ := List.mem_iff_getElem?.1 hx
  rw [h i x (List.getElem?_eq_some_iff.1 hi).1 hi]
  simp
set_option maxHeartbeats 1000000 in
theorem long_any (A : Option Addr) (c : Nat) (ns : List Nd) (w : World) (hl : SlN w A c ns) :
    Calls Try.prog 5 #[.slice A ns.length c] w fun e w' => e = .returned (.bool (lgB ns)) ∧ w = w' := by
  have n1 := hl.cap
  have n2 := hl.capB
  have HL := hide hl
  clear hl
  by_cases hn : 60 < ns.length
  · have HE := hide (show lgB ns = true by unfold lgB; rw [decide_eq_true hn]; rfl)
    go_enter Try.func5, Try.ntmps5
    go_wp2
    go_ret
    exact ⟨ret_bool HE.out.symm, rfl⟩
  · have HE := hide (show lgB ns = ns.any fun x => decide (60 < x.l.length) by unfold lgB; rw [decide_eq_false hn]; rfl)
    go_enter Try.func5, Try.ntmps5
    go_wp2
    go_loop [3] (fun i => ∃ k : Nat, k ≤ ns.length ∧ i = iv k ∧ Hid (∀ i x, i < k → ns[i]? = some x → decide (60 < x.l.length) = false)) (fun i => ns.length - (intOf i).toNat)
    case atStart => exact ⟨0, by omega, rfl, hide (fun i x hi => absurd hi (Nat.not_lt_zero i))⟩
    case round =>
      obtain ⟨k, hk, rfl, HS⟩ := hrel
      by_cases hkl : k < ns.length
      · obtain ⟨x, hx⟩ : ∃ x, ns[k]? = some x := ⟨_, List.getElem?_eq_getElem hkl⟩
        obtain ⟨b, o, rfl, x0, xl⟩ := HL.out.at_ hx
        have HX := hide hx
        have hc1 := xl.cap
        have hc2 := xl.capB
        have hk0 : (0 : Int) ≤ (k : Int) := by omega
        have hk1 : (k : Int) < (ns.length : Int) := by omega
        clear hx xl
        by_cases h6 : 60 < x.l.length
        · have HR := hide (show lgB ns = true by rw [HE.out]; exact any_yes (f := fun x : Nd => decide (60 < x.l.length)) HX.out (decide_eq_true h6))
          go_wp2
          go_ret
          exact ⟨ret_bool HR.out.symm, rfl⟩
        · have HS' := hide (up_to (P := fun x : Nd => decide (60 < x.l.length) = false) HS.out HX.out (decide_eq_false h6))
          go_wp2
          go_round
          case rel => exact ⟨k + 1, by omega, by go_num, HS'⟩
          case measure => simp only [intOf]; omega
      · obtain rfl : k = ns.length := by omega
        have HR := hide (show lgB ns = false by rw [HE.out]; exact any_no (f := fun x : Nd => decide (60 < x.l.length)) HS.out)
        go_wp2
        go_ret
        exact ⟨ret_bool HR.out.symm, rfl⟩
theorem cd_mk_aux : ∀ (l : List Int) (a : Nat), LS.cd (l.foldl (fun a z => a ||| 2 ^ z.toNat) a) ≤ LS.cd a + l.length
  | [], a => by simp
  | z :: l, a => by
    rw [List.foldl_cons, List.length_cons]
    have h1 := cd_mk_aux l (a ||| 2 ^ z.toNat)
    have h2 := LS.cd_wi a z.toNat
    omega
theorem cd_mk (l : List Int) : LS.cd (mk l) ≤ l.length := by
  have := cd_mk_aux l 0
  have h0 : LS.cd 0 = 0 := rfl
  unfold mk
  omega
/-- a set that serves a blocked window is too large -/
theorem sv_bk {ns : List Nd} {s : Int} {x : Wd} {l : List Int} (h1 : srE ns x l = 0) (h2 : bkE ns s x = 0) (h3 : srV ns x l = true) (h4 : bkV ns s x = true) : s < l.length := by
  unfold srV at h3
  rw [if_pos h1] at h3
  rw [bkV_yes h2] at h4
  have hv : chE ns s = 0 := by
    refine Classical.byContradiction fun hc => ?_
    rw [bkE_bad hc] at h2
    exact hc h2
  obtain ⟨b4, b5⟩ := wiB_iff.1 (chE_ok hv).2
  have hst : stB l = true := by
    unfold srE at h1
    rw [if_neg (by simpa using (chE_ok hv).1)] at h1
    cases e : stB l with
    | true => rfl
    | false => rw [e, Bool.and_false] at h1; cases h1
  refine Int.not_le.1 fun hle => ?_
  have := cd_mk l
  rw [bk_stop (mk_lt (inR_of hst)) (by omega) h3] at h4
  cases h4
end Go.Proofs.Ytfndhddnglcliaa
