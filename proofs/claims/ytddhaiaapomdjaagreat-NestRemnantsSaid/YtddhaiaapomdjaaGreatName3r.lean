/-
  What the reference's ValidName returns.
-/
import Derived.Test.YtddhaiaapomdjaaGreatName2r
namespace Go.Proofs.YtddhaiaapomdjaaGreat
set_option linter.unusedVariables false
set_option linter.unusedSimpArgs false
open Go Go.ChangeShapes Go.WideShapes Go.ChangeAt Go.RowKit Go.Deep

def wiB (n lo hi : Int) : Bool := decide (lo ≤ n) && decide (n ≤ hi)
theorem wiB_iff {n lo hi : Int} : wiB n lo hi = true ↔ lo ≤ n ∧ n ≤ hi := by simp [wiB]
theorem rwithin_any (n lo hi : Int) (w : World) :
    Calls Tryz.prog 159 #[iv n, iv lo, iv hi] w fun e w' => e = .returned (.bool (wiB n lo hi)) ∧ w = w' := by
  go_enter Tryz.func159, Tryz.ntmps159
  go_wp2
  all_goals
    go_ret
    exact ⟨ret_bool (by simp [wiB]; omega), rfl⟩
theorem spelt_at (t s : ByteArray) (k : Nat) (h : k + s.size + 2 ≤ t.size) :
    ((t.extract k (k + s.size + 2)).toList == (({ data := #[32] } : ByteArray) ++ s ++ ({ data := #[32] } : ByteArray)).toList) = W.atB t.toList (32 :: s.toList ++ [32]) k := by
  have e1 : (t.extract k (k + s.size + 2)).toList = (t.toList.drop k).take (s.size + 2) := by
    rw [ByteArray.toList_eq, ByteArray.toList_eq, ByteArray.data_extract, Array.toList_extract]
    rw [List.extract_eq_take_drop]
    congr 1
    omega
  have e2 : (({ data := #[32] } : ByteArray) ++ s ++ ({ data := #[32] } : ByteArray)).toList = 32 :: s.toList ++ [32] := by
    rw [ByteArray.toList_eq, ByteArray.toList_eq, ByteArray.data_append, ByteArray.data_append]
    simp
  have e3 : (32 :: s.toList ++ [32]).length = s.size + 2 := by simp [list_size]
  unfold W.atB
  rw [e1, e2, e3, list_size, decide_eq_true (show k + (s.size + 2) ≤ t.size by omega), Bool.true_and]
  by_cases c : (t.toList.drop k).take (s.size + 2) = 32 :: s.toList ++ [32]
  · rw [c]
    simp
  · rw [decide_eq_false c, beq_eq_false_iff_ne]
    exact c
theorem found_no {T p : List UInt8} (h : ∀ j, j < T.length → W.atB T p j = false) : W.foundB T p = false := by
  unfold W.foundB
  rw [List.any_eq_false]
  intro j hj
  rw [h j (List.mem_range.1 hj)]
  simp
theorem found_yes {T p : List UInt8} {j : Nat} (h : W.atB T p j = true) (hj : j < T.length) : W.foundB T p = true :=
  List.any_eq_true.2 ⟨j, List.mem_range.2 hj, h⟩
set_option maxHeartbeats 1000000 in
theorem risWord_any (t s : ByteArray) (w : World) (ht : t.size ≤ 1000) (hs : s.size ≤ 8) :
    Calls Tryz.prog 160 #[.string t, .string s] w fun e w' => e = .returned (.bool (W.foundB t.toList (32 :: s.toList ++ [32]))) ∧ w = w' := by
  generalize hp : 32 :: s.toList ++ [32] = p
  have hpl : p.length = s.size + 2 := by rw [← hp]; simp [list_size]
  have HP := hide hp
  have HL := hide hpl
  clear hp hpl
  go_enter Tryz.func160, Tryz.ntmps160
  go_wp2
  go_loop [5] (fun i => ∃ k : Nat, k ≤ t.size ∧ i = iv k ∧ Hid (∀ j, j < k → W.atB t.toList p j = false)) (fun i => t.size - (intOf i).toNat)
  case atStart => exact ⟨0, by omega, rfl, fun j hj => by omega⟩
  case round =>
    obtain ⟨k, hk, rfl, HT⟩ := hrel
    by_cases hlt : k + s.size + 2 ≤ t.size
    · have hsp := spelt_at t s k hlt
      rw [HP.out] at hsp
      by_cases hb : W.atB t.toList p k = true
      · rw [hb] at hsp
        have HB := hide hb
        clear hb
        go_wp2
        go_ret
        exact ⟨ret_bool (found_yes HB.out (by rw [list_size]; omega)).symm, rfl⟩
      · have hb' : W.atB t.toList p k = false := by simpa using hb
        rw [hb'] at hsp
        have HB := hide hb'
        clear hb hb'
        go_wp2
        go_round
        case rel =>
          refine ⟨k + 1, by omega, by go_num, fun j hj => ?_⟩
          rcases Nat.lt_or_eq_of_le (Nat.le_of_lt_succ hj) with h | rfl
          · exact HT.out j h
          · exact HB.out
        case measure => simp [intOf]; omega
    · have hno : W.foundB t.toList p = false := found_no fun j hj => by
        rw [list_size] at hj
        by_cases c : j < k
        · exact HT.out j c
        · unfold W.atB
          rw [decide_eq_false (by rw [HL.out, list_size]; omega), Bool.false_and]
      have HN := hide hno
      clear hno
      go_wp2
      go_ret
      exact ⟨ret_bool HN.out.symm, rfl⟩
def resS : ByteArray := ⟨W.resT.toArray⟩
theorem resS_list : resS.toList = W.resT := by rw [ByteArray.toList_eq]; rfl
theorem resS_size : resS.size = W.resT.length := by rw [← list_size, resS_list]
theorem reserved_any (w : World) : Calls Tryz.prog 161 #[] w fun e w' => e = .returned (.string resS) ∧ w = w' := by
  go_enter Tryz.func161, Tryz.ntmps161
  go_wp2
  go_ret
  exact ⟨rfl, rfl⟩
theorem resT_len : W.resT.length ≤ 1000 := by decide +kernel
theorem alnB_of {c : UInt8} : W.alnB c = true ↔ (97 ≤ c.toNat ∧ c.toNat ≤ 122) ∨ (48 ≤ c.toNat ∧ c.toNat ≤ 57) := by simp [W.alnB, W.letB, W.digB]
set_option maxHeartbeats 1000000 in
theorem rvalidName_any (s : ByteArray) (w : World) (hs : s.size ≤ 9223372036854775807) :
    Calls Tryz.prog 119 #[.string s] w fun e w' => e = .returned (.bool (nameB s.toList)) ∧ w = w' := by
  have hz := list_size s
  by_cases hlen : s.size < 1 ∨ 8 < s.size
  · have HN := hide (nameB_len (l := s.toList) (by rwa [hz]))
    have hw : wiB s.size 1 8 = false := by unfold wiB; rcases hlen with h | h <;> simp <;> omega
    clear hz hlen
    go_enter Tryz.func119, Tryz.ntmps119
    go_wp2_with (go_at_call 159; refine (rwithin_any _ _ _ _).mono ?_; rintro e w1 ⟨rfl, rfl⟩)
    go_ret
    exact ⟨ret_bool HN.out.symm, rfl⟩
  · have h1 : 1 ≤ s.size := by omega
    have h8 : s.size ≤ 8 := by omega
    have h0 : 0 < s.size := h1
    have ha := list_at s 0 h0
    have e0 : s.toList.head? = some s[0] := by rw [List.head?_eq_getElem?, ha]
    have hw : wiB s.size 1 8 = true := by rw [wiB_iff]; omega
    have hN : nameB s.toList = (W.letB s[0] && !W.wordB s.toList && s.toList.all W.alnB) := by
      unfold nameB
      rw [e0, decide_eq_true (by omega), decide_eq_true (by omega)]
      simp
    have HN := hide hN
    have HZ := hide hz
    clear hN ha e0 hz hlen
    by_cases hl : W.letB s[0] = true
    · have HL := hide hl
      have hl2 : 97 ≤ s[0].toNat ∧ s[0].toNat ≤ 122 := by simpa [W.letB] using hl
      obtain ⟨l1, l2⟩ := hl2
      have l1' : ¬ ((s[0].toNat : Int) < 97) := by omega
      have l2' : ¬ ((122 : Int) < (s[0].toNat : Int)) := by omega
      clear hl l1 l2
      go_enter Tryz.func119, Tryz.ntmps119
      go_wp2_with (go_at_call 159; refine (rwithin_any _ _ _ _).mono ?_; rintro e w1 ⟨rfl, rfl⟩)
      go_loop [3] (fun i => ∃ k : Nat, k ≤ s.size ∧ i = iv k ∧ Hid ((s.toList.take k).all W.alnB = true)) (fun i => s.size - (intOf i).toNat)
      case atStart => exact ⟨0, by omega, rfl, by simp [Hid]⟩
      case round =>
        obtain ⟨k, hk, rfl, HT⟩ := hrel
        by_cases hlt : k < s.size
        · have hn := all_take_succ W.alnB s.toList k s[k] (list_at s k hlt)
          rw [HT.out, Bool.true_and] at hn
          have HX := hide hn
          have HM := hide (List.mem_of_getElem? (list_at s k hlt))
          clear hn
          have HA := hide (@alnB_of s[k])
          go_wp2
          all_goals try
              (go_ret
               refine ⟨ret_bool ?_, rfl⟩
               have hf : s.toList.all W.alnB = false := List.all_eq_false.2 ⟨_, HM.out, fun t => by have := HA.out.1 t; omega⟩
               rw [HN.out, hf]
               simp)
          all_goals
            go_round
            case rel => exact ⟨k + 1, by omega, by go_num, by unfold Hid; rw [HX.out]; exact HA.out.2 (by first | omega | (rename_i hh; simp only [Bool.not_eq_false', decide_eq_true_eq] at hh; omega))⟩
            case measure => simp [intOf]; omega
        · obtain rfl : k = s.size := by omega
          have ht : s.toList.all W.alnB = true := by have := HT.out; rwa [← HZ.out, List.take_length] at this
          have hfi := W.found_iff s.toList (by rw [HZ.out]; omega) (by rw [HZ.out]; omega) ht
          rw [← resS_list] at hfi
          have HF := hide ht
          have HI : Hid (W.foundB resS.toList (32 :: (s.toList ++ [32])) = W.wordB s.toList) := hfi
          clear ht hfi
          go_wp2_with (first | (go_at_call 161; refine (reserved_any _).mono ?_; rintro e w1 ⟨rfl, rfl⟩) | (go_at_call 160; refine (risWord_any _ _ _ (by rw [resS_size]; exact resT_len) h8).mono ?_; rintro e w1 ⟨rfl, rfl⟩))
          go_ret
          exact ⟨ret_bool (by rw [HN.out, HF.out, HL.out, HI.out]; simp), rfl⟩
    · have hl' : W.letB s[0] = false := by simpa using hl
      have HL := hide hl'
      have hl2 : ¬ (97 ≤ s[0].toNat ∧ s[0].toNat ≤ 122) := by simpa [W.letB] using hl
      clear hl hl'
      by_cases c : (s[0].toNat : Int) < 97
      · go_enter Tryz.func119, Tryz.ntmps119
        go_wp2_with (go_at_call 159; refine (rwithin_any _ _ _ _).mono ?_; rintro e w1 ⟨rfl, rfl⟩)
        go_ret
        exact ⟨ret_bool (by rw [HN.out, HL.out]; simp), rfl⟩
      · have c' : (122 : Int) < (s[0].toNat : Int) := by omega
        clear hl2
        go_enter Tryz.func119, Tryz.ntmps119
        go_wp2_with (go_at_call 159; refine (rwithin_any _ _ _ _).mono ?_; rintro e w1 ⟨rfl, rfl⟩)
        go_ret
        exact ⟨ret_bool (by rw [HN.out, HL.out]; simp), rfl⟩
end Go.Proofs.YtddhaiaapomdjaaGreat
