/-
  What both sides' ValidName return.
-/
import Derived.Test.YtddhaiaapomdjaaGreatName1r
import Derived.Test.YtddhaiaapomdjaaGreatPlainr
namespace Go.Proofs.YtddhaiaapomdjaaGreat
set_option linter.unusedVariables false
set_option linter.unusedSimpArgs false
open Go Go.ChangeShapes Go.WideShapes Go.ChangeAt Go.RowKit Go.Deep

theorem ret_bool {a b : Bool} (h : a = b) : Ending.returned (.bool a) = .returned (.bool b) := by rw [h]
set_option maxHeartbeats 1000000 in
theorem isWord_any (s : ByteArray) (w : World) :
    Calls Tryz.prog 100 #[.string s] w fun e w' => e = .returned (.bool (W.wordB s.toList)) ∧ w = w' := by
  go_enter Tryz.func100, Tryz.ntmps100
  go_wp2
  all_goals
    go_ret
    refine ⟨ret_bool ?_, rfl⟩
    first | (exfalso; simp_all; done) | (simp_all [W.wordB, W.words]; done)
theorem letter_any (c : UInt8) (w : World) :
    Calls Tryz.prog 99 #[.int .u8 (c.toNat : Int)] w fun e w' => e = .returned (.bool (W.letB c)) ∧ w = w' := by
  go_enter Tryz.func99, Tryz.ntmps99
  go_wp2
  all_goals
    go_ret
    exact ⟨ret_bool (by unfold W.letB; rw [Bool.eq_iff_iff]; simp only [Bool.and_eq_true, decide_eq_true_eq, true_iff, Bool.false_eq_true, false_iff, not_and]; omega), rfl⟩
theorem digit_any (c : UInt8) (w : World) :
    Calls Tryz.prog 101 #[.int .u8 (c.toNat : Int)] w fun e w' => e = .returned (.bool (W.digB c)) ∧ w = w' := by
  go_enter Tryz.func101, Tryz.ntmps101
  go_wp2
  all_goals
    go_ret
    exact ⟨ret_bool (by unfold W.digB; rw [Bool.eq_iff_iff]; simp only [Bool.and_eq_true, decide_eq_true_eq, true_iff, Bool.false_eq_true, false_iff, not_and]; omega), rfl⟩
theorem list_at (s : ByteArray) (k : Nat) (h : k < s.size) : s.toList[k]? = some s[k] := by
  rw [ByteArray.toList_eq]
  exact List.getElem?_eq_getElem (l := s.data.toList) (by simpa using h)
theorem list_size (s : ByteArray) : s.toList.length = s.size := by
  rw [ByteArray.toList_eq]
  simp
theorem all_take_succ {α : Type} (f : α → Bool) (l : List α) (k : Nat) (x : α) (h : l[k]? = some x) : (l.take (k + 1)).all f = ((l.take k).all f && f x) := by
  rw [List.take_add_one, h]
  simp
/-- which names are valid -/
def nameB (l : List UInt8) : Bool := decide (1 ≤ l.length) && decide (l.length ≤ 8) && (l.head?.any W.letB) && !W.wordB l && l.all W.alnB
theorem nameB_len {l : List UInt8} (h : l.length < 1 ∨ 8 < l.length) : nameB l = false := by
  unfold nameB
  rcases h with h | h
  · rw [decide_eq_false (by omega)]; rfl
  · rw [decide_eq_false (p := l.length ≤ 8) (by omega)]; simp
set_option maxHeartbeats 1000000 in
theorem validName_any (s : ByteArray) (w : World) (hs : s.size ≤ 9223372036854775807) :
    Calls Tryz.prog 58 #[.string s] w fun e w' => e = .returned (.bool (nameB s.toList)) ∧ w = w' := by
  have hz := list_size s
  by_cases hlen : s.size < 1 ∨ 8 < s.size
  · have HN := hide (nameB_len (l := s.toList) (by rwa [hz]))
    clear hz
    rcases hlen with h | h
    · go_enter Tryz.func58, Tryz.ntmps58
      go_wp2
      go_ret
      exact ⟨ret_bool HN.out.symm, rfl⟩
    · have h' : ¬ s.size < 1 := by omega
      go_enter Tryz.func58, Tryz.ntmps58
      go_wp2
      go_ret
      exact ⟨ret_bool HN.out.symm, rfl⟩
  · have h1 : 1 ≤ s.size := by omega
    have h8 : s.size ≤ 8 := by omega
    have h0 : 0 < s.size := h1
    have ha := list_at s 0 h0
    have e0 : s.toList.head? = some s[0] := by rw [List.head?_eq_getElem?, ha]
    have hN : nameB s.toList = (W.letB s[0] && !W.wordB s.toList && s.toList.all W.alnB) := by
      unfold nameB
      rw [e0, decide_eq_true (by omega), decide_eq_true (by omega)]
      simp
    have HN := hide hN
    have HZ := hide hz
    clear hN ha e0 hz hlen
    by_cases hl : W.letB s[0] = true
    · by_cases hw : W.wordB s.toList = true
      · go_enter Tryz.func58, Tryz.ntmps58
        go_wp2_with (first | (go_at_call 99; refine (letter_any _ _).mono ?_; rintro e w1 ⟨rfl, rfl⟩) | (go_at_call 100; refine (isWord_any _ _).mono ?_; rintro e w1 ⟨rfl, rfl⟩))
        go_ret
        exact ⟨ret_bool (by rw [HN.out, hw]; simp), rfl⟩
      · have hw' : W.wordB s.toList = false := by simpa using hw
        clear hw
        go_enter Tryz.func58, Tryz.ntmps58
        go_wp2_with (first | (go_at_call 99; refine (letter_any _ _).mono ?_; rintro e w1 ⟨rfl, rfl⟩) | (go_at_call 100; refine (isWord_any _ _).mono ?_; rintro e w1 ⟨rfl, rfl⟩))
        go_loop [24] (fun i => ∃ k : Nat, k ≤ s.size ∧ i = iv k ∧ Hid ((s.toList.take k).all W.alnB = true)) (fun i => s.size - (intOf i).toNat)
        case atStart => exact ⟨0, by omega, rfl, by simp [Hid]⟩
        case round =>
          obtain ⟨k, hk, rfl, HT⟩ := hrel
          by_cases hlt : k < s.size
          · have hn := all_take_succ W.alnB s.toList k s[k] (list_at s k hlt)
            rw [HT.out] at hn
            have HX := hide hn
            clear hn
            by_cases c1 : W.letB s[k] = true
            · go_wp2_with (first | (go_at_call 99; refine (letter_any _ _).mono ?_; rintro e w1 ⟨rfl, rfl⟩) | (go_at_call 101; refine (digit_any _ _).mono ?_; rintro e w1 ⟨rfl, rfl⟩))
              go_round
              case rel => exact ⟨k + 1, by omega, by go_num, by unfold Hid; rw [HX.out]; simp [W.alnB, c1]⟩
              case measure => simp [intOf]; omega
            · have c1' : W.letB s[k] = false := by simpa using c1
              clear c1
              by_cases c2 : W.digB s[k] = true
              · go_wp2_with (first | (go_at_call 99; refine (letter_any _ _).mono ?_; rintro e w1 ⟨rfl, rfl⟩) | (go_at_call 101; refine (digit_any _ _).mono ?_; rintro e w1 ⟨rfl, rfl⟩))
                go_round
                case rel => exact ⟨k + 1, by omega, by go_num, by unfold Hid; rw [HX.out]; simp [W.alnB, c2]⟩
                case measure => simp [intOf]; omega
              · have c2' : W.digB s[k] = false := by simpa using c2
                clear c2
                have hf : s.toList.all W.alnB = false := by
                  rw [List.all_eq_false]
                  exact ⟨s[k], List.mem_of_getElem? (list_at s k hlt), by simp [W.alnB, c1', c2']⟩
                have HF := hide hf
                clear hf
                go_wp2_with (first | (go_at_call 99; refine (letter_any _ _).mono ?_; rintro e w1 ⟨rfl, rfl⟩) | (go_at_call 101; refine (digit_any _ _).mono ?_; rintro e w1 ⟨rfl, rfl⟩))
                go_ret
                exact ⟨ret_bool (by rw [HN.out, HF.out]; simp), rfl⟩
          · obtain rfl : k = s.size := by omega
            have ht : s.toList.all W.alnB = true := by have := HT.out; rwa [← HZ.out, List.take_length] at this
            have HF := hide ht
            clear ht
            go_wp2
            go_ret
            exact ⟨ret_bool (by rw [HN.out, HF.out, hl, hw']; simp), rfl⟩
    · have hl' : W.letB s[0] = false := by simpa using hl
      clear hl
      go_enter Tryz.func58, Tryz.ntmps58
      go_wp2_with (first | (go_at_call 99; refine (letter_any _ _).mono ?_; rintro e w1 ⟨rfl, rfl⟩) | (go_at_call 100; refine (isWord_any _ _).mono ?_; rintro e w1 ⟨rfl, rfl⟩))
      go_ret
      exact ⟨ret_bool (by rw [HN.out, hl']; simp), rfl⟩
end Go.Proofs.YtddhaiaapomdjaaGreat
