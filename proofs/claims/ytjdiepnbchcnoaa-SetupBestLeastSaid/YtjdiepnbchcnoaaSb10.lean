/-
  Blocked windows, on both sides; Serves and Blocked.
-/
import Derived.Test.YtjdiepnbchcnoaaSb9
set_option linter.unusedVariables false
set_option linter.unusedSimpArgs false
namespace Go.Proofs.Ytjdiepnbchcnoaa
set_option linter.unusedVariables false
set_option linter.unusedSimpArgs false
open Go Go.ChangeShapes Go.WideShapes Go.ChangeAt Go.RowKit Go.Deep

/-- whether a set of at most s pairs does not serve -/
def bkF (ss : List Nat) (s f t m : Nat) : Bool := !(decide (LS.cd m ≤ s) && svB ss f t m)
def bkB (ss : List Nat) (s f t : Nat) : Bool := (List.range 512).all (bkF ss s f t)
theorem bk_stop {ss : List Nat} {s f t m : Nat} (hm : m < 512) (h : LS.cd m ≤ s) (k : svB ss f t m = true) : bkB ss s f t = false := by
  unfold bkB
  rw [List.all_eq_false]
  exact ⟨m, List.mem_range.2 hm, by simp [bkF, h, k]⟩
theorem bk_end {ss : List Nat} {s f t : Nat} (h : ∀ m, m < 512 → bkF ss s f t m = true) : bkB ss s f t = true := by
  unfold bkB
  rw [List.all_eq_true]
  exact fun m hm => h m (List.mem_range.1 hm)
theorem bkF_big {ss : List Nat} {s f t m : Nat} (h : ¬ LS.cd m ≤ s) : bkF ss s f t m = true := by simp [bkF, h]
theorem bkF_no {ss : List Nat} {s f t m : Nat} (h : svB ss f t m = false) : bkF ss s f t m = true := by simp [bkF, h]
theorem below {P : Nat → Prop} {k : Nat} (H : ∀ i, i < k → P i) (h : P k) : ∀ i, i < k + 1 → P i := by
  intro i hi
  rcases Nat.lt_or_ge i k with h1 | h1
  · exact H i h1
  · obtain rfl : i = k := by omega
    exact h
/-- the bits below k -/
def cdk (m k : Nat) : Nat := (List.range k).countP m.testBit
def dv (m k : Nat) : Nat := m / 2 ^ k
theorem cnt_all : ∀ (m : Fin 512) (k : Fin 10), (dv m.val k.val = 0 → cdk m.val k.val = LS.cd m.val) ∧ cdk m.val (k.val + 1) = cdk m.val k.val + dv m.val k.val % 2 := by decide +kernel
theorem and_one_all : ∀ m : Fin 512, bits .and .i64 ((m.val : Nat) : Int) 1 = ((m.val % 2 : Nat) : Int) := by decide +kernel
theorem count_any (m : Nat) (w : World) (hm : m < 512) :
    Calls Try.prog 49 #[iv m] w fun e w' => e = .returned (iv (LS.cd m)) ∧ w = w' := by
  have HC := hide (fun (k : Nat) (hk : k < 10) => cnt_all ⟨m, hm⟩ ⟨k, hk⟩)
  go_enter Try.func49, Try.ntmps49
  go_wp2
  go_loop [0, 3] (fun n c => ∃ k : Nat, k ≤ 9 ∧ n = iv ((dv m k : Nat) : Int) ∧ c = iv (cdk m k)) (fun n _ => (intOf n).toNat)
  case atStart => exact ⟨0, by omega, by unfold dv; simp, rfl⟩
  case round =>
    obtain ⟨k, hk, rfl, rfl⟩ := hrel
    obtain ⟨h1, h2⟩ := HC.out k (by omega)
    have hlt : dv m k < 512 := Nat.lt_of_le_of_lt (Nat.div_le_self _ _) hm
    have hd : dv m (k + 1) = dv m k / 2 := by unfold dv; rw [Nat.pow_succ, Nat.div_div_eq_div_mul]
    have W1 : bits .and .i64 ((dv m k : Nat) : Int) 1 = ((dv m k % 2 : Nat) : Int) := and_one_all ⟨dv m k, hlt⟩
    have hck : cdk m k ≤ k := by
      unfold cdk
      exact Nat.le_trans List.countP_le_length (by simp)
    by_cases h0 : dv m k = 0
    · have HE := hide (h1 h0)
      rw [h0]
      clear h1 h2 hd W1 hlt h0
      go_wp2
      go_ret
      exact ⟨ret_iv (by rw [HE.out]), rfl⟩
    · have h3 : dv m (k + 1) < dv m k := by rw [hd]; omega
      have hk8 : k < 9 := by
        refine Nat.not_le.1 fun hle => h0 ?_
        have : k = 9 := by omega
        subst this
        exact Nat.div_eq_of_lt hm
      have HD := hide hd
      have H2 := hide h2
      clear h1 h2 hd
      generalize dv m k = n1 at *
      have hpos : (0 : Int) < (n1 : Int) := by omega
      have hr : n1 % 2 ≤ 1 := by omega
      have HD2 := hide HD.out
      generalize hrr : n1 % 2 = r at *
      clear hrr HD
      go_wp2
      go_round
      case rel => exact ⟨k + 1, by omega, by have := HD2.out; exact iv_eq (by omega), by have := H2.out; exact iv_eq (by omega)⟩
      case measure => simp only [intOf]; have := HD2.out; omega
end Go.Proofs.Ytjdiepnbchcnoaa
