/-
  Sets of pairs as numbers: the calls of pairSet.
-/
import Derived.Test.YtfndhddnglcliaaSb1
import Derived.Test.YtfndhddnglcliaaLst1
set_option linter.unusedVariables false
set_option linter.unusedSimpArgs false
namespace Go.Proofs.Ytfndhddnglcliaa
set_option linter.unusedVariables false
set_option linter.unusedSimpArgs false
open Go Go.ChangeShapes Go.WideShapes Go.ChangeAt Go.RowKit Go.Deep

def pp1 (x : Int) : Int := IntKind.u64.wrap (bits BinOp.and IntKind.u64 (x / 2) 6148914691236517205 + bits BinOp.and IntKind.u64 x 6148914691236517205)
def pp2 (y : Int) : Int := IntKind.u64.wrap (bits BinOp.and IntKind.u64 (y / 4) 3689348814741910323 + bits BinOp.and IntKind.u64 y 3689348814741910323)
def pp3 (y : Int) : Int := bits BinOp.and IntKind.u64 (IntKind.u64.wrap (y / 16 + y)) 1085102592571150095
def pp4 (y : Int) : Int := IntKind.u64.wrap (y + y / 256)
def pp5 (y : Int) : Int := IntKind.u64.wrap (y + y / 65536)
def pp6 (y : Int) : Int := IntKind.u64.wrap (y + y / 4294967296)
def pp7 (y : Int) : Int := bits BinOp.and IntKind.i64 (wrap64 y) 127
theorem pop_all : ∀ x : Fin 512, pp7 (pp6 (pp5 (pp4 (pp3 (pp2 (pp1 (x.val : Int))))))) = (LS.cd x.val : Int) := by decide +kernel
set_option maxRecDepth 100000 in
theorem oc64_any (x : Nat) (w : World) (h : x < 512) :
    Calls Try.prog 47 #[uv x] w fun e w' => e = .returned (iv (LS.cd x)) ∧ w = w' := by
  have HP := hide (pop_all ⟨x, h⟩)
  go_enter Try.func47, Try.ntmps47
  go_wp2
  go_ret
  exact ⟨ret_iv HP.out, rfl⟩
theorem oc_any (x : Nat) (w : World) (h : x < 512) :
    Calls Try.prog 42 #[uv x] w fun e w' => e = .returned (iv (LS.cd x)) ∧ w = w' := by
  go_enter Try.func42, Try.ntmps42
  go_wp2_with (first | (go_at_call 47; refine (oc64_any _ _ h).mono ?_; rintro e w1 ⟨rfl, rfl⟩))
  go_ret
  exact ⟨rfl, rfl⟩
theorem size_any (x : Nat) (w : World) (h : x < 512) :
    Calls Try.prog 31 #[uv x] w fun e w' => e = .returned (iv (LS.cd x)) ∧ w = w' := by
  go_enter Try.func31, Try.ntmps31
  go_wp2_with (first | (go_at_call 42; refine (oc_any _ _ h).mono ?_; rintro e w1 ⟨rfl, rfl⟩))
  go_ret
  exact ⟨rfl, rfl⟩
theorem u64_in {n : Nat} (h : n < 2 ^ 64) : IntKind.u64.wrap ((n : Nat) : Int) = (n : Int) := by
  simp only [IntKind.wrap, IntKind.signed, IntKind.bits]
  simp
  omega
theorem u_and {m n : Nat} (h : m < 2 ^ 64) (k : n < 2 ^ 64) : bits .and .u64 (m : Int) (n : Int) = ((m &&& n : Nat) : Int) := by
  have e : (BitVec.ofInt 64 (m : Int) &&& BitVec.ofInt 64 (n : Int)).toNat = m &&& n := by
    rw [BitVec.toNat_and]
    simp only [BitVec.ofInt_natCast, BitVec.toNat_ofNat]
    rw [Nat.mod_eq_of_lt h, Nat.mod_eq_of_lt k]
  show IntKind.u64.wrap ((BitVec.ofInt 64 (m : Int) &&& BitVec.ofInt 64 (n : Int)).toNat : Int) = _
  rw [e, u64_in (Nat.lt_of_le_of_lt Nat.and_le_left h)]
theorem u_or {m n : Nat} (h : m < 2 ^ 64) (k : n < 2 ^ 64) : bits .or .u64 (m : Int) (n : Int) = ((m ||| n : Nat) : Int) := by
  have e : (BitVec.ofInt 64 (m : Int) ||| BitVec.ofInt 64 (n : Int)).toNat = m ||| n := by
    rw [BitVec.toNat_or]
    simp only [BitVec.ofInt_natCast, BitVec.toNat_ofNat]
    rw [Nat.mod_eq_of_lt h, Nat.mod_eq_of_lt k]
  show IntKind.u64.wrap ((BitVec.ofInt 64 (m : Int) ||| BitVec.ofInt 64 (n : Int)).toNat : Int) = _
  rw [e, u64_in (Nat.or_lt_two_pow h k)]
theorem u_andNot_all : ∀ (m : Fin 512) (p : Fin 9), bits .andNot .u64 ((m.val : Nat) : Int) ((2 ^ p.val : Nat) : Int) = (LS.wo m.val p.val : Int) := by decide +kernel
theorem u_andNot {m p : Nat} (h : m < 512) (k : p < 9) : bits .andNot .u64 (m : Int) ((2 ^ p : Nat) : Int) = (LS.wo m p : Int) := u_andNot_all ⟨m, h⟩ ⟨p, k⟩
theorem wo_lt {m p : Nat} (h : m < 512) : LS.wo m p < 512 := by
  unfold LS.wo
  exact Nat.xor_lt_two_pow (n := 9) h (Nat.lt_of_le_of_lt Nat.and_le_left h)
theorem wi_lt {m p : Nat} (h : m < 512) (k : p < 9) : m ||| 2 ^ p < 512 :=
  Nat.or_lt_two_pow (n := 9) h (Nat.pow_lt_pow_right (by decide) k)
theorem single_any (p : Nat) (w : World) (h : p < 9) :
    Calls Try.prog 17 #[iv p] w fun e w' => e = .returned (uv (2 ^ p)) ∧ w = w' := by
  rcases (by omega : p = 0 ∨ p = 1 ∨ p = 2 ∨ p = 3 ∨ p = 4 ∨ p = 5 ∨ p = 6 ∨ p = 7 ∨ p = 8) with rfl | rfl | rfl | rfl | rfl | rfl | rfl | rfl | rfl
  all_goals
    go_enter Try.func17, Try.ntmps17
    go_wp2
    go_ret
    exact ⟨rfl, rfl⟩
theorem meets_any (m n : Nat) (w : World) (h : m < 512) (k : n < 512) :
    Calls Try.prog 15 #[uv m, uv n] w fun e w' => e = .returned (.bool (LS.mt m n)) ∧ w = w' := by
  have HU := hide (u_and (m := m) (n := n) (Nat.lt_trans h (by decide)) (Nat.lt_trans k (by decide)))
  have HB := hide (LS.mt_and (m := m) k)
  clear h k
  go_enter Try.func15, Try.ntmps15
  go_wp2
  go_ret
  refine ⟨ret_bool ?_, rfl⟩
  rw [HU.out, Bool.eq_iff_iff, HB.out]
  simp
theorem mt_pow {n p : Nat} (h : p < 9) : LS.mt n (2 ^ p) = n.testBit p := by
  rw [Bool.eq_iff_iff, LS.mt_iff]
  constructor
  · rintro ⟨i, _, h1, h2⟩
    rw [Nat.testBit_two_pow, decide_eq_true_eq] at h2
    rwa [h2]
  · intro h1
    exact ⟨p, h, h1, by simp [Nat.testBit_two_pow]⟩
theorem has_any (n p : Nat) (w : World) (h : n < 512) (k : p < 9) :
    Calls Try.prog 44 #[uv n, iv p] w fun e w' => e = .returned (.bool (n.testBit p)) ∧ w = w' := by
  rw [← mt_pow k]
  have k2 : 2 ^ p < 512 := Nat.pow_lt_pow_right (n := 9) (by decide) k
  have HM := hide (fun w => meets_any n (2 ^ p) w h k2)
  go_enter Try.func44, Try.ntmps44
  go_wp2_with (first | (go_at_call 17; refine (single_any _ _ k).mono ?_; rintro e w1 ⟨rfl, rfl⟩) | (go_at_call 15; refine (HM.out _).mono ?_; rintro e w1 ⟨rfl, rfl⟩))
  go_ret
  exact ⟨rfl, rfl⟩
end Go.Proofs.Ytfndhddnglcliaa
