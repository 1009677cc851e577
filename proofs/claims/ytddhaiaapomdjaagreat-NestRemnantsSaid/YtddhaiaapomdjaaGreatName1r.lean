/-
  Names: the words that are no names, as lists of bytes. Plain; no program.
-/
import Derived.Test.YtddhaiaapomdjaaGreatFramer
namespace Go.Proofs.YtddhaiaapomdjaaGreat
set_option linter.unusedVariables false
set_option linter.unusedSimpArgs false
namespace W

def letB (c : UInt8) : Bool := decide (97 ≤ c.toNat) && decide (c.toNat ≤ 122)
def digB (c : UInt8) : Bool := decide (48 ≤ c.toNat) && decide (c.toNat ≤ 57)
def alnB (c : UInt8) : Bool := letB c || digB c
/-- the words, each between blanks -/
def resT : List UInt8 := [32, 112, 97, 114, 116, 32, 109, 97, 116, 101, 114, 105, 97, 108, 32, 98, 97, 115, 101, 32, 102, 108, 97, 110, 103, 101, 32, 104, 111, 108, 101, 32, 99, 117, 116, 32, 102, 111, 114, 109, 32, 101, 97, 115, 116, 32, 115, 111, 117, 116, 104, 32, 119, 101, 115, 116, 32, 110, 111, 114, 116, 104, 32, 117, 112, 32, 100, 111, 119, 110, 32, 99, 108, 111, 115, 101, 117, 112, 32, 99, 108, 111, 115, 101, 100, 111, 119, 110, 32, 103, 114, 97, 105, 110, 32, 120, 32, 121, 32, 116, 97, 98, 108, 101, 32, 97, 110, 103, 108, 101, 32, 109, 97, 99, 104, 105, 110, 101, 32, 112, 117, 110, 99, 104, 32, 100, 105, 101, 32, 102, 114, 97, 109, 101, 32, 103, 97, 117, 103, 101, 32, 112, 111, 108, 121, 32, 115, 116, 97, 116, 105, 111, 110, 115, 32]
def words : List (List UInt8) := [
  [112, 97, 114, 116],
  [109, 97, 116, 101, 114, 105, 97, 108],
  [98, 97, 115, 101],
  [102, 108, 97, 110, 103, 101],
  [104, 111, 108, 101],
  [99, 117, 116],
  [102, 111, 114, 109],
  [101, 97, 115, 116],
  [115, 111, 117, 116, 104],
  [119, 101, 115, 116],
  [110, 111, 114, 116, 104],
  [117, 112],
  [100, 111, 119, 110],
  [99, 108, 111, 115, 101, 117, 112],
  [99, 108, 111, 115, 101, 100, 111, 119, 110],
  [103, 114, 97, 105, 110],
  [120],
  [121],
  [116, 97, 98, 108, 101],
  [97, 110, 103, 108, 101],
  [109, 97, 99, 104, 105, 110, 101],
  [112, 117, 110, 99, 104],
  [100, 105, 101],
  [102, 114, 97, 109, 101],
  [103, 97, 117, 103, 101],
  [112, 111, 108, 121],
  [115, 116, 97, 116, 105, 111, 110, 115]]
/-- p lies in T at i -/
def atB (T p : List UInt8) (i : Nat) : Bool := decide (i + p.length ≤ T.length) && decide ((T.drop i).take p.length = p)
def foundB (T p : List UInt8) : Bool := (List.range T.length).any (atB T p)
def wordB (l : List UInt8) : Bool := decide (l ∈ words)
def segB (i n : Nat) : Bool :=
  let m := (resT.drop (i + 1)).take n
  !(decide ((resT.drop i).take (n + 2) = 32 :: m ++ [32]) && m.all (fun c => c != 32)) || decide (m ∈ words) || decide (n = 0)
theorem seg_all : ((List.range resT.length).all fun i => (List.range 9).all fun n => segB i n) = true := by decide +kernel
theorem word_all : (words.all fun w => foundB resT (32 :: w ++ [32])) = true := by decide +kernel
theorem found_iff (l : List UInt8) (h1 : 1 ≤ l.length) (h8 : l.length ≤ 8) (ha : l.all alnB = true) : foundB resT (32 :: l ++ [32]) = wordB l := by
  rw [Bool.eq_iff_iff]
  unfold foundB wordB
  constructor
  · intro h
    obtain ⟨i, hi, h⟩ := List.any_eq_true.1 h
    have hi' := List.mem_range.1 hi
    unfold atB at h
    simp only [Bool.and_eq_true, decide_eq_true_eq, List.length_append, List.length_cons, List.length_nil] at h
    obtain ⟨h2, h3⟩ := h
    have hs := List.all_eq_true.1 (List.all_eq_true.1 seg_all i hi) l.length (List.mem_range.2 (by omega))
    have hm : (resT.drop (i + 1)).take l.length = l := by
      have h4 : ((resT.drop i).take (l.length + 2)).drop 1 = l ++ [32] := by
        have := congrArg (List.drop 1) h3
        simpa using this
      rw [List.drop_take, List.drop_drop] at h4
      have h5 := congrArg (List.take l.length) h4
      rw [List.take_take, List.take_left] at h5
      rw [show min l.length (l.length + 2 - 1) = l.length by omega] at h5
      exact h5
    unfold segB at hs
    simp only [hm] at hs
    have h6 : decide ((resT.drop i).take (l.length + 2) = 32 :: l ++ [32]) = true := by
      rw [decide_eq_true_eq]
      simpa using h3
    have h7 : (l.all fun c => c != 32) = true := by
      rw [List.all_eq_true] at ha ⊢
      intro c hc
      have := ha c hc
      rw [bne_iff_ne]
      rintro rfl
      revert this
      decide
    rw [h6, h7] at hs
    have h8 : decide (l.length = 0) = false := decide_eq_false (by omega)
    rw [h8] at hs
    simpa using hs
  · intro h
    have := List.all_eq_true.1 word_all l (of_decide_eq_true h)
    exact this
end W
end Go.Proofs.YtddhaiaapomdjaaGreat
