/-
  What the reference's ValidName returns.
-/
import Derived.Test.YtjnfodbniohkhaaGreatName2
namespace Go.Proofs.YtjnfodbniohkhaaGreat
set_option linter.unusedVariables false
set_option linter.unusedSimpArgs false
open Go Go.ChangeShapes Go.WideShapes Go.ChangeAt Go.RowKit Go.Deep

def wiB (n lo hi : Int) : Bool := decide (lo ≤ n) && decide (n ≤ hi)
theorem wiB_iff {n lo hi : Int} : wiB n lo hi = true ↔ lo ≤ n ∧ n ≤ hi := by simp [wiB]
theorem spelt_at (t s : ByteArray) (k : Nat) (h : k + s.size + 2 ≤ t.size) :
    ((t.extract k (k + s.size + 2)).toList == (({ data := #[32] } : ByteArray) ++ s ++ ({ data := #[32] } : ByteArray)).toList) = W.atB t.toList (32 :: s.toList ++ [32]) k := by
  have e1 : (t.extract k (k + s.size + 2)).toList = (t.toList.drop k).take (s.size + 2) := by
    rw [ByteArray.toList_eq, ByteArray.toList_eq, ByteArray.data_extract, Array.toList_extract]
    rw [List.extract_eq_take_drop]
    congr 1
    omega
  have e2 : (({ data := #[32] } : ByteArray) ++ s ++ ({ data := #[32] } : ByteArray)).toList = 32 :: s.toList ++ [32] := by
    rw [ByteArray.toList_eq, ByteArray.toList_eq, ByteArray.data_append, ByteArray.data_append]
    simp
  have e3 : (32 :: s.toList ++ [32]).length = s.size + 2 := by simp [list_size]
  unfold W.atB
  rw [e1, e2, e3, list_size, decide_eq_true (show k + (s.size + 2) ≤ t.size by omega), Bool.true_and]
  by_cases c : (t.toList.drop k).take (s.size + 2) = 32 :: s.toList ++ [32]
  · rw [c]
    simp
  · rw [decide_eq_false c, beq_eq_false_iff_ne]
    exact c
theorem found_no {T p : List UInt8} (h : ∀ j, j < T.length → W.atB T p j = false) : W.foundB T p = false := by
  unfold W.foundB
  rw [List.any_eq_false]
  intro j hj
  rw [h j (List.mem_range.1 hj)]
  simp
theorem found_yes {T p : List UInt8} {j : Nat} (h : W.atB T p j = true) (hj : j < T.length) : W.foundB T p = true :=
  List.any_eq_true.2 ⟨j, List.mem_range.2 hj, h⟩
def resS : ByteArray := ⟨W.resT.toArray⟩
theorem resS_list : resS.toList = W.resT := by rw [ByteArray.toList_eq]; rfl
theorem resS_size : resS.size = W.resT.length := by rw [← list_size, resS_list]
theorem resT_len : W.resT.length ≤ 1000 := by decide +kernel
theorem alnB_of {c : UInt8} : W.alnB c = true ↔ (97 ≤ c.toNat ∧ c.toNat ≤ 122) ∨ (48 ≤ c.toNat ∧ c.toNat ≤ 57) := by simp [W.alnB, W.letB, W.digB]
end Go.Proofs.YtjnfodbniohkhaaGreat
