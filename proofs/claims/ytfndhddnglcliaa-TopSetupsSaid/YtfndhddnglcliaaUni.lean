/-
  The union of sets.
-/
import Derived.Test.YtfndhddnglcliaaSb7
import Derived.Test.YtfndhddnglcliaaJob2
set_option linter.unusedVariables false
set_option linter.unusedSimpArgs false
namespace Go.Proofs.Ytfndhddnglcliaa
set_option linter.unusedVariables false
set_option linter.unusedSimpArgs false
open Go Go.ChangeShapes Go.WideShapes Go.ChangeAt Go.RowKit Go.Deep

/-- all sets of a list -/
def orL (l : List Nat) : Nat := l.foldl (· ||| ·) 0
theorem orL_at {l : List Nat} {k x : Nat} (h : l[k]? = some x) : orL (l.take (k + 1)) = orL (l.take k) ||| x := by
  unfold orL
  rw [take_at h, List.foldl_append]
  rfl
theorem orL_lt {l : List Nat} (h : ∀ n ∈ l, n < 512) : ∀ k, orL (l.take k) < 512
  | 0 => by simp [orL]
  | k + 1 => by
    by_cases hk : k < l.length
    · obtain ⟨x, hx⟩ : ∃ x, l[k]? = some x := ⟨_, List.getElem?_eq_getElem hk⟩
      rw [orL_at hx]
      exact Nat.or_lt_two_pow (n := 9) (orL_lt h k) (h x (List.mem_of_getElem? hx))
    · have := orL_lt h k
      rw [List.take_of_length_le (by omega)] at this ⊢
      exact this
set_option maxHeartbeats 1000000 in
theorem union_any (A : Option Addr) (c : Nat) (l : List Nat) (w : World) (hl : SlU w A c l) (hlt : ∀ n ∈ l, n < 512) :
    Calls Try.prog 14 #[.slice A l.length c] w fun e w' => e = .returned (uv (orL l)) ∧ w = w' := by
  have n1 := hl.cap
  have n2 := hl.capB
  have HL := hide hl
  have HT := hide hlt
  clear hl hlt
  go_enter Try.func14, Try.ntmps14
  go_wp2
  go_loop [3, 8] (fun a i => ∃ k : Nat, k ≤ l.length ∧ i = iv k ∧ a = uv (orL (l.take k))) (fun _ i => l.length - (intOf i).toNat)
  case atStart => exact ⟨0, by omega, rfl, rfl⟩
  case round =>
    obtain ⟨k, hk, rfl, rfl⟩ := hrel
    by_cases hkl : k < l.length
    · obtain ⟨x, hx⟩ : ∃ z, l[k]? = some z := ⟨_, List.getElem?_eq_getElem hkl⟩
      obtain ⟨b, o, rfl, x0⟩ := HL.out.rd.uv_ hx
      have HA := hide (orL_at hx)
      have h1 := orL_lt HT.out k
      have h2 := HT.out x (List.mem_of_getElem? hx)
      have W1 := u_or (m := orL (l.take k)) (n := x) (by omega) (by omega)
      have hk0 : (0 : Int) ≤ (k : Int) := by omega
      have hk1 : (k : Int) < (l.length : Int) := by omega
      clear hx
      generalize orL (l.take k) = M at *
      go_wp2
      go_round
      case rel => exact ⟨k + 1, by omega, by go_num, by rw [HA.out]⟩
      case measure => simp only [intOf]; omega
    · obtain rfl : k = l.length := by omega
      rw [List.take_length]
      go_wp2
      go_ret
      exact ⟨rfl, rfl⟩
end Go.Proofs.Ytfndhddnglcliaa
