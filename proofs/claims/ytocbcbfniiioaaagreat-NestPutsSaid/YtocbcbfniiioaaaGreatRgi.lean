/-
  Regions: a number put into an ascending list, of the reference; two lists of rectangles one after the other.
-/
import Derived.Test.YtocbcbfniiioaaaGreatRgv
set_option linter.unusedVariables false
set_option linter.unusedSimpArgs false
namespace Go.Proofs.YtocbcbfniiioaaaGreat
set_option linter.unusedVariables false
set_option linter.unusedSimpArgs false
open Go Go.ChangeShapes Go.WideShapes Go.ChangeAt Go.RowKit Go.Deep

namespace RG
theorem elInt : ElT Tryz.prog 80 3 1 8 := elT_of (.int .i64 0) Tryz.underlying80 (by kernel_rfl) rfl
theorem elRect : ElT Tryz.prog 22 78 4 32 := elT_of (.agg #[iv 0, iv 0, iv 0, iv 0]) (by kernel_rfl) (by kernel_rfl) (by kernel_rfl)
theorem own_slr {w : World} {base : Nat} {e : TypeId} {A : Option Addr} {n d : Nat} {xs : List Rc} (h : OwnL w base e 4 rcL (.slice A n d) xs) : SlR w A d xs := by
  obtain ⟨_, h1, h2, h3⟩ := OwnL.rd (c := rcL) (fun _ => rfl) h
  exact ⟨h1, h2, by unfold maxLen at h3; omega⟩
theorem own_ge {α : Type} {c : α → List Value} {w : World} {base : Nat} {e : TypeId} {k n d : Nat} {A : Option Addr} {xs : List α} (h : OwnL w base e k c (.slice A n d) xs) : ∀ x, A = some x → base ≤ x.block := by
  intro x hx
  subst hx
  obtain ⟨h0, h1 | ⟨b, cap, cur, h1, hb, h2⟩⟩ := id h
  · cases h1.1
  · injection h1 with e1 e2 e3
    injection e1 with e1
    subst e1
    exact hb
theorem ins_app {m : List Int} {n : Int} : ∀ {l : List Int}, (∃ x ∈ l, n ≤ x) → ins (l ++ m) n = ins l n ++ m
  | [], h => by obtain ⟨x, hx, _⟩ := h; simp at hx
  | y :: l, h => by
    show ins (y :: (l ++ m)) n = ins (y :: l) n ++ m
    unfold ins
    by_cases h1 : y = n
    · rw [if_pos h1, if_pos h1]; rfl
    · by_cases h2 : n < y
      · rw [if_neg h1, if_neg h1, if_pos h2, if_pos h2]; rfl
      · rw [if_neg h1, if_neg h1, if_neg h2, if_neg h2, ins_app]
        · rfl
        · obtain ⟨x, hx, hn⟩ := h
          rcases List.mem_cons.1 hx with rfl | hx
          · omega
          · exact ⟨x, hx, hn⟩
theorem ins_end {n : Int} : ∀ {l : List Int}, (∀ x ∈ l, x < n) → ins l n = l ++ [n]
  | [], _ => rfl
  | y :: l, h => by
    have := h y (by simp)
    unfold ins
    rw [if_neg (by omega), if_neg (by omega), ins_end fun x hx => h x (by simp [hx])]
    rfl
theorem ins_end2 {n z : Int} : ∀ {l : List Int}, (∀ x ∈ l, x < n) → n < z → ins (l ++ [z]) n = l ++ [n] ++ [z]
  | [], _, hz => by
    show ins [z] n = [n, z]
    unfold ins
    rw [if_neg (by omega), if_pos hz]
  | y :: l, h, hz => by
    have := h y (by simp)
    show ins (y :: (l ++ [z])) n = _
    unfold ins
    rw [if_neg (by omega), if_neg (by omega), ins_end2 (fun x hx => h x (by simp [hx])) hz]
    rfl
/-- what the document's insert has put down behind k elements -/
def InS (l : List Int) (n : Int) (k : Nat) (dn : Bool) (O : List Int) : Prop := (dn = true → O = ins (l.take k) n ∧ ∃ x ∈ l.take k, n ≤ x) ∧ (dn = false → O = l.take k ∧ ∀ x ∈ l.take k, x < n)
theorem inS_zero (l : List Int) (n : Int) : InS l n 0 false [] := ⟨nofun, fun _ => ⟨rfl, fun x hx => by simp at hx⟩⟩
theorem inS_dn {l : List Int} {n z : Int} {k : Nat} {O : List Int} (h : InS l n k true O) (hz : l[k]? = some z) : InS l n (k + 1) true (O ++ [z]) := by
  obtain ⟨h1, x, hx, hn⟩ := h.1 rfl
  refine ⟨fun _ => ?_, nofun⟩
  rw [take_at hz, ins_app ⟨x, hx, hn⟩, h1]
  exact ⟨rfl, x, by simp [hx], hn⟩
theorem inS_now {l : List Int} {n z : Int} {k : Nat} {O : List Int} (h : InS l n k false O) (hz : l[k]? = some z) (hn : n < z) : InS l n (k + 1) true (O ++ [n] ++ [z]) := by
  obtain ⟨h1, h2⟩ := h.2 rfl
  refine ⟨fun _ => ?_, nofun⟩
  rw [take_at hz, ins_end2 h2 hn, h1]
  exact ⟨rfl, z, by simp, by omega⟩
theorem inS_not {l : List Int} {n z : Int} {k : Nat} {O : List Int} (h : InS l n k false O) (hz : l[k]? = some z) (hn : z < n) : InS l n (k + 1) false (O ++ [z]) := by
  obtain ⟨h1, h2⟩ := h.2 rfl
  refine ⟨nofun, fun _ => ?_⟩
  rw [take_at hz, h1]
  refine ⟨rfl, fun x hx => ?_⟩
  rcases List.mem_append.1 hx with hx | hx
  · exact h2 x hx
  · rw [List.mem_singleton] at hx
    omega
theorem inS_len {l : List Int} {n : Int} {k : Nat} {dn : Bool} {O : List Int} (h : InS l n k dn O) (hk : k ≤ l.length) : O.length ≤ l.length + 1 := by
  cases dn with
  | true =>
    rw [(h.1 rfl).1]
    have := len_ins (l.take k) n
    rw [List.length_take] at this
    omega
  | false =>
    rw [(h.2 rfl).1, List.length_take]
    omega
theorem inS_yes {l : List Int} {n : Int} {O : List Int} (h : InS l n l.length true O) : O = ins l n := by
  have := (h.1 rfl).1
  rwa [List.take_length] at this
theorem inS_no {l : List Int} {n : Int} {O : List Int} (h : InS l n l.length false O) : O ++ [n] = ins l n := by
  obtain ⟨h1, h2⟩ := h.2 rfl
  rw [List.take_length] at h1 h2
  rw [ins_end h2, h1]
/-- one list behind the other -/
def BoS (a b : List Rc) (k : Nat) : List Rc := a ++ b.take k
end RG
end Go.Proofs.YtocbcbfniiioaaaGreat
