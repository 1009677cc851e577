/-
  Permutations, on both sides.
-/
import Derived.Test.YtfndhddnglcliaaJob1
import Derived.Test.YtfndhddnglcliaaRep
set_option linter.unusedVariables false
set_option linter.unusedSimpArgs false
namespace Go.Proofs.Ytfndhddnglcliaa
set_option linter.unusedVariables false
set_option linter.unusedSimpArgs false
open Go Go.ChangeShapes Go.WideShapes Go.ChangeAt Go.RowKit Go.Deep

/-- each number below n is in the list -/
def cov (l : List Int) (n : Nat) : Prop := ∀ i : Nat, i < n → (i : Int) ∈ l
/-- the numbers are from 0 to n - 1, each at most once, of the first k -/
def dst (l : List Int) (n k : Nat) : Prop := ∀ i z, i < k → l[i]? = some z → (0 ≤ z ∧ z < n) ∧ ∀ j, j < i → ¬ l[j]? = some z
theorem cov_dst {l : List Int} {n : Nat} (hl : l.length = n) (hn : n ≤ 4) : cov l n ↔ dst l n n := by
  subst hl
  match l, hn with
  | [], _ => exact ⟨fun _ i z hi => absurd hi (Nat.not_lt_zero i), fun _ i hi => absurd hi (Nat.not_lt_zero i)⟩
  | [a], _ =>
    constructor
    · intro h i z hi hz
      have h0 := h 0 (by simp)
      simp at h0
      have : i = 0 := by simp at hi; omega
      subst this
      simp at hz
      exact ⟨by simp; omega, fun j hj => absurd hj (Nat.not_lt_zero j)⟩
    · intro h i hi
      have h0 := h 0 a (by simp) rfl
      have : i = 0 := by simp at hi; omega
      subst this
      simp at h0 ⊢
      omega
  | [a, b], _ =>
    constructor
    · intro h
      have h0 := h 0 (by simp)
      have h1 := h 1 (by simp)
      simp only [List.mem_cons, List.not_mem_nil, or_false] at h0 h1
      have e : (0 ≤ a ∧ a < 2) ∧ (0 ≤ b ∧ b < 2) ∧ ¬ a = b := by omega
      intro i z hi hz
      simp only [List.length_cons, List.length_nil] at hi ⊢
      rcases (by omega : i = 0 ∨ i = 1) with rfl | rfl
      · simp at hz
        exact ⟨by omega, fun j hj => absurd hj (Nat.not_lt_zero j)⟩
      · simp at hz
        refine ⟨by omega, fun j hj => ?_⟩
        obtain rfl : j = 0 := by omega
        simp
        omega
    · intro h i hi
      have h0 := h 0 a (by simp) rfl
      have h1 := h 1 b (by simp) rfl
      have h2 := h1.2 0 (by omega)
      simp only [List.getElem?_cons_zero, Option.some.injEq, List.length_cons, List.length_nil] at h0 h1 h2
      simp only [List.length_cons, List.length_nil] at hi
      simp only [List.mem_cons, List.not_mem_nil, or_false]
      omega
  | [a, b, c], _ =>
    constructor
    · intro h
      have h0 := h 0 (by simp)
      have h1 := h 1 (by simp)
      have h2 := h 2 (by simp)
      simp only [List.mem_cons, List.not_mem_nil, or_false] at h0 h1 h2
      have e : (0 ≤ a ∧ a < 3) ∧ (0 ≤ b ∧ b < 3) ∧ (0 ≤ c ∧ c < 3) ∧ ¬ a = b ∧ ¬ a = c ∧ ¬ b = c := by omega
      intro i z hi hz
      simp only [List.length_cons, List.length_nil] at hi ⊢
      rcases (by omega : i = 0 ∨ i = 1 ∨ i = 2) with rfl | rfl | rfl
      · simp at hz
        exact ⟨by omega, fun j hj => absurd hj (Nat.not_lt_zero j)⟩
      · simp at hz
        refine ⟨by omega, fun j hj => ?_⟩
        obtain rfl : j = 0 := by omega
        simp
        omega
      · simp at hz
        refine ⟨by omega, fun j hj => ?_⟩
        rcases (by omega : j = 0 ∨ j = 1) with rfl | rfl <;> simp <;> omega
    · intro h i hi
      have h0 := h 0 a (by simp) rfl
      have h1 := h 1 b (by simp) rfl
      have h2 := h 2 c (by simp) rfl
      have k1 := h1.2 0 (by omega)
      have k2 := h2.2 0 (by omega)
      have k3 := h2.2 1 (by omega)
      simp only [List.getElem?_cons_zero, List.getElem?_cons_succ, Option.some.injEq, List.length_cons, List.length_nil] at h0 h1 h2 k1 k2 k3
      simp only [List.length_cons, List.length_nil] at hi
      simp only [List.mem_cons, List.not_mem_nil, or_false]
      omega
  | [a, b, c, d], _ =>
    constructor
    · intro h
      have h0 := h 0 (by simp)
      have h1 := h 1 (by simp)
      have h2 := h 2 (by simp)
      have h3 := h 3 (by simp)
      simp only [List.mem_cons, List.not_mem_nil, or_false] at h0 h1 h2 h3
      have e : (0 ≤ a ∧ a < 4) ∧ (0 ≤ b ∧ b < 4) ∧ (0 ≤ c ∧ c < 4) ∧ (0 ≤ d ∧ d < 4) ∧ ¬ a = b ∧ ¬ a = c ∧ ¬ a = d ∧ ¬ b = c ∧ ¬ b = d ∧ ¬ c = d := by omega
      intro i z hi hz
      simp only [List.length_cons, List.length_nil] at hi ⊢
      rcases (by omega : i = 0 ∨ i = 1 ∨ i = 2 ∨ i = 3) with rfl | rfl | rfl | rfl
      · simp at hz
        exact ⟨by omega, fun j hj => absurd hj (Nat.not_lt_zero j)⟩
      · simp at hz
        refine ⟨by omega, fun j hj => ?_⟩
        obtain rfl : j = 0 := by omega
        simp
        omega
      · simp at hz
        refine ⟨by omega, fun j hj => ?_⟩
        rcases (by omega : j = 0 ∨ j = 1) with rfl | rfl <;> simp <;> omega
      · simp at hz
        refine ⟨by omega, fun j hj => ?_⟩
        rcases (by omega : j = 0 ∨ j = 1 ∨ j = 2) with rfl | rfl | rfl <;> simp <;> omega
    · intro h i hi
      have h0 := h 0 a (by simp) rfl
      have h1 := h 1 b (by simp) rfl
      have h2 := h 2 c (by simp) rfl
      have h3 := h 3 d (by simp) rfl
      have k1 := h1.2 0 (by omega)
      have k2 := h2.2 0 (by omega)
      have k3 := h2.2 1 (by omega)
      have k4 := h3.2 0 (by omega)
      have k5 := h3.2 1 (by omega)
      have k6 := h3.2 2 (by omega)
      simp only [List.getElem?_cons_zero, List.getElem?_cons_succ, Option.some.injEq, List.length_cons, List.length_nil] at h0 h1 h2 h3 k1 k2 k3 k4 k5 k6
      simp only [List.length_cons, List.length_nil] at hi
      simp only [List.mem_cons, List.not_mem_nil, or_false]
      omega
def pmB (l : List Int) (n : Nat) : Bool := decide (l.length = n) && (List.range n).all fun i => decide ((i : Int) ∈ l)
theorem pmB_iff {l : List Int} {n : Nat} : pmB l n = true ↔ l.length = n ∧ cov l n := by
  unfold pmB cov
  simp [List.all_eq_true]
theorem pmB_len {l : List Int} {n : Nat} (h : ¬ l.length = n) : pmB l n = false := by
  rw [← Bool.not_eq_true, pmB_iff]
  exact fun k => h k.1
set_option maxHeartbeats 1000000 in
theorem isPermutation_any (A : Option Addr) (c : Nat) (l : List Int) (n : Nat) (w : World) (hl : SlI w A c l) (hn : n ≤ 4) :
    Calls Try.prog 40 #[.slice A l.length c, iv n] w fun e w' => e = .returned (.bool (pmB l n)) ∧ w = w' := by
  have n1 := hl.cap
  have n2 := hl.capB
  have HC := hide (fun z => contains_any A c l z w hl)
  clear hl
  by_cases hln : l.length = n
  · have hq : ((l.length : Int) != (n : Int)) = false := by rw [hln]; simp
    have HLN := hide hln
    clear hln
    go_enter Try.func40, Try.ntmps40
    go_wp2
    go_loop [11] (fun i => ∃ k : Nat, k ≤ n ∧ i = iv k ∧ Hid (∀ i : Nat, i < k → (i : Int) ∈ l)) (fun i => n - (intOf i).toNat)
    case atStart => exact ⟨0, by omega, rfl, hide (fun i hi => absurd hi (Nat.not_lt_zero i))⟩
    case round =>
      obtain ⟨k, hk, rfl, HS⟩ := hrel
      by_cases hkn : k < n
      · have HCK := hide (HC.out (k : Int))
        by_cases hm : (k : Int) ∈ l
        · have HN := hide (below (P := fun i : Nat => (i : Int) ∈ l) HS.out hm)
          rw [decide_eq_true hm] at HCK
          clear hm
          go_wp2_with (first | (go_at_call 22; refine (HCK.out).mono ?_; rintro e w1 ⟨rfl, rfl⟩))
          go_round
          case rel => exact ⟨k + 1, by omega, by go_num, HN⟩
          case measure => simp only [intOf]; omega
        · have HN := hide (show pmB l n = false by rw [← Bool.not_eq_true, pmB_iff]; exact fun q => hm (q.2 k hkn))
          rw [decide_eq_false hm] at HCK
          clear hm
          go_wp2_with (first | (go_at_call 22; refine (HCK.out).mono ?_; rintro e w1 ⟨rfl, rfl⟩))
          go_ret
          exact ⟨ret_bool HN.out.symm, rfl⟩
      · obtain rfl : k = n := by omega
        have HN := hide (show pmB l k = true from pmB_iff.2 ⟨HLN.out, HS.out⟩)
        go_wp2
        go_ret
        exact ⟨ret_bool HN.out.symm, rfl⟩
  · have HN := hide (pmB_len hln)
    have hq : ((l.length : Int) != (n : Int)) = true := by rw [bne_iff_ne]; omega
    clear hln
    go_enter Try.func40, Try.ntmps40
    go_wp2
    go_ret
    exact ⟨ret_bool HN.out.symm, rfl⟩
theorem info_bool : ∃ i, Try.prog.info? 4 = some i ∧ i.zero = some (.bool false) ∧ i.size = 1 ∧ i.bytes = 1 := by
  have hi : (Try.prog.info? 4).map (fun i => (i.zero, i.size, i.bytes)) = some (some (.bool false), 1, 1) := by kernel_rfl
  cases e1 : Try.prog.info? 4 with
  | none => rw [e1] at hi; cases hi
  | some i =>
    rw [e1] at hi
    simp only [Option.map_some, Option.some.injEq, Prod.mk.injEq] at hi
    exact ⟨i, rfl, hi.1, hi.2.1, hi.2.2⟩
def seF (l : List Int) (k : Nat) (j : Nat) : Value := .bool (decide ((j : Int) ∈ l.take k))
theorem blk_congr {w : World} {B n : Nat} {f g : Nat → Value} (h : Blk w B f n) (e : ∀ i, i < n → f i = g i) : Blk w B g n :=
  ⟨h.1, fun j hj => ⟨by rw [(h.2 j hj).1, e j hj], (h.2 j hj).2⟩⟩
theorem row_blk' {w : World} {B n : Nat} {e : TypeId} {xs : List Value} (h : w.heap[B]? = some (.cells xs.toArray e (0, 0))) (f : Nat → Value) (hx : ∀ j, j < n → xs[j]? = some (f j)) : Blk w B f n := by
  refine ⟨(Array.getElem?_eq_some_iff.1 h).1, fun j hj => ⟨?_, ?_⟩⟩
  · rw [row_cells h, hx j hj]
  · simp [World.frozen?, h]
theorem se_set {w : World} {B n k j : Nat} {l : List Int} (h : Blk w B (seF l k) n) (hj : l[k]? = some (j : Int)) (hjn : j < n) : Blk (w.setCell ⟨B, j, none⟩ (.bool true)) B (seF l (k + 1)) n :=
  blk_congr (Blk.set h (.bool true) rfl hjn) fun i hi => by
    unfold seF
    rw [take_at hj]
    by_cases e : i = j
    · rw [if_pos e, e, decide_eq_true (List.mem_append_right _ (List.mem_singleton.2 rfl))]
    · rw [if_neg e]
      congr 1
      rw [Bool.eq_iff_iff]
      simp only [decide_eq_true_eq, List.mem_append, List.mem_singleton]
      constructor
      · exact .inl
      · rintro (q | q)
        · exact q
        · omega
end Go.Proofs.Ytfndhddnglcliaa
