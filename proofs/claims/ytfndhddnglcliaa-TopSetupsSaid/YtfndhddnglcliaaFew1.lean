/-
  The document's way to the smallest number of changes, plain: for each set the fewest changes with which it is mounted; it is the same number. No program.
-/
import Derived.Test.YtfndhddnglcliaaLst2
namespace Go.Proofs.Ytfndhddnglcliaa
set_option linter.unusedVariables false
set_option linter.unusedSimpArgs false
namespace LS

/-- the fewest changes to m from one of the first k sets -/
def fwN (c : Nat → Nat) (m : Nat) : Nat → Nat
  | 0 => 1000
  | k + 1 => if c k < 1000 ∧ c k + df k m < fwN c m k then c k + df k m else fwN c m k
def fwS (s : Nat) (c : Nat → Nat) (n m : Nat) : Nat := if s < cd m ∨ mt m n = false then 1000 else fwN c m 512
def fw0 (m : Nat) : Nat := if m = 0 then 0 else 1000
def fwC (s : Nat) (ns : List Nat) : Nat → Nat := ns.foldl (fwS s) fw0
def fwM (c : Nat → Nat) : Nat → Nat
  | 0 => 1000
  | k + 1 => if c k < fwM c k then c k else fwM c k
theorem fwN_le {c : Nat → Nat} {m o : Nat} : ∀ {k : Nat}, o < k → c o < 1000 → fwN c m k ≤ c o + df o m
  | 0, h, _ => absurd h (Nat.not_lt_zero _)
  | k + 1, h, h1 => by
    unfold fwN
    rcases Nat.lt_succ_iff_lt_or_eq.1 h with h | rfl
    · have := fwN_le (m := m) h h1
      split <;> omega
    · split
      · exact Nat.le_refl _
      · rename_i q
        have : ¬ c o + df o m < fwN c m o := fun x => q ⟨h1, x⟩
        omega
theorem fwN_top (c : Nat → Nat) (m : Nat) : ∀ k, fwN c m k ≤ 1000
  | 0 => Nat.le_refl _
  | k + 1 => by
    unfold fwN
    have := fwN_top c m k
    split <;> omega
theorem fwN_ex {c : Nat → Nat} {m : Nat} : ∀ {k : Nat}, fwN c m k < 1000 → ∃ o, o < k ∧ c o < 1000 ∧ fwN c m k = c o + df o m
  | 0, h => absurd h (Nat.lt_irrefl 1000)
  | k + 1, h => by
    unfold fwN at h ⊢
    split
    · rename_i q
      exact ⟨k, Nat.lt_succ_self _, q.1, rfl⟩
    · rename_i q
      rw [if_neg q] at h
      obtain ⟨o, h1, h2, h3⟩ := fwN_ex h
      exact ⟨o, by omega, h2, h3⟩
theorem fwM_le {c : Nat → Nat} {o : Nat} : ∀ {k : Nat}, o < k → fwM c k ≤ c o
  | 0, h => absurd h (Nat.not_lt_zero _)
  | k + 1, h => by
    unfold fwM
    rcases Nat.lt_succ_iff_lt_or_eq.1 h with h | rfl
    · have := fwM_le (c := c) h
      split <;> omega
    · split <;> omega
theorem fwM_ex {c : Nat → Nat} : ∀ {k : Nat}, fwM c k < 1000 → ∃ o, o < k ∧ fwM c k = c o
  | 0, h => absurd h (Nat.lt_irrefl 1000)
  | k + 1, h => by
    unfold fwM at h ⊢
    split
    · exact ⟨k, Nat.lt_succ_self _, rfl⟩
    · rename_i q
      rw [if_neg q] at h
      obtain ⟨o, h1, h3⟩ := fwM_ex h
      exact ⟨o, by omega, h3⟩
theorem fwS_top {s : Nat} {c : Nat → Nat} {n m : Nat} : fwS s c n m ≤ 1000 := by
  unfold fwS
  split
  · exact Nat.le_refl _
  · exact fwN_top _ _ _
theorem fwC_top {s : Nat} : ∀ (ns : List Nat) {c : Nat → Nat}, (∀ m, c m ≤ 1000) → ∀ m, ns.foldl (fwS s) c m ≤ 1000
  | [], c, h, m => h m
  | n :: ns, c, h, m => by
    rw [List.foldl_cons]
    exact fwC_top ns (fun m => fwS_top) m
/-- nothing is too small -/
theorem fw_lo {s T : Nat} (hs : 1 ≤ s) : ∀ {ns : List Nat} {c : Nat → Nat}, (∀ n ∈ ns, okN n) → ns.length ≤ 24 → (∀ m, c m < 1000 → cd m ≤ s ∧ T ≤ c m + outl s ns m) → ∀ m, ns.foldl (fwS s) c m < 1000 → T ≤ ns.foldl (fwS s) c m
  | [], c, _, _, h, m, hm => by
    have := (h m hm).2
    simpa [outl] using this
  | n :: ns, c, hv, hl, h, m, hm => by
    rw [List.foldl_cons] at hm ⊢
    refine fw_lo hs (fun x hx => hv x (List.mem_cons_of_mem n hx)) (by simp at hl; omega) (fun m hm => ?_) m hm
    unfold fwS at hm ⊢
    by_cases q : s < cd m ∨ mt m n = false
    · rw [if_pos q] at hm
      omega
    · rw [if_neg q] at hm ⊢
      have hcd : cd m ≤ s := by
        refine Nat.not_lt.1 fun x => q (.inl x)
      have hmt : mt m n = true := by
        cases e : mt m n with
        | true => rfl
        | false => exact absurd (.inr e) q
      obtain ⟨o, _, h2, h3⟩ := fwN_ex hm
      obtain ⟨h4, h5⟩ := h o h2
      have h6 := lip (m := o) (m' := m) hs hv hl h4 hcd
      rw [outl_yes hmt] at h6
      exact ⟨hcd, by omega⟩
theorem kept_512 {s m k : Nat} (hm : m < 512) (hk : k ∈ kept s m) : k < 512 := by
  rcases kept_mem.1 hk with ⟨_, rfl⟩ | ⟨_, q, h1, _, rfl⟩
  · exact hm
  · unfold wo
    exact Nat.xor_lt_two_pow (n := 9) hm (Nat.and_lt_two_pow (n := 9) _ (Nat.pow_lt_pow_right (by decide) h1))
theorem df_wi {s m k p : Nat} (hm : cd m ≤ s) (hk : k ∈ kept s m) : df m (k ||| 2 ^ p) ≤ 1 := by
  unfold df
  refine Nat.le_trans (countP_le_of (q := fun i => decide (p = i)) fun i _ h => ?_) (countP_one nd9 _)
  rw [Bool.and_eq_true, wi_bit, Bool.or_eq_true, Bool.not_eq_true'] at h
  rcases h.1 with h1 | h1
  · rw [kept_sub hk i h1] at h
    exact absurd h.2 (by simp)
  · exact h1
/-- something is small enough -/
theorem fw_up {s T : Nat} (hs : 1 ≤ s) (hT : T < 1000) : ∀ {ns : List Nat} {c : Nat → Nat}, (∀ n ∈ ns, okN n) → ns.length ≤ 24 → (∃ m, m < 512 ∧ cd m ≤ s ∧ c m + outl s ns m ≤ T) → ∃ m, m < 512 ∧ ns.foldl (fwS s) c m ≤ T
  | [], c, _, _, ⟨m, h1, _, h3⟩ => ⟨m, h1, by simpa [outl] using h3⟩
  | n :: ns, c, hv, hl, ⟨m, h1, h2, h3⟩ => by
    have hl' : ns.length ≤ 24 := by simp at hl; omega
    rw [List.foldl_cons]
    refine fw_up hs hT (fun x hx => hv x (List.mem_cons_of_mem n hx)) hl' ?_
    have go : ∀ m', m' < 512 → cd m' ≤ s → mt m' n = true → c m + df m m' + outl s ns m' ≤ T → ∃ m, m < 512 ∧ cd m ≤ s ∧ fwS s c n m + outl s ns m ≤ T := by
      intro m' k1 k2 k3 k4
      refine ⟨m', k1, k2, ?_⟩
      have k5 := fwN_le (c := c) (m := m') h1 (by omega)
      unfold fwS
      rw [if_neg (by rw [k3]; simp; omega)]
      omega
    cases h : mt m n with
    | true =>
      rw [outl_yes h] at h3
      exact go m h1 h2 h (by rw [df_self]; omega)
    | false =>
      obtain ⟨k, hk, p, hp1, hp2, e⟩ := outl_ex (ns := ns) hs h hv hl'
      rw [e] at h3
      have := df_wi (p := p) h2 hk
      refine go (k ||| 2 ^ p) (Nat.or_lt_two_pow (n := 9) (kept_512 h1 hk) (Nat.pow_lt_pow_right (by decide) hp1)) (kept_cd h2 hk) (mt_iff.2 ⟨p, hp1, ?_, hp2⟩) (by omega)
      rw [wi_bit]
      simp
theorem few_eq {s : Nat} (hs : 1 ≤ s) {ns : List Nat} (hv : ∀ n ∈ ns, okN n) (hl : ns.length ≤ 24) : fwM (fwC s ns) 512 = outl s ns 0 := by
  have hT := outl_le (m := 0) hs hv
  have hcd : cd 0 ≤ s := by
    have : cd 0 = 0 := by decide
    omega
  obtain ⟨m, h1, h2⟩ := fw_up (T := outl s ns 0) (c := fw0) hs (by omega) hv hl ⟨0, by decide, hcd, by simp [fw0]⟩
  have h3 := fwM_le (c := fwC s ns) h1
  have h4 : fwM (fwC s ns) 512 ≤ outl s ns 0 := Nat.le_trans h3 h2
  obtain ⟨o, _, h6⟩ := fwM_ex (c := fwC s ns) (k := 512) (by omega)
  have h7 := fw_lo (T := outl s ns 0) (c := fw0) hs hv hl (fun m hm => by
    unfold fw0 at hm ⊢
    by_cases e : m = 0
    · subst e
      exact ⟨hcd, by simp⟩
    · rw [if_neg e] at hm
      omega) o (show fwC s ns o < 1000 by omega)
  have h8 : outl s ns 0 ≤ fwC s ns o := h7
  omega
end LS
end Go.Proofs.Ytfndhddnglcliaa
