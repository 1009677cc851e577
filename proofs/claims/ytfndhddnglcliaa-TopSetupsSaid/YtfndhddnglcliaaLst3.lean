/-
  The smallest number of changes, plain: windows that are found one after another prove it for one station.
-/
import Derived.Test.YtfndhddnglcliaaLst2
set_option linter.unusedVariables false
set_option linter.unusedSimpArgs false
namespace Go.Proofs.Ytfndhddnglcliaa
set_option linter.unusedVariables false
set_option linter.unusedSimpArgs false
namespace LS

/-- so far: the steps below t are seen, the last window ends at f, c windows are found -/
structure Found (ss : List Nat) (f t c : Nat) : Prop where
  le : f ≤ t
  ex : ∃ p, p < 9 ∧ ∀ j n, f ≤ j → j < t → ss[j]? = some n → mt (2 ^ p) n = true
  up : ∀ p, p < 9 → (∀ j n, f ≤ j → j < t → ss[j]? = some n → mt (2 ^ p) n = true) → outl 1 ss 0 ≤ c + 1 + outl 1 (ss.drop t) (2 ^ p)
theorem cd_pow (p : Nat) : cd (2 ^ p) ≤ 1 := by
  have := cd_wi 0 p
  rw [Nat.zero_or] at this
  simpa [show cd 0 = 0 from rfl] using this
theorem df_pow (a p : Nat) : df a (2 ^ p) ≤ 1 := by
  unfold df
  refine Nat.le_trans (countP_le_of (q := fun i => decide (p = i)) fun i _ h => ?_) (countP_one nd9 p)
  rw [Bool.and_eq_true, Nat.testBit_two_pow] at h
  exact h.1
theorem found_start {ss : List Nat} (hv : ∀ n ∈ ss, okN n) (hl : ss.length ≤ 24) : Found ss 0 0 0 := by
  refine ⟨Nat.le_refl _, ⟨0, by decide, fun j n h1 h2 => absurd h2 (Nat.not_lt_zero j)⟩, fun p hp _ => ?_⟩
  have := lip (s := 1) (Nat.le_refl _) (m := 0) (m' := 2 ^ p) hv hl (by rw [show cd 0 = 0 from rfl]; omega) (cd_pow p)
  have := df_pow 0 p
  rw [List.drop_zero]
  omega
/-- one set of one pair -/
theorem one_set {m n : Nat} (hc : cd m ≤ 1) (h : mt m n = true) : ∃ p, p < 9 ∧ ∀ x, mt m x = true → mt (2 ^ p) x = true := by
  obtain ⟨p, hp, h1, _⟩ := mt_iff.1 h
  refine ⟨p, hp, fun x hx => ?_⟩
  obtain ⟨r, hr, r1, r2⟩ := mt_iff.1 hx
  have : r = p := by
    refine Classical.byContradiction fun hne => ?_
    have h2 : 2 ≤ cd m := by
      have c0 := cd_wo h1 hp
      have c1 := cd_wo (m := wo m p) (p := r) (by rw [wo_bit, r1, decide_eq_false (fun e => hne e.symm)]; rfl) hr
      omega
    omega
  subst this
  exact mt_iff.2 ⟨r, hr, by simp [Nat.testBit_two_pow], r2⟩
theorem not_blk {ss : List Nat} {s f t : Nat} (h : ¬ Blk ss s f t) : ∃ m, m < 512 ∧ cd m ≤ s ∧ Srv ss f t m := by
  refine Classical.byContradiction fun hc => h fun m hm hcm hs => hc ⟨m, hm, hcm, hs⟩
theorem found_on {ss : List Nat} {f t c : Nat} (ht : t < ss.length) (h : Found ss f t c) (hb : ¬ Blk ss 1 f t) : Found ss f (t + 1) c := by
  obtain ⟨n, hn⟩ : ∃ n, ss[t]? = some n := ⟨_, List.getElem?_eq_getElem ht⟩
  obtain ⟨m, hm, hcm, hs⟩ := not_blk hb
  have hle := h.le
  obtain ⟨p, hp, hpx⟩ := one_set hcm (hs t n hle (Nat.le_refl _) hn)
  refine ⟨by omega, ⟨p, hp, fun j x h1 h2 hx => hpx x (hs j x h1 (by omega) hx)⟩, fun p hp hpa => ?_⟩
  have h1 := h.up p hp (fun j x h1 h2 hx => hpa j x h1 (by omega) hx)
  rw [drop_cons hn, outl_yes (hpa t n hle (by omega) hn)] at h1
  exact h1
theorem found_win {ss : List Nat} {f t c : Nat} (hv : ∀ n ∈ ss, okN n) (hl : ss.length ≤ 24) (ht : t < ss.length) (h : Found ss f t c) : Found ss t (t + 1) (c + 1) := by
  obtain ⟨n, hn⟩ : ∃ n, ss[t]? = some n := ⟨_, List.getElem?_eq_getElem ht⟩
  obtain ⟨p1, hp1, hpn⟩ := hv n (List.mem_of_getElem? hn)
  have only : ∀ p, mt (2 ^ p) n = true → ∀ j x, t ≤ j → j < t + 1 → ss[j]? = some x → mt (2 ^ p) x = true := by
    intro p hpm j x h1 h2 hx
    obtain rfl : j = t := by omega
    rw [hn] at hx
    obtain rfl := Option.some.inj hx
    exact hpm
  refine ⟨by omega, ⟨p1, hp1, only p1 (mt_iff.2 ⟨p1, hp1, by simp [Nat.testBit_two_pow], hpn⟩)⟩, fun p hp hpa => ?_⟩
  obtain ⟨p0, hp0, hs0⟩ := h.ex
  have h1 := h.up p0 hp0 hs0
  have hdv : ∀ x ∈ ss.drop t, okN x := fun x hx => hv x (List.mem_of_mem_drop hx)
  have hdl : (ss.drop t).length ≤ 24 := by rw [List.length_drop]; omega
  have h2 := lip (s := 1) (Nat.le_refl _) (m := 2 ^ p0) (m' := 2 ^ p) hdv hdl (cd_pow p0) (cd_pow p)
  have h3 := df_pow (2 ^ p0) p
  rw [drop_cons hn, outl_yes (hpa t n (Nat.le_refl _) (by omega) hn)] at h2
  rw [drop_cons hn] at h1
  omega
theorem found_end {ss : List Nat} {f c : Nat} (h : Found ss f ss.length c) : outl 1 ss 0 ≤ c + 1 := by
  obtain ⟨p, hp, hs⟩ := h.ex
  have := h.up p hp hs
  rw [List.drop_length] at this
  simpa [outl] using this
end LS
end Go.Proofs.Ytfndhddnglcliaa
