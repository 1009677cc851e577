/-
  No list of changes that serves is shorter than the smallest number.
-/
import Derived.Test.YtfndhddnglcliaaSb19
import Derived.Test.YtfndhddnglcliaaSb24
set_option linter.unusedVariables false
set_option linter.unusedSimpArgs false
namespace Go.Proofs.Ytfndhddnglcliaa
set_option linter.unusedVariables false
set_option linter.unusedSimpArgs false
open Go Go.ChangeShapes Go.WideShapes Go.ChangeAt Go.RowKit Go.Deep

/-- pairs, or none -/
def rngQ (L : List Int) : Prop := ∀ p ∈ L, -1 ≤ p ∧ p ≤ 8
def posQ (L : List Int) : List Int := L.filter fun p => decide (0 ≤ p)
theorem posQ_in {L : List Int} (h : rngQ L) : inR (posQ L) := by
  intro z hz
  unfold posQ at hz
  obtain ⟨h1, h2⟩ := List.mem_filter.1 hz
  have := h z h1
  rw [decide_eq_true_eq] at h2
  omega
/-- what is mounted behind the first k changes -/
def muL (q : Nat) (l : List Chg) (k : Nat) : List Int := (List.range q).map fun i : Nat => mu (l.take k) (i : Int)
def stS (q : Nat) (l : List Chg) (k : Nat) : Nat := mk (posQ (muL q l k))
theorem mu_rng {n : Nat} {s i : Int} : ∀ {l : List Chg} {a : Int}, (∀ x ∈ l, okC n s x = true) → -1 ≤ a ∧ a ≤ 8 → -1 ≤ l.foldl (muF i) a ∧ l.foldl (muF i) a ≤ 8
  | [], a, _, h => h
  | x :: l, a, hx, h => by
    rw [List.foldl_cons]
    refine mu_rng (fun y hy => hx y (List.mem_cons_of_mem _ hy)) ?_
    have := hx x (List.mem_cons_self ..)
    unfold okC at this
    simp only [Bool.and_eq_true, wiB_iff] at this
    unfold muF
    split <;> omega
theorem ord_memQ {n : Nat} {s : Int} {l : List Chg} (h : Ord n s l l.length) : ∀ x ∈ l, okC n s x = true := by
  intro x hx
  obtain ⟨i, hi⟩ := List.mem_iff_getElem?.1 hx
  exact (h i x (List.getElem?_eq_some_iff.1 hi).1 hi).1
theorem muL_rng {n q : Nat} {s : Int} {l : List Chg} (h : Ord n s l l.length) (k : Nat) : rngQ (muL q l k) := by
  intro p hp
  unfold muL at hp
  obtain ⟨i, _, rfl⟩ := List.mem_map.1 hp
  exact mu_rng (fun x hx => ord_memQ h x (List.mem_of_mem_take hx)) (by omega)
theorem stS_bit {n q : Nat} {s : Int} {l : List Chg} (h : Ord n s l l.length) {k p : Nat} : (stS q l k).testBit p = true ↔ ∃ i : Nat, i < q ∧ mu (l.take k) (i : Int) = (p : Int) := by
  unfold stS
  rw [mk_bit (posQ_in (muL_rng h k))]
  unfold posQ muL
  rw [List.mem_filter]
  constructor
  · rintro ⟨h1, _⟩
    obtain ⟨i, hi, e⟩ := List.mem_map.1 h1
    exact ⟨i, List.mem_range.1 hi, e⟩
  · rintro ⟨i, hi, e⟩
    exact ⟨List.mem_map.2 ⟨i, List.mem_range.2 hi, e⟩, by rw [decide_eq_true_eq]; omega⟩
theorem stS_cd (q : Nat) (l : List Chg) (k : Nat) : LS.cd (stS q l k) ≤ q := by
  unfold stS
  have h1 := cd_mk (posQ (muL q l k))
  have h2 : (posQ (muL q l k)).length ≤ (muL q l k).length := List.length_filter_le _ _
  have h3 : (muL q l k).length = q := by simp [muL]
  omega
theorem stS_zero {n q : Nat} {s : Int} {l : List Chg} (h : Ord n s l l.length) : stS q l 0 = 0 := by
  refine Nat.eq_of_testBit_eq fun p => ?_
  rw [Nat.zero_testBit]
  cases e : (stS q l 0).testBit p with
  | false => rfl
  | true =>
    obtain ⟨i, _, h2⟩ := (stS_bit h).1 e
    rw [List.take_zero] at h2
    have : mu [] (i : Int) = -1 := rfl
    omega
theorem stS_step {n q : Nat} {s : Int} {l : List Chg} (h : Ord n s l l.length) {k : Nat} (hk : k < l.length) : LS.df (stS q l k) (stS q l (k + 1)) ≤ 1 := by
  obtain ⟨x, hx⟩ : ∃ x, l[k]? = some x := ⟨_, List.getElem?_eq_getElem hk⟩
  unfold LS.df
  refine Nat.le_trans (LS.countP_le_of (q := fun i => decide (x.pr.toNat = i)) fun p _ hp => ?_) (LS.countP_one LS.nd9 _)
  rw [Bool.and_eq_true, Bool.not_eq_true'] at hp
  obtain ⟨h1, h2⟩ := hp
  obtain ⟨i, hi, e⟩ := (stS_bit h).1 h1
  rw [mu_at hx] at e
  unfold muF at e
  split at e
  · rw [decide_eq_true_eq]
    omega
  · exfalso
    rw [(stS_bit h).2 ⟨i, hi, e⟩] at h2
    cases h2
theorem lip_changes {n q : Nat} {s : Int} {l : List Chg} (h : Ord n s l l.length) {ss : List Nat} (hv : ∀ x ∈ ss, LS.okN x) (hl : ss.length ≤ 24) (hq : 1 ≤ q) : ∀ (d k : Nat), k + d ≤ l.length → LS.outl q ss (stS q l k) ≤ d + LS.outl q ss (stS q l (k + d))
  | 0, k, _ => by simp
  | d + 1, k, hk => by
    have h1 := LS.lip (s := q) hq (m := stS q l k) (m' := stS q l (k + 1)) hv hl (stS_cd ..) (stS_cd ..)
    have h2 := stS_step (q := q) h (show k < l.length by omega)
    have h3 := lip_changes h hv hl hq d (k + 1) (by omega)
    rw [show k + 1 + d = k + (d + 1) by omega] at h3
    omega
/-- the first changes that stand at or ahead of a step -/
theorem cut_ex {n : Nat} {s : Int} {l : List Chg} (h : Ord n s l l.length) (t : Int) : ∃ k, k ≤ l.length ∧ Cut l k t := by
  refine ⟨l.findIdx fun x => decide (t < x.st), List.findIdx_le_length, ?_, ?_⟩
  · intro j x hj hx
    have := List.not_of_lt_findIdx hj
    obtain ⟨hl, e⟩ := List.getElem?_eq_some_iff.1 hx
    rw [e] at this
    simp at this
    omega
  · intro j x hj hx
    have hl := (List.getElem?_eq_some_iff.1 hx).1
    have hf : l.findIdx (fun x => decide (t < x.st)) < l.length := by omega
    have h1 := List.findIdx_getElem (w := hf)
    obtain ⟨y, hy⟩ : ∃ y, l[l.findIdx fun x => decide (t < x.st)]? = some y := ⟨_, List.getElem?_eq_getElem hf⟩
    have e := (List.getElem?_eq_some_iff.1 hy).2
    have e' : (l[l.findIdx fun x => decide (t < x.st)]'hf) = y := e
    simp only [e'] at h1
    have h2 := ord_le h hl hj hx hy
    simp at h1
    omega
theorem cut_mono {l : List Chg} {k k' : Nat} {t t' : Int} (h : Cut l k t) (h' : Cut l k' t') (ht : t ≤ t') (hk : k ≤ l.length) : k ≤ k' := by
  refine Nat.not_lt.1 fun hlt => ?_
  obtain ⟨x, hx⟩ : ∃ x, l[k']? = some x := ⟨_, List.getElem?_eq_getElem (by omega)⟩
  have := h.1 k' x hlt hx
  have := h'.2 k' x (Nat.le_refl _) hx
  omega
theorem mt_step {ns : List Nd} {q k t n : Nat} {s : Int} {l : List Chg} {x : Nd} (h : Ord n s l l.length) (hc : Cut l k (t : Int)) (hx : inR x.l) (hs : stOk x (moL q l (t : Int)) = true) : LS.mt (stS q l k) (mk x.l) = true := by
  unfold stOk at hs
  obtain ⟨p, hp, hpx⟩ := List.any_eq_true.1 hs
  rw [decide_eq_true_eq] at hpx
  have hr := hx p hpx
  unfold moL at hp
  obtain ⟨i, hi, e⟩ := List.mem_map.1 hp
  rw [mo1_cut hc] at e
  refine LS.mt_iff.2 ⟨p.toNat, by omega, (stS_bit h).2 ⟨i, List.mem_range.1 hi, by omega⟩, (mk_bit hx).2 ?_⟩
  rw [Int.toNat_of_nonneg hr.1]
  exact hpx
/-- the changes from step t on -/
theorem few_from {ns : List Nd} {q : Nat} {l : List Chg} (hB : ndsB ns = true) (hl : ns.length ≤ 24) (hq : 1 ≤ q) (h : Ord ns.length (q : Int) l l.length) (hc : ckB ns q l = true) :
    ∀ (d t k : Nat), ns.length - t = d → t ≤ ns.length → k ≤ l.length → Cut l k ((t : Int) - 1) → LS.outl q ((mks ns).drop t) (stS q l k) + k ≤ l.length := by
  intro d
  induction d with
  | zero =>
    intro t k hd ht hk _
    rw [List.drop_eq_nil_of_le (by rw [mks_len]; omega)]
    simp [LS.outl]
    exact hk
  | succ d ih =>
    intro t k hd ht hk hcut
    have htn : t < ns.length := by omega
    obtain ⟨x, hx⟩ : ∃ x, ns[t]? = some x := ⟨_, List.getElem?_eq_getElem htn⟩
    obtain ⟨k', hk', hcut'⟩ := cut_ex h (t : Int)
    have hkk := cut_mono hcut hcut' (by omega) hk
    have hmt : (mks ns)[t]? = some (mk x.l) := by unfold mks; rw [List.getElem?_map, hx]; rfl
    have hdv : ∀ y ∈ (mks ns).drop t, LS.okN y := fun y hy => mks_ok hB y (List.mem_of_mem_drop hy)
    have hdl : ((mks ns).drop t).length ≤ 24 := by rw [List.length_drop, mks_len]; omega
    have h1 := lip_changes h hdv hdl hq (k' - k) k (by omega)
    rw [show k + (k' - k) = k' by omega] at h1
    have hs : stOk x (moL q l (t : Int)) = true := by
      have := List.all_eq_true.1 hc t (List.mem_range.2 htn)
      rwa [ckS_at hx] at this
    have h2 := mt_step (ns := ns) h hcut' (inR_of (nds_in hB (List.mem_of_getElem? hx)).2) hs
    have h3 := ih (t + 1) k' (by omega) (by omega) hk' (by rw [show ((t + 1 : Nat) : Int) - 1 = (t : Int) by omega]; exact hcut')
    rw [drop_at hmt, LS.outl_yes h2] at h1
    rw [drop_at hmt]
    omega
theorem no_fewer {ns : List Nd} {s : Int} {l : List Chg} (h : ckE ns s l = 0) : (leN ns s : Int) ≤ l.length ∧ chE ns s = 0 := by
  have h0 : chE ns s = 0 := by
    refine Classical.byContradiction fun hc => ?_
    rw [ckE_bad hc] at h
    exact hc h
  refine ⟨?_, h0⟩
  obtain ⟨h2, h3⟩ := chE_ok h0
  obtain ⟨b4, b5⟩ := wiB_iff.1 h3
  obtain ⟨hlen, hB⟩ := vaE_ok h2
  obtain ⟨q, rfl⟩ : ∃ q : Nat, s = q := ⟨s.toNat, by omega⟩
  have ho : orB ns.length (q : Int) l = true := by
    cases e : orB ns.length (q : Int) l with
    | true => rfl
    | false => rw [ckE_ord h0 e] at h; cases h
  have hc : ckB ns q l = true := by
    cases e : ckB ns q l with
    | true => rfl
    | false =>
      rw [ckE_in h0 ho, Int.toNat_natCast, e] at h
      cases h
  have hO := orB_iff.1 ho
  have := few_from hB hlen (by omega) hO hc ns.length 0 0 (by omega) (by omega) (by omega) ⟨fun j x hj => absurd hj (Nat.not_lt_zero j), fun j x _ hx => by
    have := (hO j x (List.getElem?_eq_some_iff.1 hx).1 hx).1
    unfold okC at this
    simp only [Bool.and_eq_true, wiB_iff] at this
    omega⟩
  rw [stS_zero hO, List.drop_zero] at this
  unfold leN
  rw [if_pos h0, Int.toNat_natCast]
  omega
end Go.Proofs.Ytfndhddnglcliaa
