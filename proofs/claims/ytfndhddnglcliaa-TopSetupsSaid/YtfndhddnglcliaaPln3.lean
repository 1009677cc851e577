/-
  The best change is one step down, plain.
-/
import Derived.Test.YtfndhddnglcliaaPln1
import Derived.Test.YtfndhddnglcliaaFew1
namespace Go.Proofs.Ytfndhddnglcliaa
set_option linter.unusedVariables false
set_option linter.unusedSimpArgs false

theorem orL_or : ∀ (l : List Nat) (a : Nat), l.foldl (· ||| ·) a = a ||| orL l
  | [], a => by simp [orL]
  | x :: l, a => by
    rw [List.foldl_cons, orL_or l (a ||| x)]
    unfold orL
    rw [List.foldl_cons, orL_or l (0 ||| x), Nat.zero_or, Nat.or_assoc]
    rfl
theorem orL_cons (x : Nat) (l : List Nat) : orL (x :: l) = x ||| orL l := by
  have := orL_or l (0 ||| x)
  rw [Nat.zero_or] at this
  unfold orL
  rw [List.foldl_cons, Nat.zero_or]
  exact this
theorem orL_app (l m : List Nat) : orL (l ++ m) = orL l ||| orL m := by
  show (l ++ m).foldl (· ||| ·) 0 = _
  rw [List.foldl_append, orL_or]
  rfl
theorem kpS_erase (ms : List Nat) (i : Nat) : kpS ms i = orL (ms.eraseIdx i) := by
  rw [List.eraseIdx_eq_take_drop_succ, orL_app]
  rfl
theorem orL_bit {l : List Nat} {i : Nat} : (orL l).testBit i = true ↔ ∃ m ∈ l, m.testBit i = true := by
  induction l with
  | nil => simp [orL]
  | cons x l ih =>
    rw [orL_cons, Nat.testBit_or, Bool.or_eq_true, ih]
    simp
/-- stations hold nothing, or one pair -/
def oneP (ms : List Nat) : Prop := ∀ m ∈ ms, m = 0 ∨ ∃ p, p < 9 ∧ m = 2 ^ p
theorem one_bit {p i : Nat} (h : (2 ^ p).testBit i = true) : i = p := by
  rw [Nat.testBit_two_pow] at h
  exact (by simpa using h : p = i).symm
theorem cd_orL : ∀ {ms : List Nat}, oneP ms → LS.cd (orL ms) ≤ ms.length
  | [], _ => by simp [orL, LS.cd]
  | m :: l, h => by
    have ih := cd_orL (ms := l) (fun x hx => h x (List.mem_cons_of_mem _ hx))
    rw [orL_cons, List.length_cons]
    rcases h m (List.mem_cons_self ..) with rfl | ⟨p, _, rfl⟩
    · rw [Nat.zero_or]
      omega
    · rw [Nat.or_comm]
      have := LS.cd_wi (orL l) p
      omega
theorem cd_kpS {ms : List Nat} (h : oneP ms) {i p : Nat} (hi : i < ms.length) : LS.cd (kpS ms i ||| 2 ^ p) ≤ ms.length := by
  have h1 := cd_orL (ms := ms.eraseIdx i) (fun x hx => h x (List.mem_of_mem_eraseIdx hx))
  rw [← kpS_erase, List.length_eraseIdx_of_lt hi] at h1
  have := LS.cd_wi (kpS ms i) p
  omega
theorem kpS_sub {ms : List Nat} {i b : Nat} (h : (kpS ms i).testBit b = true) : (orL ms).testBit b = true := by
  rw [kpS_erase, orL_bit] at h
  obtain ⟨m, hm, hb⟩ := h
  exact orL_bit.2 ⟨m, List.mem_of_mem_eraseIdx hm, hb⟩
/-- where a station is free, leaving one out loses nothing -/
theorem free_ex : ∀ {ms : List Nat}, oneP ms → LS.cd (orL ms) < ms.length → ∃ a, a < ms.length ∧ kpS ms a = orL ms
  | [], _, h => by simp at h
  | m :: l, h, hc => by
    have h' : oneP l := fun x hx => h x (List.mem_cons_of_mem _ hx)
    have k0 : kpS (m :: l) 0 = orL l := by rw [kpS_erase]; rfl
    have ks : ∀ a, kpS (m :: l) (a + 1) = m ||| kpS l a := fun a => by rw [kpS_erase, kpS_erase, List.eraseIdx_cons_succ, orL_cons]
    rw [orL_cons] at hc ⊢
    rw [List.length_cons] at hc ⊢
    rcases h m (List.mem_cons_self ..) with rfl | ⟨p, hp, rfl⟩
    · exact ⟨0, by omega, by rw [k0, Nat.zero_or]⟩
    · cases hb : (orL l).testBit p with
      | true =>
        refine ⟨0, by omega, ?_⟩
        rw [k0]
        refine Nat.eq_of_testBit_eq fun i => ?_
        rw [Nat.testBit_or, Nat.testBit_two_pow]
        by_cases e : p = i
        · subst e
          simp [hb]
        · simp [e]
      | false =>
        have hlt : LS.cd (orL l) < LS.cd (2 ^ p ||| orL l) := by
          unfold LS.cd
          refine LS.countP_lt_of (x := p) (List.mem_range.2 hp) (fun i _ hi => ?_) hb ?_
          · rw [Nat.testBit_or, hi, Bool.or_true]
          · rw [Nat.testBit_or, Nat.testBit_two_pow]
            simp
        obtain ⟨a, ha, e⟩ := free_ex h' (by omega)
        exact ⟨a + 1, by omega, by rw [ks, e]⟩
/-- what is kept is kept by leaving out one station -/
theorem kept_ex {ms : List Nat} (h : oneP ms) {k : Nat} (hk : k ∈ LS.kept ms.length (orL ms)) : ∃ a, a < ms.length ∧ ∀ i, k.testBit i = true → (kpS ms a).testBit i = true := by
  rcases LS.kept_mem.1 hk with ⟨h1, rfl⟩ | ⟨_, q, _, h2, rfl⟩
  · obtain ⟨a, ha, e⟩ := free_ex h h1
    exact ⟨a, ha, fun i hi => by rw [e]; exact hi⟩
  · obtain ⟨m, hm, hb⟩ := orL_bit.1 h2
    obtain ⟨a, ha⟩ := List.mem_iff_getElem?.1 hm
    have hal := (List.getElem?_eq_some_iff.1 ha).1
    refine ⟨a, hal, fun i hi => ?_⟩
    rw [LS.wo_bit, Bool.and_eq_true, Bool.not_eq_true', decide_eq_false_iff_not] at hi
    obtain ⟨m', hm', hb'⟩ := orL_bit.1 hi.1
    obtain ⟨a', ha'⟩ := List.mem_iff_getElem?.1 hm'
    rw [kpS_erase]
    refine orL_bit.2 ⟨m', ?_, hb'⟩
    refine List.mem_eraseIdx_iff_getElem?.2 ⟨a', ?_, ha'⟩
    rintro rfl
    rw [ha] at ha'
    obtain rfl := Option.some.inj ha'
    rcases h m hm with rfl | ⟨p, _, rfl⟩
    · simp at hb
    · have e1 := one_bit hb
      have e2 := one_bit hb'
      omega
/-- the best change is one step down -/
theorem best_down {ms : List Nat} (h : oneP ms) (hs : 1 ≤ ms.length) {n : Nat} {ns : List Nat} (hv : ∀ x ∈ n :: ns, LS.okN x) (hl : ns.length ≤ 23) (hmt : LS.mt (orL ms) n = false) {a p : Nat} (ha : a < ms.length) (hp : p < 9) (hnp : n.testBit p = true)
    (hb : ∀ j q, j < ms.length → q < 9 → n.testBit q = true → LS.outl ms.length ns (kpS ms a ||| 2 ^ p) ≤ LS.outl ms.length ns (kpS ms j ||| 2 ^ q)) :
    LS.outl ms.length (n :: ns) (orL ms) = LS.outl ms.length ns (kpS ms a ||| 2 ^ p) + 1 := by
  have hcd := cd_orL h
  refine Nat.le_antisymm ?_ ?_
  · have h1 := LS.lip (s := ms.length) hs (m := orL ms) (m' := kpS ms a ||| 2 ^ p) (ns := n :: ns) hv (by simp; omega) hcd (cd_kpS h ha)
    rw [LS.outl_yes (m := kpS ms a ||| 2 ^ p) (LS.mt_iff.2 ⟨p, hp, by rw [LS.wi_bit]; simp, hnp⟩)] at h1
    have h2 : LS.df (orL ms) (kpS ms a ||| 2 ^ p) ≤ 1 := by
      unfold LS.df
      refine Nat.le_trans (LS.countP_le_of (q := fun i => decide (p = i)) fun i _ hi => ?_) (LS.countP_one LS.nd9 _)
      rw [Bool.and_eq_true, LS.wi_bit, Bool.or_eq_true, Bool.not_eq_true'] at hi
      rcases hi.1 with h3 | h3
      · rw [kpS_sub h3] at hi
        exact absurd hi.2 (by simp)
      · exact h3
    omega
  · obtain ⟨k, hk, q, hq1, hq2, e⟩ := LS.outl_ex (ns := ns) hs hmt hv (by omega)
    obtain ⟨j, hj, hsub⟩ := kept_ex h hk
    have h1 := hb j q hj hq1 hq2
    have h2 := LS.lip (s := ms.length) hs (m := kpS ms j ||| 2 ^ q) (m' := k ||| 2 ^ q) (ns := ns) (fun x hx => hv x (List.mem_cons_of_mem _ hx)) (by omega) (cd_kpS h hj) (LS.kept_cd hcd hk)
    rw [LS.df_zero (fun i _ hi => by
      rw [LS.wi_bit, Bool.or_eq_true] at hi ⊢
      rcases hi with hi | hi
      · exact .inl (hsub i hi)
      · exact .inr hi)] at h2
    omega
end Go.Proofs.Ytfndhddnglcliaa
