/-
  The smallest number of changes, plain: sets of nine pairs as numbers, what is left at each set. No program.
-/
import Derived.Test.YtfndhddnglcliaaFrame
namespace Go.Proofs.Ytfndhddnglcliaa
set_option linter.unusedVariables false
set_option linter.unusedSimpArgs false
namespace LS

/-- how many of the nine bits are set -/
def cd (m : Nat) : Nat := (List.range 9).countP m.testBit
/-- m without p -/
def wo (m p : Nat) : Nat := m ^^^ (m &&& 2 ^ p)
theorem wo_bit (m p i : Nat) : (wo m p).testBit i = (m.testBit i && !decide (p = i)) := by
  unfold wo
  rw [Nat.testBit_xor, Nat.testBit_and, Nat.testBit_two_pow]
  cases m.testBit i <;> cases decide (p = i) <;> rfl
theorem wi_bit (m p i : Nat) : (m ||| 2 ^ p).testBit i = (m.testBit i || decide (p = i)) := by
  rw [Nat.testBit_or, Nat.testBit_two_pow]
/-- how many bits of b are not in a -/
def df (a b : Nat) : Nat := (List.range 9).countP fun i => b.testBit i && !a.testBit i
/-- a common bit -/
def mt (m n : Nat) : Bool := (List.range 9).any fun i => m.testBit i && n.testBit i
theorem mt_iff {m n : Nat} : mt m n = true ↔ ∃ i, i < 9 ∧ m.testBit i = true ∧ n.testBit i = true := by
  unfold mt
  simp [List.any_eq_true]
theorem mt_and {m n : Nat} (hn : n < 512) : mt m n = true ↔ m &&& n ≠ 0 := by
  rw [mt_iff]
  constructor
  · rintro ⟨i, _, h1, h2⟩ h
    have := congrArg (Nat.testBit · i) h
    simp [Nat.testBit_and, h1, h2] at this
  · intro h
    obtain ⟨i, hi⟩ := Nat.exists_testBit_of_ne_zero h
    rw [Nat.testBit_and, Bool.and_eq_true] at hi
    refine ⟨i, ?_, hi⟩
    refine Nat.not_le.1 fun hle => ?_
    have : n < 2 ^ i := Nat.lt_of_lt_of_le (show n < 2 ^ 9 from hn) (Nat.pow_le_pow_right (by decide) hle)
    rw [Nat.testBit_lt_two_pow this] at hi
    exact absurd hi.2 (by simp)
def prs (n : Nat) : List Nat := (List.range 9).filter n.testBit
theorem mem_prs {n p : Nat} : p ∈ prs n ↔ p < 9 ∧ n.testBit p = true := by simp [prs]
def kept (s m : Nat) : List Nat := if cd m < s then [m] else (prs m).map (wo m)
def cand (s : Nat) (f : Nat → Nat) (m n : Nat) : List Nat := (kept s m).flatMap fun k => (prs n).map fun p => f (k ||| 2 ^ p)
/-- the smallest number of changes that are left -/
def outl (s : Nat) : List Nat → Nat → Nat
  | [], _ => 0
  | n :: ns, m => if mt m n then outl s ns m else (cand s (outl s ns) m n).foldl min 24 + 1
theorem fold_le : ∀ {l : List Nat} {a x : Nat}, x ∈ l ∨ x = a → l.foldl min a ≤ x
  | [], a, x, h => by simp at h; simp [h]
  | y :: l, a, x, h => by
    simp only [List.foldl_cons]
    have h1 := fold_le (l := l) (a := min a y) (x := min a y) (.inr rfl)
    have h2 := Nat.min_le_left a y
    have h3 := Nat.min_le_right a y
    rcases h with h | h
    · rcases List.mem_cons.1 h with rfl | h
      · omega
      · exact fold_le (.inl h)
    · omega
theorem fold_mem (l : List Nat) (a : Nat) : l.foldl min a ∈ l ∨ l.foldl min a = a := by
  induction l generalizing a with
  | nil => simp
  | cons y l ih =>
    simp only [List.foldl_cons]
    rcases ih (min a y) with h | h
    · exact .inl (List.mem_cons_of_mem _ h)
    · rw [h]
      rcases Nat.le_total a y with q | q
      · exact .inr (Nat.min_eq_left q)
      · rw [Nat.min_eq_right q]
        exact .inl (List.mem_cons_self ..)
theorem mem_cand {s m n x : Nat} {f : Nat → Nat} : x ∈ cand s f m n ↔ ∃ k ∈ kept s m, ∃ p, p < 9 ∧ n.testBit p = true ∧ f (k ||| 2 ^ p) = x := by
  simp only [cand, List.mem_flatMap, List.mem_map, mem_prs, and_assoc]
/-- the counts of bits -/
theorem countP_le_of {l : List Nat} {p q : Nat → Bool} (h : ∀ i ∈ l, p i = true → q i = true) : l.countP p ≤ l.countP q := List.countP_mono_left h
theorem countP_lt_of {l : List Nat} {p q : Nat → Bool} {x : Nat} (hx : x ∈ l) (h : ∀ i ∈ l, p i = true → q i = true) (h1 : p x = false) (h2 : q x = true) : l.countP p < l.countP q := by
  induction l with
  | nil => cases hx
  | cons y l ih =>
    rw [List.countP_cons, List.countP_cons]
    have hm := countP_le_of (l := l) (p := p) (q := q) (fun i hi => h i (List.mem_cons_of_mem _ hi))
    rcases List.mem_cons.1 hx with rfl | hx
    · simp [h1, h2]
      omega
    · have := ih hx (fun i hi => h i (List.mem_cons_of_mem _ hi))
      have h3 := h y (List.mem_cons_self ..)
      cases e : p y <;> cases e' : q y <;> simp_all <;> omega
theorem countP_le_or {l : List Nat} {p q r : Nat → Bool} (h : ∀ i ∈ l, p i = true → q i = true ∨ r i = true) : l.countP p ≤ l.countP q + l.countP r := by
  induction l with
  | nil => simp
  | cons y l ih =>
    rw [List.countP_cons, List.countP_cons, List.countP_cons]
    have := ih (fun i hi => h i (List.mem_cons_of_mem _ hi))
    have h3 := h y (List.mem_cons_self ..)
    cases e : p y <;> cases e' : q y <;> cases e'' : r y <;> simp_all <;> omega
theorem countP_one {l : List Nat} (hl : l.Nodup) (p : Nat) : l.countP (fun i => decide (p = i)) ≤ 1 := by
  induction l with
  | nil => simp
  | cons y l ih =>
    rw [List.countP_cons]
    rw [List.nodup_cons] at hl
    have := ih hl.2
    by_cases h : p = y
    · subst h
      have : l.countP (fun i => decide (p = i)) = 0 := by
        rw [List.countP_eq_zero]
        intro a ha
        simp
        rintro rfl
        exact hl.1 ha
      simp [this]
    · simp [h]
      omega
theorem nd9 : (List.range 9).Nodup := List.nodup_range
theorem cd_wi (m p : Nat) : cd (m ||| 2 ^ p) ≤ cd m + 1 := by
  unfold cd
  refine Nat.le_trans (countP_le_or (q := m.testBit) (r := fun i => decide (p = i)) fun i _ h => ?_) (Nat.add_le_add_left (countP_one nd9 p) _)
  rw [wi_bit, Bool.or_eq_true] at h
  exact h
theorem cd_wo {m p : Nat} (h : m.testBit p = true) (hp : p < 9) : cd (wo m p) < cd m := by
  unfold cd
  refine countP_lt_of (x := p) (List.mem_range.2 hp) (fun i _ hi => ?_) ?_ h
  · rw [wo_bit, Bool.and_eq_true] at hi
    exact hi.1
  · rw [wo_bit]
    simp
theorem kept_mem {s m k : Nat} : k ∈ kept s m ↔ (cd m < s ∧ k = m) ∨ (s ≤ cd m ∧ ∃ q, q < 9 ∧ m.testBit q = true ∧ k = wo m q) := by
  unfold kept
  by_cases h : cd m < s
  · rw [if_pos h]
    simp [h, Nat.not_le.2 h]
  · rw [if_neg h]
    simp only [List.mem_map, mem_prs]
    constructor
    · rintro ⟨q, ⟨h1, h2⟩, rfl⟩
      exact .inr ⟨by omega, q, h1, h2, rfl⟩
    · rintro (⟨h1, _⟩ | ⟨_, q, h1, h2, rfl⟩)
      · exact absurd h1 h
      · exact ⟨q, ⟨h1, h2⟩, rfl⟩
theorem kept_cd {s m k p : Nat} (hm : cd m ≤ s) (hk : k ∈ kept s m) : cd (k ||| 2 ^ p) ≤ s := by
  have := cd_wi k p
  rcases kept_mem.1 hk with ⟨h, rfl⟩ | ⟨_, q, h1, h2, rfl⟩
  · omega
  · have := cd_wo h2 h1
    omega
theorem cd_pos {m : Nat} (h : 0 < cd m) : ∃ q, q < 9 ∧ m.testBit q = true := by
  unfold cd at h
  obtain ⟨q, h1, h2⟩ := List.countP_pos_iff.1 h
  exact ⟨q, List.mem_range.1 h1, h2⟩
theorem kept_some {s m : Nat} (hs : 1 ≤ s) : ∃ k, k ∈ kept s m := by
  by_cases h : cd m < s
  · exact ⟨m, kept_mem.2 (.inl ⟨h, rfl⟩)⟩
  · obtain ⟨q, h1, h2⟩ := cd_pos (m := m) (by omega)
    exact ⟨_, kept_mem.2 (.inr ⟨by omega, q, h1, h2, rfl⟩)⟩
/-- a need: some of the nine pairs -/
def okN (n : Nat) : Prop := ∃ p, p < 9 ∧ n.testBit p = true
theorem outl_le {s : Nat} (hs : 1 ≤ s) : ∀ {ns : List Nat} {m : Nat}, (∀ n ∈ ns, okN n) → outl s ns m ≤ ns.length
  | [], m, _ => by simp [outl]
  | n :: ns, m, h => by
    have ih := fun m => outl_le (m := m) hs (fun n hn => h n (List.mem_cons_of_mem _ hn))
    unfold outl
    rw [List.length_cons]
    split
    · have := ih m
      omega
    · obtain ⟨k, hk⟩ := kept_some (m := m) hs
      obtain ⟨p, hp1, hp2⟩ := h n (List.mem_cons_self ..)
      have := fold_le (a := 24) (.inl (mem_cand.2 ⟨k, hk, p, hp1, hp2, rfl⟩) : _ ∈ cand s (outl s ns) m n ∨ _)
      have := ih (k ||| 2 ^ p)
      omega
theorem outl_yes {s n m : Nat} {ns : List Nat} (h : mt m n = true) : outl s (n :: ns) m = outl s ns m := by
  rw [outl, if_pos h]
theorem outl_up {s n m k p : Nat} {ns : List Nat} (h : mt m n = false) (hk : k ∈ kept s m) (hp : p < 9) (hn : n.testBit p = true) : outl s (n :: ns) m ≤ outl s ns (k ||| 2 ^ p) + 1 := by
  rw [outl, if_neg (by simp [h])]
  have := fold_le (a := 24) (.inl (mem_cand.2 ⟨k, hk, p, hp, hn, rfl⟩) : _ ∈ cand s (outl s ns) m n ∨ _)
  omega
theorem outl_ex {s n m : Nat} {ns : List Nat} (hs : 1 ≤ s) (h : mt m n = false) (hv : ∀ x ∈ n :: ns, okN x) (hl : ns.length ≤ 24) : ∃ k ∈ kept s m, ∃ p, p < 9 ∧ n.testBit p = true ∧ outl s (n :: ns) m = outl s ns (k ||| 2 ^ p) + 1 := by
  have e : outl s (n :: ns) m = (cand s (outl s ns) m n).foldl min 24 + 1 := by rw [outl, if_neg (by simp [h])]
  rw [e]
  obtain ⟨k, hk⟩ := kept_some (m := m) hs
  obtain ⟨p, hp1, hp2⟩ := hv n (List.mem_cons_self ..)
  rcases fold_mem (cand s (outl s ns) m n) 24 with q | q
  · obtain ⟨k, hk, p, h1, h2, e⟩ := mem_cand.1 q
    exact ⟨k, hk, p, h1, h2, by rw [e]⟩
  · have h1 := fold_le (a := 24) (.inl (mem_cand.2 ⟨k, hk, p, hp1, hp2, rfl⟩) : _ ∈ cand s (outl s ns) m n ∨ _)
    have h2 := outl_le (m := k ||| 2 ^ p) hs (fun x hx => hv x (List.mem_cons_of_mem _ hx))
    exact ⟨k, hk, p, hp1, hp2, by omega⟩
theorem df_self (m : Nat) : df m m = 0 := by
  unfold df
  rw [List.countP_eq_zero]
  intro i _
  cases m.testBit i <;> simp
theorem df_out {m m' : Nat} (h : cd m' ≤ cd m) {p : Nat} (hp : p < 9) (h1 : m'.testBit p = true) (h2 : m.testBit p = false) : ∃ q, q < 9 ∧ m.testBit q = true ∧ m'.testBit q = false := by
  refine Classical.byContradiction fun hc => ?_
  have : cd m < cd m' := by
    unfold cd
    refine countP_lt_of (x := p) (List.mem_range.2 hp) (fun i hi h3 => ?_) h2 h1
    cases e : m'.testBit i with
    | true => rfl
    | false => exact absurd ⟨i, List.mem_range.1 hi, h3, e⟩ hc
  omega
theorem df_step {a b a' b' : Nat} (h : ∀ i, i < 9 → (b'.testBit i && !a'.testBit i) = true → (b.testBit i && !a.testBit i) = true) : df a' b' ≤ df a b :=
  countP_le_of fun i hi h1 => h i (List.mem_range.1 hi) h1
theorem df_lt {a b a' b' p : Nat} (hp : p < 9) (h : ∀ i, i < 9 → (b'.testBit i && !a'.testBit i) = true → (b.testBit i && !a.testBit i) = true) (h1 : (b'.testBit p && !a'.testBit p) = false) (h2 : (b.testBit p && !a.testBit p) = true) : df a' b' < df a b :=
  countP_lt_of (List.mem_range.2 hp) (fun i hi h1 => h i (List.mem_range.1 hi) h1) h1 h2
/-- from one set to another costs at most what is new -/
theorem lip {s : Nat} (hs : 1 ≤ s) : ∀ {ns : List Nat} {m m' : Nat}, (∀ n ∈ ns, okN n) → ns.length ≤ 24 → cd m ≤ s → cd m' ≤ s → outl s ns m ≤ df m m' + outl s ns m'
  | [], m, m', _, _, _, _ => by simp [outl]
  | n :: ns, m, m', hv, hl, hm, hm' => by
    have hv' := fun x hx => hv x (List.mem_cons_of_mem n hx)
    have hl' : ns.length ≤ 24 := by simp at hl; omega
    have ih := fun m m' => lip (m := m) (m' := m') hs hv' hl'
    cases h : mt m n with
    | true =>
      rw [outl_yes h]
      cases h' : mt m' n with
      | true =>
        rw [outl_yes h']
        exact ih _ _ hm hm'
      | false =>
        obtain ⟨k, hk, p, hp1, hp2, e⟩ := outl_ex (ns := ns) hs h' hv hl'
        rw [e]
        have h1 := ih m (k ||| 2 ^ p) hm (kept_cd hm' hk)
        have h2 : df m (k ||| 2 ^ p) ≤ df m m' + 1 := by
          refine Nat.le_trans (countP_le_or (q := fun i => m'.testBit i && !m.testBit i) (r := fun i => decide (p = i)) fun i _ hi => ?_) (Nat.add_le_add_left (countP_one nd9 p) _)
          rw [wi_bit] at hi
          rcases kept_mem.1 hk with ⟨_, rfl⟩ | ⟨_, q, _, _, rfl⟩
          · cases h3 : decide (p = i) <;> simp_all
          · rw [wo_bit] at hi
            cases h3 : decide (p = i) <;> simp_all
        omega
    | false =>
      cases h' : mt m' n with
      | true =>
        rw [outl_yes h']
        obtain ⟨p, hp, h1, h2⟩ := mt_iff.1 h'
        have h3 : m.testBit p = false := by
          cases e : m.testBit p with
          | false => rfl
          | true => exact absurd (mt_iff.2 ⟨p, hp, e, h2⟩) (by simp [h])
        by_cases hc : cd m < s
        · have u := outl_up (ns := ns) h (kept_mem.2 (.inl ⟨hc, rfl⟩)) hp h2
          have i1 := ih (m ||| 2 ^ p) m' (by have := cd_wi m p; omega) hm'
          have d1 : df (m ||| 2 ^ p) m' < df m m' := df_lt hp (fun i _ hi => by rw [wi_bit] at hi; cases e : m.testBit i <;> simp_all) (by rw [wi_bit]; simp) (by simp [h1, h3])
          omega
        · obtain ⟨q, hq, q1, q2⟩ := df_out (m := m) (m' := m') (by omega) hp h1 h3
          have hk := kept_mem.2 (.inr ⟨(by omega : s ≤ cd m), q, hq, q1, rfl⟩)
          have u := outl_up (ns := ns) h hk hp h2
          have i1 := ih (wo m q ||| 2 ^ p) m' (kept_cd hm hk) hm'
          have d1 : df (wo m q ||| 2 ^ p) m' < df m m' := df_lt hp (fun i _ hi => by
            rw [wi_bit, wo_bit] at hi
            by_cases e' : q = i
            · subst e'
              simp [q2] at hi
            · cases e : m.testBit i <;> simp_all) (by rw [wi_bit]; simp) (by simp [h1, h3])
          omega
      | false =>
        obtain ⟨k, hk, p, hp1, hp2, e⟩ := outl_ex (ns := ns) hs h' hv hl'
        rw [e]
        have hpm : m'.testBit p = false := by
          cases e : m'.testBit p with
          | false => rfl
          | true => exact absurd (mt_iff.2 ⟨p, hp1, e, hp2⟩) (by simp [h'])
        have kb : ∀ i, k.testBit i = true → m'.testBit i = true := by
          intro i hi
          rcases kept_mem.1 hk with ⟨_, rfl⟩ | ⟨_, q, _, _, rfl⟩
          · exact hi
          · rw [wo_bit] at hi
            simp at hi
            exact hi.1
        have hkc : cd k < s := by
          rcases kept_mem.1 hk with ⟨h1, rfl⟩ | ⟨_, q, h1, h2, rfl⟩
          · exact h1
          · have := cd_wo h2 h1
            omega
        by_cases hc : cd m < s
        · have u := outl_up (ns := ns) h (kept_mem.2 (.inl ⟨hc, rfl⟩)) hp1 hp2
          have i1 := ih (m ||| 2 ^ p) (k ||| 2 ^ p) (by have := cd_wi m p; omega) (kept_cd hm' hk)
          have d1 : df (m ||| 2 ^ p) (k ||| 2 ^ p) ≤ df m m' := df_step fun i _ hi => by
            rw [wi_bit, wi_bit] at hi
            have := kb i
            cases e : m.testBit i <;> cases e' : k.testBit i <;> cases e'' : decide (p = i) <;> simp_all
          omega
        · obtain ⟨q, hq, q1, q2⟩ : ∃ q, q < 9 ∧ m.testBit q = true ∧ k.testBit q = false := by
            refine Classical.byContradiction fun hcc => ?_
            have : cd m ≤ cd k := by
              unfold cd
              refine countP_le_of fun i hi h3 => ?_
              cases e : k.testBit i with
              | true => rfl
              | false => exact absurd ⟨i, List.mem_range.1 hi, h3, e⟩ hcc
            omega
          have hk' := kept_mem.2 (.inr ⟨(by omega : s ≤ cd m), q, hq, q1, rfl⟩)
          have u := outl_up (ns := ns) h hk' hp1 hp2
          have i1 := ih (wo m q ||| 2 ^ p) (k ||| 2 ^ p) (kept_cd hm hk') (kept_cd hm' hk)
          have d1 : df (wo m q ||| 2 ^ p) (k ||| 2 ^ p) ≤ df m m' := df_step fun i _ hi => by
            rw [wi_bit, wi_bit, wo_bit] at hi
            have := kb i
            by_cases e3 : q = i
            · subst e3
              cases e'' : decide (p = q) <;> simp_all
            · cases e : m.testBit i <;> cases e' : k.testBit i <;> cases e'' : decide (p = i) <;> simp_all
          omega
end LS
end Go.Proofs.Ytfndhddnglcliaa
