/-
  The smallest number of changes, plain: more stations, one step less; windows.
-/
import Derived.Test.YtfndhddnglcliaaLst1
set_option linter.unusedVariables false
set_option linter.unusedSimpArgs false
namespace Go.Proofs.Ytfndhddnglcliaa
set_option linter.unusedVariables false
set_option linter.unusedSimpArgs false
namespace LS

theorem df_zero {a b : Nat} (h : ∀ i, i < 9 → b.testBit i = true → a.testBit i = true) : df a b = 0 := by
  unfold df
  rw [List.countP_eq_zero]
  intro i hi
  have := h i (List.mem_range.1 hi)
  cases e : b.testBit i <;> simp_all
theorem kept_sub {s m k : Nat} (hk : k ∈ kept s m) (i : Nat) (h : k.testBit i = true) : m.testBit i = true := by
  rcases kept_mem.1 hk with ⟨_, rfl⟩ | ⟨_, q, _, _, rfl⟩
  · exact h
  · rw [wo_bit, Bool.and_eq_true] at h
    exact h.1
/-- another station never makes more changes needed -/
theorem more_st {s : Nat} (hs : 1 ≤ s) : ∀ {ns : List Nat} {m : Nat}, (∀ n ∈ ns, okN n) → ns.length ≤ 24 → cd m ≤ s → outl (s + 1) ns m ≤ outl s ns m
  | [], m, _, _, _ => by simp [outl]
  | n :: ns, m, hv, hl, hm => by
    have hv' := fun x hx => hv x (List.mem_cons_of_mem n hx)
    have hl' : ns.length ≤ 24 := by simp at hl; omega
    cases h : mt m n with
    | true =>
      rw [outl_yes h, outl_yes h]
      exact more_st hs hv' hl' hm
    | false =>
      obtain ⟨k, hk, p, hp1, hp2, e⟩ := outl_ex (ns := ns) hs h hv hl'
      rw [e]
      have u := outl_up (s := s + 1) (ns := ns) h (kept_mem.2 (.inl ⟨by omega, rfl⟩)) hp1 hp2
      have c1 := kept_cd (p := p) hm hk
      have c2 := cd_wi m p
      have i1 := more_st hs hv' hl' c1
      have i2 := lip (s := s + 1) (by omega) (m := m ||| 2 ^ p) (m' := k ||| 2 ^ p) hv' hl' (by omega) (by omega)
      rw [df_zero (fun i _ hi => by
        rw [wi_bit] at hi ⊢
        have := kept_sub hk i
        cases e : k.testBit i <;> simp_all)] at i2
      omega
/-- one step more costs at most one change, and never less -/
theorem last_st {s : Nat} (hs : 1 ≤ s) {n : Nat} (hn : okN n) : ∀ {ns : List Nat} {m : Nat}, (∀ n ∈ ns, okN n) → ns.length ≤ 23 → cd m ≤ s → outl s ns m ≤ outl s (ns ++ [n]) m ∧ outl s (ns ++ [n]) m ≤ outl s ns m + 1
  | [], m, _, _, hm => by
    refine ⟨by simp [outl], ?_⟩
    have := outl_le (m := m) (ns := [n]) hs (by intro x hx; simp at hx; subst hx; exact hn)
    simpa [outl] using this
  | x :: ns, m, hv, hl, hm => by
    have hv' := fun y hy => hv y (List.mem_cons_of_mem x hy)
    have hl' : ns.length ≤ 23 := by simp at hl; omega
    have hv2 : ∀ y ∈ x :: (ns ++ [n]), okN y := by
      intro y hy
      rcases List.mem_cons.1 hy with rfl | hy
      · exact hv _ (List.mem_cons_self ..)
      · rcases List.mem_append.1 hy with hy | hy
        · exact hv' y hy
        · simp at hy
          subst hy
          exact hn
    rw [List.cons_append]
    cases h : mt m x with
    | true =>
      rw [outl_yes h, outl_yes h]
      exact last_st hs hn hv' hl' hm
    | false =>
      obtain ⟨k, hk, p, hp1, hp2, e⟩ := outl_ex (ns := ns) hs h hv (by omega)
      obtain ⟨k2, hk2, p2, hq1, hq2, e2⟩ := outl_ex (ns := ns ++ [n]) hs h hv2 (by simp at hl ⊢; omega)
      have u := outl_up (ns := ns) h hk2 hq1 hq2
      have u2 := outl_up (ns := ns ++ [n]) h hk hp1 hp2
      have i1 := last_st hs hn (m := k ||| 2 ^ p) hv' hl' (kept_cd hm hk)
      have i2 := last_st hs hn (m := k2 ||| 2 ^ p2) hv' hl' (kept_cd hm hk2)
      omega
/-- a set serves the steps f to t -/
def Srv (ss : List Nat) (f t m : Nat) : Prop := ∀ j n, f ≤ j → j ≤ t → ss[j]? = some n → mt m n = true
/-- no set of at most s pairs serves the steps f to t -/
def Blk (ss : List Nat) (s f t : Nat) : Prop := ∀ m, m < 512 → cd m ≤ s → ¬ Srv ss f t m
/-- windows that are valid, in order and blocked -/
def Wins (ss : List Nat) (s : Nat) : List (Nat × Nat) → Prop
  | [] => True
  | w :: ws => w.1 ≤ w.2 ∧ w.2 < ss.length ∧ Blk ss s w.1 w.2 ∧ (∀ v, ws.head? = some v → w.2 ≤ v.1) ∧ Wins ss s ws
theorem wi_lt {m p : Nat} (h : m < 512) (k : p < 9) : m ||| 2 ^ p < 512 :=
  Nat.or_lt_two_pow (n := 9) h (Nat.pow_lt_pow_right (by decide) k)
theorem wo_lt {m p : Nat} (h : m < 512) : wo m p < 512 := by
  unfold wo
  exact Nat.xor_lt_two_pow (n := 9) h (Nat.lt_of_le_of_lt Nat.and_le_left h)
theorem kept_lt {s m k : Nat} (h : m < 512) (hk : k ∈ kept s m) : k < 512 := by
  rcases kept_mem.1 hk with ⟨_, rfl⟩ | ⟨_, q, _, _, rfl⟩
  · exact h
  · exact wo_lt h
theorem mt_wi {k p n : Nat} (hp : p < 9) (hn : n.testBit p = true) : mt (k ||| 2 ^ p) n = true :=
  mt_iff.2 ⟨p, hp, by rw [wi_bit]; simp, hn⟩
theorem drop_cons {ss : List Nat} {k n : Nat} (h : ss[k]? = some n) : ss.drop k = n :: ss.drop (k + 1) := by
  obtain ⟨h1, rfl⟩ := List.getElem?_eq_some_iff.1 h
  exact List.drop_eq_getElem_cons h1
/-- at step k with the set m: where the next window stands -/
def Here (ss : List Nat) (k m : Nat) (ws : List (Nat × Nat)) : Prop := ∀ v, ws.head? = some v → k ≤ v.1 ∨ (v.1 < k ∧ k ≤ v.2 ∧ ∀ j n, v.1 ≤ j → j < k → ss[j]? = some n → mt m n = true)
/-- behind a step that is served -/
theorem here_next {ss : List Nat} {s k m n : Nat} {ws : List (Nat × Nat)} (hw : Wins ss s ws) (hm : m < 512) (hc : cd m ≤ s) (hn : ss[k]? = some n) (hmt : mt m n = true) (h : Here ss k m ws) : Here ss (k + 1) m ws := by
  intro v hv
  match ws, hv with
  | w :: ws, hv =>
    obtain rfl : w = v := by simpa using hv
    obtain ⟨h1, h2, h3, _, _⟩ := hw
    rcases h w rfl with q | ⟨q1, q2, q3⟩
    · rcases Nat.lt_or_ge k w.1 with r | r
      · exact .inl r
      · obtain rfl : k = w.1 := by omega
        right
        have hlt : w.1 < w.2 := by
          refine Nat.not_le.1 fun hle => ?_
          refine h3 m hm hc fun j x hj1 hj2 hx => ?_
          obtain rfl : j = w.1 := by omega
          rw [hn] at hx
          obtain rfl := Option.some.inj hx
          exact hmt
        refine ⟨by omega, by omega, fun j x hj1 hj2 hx => ?_⟩
        obtain rfl : j = w.1 := by omega
        rw [hn] at hx
        obtain rfl := Option.some.inj hx
        exact hmt
    · right
      have all : ∀ j x, w.1 ≤ j → j < k + 1 → ss[j]? = some x → mt m x = true := by
        intro j x hj1 hj2 hx
        rcases Nat.lt_or_ge j k with r | r
        · exact q3 j x hj1 r hx
        · obtain rfl : j = k := by omega
          rw [hn] at hx
          obtain rfl := Option.some.inj hx
          exact hmt
      have hlt : k < w.2 := by
        refine Nat.not_le.1 fun hle => ?_
        exact h3 m hm hc fun j x hj1 hj2 hx => all j x hj1 (by omega) hx
      exact ⟨by omega, by omega, all⟩
/-- windows need changes: as many as there are -/
theorem wlow {ss : List Nat} {s : Nat} (hs : 1 ≤ s) (hv : ∀ n ∈ ss, okN n) (hl : ss.length ≤ 24) : ∀ (d k m : Nat) (ws : List (Nat × Nat)), ss.length - k = d → cd m ≤ s → m < 512 → Wins ss s ws → Here ss k m ws → ws.length ≤ outl s (ss.drop k) m := by
  intro d
  induction d with
  | zero =>
    intro k m ws hd hc hm hw hh
    match ws with
    | [] => simp
    | w :: ws =>
      obtain ⟨h1, h2, _⟩ := hw
      rcases hh w rfl with q | ⟨q1, q2, _⟩ <;> omega
  | succ d ih =>
    intro k m ws hd hc hm hw hh
    match ws with
    | [] => simp
    | w :: ws =>
      have hk : k < ss.length := by omega
      obtain ⟨n, hn⟩ : ∃ n, ss[k]? = some n := ⟨_, List.getElem?_eq_getElem hk⟩
      have hdv : ∀ x ∈ n :: ss.drop (k + 1), okN x := by
        rw [← drop_cons hn]
        exact fun x hx => hv x (List.mem_of_mem_drop hx)
      have hdl : (ss.drop (k + 1)).length ≤ 24 := by rw [List.length_drop]; omega
      rw [drop_cons hn]
      cases h : mt m n with
      | true =>
        rw [outl_yes h]
        exact ih (k + 1) m (w :: ws) (by omega) hc hm hw (here_next hw hm hc hn h hh)
      | false =>
        obtain ⟨k', hk', p, hp1, hp2, e⟩ := outl_ex (ns := ss.drop (k + 1)) hs h hdv hdl
        rw [e]
        have hm' := wi_lt (kept_lt hm hk') hp1
        have hc' := kept_cd (p := p) hc hk'
        have hmt := mt_wi (k := k') hp1 hp2
        rcases hh w rfl with q | ⟨q1, q2, q3⟩
        · have := ih (k + 1) (k' ||| 2 ^ p) (w :: ws) (by omega) hc' hm' hw (here_next hw hm' hc' hn hmt (fun v hv => by
            obtain rfl : w = v := by simpa using hv
            exact .inl q))
          omega
        · obtain ⟨_, _, _, h4, h5⟩ := hw
          have := ih (k + 1) (k' ||| 2 ^ p) ws (by omega) hc' hm' h5 (here_next h5 hm' hc' hn hmt (fun v hv => by
            have := h4 v hv
            exact .inl (by omega)))
          simp only [List.length_cons]
          omega
theorem mt_zero (n : Nat) : mt 0 n = false := by
  rw [← Bool.not_eq_true, mt_iff]
  rintro ⟨i, _, h, _⟩
  simp at h
/-- a checked bound is at most the least number -/
theorem bound_le {ss : List Nat} {s : Nat} {ws : List (Nat × Nat)} (hs : 1 ≤ s) (hv : ∀ n ∈ ss, okN n) (hl : ss.length ≤ 24) (h0 : 0 < ss.length) (hw : Wins ss s ws) : ws.length + 1 ≤ outl s ss 0 := by
  obtain ⟨n, hn⟩ : ∃ n, ss[0]? = some n := ⟨_, List.getElem?_eq_getElem h0⟩
  have e0 : ss = n :: ss.drop 1 := by
    have := drop_cons hn
    simpa using this
  have hdv : ∀ x ∈ n :: ss.drop 1, okN x := by rw [← e0]; exact hv
  have hdl : (ss.drop 1).length ≤ 24 := by rw [List.length_drop]; omega
  have hz : cd 0 ≤ s := by rw [show cd 0 = 0 from rfl]; omega
  obtain ⟨k', hk', p, hp1, hp2, e⟩ := outl_ex (ns := ss.drop 1) hs (mt_zero n) hdv hdl
  have hm' := wi_lt (kept_lt (m := 0) (by decide) hk') hp1
  have hc' := kept_cd (p := p) hz hk'
  have hmt := mt_wi (k := k') hp1 hp2
  have := wlow hs hv hl (ss.length - 1) 1 (k' ||| 2 ^ p) ws rfl hc' hm' hw (here_next hw hm' hc' hn hmt (fun v _ => .inl (Nat.zero_le _)))
  rw [e0, e]
  omega
end LS
end Go.Proofs.Ytfndhddnglcliaa
