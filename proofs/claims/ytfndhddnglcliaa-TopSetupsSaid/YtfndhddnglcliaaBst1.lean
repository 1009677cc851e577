/-
  Orders of jobs, plainly: all permutations of few numbers in ascending order, and the first best of them.
-/
import Derived.Test.YtfndhddnglcliaaJob5
import Derived.Test.YtfndhddnglcliaaSb24
set_option linter.unusedVariables false
set_option linter.unusedSimpArgs false
namespace Go.Proofs.Ytfndhddnglcliaa
set_option linter.unusedVariables false
set_option linter.unusedSimpArgs false
open Go Go.ChangeShapes Go.WideShapes Go.ChangeAt Go.RowKit Go.Deep

/-- the permutations of 0 .. n - 1 that begin so, d numbers more, in ascending order -/
def exts (n : Nat) : Nat → List Int → List (List Int)
  | 0, pre => [pre]
  | d + 1, pre => (List.range n).flatMap fun i : Nat => if (i : Int) ∈ pre then [] else exts n d (pre ++ [(i : Int)])
/-- one number more is tried -/
def extk (n d : Nat) (pre : List Int) (k : Nat) : List (List Int) := (List.range k).flatMap fun i : Nat => if (i : Int) ∈ pre then [] else exts n d (pre ++ [(i : Int)])
theorem extk_zero (n d : Nat) (pre : List Int) : extk n d pre 0 = [] := rfl
theorem extk_yes {n d k : Nat} {pre : List Int} (h : (k : Int) ∈ pre) : extk n d pre (k + 1) = extk n d pre k := by
  unfold extk
  rw [List.range_succ, List.flatMap_append]
  simp [h]
theorem extk_no {n d k : Nat} {pre : List Int} (h : ¬ (k : Int) ∈ pre) : extk n d pre (k + 1) = extk n d pre k ++ exts n d (pre ++ [(k : Int)]) := by
  unfold extk
  rw [List.range_succ, List.flatMap_append]
  simp [h]
theorem exts_succ (n d : Nat) (pre : List Int) : exts n (d + 1) pre = extk n d pre n := rfl
theorem exts_mem {n : Nat} {l : List Int} (hp : pmB l n = true) (hn : n ≤ 4) : ∀ (d k : Nat), k + d = n → l ∈ exts n d (l.take k) := by
  obtain ⟨h1, h2⟩ := pmB_iff.1 hp
  have hd := (cov_dst h1 hn).1 h2
  intro d
  induction d with
  | zero =>
    intro k hk
    rw [List.take_of_length_le (by omega)]
    simp [exts]
  | succ d ih =>
    intro k hk
    obtain ⟨z, hz⟩ : ∃ z, l[k]? = some z := ⟨_, List.getElem?_eq_getElem (by omega)⟩
    obtain ⟨⟨h3, h4⟩, h5⟩ := hd k z (by omega) hz
    have hni : ¬ ((z.toNat : Nat) : Int) ∈ l.take k := by
      rw [show ((z.toNat : Nat) : Int) = z by omega]
      intro hm
      obtain ⟨j, hj⟩ := List.mem_iff_getElem?.1 hm
      rw [List.getElem?_take] at hj
      split at hj
      · rename_i hjk
        exact h5 j hjk hj
      · cases hj
    unfold exts
    refine List.mem_flatMap.2 ⟨z.toNat, List.mem_range.2 (by omega), ?_⟩
    rw [if_neg hni, show ((z.toNat : Nat) : Int) = z by omega, ← take_at hz]
    exact ih (k + 1) (by omega)
theorem exts_perm : ∀ n, n ≤ 4 → ∀ o ∈ exts n n [], pmB o n = true := by
  intro n hn
  rcases (by omega : n = 0 ∨ n = 1 ∨ n = 2 ∨ n = 3 ∨ n = 4) with rfl | rfl | rfl | rfl | rfl <;> decide +kernel
theorem exts_some : ∀ n, n ≤ 4 → ∃ o L, exts n n [] = o :: L := by
  intro n hn
  rcases (by omega : n = 0 ∨ n = 1 ∨ n = 2 ∨ n = 3 ∨ n = 4) with rfl | rfl | rfl | rfl | rfl <;> exact ⟨_, _, rfl⟩
/-- the digits of a number in base 4: the last n, and what is left -/
def dig : Nat → Nat → List Int
  | 0, _ => []
  | n + 1, c => dig n (c / 4) ++ [((c % 4 : Nat) : Int)]
def ordC (n c : Nat) : Option (List Int) := if c / 4 ^ n > 0 ∨ pmB (dig n c) n = false then none else some (dig n c)
theorem codes : ∀ n, n ≤ 4 → (List.range 256).filterMap (ordC n) = exts n n [] := by
  intro n hn
  rcases (by omega : n = 0 ∨ n = 1 ∨ n = 2 ∨ n = 3 ∨ n = 4) with rfl | rfl | rfl | rfl | rfl <;> decide +kernel
/-- the fewest changes of needs that are given as lists -/
def leR (q : Nat) (R : List (List Int)) : Nat := LS.outl q (R.map mk) 0
theorem mks_R {xs : List Nd} {R : List (List Int)} (h : xs.map (·.l) = R) : mks xs = R.map mk := by
  rw [← h, List.map_map]
  rfl
/-- one order more is looked at -/
def bsF (js : List Jb) (q : Nat) (st : List Int × Nat) (o : List Int) : List Int × Nat := if leR q (jnL js o) < st.2 then (o, leR q (jnL js o)) else st
def bsR (js : List Jb) (q : Nat) : List Int × Nat := (exts js.length js.length []).foldl (bsF js q) ([], 25)
theorem fold_code (js : List Jb) (q : Nat) (st : List Int × Nat) : ∀ (l : List Nat), (l.filterMap (ordC js.length)).foldl (bsF js q) st = l.foldl (fun st c => match ordC js.length c with | none => st | some o => bsF js q st o) st := by
  intro l
  induction l generalizing st with
  | nil => rfl
  | cons c l ih =>
    rw [List.foldl_cons, ← ih]
    cases h : ordC js.length c with
    | none => rw [List.filterMap_cons_none h]
    | some o => rw [List.filterMap_cons_some h, List.foldl_cons]
theorem toN_perm {js : List Jb} {l : List Int} (hp : pmB l js.length = true) (hn : js.length ≤ 4) : (jnL js l).length = toN js := by
  obtain ⟨h1, h2⟩ := pmB_iff.1 hp
  obtain ⟨n, hjn⟩ : ∃ n, js.length = n := ⟨_, rfl⟩
  have hm := exts_mem hp hn js.length 0 (by omega)
  rw [List.take_zero] at hm
  unfold jnL toN
  rw [hjn] at hm hn
  match js, hjn with
  | [], rfl => simp [exts] at hm; subst hm; rfl
  | [a], rfl => simp [exts, List.range_succ] at hm; subst hm; simp [jnF]
  | [a, b], rfl =>
    have hm' : l ∈ [[0, 1], [1, 0]] := hm
    simp only [List.mem_cons, List.not_mem_nil, or_false] at hm'
    rcases hm' with rfl | rfl <;> simp [jnF] <;> omega
  | [a, b, c], rfl =>
    have hm' : l ∈ [[0, 1, 2], [0, 2, 1], [1, 0, 2], [1, 2, 0], [2, 0, 1], [2, 1, 0]] := hm
    simp only [List.mem_cons, List.not_mem_nil, or_false] at hm'
    rcases hm' with rfl | rfl | rfl | rfl | rfl | rfl <;> simp [jnF] <;> omega
  | [a, b, c, d], rfl =>
    have hm' : l ∈ [[0, 1, 2, 3], [0, 1, 3, 2], [0, 2, 1, 3], [0, 2, 3, 1], [0, 3, 1, 2], [0, 3, 2, 1], [1, 0, 2, 3], [1, 0, 3, 2], [1, 2, 0, 3], [1, 2, 3, 0], [1, 3, 0, 2], [1, 3, 2, 0], [2, 0, 1, 3], [2, 0, 3, 1], [2, 1, 0, 3], [2, 1, 3, 0], [2, 3, 0, 1], [2, 3, 1, 0], [3, 0, 1, 2], [3, 0, 2, 1], [3, 1, 0, 2], [3, 1, 2, 0], [3, 2, 0, 1], [3, 2, 1, 0]] := hm
    simp only [List.mem_cons, List.not_mem_nil, or_false] at hm'
    rcases hm' with rfl | rfl | rfl | rfl | rfl | rfl | rfl | rfl | rfl | rfl | rfl | rfl | rfl | rfl | rfl | rfl | rfl | rfl | rfl | rfl | rfl | rfl | rfl | rfl <;> simp [jnF] <;> omega
  | a :: b :: c :: d :: e :: r, rfl => simp at hn
/-- what is joined is in order -/
theorem jn_ok {js : List Jb} {l : List Int} {xs : List Nd} (hj : joE js = 0) (hp : pmB l js.length = true) (ht : toN js ≤ 24) (hx : xs.map (·.l) = jnL js l) : vaE xs = 0 := by
  have hn := joE_len hj
  have hlen : xs.length ≤ 24 := by
    have := congrArg List.length hx
    rw [List.length_map, toN_perm hp hn] at this
    omega
  have hf : joF js = 0 := by
    unfold joE at hj
    rwa [if_neg (by omega)] at hj
  have hB : ndsB xs = true := by
    refine nds_end fun i x hi hx' => ?_
    have hxm : x.l ∈ jnL js l := by
      rw [← hx]
      exact List.mem_map.2 ⟨x, List.mem_of_getElem? hx', rfl⟩
    unfold jnL at hxm
    obtain ⟨z, hz, hzm⟩ := List.mem_flatMap.1 hxm
    unfold jnF at hzm
    split at hzm
    · rename_i j hj'
      obtain ⟨y, hy, e⟩ := List.mem_map.1 hzm
      have := nds_in (vaE_ok (joF_ok hf j (List.mem_of_getElem? hj'))).2 hy
      unfold ndB
      rw [← e]
      simp [this.1, this.2]
    · simp at hzm
  unfold vaE
  rw [if_neg (by omega), if_pos hB]
theorem leR_le {js : List Jb} {l : List Int} {q : Nat} (hj : joE js = 0) (hp : pmB l js.length = true) (ht : toN js ≤ 24) (hq : 1 ≤ q) : leR q (jnL js l) ≤ 24 := by
  have hl := toN_perm hp (joE_len hj)
  unfold leR
  refine Nat.le_trans (LS.outl_le hq fun n hn => ?_) (by rw [List.length_map]; omega)
  have hx : ((jnL js l).map fun r => (⟨none, 0, r⟩ : Nd)).map (·.l) = jnL js l := by rw [List.map_map]; exact List.map_id _
  have hv := jn_ok hj hp ht hx
  refine mks_ok (vaE_ok hv).2 n ?_
  rw [mks_R hx]
  exact hn
theorem fold_top {js : List Jb} {q : Nat} : ∀ (L : List (List Int)) (st : List Int × Nat), (L.foldl (bsF js q) st).2 ≤ st.2 ∧ (∀ o ∈ L, (L.foldl (bsF js q) st).2 ≤ leR q (jnL js o)) ∧ (L.foldl (bsF js q) st = st ∨ ∃ o ∈ L, L.foldl (bsF js q) st = (o, leR q (jnL js o)))
  | [], st => ⟨Nat.le_refl _, fun o ho => by simp at ho, .inl rfl⟩
  | o :: L, st => by
    obtain ⟨h1, h2, h3⟩ := fold_top (js := js) (q := q) L (bsF js q st o)
    rw [List.foldl_cons]
    have h4 : (bsF js q st o).2 ≤ st.2 ∧ (bsF js q st o).2 ≤ leR q (jnL js o) ∧ (bsF js q st o = st ∨ bsF js q st o = (o, leR q (jnL js o))) := by
      unfold bsF
      split
      · exact ⟨by simp only; omega, Nat.le_refl _, .inr rfl⟩
      · exact ⟨Nat.le_refl _, by omega, .inl rfl⟩
    refine ⟨by omega, fun o' ho' => ?_, ?_⟩
    · rcases List.mem_cons.1 ho' with rfl | ho'
      · omega
      · exact h2 o' ho'
    · rcases h3 with h3 | ⟨o', ho', h3⟩
      · rw [h3]
        rcases h4.2.2 with h5 | h5
        · exact .inl h5
        · exact .inr ⟨o, List.mem_cons_self .., h5⟩
      · exact .inr ⟨o', List.mem_cons_of_mem _ ho', h3⟩
theorem fold_start {js : List Jb} {q : Nat} (hj : joE js = 0) (ht : toN js ≤ 24) (hq : 1 ≤ q) {a b : List Int} {m : Nat} (hm : 24 < m) : (exts js.length js.length []).foldl (bsF js q) (a, m) = bsR js q := by
  have hn := joE_len hj
  obtain ⟨o, L, e⟩ := exts_some js.length hn
  have hp := exts_perm js.length hn o (by rw [e]; exact List.mem_cons_self ..)
  have hl := leR_le hj hp ht hq
  unfold bsR
  rw [e, List.foldl_cons, List.foldl_cons]
  unfold bsF
  rw [if_pos (by simp only; omega), if_pos (by simp only; omega)]
/-- the best order is one, and no order has fewer -/
theorem bsR_ok {js : List Jb} {q : Nat} (hj : joE js = 0) (ht : toN js ≤ 24) (hq : 1 ≤ q) : pmB (bsR js q).1 js.length = true ∧ (bsR js q).2 = leR q (jnL js (bsR js q).1) ∧ ∀ l, pmB l js.length = true → (bsR js q).2 ≤ leR q (jnL js l) := by
  have hn := joE_len hj
  obtain ⟨h1, h2, h3⟩ := fold_top (js := js) (q := q) (exts js.length js.length []) ([], 25)
  refine ⟨?_, ?_, fun l hl => ?_⟩
  · rcases h3 with h3 | ⟨o, ho, h3⟩
    · exfalso
      obtain ⟨o, L, e⟩ := exts_some js.length hn
      have ho : o ∈ exts js.length js.length [] := by rw [e]; exact List.mem_cons_self ..
      have := h2 o ho
      rw [h3] at this
      have h4 := leR_le hj (exts_perm js.length hn o ho) ht hq
      simp only at this
      omega
    · unfold bsR
      rw [h3]
      exact exts_perm js.length hn o ho
  · rcases h3 with h3 | ⟨o, ho, h3⟩
    · exfalso
      obtain ⟨o, L, e⟩ := exts_some js.length hn
      have ho : o ∈ exts js.length js.length [] := by rw [e]; exact List.mem_cons_self ..
      have := h2 o ho
      rw [h3] at this
      have h4 := leR_le hj (exts_perm js.length hn o ho) ht hq
      simp only at this
      omega
    · unfold bsR
      rw [h3]
  · have hm := exts_mem hl hn js.length 0 (by omega)
    rw [List.take_zero] at hm
    exact h2 l hm
/-- the error of Best -/
def beE (js : List Jb) (s : Int) : Int := if joE js ≠ 0 then joE js else if wiB s 1 3 = false then 1 else if 24 < toN js then 4 else 0
/-- what Best gives -/
def beL (js : List Jb) (s : Int) : List Int := if beE js s = 0 then (bsR js s.toNat).1 else []
def beN (js : List Jb) (s : Int) : Nat := if beE js s = 0 then (bsR js s.toNat).2 else 0
theorem beE_ok {js : List Jb} {s : Int} (h : beE js s = 0) : joE js = 0 ∧ (1 ≤ s ∧ s ≤ 3) ∧ toN js ≤ 24 := by
  unfold beE at h
  split at h
  · rename_i h1
    exact absurd h h1
  · rename_i h1
    split at h
    · cases h
    · rename_i h2
      split at h
      · cases h
      · rename_i h3
        exact ⟨by simpa using h1, wiB_iff.1 (by simpa using h2), by omega⟩
end Go.Proofs.Ytfndhddnglcliaa
