/-
  Nests, plain: the reference's fit: what is in the way at a height, the heights, the first place.
  Nests, plain: a number put into an ascending list in place; own rows of numbers stored over.
  Nests, plain: the loops of the reference's fit.
  Nests: a number put into an ascending list in place, of the reference.
  Nests: what is in the way at a height, of the reference.
  Nests: append of any list in memory onto a row of the call's own; the lowest place of the reference at a height.
  Nests: the lowest place at a height, of the reference.
  Nests: the heights at which the lowest place can be, of the reference.
-/
import Derived.Test.YtddhaiaapomdjaaGreatGJn
import Derived.Test.YtddhaiaapomdjaaGreatGCn
import Derived.Test.YtddhaiaapomdjaaGreatGAn
set_option linter.unusedVariables false
set_option linter.unusedSimpArgs false
namespace Go.Proofs.YtddhaiaapomdjaaGreat
set_option linter.unusedVariables false
set_option linter.unusedSimpArgs false
open Go Go.ChangeShapes Go.WideShapes Go.ChangeAt Go.RowKit Go.Deep

namespace RG
def inSp (p : Int × Int) (x : Int) : Prop := p.1 < x ∧ x < p.2
def exL (r o : Rc) : Int := o.x - r.w - r.x
def exR (r o : Rc) : Int := o.x + o.w - r.x
def exAp (r o : Rc) (y : Int) : Int := max (max 0 (o.y - (y + r.y) - r.h)) (y + r.y - o.y - o.h)
def exH (r o : Rc) (y : Int) : List (Int × Int) := if y + r.y < o.y + o.h ∧ o.y < y + r.y + r.h then [(exL r o, exR r o)] else []
def excL (r o : Rc) (y : Int) (t : St) (soft : Bool) : List (Int × Int) :=
  if soft = false ∨ t.g ≤ exAp r o y then exH r o y
  else if t.c = true ∧ exAp r o y = 0 then exH r o y ++ [(exL r o - t.g, exL r o), (exR r o, exR r o + t.g)]
  else exH r o y ++ [(exL r o - t.g, exR r o + t.g)]
def awL1 (hard soft : List Rc) (t : St) (y : Int) (r : Rc) : List (Int × Int) := hard.flatMap (fun o => excL r o y t false) ++ soft.flatMap (fun o => excL r o y t true)
def awL (l hard soft : List Rc) (t : St) (y : Int) : List (Int × Int) := l.flatMap (awL1 hard soft t y)
theorem exH_iff {r o : Rc} {x y : Int} : (∃ p ∈ exH r o y, inSp p x) ↔ inBr (arBr r o 0) x y := by
  unfold exH
  by_cases h : y + r.y < o.y + o.h ∧ o.y < y + r.y + r.h
  · rw [if_pos h]
    simp only [List.mem_singleton, exists_eq_left, inSp, exL, exR, inBr, arBr]
    omega
  · rw [if_neg h]
    simp only [List.not_mem_nil, false_and, exists_false, inBr, arBr, false_iff]
    omega
theorem exc_hard {r o : Rc} {t : St} {x y : Int} : (∃ p ∈ excL r o y t false, inSp p x) ↔ inBr (arBr r o 0) x y := by
  unfold excL
  rw [if_pos (.inl rfl)]
  exact exH_iff
theorem ex_app {l m : List (Int × Int)} {x : Int} : (∃ p ∈ l ++ m, inSp p x) ↔ (∃ p ∈ l, inSp p x) ∨ ∃ p ∈ m, inSp p x := by
  simp only [List.mem_append]
  constructor
  · rintro ⟨p, h | h, e⟩
    · exact .inl ⟨p, h, e⟩
    · exact .inr ⟨p, h, e⟩
  · rintro (⟨p, h, e⟩ | ⟨p, h, e⟩)
    · exact ⟨p, .inl h, e⟩
    · exact ⟨p, .inr h, e⟩
theorem ex_one {q : Int × Int} {x : Int} : (∃ p ∈ [q], inSp p x) ↔ inSp q x := by simp
theorem ex_two {q s : Int × Int} {x : Int} : (∃ p ∈ [q, s], inSp p x) ↔ inSp q x ∨ inSp s x := by simp
theorem exc_soft {r o : Rc} {t : St} {x y : Int} (hr : 0 < r.w ∧ 0 < r.h) (ho : 0 < o.w ∧ 0 < o.h) (hg : 0 ≤ t.g) : (∃ p ∈ excL r o y t true, inSp p x) ↔ ∃ b ∈ ucBr r o t, inBr b x y := by
  have e : (∃ b ∈ ucBr r o t, inBr b x y) ↔ if t.c = true then (inBr (arBr r o 0) x y ∨ inBr ⟨(arBr r o t.g).l, (arBr r o t.g).r, (arBr r o t.g).b, (arBr r o 1).b - 1⟩ x y ∨ inBr ⟨(arBr r o t.g).l, (arBr r o t.g).r, (arBr r o 1).t + 1, (arBr r o t.g).t⟩ x y ∨ inBr ⟨(arBr r o t.g).l, (arBr r o 1).l - 1, (arBr r o 1).b, (arBr r o 1).t⟩ x y ∨ inBr ⟨(arBr r o 1).r + 1, (arBr r o t.g).r, (arBr r o 1).b, (arBr r o 1).t⟩ x y) else inBr (arBr r o t.g) x y := by
    unfold ucBr
    cases t.c <;> simp
  rw [e]
  unfold excL
  by_cases h1 : t.g ≤ exAp r o y
  · rw [if_pos (.inr h1), exH_iff]
    unfold exAp at h1
    by_cases hc : t.c = true
    · rw [if_pos hc]
      simp only [inBr, arBr]
      omega
    · rw [if_neg hc]
      simp only [inBr, arBr]
      omega
  · rw [if_neg (by simp [h1])]
    by_cases hc : t.c = true
    · rw [if_pos hc]
      by_cases h2 : exAp r o y = 0
      · rw [if_pos ⟨hc, h2⟩, ex_app, exH_iff, ex_two]
        unfold exAp at h1 h2
        simp only [inBr, arBr, inSp, exL, exR]
        omega
      · rw [if_neg (fun h => h2 h.2), ex_app, exH_iff, ex_one]
        unfold exAp at h1 h2
        simp only [inBr, arBr, inSp, exL, exR]
        omega
    · rw [if_neg hc, if_neg (fun h => hc h.1), ex_app, exH_iff, ex_one]
      unfold exAp at h1
      simp only [inBr, arBr, inSp, exL, exR]
      omega
theorem aw_iff {l hard soft : List Rc} {t : St} {x y : Int} (hl : ∀ r ∈ l, 0 < r.w ∧ 0 < r.h) (hs : ∀ o ∈ soft, 0 < o.w ∧ 0 < o.h) (hg : 0 ≤ t.g) : (∃ p ∈ awL l hard soft t y, inSp p x) ↔ ∃ b ∈ fdB l hard soft t, inBr b x y := by
  unfold awL fdB awL1 fdB1
  simp only [List.mem_flatMap, List.mem_append, List.mem_map]
  constructor
  · rintro ⟨p, ⟨r, hr, ⟨o, ho, hp⟩ | ⟨o, ho, hp⟩⟩, hi⟩
    · exact ⟨_, ⟨r, hr, .inl ⟨o, ho, rfl⟩⟩, exc_hard.1 ⟨p, hp, hi⟩⟩
    · obtain ⟨b, hb, hi'⟩ := (exc_soft (hl r hr) (hs o ho) hg).1 ⟨p, hp, hi⟩
      exact ⟨b, ⟨r, hr, .inr ⟨o, ho, hb⟩⟩, hi'⟩
  · rintro ⟨b, ⟨r, hr, ⟨o, ho, rfl⟩ | ⟨o, ho, hb⟩⟩, hi⟩
    · obtain ⟨p, hp, hi'⟩ := exc_hard.2 hi
      exact ⟨p, ⟨r, hr, .inl ⟨o, ho, hp⟩⟩, hi'⟩
    · obtain ⟨p, hp, hi'⟩ := (exc_soft (hl r hr) (hs o ho) hg).2 ⟨b, hb, hi⟩
      exact ⟨p, ⟨r, hr, .inr ⟨o, ho, hp⟩⟩, hi'⟩
def htC1 (hard soft : List Rc) (t : St) (r : Rc) : List Int := hard.map (fun o => o.y + o.h - r.y) ++ soft.flatMap fun o => [o.y + o.h - r.y, o.y + o.h + t.g - r.y, o.y - r.h - r.y]
def htC (l hard soft : List Rc) (t : St) : List Int := l.flatMap (htC1 hard soft t)
theorem ht_need {f : Br} {l hard soft : List Rc} {t : St} {x y : Int} (hl : ∀ r ∈ l, 0 < r.w ∧ 0 < r.h) (hs : ∀ o ∈ soft, 0 < o.w ∧ 0 < o.h) (hg : 0 ≤ t.g) (h : FreeP f (fdB l hard soft t) x y) (hn : ¬ FreeP f (fdB l hard soft t) x (y - 1)) : y = f.b ∨ y ∈ htC l hard soft t := by
  by_cases hy : y = f.b
  · exact .inl hy
  · refine .inr ?_
    obtain ⟨h1, h2⟩ := h
    have h3 : ∃ b ∈ fdB l hard soft t, inBr b x (y - 1) := by
      refine Classical.byContradiction fun k => hn ⟨?_, fun b hb hi => k ⟨b, hb, hi⟩⟩
      unfold inBr at h1 ⊢
      omega
    obtain ⟨b, hb, hi⟩ := h3
    unfold fdB at hb
    obtain ⟨r, hr, hb⟩ := List.mem_flatMap.1 hb
    unfold fdB1 at hb
    have hrp := hl r hr
    refine List.mem_flatMap.2 ⟨r, hr, ?_⟩
    unfold htC1
    rcases List.mem_append.1 hb with hb | hb
    · obtain ⟨o, ho, rfl⟩ := List.mem_map.1 hb
      have := h2 (arBr r o 0) (List.mem_flatMap.2 ⟨r, hr, List.mem_append.2 (.inl (List.mem_map.2 ⟨o, ho, rfl⟩))⟩)
      refine List.mem_append.2 (.inl (List.mem_map.2 ⟨o, ho, ?_⟩))
      simp only [inBr, arBr] at hi this
      omega
    · obtain ⟨o, ho, hb⟩ := List.mem_flatMap.1 hb
      have hop := hs o ho
      have hall : ∀ b' ∈ ucBr r o t, ¬ inBr b' x y := fun b' hb' => h2 b' (List.mem_flatMap.2 ⟨r, hr, List.mem_append.2 (.inr (List.mem_flatMap.2 ⟨o, ho, hb'⟩))⟩)
      refine List.mem_append.2 (.inr (List.mem_flatMap.2 ⟨o, ho, ?_⟩))
      have key : y = o.y + o.h - r.y ∨ y = o.y + o.h + t.g - r.y ∨ y = o.y - r.h - r.y := by
        unfold ucBr at hb hall
        cases hc : t.c with
        | false =>
          simp only [hc, Bool.false_eq_true, if_false, List.mem_singleton, forall_eq] at hb hall
          subst hb
          simp only [inBr, arBr] at hi hall
          omega
        | true =>
          simp only [hc, if_true, List.mem_cons, List.not_mem_nil, or_false, forall_eq_or_imp, forall_eq] at hb hall
          obtain ⟨a1, a2, a3, a4, a5⟩ := hall
          simp only [inBr, arBr] at a1 a2 a3 a4 a5
          rcases hb with rfl | rfl | rfl | rfl | rfl <;> simp only [inBr, arBr] at hi <;> omega
      rcases key with rfl | rfl | rfl <;> simp
theorem drop6 {f : Br} {bs : List Br} {x : Int} : ∀ (n : Nat) (y : Int), y = f.b + n → FreeP f bs x y → ∃ z, z ≤ y ∧ FreeP f bs x z ∧ (z = f.b ∨ ¬ FreeP f bs x (z - 1))
  | 0, y, e, h => ⟨y, Int.le_refl _, h, .inl (by omega)⟩
  | n + 1, y, e, h => by
    by_cases k : FreeP f bs x (y - 1)
    · obtain ⟨z, h1, h2, h3⟩ := drop6 n (y - 1) (by omega) k
      exact ⟨z, by omega, h2, h3⟩
    · exact ⟨y, Int.le_refl _, h, .inr k⟩
structure LoX (m : Int) (aw : List (Int × Int)) (x : Int) : Prop where
  ge : m ≤ x
  out : ∀ p ∈ aw, ¬ inSp p x
  bel : ∀ z, m ≤ z → z < x → ∃ p ∈ aw, inSp p z
structure PlR (m last top : Int) (aw : Int → List (Int × Int)) (ys : List Int) (o : Option (Int × Int)) : Prop where
  yes : ∀ x y, o = some (x, y) → (m ≤ y ∧ y ≤ top) ∧ (LoX m (aw y) x ∧ x ≤ last) ∧ ∀ y', y' ∈ ys → y' < y → m ≤ y' → y' ≤ top → ∃ x', LoX m (aw y') x' ∧ last < x'
  no : o = none → ∀ y', y' ∈ ys → m ≤ y' → y' ≤ top → ∃ x', LoX m (aw y') x' ∧ last < x'
theorem plR_fsO {m last top : Int} {l hard soft : List Rc} {t : St} {ys : List Int} {o : Option (Int × Int)} (hl : ∀ r ∈ l, 0 < r.w ∧ 0 < r.h) (hs : ∀ o ∈ soft, 0 < o.w ∧ 0 < o.h) (hg : 0 ≤ t.g) (hy : ∀ y, y = m ∨ y ∈ htC l hard soft t → y ∈ ys) (h : PlR m last top (awL l hard soft t) ys o) : FsO ⟨m, last, m, top⟩ (fdB l hard soft t) o := by
  have hd : ∀ x' y', FreeP ⟨m, last, m, top⟩ (fdB l hard soft t) x' y' → ∃ z, z ≤ y' ∧ z ∈ ys ∧ (m ≤ z ∧ z ≤ top) ∧ (m ≤ x' ∧ x' ≤ last) ∧ ∀ p ∈ awL l hard soft t z, ¬ inSp p x' := fun x' y' hf => by
    have h1 := hf.1
    simp only [inBr] at h1
    obtain ⟨z, a, b, c⟩ := drop6 (y' - m).toNat y' (by simp only; omega) hf
    have h2 := b.1
    simp only [inBr] at h2
    refine ⟨z, a, ?_, ⟨h2.2.2.1, h2.2.2.2⟩, ⟨h2.1, h2.2.1⟩, fun p hp hi => ?_⟩
    · rcases c with c | c
      · exact hy z (.inl c)
      · exact hy z (ht_need hl hs hg b c)
    · obtain ⟨b', hb', hi'⟩ := (aw_iff hl hs hg).1 ⟨p, hp, hi⟩
      exact b.2 b' hb' hi'
  constructor
  · intro x y e
    obtain ⟨⟨a1, a2⟩, ⟨a3, a4⟩, a5⟩ := h.yes x y e
    refine ⟨⟨⟨a3.ge, a4, a1, a2⟩, fun b hb hi => ?_⟩, fun x' y' hf => ?_⟩
    · obtain ⟨p, hp, hi'⟩ := (aw_iff hl hs hg).2 ⟨b, hb, hi⟩
      exact a3.out p hp hi'
    · obtain ⟨z, b1, b2, ⟨b3, b4⟩, ⟨b5, b6⟩, b7⟩ := hd x' y' hf
      rcases Int.lt_trichotomy z y with q | q | q
      · obtain ⟨x0, c1, c2⟩ := a5 z b2 q b3 b4
        obtain ⟨p, hp, hi⟩ := c1.bel x' b5 (by omega)
        exact absurd hi (b7 p hp)
      · subst q
        have hx : x ≤ x' := by
          refine Int.not_lt.1 fun hlt => ?_
          obtain ⟨p, hp, hi⟩ := a3.bel x' b5 hlt
          exact b7 p hp hi
        omega
      · exact .inl (by omega)
  · intro e x' y' hf
    obtain ⟨z, b1, b2, ⟨b3, b4⟩, ⟨b5, b6⟩, b7⟩ := hd x' y' hf
    obtain ⟨x0, c1, c2⟩ := h.no e z b2 b3 b4
    obtain ⟨p, hp, hi⟩ := c1.bel x' b5 (by omega)
    exact b7 p hp hi
theorem fsO_uniq {f : Br} {l : List Br} {o o' : Option (Int × Int)} (h : FsO f l o) (h' : FsO f l o') : o = o' := by
  cases o with
  | none =>
    cases o' with
    | none => rfl
    | some q =>
      obtain ⟨x, y⟩ := q
      exact absurd (h'.yes x y rfl).1 (h.no rfl x y)
  | some q =>
    obtain ⟨x, y⟩ := q
    cases o' with
    | none => exact absurd (h.yes x y rfl).1 (h'.no rfl x y)
    | some q' =>
      obtain ⟨x', y'⟩ := q'
      have a := (h.yes x y rfl).2 x' y' (h'.yes x' y' rfl).1
      have b := (h'.yes x' y' rfl).2 x y (h.yes x y rfl).1
      have e1 : x = x' := by omega
      have e2 : y = y' := by omega
      rw [e1, e2]
theorem ftO_uniq {o o' : Nat → Option (Int × Int)} {r r' : Option (Nat × Int × Int)} (he : ∀ t, t < 4 → o t = o' t) (h : FtO o r) (h' : FtO o' r') : r = r' := by
  cases r with
  | none =>
    cases r' with
    | none => rfl
    | some q =>
      obtain ⟨t, x, y⟩ := q
      obtain ⟨a, b, _⟩ := h'.yes t x y rfl
      have := h.no rfl t a
      rw [he t a, b] at this
      cases this
  | some q =>
    obtain ⟨t, x, y⟩ := q
    obtain ⟨a, b, c⟩ := h.yes t x y rfl
    cases r' with
    | none =>
      have := h'.no rfl t a
      rw [← he t a, b] at this
      cases this
    | some q' =>
      obtain ⟨t', x', y'⟩ := q'
      obtain ⟨a', b', c'⟩ := h'.yes t' x' y' rfl
      have d := c t' x' y' a' (by rw [he t' a']; exact b')
      have d' := c' t x y a (by rw [← he t a]; exact b)
      have e1 : x = x' := by omega
      have e2 : y = y' := by omega
      have e3 : t = t' := by omega
      rw [e1, e2, e3]
end RG
end Go.Proofs.YtddhaiaapomdjaaGreat
set_option linter.unusedVariables false
set_option linter.unusedSimpArgs false
namespace Go.Proofs.YtddhaiaapomdjaaGreat
set_option linter.unusedVariables false
set_option linter.unusedSimpArgs false
open Go Go.ChangeShapes Go.WideShapes Go.ChangeAt Go.RowKit Go.Deep

namespace RG
def siL (l : List Int) (k : Nat) (x : Int) : List Int := l.take k ++ x :: l.drop k
theorem siL_len {l : List Int} {k : Nat} {x : Int} (h : k ≤ l.length) : (siL l k x).length = l.length + 1 := by
  unfold siL
  rw [List.length_append, List.length_cons, List.length_take, List.length_drop]
  omega
theorem siL_end (l : List Int) (x : Int) : l ++ [x] = siL l l.length x := by
  unfold siL
  rw [List.take_length, List.drop_length]
theorem siL_set {l : List Int} {k : Nat} {x y : Int} (h : k ≤ l.length) : (siL l k x).set k y = siL l k y := by
  unfold siL
  have e : (l.take k).length = k := by rw [List.length_take]; omega
  rw [List.set_append, if_neg (by omega), e, Nat.sub_self]
  rfl
theorem siL_read {l : List Int} {k : Nat} {x z : Int} (h : l[k]? = some z) : (siL l (k + 1) x)[k]? = some z := by
  have hk : k < l.length := (List.getElem?_eq_some_iff.1 h).1
  unfold siL
  have e : (l.take (k + 1)).length = k + 1 := by rw [List.length_take]; omega
  rw [List.getElem?_append_left (by omega), List.getElem?_take, if_pos (by omega)]
  exact h
theorem siL_move {l : List Int} {k : Nat} {z : Int} (h : l[k]? = some z) : siL l (k + 1) z = siL l k z := by
  obtain ⟨hk, e⟩ := List.getElem?_eq_some_iff.1 h
  unfold siL
  have e1 : l.take (k + 1) = l.take k ++ [z] := take_at h
  have e2 : l.drop k = z :: l.drop (k + 1) := by
    rw [List.drop_eq_getElem_cons hk, e]
  rw [e1, e2, List.append_assoc]
  rfl
theorem ins_mid {n : Int} : ∀ {a b : List Int}, (∀ x ∈ a, x < n) → (∀ x ∈ b, n < x) → ins (a ++ b) n = a ++ n :: b
  | [], [], _, _ => rfl
  | [], y :: b, _, h => by
    have := h y List.mem_cons_self
    show ins (y :: b) n = n :: y :: b
    unfold ins
    rw [if_neg (by omega), if_pos this]
  | y :: a, b, h, k => by
    have := h y List.mem_cons_self
    show ins (y :: (a ++ b)) n = y :: (a ++ n :: b)
    unfold ins
    rw [if_neg (by omega), if_neg (by omega), ins_mid (fun x hx => h x (List.mem_cons_of_mem _ hx)) k]
theorem ins_has {n : Int} : ∀ {l : List Int}, Up l → n ∈ l → ins l n = l
  | [], _, h => by simp at h
  | y :: l, hu, h => by
    have hu' := List.pairwise_cons.1 hu
    unfold ins
    by_cases e : y = n
    · rw [if_pos e]
    · rw [if_neg e]
      rcases List.mem_cons.1 h with h | h
      · exact absurd h.symm e
      · have := hu'.1 n h
        rw [if_neg (by omega), ins_has hu'.2 h]
structure PosI (l : List Int) (n : Int) (i : Nat) : Prop where
  le : i ≤ l.length
  up : ∀ j x, i ≤ j → l[j]? = some x → n < x
theorem posI_end (l : List Int) (n : Int) : PosI l n l.length := ⟨Nat.le_refl _, fun j x h e => by rw [List.getElem?_eq_none h] at e; cases e⟩
theorem PosI.step {l : List Int} {n z : Int} {i : Nat} (h : PosI l n (i + 1)) (hz : l[i]? = some z) (hn : n < z) : PosI l n i := ⟨by have := h.le; omega, fun j x hj hx => by
  rcases Nat.lt_or_ge i j with q | q
  · exact h.up j x (by omega) hx
  · obtain rfl : j = i := by omega
    rw [hz] at hx
    obtain rfl := Option.some.inj hx
    exact hn⟩
theorem PosI.ins0 {l : List Int} {n : Int} (h : PosI l n 0) : ins l n = siL l 0 n := by
  unfold siL
  rw [List.take_zero, List.drop_zero]
  refine ins_mid (a := []) (fun x hx => by simp at hx) fun x hx => ?_
  obtain ⟨j, hj, e⟩ := List.getElem_of_mem hx
  exact h.up j x (Nat.zero_le _) (by rw [← e]; exact List.getElem?_eq_getElem hj)
theorem PosI.insE {l : List Int} {n : Int} {i : Nat} (hu : Up l) (h : PosI l n (i + 1)) (hz : l[i]? = some n) : ins l n = l := ins_has hu (List.mem_of_getElem? hz)
theorem PosI.insN {l : List Int} {n z : Int} {i : Nat} (hu : Up l) (h : PosI l n (i + 1)) (hz : l[i]? = some z) (hn : z < n) : ins l n = siL l (i + 1) n := by
  have e : ins (l.take (i + 1) ++ l.drop (i + 1)) n = l.take (i + 1) ++ n :: l.drop (i + 1) := by
    refine ins_mid (fun x hx => ?_) fun x hx => ?_
    · rw [take_at hz] at hx
      rcases List.mem_append.1 hx with hx | hx
      · have hp : (l.take (i + 1)).Pairwise (· < ·) := List.Pairwise.sublist (List.take_sublist _ _) hu
        rw [take_at hz] at hp
        have := (List.pairwise_append.1 hp).2.2 x hx z (by simp)
        omega
      · obtain rfl : x = z := by simpa using hx
        exact hn
    · obtain ⟨j, hj, e⟩ := List.getElem_of_mem hx
      rw [List.getElem_drop] at e
      rw [List.length_drop] at hj
      exact h.up (i + 1 + j) x (by omega) (by rw [← e]; exact List.getElem?_eq_getElem (by omega))
  rw [List.take_append_drop] at e
  exact e
theorem fm_inL6 (l : List Int) : l.flatMap inL = l.map iv := by
  induction l with
  | nil => rfl
  | cons x l ih => rw [List.flatMap_cons, ih]; rfl
theorem own_putI {w : World} {base k n d b : Nat} {e : TypeId} {l : List Int} (hn : n = l.length) (h : OwnL w base e 1 inL (.slice (some ⟨b, 0, none⟩) n d) l) (x : Int) :
    OwnL (w.setCell ⟨b, k, none⟩ (iv x)) base e 1 inL (.slice (some ⟨b, 0, none⟩) n d) (l.set k x) ∧ w.grownBy (w.setCell ⟨b, k, none⟩ (iv x)) (some b) := by
  subst hn
  have h' : World.ownsRow w base e 1 (.slice (some ⟨b, 0, none⟩) l.length d) l.length (l.flatMap inL) := h
  have q := World.ownsRow.stored h' k (iv x)
  refine ⟨?_, q.2⟩
  unfold OwnL
  rw [List.length_set, fm_inL6, List.map_set]
  have := q.1
  rw [fm_inL6] at this
  exact this
end RG
end Go.Proofs.YtddhaiaapomdjaaGreat
set_option linter.unusedVariables false
set_option linter.unusedSimpArgs false
namespace Go.Proofs.YtddhaiaapomdjaaGreat
set_option linter.unusedVariables false
set_option linter.unusedSimpArgs false
open Go Go.ChangeShapes Go.WideShapes Go.ChangeAt Go.RowKit Go.Deep

namespace RG
structure LoI (m : Int) (aw : List (Int × Int)) (x : Int) : Prop where
  ge : m ≤ x
  bel : ∀ z, m ≤ z → z < x → ∃ p ∈ aw, inSp p z
theorem loI_zero (m : Int) (aw : List (Int × Int)) : LoI m aw m := ⟨Int.le_refl _, fun z h1 h2 => by omega⟩
theorem LoI.step {m x : Int} {aw : List (Int × Int)} (h : LoI m aw x) {k : Nat} {p : Int × Int} (hp : aw[k]? = some p) (hi : inSp p x) : LoI m aw p.2 := by
  have h1 := h.ge
  unfold inSp at hi
  refine ⟨by omega, fun z a b => ?_⟩
  rcases Int.lt_or_le z x with q | q
  · exact h.bel z a q
  · exact ⟨p, List.mem_of_getElem? hp, by unfold inSp; omega⟩
theorem LoI.fin {m x : Int} {aw : List (Int × Int)} (h : LoI m aw x) (hn : ∀ (j : Nat) (p : Int × Int), j < aw.length → aw[j]? = some p → ¬ inSp p x) : LoX m aw x :=
  ⟨h.ge, fun p hp => by
    obtain ⟨j, hj, e⟩ := List.getElem_of_mem hp
    exact hn j p hj (by rw [← e]; exact List.getElem?_eq_getElem hj), h.bel⟩
def cntS (aw : List (Int × Int)) (x : Int) : Nat := (aw.filter fun p => decide (x < p.2)).length
theorem cntS_le : ∀ (aw : List (Int × Int)) {x y : Int}, x ≤ y → cntS aw y ≤ cntS aw x
  | [], _, _, _ => Nat.le_refl _
  | p :: aw, x, y, h => by
    have ih := cntS_le aw h
    unfold cntS at ih ⊢
    rw [List.filter_cons, List.filter_cons]
    by_cases h1 : y < p.2
    · rw [if_pos (by simpa using h1), if_pos (by simp; omega)]
      simp only [List.length_cons]
      omega
    · rw [if_neg (by simpa using h1)]
      split
      · simp only [List.length_cons]; omega
      · exact ih
theorem cntS_lt : ∀ {aw : List (Int × Int)} {x : Int} {p : Int × Int}, p ∈ aw → x < p.2 → cntS aw p.2 < cntS aw x
  | [], _, _, h, _ => by simp at h
  | q :: aw, x, p, h, hx => by
    have hle := cntS_le aw (x := x) (y := p.2) (by omega)
    unfold cntS at hle ⊢
    rw [List.filter_cons, List.filter_cons]
    rcases List.mem_cons.1 h with h | h
    · subst h
      rw [if_neg (by simp), if_pos (by simpa using hx)]
      simp only [List.length_cons]
      omega
    · have ih := cntS_lt h hx
      unfold cntS at ih
      by_cases h1 : p.2 < q.2
      · rw [if_pos (by simpa using h1), if_pos (by simp; omega)]
        simp only [List.length_cons]
        omega
      · rw [if_neg (by simpa using h1)]
        split
        · simp only [List.length_cons]; omega
        · exact ih
def mxW (l : List Rc) : Int := l.foldl (fun a r => max a (r.x + r.w)) 0
def mxH (l : List Rc) : Int := l.foldl (fun a r => max a (r.y + r.h)) 0
theorem fdR_mx (z : Int) : ∀ (l : List Rc) (a : Int), l.foldl (fun a r => min a (z - r.x - r.w)) (z - a) = z - l.foldl (fun a r => max a (r.x + r.w)) a
  | [], _ => rfl
  | r :: l, a => by
    rw [List.foldl_cons, List.foldl_cons, ← fdR_mx z l (max a (r.x + r.w))]
    congr 1
    omega
theorem fdT_mx (z : Int) : ∀ (l : List Rc) (a : Int), l.foldl (fun a r => min a (z - r.y - r.h)) (z - a) = z - l.foldl (fun a r => max a (r.y + r.h)) a
  | [], _ => rfl
  | r :: l, a => by
    rw [List.foldl_cons, List.foldl_cons, ← fdT_mx z l (max a (r.y + r.h))]
    congr 1
    omega
theorem fdV_mx (wd ht m : Int) (l : List Rc) : fdV (inmR wd ht m) l = ⟨m, wd - m - mxW l, m, ht - m - mxH l⟩ := by
  have h1 := fdR_mx (wd - m) l 0
  have h2 := fdT_mx (ht - m) l 0
  rw [Int.sub_zero] at h1 h2
  unfold fdV fdR fdT
  dsimp only
  rw [show m + (wd - 2 * m) = wd - m by omega, show m + (ht - 2 * m) = ht - m by omega, h1, h2]
  rfl
def htL (m : Int) (C : List Int) : List Int := C.foldl ins [m]
theorem htL_app (m : Int) (C : List Int) (n : Int) : htL m (C ++ [n]) = ins (htL m C) n := by
  unfold htL
  rw [List.foldl_append]
  rfl
theorem ins_fold : ∀ (C : List Int) (l : List Int), Up l → Up (C.foldl ins l) ∧ (∀ x, x ∈ C.foldl ins l ↔ x ∈ l ∨ x ∈ C) ∧ (C.foldl ins l).length ≤ l.length + C.length
  | [], l, h => ⟨h, fun x => by simp, by simp⟩
  | n :: C, l, h => by
    obtain ⟨h1, h2, h3⟩ := ins_fold C (ins l n) (up_ins h)
    have h4 := len_ins l n
    refine ⟨h1, fun x => ?_, ?_⟩
    · rw [List.foldl_cons, h2 x, mem_ins, List.mem_cons]
      constructor
      · rintro ((a | a) | a)
        · exact .inl a
        · exact .inr (.inl a)
        · exact .inr (.inr a)
      · rintro (a | a | a)
        · exact .inl (.inl a)
        · exact .inl (.inr a)
        · exact .inr a
    · rw [List.foldl_cons, List.length_cons]
      omega
theorem htL_up (m : Int) (C : List Int) : Up (htL m C) := (ins_fold C [m] (List.pairwise_singleton _ _)).1
theorem htL_mem {m : Int} {C : List Int} {y : Int} : y ∈ htL m C ↔ y = m ∨ y ∈ C := by
  rw [show htL m C = C.foldl ins [m] from rfl, (ins_fold C [m] (List.pairwise_singleton _ _)).2.1 y, List.mem_singleton]
theorem htL_len (m : Int) (C : List Int) : (htL m C).length ≤ C.length + 1 := by
  have := (ins_fold C [m] (List.pairwise_singleton _ _)).2.2
  simp only [List.length_singleton] at this
  unfold htL
  omega
structure FtK (o : Nat → Option (Int × Int)) (k : Nat) (r : Option (Nat × Int × Int)) : Prop where
  yes : ∀ t x y, r = some (t, x, y) → t < k ∧ o t = some (x, y) ∧ ∀ t' x' y', t' < k → o t' = some (x', y') → y < y' ∨ y = y' ∧ (x < x' ∨ x = x' ∧ t ≤ t')
  no : r = none → ∀ t, t < k → o t = none
theorem ftK_zero (o : Nat → Option (Int × Int)) : FtK o 0 none := ⟨fun t x y h => (by cases h), fun _ t h => absurd h (Nat.not_lt_zero t)⟩
theorem FtK.fin {o : Nat → Option (Int × Int)} {r : Option (Nat × Int × Int)} (h : FtK o 4 r) : FtO o r := ⟨h.yes, h.no⟩
theorem FtK.none {o : Nat → Option (Int × Int)} {k : Nat} {r : Option (Nat × Int × Int)} (h : FtK o k r) (hk : o k = .none) : FtK o (k + 1) r := by
  refine ⟨fun t x y e => ?_, fun e t ht => ?_⟩
  · obtain ⟨a, b, c⟩ := h.yes t x y e
    refine ⟨by omega, b, fun t' x' y' ht' e' => ?_⟩
    rcases Nat.lt_or_ge t' k with q | q
    · exact c t' x' y' q e'
    · obtain rfl : t' = k := by omega
      rw [hk] at e'
      cases e'
  · rcases Nat.lt_or_ge t k with q | q
    · exact h.no e t q
    · obtain rfl : t = k := by omega
      exact hk
theorem FtK.first {o : Nat → Option (Int × Int)} {k : Nat} {x y : Int} (h : FtK o k .none) (hk : o k = some (x, y)) : FtK o (k + 1) (some (k, x, y)) := by
  refine ⟨fun t x1 y1 e => ?_, fun e => by cases e⟩
  obtain ⟨rfl, rfl, rfl⟩ : k = t ∧ x = x1 ∧ y = y1 := by simpa using e
  refine ⟨by omega, hk, fun t' x' y' ht' e' => ?_⟩
  rcases Nat.lt_or_ge t' k with q | q
  · rw [h.no rfl t' q] at e'
    cases e'
  · obtain rfl : t' = k := by omega
    rw [hk] at e'
    obtain ⟨rfl, rfl⟩ : x = x' ∧ y = y' := by simpa using e'
    exact .inr ⟨rfl, .inr ⟨rfl, Nat.le_refl _⟩⟩
theorem FtK.better {o : Nat → Option (Int × Int)} {k t0 : Nat} {x0 y0 x y : Int} (h : FtK o k (some (t0, x0, y0))) (hk : o k = some (x, y)) (hb : y < y0 ∨ y = y0 ∧ x < x0) : FtK o (k + 1) (some (k, x, y)) := by
  obtain ⟨a, b, c⟩ := h.yes t0 x0 y0 rfl
  refine ⟨fun t x1 y1 e => ?_, fun e => by cases e⟩
  obtain ⟨rfl, rfl, rfl⟩ : k = t ∧ x = x1 ∧ y = y1 := by simpa using e
  refine ⟨by omega, hk, fun t' x' y' ht' e' => ?_⟩
  rcases Nat.lt_or_ge t' k with q | q
  · have := c t' x' y' q e'
    omega
  · obtain rfl : t' = k := by omega
    rw [hk] at e'
    obtain ⟨rfl, rfl⟩ : x = x' ∧ y = y' := by simpa using e'
    exact .inr ⟨rfl, .inr ⟨rfl, Nat.le_refl _⟩⟩
theorem FtK.worse {o : Nat → Option (Int × Int)} {k t0 : Nat} {x0 y0 x y : Int} (h : FtK o k (some (t0, x0, y0))) (hk : o k = some (x, y)) (hb : ¬ (y < y0 ∨ y = y0 ∧ x < x0)) : FtK o (k + 1) (some (t0, x0, y0)) := by
  obtain ⟨a, b, c⟩ := h.yes t0 x0 y0 rfl
  refine ⟨fun t x1 y1 e => ?_, fun e => by cases e⟩
  obtain ⟨rfl, rfl, rfl⟩ : t0 = t ∧ x0 = x1 ∧ y0 = y1 := by simpa using e
  refine ⟨by omega, b, fun t' x' y' ht' e' => ?_⟩
  rcases Nat.lt_or_ge t' k with q | q
  · exact c t' x' y' q e'
  · obtain rfl : t' = k := by omega
    rw [hk] at e'
    obtain ⟨rfl, rfl⟩ : x = x' ∧ y = y' := by simpa using e'
    omega
end RG
end Go.Proofs.YtddhaiaapomdjaaGreat
set_option linter.unusedVariables false
set_option linter.unusedSimpArgs false
namespace Go.Proofs.YtddhaiaapomdjaaGreat
set_option linter.unusedVariables false
set_option linter.unusedSimpArgs false
open Go Go.ChangeShapes Go.WideShapes Go.ChangeAt Go.RowKit Go.Deep

namespace RG
theorem own_cI {w : World} {base j n d b : Nat} {e : TypeId} {l : List Int} (hn : n = l.length) (h : OwnL w base e 1 inL (.slice (some ⟨b, 0, none⟩) n d) l) {z : Int} (hz : l[j]? = some z) : w.cell? ⟨b, j, none⟩ = some (iv z) := by
  subst hn
  have h' : World.ownsRow w base e 1 (.slice (some ⟨b, 0, none⟩) l.length d) l.length (l.flatMap inL) := h
  have hj := (List.getElem?_eq_some_iff.1 hz).1
  rw [World.ownsRow.cellAt h' j (by omega), fm_inL6, List.getElem?_map, hz]
  rfl
theorem own_fI {w : World} {base n d b : Nat} {e : TypeId} {l : List Int} (hn : n = l.length) (h : OwnL w base e 1 inL (.slice (some ⟨b, 0, none⟩) n d) l) (j : Nat) : w.frozen? ⟨b, j, none⟩ = false := by
  subst hn
  have h' : World.ownsRow w base e 1 (.slice (some ⟨b, 0, none⟩) l.length d) l.length (l.flatMap inL) := h
  exact World.ownsRow.frozenAt h' j
theorem own_n6 {α : Type} {c : α → List Value} {w : World} {base : Nat} {e : TypeId} {k n d : Nat} {A : Option Addr} {xs : List α} (h : OwnL w base e k c (.slice A n d) xs) : n = xs.length := by
  rcases h.2 with ⟨h1, h2⟩ | ⟨g, cap, cur, hv, hb, hh, hn, _⟩
  · cases h1
    exact h2.symm
  · cases hv
    rfl
structure InsR (RW : Option Nat) (w w' : World) (D : Option Addr) : Prop where
  kx : Kx (fun i => RW = some i) w w'
  fr : ∀ i, D.map Addr.block = some i → RW = some i ∨ w.heap.size ≤ i
set_option maxHeartbeats 8000000 in
set_option maxRecDepth 100000 in
theorem insert6_any (A : Option Addr) (c : Nat) (l : List Int) (n : Int) (lo : Nat) (w : World) (hO : OwnL w lo 3 1 inL (.slice A l.length c) l) (hlo : lo ≤ w.heap.size) (hu : Up l) (hn : l.length ≤ 100000) :
    Calls Tryz.prog 138 #[.slice A l.length c, iv n] w fun e w' => ∃ (D : Option Addr) (d : Nat), e = .returned (.slice D (ins l n).length d) ∧ OwnL w' lo 3 1 inL (.slice D (ins l n).length d) (ins l n) ∧ InsR (A.map Addr.block) w w' D := by
  have hS := own_sli hO
  have n1 := hS.cap
  have n2 := hS.capB
  have HS := hide hS
  have HOW0 := hide hO
  have HU := hide hu
  clear hS hO hu
  obtain ⟨RW, hRW⟩ : ∃ RW, A.map Addr.block = RW := ⟨_, rfl⟩
  rw [hRW]
  have HRW := hide hRW
  clear hRW
  go_enter Tryz.func138, Tryz.ntmps138
  go_upto_region 2 with fail
  go_loopw [5] (fun v wr => ∃ k : Nat, k ≤ l.length ∧ v = iv k ∧ Gr w wr ∧ Hid (PosI l n k)) (fun v _ => (intOf v).toNat)
  case atStart => exact ⟨l.length, Nat.le_refl _, rfl, Gr.refl _, hide (posI_end l n)⟩
  case round =>
    obtain ⟨k, hk, rfl, g, HP⟩ := hrel
    have HOW := hide (OwnL.gr HOW0.out g)
    have hwl : lo ≤ wr.heap.size := Nat.le_trans hlo g.size
    by_cases hk0 : k = 0
    · subst hk0
      have HI := hide HP.out.ins0
      clear HP HS
      go_upto_region 4 with fail
      obtain ⟨L2, hL2⟩ : ∃ L2, l ++ [(0 : Int)] = L2 := ⟨_, rfl⟩
      have HL2 := hide hL2
      have HLE := hide (show L2.length = l.length + 1 by rw [← hL2, List.length_append]; rfl)
      clear hL2
      go_upto_region 6 with fail
      have ga := Gr.alloc (Gr.refl wr) (.cells #[iv 0] 3)
      go_upto_region 7 with (refine wpList_appZ rfl _ _ _ rfl inL lo 3 1 8 elInt (by decide) l [0] L2 HL2.out _ rfl (OwnL.gr HOW.out (Gr.alloc (Gr.refl wr) _)) _ 1 1 rfl rfl (by decide) (fun _ => rfl) (by intro j u hu; refine newsA wr #[iv 0] 3 j u ?_; exact hu) (by intro u hu; simp at hu; subst hu; rfl) (by omega) (by decide) (by simp only [World.size_alloc]; omega) ?_; intro gg cap1 w8 hO8 hG8 hgrow hat8 hg8)
      have HG8 := hide (show Kx (fun i => RW = some i) w w8 from Kx.grown (Kx.of_gr (g.trans (Gr.alloc (Gr.refl wr) _))) hgrow (fun k hk => .inl (HRW.out.symm.trans ((own_map HOW.out).1 hk))))
      have HD8 := hide (show RW = some gg ∨ w.heap.size ≤ gg from by
        rcases hat8 with h | h
        · exact .inl (HRW.out.symm.trans ((own_map HOW.out).1 h))
        · right
          have := g.size
          simp only [World.size_alloc] at h
          omega)
      have HO8 := hide (show OwnL w8 lo 3 1 inL (.slice (some ⟨gg, 0, none⟩) (l.length + 1) cap1) (siL l l.length 0) from by
        have := hO8
        rw [HLE.out, ← HL2.out, siL_end] at this
        exact this)
      have e8 := HLE.out
      clear hO8 hG8 hgrow hat8 HOW HL2 HLE ga
      rw [e8]
      clear e8
      go_upto_region 8 with fail
      go_loopw [6] (fun v wr2 => ∃ (q : Nat) (x : Int), 0 ≤ q ∧ q ≤ l.length ∧ v = iv q ∧ Hid (OwnL wr2 lo 3 1 inL (.slice (some ⟨gg, 0, none⟩) (l.length + 1) cap1) (siL l q x)) ∧ Hid (Kx (fun i => RW = some i) w wr2) ∧ gg < wr2.heap.size) (fun v _ => (intOf v).toNat)
      case atStart => exact ⟨l.length, 0, by omega, Nat.le_refl _, by go_num, HO8, HG8, hg8⟩
      case round =>
        obtain ⟨q, x, hq0, hq1, rfl, HO, HG, hgw⟩ := hrel
        clear HO8 HG8
        by_cases hqk : 0 < q
        · obtain ⟨m2, rfl⟩ : ∃ m2, q = m2 + 1 := ⟨q - 1, by omega⟩
          obtain ⟨z2, hz2⟩ : ∃ z, l[m2]? = some z := ⟨_, List.getElem?_eq_getElem (by omega)⟩
          have c1 : wr.cell? ⟨gg, m2, none⟩ = some (iv z2) := own_cI (by rw [siL_len hq1]) HO.out (siL_read hz2)
          obtain ⟨x', hx'⟩ : ∃ x', (siL l (m2 + 1) x)[m2 + 1]? = some x' := ⟨_, List.getElem?_eq_getElem (by rw [siL_len hq1]; omega)⟩
          have c2 : wr.cell? ⟨gg, m2 + 1, none⟩ = some (iv x') := own_cI (by rw [siL_len hq1]) HO.out hx'
          have c3 : wr.frozen? ⟨gg, m2 + 1, none⟩ = false := own_fI (by rw [siL_len hq1]) HO.out (m2 + 1)
          have hp := own_putI (k := m2 + 1) (by rw [siL_len hq1]) HO.out z2
          rw [siL_set hq1, siL_move hz2] at hp
          have HO' := hide hp.1
          have HG' := hide (Kx.set HG.out (m2 + 1) (iv z2) HD8.out)
          clear hp hx' hz2 HO HG
          have b0 : (0 : Int) ≤ (m2 : Int) := by omega
          have b1 : (m2 : Int) < (l.length : Int) := by omega
          have b2 : (0 : Int) < (m2 : Int) + 1 := by omega
          have W3 : IntKind.i64.wrap ((m2 : Int) + 1 - 1) = (m2 : Int) := by rw [Int.add_sub_cancel]; exact IntWalk.i64_in _ (by omega)
          go_wp2_with fail
          go_roundw
          case rel => exact ⟨m2, z2, by omega, by omega, by go_num, HO', HG', by rw [World.size_setCell]; exact hgw⟩
          case measure => simp only [intOf]; omega
        · obtain rfl : 0 = q := by omega
          obtain ⟨x', hx'⟩ : ∃ x', (siL l 0 x)[0]? = some x' := ⟨_, List.getElem?_eq_getElem (by rw [siL_len hq1]; omega)⟩
          have c2 : wr.cell? ⟨gg, 0, none⟩ = some (iv x') := own_cI (by rw [siL_len hq1]) HO.out hx'
          have c3 : wr.frozen? ⟨gg, 0, none⟩ = false := own_fI (by rw [siL_len hq1]) HO.out 0
          have hp := own_putI (k := 0) (by rw [siL_len hq1]) HO.out n
          rw [siL_set hq1] at hp
          have HF := hide (show ∃ (D : Option Addr) (d : Nat), Value.slice (some ⟨gg, 0, none⟩) (l.length + 1) cap1 = .slice D (ins l n).length d ∧ OwnL (wr.setCell ⟨gg, 0, none⟩ (iv n)) lo 3 1 inL (.slice D (ins l n).length d) (ins l n) ∧ InsR RW w (wr.setCell ⟨gg, 0, none⟩ (iv n)) D from by
            rw [HI.out, siL_len hq1]
            exact ⟨_, _, rfl, hp.1, Kx.set HG.out _ (iv n) HD8.out, fun i hi => (show gg = i by simpa using hi) ▸ HD8.out⟩)
          clear hp hx' HO HG
          go_wp2_with fail
          go_ret
          obtain ⟨D, d, e1, e2⟩ := HF.out
          exact ⟨D, d, congrArg Ending.returned e1, e2⟩
    · obtain ⟨m, hm⟩ : ∃ m, k = m + 1 := ⟨k - 1, by omega⟩
      obtain ⟨z, hz⟩ : ∃ z, l[m]? = some z := ⟨_, List.getElem?_eq_getElem (by omega)⟩
      obtain ⟨bb, oo, hA, x0⟩ := (HS.out.gr g).rd.in_ hz
      subst hA
      have hbl : bb < wr.heap.size := cell_lt (by rw [x0]; rfl)
      have m0 : (0 : Int) ≤ (m : Int) := by omega
      have m1 : (m : Int) < (l.length : Int) := by omega
      have k0 : (0 : Int) < (k : Int) := by omega
      have W1 : IntKind.i64.wrap ((k : Int) - 1) = (m : Int) := by
        rw [hm, show ((m + 1 : Nat) : Int) - 1 = (m : Int) by omega]
        exact IntWalk.i64_in _ (by omega)
      by_cases hg : z > n
      · have HP' := hide (PosI.step (i := m) (by rw [← hm]; exact HP.out) hz hg)
        have d1 : decide (z > n) = true := decide_eq_true hg
        have HMM := hide hm
        clear hm
        go_wp2_with fail
        go_roundw
        case rel => exact ⟨m, by omega, rfl, g, HP'⟩
        case measure => have := HMM.out; simp only [intOf]; omega
      · have d1 : decide (z > n) = false := decide_eq_false hg
        by_cases he : z = n
        · have HF := hide (PosI.insE HU.out (i := m) (by rw [← hm]; exact HP.out) (by rw [← he]; exact hz))
          have d2 : (z == n) = true := by simpa using he
          have HFX := hide (show ∃ (D : Option Addr) (d : Nat), Value.slice (some ⟨bb, oo, none⟩) l.length c = .slice D (ins l n).length d ∧ OwnL wr lo 3 1 inL (.slice D (ins l n).length d) (ins l n) ∧ InsR RW w wr D from by
            rw [HF.out]
            exact ⟨_, _, rfl, HOW.out, Kx.of_gr g, fun i hi => .inl (HRW.out.symm.trans hi)⟩)
          clear hm HP
          go_wp2_with fail
          go_ret
          obtain ⟨D, d, e1, e2⟩ := HFX.out
          exact ⟨D, d, congrArg Ending.returned e1, e2⟩
        · have HI := hide (show ins l n = siL l k n by rw [hm]; exact PosI.insN HU.out (i := m) (by rw [← hm]; exact HP.out) hz (by omega))
          have d2 : (z == n) = false := by simpa using he
          clear hm HP
          go_upto_region 4 with fail
          obtain ⟨L2, hL2⟩ : ∃ L2, l ++ [(0 : Int)] = L2 := ⟨_, rfl⟩
          have HL2 := hide hL2
          have HLE := hide (show L2.length = l.length + 1 by rw [← hL2, List.length_append]; rfl)
          clear hL2
          go_upto_region 6 with fail
          have ga := Gr.alloc (Gr.refl wr) (.cells #[iv 0] 3)
          go_upto_region 7 with (refine wpList_appZ rfl _ _ _ rfl inL lo 3 1 8 elInt (by decide) l [0] L2 HL2.out _ rfl (OwnL.gr HOW.out (Gr.alloc (Gr.refl wr) _)) _ 1 1 rfl rfl (by decide) (fun _ => rfl) (by intro j u hu; refine newsA wr #[iv 0] 3 j u ?_; exact hu) (by intro u hu; simp at hu; subst hu; rfl) (by omega) (by decide) (by simp only [World.size_alloc]; omega) ?_; intro gg cap1 w8 hO8 hG8 hgrow hat8 hg8)
          have HG8 := hide (show Kx (fun i => RW = some i) w w8 from Kx.grown (Kx.of_gr (g.trans (Gr.alloc (Gr.refl wr) _))) hgrow (fun k hk => .inl (HRW.out.symm.trans ((own_map HOW.out).1 hk))))
          have HD8 := hide (show RW = some gg ∨ w.heap.size ≤ gg from by
            rcases hat8 with h | h
            · exact .inl (HRW.out.symm.trans ((own_map HOW.out).1 h))
            · right
              have := g.size
              simp only [World.size_alloc] at h
              omega)
          have HO8 := hide (show OwnL w8 lo 3 1 inL (.slice (some ⟨gg, 0, none⟩) (l.length + 1) cap1) (siL l l.length 0) from by
            have := hO8
            rw [HLE.out, ← HL2.out, siL_end] at this
            exact this)
          have e8 := HLE.out
          clear hO8 hG8 hgrow hat8 HOW HL2 HLE ga
          rw [e8]
          clear e8
          go_upto_region 8 with fail
          go_loopw [6] (fun v wr2 => ∃ (q : Nat) (x : Int), k ≤ q ∧ q ≤ l.length ∧ v = iv q ∧ Hid (OwnL wr2 lo 3 1 inL (.slice (some ⟨gg, 0, none⟩) (l.length + 1) cap1) (siL l q x)) ∧ Hid (Kx (fun i => RW = some i) w wr2) ∧ gg < wr2.heap.size) (fun v _ => (intOf v).toNat)
          case atStart => exact ⟨l.length, 0, by omega, Nat.le_refl _, by go_num, HO8, HG8, hg8⟩
          case round =>
            obtain ⟨q, x, hq0, hq1, rfl, HO, HG, hgw⟩ := hrel
            clear HO8 HG8
            by_cases hqk : k < q
            · obtain ⟨m2, rfl⟩ : ∃ m2, q = m2 + 1 := ⟨q - 1, by omega⟩
              obtain ⟨z2, hz2⟩ : ∃ z, l[m2]? = some z := ⟨_, List.getElem?_eq_getElem (by omega)⟩
              have c1 : wr.cell? ⟨gg, m2, none⟩ = some (iv z2) := own_cI (by rw [siL_len hq1]) HO.out (siL_read hz2)
              obtain ⟨x', hx'⟩ : ∃ x', (siL l (m2 + 1) x)[m2 + 1]? = some x' := ⟨_, List.getElem?_eq_getElem (by rw [siL_len hq1]; omega)⟩
              have c2 : wr.cell? ⟨gg, m2 + 1, none⟩ = some (iv x') := own_cI (by rw [siL_len hq1]) HO.out hx'
              have c3 : wr.frozen? ⟨gg, m2 + 1, none⟩ = false := own_fI (by rw [siL_len hq1]) HO.out (m2 + 1)
              have hp := own_putI (k := m2 + 1) (by rw [siL_len hq1]) HO.out z2
              rw [siL_set hq1, siL_move hz2] at hp
              have HO' := hide hp.1
              have HG' := hide (Kx.set HG.out (m2 + 1) (iv z2) HD8.out)
              clear hp hx' hz2 HO HG
              have b0 : (0 : Int) ≤ (m2 : Int) := by omega
              have b1 : (m2 : Int) < (l.length : Int) := by omega
              have b2 : (k : Int) < (m2 : Int) + 1 := by omega
              have W3 : IntKind.i64.wrap ((m2 : Int) + 1 - 1) = (m2 : Int) := by rw [Int.add_sub_cancel]; exact IntWalk.i64_in _ (by omega)
              go_wp2_with fail
              go_roundw
              case rel => exact ⟨m2, z2, by omega, by omega, by go_num, HO', HG', by rw [World.size_setCell]; exact hgw⟩
              case measure => simp only [intOf]; omega
            · obtain rfl : k = q := by omega
              obtain ⟨x', hx'⟩ : ∃ x', (siL l k x)[k]? = some x' := ⟨_, List.getElem?_eq_getElem (by rw [siL_len hq1]; omega)⟩
              have c2 : wr.cell? ⟨gg, k, none⟩ = some (iv x') := own_cI (by rw [siL_len hq1]) HO.out hx'
              have c3 : wr.frozen? ⟨gg, k, none⟩ = false := own_fI (by rw [siL_len hq1]) HO.out k
              have hp := own_putI (k := k) (by rw [siL_len hq1]) HO.out n
              rw [siL_set hq1] at hp
              have HF := hide (show ∃ (D : Option Addr) (d : Nat), Value.slice (some ⟨gg, 0, none⟩) (l.length + 1) cap1 = .slice D (ins l n).length d ∧ OwnL (wr.setCell ⟨gg, k, none⟩ (iv n)) lo 3 1 inL (.slice D (ins l n).length d) (ins l n) ∧ InsR RW w (wr.setCell ⟨gg, k, none⟩ (iv n)) D from by
                rw [HI.out, siL_len hq1]
                exact ⟨_, _, rfl, hp.1, Kx.set HG.out _ (iv n) HD8.out, fun i hi => (show gg = i by simpa using hi) ▸ HD8.out⟩)
              clear hp hx' HO HG
              go_wp2_with fail
              go_ret
              obtain ⟨D, d, e1, e2⟩ := HF.out
              exact ⟨D, d, congrArg Ending.returned e1, e2⟩
theorem insert6_at {A : Option Addr} {m c : Nat} {l : List Int} {n : Int} {lo : Nat} {w : World} (hO : OwnL w lo 3 1 inL (.slice A m c) l) (hlo : lo ≤ w.heap.size) (hu : Up l) (hn : l.length ≤ 100000) :
    Calls Tryz.prog 138 #[.slice A m c, iv n] w fun e w' => ∃ (D : Option Addr) (N d : Nat), e = .returned (.slice D N d) ∧ OwnL w' lo 3 1 inL (.slice D N d) (ins l n) ∧ InsR (A.map Addr.block) w w' D := by
  obtain rfl : m = l.length := own_n6 hO
  refine (insert6_any A c l n lo w hO hlo hu hn).mono ?_
  rintro e w' ⟨D, d, h1, h2, h3⟩
  exact ⟨D, _, d, h1, h2, h3⟩
end RG
end Go.Proofs.YtddhaiaapomdjaaGreat
set_option linter.unusedVariables false
set_option linter.unusedSimpArgs false
namespace Go.Proofs.YtddhaiaapomdjaaGreat
set_option linter.unusedVariables false
set_option linter.unusedSimpArgs false
open Go Go.ChangeShapes Go.WideShapes Go.ChangeAt Go.RowKit Go.Deep

namespace RG
abbrev spL (p : Int × Int) : List Value := [iv p.1, iv p.2]
theorem elSp : ElT Tryz.prog 204 207 2 16 := elT_of (.agg #[iv 0, iv 0]) (by kernel_rfl) (by kernel_rfl) rfl
theorem one_sp (l : List (Int × Int)) : ∀ u ∈ l.flatMap spL, u.oneCell' = true := by
  intro u hu
  obtain ⟨p, _, hp⟩ := List.mem_flatMap.1 hu
  simp at hp
  rcases hp with rfl | rfl <;> rfl
set_option maxHeartbeats 16000000 in
set_option maxRecDepth 100000 in
theorem excluded6_any (r o : Rc) (y : Int) (t : St) (soft : Bool) (w : World) (hr : InM 1048576 r) (ho : InM 1048576 o) (hy : -10000000 ≤ y ∧ y ≤ 10000000) (hg : 0 ≤ t.g ∧ t.g ≤ 14400) :
    Calls Tryz.prog 162 #[rcv r, rcv o, iv y, stvv t, .bool soft] w fun e w' => ∃ (D : Option Addr) (q : Nat), e = .returned (.slice D (excL r o y t soft).length q) ∧ OwnL w' w.heap.size 207 2 spL (.slice D (excL r o y t soft).length q) (excL r o y t soft) ∧ Gr w w' := by
  obtain ⟨a1, a2, a3, a4, a5, a6⟩ := hr
  obtain ⟨b1, b2, b3, b4, b5, b6⟩ := ho
  have W1 : IntKind.i64.wrap (y + r.y) = y + r.y := IntWalk.i64_in _ (by omega)
  have W2 : IntKind.i64.wrap (o.y - (y + r.y)) = o.y - (y + r.y) := IntWalk.i64_in _ (by omega)
  have W3 : IntKind.i64.wrap (o.y - (y + r.y) - r.h) = o.y - (y + r.y) - r.h := IntWalk.i64_in _ (by omega)
  have W4 : IntKind.i64.wrap (y + r.y - o.y) = y + r.y - o.y := IntWalk.i64_in _ (by omega)
  have W5 : IntKind.i64.wrap (y + r.y - o.y - o.h) = y + r.y - o.y - o.h := IntWalk.i64_in _ (by omega)
  have W6 : IntKind.i64.wrap (o.x - r.w) = o.x - r.w := IntWalk.i64_in _ (by omega)
  have W7 : IntKind.i64.wrap (o.x - r.w - r.x) = o.x - r.w - r.x := IntWalk.i64_in _ (by omega)
  have W8 : IntKind.i64.wrap (o.x + o.w) = o.x + o.w := IntWalk.i64_in _ (by omega)
  have W9 : IntKind.i64.wrap (o.x + o.w - r.x) = o.x + o.w - r.x := IntWalk.i64_in _ (by omega)
  have W10 : IntKind.i64.wrap (o.y + o.h) = o.y + o.h := IntWalk.i64_in _ (by omega)
  have W11 : IntKind.i64.wrap (y + r.y + r.h) = y + r.y + r.h := IntWalk.i64_in _ (by omega)
  have W12 : IntKind.i64.wrap (o.x - r.w - r.x - t.g) = o.x - r.w - r.x - t.g := IntWalk.i64_in _ (by omega)
  have W13 : IntKind.i64.wrap (o.x + o.w - r.x + t.g) = o.x + o.w - r.x + t.g := IntWalk.i64_in _ (by omega)
  have HX := hide (show excL r o y t soft = if soft = false ∨ t.g ≤ exAp r o y then exH r o y else if t.c = true ∧ exAp r o y = 0 then exH r o y ++ [(exL r o - t.g, exL r o), (exR r o, exR r o + t.g)] else exH r o y ++ [(exL r o - t.g, exR r o + t.g)] from rfl)
  have HH := hide (show exH r o y = if y + r.y < o.y + o.h ∧ o.y < y + r.y + r.h then [(o.x - r.w - r.x, o.x + o.w - r.x)] else [] from rfl)
  obtain ⟨ap, hap⟩ : ∃ ap, (if (if r.h < o.y - (y + r.y) then o.y - (y + r.y) - r.h else 0) < y + r.y - o.y - o.h then y + r.y - o.y - o.h else if r.h < o.y - (y + r.y) then o.y - (y + r.y) - r.h else 0) = ap := ⟨_, rfl⟩
  have HAP := hide (show exAp r o y = ap by
    rw [← hap]
    unfold exAp
    split <;> split <;> omega)
  generalize excL r o y t soft = X at *
  generalize exH r o y = EH at *
  clear a1 a2 a3 a4 a5 a6 b1 b2 b3 b4 b5 b6 hy hg
  obtain ⟨rx, ry, rw', rh⟩ := r
  obtain ⟨ox, oy, ow, oh⟩ := o
  obtain ⟨g, m, cm⟩ := t
  dsimp only at *
  go_enter Tryz.func162, Tryz.ntmps162
  go_upto_region 1 with fail
  have HB := hide (fun (w' : World) (g' : Gr (((w.alloc (.cells #[iv rx, iv ry, iv rw', iv rh] 70)).alloc (.cells #[iv ox, iv oy, iv ow, iv oh] 70)).alloc (.cells #[iv g, iv m, .bool cm] 29)) w') => show Made w' w.heap.size #[iv rx, iv ry, iv rw', iv rh] ∧ Made w' (w.heap.size + 1) #[iv ox, iv oy, iv ow, iv oh] ∧ Made w' (w.heap.size + 1 + 1) #[iv g, iv m, .bool cm] from
    ⟨(Made.new _ _ _).gr (Gr.trans (show Gr (w.alloc (.cells #[iv rx, iv ry, iv rw', iv rh] 70)) _ from (by with_reducible repeat (first | exact Gr.refl _ | assumption | refine Gr.alloc ?_ _ | refine Gr.drewN ?_ _ | refine Gr.drew ?_ | refine Gr.setCell ?_ (by first | (dsimp only; omega) | (simp only [World.size_alloc]; omega)) _ | refine Gr.trans ?_ (by assumption)))) g'), by
      have := (Made.new (w.alloc (.cells #[iv rx, iv ry, iv rw', iv rh] 70)) #[iv ox, iv oy, iv ow, iv oh] 70).gr (Gr.trans (show Gr _ _ from (by with_reducible repeat (first | exact Gr.refl _ | assumption | refine Gr.alloc ?_ _ | refine Gr.drewN ?_ _ | refine Gr.drew ?_ | refine Gr.setCell ?_ (by first | (dsimp only; omega) | (simp only [World.size_alloc]; omega)) _ | refine Gr.trans ?_ (by assumption)))) g')
      simpa using this, by
      have := (Made.new ((w.alloc (.cells #[iv rx, iv ry, iv rw', iv rh] 70)).alloc (.cells #[iv ox, iv oy, iv ow, iv oh] 70)) #[iv g, iv m, .bool cm] 29).gr g'
      simpa using this⟩)
  have g0 : Gr w (((w.alloc (.cells #[iv rx, iv ry, iv rw', iv rh] 70)).alloc (.cells #[iv ox, iv oy, iv ow, iv oh] 70)).alloc (.cells #[iv g, iv m, .bool cm] 29)) := (by with_reducible repeat (first | exact Gr.refl _ | assumption | refine Gr.alloc ?_ _ | refine Gr.drewN ?_ _ | refine Gr.drew ?_ | refine Gr.setCell ?_ (by first | (dsimp only; omega) | (simp only [World.size_alloc]; omega)) _ | refine Gr.trans ?_ (by assumption)))
  have hw0 : w.heap.size ≤ (((w.alloc (.cells #[iv rx, iv ry, iv rw', iv rh] 70)).alloc (.cells #[iv ox, iv oy, iv ow, iv oh] 70)).alloc (.cells #[iv g, iv m, .bool cm] 29)).heap.size := g0.size
  generalize ((w.alloc (.cells #[iv rx, iv ry, iv rw', iv rh] 70)).alloc (.cells #[iv ox, iv oy, iv ow, iv oh] 70)).alloc (.cells #[iv g, iv m, .bool cm] 29) = w0 at *
  obtain ⟨⟨hb0, y0, _⟩, ⟨hb1, y1, _⟩, hb2, y2, _⟩ := HB.out w0 (Gr.refl _)
  have r0 := y0 0
  have r1 := y0 1
  have r2 := y0 2
  have r3 := y0 3
  have o0 := y1 0
  have o1 := y1 1
  have o2 := y1 2
  have o3 := y1 3
  have s0 := y2 0
  have s2 := y2 2
  clear y0 y1 y2
  have HE0 := hide (own_nil w0 w.heap.size 207 2 spL)
  by_cases h1 : y + ry < oy + oh
  · have d1 : decide (y + ry < oy + oh) = true := decide_eq_true h1
    by_cases h2 : oy < y + ry + rh
    · have d2 : decide (oy < y + ry + rh) = true := decide_eq_true h2
      have HEH := hide (show EH = [(ox - rw' - rx, ox + ow - rx)] by rw [HH.out, if_pos ⟨h1, h2⟩])
      have HE := HE0
      clear h1 h2
      go_upto_region 7 with fail
      go_upto_region 8 with (refine wpList_appZ rfl _ _ _ rfl spL w.heap.size 207 2 16 elSp (by decide) [] [(ox - rw' - rx, ox + ow - rx)] ([] ++ [(ox - rw' - rx, ox + ow - rx)]) rfl _ rfl (HE.out.gr (Gr.alloc (Gr.refl _) _)) _ 1 1 rfl rfl (by decide) (fun _ => rfl) (by intro j u hu; refine newsA w0 #[iv (ox - rw' - rx), iv (ox + ow - rx)] 207 j u ?_; exact hu) (one_sp [(ox - rw' - rx, ox + ow - rx)]) (by simp) (by decide) (by simp only [World.size_alloc]; omega) ?_; intro gg cap1 w8 hO8 hG8 hgw8 hat8 hlt8)
      have g8 := hG8 w (g0.trans (Gr.alloc (Gr.refl _) _)) (Nat.le_refl _)
      have g08 := Gr.grown (Gr.alloc (Gr.refl w0) (.cells #[iv (ox - rw' - rx), iv (ox + ow - rx)] 207)) hgw8 (fun k hk => by cases hk)
      have hw8 : w.heap.size ≤ w8.heap.size := g8.size
      have HE := hide (show OwnL w8 w.heap.size 207 2 spL (.slice (some ⟨gg, 0, none⟩) 1 cap1) [(ox - rw' - rx, ox + ow - rx)] from hO8)
      have GW := g8
      clear hO8 hG8 hgw8 hat8 r0 r1 r2 r3 o0 o1 o2 o3 s0 s2 hb0 hb1 hb2 HE0
      obtain ⟨⟨hb0, y0, _⟩, ⟨hb1, y1, _⟩, hb2, y2, _⟩ := HB.out w8 g08
      have r0 := y0 0
      have r1 := y0 1
      have r2 := y0 2
      have r3 := y0 3
      have o0 := y1 0
      have o1 := y1 1
      have o2 := y1 2
      have o3 := y1 3
      have s0 := y2 0
      have s2 := y2 2
      clear y0 y1 y2
      clear hlt8
      cases soft with
      | false =>
        have HQ := hide (show X = [(ox - rw' - rx, ox + ow - rx)] by rw [HX.out, if_pos (.inl rfl), HEH.out])
        have HF := hide (show ∃ (D : Option Addr) (q : Nat), Value.slice (some ⟨gg, 0, none⟩) 1 cap1 = .slice D X.length q ∧ OwnL w8 w.heap.size 207 2 spL (.slice D X.length q) X from by
          rw [HQ.out]
          exact ⟨_, _, rfl, HE.out⟩)
        go_wp2_with fail
        go_ret
        obtain ⟨D, q, e1, e2⟩ := HF.out
        exact ⟨D, q, congrArg Ending.returned e1, e2, GW⟩
      | true =>
        by_cases h3 : ap ≥ g
        · have d3 : decide (ap ≥ g) = true := decide_eq_true h3
          have HQ := hide (show X = [(ox - rw' - rx, ox + ow - rx)] by rw [HX.out, if_pos (.inr (by rw [HAP.out]; exact h3)), HEH.out])
          have HF := hide (show ∃ (D : Option Addr) (q : Nat), Value.slice (some ⟨gg, 0, none⟩) 1 cap1 = .slice D X.length q ∧ OwnL w8 w.heap.size 207 2 spL (.slice D X.length q) X from by
            rw [HQ.out]
            exact ⟨_, _, rfl, HE.out⟩)
          clear h3
          go_wp2_with fail
          go_ret
          obtain ⟨D, q, e1, e2⟩ := HF.out
          exact ⟨D, q, congrArg Ending.returned e1, e2, GW⟩
        · have d3 : decide (ap ≥ g) = false := decide_eq_false h3
          have hx1 : ¬ ((true = false) ∨ g ≤ exAp ⟨rx, ry, rw', rh⟩ ⟨ox, oy, ow, oh⟩ y) := by rw [HAP.out]; simp; omega
          cases cm with
          | false =>
            have HQ := hide (show X = [(ox - rw' - rx, ox + ow - rx)] ++ [(ox - rw' - rx - g, ox + ow - rx + g)] by rw [HX.out, if_neg hx1, if_neg (by simp), HEH.out]; rfl)
            clear h3 hx1
            go_upto_region 12 with fail
            go_wp2_with (refine wpList_appZ rfl _ _ _ rfl spL w.heap.size 207 2 16 elSp (by decide) [(ox - rw' - rx, ox + ow - rx)] [(ox - rw' - rx - g, ox + ow - rx + g)] ([(ox - rw' - rx, ox + ow - rx)] ++ [(ox - rw' - rx - g, ox + ow - rx + g)]) rfl _ rfl (HE.out.gr (Gr.alloc (Gr.refl _) _)) _ 1 1 rfl rfl (by decide) (fun _ => rfl) (by intro j u hu; refine newsA w8 #[iv (ox - rw' - rx - g), iv (ox + ow - rx + g)] 207 j u ?_; exact hu) (one_sp [(ox - rw' - rx - g, ox + ow - rx + g)]) (by simp) (by decide) (by simp only [World.size_alloc]; omega) ?_; intro gg cap1 w8 hO8 hG8 hgw8 hat8 hlt8)
            have g8 := hG8 w (GW.trans (Gr.alloc (Gr.refl _) _)) (Nat.le_refl _)
            go_wp2_with fail
            go_ret
            exact ⟨_, _, by rw [HQ.out]; rfl, by rw [HQ.out]; exact hO8, g8⟩
          | true =>
            by_cases h4 : ap = 0
            · have d4 : (ap == 0) = true := by simpa using h4
              have HQ := hide (show X = [(ox - rw' - rx, ox + ow - rx)] ++ [(ox - rw' - rx - g, ox - rw' - rx), (ox + ow - rx, ox + ow - rx + g)] by rw [HX.out, if_neg hx1, if_pos ⟨rfl, by rw [HAP.out]; exact h4⟩, HEH.out]; rfl)
              clear h3 hx1 h4
              go_upto_region 11 with fail
              go_wp2_with (refine wpList_appZ rfl _ _ _ rfl spL w.heap.size 207 2 16 elSp (by decide) [(ox - rw' - rx, ox + ow - rx)] [(ox - rw' - rx - g, ox - rw' - rx), (ox + ow - rx, ox + ow - rx + g)] ([(ox - rw' - rx, ox + ow - rx)] ++ [(ox - rw' - rx - g, ox - rw' - rx), (ox + ow - rx, ox + ow - rx + g)]) rfl _ rfl (HE.out.gr (Gr.alloc (Gr.refl _) _)) _ 2 2 rfl rfl (by decide) (fun _ => rfl) (by intro j u hu; refine newsA w8 #[iv (ox - rw' - rx - g), iv (ox - rw' - rx), iv (ox + ow - rx), iv (ox + ow - rx + g)] 207 j u ?_; exact hu) (one_sp [(ox - rw' - rx - g, ox - rw' - rx), (ox + ow - rx, ox + ow - rx + g)]) (by simp) (by decide) (by simp only [World.size_alloc]; omega) ?_; intro gg cap1 w8 hO8 hG8 hgw8 hat8 hlt8)
              have g8 := hG8 w (GW.trans (Gr.alloc (Gr.refl _) _)) (Nat.le_refl _)
              go_wp2_with fail
              go_ret
              exact ⟨_, _, by rw [HQ.out]; rfl, by rw [HQ.out]; exact hO8, g8⟩
            · have d4 : (ap == 0) = false := by simpa using h4
              have HQ := hide (show X = [(ox - rw' - rx, ox + ow - rx)] ++ [(ox - rw' - rx - g, ox + ow - rx + g)] by rw [HX.out, if_neg hx1, if_neg (fun q => h4 (by rw [← HAP.out]; exact q.2)), HEH.out]; rfl)
              clear h3 hx1 h4
              go_upto_region 12 with fail
              go_wp2_with (refine wpList_appZ rfl _ _ _ rfl spL w.heap.size 207 2 16 elSp (by decide) [(ox - rw' - rx, ox + ow - rx)] [(ox - rw' - rx - g, ox + ow - rx + g)] ([(ox - rw' - rx, ox + ow - rx)] ++ [(ox - rw' - rx - g, ox + ow - rx + g)]) rfl _ rfl (HE.out.gr (Gr.alloc (Gr.refl _) _)) _ 1 1 rfl rfl (by decide) (fun _ => rfl) (by intro j u hu; refine newsA w8 #[iv (ox - rw' - rx - g), iv (ox + ow - rx + g)] 207 j u ?_; exact hu) (one_sp [(ox - rw' - rx - g, ox + ow - rx + g)]) (by simp) (by decide) (by simp only [World.size_alloc]; omega) ?_; intro gg cap1 w8 hO8 hG8 hgw8 hat8 hlt8)
              have g8 := hG8 w (GW.trans (Gr.alloc (Gr.refl _) _)) (Nat.le_refl _)
              go_wp2_with fail
              go_ret
              exact ⟨_, _, by rw [HQ.out]; rfl, by rw [HQ.out]; exact hO8, g8⟩
    · have d2 : decide (oy < y + ry + rh) = false := decide_eq_false h2
      have HEH := hide (show EH = [] by rw [HH.out, if_neg (fun q => h2 q.2)])
      have HE := HE0
      have GW := g0
      clear h1 h2 HE0
      cases soft with
      | false =>
        have HQ := hide (show X = [] by rw [HX.out, if_pos (.inl rfl), HEH.out])
        have HF := hide (show ∃ (D : Option Addr) (q : Nat), Value.slice none 0 0 = .slice D X.length q ∧ OwnL w0 w.heap.size 207 2 spL (.slice D X.length q) X from by
          rw [HQ.out]
          exact ⟨_, _, rfl, HE.out⟩)
        go_wp2_with fail
        go_ret
        obtain ⟨D, q, e1, e2⟩ := HF.out
        exact ⟨D, q, congrArg Ending.returned e1, e2, GW⟩
      | true =>
        by_cases h3 : ap ≥ g
        · have d3 : decide (ap ≥ g) = true := decide_eq_true h3
          have HQ := hide (show X = [] by rw [HX.out, if_pos (.inr (by rw [HAP.out]; exact h3)), HEH.out])
          have HF := hide (show ∃ (D : Option Addr) (q : Nat), Value.slice none 0 0 = .slice D X.length q ∧ OwnL w0 w.heap.size 207 2 spL (.slice D X.length q) X from by
            rw [HQ.out]
            exact ⟨_, _, rfl, HE.out⟩)
          clear h3
          go_wp2_with fail
          go_ret
          obtain ⟨D, q, e1, e2⟩ := HF.out
          exact ⟨D, q, congrArg Ending.returned e1, e2, GW⟩
        · have d3 : decide (ap ≥ g) = false := decide_eq_false h3
          have hx1 : ¬ ((true = false) ∨ g ≤ exAp ⟨rx, ry, rw', rh⟩ ⟨ox, oy, ow, oh⟩ y) := by rw [HAP.out]; simp; omega
          cases cm with
          | false =>
            have HQ := hide (show X = [] ++ [(ox - rw' - rx - g, ox + ow - rx + g)] by rw [HX.out, if_neg hx1, if_neg (by simp), HEH.out]; rfl)
            clear h3 hx1
            go_upto_region 12 with fail
            go_wp2_with (refine wpList_appZ rfl _ _ _ rfl spL w.heap.size 207 2 16 elSp (by decide) [] [(ox - rw' - rx - g, ox + ow - rx + g)] ([] ++ [(ox - rw' - rx - g, ox + ow - rx + g)]) rfl _ rfl (HE.out.gr (Gr.alloc (Gr.refl _) _)) _ 1 1 rfl rfl (by decide) (fun _ => rfl) (by intro j u hu; refine newsA w0 #[iv (ox - rw' - rx - g), iv (ox + ow - rx + g)] 207 j u ?_; exact hu) (one_sp [(ox - rw' - rx - g, ox + ow - rx + g)]) (by simp) (by decide) (by simp only [World.size_alloc]; omega) ?_; intro gg cap1 w8 hO8 hG8 hgw8 hat8 hlt8)
            have g8 := hG8 w (GW.trans (Gr.alloc (Gr.refl _) _)) (Nat.le_refl _)
            go_wp2_with fail
            go_ret
            exact ⟨_, _, by rw [HQ.out]; rfl, by rw [HQ.out]; exact hO8, g8⟩
          | true =>
            by_cases h4 : ap = 0
            · have d4 : (ap == 0) = true := by simpa using h4
              have HQ := hide (show X = [] ++ [(ox - rw' - rx - g, ox - rw' - rx), (ox + ow - rx, ox + ow - rx + g)] by rw [HX.out, if_neg hx1, if_pos ⟨rfl, by rw [HAP.out]; exact h4⟩, HEH.out]; rfl)
              clear h3 hx1 h4
              go_upto_region 11 with fail
              go_wp2_with (refine wpList_appZ rfl _ _ _ rfl spL w.heap.size 207 2 16 elSp (by decide) [] [(ox - rw' - rx - g, ox - rw' - rx), (ox + ow - rx, ox + ow - rx + g)] ([] ++ [(ox - rw' - rx - g, ox - rw' - rx), (ox + ow - rx, ox + ow - rx + g)]) rfl _ rfl (HE.out.gr (Gr.alloc (Gr.refl _) _)) _ 2 2 rfl rfl (by decide) (fun _ => rfl) (by intro j u hu; refine newsA w0 #[iv (ox - rw' - rx - g), iv (ox - rw' - rx), iv (ox + ow - rx), iv (ox + ow - rx + g)] 207 j u ?_; exact hu) (one_sp [(ox - rw' - rx - g, ox - rw' - rx), (ox + ow - rx, ox + ow - rx + g)]) (by simp) (by decide) (by simp only [World.size_alloc]; omega) ?_; intro gg cap1 w8 hO8 hG8 hgw8 hat8 hlt8)
              have g8 := hG8 w (GW.trans (Gr.alloc (Gr.refl _) _)) (Nat.le_refl _)
              go_wp2_with fail
              go_ret
              exact ⟨_, _, by rw [HQ.out]; rfl, by rw [HQ.out]; exact hO8, g8⟩
            · have d4 : (ap == 0) = false := by simpa using h4
              have HQ := hide (show X = [] ++ [(ox - rw' - rx - g, ox + ow - rx + g)] by rw [HX.out, if_neg hx1, if_neg (fun q => h4 (by rw [← HAP.out]; exact q.2)), HEH.out]; rfl)
              clear h3 hx1 h4
              go_upto_region 12 with fail
              go_wp2_with (refine wpList_appZ rfl _ _ _ rfl spL w.heap.size 207 2 16 elSp (by decide) [] [(ox - rw' - rx - g, ox + ow - rx + g)] ([] ++ [(ox - rw' - rx - g, ox + ow - rx + g)]) rfl _ rfl (HE.out.gr (Gr.alloc (Gr.refl _) _)) _ 1 1 rfl rfl (by decide) (fun _ => rfl) (by intro j u hu; refine newsA w0 #[iv (ox - rw' - rx - g), iv (ox + ow - rx + g)] 207 j u ?_; exact hu) (one_sp [(ox - rw' - rx - g, ox + ow - rx + g)]) (by simp) (by decide) (by simp only [World.size_alloc]; omega) ?_; intro gg cap1 w8 hO8 hG8 hgw8 hat8 hlt8)
              have g8 := hG8 w (GW.trans (Gr.alloc (Gr.refl _) _)) (Nat.le_refl _)
              go_wp2_with fail
              go_ret
              exact ⟨_, _, by rw [HQ.out]; rfl, by rw [HQ.out]; exact hO8, g8⟩
  · have d1 : decide (y + ry < oy + oh) = false := decide_eq_false h1
    have HEH := hide (show EH = [] by rw [HH.out, if_neg (fun q => h1 q.1)])
    have HE := HE0
    have GW := g0
    clear h1 HE0
    cases soft with
    | false =>
      have HQ := hide (show X = [] by rw [HX.out, if_pos (.inl rfl), HEH.out])
      have HF := hide (show ∃ (D : Option Addr) (q : Nat), Value.slice none 0 0 = .slice D X.length q ∧ OwnL w0 w.heap.size 207 2 spL (.slice D X.length q) X from by
        rw [HQ.out]
        exact ⟨_, _, rfl, HE.out⟩)
      go_wp2_with fail
      go_ret
      obtain ⟨D, q, e1, e2⟩ := HF.out
      exact ⟨D, q, congrArg Ending.returned e1, e2, GW⟩
    | true =>
      by_cases h3 : ap ≥ g
      · have d3 : decide (ap ≥ g) = true := decide_eq_true h3
        have HQ := hide (show X = [] by rw [HX.out, if_pos (.inr (by rw [HAP.out]; exact h3)), HEH.out])
        have HF := hide (show ∃ (D : Option Addr) (q : Nat), Value.slice none 0 0 = .slice D X.length q ∧ OwnL w0 w.heap.size 207 2 spL (.slice D X.length q) X from by
          rw [HQ.out]
          exact ⟨_, _, rfl, HE.out⟩)
        clear h3
        go_wp2_with fail
        go_ret
        obtain ⟨D, q, e1, e2⟩ := HF.out
        exact ⟨D, q, congrArg Ending.returned e1, e2, GW⟩
      · have d3 : decide (ap ≥ g) = false := decide_eq_false h3
        have hx1 : ¬ ((true = false) ∨ g ≤ exAp ⟨rx, ry, rw', rh⟩ ⟨ox, oy, ow, oh⟩ y) := by rw [HAP.out]; simp; omega
        cases cm with
        | false =>
          have HQ := hide (show X = [] ++ [(ox - rw' - rx - g, ox + ow - rx + g)] by rw [HX.out, if_neg hx1, if_neg (by simp), HEH.out]; rfl)
          clear h3 hx1
          go_upto_region 12 with fail
          go_wp2_with (refine wpList_appZ rfl _ _ _ rfl spL w.heap.size 207 2 16 elSp (by decide) [] [(ox - rw' - rx - g, ox + ow - rx + g)] ([] ++ [(ox - rw' - rx - g, ox + ow - rx + g)]) rfl _ rfl (HE.out.gr (Gr.alloc (Gr.refl _) _)) _ 1 1 rfl rfl (by decide) (fun _ => rfl) (by intro j u hu; refine newsA w0 #[iv (ox - rw' - rx - g), iv (ox + ow - rx + g)] 207 j u ?_; exact hu) (one_sp [(ox - rw' - rx - g, ox + ow - rx + g)]) (by simp) (by decide) (by simp only [World.size_alloc]; omega) ?_; intro gg cap1 w8 hO8 hG8 hgw8 hat8 hlt8)
          have g8 := hG8 w (GW.trans (Gr.alloc (Gr.refl _) _)) (Nat.le_refl _)
          go_wp2_with fail
          go_ret
          exact ⟨_, _, by rw [HQ.out]; rfl, by rw [HQ.out]; exact hO8, g8⟩
        | true =>
          by_cases h4 : ap = 0
          · have d4 : (ap == 0) = true := by simpa using h4
            have HQ := hide (show X = [] ++ [(ox - rw' - rx - g, ox - rw' - rx), (ox + ow - rx, ox + ow - rx + g)] by rw [HX.out, if_neg hx1, if_pos ⟨rfl, by rw [HAP.out]; exact h4⟩, HEH.out]; rfl)
            clear h3 hx1 h4
            go_upto_region 11 with fail
            go_wp2_with (refine wpList_appZ rfl _ _ _ rfl spL w.heap.size 207 2 16 elSp (by decide) [] [(ox - rw' - rx - g, ox - rw' - rx), (ox + ow - rx, ox + ow - rx + g)] ([] ++ [(ox - rw' - rx - g, ox - rw' - rx), (ox + ow - rx, ox + ow - rx + g)]) rfl _ rfl (HE.out.gr (Gr.alloc (Gr.refl _) _)) _ 2 2 rfl rfl (by decide) (fun _ => rfl) (by intro j u hu; refine newsA w0 #[iv (ox - rw' - rx - g), iv (ox - rw' - rx), iv (ox + ow - rx), iv (ox + ow - rx + g)] 207 j u ?_; exact hu) (one_sp [(ox - rw' - rx - g, ox - rw' - rx), (ox + ow - rx, ox + ow - rx + g)]) (by simp) (by decide) (by simp only [World.size_alloc]; omega) ?_; intro gg cap1 w8 hO8 hG8 hgw8 hat8 hlt8)
            have g8 := hG8 w (GW.trans (Gr.alloc (Gr.refl _) _)) (Nat.le_refl _)
            go_wp2_with fail
            go_ret
            exact ⟨_, _, by rw [HQ.out]; rfl, by rw [HQ.out]; exact hO8, g8⟩
          · have d4 : (ap == 0) = false := by simpa using h4
            have HQ := hide (show X = [] ++ [(ox - rw' - rx - g, ox + ow - rx + g)] by rw [HX.out, if_neg hx1, if_neg (fun q => h4 (by rw [← HAP.out]; exact q.2)), HEH.out]; rfl)
            clear h3 hx1 h4
            go_upto_region 12 with fail
            go_wp2_with (refine wpList_appZ rfl _ _ _ rfl spL w.heap.size 207 2 16 elSp (by decide) [] [(ox - rw' - rx - g, ox + ow - rx + g)] ([] ++ [(ox - rw' - rx - g, ox + ow - rx + g)]) rfl _ rfl (HE.out.gr (Gr.alloc (Gr.refl _) _)) _ 1 1 rfl rfl (by decide) (fun _ => rfl) (by intro j u hu; refine newsA w0 #[iv (ox - rw' - rx - g), iv (ox + ow - rx + g)] 207 j u ?_; exact hu) (one_sp [(ox - rw' - rx - g, ox + ow - rx + g)]) (by simp) (by decide) (by simp only [World.size_alloc]; omega) ?_; intro gg cap1 w8 hO8 hG8 hgw8 hat8 hlt8)
            have g8 := hG8 w (GW.trans (Gr.alloc (Gr.refl _) _)) (Nat.le_refl _)
            go_wp2_with fail
            go_ret
            exact ⟨_, _, by rw [HQ.out]; rfl, by rw [HQ.out]; exact hO8, g8⟩
end RG
end Go.Proofs.YtddhaiaapomdjaaGreat
set_option linter.unusedVariables false
set_option linter.unusedSimpArgs false
namespace Go.Proofs.YtddhaiaapomdjaaGreat
set_option linter.unusedVariables false
set_option linter.unusedSimpArgs false
open Go Go.ChangeShapes Go.WideShapes Go.ChangeAt Go.RowKit Go.Deep

namespace RG
theorem at_ix {w : World} {b : Nat} : ∀ {vs : List Value} {o : Nat}, At w b o vs → ∀ j v, vs[j]? = some v → w.cell? ⟨b, o + j, none⟩ = some v
  | [], _, _, j, v, hv => by simp at hv
  | u :: vs, o, h, 0, v, hv => by
    simp only [List.getElem?_cons_zero, Option.some.injEq] at hv
    subst hv
    exact h.1
  | u :: vs, o, h, j + 1, v, hv => by
    have := at_ix h.2 j v (by simpa using hv)
    rwa [show o + 1 + j = o + (j + 1) by omega] at this
theorem news_rd {α : Type} {c : α → List Value} {k : Nat} {w : World} {b off : Nat} {l : List α} (hc : ∀ x, (c x).length = k) (hk : 0 < k) (h : RdL w k c (some ⟨b, off, none⟩) l) : ∀ j u, (l.flatMap c)[j]? = some u → w.cell? ((⟨b, off, none⟩ : Addr).add j) = some u := by
  intro j u hu
  have hfl : (l.flatMap c).length = l.length * k := fm_len hc l
  have hj := (List.getElem?_eq_some_iff.1 hu).1
  rw [hfl] at hj
  have hi : j / k < l.length := (Nat.div_lt_iff_lt_mul hk).2 hj
  have hr : j % k < k := Nat.mod_lt _ hk
  obtain ⟨b', off', e, hat⟩ := h (j / k) _ (List.getElem?_eq_getElem hi)
  cases e
  have hf := fm_at hc l (j / k) _ (j % k) (List.getElem?_eq_getElem hi) hr
  have hd : j / k * k + j % k = j := by rw [Nat.mul_comm]; exact Nat.div_add_mod j k
  rw [hd, hu] at hf
  have := at_ix hat (j % k) u hf.symm
  rw [addr_add]
  rwa [Nat.add_assoc, hd] at this
theorem own_n {α : Type} {c : α → List Value} {w : World} {base : Nat} {e : TypeId} {k n d : Nat} {A : Option Addr} {xs : List α} (h : OwnL w base e k c (.slice A n d) xs) : n = xs.length := by
  rcases h.2 with ⟨h1, h2⟩ | ⟨g, cap, cur, hv, hb, hh, hn, _⟩
  · cases h1
    exact h2.symm
  · cases hv
    rfl
theorem run_appL {P : Program} {w : World} (t ty : TypeId) {α : Type} (c : α → List Value) (base : Nat) (e : TypeId) (k bts : Nat) (T : ElT P t e k bts) (hk : 0 < k) (hl : ∀ y, (c y).length = k) (h1 : ∀ y, ∀ u ∈ c y, u.oneCell' = true) (xs zs : List α) (A : Option Addr) (n d : Nat) (hown : OwnL w base e k c (.slice A n d) xs)
    (B : Option Addr) (m q : Nat) (hz : RdL w k c B zs) (hzm : zs.length = m) (hm : xs.length + zs.length ≤ 1000000) (hb : bts ≤ 10000) (hbase : base ≤ w.heap.size) :
    ∃ D N d' w', (Builtin.append_ #[t, t] ty #[.slice A n d, .slice B m q]).run P w = .ok (.slice D N d') w' ∧ N = (xs ++ zs).length ∧ OwnL w' base e k c (.slice D N d') (xs ++ zs) ∧ (∀ b, Gr b w → b.heap.size ≤ base → Gr b w') ∧ w.grownBy w' (Value.slice A n d).ownBlock := by
  obtain ⟨i, z, hi, hzz, hsz, hby, hzs⟩ := T.inf
  subst hzm
  by_cases h0 : zs = []
  · subst h0
    refine ⟨A, n, d, w, ?_, by rw [List.append_nil]; exact own_n hown, by rw [List.append_nil]; exact hown, fun b hb _ => hb, World.grownBy.refl _ _⟩
    exact run_append_zero w t ty e i T.und hi A n d (own_cap hown) B q
  · have hpos : 0 < zs.length := List.length_pos_iff.2 h0
    obtain ⟨b, off, rfl, _⟩ := hz 0 _ (List.getElem?_eq_getElem hpos)
    have hlt := fun k hk => (World.ownsRow.lt hown k hk).1
    obtain ⟨g, cap, w', hr, h2, h3, h4, h5⟩ := run_append_lies (P := P) w t ty base e i z k bts T.und hi hzz hsz hby hzs hk (.slice A n d) xs.length (xs.flatMap c) hown ⟨b, off, none⟩ zs.length q (zs.flatMap c) (fm_len hl zs) (news_rd hl hk hz)
      (by intro u hu; obtain ⟨y, _, hy⟩ := List.mem_flatMap.1 hu; exact h1 y u hy) hpos (by unfold maxLen; omega) (Nat.le_trans (Nat.mul_le_mul hm hb) (by decide)) hbase _ rfl
    refine ⟨some ⟨g, 0, none⟩, xs.length + zs.length, cap, w', hr, List.length_append.symm, ?_, fun b hb hle => Gr.grown hb h3 (fun k hk => by have := hlt k hk; omega), h3⟩
    unfold OwnL
    rw [List.length_append, List.flatMap_append]
    exact h2
theorem step_appL {P : Program} {w : World} {ops : Array Oper} {o : Oper} {a : Act} {K : Act → World → Prop} {Q : Exit → Act → World → Prop} {E : Prop} (hgd : o.guard = none) (s x : Operand) (t : TypeId)
    (ho : o.op = .call { callee := .builtin .append, args := #[s, x], argTypes := #[t, t] })
    {α : Type} (c : α → List Value) (base : Nat) (e : TypeId) (k bts : Nat) (T : ElT P t e k bts) (hk : 0 < k) (hl : ∀ y, (c y).length = k) (h1 : ∀ y, ∀ u ∈ c y, u.oneCell' = true) (xs zs : List α) (A : Option Addr) (n d : Nat) (hs : a.eval s = .slice A n d) (hown : OwnL w base e k c (.slice A n d) xs)
    (B : Option Addr) (m q : Nat) (hx : a.eval x = .slice B m q) (hz : RdL w k c B zs) (hzm : zs.length = m) (hm : xs.length + zs.length ≤ 1000000) (hb : bts ≤ 10000) (hbase : base ≤ w.heap.size)
    (h : ∀ D N d' w', N = (xs ++ zs).length → OwnL w' base e k c (.slice D N d') (xs ++ zs) → (∀ b, Gr b w → b.heap.size ≤ base → Gr b w') → w.grownBy w' (Value.slice A n d).ownBlock → K (a.put o.dst (.slice D N d')) w') :
    if Region.wanted o (yielded ops a.tmps) = true then Oper.wp P o a w K Q else E := by
  have hw : Region.wanted o (yielded ops a.tmps) = true := by simp [Region.wanted, hgd]
  rw [if_pos hw]
  obtain ⟨D, N, d', w', hr, h2, h3, h4, h5⟩ := run_appL (P := P) (w := w) t o.type c base e k bts T hk hl h1 xs zs A n d hown B m q hz hzm hm hb hbase
  unfold Oper.wp execOp
  simp only [ho, resolve, invoke, builtin, Sem.run_bind, Sem.run_pure, Result.andThen_ok, List.map_toArray, List.map_cons, List.map_nil, hs, hx, hr]
  exact h D N d' w' h2 h3 h4 h5
theorem one_sp1 (p : Int × Int) : ∀ u ∈ spL p, u.oneCell' = true := by
  intro u hu
  simp at hu
  rcases hu with rfl | rfl <;> rfl
theorem excL_len (r o : Rc) (y : Int) (t : St) (soft : Bool) : (excL r o y t soft).length ≤ 3 := by
  have h : (exH r o y).length ≤ 1 := by
    unfold exH
    split <;> simp
  unfold excL
  split
  · omega
  · split <;> simp only [List.length_append, List.length_cons, List.length_nil] <;> omega
theorem fm_le {α β : Type} {f : α → List β} {m : Nat} : ∀ {l : List α}, (∀ x ∈ l, (f x).length ≤ m) → (l.flatMap f).length ≤ l.length * m
  | [], _ => by simp
  | x :: l, h => by
    have := fm_le (l := l) (fun y hy => h y (List.mem_cons_of_mem _ hy))
    have := h x List.mem_cons_self
    rw [List.flatMap_cons, List.length_append, List.length_cons, Nat.succ_mul]
    omega
theorem take_fm {α β : Type} {f : α → List β} {l : List α} {k : Nat} {x : α} (h : l[k]? = some x) : (l.take (k + 1)).flatMap f = (l.take k).flatMap f ++ f x := by
  rw [take_at h, List.flatMap_append]
  simp
def awS (l hard soft : List Rc) (t : St) (y : Int) (i : Nat) : List (Int × Int) := (l.take i).flatMap (awL1 hard soft t y)
def awHs (hard : List Rc) (t : St) (y : Int) (r : Rc) (k : Nat) : List (Int × Int) := (hard.take k).flatMap fun o => excL r o y t false
def awSs (soft : List Rc) (t : St) (y : Int) (r : Rc) (k : Nat) : List (Int × Int) := (soft.take k).flatMap fun o => excL r o y t true
theorem awHs_len (hard : List Rc) (t : St) (y : Int) (r : Rc) (k : Nat) : (awHs hard t y r k).length ≤ hard.length * 3 :=
  Nat.le_trans (fm_le fun o _ => excL_len r o y t false) (Nat.mul_le_mul_right 3 (by rw [List.length_take]; omega))
theorem awSs_len (soft : List Rc) (t : St) (y : Int) (r : Rc) (k : Nat) : (awSs soft t y r k).length ≤ soft.length * 3 :=
  Nat.le_trans (fm_le fun o _ => excL_len r o y t true) (Nat.mul_le_mul_right 3 (by rw [List.length_take]; omega))
theorem awS_len {l hard soft : List Rc} {t : St} {y : Int} (nl : l.length ≤ 12) (nh : hard.length ≤ 100) (ns : soft.length ≤ 100) (i : Nat) : (awS l hard soft t y i).length ≤ 7200 := by
  have h : (awS l hard soft t y i).length ≤ (l.take i).length * 600 := fm_le fun r _ => by
    unfold awL1
    rw [List.length_append]
    have a := awHs_len hard t y r hard.length
    have b := awSs_len soft t y r soft.length
    unfold awHs at a
    unfold awSs at b
    rw [List.take_length] at a b
    omega
  have h2 : (l.take i).length ≤ 12 := by rw [List.length_take]; omega
  have := Nat.mul_le_mul_right 600 h2
  omega
theorem awHs_snoc {hard : List Rc} {t : St} {y : Int} {r o : Rc} {k : Nat} (h : hard[k]? = some o) : awHs hard t y r (k + 1) = awHs hard t y r k ++ excL r o y t false := take_fm h
theorem awSs_snoc {soft : List Rc} {t : St} {y : Int} {r o : Rc} {k : Nat} (h : soft[k]? = some o) : awSs soft t y r (k + 1) = awSs soft t y r k ++ excL r o y t true := take_fm h
theorem awS_snoc {l hard soft : List Rc} {t : St} {y : Int} {r : Rc} {i : Nat} (h : l[i]? = some r) : awS l hard soft t y (i + 1) = awS l hard soft t y i ++ awHs hard t y r hard.length ++ awSs soft t y r soft.length := by
  unfold awS awHs awSs
  rw [take_fm h, List.take_length, List.take_length, List.append_assoc]
  rfl
def bOf : Value → Bool
  | .bool b => b
  | _ => false
end RG
end Go.Proofs.YtddhaiaapomdjaaGreat
set_option linter.unusedVariables false
set_option linter.unusedSimpArgs false
namespace Go.Proofs.YtddhaiaapomdjaaGreat
set_option linter.unusedVariables false
set_option linter.unusedSimpArgs false
open Go Go.ChangeShapes Go.WideShapes Go.ChangeAt Go.RowKit Go.Deep

namespace RG
set_option maxHeartbeats 16000000 in
set_option maxRecDepth 100000 in
theorem lowest6_any (A : Option Addr) (a : Nat) (l : List Rc) (B : Option Addr) (b : Nat) (hard : List Rc) (C : Option Addr) (c : Nat) (soft : List Rc) (t : St) (y last : Int) (w : World) (hl : SlR w A a l) (hh : SlR w B b hard) (hs : SlR w C c soft) (vl : ∀ r ∈ l, InM 1048576 r) (vh : ∀ r ∈ hard, InM 1048576 r) (vs : ∀ r ∈ soft, InM 1048576 r)
    (hy : -10000000 ≤ y ∧ y ≤ 10000000) (hg : 0 ≤ t.g ∧ t.g ≤ 14400) (nl : l.length ≤ 12) (nh : hard.length ≤ 100) (ns : soft.length ≤ 100) :
    Calls Tryz.prog 122 #[.slice A l.length a, .slice B hard.length b, .slice C soft.length c, stvv t, iv y, iv last] w fun e w' => ∃ x, LoX t.m (awL l hard soft t y) x ∧ e = .returned (.tuple #[iv x, .bool (decide (x ≤ last))]) ∧ Gr w w' := by
  have m1 := hl.cap
  have m2 := hl.capB
  have m3 := hh.cap
  have m4 := hh.capB
  have m5 := hs.cap
  have m6 := hs.capB
  have HL := hide hl
  have HH := hide hh
  have HS := hide hs
  have HEX := hide (fun (r s : Rc) (sf : Bool) (hr : r ∈ l) (h : s ∈ hard ∨ s ∈ soft) (w' : World) => excluded6_any r s y t sf w' (vl r hr) (h.elim (vh s) (vs s)) hy hg)
  have HZ := hide (fun i => awS_len (t := t) (y := y) nl nh ns i)
  have HZ1 := hide (fun (r : Rc) k => Nat.le_trans (awHs_len hard t y r k) (Nat.mul_le_mul_right 3 nh))
  have HZ2 := hide (fun (r : Rc) k => Nat.le_trans (awSs_len soft t y r k) (Nat.mul_le_mul_right 3 ns))
  clear hl hh hs vl vh vs hy hg
  go_enter Tryz.func122, Tryz.ntmps122
  go_wp2
  have g0 : Gr w (w.alloc (.cells #[iv t.g, iv t.m, .bool t.c] 29)) := Gr.alloc (Gr.refl _) _
  have HC := hide (fun (w' : World) (g : Gr (w.alloc (.cells #[iv t.g, iv t.m, .bool t.c] 29)) w') => box3 g)
  generalize w.alloc (.cells #[iv t.g, iv t.m, .bool t.c] 29) = w0 at *
  go_loopw [14, 15] (fun v i wr => ∃ (k n : Nat) (A' : Option Addr) (d : Nat) (AW : List (Int × Int)), k ≤ l.length ∧ i = iv k ∧ v = .slice A' n d ∧ Gr w0 wr ∧ Hid (OwnL wr w0.heap.size 207 2 spL (.slice A' n d) AW) ∧ Hid (AW = awS l hard soft t y k)) (fun _ i _ => l.length - (intOf i).toNat)
  case atStart => exact ⟨0, 0, none, 0, [], by omega, rfl, rfl, Gr.refl _, hide (own_nil _ _ _ _ _), hide (by simp [awS])⟩
  case round =>
    obtain ⟨k, n, A1, d1, AW, hk, rfl, rfl, g, HO, HE⟩ := hrel
    by_cases hkl : k < l.length
    · obtain ⟨r, hr⟩ : ∃ r, l[k]? = some r := ⟨_, List.getElem?_eq_getElem hkl⟩
      obtain ⟨b1, o1, hA, _⟩ := (HL.out.gr (g0.trans g)).at_ hr
      subst hA
      have HR := hide hr
      have hk0 : (0 : Int) ≤ (k : Int) := by omega
      have hk1 : (k : Int) < (l.length : Int) := by omega
      have HZk := hide (HZ.out k)
      have HSN := hide (awS_snoc (hard := hard) (soft := soft) (t := t) (y := y) hr)
      clear hr
      go_wp2
      obtain ⟨w1, rfl⟩ : ∃ x, x = wr := ⟨_, rfl⟩
      go_loopw [14, 16] (fun v i wr2 => ∃ (j n2 : Nat) (A2 : Option Addr) (d2 : Nat) (AW2 : List (Int × Int)), j ≤ hard.length ∧ i = iv j ∧ v = .slice A2 n2 d2 ∧ Gr w0 wr2 ∧ Hid (OwnL wr2 w0.heap.size 207 2 spL (.slice A2 n2 d2) AW2) ∧ Hid (AW2 = awS l hard soft t y k ++ awHs hard t y r j)) (fun _ i _ => hard.length - (intOf i).toNat)
      case atStart => exact ⟨0, n, A1, d1, AW, by omega, rfl, rfl, g, HO, hide (by rw [HE.out]; simp [awHs])⟩
      case round =>
        obtain ⟨j, n2, A2, d2, AW2, hj, rfl, rfl, g2, HO2, HE2⟩ := hrel
        by_cases hjl : j < hard.length
        · obtain ⟨s, hs⟩ : ∃ s, hard[j]? = some s := ⟨_, List.getElem?_eq_getElem hjl⟩
          obtain ⟨b2, o2, hB, y0, y1, y2, y3⟩ := (HH.out.gr (g0.trans g2)).at_ hs
          subst hB
          obtain ⟨b', o', hA, x0, x1, x2, x3⟩ := (HL.out.gr (g0.trans g2)).at_ HR.out
          cases hA
          have hbl : b1 < wr.heap.size := cell_lt (by rw [x0]; rfl)
          have hbl2 : b2 < wr.heap.size := cell_lt (by rw [y0]; rfl)
          obtain ⟨hc, q0, q1, q2⟩ := HC.out wr g2
          have hj0 : (0 : Int) ≤ (j : Int) := by omega
          have hj1 : (j : Int) < (hard.length : Int) := by omega
          have HX := hide (fun w' => HEX.out r s false (List.mem_of_getElem? HR.out) (.inl (List.mem_of_getElem? hs)) w')
          obtain ⟨X, hX⟩ : ∃ X, excL r s y t false = X := ⟨_, rfl⟩
          rw [hX] at HX
          have HE3 := hide (show AW2 ++ X = awS l hard soft t y k ++ awHs hard t y r (j + 1) by rw [awHs_snoc hs, ← List.append_assoc, ← hX, HE2.out])
          have HNN := hide (show AW2.length + X.length ≤ 1000000 by
            have h0 := excL_len r s y t false
            rw [hX] at h0
            rw [HE2.out]
            have h1 := HZk.out
            have h2 := HZ1.out r hard.length
            have h3 := HZ1.out r j
            simp only [List.length_append]
            omega)
          have hlo : w0.heap.size ≤ wr.heap.size := g2.size
          clear hs hX HE2
          obtain ⟨w5, rfl⟩ : ∃ x, x = wr := ⟨_, rfl⟩
          go_upto_region 8 with fail
          go_region_law (first
            | (go_simp; go_at_call 162; refine (HX.out _).mono ?_; rintro e w6 ⟨D6, q6, rfl, ho6, g6⟩; (have HO6 := hide ho6); clear ho6; obtain ⟨X6, Y6, c6, f6⟩ := g6.use)
            | (refine step_appL (by rfl) _ _ _ (by rfl) spL w0.heap.size 207 2 16 elSp (by decide) (fun _ => rfl) one_sp1 AW2 X A2 n2 d2 (by rfl) (HO2.out.gr (by with_reducible repeat (first | exact Gr.refl _ | assumption | refine Gr.alloc ?_ _ | refine Gr.drewN ?_ _ | refine Gr.drew ?_ | refine Gr.setCell ?_ (by first | (dsimp only; omega) | (simp only [World.size_alloc]; omega)) _ | refine Gr.trans ?_ (by assumption)))) D6 X.length q6 (by rfl) (RdL.gr (OwnL.rd (c := spL) (fun _ => rfl) HO6.out).2.1 (by with_reducible repeat (first | exact Gr.refl _ | assumption | refine Gr.alloc ?_ _ | refine Gr.drewN ?_ _ | refine Gr.drew ?_ | refine Gr.setCell ?_ (by first | (dsimp only; omega) | (simp only [World.size_alloc]; omega)) _ | refine Gr.trans ?_ (by assumption)))) rfl HNN.out (by decide) (Nat.le_trans hlo (Gr.size (show Gr w5 _ from (by with_reducible repeat (first | exact Gr.refl _ | assumption | refine Gr.alloc ?_ _ | refine Gr.drewN ?_ _ | refine Gr.drew ?_ | refine Gr.setCell ?_ (by first | (dsimp only; omega) | (simp only [World.size_alloc]; omega)) _ | refine Gr.trans ?_ (by assumption)))))) ?_; intro D8 N8 d8 w8 hN8 hO8 hG8 hgrow; (have HN8 := hide hN8); clear hN8))
          all_goals
            have g8 : Gr w0 w8 := hG8 w0 (g2.trans (show Gr w5 _ from (by with_reducible repeat (first | exact Gr.refl _ | assumption | refine Gr.alloc ?_ _ | refine Gr.drewN ?_ _ | refine Gr.drew ?_ | refine Gr.setCell ?_ (by first | (dsimp only; omega) | (simp only [World.size_alloc]; omega)) _ | refine Gr.trans ?_ (by assumption))))) (Nat.le_refl _)
            have HO8 := hide hO8
            clear hG8 hO8 hgrow HN8 HO6
            go_wp2
            go_roundw
            case rel => exact ⟨j + 1, N8, D8, d8, AW2 ++ X, by omega, by go_num, rfl, g8, HO8, HE3⟩
            case measure => simp only [intOf]; omega
        · obtain rfl : j = hard.length := by omega
          have HE3 := hide (show AW2 = awS l hard soft t y k ++ awHs hard t y r hard.length from HE2.out)
          clear HO HE HE2
          go_wp2
          obtain ⟨w2, rfl⟩ : ∃ x, x = wr := ⟨_, rfl⟩
          go_loopw [14, 17] (fun v i wr2 => ∃ (j n2 : Nat) (A2 : Option Addr) (d2 : Nat) (AW2 : List (Int × Int)), j ≤ soft.length ∧ i = iv j ∧ v = .slice A2 n2 d2 ∧ Gr w0 wr2 ∧ Hid (OwnL wr2 w0.heap.size 207 2 spL (.slice A2 n2 d2) AW2) ∧ Hid (AW2 = awS l hard soft t y k ++ awHs hard t y r hard.length ++ awSs soft t y r j)) (fun _ i _ => soft.length - (intOf i).toNat)
          case atStart => exact ⟨0, n2, A2, d2, AW2, by omega, rfl, rfl, g2, HO2, hide (by rw [HE3.out]; simp [awSs])⟩
          case round =>
            obtain ⟨j, n4, A4, d4, AW4, hj, rfl, rfl, g4, HO4, HE5⟩ := hrel
            by_cases hjl : j < soft.length
            · obtain ⟨s, hs⟩ : ∃ s, soft[j]? = some s := ⟨_, List.getElem?_eq_getElem hjl⟩
              obtain ⟨b2, o2, hB, y0, y1, y2, y3⟩ := (HS.out.gr (g0.trans g4)).at_ hs
              subst hB
              obtain ⟨b', o', hA, x0, x1, x2, x3⟩ := (HL.out.gr (g0.trans g4)).at_ HR.out
              cases hA
              have hbl : b1 < wr.heap.size := cell_lt (by rw [x0]; rfl)
              have hbl2 : b2 < wr.heap.size := cell_lt (by rw [y0]; rfl)
              obtain ⟨hc, q0, q1, q2⟩ := HC.out wr g4
              have hj0 : (0 : Int) ≤ (j : Int) := by omega
              have hj1 : (j : Int) < (soft.length : Int) := by omega
              have HX := hide (fun w' => HEX.out r s true (List.mem_of_getElem? HR.out) (.inr (List.mem_of_getElem? hs)) w')
              obtain ⟨X, hX⟩ : ∃ X, excL r s y t true = X := ⟨_, rfl⟩
              rw [hX] at HX
              have HE6 := hide (show AW4 ++ X = awS l hard soft t y k ++ awHs hard t y r hard.length ++ awSs soft t y r (j + 1) by rw [awSs_snoc hs, ← List.append_assoc, ← hX, HE5.out])
              have HNN := hide (show AW4.length + X.length ≤ 1000000 by
                have h0 := excL_len r s y t true
                rw [hX] at h0
                rw [HE5.out]
                have h1 := HZk.out
                have h2 := HZ1.out r hard.length
                have h3 := HZ2.out r j
                simp only [List.length_append]
                omega)
              have hlo : w0.heap.size ≤ wr.heap.size := g4.size
              clear hs hX HE5
              obtain ⟨w5, rfl⟩ : ∃ x, x = wr := ⟨_, rfl⟩
              go_upto_region 12 with fail
              go_region_law (first
                | (go_simp; go_at_call 162; refine (HX.out _).mono ?_; rintro e w6 ⟨D6, q6, rfl, ho6, g6⟩; (have HO6 := hide ho6); clear ho6; obtain ⟨X6, Y6, c6, f6⟩ := g6.use)
                | (refine step_appL (by rfl) _ _ _ (by rfl) spL w0.heap.size 207 2 16 elSp (by decide) (fun _ => rfl) one_sp1 AW4 X A4 n4 d4 (by rfl) (HO4.out.gr (by with_reducible repeat (first | exact Gr.refl _ | assumption | refine Gr.alloc ?_ _ | refine Gr.drewN ?_ _ | refine Gr.drew ?_ | refine Gr.setCell ?_ (by first | (dsimp only; omega) | (simp only [World.size_alloc]; omega)) _ | refine Gr.trans ?_ (by assumption)))) D6 X.length q6 (by rfl) (RdL.gr (OwnL.rd (c := spL) (fun _ => rfl) HO6.out).2.1 (by with_reducible repeat (first | exact Gr.refl _ | assumption | refine Gr.alloc ?_ _ | refine Gr.drewN ?_ _ | refine Gr.drew ?_ | refine Gr.setCell ?_ (by first | (dsimp only; omega) | (simp only [World.size_alloc]; omega)) _ | refine Gr.trans ?_ (by assumption)))) rfl HNN.out (by decide) (Nat.le_trans hlo (Gr.size (show Gr w5 _ from (by with_reducible repeat (first | exact Gr.refl _ | assumption | refine Gr.alloc ?_ _ | refine Gr.drewN ?_ _ | refine Gr.drew ?_ | refine Gr.setCell ?_ (by first | (dsimp only; omega) | (simp only [World.size_alloc]; omega)) _ | refine Gr.trans ?_ (by assumption)))))) ?_; intro D8 N8 d8 w8 hN8 hO8 hG8 hgrow; (have HN8 := hide hN8); clear hN8))
              all_goals
                have g8 : Gr w0 w8 := hG8 w0 (g4.trans (show Gr w5 _ from (by with_reducible repeat (first | exact Gr.refl _ | assumption | refine Gr.alloc ?_ _ | refine Gr.drewN ?_ _ | refine Gr.drew ?_ | refine Gr.setCell ?_ (by first | (dsimp only; omega) | (simp only [World.size_alloc]; omega)) _ | refine Gr.trans ?_ (by assumption))))) (Nat.le_refl _)
                have HO8 := hide hO8
                clear hG8 hO8 hgrow HN8 HO6
                go_wp2
                go_roundw
                case rel => exact ⟨j + 1, N8, D8, d8, AW4 ++ X, by omega, by go_num, rfl, g8, HO8, HE6⟩
                case measure => simp only [intOf]; omega
            · obtain rfl : j = soft.length := by omega
              have HE4 := hide (show AW4 = awS l hard soft t y (k + 1) by rw [HSN.out, HE5.out])
              clear HE5 HE3
              go_wp2
              go_roundw
              case rel => exact ⟨k + 1, n4, A4, d4, AW4, by omega, by go_num, rfl, g4, HO4, HE4⟩
              case measure => simp only [intOf]; omega
    · obtain rfl : k = l.length := by omega
      have hn := own_n HO.out
      subst hn
      have HLN := hide (show AW.length ≤ 7200 by rw [HE.out]; exact HZ.out _)
      have HEQ := hide (show AW = awL l hard soft t y by rw [HE.out]; unfold awS awL; rw [List.take_length])

      obtain ⟨_, hrd, hcap, hcapB⟩ := OwnL.rd (c := spL) (fun _ => rfl) HO.out
      have HRD := hide hrd
      have hcB : d1 ≤ 9223372036854775807 := by unfold maxLen at hcapB; omega
      obtain ⟨hc, q0, q1, q2⟩ := HC.out wr g
      obtain ⟨w3, rfl⟩ : ∃ x, x = wr := ⟨_, rfl⟩
      clear HE HO hrd hcapB HEX HZ HZ1 HZ2 HL HH HS
      go_wp2
      clear hc q0 q1 q2
      go_loopw [18, 19] (fun v u wr => ∃ (x : Int) (ag : Bool), v = iv x ∧ u = .bool ag ∧ Gr w3 wr ∧ Hid (LoI t.m AW x) ∧ Hid (ag = false → ∀ (j : Nat) (p : Int × Int), j < AW.length → AW[j]? = some p → ¬ inSp p x)) (fun v u _ => if bOf u then cntS AW (intOf v) + 1 else 0)
      case atStart => exact ⟨t.m, true, rfl, rfl, Gr.refl _, hide (loI_zero _ _), hide (fun h => by cases h)⟩
      case round =>
        obtain ⟨x, ag, rfl, rfl, g3, HI, HF⟩ := hrel
        cases ag with
        | false =>
          have HX := hide (HI.out.fin (HF.out rfl))
          clear HI HF
          go_wp2
          go_ret2
          exact ⟨x, by rw [← HEQ.out]; exact HX.out, rfl, (g0.trans g).trans g3⟩
        | true =>
          go_wp2
          obtain ⟨w4, rfl⟩ : ∃ x, x = wr := ⟨_, rfl⟩
          go_loopw [18, 19, 20] (fun v u i wr => ∃ (x2 : Int) (ag : Bool) (j : Nat), v = iv x2 ∧ u = .bool ag ∧ i = iv j ∧ j ≤ AW.length ∧ Gr w4 wr ∧ Hid (LoI t.m AW x2) ∧ Hid (ag = false → x2 = x ∧ ∀ (i : Nat) (p : Int × Int), i < j → AW[i]? = some p → ¬ inSp p x2) ∧ Hid (ag = true → cntS AW x2 < cntS AW x) ∧ Hid (x ≤ x2)) (fun _ _ i _ => AW.length - (intOf i).toNat)
          case atStart => exact ⟨x, false, 0, rfl, rfl, rfl, by omega, Gr.refl _, HI, hide (fun _ => ⟨rfl, fun i p h => absurd h (Nat.not_lt_zero i)⟩), hide (fun h => by cases h), hide (Int.le_refl _)⟩
          case round =>
            obtain ⟨x2, ag, j, rfl, rfl, rfl, hj, g5, HI2, HF2, HC2, HX2⟩ := hrel
            by_cases hjl : j < AW.length
            · obtain ⟨p, hp⟩ : ∃ p, AW[j]? = some p := ⟨_, List.getElem?_eq_getElem hjl⟩
              obtain ⟨b5, o5, hA5, c0, c1, _⟩ := (HRD.out.gr (g3.trans g5)) j p hp
              subst hA5
              have hbl : b5 < wr.heap.size := cell_lt (by rw [c0]; rfl)
              have HP := hide hp
              have hj0 : (0 : Int) ≤ (j : Int) := by omega
              have hj1 : (j : Int) < (AW.length : Int) := by omega
              obtain ⟨pl, ph⟩ := p
              clear hp
              by_cases e1 : pl < x2
              · have s1 : decide (pl < x2) = true := decide_eq_true e1
                by_cases e2 : x2 < ph
                · have s2 : decide (x2 < ph) = true := decide_eq_true e2
                  have HI3 := hide (HI2.out.step HP.out ⟨e1, e2⟩)
                  have HC3 := hide (show cntS AW ph < cntS AW x from Nat.lt_of_lt_of_le (cntS_lt (List.mem_of_getElem? HP.out) e2) (cntS_le AW HX2.out))
                  have HX3 := hide (show x ≤ ph from by have := HX2.out; omega)
                  clear e1 e2 HI2 HF2 HC2 HX2
                  go_wp2
                  go_roundw
                  case rel => exact ⟨ph, true, j + 1, rfl, rfl, by go_num, by omega, g5, HI3, hide (fun h => by cases h), hide (fun _ => HC3.out), HX3⟩
                  case measure => simp only [intOf]; omega
                · have s2 : decide (x2 < ph) = false := decide_eq_false e2
                  have HF3 := hide (show ag = false → x2 = x ∧ ∀ (i : Nat) (p : Int × Int), i < j + 1 → AW[i]? = some p → ¬ inSp p x2 from fun h => ⟨(HF2.out h).1, fun i p hi hp => by
                    rcases Nat.lt_or_ge i j with q | q
                    · exact (HF2.out h).2 i p q hp
                    · obtain rfl : i = j := by omega
                      rw [HP.out] at hp
                      obtain rfl := Option.some.inj hp
                      exact fun hi => e2 hi.2⟩)
                  clear e1 e2 HF2
                  go_wp2
                  go_roundw
                  case rel => exact ⟨x2, ag, j + 1, rfl, rfl, by go_num, by omega, g5, HI2, HF3, HC2, HX2⟩
                  case measure => simp only [intOf]; omega
              · have s1 : decide (pl < x2) = false := decide_eq_false e1
                have HF3 := hide (show ag = false → x2 = x ∧ ∀ (i : Nat) (p : Int × Int), i < j + 1 → AW[i]? = some p → ¬ inSp p x2 from fun h => ⟨(HF2.out h).1, fun i p hi hp => by
                  rcases Nat.lt_or_ge i j with q | q
                  · exact (HF2.out h).2 i p q hp
                  · obtain rfl : i = j := by omega
                    rw [HP.out] at hp
                    obtain rfl := Option.some.inj hp
                    exact fun hi => e1 hi.1⟩)
                clear e1 HF2
                go_wp2
                go_roundw
                case rel => exact ⟨x2, ag, j + 1, rfl, rfl, by go_num, by omega, g5, HI2, HF3, HC2, HX2⟩
                case measure => simp only [intOf]; omega
            · obtain rfl : j = AW.length := by omega
              have HFN := hide (show ag = false → ∀ (j : Nat) (p : Int × Int), j < AW.length → AW[j]? = some p → ¬ inSp p x2 from fun h => (HF2.out h).2)
              have HM := hide (show (if ag = true then cntS AW x2 + 1 else 0) < cntS AW x + 1 from by
                have := HC2.out
                cases ag with
                | false => simp
                | true => simp [this rfl])
              clear HF2 HC2 HX2 HF HI
              go_wp2
              go_roundw
              case rel => exact ⟨x2, ag, rfl, rfl, g3.trans g5, HI2, HFN⟩
              case measure => simp only [intOf, bOf]; exact HM.out
end RG
end Go.Proofs.YtddhaiaapomdjaaGreat
set_option linter.unusedVariables false
set_option linter.unusedSimpArgs false
namespace Go.Proofs.YtddhaiaapomdjaaGreat
set_option linter.unusedVariables false
set_option linter.unusedSimpArgs false
open Go Go.ChangeShapes Go.WideShapes Go.ChangeAt Go.RowKit Go.Deep

namespace RG
theorem own_lo {α : Type} {c : α → List Value} {w : World} {base : Nat} {e : TypeId} {k n d : Nat} {A : Option Addr} {xs : List α} (h : OwnL w base e k c (.slice A n d) xs) {i : Nat} (hi : A.map Addr.block = some i) : base ≤ i ∧ i < w.heap.size := World.ownsRow.lt h i ((own_map h).2 hi)
theorem InsR.toGr {RW : Option Nat} {z w w' : World} {D : Option Addr} {lo : Nat} (h : InsR RW w w' D) (hlo : ∀ i, RW = some i → lo ≤ i) (g : Gr z w) (hz : z.heap.size ≤ lo) : Gr z w' := h.kx.toGr g fun i hi => Nat.le_trans hz (hlo i hi)
theorem ins_step {z w w' : World} {A D : Option Addr} {n d lo B : Nat} {e : TypeId} {l : List Int} {cs : Array Value} (hO : OwnL w lo e 1 inL (.slice A n d) l) (h : InsR (A.map Addr.block) w w' D) (hM : Made w B cs) (hB : ∀ i, A.map Addr.block = some i → i ≠ B) (g : Gr z w) (hz : z.heap.size ≤ lo) :
    Gr z w' ∧ Made w' B cs ∧ ∀ i, D.map Addr.block = some i → i ≠ B := by
  refine ⟨h.toGr (fun i hi => (own_lo hO hi).1) g hz, Made.kx hM h.kx (fun e => hB B e rfl), fun i hi => ?_⟩
  rcases h.fr i hi with c | c
  · exact hB i c
  · have := hM.1
    omega
def htS (l hard soft : List Rc) (t : St) (k : Nat) : List Int := (l.take k).flatMap (htC1 hard soft t)
def htH (hard : List Rc) (r : Rc) (j : Nat) : List Int := (hard.take j).map fun o => o.y + o.h - r.y
def htT (t : St) (r o : Rc) : List Int := [o.y + o.h - r.y, o.y + o.h + t.g - r.y, o.y - r.h - r.y]
def htO (soft : List Rc) (t : St) (r : Rc) (j : Nat) : List Int := (soft.take j).flatMap (htT t r)
theorem htS_snoc {l hard soft : List Rc} {t : St} {r : Rc} {k : Nat} (h : l[k]? = some r) : htS l hard soft t (k + 1) = htS l hard soft t k ++ htH hard r hard.length ++ htO soft t r soft.length := by
  unfold htS htH htO
  rw [take_fm h, List.take_length, List.take_length, List.append_assoc]
  rfl
theorem htH_snoc {hard : List Rc} {r o : Rc} {j : Nat} (h : hard[j]? = some o) : htH hard r (j + 1) = htH hard r j ++ [o.y + o.h - r.y] := by
  unfold htH
  rw [take_at h, List.map_append]
  rfl
theorem htO_snoc {soft : List Rc} {t : St} {r o : Rc} {j : Nat} (h : soft[j]? = some o) : htO soft t r (j + 1) = htO soft t r j ++ [o.y + o.h - r.y] ++ [o.y + o.h + t.g - r.y] ++ [o.y - r.h - r.y] := by
  unfold htO
  rw [take_fm h, List.append_assoc, List.append_assoc]
  rfl
theorem htH_len (hard : List Rc) (r : Rc) (j : Nat) : (htH hard r j).length ≤ hard.length := by
  unfold htH
  rw [List.length_map, List.length_take]
  omega
theorem htO_len (soft : List Rc) (t : St) (r : Rc) (j : Nat) : (htO soft t r j).length ≤ soft.length * 3 :=
  Nat.le_trans (fm_le fun o _ => Nat.le_refl 3) (Nat.mul_le_mul_right 3 (by rw [List.length_take]; omega))
theorem htS_len {l hard soft : List Rc} {t : St} (nl : l.length ≤ 12) (nh : hard.length ≤ 100) (ns : soft.length ≤ 100) (i : Nat) : (htS l hard soft t i).length ≤ 4800 := by
  have h : (htS l hard soft t i).length ≤ (l.take i).length * 400 := fm_le fun r _ => by
    unfold htC1
    rw [List.length_append, List.length_map]
    have b := htO_len soft t r soft.length
    unfold htO at b
    rw [List.take_length] at b
    have b' : (soft.flatMap fun o => [o.y + o.h - r.y, o.y + o.h + t.g - r.y, o.y - r.h - r.y]).length ≤ soft.length * 3 := b
    omega
  have h2 : (l.take i).length ≤ 12 := by rw [List.length_take]; omega
  have := Nat.mul_le_mul_right 400 h2
  omega
set_option maxHeartbeats 16000000 in
set_option maxRecDepth 100000 in
theorem heights6_any (A : Option Addr) (a : Nat) (l : List Rc) (B : Option Addr) (b : Nat) (hard : List Rc) (C : Option Addr) (c : Nat) (soft : List Rc) (t : St) (w : World) (hl : SlR w A a l) (hh : SlR w B b hard) (hs : SlR w C c soft) (vl : ∀ r ∈ l, InM 1048576 r) (vh : ∀ r ∈ hard, InM 1048576 r) (vs : ∀ r ∈ soft, InM 1048576 r)
    (hg : 0 ≤ t.g ∧ t.g ≤ 14400) (nl : l.length ≤ 12) (nh : hard.length ≤ 100) (ns : soft.length ≤ 100) :
    Calls Tryz.prog 121 #[.slice A l.length a, .slice B hard.length b, .slice C soft.length c, stvv t] w fun e w' => ∃ (D : Option Addr) (d : Nat), e = .returned (.slice D (htL t.m (htC l hard soft t)).length d) ∧ SlI w' D d (htL t.m (htC l hard soft t)) ∧ Gr w w' := by
  have m1 := hl.cap
  have m2 := hl.capB
  have m3 := hh.cap
  have m4 := hh.capB
  have m5 := hs.cap
  have m6 := hs.capB
  have HL := hide hl
  have HH := hide hh
  have HS := hide hs
  have HVL := hide vl
  have HVH := hide vh
  have HVS := hide vs
  have HZ := hide (fun i => htS_len (t := t) nl nh ns i)
  have HZ1 := hide (fun (r : Rc) k => Nat.le_trans (htH_len hard r k) nh)
  have HZ2 := hide (fun (r : Rc) k => Nat.le_trans (htO_len soft t r k) (Nat.mul_le_mul_right 3 ns))
  obtain ⟨hg0, hg1⟩ := hg
  clear hl hh hs vl vh vs
  go_enter Tryz.func121, Tryz.ntmps121
  go_upto_region 1 with fail
  have g0 : Gr w (w.alloc (.cells #[iv t.g, iv t.m, .bool t.c] 29)) := Gr.alloc (Gr.refl _) _
  have HC := hide (fun (w' : World) (g : Gr (w.alloc (.cells #[iv t.g, iv t.m, .bool t.c] 29)) w') => box3 g)
  generalize w.alloc (.cells #[iv t.g, iv t.m, .bool t.c] 29) = w0 at *
  obtain ⟨hc, q0, q1, q2⟩ := HC.out w0 (Gr.refl _)
  have HO0 := hide (own_lit (c := inL) (k := 1) w0 w0.heap.size 3 #[iv t.m] [t.m] (Nat.le_refl _) (fun _ => rfl) rfl (by simp))
  go_wp2
  clear hc q0 q1 q2
  go_loopw [9, 10] (fun v i wr => ∃ (k n : Nat) (A' : Option Addr) (d : Nat) (L : List Int), k ≤ l.length ∧ i = iv k ∧ v = .slice A' n d ∧ Gr w0 wr ∧ Hid (OwnL wr w0.heap.size 3 1 inL (.slice A' n d) L) ∧ Hid (L = htL t.m (htS l hard soft t k))) (fun _ i _ => l.length - (intOf i).toNat)
  case atStart => exact ⟨0, 1, some ⟨w0.heap.size, 0, none⟩, 1, [t.m], by omega, rfl, rfl, Gr.alloc (Gr.refl _) _, HO0, hide rfl⟩
  case round =>
    obtain ⟨k, n, A1, d1, L, hk, rfl, rfl, g, HO, HE⟩ := hrel
    by_cases hkl : k < l.length
    · obtain ⟨r, hr⟩ : ∃ r, l[k]? = some r := ⟨_, List.getElem?_eq_getElem hkl⟩
      obtain ⟨b1, o1, hA, _⟩ := (HL.out.gr (g0.trans g)).at_ hr
      subst hA
      have HR := hide hr
      have hk0 : (0 : Int) ≤ (k : Int) := by omega
      have hk1 : (k : Int) < (l.length : Int) := by omega
      have HZk := hide (HZ.out k)
      have HSN := hide (htS_snoc (hard := hard) (soft := soft) (t := t) hr)
      obtain ⟨v1, v2, v3, v4, v5, v6⟩ := HVL.out r (List.mem_of_getElem? hr)
      clear hr
      go_wp2
      obtain ⟨w1, rfl⟩ : ∃ x, x = wr := ⟨_, rfl⟩
      go_loopw [9, 11] (fun v i wr2 => ∃ (j n2 : Nat) (A2 : Option Addr) (d2 : Nat) (L2 : List Int), j ≤ hard.length ∧ i = iv j ∧ v = .slice A2 n2 d2 ∧ Gr w0 wr2 ∧ Hid (OwnL wr2 w0.heap.size 3 1 inL (.slice A2 n2 d2) L2) ∧ Hid (L2 = htL t.m (htS l hard soft t k ++ htH hard r j))) (fun _ i _ => hard.length - (intOf i).toNat)
      case atStart => exact ⟨0, n, A1, d1, L, by omega, rfl, rfl, g, HO, hide (by rw [HE.out]; simp [htH])⟩
      case round =>
        obtain ⟨j, n2, A2, d2, L2, hj, rfl, rfl, g2, HO2, HE2⟩ := hrel
        by_cases hjl : j < hard.length
        · obtain ⟨s, hs⟩ : ∃ s, hard[j]? = some s := ⟨_, List.getElem?_eq_getElem hjl⟩
          obtain ⟨b2, o2, hB, y0, y1, y2, y3⟩ := (HH.out.gr (g0.trans g2)).at_ hs
          subst hB
          obtain ⟨b', o', hA, x0, x1, x2, x3⟩ := (HL.out.gr (g0.trans g2)).at_ HR.out
          cases hA
          have hbl : b1 < wr.heap.size := cell_lt (by rw [x0]; rfl)
          have hbl2 : b2 < wr.heap.size := cell_lt (by rw [y0]; rfl)
          have hj0 : (0 : Int) ≤ (j : Int) := by omega
          have hj1 : (j : Int) < (hard.length : Int) := by omega
          obtain ⟨u1, u2, u3, u4, u5, u6⟩ := HVH.out s (List.mem_of_getElem? hs)
          have W1 : IntKind.i64.wrap (s.y + s.h) = s.y + s.h := IntWalk.i64_in _ (by omega)
          have W2 : IntKind.i64.wrap (s.y + s.h - r.y) = s.y + s.h - r.y := IntWalk.i64_in _ (by omega)
          have HE3 := hide (show ins L2 (s.y + s.h - r.y) = htL t.m (htS l hard soft t k ++ htH hard r (j + 1)) by rw [htH_snoc hs, ← List.append_assoc, htL_app, HE2.out])
          have HU := hide (show Up L2 by rw [HE2.out]; exact htL_up _ _)
          have HN := hide (show L2.length ≤ 100000 by
            rw [HE2.out]
            have h0 := htL_len t.m (htS l hard soft t k ++ htH hard r j)
            have h1 := HZk.out
            have h2 := HZ1.out r j
            rw [List.length_append] at h0
            omega)
          have hlo : w0.heap.size ≤ wr.heap.size := g2.size
          clear hs HE2 u1 u2 u3 u4 u5 u6
          obtain ⟨w5, rfl⟩ : ∃ x, x = wr := ⟨_, rfl⟩
          go_upto_region 8 with fail
          have GC := @GrW.cell
          refine wp_region_grw_pre 18 (by kernel_rfl) (by kernel_rfl) ?_
          simp only [List.take_succ_cons, List.take_zero]
          repeat (go_big_quiet_step (fail))
          refine wpQuiet_nil ?_
          intro wq hwq
          obtain ⟨gq, hwq'⟩ := hwq
          subst hwq'
          clear GC
          have gq1 := gq.gr
          generalize gq.w = wq at gq1 ⊢
          obtain ⟨Xq, Yq, cq, fq⟩ := gq1.use
          change wpAny _ .any _ _ 2 #[true, true, true, true, true, true, true, true, true, true, true, true, true, true, true, true, true, true, false, false] _ _
          refine wpAny_ready (rs := [18]) (by kernel_rfl) (by simp) ?_
          refine AllReady.cons rfl (fun K hK => ?_) AllReady.nil
          go_simp
          go_wp2_with (go_at_call 138; refine (insert6_at (HO2.out.gr (by with_reducible repeat (first | exact Gr.refl _ | assumption | refine Gr.alloc ?_ _ | refine Gr.drewN ?_ _ | refine Gr.drew ?_ | refine Gr.setCell ?_ (by first | (dsimp only; omega) | (simp only [World.size_alloc]; omega)) _ | refine Gr.trans ?_ (by assumption)))) (Nat.le_trans hlo (Gr.size (show Gr w5 _ from (by with_reducible repeat (first | exact Gr.refl _ | assumption | refine Gr.alloc ?_ _ | refine Gr.drewN ?_ _ | refine Gr.drew ?_ | refine Gr.setCell ?_ (by first | (dsimp only; omega) | (simp only [World.size_alloc]; omega)) _ | refine Gr.trans ?_ (by assumption)))))) HU.out HN.out).mono ?_; rintro e w6 ⟨D6, N6, d6, rfl, ho6, hi6⟩; (have HO6 := hide ho6); (have HI6 := hide hi6); clear ho6 hi6)
          (try (refine hK _ _ ?_; clear hK K))
          refine wpAny_ready (rs := [19]) (by kernel_rfl) (by simp) ?_
          refine AllReady.cons rfl (fun K hK => ?_) AllReady.nil
          go_simp
          refine hK _ _ ?_
          clear hK K
          refine wpAny_done (by kernel_rfl) ?_ _
          have HRW := hide (fun i (hi : A2.map Addr.block = some i) => (own_lo HO2.out hi).1)
          have g6 : Gr w0 w6 := HI6.out.toGr HRW.out (g2.trans gq1) (Nat.le_refl _)
          clear HRW HI6 cq fq
          go_wp2
          go_roundw
          case rel => exact ⟨j + 1, N6, D6, d6, _, by omega, by go_num, rfl, g6, HO6, HE3⟩
          case measure => simp only [intOf]; omega
        · obtain rfl : j = hard.length := by omega
          have HE3 := hide (show L2 = htL t.m (htS l hard soft t k ++ htH hard r hard.length) from HE2.out)
          clear HO HE HE2
          go_wp2
          obtain ⟨w2, rfl⟩ : ∃ x, x = wr := ⟨_, rfl⟩
          go_loopw [9, 12] (fun v i wr2 => ∃ (j n4 : Nat) (A4 : Option Addr) (d4 : Nat) (L4 : List Int), j ≤ soft.length ∧ i = iv j ∧ v = .slice A4 n4 d4 ∧ Gr w0 wr2 ∧ Hid (OwnL wr2 w0.heap.size 3 1 inL (.slice A4 n4 d4) L4) ∧ Hid (L4 = htL t.m (htS l hard soft t k ++ htH hard r hard.length ++ htO soft t r j))) (fun _ i _ => soft.length - (intOf i).toNat)
          case atStart => exact ⟨0, n2, A2, d2, L2, by omega, rfl, rfl, g2, HO2, hide (by rw [HE3.out]; simp [htO])⟩
          case round =>
            obtain ⟨j, n4, A4, d4, L4, hj, rfl, rfl, g4, HO4, HE5⟩ := hrel
            by_cases hjl : j < soft.length
            · obtain ⟨s, hs⟩ : ∃ s, soft[j]? = some s := ⟨_, List.getElem?_eq_getElem hjl⟩
              obtain ⟨b2, o2, hB, y0, y1, y2, y3⟩ := (HS.out.gr (g0.trans g4)).at_ hs
              subst hB
              have hbl2 : b2 < wr.heap.size := cell_lt (by rw [y0]; rfl)
              have hj0 : (0 : Int) ≤ (j : Int) := by omega
              have hj1 : (j : Int) < (soft.length : Int) := by omega
              obtain ⟨u1, u2, u3, u4, u5, u6⟩ := HVS.out s (List.mem_of_getElem? hs)
              have W1 : IntKind.i64.wrap (s.y + s.h) = s.y + s.h := IntWalk.i64_in _ (by omega)
              have W3 : IntKind.i64.wrap (s.y + s.h + t.g) = s.y + s.h + t.g := IntWalk.i64_in _ (by omega)
              have W5 : IntKind.i64.wrap (s.y - r.h) = s.y - r.h := IntWalk.i64_in _ (by omega)
              obtain ⟨z1, hz1⟩ : ∃ z, s.y + s.h - r.y = z := ⟨_, rfl⟩
              obtain ⟨z2, hz2⟩ : ∃ z, s.y + s.h + t.g - r.y = z := ⟨_, rfl⟩
              obtain ⟨z3, hz3⟩ : ∃ z, s.y - r.h - r.y = z := ⟨_, rfl⟩
              have W2 : IntKind.i64.wrap (s.y + s.h - r.y) = z1 := (IntWalk.i64_in _ (by omega)).trans hz1
              have W4 : IntKind.i64.wrap (s.y + s.h + t.g - r.y) = z2 := (IntWalk.i64_in _ (by omega)).trans hz2
              have W6 : IntKind.i64.wrap (s.y - r.h - r.y) = z3 := (IntWalk.i64_in _ (by omega)).trans hz3
              have HE6 := hide (show ins (ins (ins L4 z1) z2) z3 = htL t.m (htS l hard soft t k ++ htH hard r hard.length ++ htO soft t r (j + 1)) by rw [htO_snoc hs, ← List.append_assoc, ← List.append_assoc, ← List.append_assoc, htL_app, htL_app, htL_app, HE5.out, hz1, hz2, hz3])
              have HU := hide (show Up L4 by rw [HE5.out]; exact htL_up _ _)
              have HN := hide (show L4.length ≤ 50000 by
                rw [HE5.out]
                have h0 := htL_len t.m (htS l hard soft t k ++ htH hard r hard.length ++ htO soft t r j)
                have h1 := HZk.out
                have h2 := HZ1.out r hard.length
                have h3 := HZ2.out r j
                simp only [List.length_append] at h0
                omega)
              have hlo : w0.heap.size ≤ wr.heap.size := g4.size
              clear hs HE5 u1 u2 u3 u4 u5 u6 hz1 hz2 hz3
              obtain ⟨w5, rfl⟩ : ∃ x, x = wr := ⟨_, rfl⟩
              go_upto_region 13 with fail
              have HOa := hide (HO4.out.gr (Gr.alloc (Gr.refl w5) (.cells #[iv s.x, iv s.y, iv s.w, iv s.h] 70)))
              have HMa := hide (Made.new w5 #[iv s.x, iv s.y, iv s.w, iv s.h] 70)
              have HBa := hide (fun i (hi : A4.map Addr.block = some i) => show i ≠ w5.heap.size from by have := (own_lo HO4.out hi).2; omega)
              have ga : Gr w0 (w5.alloc (.cells #[iv s.x, iv s.y, iv s.w, iv s.h] 70)) := Gr.alloc g4 _
              have HNa := hide (show L4.length ≤ 100000 from Nat.le_trans HN.out (by decide))
              generalize w5.alloc (.cells #[iv s.x, iv s.y, iv s.w, iv s.h] 70) = w6 at *
              obtain ⟨B6, hB6⟩ : ∃ B6, w5.heap.size = B6 := ⟨_, rfl⟩
              rw [hB6] at HMa HBa hlo ⊢
              clear hbl2 y0 y1 y2 y3 hB6 hlo HO4
              obtain ⟨b', o', hA, x0, x1, x2, x3⟩ := (HL.out.gr (g0.trans ga)).at_ HR.out
              cases hA
              have hbl : b1 < w6.heap.size := cell_lt (by rw [x0]; rfl)
              obtain ⟨hBl, y0, _⟩ := HMa.out
              have e1 := y0 1
              have e3 := y0 3
              clear y0
              obtain ⟨hc, q0, q1, q2⟩ := HC.out w6 ga
              have GC := @GrW.cell
              refine wp_region_grw_pre 12 (by kernel_rfl) (by kernel_rfl) ?_
              simp only [List.take_succ_cons, List.take_zero]
              repeat (go_big_quiet_step (fail))
              refine wpQuiet_nil ?_
              intro wq hwq
              obtain ⟨gq, hwq'⟩ := hwq
              subst hwq'
              clear GC
              have gq1 := gq.gr
              generalize gq.w = wq at gq1 ⊢
              obtain ⟨Xq, Yq, cq, fq⟩ := gq1.use
              change wpAny _ .any _ _ 2 #[true, true, true, true, true, true, true, true, true, true, true, true, false, false] _ _
              refine wpAny_ready (rs := [12]) (by kernel_rfl) (by simp) ?_
              refine AllReady.cons rfl (fun K hK => ?_) AllReady.nil
              go_simp
              go_wp2_with (go_at_call 138; refine (insert6_at (HOa.out.gr (by with_reducible repeat (first | exact Gr.refl _ | assumption | refine Gr.alloc ?_ _ | refine Gr.drewN ?_ _ | refine Gr.drew ?_ | refine Gr.setCell ?_ (by first | (dsimp only; omega) | (simp only [World.size_alloc]; omega)) _ | refine Gr.trans ?_ (by assumption)))) (Nat.le_trans (Gr.size ga) (Gr.size (show Gr w6 _ from (by with_reducible repeat (first | exact Gr.refl _ | assumption | refine Gr.alloc ?_ _ | refine Gr.drewN ?_ _ | refine Gr.drew ?_ | refine Gr.setCell ?_ (by first | (dsimp only; omega) | (simp only [World.size_alloc]; omega)) _ | refine Gr.trans ?_ (by assumption)))))) HU.out HNa.out).mono ?_; rintro e w71 ⟨D71, N71, d71, rfl, ho6, hi6⟩; (have HO71 := hide ho6); (have HI7 := hide hi6); clear ho6 hi6)
              (try (refine hK _ _ ?_; clear hK K))
              refine wpAny_ready (rs := [13]) (by kernel_rfl) (by simp) ?_
              refine AllReady.cons rfl (fun K hK => ?_) AllReady.nil
              go_simp
              refine hK _ _ ?_
              clear hK K
              refine wpAny_done (by kernel_rfl) ?_ _
              have HST := hide (ins_step (HOa.out.gr gq1) HI7.out (HMa.out.gr gq1) HBa.out (ga.trans gq1) (Nat.le_refl _))
              have g71 : Gr w0 w71 := HST.out.1
              have HM71 := hide HST.out.2.1
              have HB71 := hide HST.out.2.2
              have HU71 := hide (up_ins HU.out (n := z1))
              have HN71 := hide (show (ins L4 z1).length ≤ 50001 from Nat.le_trans (len_ins _ _) (Nat.succ_le_succ (HN.out)))
              have HNN71 := hide (show (ins L4 z1).length ≤ 100000 from Nat.le_trans HN71.out (by decide))
              clear HST HI7 hc q0 q1 q2 e1 e3 hBl x0 x1 x2 x3 hbl cq fq Xq Yq gq1
              go_upto_region 14 with fail
              obtain ⟨b', o', hA, x0, x1, x2, x3⟩ := (HL.out.gr (g0.trans g71)).at_ HR.out
              cases hA
              have hbl : b1 < w71.heap.size := cell_lt (by rw [x0]; rfl)
              obtain ⟨hBl, y0, _⟩ := HM71.out
              have e1 := y0 1
              have e3 := y0 3
              clear y0
              obtain ⟨hc, q0, q1, q2⟩ := HC.out w71 g71
              have GC := @GrW.cell
              refine wp_region_grw_pre 15 (by kernel_rfl) (by kernel_rfl) ?_
              simp only [List.take_succ_cons, List.take_zero]
              repeat (go_big_quiet_step (fail))
              refine wpQuiet_nil ?_
              intro wq hwq
              obtain ⟨gq, hwq'⟩ := hwq
              subst hwq'
              clear GC
              have gq1 := gq.gr
              generalize gq.w = wq at gq1 ⊢
              obtain ⟨Xq, Yq, cq, fq⟩ := gq1.use
              change wpAny _ .any _ _ 2 #[true, true, true, true, true, true, true, true, true, true, true, true, true, true, true, false, false] _ _
              refine wpAny_ready (rs := [15]) (by kernel_rfl) (by simp) ?_
              refine AllReady.cons rfl (fun K hK => ?_) AllReady.nil
              go_simp
              go_wp2_with (go_at_call 138; refine (insert6_at (HO71.out.gr (by with_reducible repeat (first | exact Gr.refl _ | assumption | refine Gr.alloc ?_ _ | refine Gr.drewN ?_ _ | refine Gr.drew ?_ | refine Gr.setCell ?_ (by first | (dsimp only; omega) | (simp only [World.size_alloc]; omega)) _ | refine Gr.trans ?_ (by assumption)))) (Nat.le_trans (Gr.size g71) (Gr.size (show Gr w71 _ from (by with_reducible repeat (first | exact Gr.refl _ | assumption | refine Gr.alloc ?_ _ | refine Gr.drewN ?_ _ | refine Gr.drew ?_ | refine Gr.setCell ?_ (by first | (dsimp only; omega) | (simp only [World.size_alloc]; omega)) _ | refine Gr.trans ?_ (by assumption)))))) HU71.out HNN71.out).mono ?_; rintro e w72 ⟨D72, N72, d72, rfl, ho6, hi6⟩; (have HO72 := hide ho6); (have HI7 := hide hi6); clear ho6 hi6)
              (try (refine hK _ _ ?_; clear hK K))
              refine wpAny_ready (rs := [16]) (by kernel_rfl) (by simp) ?_
              refine AllReady.cons rfl (fun K hK => ?_) AllReady.nil
              go_simp
              refine hK _ _ ?_
              clear hK K
              refine wpAny_done (by kernel_rfl) ?_ _
              have HST := hide (ins_step (HO71.out.gr gq1) HI7.out (HM71.out.gr gq1) HB71.out (g71.trans gq1) (Nat.le_refl _))
              have g72 : Gr w0 w72 := HST.out.1
              have HM72 := hide HST.out.2.1
              have HB72 := hide HST.out.2.2
              have HU72 := hide (up_ins HU71.out (n := z2))
              have HN72 := hide (show (ins (ins L4 z1) z2).length ≤ 50002 from Nat.le_trans (len_ins _ _) (Nat.succ_le_succ (HN71.out)))
              have HNN72 := hide (show (ins (ins L4 z1) z2).length ≤ 100000 from Nat.le_trans HN72.out (by decide))
              clear HST HI7 hc q0 q1 q2 e1 e3 hBl x0 x1 x2 x3 hbl cq fq Xq Yq gq1
              go_upto_region 15 with fail
              obtain ⟨b', o', hA, x0, x1, x2, x3⟩ := (HL.out.gr (g0.trans g72)).at_ HR.out
              cases hA
              have hbl : b1 < w72.heap.size := cell_lt (by rw [x0]; rfl)
              obtain ⟨hBl, y0, _⟩ := HM72.out
              have e1 := y0 1
              have e3 := y0 3
              clear y0
              obtain ⟨hc, q0, q1, q2⟩ := HC.out w72 g72
              have GC := @GrW.cell
              refine wp_region_grw_pre 15 (by kernel_rfl) (by kernel_rfl) ?_
              simp only [List.take_succ_cons, List.take_zero]
              repeat (go_big_quiet_step (fail))
              refine wpQuiet_nil ?_
              intro wq hwq
              obtain ⟨gq, hwq'⟩ := hwq
              subst hwq'
              clear GC
              have gq1 := gq.gr
              generalize gq.w = wq at gq1 ⊢
              obtain ⟨Xq, Yq, cq, fq⟩ := gq1.use
              change wpAny _ .any _ _ 2 #[true, true, true, true, true, true, true, true, true, true, true, true, true, true, true, false, false] _ _
              refine wpAny_ready (rs := [15]) (by kernel_rfl) (by simp) ?_
              refine AllReady.cons rfl (fun K hK => ?_) AllReady.nil
              go_simp
              go_wp2_with (go_at_call 138; refine (insert6_at (HO72.out.gr (by with_reducible repeat (first | exact Gr.refl _ | assumption | refine Gr.alloc ?_ _ | refine Gr.drewN ?_ _ | refine Gr.drew ?_ | refine Gr.setCell ?_ (by first | (dsimp only; omega) | (simp only [World.size_alloc]; omega)) _ | refine Gr.trans ?_ (by assumption)))) (Nat.le_trans (Gr.size g72) (Gr.size (show Gr w72 _ from (by with_reducible repeat (first | exact Gr.refl _ | assumption | refine Gr.alloc ?_ _ | refine Gr.drewN ?_ _ | refine Gr.drew ?_ | refine Gr.setCell ?_ (by first | (dsimp only; omega) | (simp only [World.size_alloc]; omega)) _ | refine Gr.trans ?_ (by assumption)))))) HU72.out HNN72.out).mono ?_; rintro e w73 ⟨D73, N73, d73, rfl, ho6, hi6⟩; (have HO73 := hide ho6); (have HI7 := hide hi6); clear ho6 hi6)
              (try (refine hK _ _ ?_; clear hK K))
              refine wpAny_ready (rs := [16]) (by kernel_rfl) (by simp) ?_
              refine AllReady.cons rfl (fun K hK => ?_) AllReady.nil
              go_simp
              refine hK _ _ ?_
              clear hK K
              refine wpAny_done (by kernel_rfl) ?_ _
              have HST := hide (ins_step (HO72.out.gr gq1) HI7.out (HM72.out.gr gq1) HB72.out (g72.trans gq1) (Nat.le_refl _))
              have g73 : Gr w0 w73 := HST.out.1
              have HM73 := hide HST.out.2.1
              have HB73 := hide HST.out.2.2
              have HU73 := hide (up_ins HU72.out (n := z3))
              have HN73 := hide (show (ins (ins (ins L4 z1) z2) z3).length ≤ 50003 from Nat.le_trans (len_ins _ _) (Nat.succ_le_succ (HN72.out)))
              have HNN73 := hide (show (ins (ins (ins L4 z1) z2) z3).length ≤ 100000 from Nat.le_trans HN73.out (by decide))
              clear HST HI7 hc q0 q1 q2 e1 e3 hBl x0 x1 x2 x3 hbl cq fq Xq Yq gq1
              go_wp2
              go_roundw
              case rel => exact ⟨j + 1, N73, D73, d73, _, by omega, by go_num, rfl, g73, HO73, HE6⟩
              case measure => simp only [intOf]; omega
            · obtain rfl : j = soft.length := by omega
              have HE7 := hide (show L4 = htL t.m (htS l hard soft t (k + 1)) by rw [HE5.out, HSN.out])
              clear HE5 HE3
              go_wp2
              go_roundw
              case rel => exact ⟨k + 1, n4, A4, d4, L4, by omega, by go_num, rfl, g4, HO4, HE7⟩
              case measure => simp only [intOf]; omega
    · obtain rfl : k = l.length := by omega
      have hn := own_n HO.out
      subst hn
      have HEQ := hide (show L = htL t.m (htC l hard soft t) by rw [HE.out]; unfold htS htC; rw [List.take_length])
      have HF := hide (show ∃ (D : Option Addr) (d : Nat), Value.slice A1 L.length d1 = .slice D (htL t.m (htC l hard soft t)).length d ∧ SlI wr D d (htL t.m (htC l hard soft t)) from by
        rw [← HEQ.out]
        exact ⟨_, _, rfl, own_sli HO.out⟩)
      clear HE HO
      go_wp2
      go_ret
      obtain ⟨D, d, e1, e2⟩ := HF.out
      exact ⟨D, d, congrArg Ending.returned e1, e2, g0.trans g⟩
end RG
end Go.Proofs.YtddhaiaapomdjaaGreat
