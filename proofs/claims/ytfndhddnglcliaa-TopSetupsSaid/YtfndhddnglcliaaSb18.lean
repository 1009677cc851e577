/-
  What serves all steps, plain; slices.Contains.
-/
import Derived.Test.YtfndhddnglcliaaSb17
import Derived.Deep.LoopGhost
set_option linter.unusedVariables false
set_option linter.unusedSimpArgs false
namespace Go.Proofs.Ytfndhddnglcliaa
set_option linter.unusedVariables false
set_option linter.unusedSimpArgs false
open Go Go.ChangeShapes Go.WideShapes Go.ChangeAt Go.RowKit Go.Deep

/-- what Index returns -/
def IxP (l : List Int) (z : Int) (e : Ending) : Prop := ∃ i : Int, e = .returned (iv i) ∧ decide (0 ≤ i) = decide (z ∈ l)
set_option maxHeartbeats 1000000 in
theorem index_any (A : Option Addr) (c : Nat) (l : List Int) (z : Int) (w : World) (hl : SlI w A c l) :
    Calls Try.prog 38 #[.slice A l.length c, iv z] w fun e w' => IxP l z e ∧ w = w' := by
  have n1 := hl.cap
  have n2 := hl.capB
  have HL := hide hl
  clear hl
  go_enter Try.func38, Try.ntmps38
  go_wp2
  go_loop [8] (fun i => ∃ k : Nat, k ≤ l.length ∧ i = iv k ∧ Hid (∀ j y, j < k → l[j]? = some y → ¬ z = y)) (fun i => l.length - (intOf i).toNat)
  case atStart => exact ⟨0, by omega, rfl, hide (fun i x hi => absurd hi (Nat.not_lt_zero i))⟩
  case round =>
    obtain ⟨k, hk, rfl, HS⟩ := hrel
    by_cases hkl : k < l.length
    · obtain ⟨y, hy⟩ : ∃ y, l[k]? = some y := ⟨_, List.getElem?_eq_getElem hkl⟩
      obtain ⟨b, o, rfl, x0⟩ := HL.out.rd.in_ hy
      have HY := hide hy
      have hk0 : (0 : Int) ≤ (k : Int) := by omega
      have hk1 : (k : Int) < (l.length : Int) := by omega
      clear hy
      by_cases hv : z = y
      · have HE := hide (show decide ((0 : Int) ≤ (k : Int)) = decide (z ∈ l) by rw [decide_eq_true (by omega), decide_eq_true]; rw [hv]; exact List.mem_of_getElem? HY.out)
        have hv' : (z == y) = true := by rw [beq_iff_eq]; exact hv
        clear hv
        go_wp2
        go_ret
        exact ⟨⟨(k : Int), rfl, HE.out⟩, rfl⟩
      · have HS' := hide (up_to (P := fun y => ¬ z = y) HS.out HY.out hv)
        have hv' : (z == y) = false := by rw [beq_eq_false_iff_ne]; exact hv
        clear hv
        go_wp2
        go_round
        case rel => exact ⟨k + 1, by omega, by go_num, HS'⟩
        case measure => simp only [intOf]; omega
    · obtain rfl : k = l.length := by omega
      have HE := hide (show decide ((0 : Int) ≤ -1) = decide (z ∈ l) by
        rw [decide_eq_false (by omega), decide_eq_false]
        intro h
        obtain ⟨i, hi⟩ := List.mem_iff_getElem?.1 h
        exact HS.out i z (List.getElem?_eq_some_iff.1 hi).1 hi rfl)
      go_wp2
      go_ret
      exact ⟨⟨-1, rfl, HE.out⟩, rfl⟩
theorem contains_any (A : Option Addr) (c : Nat) (l : List Int) (z : Int) (w : World) (hl : SlI w A c l) :
    Calls Try.prog 22 #[.slice A l.length c, iv z] w fun e w' => e = .returned (.bool (decide (z ∈ l))) ∧ w = w' := by
  have HI := hide (index_any A c l z w hl)
  clear hl
  go_enter Try.func22, Try.ntmps22
  go_wp2_with fail
  refine HI.out.mono ?_
  rintro e w1 ⟨⟨i, rfl, hi⟩, rfl⟩
  have HD := hide hi
  clear hi
  go_wp2
  go_ret
  exact ⟨ret_bool HD.out, rfl⟩
/-- a mounted pair is in the need -/
def stOk (x : Nd) (ms : List Int) : Bool := ms.any fun p => decide (p ∈ x.l)
def ckS (ns : List Nd) (q : Nat) (l : List Chg) (t : Nat) : Bool := match ns[t]? with
  | some x => stOk x (moL q l (t : Int))
  | none => true
def ckB (ns : List Nd) (q : Nat) (l : List Chg) : Bool := (List.range ns.length).all (ckS ns q l)
theorem ckS_at {ns : List Nd} {q : Nat} {l : List Chg} {t : Nat} {x : Nd} (h : ns[t]? = some x) : ckS ns q l t = stOk x (moL q l (t : Int)) := by unfold ckS; rw [h]
theorem ckB_stop {ns : List Nd} {q : Nat} {l : List Chg} {t : Nat} (ht : t < ns.length) (h : ckS ns q l t = false) : ckB ns q l = false := by
  unfold ckB
  rw [List.all_eq_false]
  exact ⟨t, List.mem_range.2 ht, by simp [h]⟩
theorem ckB_end {ns : List Nd} {q : Nat} {l : List Chg} (h : ∀ t, t < ns.length → ckS ns q l t = true) : ckB ns q l = true := by
  unfold ckB
  rw [List.all_eq_true]
  exact fun t ht => h t (List.mem_range.1 ht)
/-- the error of Check -/
noncomputable def ckE (ns : List Nd) (s : Int) (l : List Chg) : Int := if chE ns s ≠ 0 then chE ns s else if orB ns.length s l then (if ckB ns s.toNat l then 0 else 11) else 12
theorem ckE_bad {ns : List Nd} {s : Int} {l : List Chg} (h : ¬ chE ns s = 0) : ckE ns s l = chE ns s := by unfold ckE; rw [if_pos h]
theorem ckE_ord {ns : List Nd} {s : Int} {l : List Chg} (h : chE ns s = 0) (k : orB ns.length s l = false) : ckE ns s l = 12 := by unfold ckE; rw [if_neg (by simpa using h), k]; rfl
theorem ckE_in {ns : List Nd} {s : Int} {l : List Chg} (h : chE ns s = 0) (k : orB ns.length s l = true) : ckE ns s l = if ckB ns s.toNat l then 0 else 11 := by unfold ckE; rw [if_neg (by simpa using h), k]; rfl
/-- the pair on station i behind all of some changes -/
def muF (i : Int) (a : Int) (x : Chg) : Int := if x.sn = i then x.pr else a
def mu (l : List Chg) (i : Int) : Int := l.foldl (muF i) (-1)
theorem mu_at {l : List Chg} {k : Nat} {x : Chg} {i : Int} (h : l[k]? = some x) : mu (l.take (k + 1)) i = muF i (mu (l.take k) i) x := by
  unfold mu
  rw [take_at h, List.foldl_append]
  rfl
theorem foldl_ext {α β : Type} {f g : α → β → α} : ∀ {l : List β} {a : α}, (∀ x ∈ l, ∀ a, f a x = g a x) → l.foldl f a = l.foldl g a
  | [], _, _ => rfl
  | x :: l, a, h => by
    rw [List.foldl_cons, List.foldl_cons, h x (List.mem_cons_self ..)]
    exact foldl_ext fun y hy => h y (List.mem_cons_of_mem _ hy)
theorem foldl_skip {α β : Type} {f : α → β → α} : ∀ {l : List β} {a : α}, (∀ x ∈ l, ∀ a, f a x = a) → l.foldl f a = a
  | [], _, _ => rfl
  | x :: l, a, h => by
    rw [List.foldl_cons, h x (List.mem_cons_self ..)]
    exact foldl_skip fun y hy => h y (List.mem_cons_of_mem _ hy)
/-- the first k changes stand at or ahead of a step, the others behind it -/
def Cut (l : List Chg) (k : Nat) (t : Int) : Prop := (∀ j x, j < k → l[j]? = some x → x.st ≤ t) ∧ ∀ j x, k ≤ j → l[j]? = some x → t < x.st
theorem mo1_cut {l : List Chg} {k : Nat} {t i : Int} (h : Cut l k t) : mo1 l t i = mu (l.take k) i := by
  unfold mo1 mu
  rw [show l.foldl (moF t i) (-1) = (l.take k ++ l.drop k).foldl (moF t i) (-1) by rw [List.take_append_drop], List.foldl_append]
  rw [foldl_ext (f := moF t i) (g := muF i) (l := l.take k)]
  · refine foldl_skip fun x hx a => ?_
    obtain ⟨j, hj⟩ := List.mem_iff_getElem?.1 hx
    rw [List.getElem?_drop] at hj
    exact moF_no1 (by have := h.2 (k + j) x (by omega) hj; omega)
  · intro x hx a
    obtain ⟨j, hj⟩ := List.mem_iff_getElem?.1 hx
    rw [List.getElem?_take] at hj
    split at hj
    · rename_i hjk
      have := h.1 j x hjk hj
      unfold moF muF
      simp [this]
    · cases hj
/-- at step t so far: the first k are through, those from k on stand at t or behind -/
def Cur (l : List Chg) (k : Nat) (t : Int) : Prop := (∀ j x, j < k → l[j]? = some x → x.st ≤ t) ∧ ∀ j x, k ≤ j → l[j]? = some x → t ≤ x.st
theorem cur_start {n : Nat} {s : Int} {l : List Chg} (h : Ord n s l l.length) : Cur l 0 0 := by
  refine ⟨fun j x hj => absurd hj (Nat.not_lt_zero j), fun j x _ hx => ?_⟩
  have := (h j x (List.getElem?_eq_some_iff.1 hx).1 hx).1
  unfold okC at this
  simp only [Bool.and_eq_true, wiB_iff] at this
  omega
theorem cur_step {l : List Chg} {k : Nat} {t : Int} {x : Chg} (h : Cur l k t) (hx : l[k]? = some x) (e : x.st = t) : Cur l (k + 1) t := by
  refine ⟨fun j y hj hy => ?_, fun j y hj hy => h.2 j y (by omega) hy⟩
  rcases Nat.lt_or_ge j k with q | q
  · exact h.1 j y q hy
  · obtain rfl : j = k := by omega
    rw [hx] at hy
    obtain rfl := Option.some.inj hy
    omega
theorem cur_cut {n : Nat} {s : Int} {l : List Chg} {k : Nat} {t : Int} (ho : Ord n s l l.length) (h : Cur l k t) (hx : ∀ x, l[k]? = some x → ¬ x.st = t) : Cut l k t := by
  refine ⟨h.1, fun j y hj hy => ?_⟩
  have hjl := (List.getElem?_eq_some_iff.1 hy).1
  obtain ⟨x, hx'⟩ : ∃ x, l[k]? = some x := ⟨_, List.getElem?_eq_getElem (by omega)⟩
  have h1 := hx x hx'
  have h2 := h.2 k x (Nat.le_refl _) hx'
  have h3 := ord_le ho hjl hj hy hx'
  omega
theorem cut_next {l : List Chg} {k : Nat} {t : Int} (h : Cut l k t) : Cur l k (t + 1) :=
  ⟨fun j x hj hx => by have := h.1 j x hj hx; omega, fun j x hj hx => by have := h.2 j x hj hx; omega⟩
theorem mu_set {w : World} {B s k : Nat} {l : List Chg} {x : Chg} (h : Blk w B (fun i => iv (mu (l.take k) (i : Int))) s) (hx : l[k]? = some x) {j : Nat} (hj : x.sn = (j : Int)) (hjs : j < s) :
    Blk (w.setCell ⟨B, j, none⟩ (iv x.pr)) B (fun i => iv (mu (l.take (k + 1)) (i : Int))) s := by
  refine (Blk.set h (iv x.pr) rfl hjs).congr fun i hi => ?_
  rw [mu_at hx]
  unfold muF
  by_cases e : i = j
  · rw [if_pos e, if_pos (by omega)]
  · rw [if_neg e, if_neg (by omega)]
end Go.Proofs.Ytfndhddnglcliaa
