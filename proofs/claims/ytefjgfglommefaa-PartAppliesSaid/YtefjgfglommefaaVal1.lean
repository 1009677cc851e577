/-
  Parts, plain: which error a part has.
-/
import Derived.Test.YtefjgfglommefaaVal0
import Derived.Test.YtefjgfglommefaaClash8
import Derived.Test.YtefjgfglommefaaDist
set_option linter.unusedVariables false
set_option linter.unusedSimpArgs false
namespace Go.Proofs.Ytefjgfglommefaa
set_option linter.unusedVariables false
set_option linter.unusedSimpArgs false
open Go Go.ChangeShapes Go.WideShapes Go.ChangeAt Go.RowKit Go.Deep

/-- the first of n errors that is not nought -/
def firE (e : Nat → Int) : Nat → Int
  | 0 => 0
  | n + 1 => if firE e n ≠ 0 then firE e n else e n
theorem firE_none {e : Nat → Int} : ∀ {n : Nat}, (∀ i, i < n → e i = 0) → firE e n = 0
  | 0, _ => rfl
  | n + 1, h => by
    unfold firE
    rw [firE_none (fun i hi => h i (by omega)), h n (by omega)]
    rfl
theorem firE_at {e : Nat → Int} {k : Nat} (h0 : ∀ i, i < k → e i = 0) (h : e k ≠ 0) : ∀ {n : Nat}, k < n → firE e n = e k
  | 0, hk => by omega
  | n + 1, hk => by
    unfold firE
    rcases Nat.lt_or_ge k n with h1 | h1
    · rw [firE_at h0 h h1, if_pos h]
    · obtain rfl : k = n := by omega
      rw [firE_none h0]
      rfl
theorem firE_zero {e : Nat → Int} : ∀ {n : Nat}, firE e n = 0 → ∀ i, i < n → e i = 0
  | 0, _, i, hi => by omega
  | n + 1, h, i, hi => by
    unfold firE at h
    by_cases h1 : firE e n = 0
    · rw [h1] at h
      simp at h
      rcases Nat.lt_or_ge i n with h2 | h2
      · exact firE_zero h1 i h2
      · obtain rfl : i = n := by omega
        exact h
    · rw [if_pos h1] at h
      exact absurd h h1
theorem firE_congr {e d : Nat → Int} {n : Nat} (h : ∀ i, i < n → (∀ k, k < i → e k = 0) → e i = d i) : firE e n = firE d n := by
  have key : ∀ m, m ≤ n → firE e m = firE d m ∧ (firE e m = 0 → ∀ i, i < m → e i = 0) := by
    intro m
    induction m with
    | zero => intro _; exact ⟨rfl, fun _ i hi => by omega⟩
    | succ m ih =>
      intro hm
      obtain ⟨a, b⟩ := ih (by omega)
      refine ⟨?_, firE_zero⟩
      unfold firE
      by_cases h0 : firE e m = 0
      · rw [if_neg (by simpa using h0), if_neg (by simpa [← a] using h0), h m (by omega) (b h0)]
      · rw [if_pos h0, if_pos (by rwa [← a]), a]
  exact (key n (Nat.le_refl _)).1
/-- whether bad holds for two of a list, the earlier one first -/
def anyP {α : Type} (bad : α → α → Bool) (l : List α) : Prop := ∃ (i k : Nat) (a b : α), k < i ∧ l[k]? = some a ∧ l[i]? = some b ∧ bad a b = true
noncomputable def anyB {α : Type} (bad : α → α → Bool) (l : List α) : Bool := @decide (anyP bad l) (Classical.propDecidable _)
theorem anyB_iff {α : Type} {bad : α → α → Bool} {l : List α} : anyB bad l = true ↔ anyP bad l := by
  unfold anyB
  exact @decide_eq_true_iff _ (Classical.propDecidable _)
theorem anyB_yes {α : Type} {bad : α → α → Bool} {l : List α} {i k : Nat} {a b : α} (h : k < i) (ha : l[k]? = some a) (hb : l[i]? = some b) (hx : bad a b = true) : anyB bad l = true :=
  anyB_iff.2 ⟨i, k, a, b, h, ha, hb, hx⟩
theorem anyB_no {α : Type} {bad : α → α → Bool} {l : List α} (h : ∀ i, i < l.length → ∀ k a b, k < i → l[k]? = some a → l[i]? = some b → bad a b = false) : anyB bad l = false := by
  rw [← Bool.not_eq_true, anyB_iff]
  rintro ⟨i, k, a, b, hk, ha, hb, hx⟩
  rw [h i (List.getElem?_eq_some_iff.1 hb).1 k a b hk ha hb] at hx
  cases hx
theorem anyB_congr {α : Type} {bad bad' : α → α → Bool} {l : List α} (h : ∀ a b, a ∈ l → b ∈ l → bad a b = bad' a b) : anyB bad l = anyB bad' l := by
  rw [Bool.eq_iff_iff, anyB_iff, anyB_iff]
  constructor
  · rintro ⟨i, k, a, b, hk, ha, hb, hx⟩
    exact ⟨i, k, a, b, hk, ha, hb, by rw [← h a b (List.mem_of_getElem? ha) (List.mem_of_getElem? hb)]; exact hx⟩
  · rintro ⟨i, k, a, b, hk, ha, hb, hx⟩
    exact ⟨i, k, a, b, hk, ha, hb, by rw [h a b (List.mem_of_getElem? ha) (List.mem_of_getElem? hb)]; exact hx⟩
def lenB (n : Int) : Bool := wiB n 1 150
def basB (p : Pa) : Bool := wiB p.ga 1 60 && wiB p.gr 0 2 && lenB p.wd && lenB p.ht
/-- width and height of a face -/
def extW (p : Pa) (face : Int) : Int := if face = 0 then p.wd else ((p.fl[(face - 1).toNat]?).map Fl.wd).getD 0
def extH (p : Pa) (face : Int) : Int := if face = 0 then p.ht else ((p.fl[(face - 1).toNat]?).map Fl.ln).getD 0
def sidL (p : Pa) (face s : Int) : Int := if s = 0 ∨ s = 2 then extH p face else extW p face
def angB (a : Int) : Bool := decide (a = 90) || decide (a = -90) || decide (a = 180) || decide (a = -180)
def sidB (f : Fl) : Bool := wiB f.sd 0 3 && (!decide (f.sd = 1) || decide (f.pa = 0))
/-- whether one of the k flanges ahead has the name -/
def dupB (l : List Fl) (k : Nat) (s : ByteArray) : Bool := (l.take k).any fun g => g.nm.toList == s.toList
/-- the error of the flange i -/
def flE (p : Pa) (i : Nat) (f : Fl) : Int :=
  if !nameB f.nm.toList then 2 else if dupB p.fl i f.nm then 2
  else if !(wiB f.pa 0 i && sidB f && angB f.an && lenB f.wd && lenB f.ln) then 1
  else if !wiB f.o 0 (sidL p f.pa f.sd - f.wd) then 1 else 0
def flA (p : Pa) (i : Nat) : Int := match p.fl[i]? with
  | some f => flE p i f
  | none => 0
def ovF (a b : Fl) : Bool := a.pa == b.pa && (a.sd == b.sd) && decide (a.o < b.o + b.wd) && decide (b.o < a.o + a.wd)
def wbB (s n e : Int) : Bool := wiB n 1 e && wiB s 1 (e - 1 - n)
def hoB (p : Pa) (x : Ho) : Bool := wiB x.fa 0 p.fl.length && (decide (x.kd = 1) || decide (x.kd = 2)) && wbB x.x x.w (extW p x.fa) && wbB x.y x.h (extH p x.fa)
def touB (a b : Ho) : Bool := a.fa == b.fa && (R.diV a.x a.y a.w a.h b.x b.y b.w b.h == 0)
def allT : Nat → Bool := fun _ => true
/-- the error of a part -/
noncomputable def valE (p : Pa) : Int :=
  if !(nameB p.nm.toList && nameB p.mt.toList) then 2
  else if !basB p then 1
  else if 5 < p.fl.length ∨ 6 < p.ho.length then 4
  else if firE (flA p) p.fl.length ≠ 0 then firE (flA p) p.fl.length
  else if anyB ovF p.fl then 7
  else if !(p.ho.all (hoB p)) then 1
  else if anyB touB p.ho then 7
  else if anyB clC (facs flC p.wd p.ht p.fl allT p.fl.length) then 6
  else 0
/-- what a right list of flanges has -/
structure FlOk (p : Pa) (k : Nat) : Prop where
  wd : 1 ≤ p.wd ∧ p.wd ≤ 150
  ht : 1 ≤ p.ht ∧ p.ht ≤ 150
  fl : ∀ i f, i < k → p.fl[i]? = some f → (0 ≤ f.pa ∧ f.pa ≤ i) ∧ sdOk f.sd ∧ anOk f.an ∧ (1 ≤ f.wd ∧ f.wd ≤ 150) ∧ (1 ≤ f.ln ∧ f.ln ≤ 150) ∧ (0 ≤ f.o ∧ f.o ≤ 150)
theorem flE_zero {p : Pa} {i : Nat} {f : Fl} (h : flE p i f = 0) : (0 ≤ f.pa ∧ f.pa ≤ i) ∧ sdOk f.sd ∧ anOk f.an ∧ (1 ≤ f.wd ∧ f.wd ≤ 150) ∧ (1 ≤ f.ln ∧ f.ln ≤ 150) ∧ 0 ≤ f.o ∧ f.o ≤ sidL p f.pa f.sd - f.wd := by
  unfold flE at h
  split at h
  · cases h
  split at h
  · cases h
  split at h
  · cases h
  rename_i h1
  split at h
  · cases h
  rename_i h2
  simp [wiB, sidB, angB, lenB] at h1 h2
  obtain ⟨⟨⟨⟨⟨a1, a2⟩, ⟨b1, b2⟩, b3⟩, c⟩, d1, d2⟩, e1, e2⟩ := h1
  refine ⟨⟨a1, a2⟩, ?_, ?_, ⟨d1, d2⟩, ⟨e1, e2⟩, h2.1, h2.2⟩
  · unfold sdOk; omega
  · unfold anOk; omega
theorem ext_le {p : Pa} {k : Nat} (h : FlOk p k) {face : Int} (h0 : 0 ≤ face) (h1 : face ≤ k) (h2 : k ≤ p.fl.length) : (1 ≤ extW p face ∧ extW p face ≤ 150) ∧ 1 ≤ extH p face ∧ extH p face ≤ 150 := by
  unfold extW extH
  by_cases hf : face = 0
  · rw [if_pos hf, if_pos hf]; exact ⟨h.wd, h.ht⟩
  · rw [if_neg hf, if_neg hf]
    obtain ⟨f, hfl⟩ : ∃ f, p.fl[(face - 1).toNat]? = some f := ⟨_, List.getElem?_eq_getElem (by omega)⟩
    rw [hfl]
    obtain ⟨_, _, _, a, b, _⟩ := h.fl _ f (by omega) hfl
    exact ⟨a, b⟩
theorem sid_le {p : Pa} {k : Nat} (h : FlOk p k) {face s : Int} (h0 : 0 ≤ face) (h1 : face ≤ k) (h2 : k ≤ p.fl.length) : 1 ≤ sidL p face s ∧ sidL p face s ≤ 150 := by
  obtain ⟨a, b⟩ := ext_le h h0 h1 h2
  unfold sidL
  split
  · exact b
  · exact a
theorem FlOk.zero {p : Pa} (h : basB p = true) : FlOk p 0 := by
  simp [basB, lenB, wiB] at h
  exact ⟨by omega, by omega, fun i f hi _ => by omega⟩
theorem FlOk.succ {p : Pa} {k : Nat} {f : Fl} (h : FlOk p k) (hf : p.fl[k]? = some f) (he : flE p k f = 0) : FlOk p (k + 1) := by
  refine ⟨h.wd, h.ht, fun i g hi hg => ?_⟩
  rcases Nat.lt_or_ge i k with h1 | h1
  · exact h.fl i g h1 hg
  · obtain rfl : i = k := by omega
    rw [hf] at hg
    obtain rfl := Option.some.inj hg
    obtain ⟨a, b, c, d, e, o⟩ := flE_zero he
    have := sid_le h a.1 a.2 (Nat.le_of_lt (List.getElem?_eq_some_iff.1 hf).1) (s := f.sd)
    exact ⟨a, b, c, d, e, by omega, by omega⟩
theorem FlOk.all {p : Pa} (hb : basB p = true) (h : firE (flA p) p.fl.length = 0) : FlOk p p.fl.length := by
  have key : ∀ k, k ≤ p.fl.length → FlOk p k := by
    intro k
    induction k with
    | zero => intro _; exact FlOk.zero hb
    | succ k ih =>
      intro hk
      obtain ⟨f, hf⟩ : ∃ f, p.fl[k]? = some f := ⟨_, List.getElem?_eq_getElem (by omega)⟩
      have := firE_zero h k (by omega)
      unfold flA at this
      rw [hf] at this
      exact (ih (by omega)).succ hf this
  exact key _ (Nat.le_refl _)
theorem FlOk.fit {p : Pa} (h : FlOk p p.fl.length) : Fit p.fl := by
  intro i f hf
  obtain ⟨a, b, c, _⟩ := h.fl i f (List.getElem?_eq_some_iff.1 hf).1 hf
  exact ⟨a.1, a.2, b, c⟩
end Go.Proofs.Ytefjgfglommefaa
