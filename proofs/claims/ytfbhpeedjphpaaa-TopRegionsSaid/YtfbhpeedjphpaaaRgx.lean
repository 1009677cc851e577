/-
  Regions: an outline in unit steps; the same outline exactly if the same region.
-/
import Derived.Test.YtfbhpeedjphpaaaRgt
set_option linter.unusedVariables false
set_option linter.unusedSimpArgs false
namespace Go.Proofs.Ytfbhpeedjphpaaa
set_option linter.unusedVariables false
set_option linter.unusedSimpArgs false
open Go Go.ChangeShapes Go.WideShapes Go.ChangeAt Go.RowKit Go.Deep

namespace RG
/-- the parts of a line in unit steps -/
def cs (σ : Int → Int) (a : Int) : Nat → List Sp × Int
  | 0 => ([], 0)
  | n + 1 => (spU (cs σ a n).1 (cs σ a n).2 (σ (a + n)) (a + n) (a + n + 1), σ (a + n))
theorem spU_more (O : List Sp) (last v p q r : Int) : spU (spU O last v p q) v v q r = spU O last v p r := by
  unfold spU
  by_cases h0 : v = 0
  · simp [h0]
  · by_cases h1 : v = last
    · rw [if_neg h0, if_pos rfl, if_neg h0, if_pos h1, if_neg h0, if_pos h1]
      simp
    · rw [if_neg h0, if_pos rfl, if_neg h0, if_neg h1, if_neg h0, if_neg h1]
      simp
theorem cs_run {σ : Int → Int} {a v : Int} {n : Nat} : ∀ {k : Nat}, (∀ x, a + n ≤ x → x < a + n + (k + 1 : Nat) → σ x = v) → cs σ a (n + (k + 1)) = (spU (cs σ a n).1 (cs σ a n).2 v (a + n) (a + n + (k + 1 : Nat)), v)
  | 0, h => by
    show (spU (cs σ a n).1 (cs σ a n).2 (σ (a + n)) (a + n) (a + n + 1), σ (a + n)) = _
    rw [h (a + n) (by omega) (by omega)]
    rfl
  | k + 1, h => by
    have ih := cs_run (k := k) (σ := σ) (a := a) (v := v) (n := n) fun x h1 h2 => h x h1 (by omega)
    show (spU (cs σ a (n + (k + 1))).1 (cs σ a (n + (k + 1))).2 (σ (a + (n + (k + 1) : Nat))) (a + (n + (k + 1) : Nat)) (a + (n + (k + 1) : Nat) + 1), σ (a + (n + (k + 1) : Nat))) = _
    rw [h (a + (n + (k + 1) : Nat)) (by omega) (by omega), ih]
    show (spU (spU (cs σ a n).1 (cs σ a n).2 v (a + n) (a + n + (k + 1 : Nat))) v v (a + (n + (k + 1) : Nat)) (a + (n + (k + 1) : Nat) + 1), v) = _
    rw [show a + ((n + (k + 1) : Nat) : Int) = a + n + ((k + 1 : Nat) : Int) by omega, spU_more, show a + (n : Int) + ((k + 1 : Nat) : Int) + 1 = a + n + ((k + 1 + 1 : Nat) : Int) by omega]
theorem cs_zero {σ : Int → Int} {a : Int} {n : Nat} : ∀ {k : Nat}, (∀ x, a + n ≤ x → x < a + n + k → σ x = 0) → (cs σ a (n + k)).1 = (cs σ a n).1
  | 0, _ => rfl
  | k + 1, h => by
    rw [cs_run (v := 0) h]
    show spU (cs σ a n).1 (cs σ a n).2 0 (a + n) (a + n + (k + 1 : Nat)) = (cs σ a n).1
    unfold spU
    rw [if_pos rfl]
theorem cs_from {σ : Int → Int} {a : Int} {k : Nat} (h : ∀ x, a ≤ x → x < a + k → σ x = 0) : ∀ n, cs σ a (k + n) = cs σ (a + k) n
  | 0 => by
    match k, h with
    | 0, _ => rfl
    | k + 1, h =>
      have := cs_run (σ := σ) (a := a) (n := 0) (k := k) (v := 0) fun x h1 h2 => h x (by omega) (by omega)
      rw [Nat.zero_add] at this
      rw [Nat.add_zero, this]
      rfl
  | n + 1 => by
    show (spU (cs σ a (k + n)).1 (cs σ a (k + n)).2 (σ (a + (k + n : Nat))) (a + (k + n : Nat)) (a + (k + n : Nat) + 1), σ (a + (k + n : Nat))) = _
    rw [cs_from h n, show a + ((k + n : Nat) : Int) = a + k + n by omega]
    rfl
theorem spS_cs {X : List Int} (hu : Up X) {sd : Nat → Int} {σ : Int → Int} {x0 : Int} (h0 : X[0]? = some x0) : ∀ (i : Nat) (xi : Int), X[i]? = some xi → (∀ j p q, j < i → X[j]? = some p → X[j + 1]? = some q → sd j = σ p ∧ ∀ x, p ≤ x → x < q → σ x = σ p) → spS X sd i = cs σ x0 (xi - x0).toNat
  | 0, xi, h, _ => by
    rw [h0] at h
    cases h
    rw [show (x0 - x0).toNat = 0 by omega]
    rfl
  | i + 1, q, h, hc => by
    have hl : i + 1 < X.length := (List.getElem?_eq_some_iff.1 h).1
    obtain ⟨p, hp⟩ : ∃ p, X[i]? = some p := ⟨_, List.getElem?_eq_getElem (by omega)⟩
    have ih := spS_cs hu h0 i p hp fun j a b hj => hc j a b (by omega)
    obtain ⟨c1, c2⟩ := hc i p q (by omega) hp h
    have hpq := hu.at hp h (by omega)
    have h0p := hu.le h0 hp (by omega)
    obtain ⟨n, hn⟩ : ∃ n, (p - x0).toNat = n := ⟨_, rfl⟩
    obtain ⟨k, hk⟩ : ∃ k, (q - p).toNat = k + 1 := ⟨(q - p).toNat - 1, by omega⟩
    have hpn : x0 + (n : Int) = p := by omega
    have hqn : x0 + (n : Int) + ((k + 1 : Nat) : Int) = q := by omega
    rw [show (q - x0).toNat = n + (k + 1) by omega, cs_run (v := σ p) (fun x h1 h2 => c2 x (by omega) (by omega))]
    show (spU (spS X sd i).1 (spS X sd i).2 (sd i) (X[i]?.getD 0) (X[i + 1]?.getD 0), sd i) = _
    rw [ih, hn, c1, hp, h, hpn, show p + ((k + 1 : Nat) : Int) = q by omega]
    rfl
theorem spS_can {M : Nat} {X : List Int} (hu : Up X) {sd : Nat → Int} {σ : Int → Int} (hb : ∀ x ∈ X, -(M : Int) ≤ x ∧ x ≤ M) (hc : ∀ j p q, X[j]? = some p → X[j + 1]? = some q → sd j = σ p ∧ ∀ x, p ≤ x → x < q → σ x = σ p) (ho : ∀ x, (∀ p ∈ X, x < p) ∨ (∀ p ∈ X, p ≤ x) → σ x = 0) :
    (spS X sd (X.length - 1)).1 = (cs σ (-M) (2 * M)).1 := by
  by_cases he : X.length = 0
  · have : X = [] := List.eq_nil_of_length_eq_zero he
    subst this
    have := cs_zero (σ := σ) (a := -M) (n := 0) (k := 2 * M) fun x _ _ => ho x (.inl (by simp))
    rw [Nat.zero_add] at this
    rw [this]
    rfl
  · obtain ⟨x0, h0⟩ : ∃ x, X[0]? = some x := ⟨_, List.getElem?_eq_getElem (by omega)⟩
    obtain ⟨z, hz⟩ : ∃ x, X[X.length - 1]? = some x := ⟨_, List.getElem?_eq_getElem (by omega)⟩
    rw [spS_cs hu h0 _ z hz fun j p q _ => hc j p q]
    have b0 := hb x0 (List.mem_of_getElem? h0)
    have b1 := hb z (List.mem_of_getElem? hz)
    have h0z := hu.le h0 hz (by omega)
    have e1 := cs_from (σ := σ) (a := -M) (k := (x0 + M).toNat) (fun x h1 h2 => ho x (.inl fun p hp => by
      obtain ⟨i, hi⟩ := List.mem_iff_getElem?.1 hp
      have := hu.le h0 hi (by omega)
      omega)) (z - x0).toNat
    have e2 := cs_zero (σ := σ) (a := -M) (n := (x0 + M).toNat + (z - x0).toNat) (k := (M - z).toNat) (fun x h1 h2 => ho x (.inr fun p hp => by
      obtain ⟨i, hi⟩ := List.mem_iff_getElem?.1 hp
      have hl := (List.getElem?_eq_some_iff.1 hi).1
      have := hu.le hi hz (by omega)
      omega))
    rw [show (x0 + M).toNat + (z - x0).toNat + ((M : Int) - z).toNat = 2 * M by omega, e1, show -(M : Int) + ((x0 + M).toNat : Int) = x0 by omega] at e2
    rw [e2]
def fmr {β : Type} (f : Int → List β) : Int → Nat → List β
  | _, 0 => []
  | a, n + 1 => f a ++ fmr f (a + 1) n
theorem mem_fmr {β : Type} {f : Int → List β} {s : β} : ∀ {n : Nat} {a : Int}, s ∈ fmr f a n ↔ ∃ t, a ≤ t ∧ t < a + n ∧ s ∈ f t
  | 0, a => by
    constructor
    · intro h; cases h
    · rintro ⟨t, h1, h2, _⟩; omega
  | n + 1, a => by
    show s ∈ f a ++ fmr f (a + 1) n ↔ _
    rw [List.mem_append, mem_fmr]
    constructor
    · rintro (h | ⟨t, h1, h2, h3⟩)
      · exact ⟨a, by omega, by omega, h⟩
      · exact ⟨t, by omega, by omega, h3⟩
    · rintro ⟨t, h1, h2, h3⟩
      by_cases e : t = a
      · subst e; exact .inl h3
      · exact .inr ⟨t, by omega, by omega, h3⟩
theorem fm_fmr {β : Type} {f : Int → List β} : ∀ {n : Nat} {a : Int} {Y : List Int}, Up Y → (∀ y ∈ Y, a ≤ y ∧ y < a + n) → (∀ y, y ∉ Y → f y = []) → Y.flatMap f = fmr f a n
  | 0, a, Y, hu, hb, hf => by
    cases Y with
    | nil => rfl
    | cons z Y => have := hb z (by simp); omega
  | n + 1, a, Y, hu, hb, hf => by
    show _ = f a ++ fmr f (a + 1) n
    by_cases ha : a ∈ Y
    · cases Y with
      | nil => cases ha
      | cons z Y =>
        have hz := hb z (by simp)
        have hp := List.pairwise_cons.1 hu
        have : z = a := by
          rcases List.mem_cons.1 ha with h | h
          · exact h.symm
          · have := hp.1 a h; omega
        subst this
        rw [List.flatMap_cons]
        congr 1
        have hz' : z ∉ Y := fun h => by have := hp.1 z h; omega
        by_cases hfz : f z = []
        · exact fm_fmr hp.2 (fun y hy => by have := hp.1 y hy; have := hb y (by simp [hy]); omega) fun y hy => by
            by_cases e : y = z
            · rw [e]; exact hfz
            · exact hf y (by simp [e, hy])
        · rw [show Y.flatMap f = Y.flatMap (fun y => if y = z then [] else f y) from ?_, show fmr f (z + 1) n = fmr (fun y => if y = z then [] else f y) (z + 1) n from ?_]
          · exact fm_fmr hp.2 (fun y hy => by have := hp.1 y hy; have := hb y (by simp [hy]); omega) fun y hy => by
              by_cases e : y = z
              · simp [e]
              · simp only [if_neg e]; exact hf y (by simp [e, hy])
          · have : ∀ (m : Nat) (b : Int), z < b → fmr f b m = fmr (fun y => if y = z then [] else f y) b m := by
              intro m
              induction m with
              | zero => intro b _; rfl
              | succ m ih =>
                intro b hbz
                show f b ++ _ = (if b = z then [] else f b) ++ _
                rw [if_neg (by omega), ih (b + 1) (by omega)]
            exact this n (z + 1) (by omega)
          · rw [List.flatMap_def, List.flatMap_def]
            congr 1
            refine List.map_congr_left fun y hy => ?_
            rw [if_neg]
            intro e
            rw [e] at hy
            exact hz' hy
    · rw [hf a ha, List.nil_append]
      exact fm_fmr hu (fun y hy => by
        have := hb y hy
        have : y ≠ a := fun e => ha (e ▸ hy)
        omega) hf
/-- a covered set of cells on marks -/
structure Ph (φ : Int → Int → Bool) (M : Nat) (X Y : List Int) (c : Nat → Nat → Bool) : Prop where
  ux : Up X
  uy : Up Y
  bx : ∀ x ∈ X, -(M : Int) ≤ x ∧ x ≤ M
  bY : ∀ y ∈ Y, -(M : Int) ≤ y ∧ y ≤ M
  mx : ∀ i p q x y, X[i]? = some p → X[i + 1]? = some q → p ≤ x → x < q → φ x y = φ p y
  my : ∀ j p q x y, Y[j]? = some p → Y[j + 1]? = some q → p ≤ y → y < q → φ x y = φ x p
  ox : ∀ x y, ((∀ p ∈ X, x < p) ∨ (∀ p ∈ X, p ≤ x)) → φ x y = false
  oy : ∀ x y, ((∀ p ∈ Y, y < p) ∨ (∀ p ∈ Y, p ≤ y)) → φ x y = false
  ce : ∀ i j x y, X[i]? = some x → Y[j]? = some y → c i j = φ x y
theorem Ph.swap {φ : Int → Int → Bool} {M : Nat} {X Y : List Int} {c : Nat → Nat → Bool} (h : Ph φ M X Y c) : Ph (fun x y => φ y x) M Y X (fun i j => c j i) :=
  ⟨h.uy, h.ux, h.bY, h.bx, fun i p q x y => h.my i p q y x, fun i p q x y => h.mx i p q y x, fun x y => h.oy y x, fun x y => h.ox y x, fun i j x y h1 h2 => h.ce j i y x h2 h1⟩
def canH (φ : Int → Int → Bool) (M : Nat) (y : Int) : List Sp := (cs (fun x => sdV (φ x (y - 1)) (φ x y)) (-M) (2 * M)).1
theorem sdV_same (b : Bool) : sdV b b = 0 := if_pos rfl
theorem hzS_can {φ : Int → Int → Bool} {M : Nat} {X Y : List Int} {c : Nat → Nat → Bool} (h : Ph φ M X Y c) {j : Nat} {y : Int} (hy : Y[j]? = some y) : hzS X Y c j = canH φ M y := by
  refine spS_can h.ux h.bx (fun i p q hp hq => ⟨?_, fun x h1 h2 => ?_⟩) fun x hx => ?_
  · have e1 : atV c (i : Int) (j : Int) = φ p y := by
      rw [← h.ce i j p y hp hy]
      unfold atV
      rw [if_pos ⟨by omega, by omega⟩]
      simp
    have e2 : atV c (i : Int) ((j : Int) - 1) = φ p (y - 1) := by
      unfold atV
      match j, hy with
      | 0, hy =>
        rw [if_neg (by omega), h.oy]
        refine .inl fun s hs => ?_
        obtain ⟨k, hk⟩ := List.mem_iff_getElem?.1 hs
        have := h.uy.le hy hk (by omega)
        omega
      | j + 1, hy =>
        have hl := (List.getElem?_eq_some_iff.1 hy).1
        obtain ⟨y', hy'⟩ : ∃ y', Y[j]? = some y' := ⟨_, List.getElem?_eq_getElem (by omega)⟩
        have := h.uy.at hy' hy (by omega)
        rw [if_pos ⟨by omega, by omega⟩, h.my j y' y p (y - 1) hy' hy (by omega) (by omega), ← h.ce i j p y' hp hy']
        congr 1 <;> omega
    show sdV (atV c (i : Int) ((j : Int) - 1)) (atV c (i : Int) (j : Int)) = sdV (φ p (y - 1)) (φ p y)
    rw [e1, e2]
  · show sdV (φ x (y - 1)) (φ x y) = sdV (φ p (y - 1)) (φ p y)
    rw [h.mx i p q x y hp hq h1 h2, h.mx i p q x (y - 1) hp hq h1 h2]
  · show sdV (φ x (y - 1)) (φ x y) = 0
    rw [h.ox x y hx, h.ox x (y - 1) hx]
    rfl
theorem canH_off {φ : Int → Int → Bool} {M : Nat} {X Y : List Int} {c : Nat → Nat → Bool} (h : Ph φ M X Y c) {y : Int} (hy : y ∉ Y) : canH φ M y = [] := by
  have e : ∀ x, φ x (y - 1) = φ x y := by
    intro x
    rcases find h.uy y with k | k | ⟨i, p, q, hp, hq, k1, k2⟩
    · rw [h.oy x y (.inl k), h.oy x (y - 1) (.inl fun p hp => by have := k p hp; omega)]
    · rw [h.oy x y (.inr k), h.oy x (y - 1) (.inr fun p hp => by
        have := k p hp
        have : p ≠ y := fun e => hy (e ▸ hp)
        omega)]
    · have : p ≠ y := fun e => hy (e ▸ List.mem_of_getElem? hp)
      rw [h.my i p q x y hp hq k1 k2, h.my i p q x (y - 1) hp hq (by omega) (by omega)]
  unfold canH
  have := cs_zero (σ := fun x => sdV (φ x (y - 1)) (φ x y)) (a := -M) (n := 0) (k := 2 * M) fun x _ _ => by
    show sdV (φ x (y - 1)) (φ x y) = 0
    rw [e]
    exact sdV_same _
  rw [Nat.zero_add] at this
  rw [this]
  rfl
theorem hzL_take {φ : Int → Int → Bool} {M : Nat} {X Y : List Int} {c : Nat → Nat → Bool} (h : Ph φ M X Y c) : ∀ n, n ≤ Y.length → hzL X Y c n = (Y.take n).flatMap fun y => sgOfH y (canH φ M y)
  | 0, _ => by simp [hzL]
  | n + 1, hn => by
    obtain ⟨y, hy⟩ : ∃ y, Y[n]? = some y := ⟨_, List.getElem?_eq_getElem (by omega)⟩
    rw [← hzL_snoc X Y c n hy, hzL_take h n (by omega), hzS_can h hy, List.take_add_one, hy, List.flatMap_append]
    simp
theorem hzL_can {φ : Int → Int → Bool} {M : Nat} {X Y : List Int} {c : Nat → Nat → Bool} (h : Ph φ M X Y c) : hzL X Y c Y.length = fmr (fun y => sgOfH y (canH φ M y)) (-M) (2 * M + 1) := by
  rw [hzL_take h _ (Nat.le_refl _), List.take_length]
  refine fm_fmr h.uy (fun y hy => by have := h.bY y hy; omega) fun y hy => ?_
  rw [canH_off h hy]
  rfl
theorem vtS_swap (X Y : List Int) (c : Nat → Nat → Bool) (i : Nat) : vtS X Y c i = hzS Y X (fun i j => c j i) i := by
  have e : ∀ p q : Int, atV (fun i j => c j i) p q = atV c q p := by
    intro p q
    unfold atV
    by_cases h : 0 ≤ p ∧ 0 ≤ q
    · rw [if_pos h, if_pos ⟨h.2, h.1⟩]
    · rw [if_neg h, if_neg fun k => h ⟨k.2, k.1⟩]
  unfold vtS hzS
  simp only [e]
theorem vtL_take {φ : Int → Int → Bool} {M : Nat} {X Y : List Int} {c : Nat → Nat → Bool} (h : Ph φ M X Y c) : ∀ n, n ≤ X.length → vtL X Y c n = (X.take n).flatMap fun x => sgOfV x (canH (fun x y => φ y x) M x)
  | 0, _ => by simp [vtL]
  | n + 1, hn => by
    obtain ⟨x, hx⟩ : ∃ x, X[n]? = some x := ⟨_, List.getElem?_eq_getElem (by omega)⟩
    rw [← vtL_snoc X Y c n hx, vtL_take h n (by omega), vtS_swap, hzS_can h.swap hx, List.take_add_one, hx, List.flatMap_append]
    simp
theorem vtL_can {φ : Int → Int → Bool} {M : Nat} {X Y : List Int} {c : Nat → Nat → Bool} (h : Ph φ M X Y c) : vtL X Y c X.length = fmr (fun x => sgOfV x (canH (fun x y => φ y x) M x)) (-M) (2 * M + 1) := by
  rw [vtL_take h _ (Nat.le_refl _), List.take_length]
  refine fm_fmr h.ux (fun y hy => by have := h.bx y hy; omega) fun y hy => ?_
  rw [canH_off h.swap hy]
  rfl
def canO (φ : Int → Int → Bool) (M : Nat) : List Sg := fmr (fun y => sgOfH y (canH φ M y)) (-M) (2 * M + 1) ++ fmr (fun x => sgOfV x (canH (fun x y => φ y x) M x)) (-M) (2 * M + 1)
theorem ph_of {M : Nat} {l : List Rc} (h : ∀ r ∈ l, InM M r) : Ph (cov l) M (lnX l) (lnY l) (cel (lnX l) (lnY l) l) :=
  ⟨up_lnX l, up_lnY l, fun x hx => by have := (ln_in h).1 x hx; omega, fun x hx => by have := (ln_in h).2 x hx; omega,
   fun i p q x y hp hq h1 h2 => cov_midX (fun _ hr => hr) hp hq h1 h2, fun i p q x y hp hq h1 h2 => cov_midY (fun _ hr => hr) hp hq h1 h2,
   fun x y hx => cov_outX (fun _ hr => hr) hx, fun x y hx => cov_outY (fun _ hr => hr) hx, fun i j x y hx hy => by unfold cel; rw [hx, hy]; rfl⟩
theorem outV_can {l : List Rc} (h : ceL l = 0) : outV l = canO (cov l) 1048576 := by
  have k := ph_of (ceL_zero h).2
  unfold outV canO
  rw [if_pos h, hzL_can k, vtL_can k]
theorem cs_inv (σ : Int → Int) (a : Int) : ∀ n, (cs σ a n).2 ≠ 0 → ∃ Q s, (cs σ a n).1 = Q ++ [(s, a + n)] ∧ s < a + n
  | 0, h => absurd rfl h
  | n + 1, h => by
    have hs : σ (a + n) ≠ 0 := h
    have ih := cs_inv σ a n
    have e : (cs σ a (n + 1)).1 = spU (cs σ a n).1 (cs σ a n).2 (σ (a + n)) (a + n) (a + n + 1) := rfl
    unfold spU at e
    rw [if_neg hs] at e
    by_cases h1 : σ (a + n) = (cs σ a n).2
    · obtain ⟨Q, s, k1, k2⟩ := ih (by rw [← h1]; exact hs)
      rw [if_pos h1, k1] at e
      refine ⟨Q, s, ?_, by omega⟩
      rw [e, show a + ((n + 1 : Nat) : Int) = a + n + 1 by omega]
      simp
    · rw [if_neg h1] at e
      exact ⟨(cs σ a n).1, a + n, by rw [e, show a + ((n + 1 : Nat) : Int) = a + n + 1 by omega], by omega⟩
theorem cs_cov (σ : Int → Int) (a x : Int) : ∀ n : Nat, (∃ s ∈ (cs σ a n).1, s.1 ≤ x ∧ x < s.2) ↔ a ≤ x ∧ x < a + n ∧ σ x ≠ 0
  | 0 => by
    constructor
    · rintro ⟨s, hs, _⟩; cases hs
    · omega
  | n + 1 => by
    have ih := cs_cov σ a x n
    have e : (cs σ a (n + 1)).1 = spU (cs σ a n).1 (cs σ a n).2 (σ (a + n)) (a + n) (a + n + 1) := rfl
    rw [e]
    unfold spU
    by_cases h0 : σ (a + n) = 0
    · rw [if_pos h0, ih]
      constructor
      · rintro ⟨h1, h2, h3⟩
        exact ⟨h1, by omega, h3⟩
      · rintro ⟨h1, h2, h3⟩
        refine ⟨h1, ?_, h3⟩
        have : x ≠ a + n := fun e => h3 (e ▸ h0)
        omega
    · rw [if_neg h0]
      by_cases h1 : σ (a + n) = (cs σ a n).2
      · obtain ⟨Q, s, k1, k2⟩ := cs_inv σ a n (by rw [← h1]; exact h0)
        rw [if_pos h1]
        rw [k1] at ih ⊢
        simp only [List.dropLast_concat, List.getLast?_append, List.getLast?_singleton, Option.some_or, Option.getD_some, List.mem_append, List.mem_singleton] at ih ⊢
        constructor
        · rintro ⟨t, ht | rfl, h2, h3⟩
          · have := ih.1 ⟨t, .inl ht, h2, h3⟩
            exact ⟨this.1, by omega, this.2.2⟩
          · simp only at h2 h3
            by_cases hx : x = a + n
            · subst hx
              exact ⟨by omega, by omega, h0⟩
            · have := ih.1 ⟨_, .inr rfl, h2, by simp only; omega⟩
              exact ⟨this.1, by omega, this.2.2⟩
        · rintro ⟨h2, h3, h4⟩
          by_cases hx : x = a + n
          · subst hx
            exact ⟨_, .inr rfl, by simp only; omega, by simp only; omega⟩
          · obtain ⟨t, ht | rfl, h5, h6⟩ := ih.2 ⟨h2, by omega, h4⟩
            · exact ⟨t, .inl ht, h5, h6⟩
            · exact ⟨_, .inr rfl, h5, by simp only at h6 ⊢; omega⟩
      · rw [if_neg h1]
        simp only [List.mem_append, List.mem_singleton]
        constructor
        · rintro ⟨t, ht | rfl, h2, h3⟩
          · have := ih.1 ⟨t, ht, h2, h3⟩
            exact ⟨this.1, by omega, this.2.2⟩
          · simp only at h2 h3
            have hx : x = a + n := by omega
            subst hx
            exact ⟨by omega, by omega, h0⟩
        · rintro ⟨h2, h3, h4⟩
          by_cases hx : x = a + n
          · subst hx
            exact ⟨_, .inr rfl, by simp only; omega, by simp only; omega⟩
          · obtain ⟨t, ht, h5, h6⟩ := ih.2 ⟨h2, by omega, h4⟩
            exact ⟨t, .inl ht, h5, h6⟩
theorem sdV_ne {b a : Bool} : sdV b a ≠ 0 ↔ b ≠ a := by cases b <;> cases a <;> simp [sdV]
theorem canO_step {φ : Int → Int → Bool} {M : Nat} (ho : ∀ x y, x < -(M : Int) ∨ (M : Int) ≤ x ∨ y < -(M : Int) ∨ (M : Int) ≤ y → φ x y = false) (x y : Int) : (∃ s ∈ canO φ M, s.b = y ∧ s.a ≤ x ∧ x < s.c) ↔ φ x (y - 1) ≠ φ x y := by
  unfold canO
  simp only [List.mem_append, mem_fmr]
  constructor
  · rintro ⟨s, ⟨t, h1, h2, h3⟩ | ⟨t, h1, h2, h3⟩, k1, k2, k3⟩
    · unfold sgOfH at h3
      obtain ⟨p, hp, rfl⟩ := List.mem_map.1 h3
      simp only at k1 k2 k3
      subst k1
      unfold canH at hp
      exact sdV_ne.1 ((cs_cov _ _ x _).1 ⟨p, hp, k2, k3⟩).2.2
    · unfold sgOfV at h3
      obtain ⟨p, hp, rfl⟩ := List.mem_map.1 h3
      simp only at k1 k2 k3
      omega
  · intro h
    have hy : -(M : Int) ≤ y ∧ y ≤ M := by
      by_cases c1 : y < -(M : Int)
      · exact absurd (by rw [ho x y (by omega), ho x (y - 1) (by omega)]) h
      · by_cases c2 : (M : Int) < y
        · exact absurd (by rw [ho x y (by omega), ho x (y - 1) (by omega)]) h
        · omega
    have hx : -(M : Int) ≤ x ∧ x < M := by
      by_cases c1 : x < -(M : Int)
      · exact absurd (by rw [ho x y (by omega), ho x (y - 1) (by omega)]) h
      · by_cases c2 : (M : Int) ≤ x
        · exact absurd (by rw [ho x y (by omega), ho x (y - 1) (by omega)]) h
        · omega
    obtain ⟨p, hp, k1, k2⟩ := (cs_cov (fun x => sdV (φ x (y - 1)) (φ x y)) (-M) x (2 * M)).2 ⟨by omega, by omega, sdV_ne.2 h⟩
    exact ⟨⟨p.1, y, p.2, y⟩, .inl ⟨y, by omega, by omega, List.mem_map.2 ⟨p, hp, rfl⟩⟩, rfl, k1, k2⟩
theorem same_iff_out {a b : List Rc} (ha : ceL a = 0) (hb : ceL b = 0) : Same a b ↔ outV a = outV b := by
  have ia := (ceL_zero ha).2
  have ib := (ceL_zero hb).2
  rw [outV_can ha, outV_can hb]
  constructor
  · intro h
    have : cov a = cov b := funext fun x => funext fun y => h x y
    rw [this]
  · intro h
    have oa : ∀ x y, x < -((1048576 : Nat) : Int) ∨ ((1048576 : Nat) : Int) ≤ x ∨ y < -((1048576 : Nat) : Int) ∨ ((1048576 : Nat) : Int) ≤ y → cov a x y = false := fun x y => cov_out ia
    have ob : ∀ x y, x < -((1048576 : Nat) : Int) ∨ ((1048576 : Nat) : Int) ≤ x ∨ y < -((1048576 : Nat) : Int) ∨ ((1048576 : Nat) : Int) ≤ y → cov b x y = false := fun x y => cov_out ib
    have st : ∀ x y, (cov a x (y - 1) ≠ cov a x y) ↔ (cov b x (y - 1) ≠ cov b x y) := fun x y => by
      rw [← canO_step oa, ← canO_step ob, h]
    intro x y
    by_cases hy : y < -((1048576 : Nat) : Int)
    · rw [oa x y (by omega), ob x y (by omega)]
    · have go : ∀ n : Nat, cov a x (-((1048576 : Nat) : Int) - 1 + n) = cov b x (-((1048576 : Nat) : Int) - 1 + n) := by
        intro n
        induction n with
        | zero => rw [oa _ _ (by omega), ob _ _ (by omega)]
        | succ n ih =>
          have := st x (-((1048576 : Nat) : Int) - 1 + (n + 1 : Nat))
          rw [show -((1048576 : Nat) : Int) - 1 + ((n + 1 : Nat) : Int) - 1 = -((1048576 : Nat) : Int) - 1 + n by omega, ih] at this
          revert this
          generalize cov b x (-((1048576 : Nat) : Int) - 1 + n) = p
          generalize cov a x (-((1048576 : Nat) : Int) - 1 + (n + 1 : Nat)) = q
          generalize cov b x (-((1048576 : Nat) : Int) - 1 + (n + 1 : Nat)) = r
          cases p <;> cases q <;> cases r <;> simp
      have := go (y + 1048576 + 1).toNat
      rwa [show -((1048576 : Nat) : Int) - 1 + ((y + 1048576 + 1).toNat : Int) = y by omega] at this
end RG
end Go.Proofs.Ytfbhpeedjphpaaa
