/-
  Areas, plainly: what the program and the document add up over a grid is the area; the cells of a grid tell regions apart.
-/
import Derived.Test.YtddhaiaapomdjaaGreatRg2r
set_option linter.unusedVariables false
set_option linter.unusedSimpArgs false
namespace Go.Proofs.YtddhaiaapomdjaaGreat
set_option linter.unusedVariables false
set_option linter.unusedSimpArgs false
open Go Go.ChangeShapes Go.WideShapes Go.ChangeAt Go.RowKit Go.Deep

namespace RG
/-- between two neighbouring lines of X a rectangle whose sides are lines does not change -/
theorem up_mid {X : List Int} (hu : Up X) {i : Nat} {p q s x : Int} (hp : X[i]? = some p) (hq : X[i + 1]? = some q) (hs : s ∈ X) (h1 : p ≤ x) (h2 : x < q) : (s ≤ x ↔ s ≤ p) ∧ (x < s ↔ p < s) := by
  obtain ⟨j, hj⟩ := List.mem_iff_getElem?.1 hs
  rcases Nat.lt_or_ge i j with h | h
  · have := hu.le hq hj (by omega)
    omega
  · have := hu.le hj hp h
    omega
theorem inR_midX {X : List Int} (hu : Up X) {i : Nat} {p q x y : Int} {r : Rc} (hp : X[i]? = some p) (hq : X[i + 1]? = some q) (h3 : r.x ∈ X) (h4 : r.x + r.w ∈ X) (h1 : p ≤ x) (h2 : x < q) : inR r x y = inR r p y := by
  have a := up_mid hu hp hq h3 h1 h2
  have b := up_mid hu hp hq h4 h1 h2
  rw [Bool.eq_iff_iff, inR_iff, inR_iff]
  constructor <;> (intro h; omega)
theorem inR_midY {Y : List Int} (hu : Up Y) {i : Nat} {p q x y : Int} {r : Rc} (hp : Y[i]? = some p) (hq : Y[i + 1]? = some q) (h3 : r.y ∈ Y) (h4 : r.y + r.h ∈ Y) (h1 : p ≤ y) (h2 : y < q) : inR r x y = inR r x p := by
  have a := up_mid hu hp hq h3 h1 h2
  have b := up_mid hu hp hq h4 h1 h2
  rw [Bool.eq_iff_iff, inR_iff, inR_iff]
  constructor <;> (intro h; omega)
theorem any_congr {α : Type} {f g : α → Bool} : ∀ {l : List α}, (∀ r ∈ l, f r = g r) → l.any f = l.any g
  | [], _ => rfl
  | r :: l, h => by
    rw [List.any_cons, List.any_cons, h r (by simp), any_congr fun s hs => h s (by simp [hs])]
theorem cov_midX {l m : List Rc} (hm : ∀ r ∈ m, r ∈ l) {i : Nat} {p q x y : Int} (hp : (lnX l)[i]? = some p) (hq : (lnX l)[i + 1]? = some q) (h1 : p ≤ x) (h2 : x < q) : cov m x y = cov m p y :=
  any_congr fun r hr => inR_midX (up_lnX l) hp hq (mem_lnX.2 ⟨r, hm r hr, .inl rfl⟩) (mem_lnX.2 ⟨r, hm r hr, .inr rfl⟩) h1 h2
theorem cov_midY {l m : List Rc} (hm : ∀ r ∈ m, r ∈ l) {i : Nat} {p q x y : Int} (hp : (lnY l)[i]? = some p) (hq : (lnY l)[i + 1]? = some q) (h1 : p ≤ y) (h2 : y < q) : cov m x y = cov m x p :=
  any_congr fun r hr => inR_midY (up_lnY l) hp hq (mem_lnY.2 ⟨r, hm r hr, .inl rfl⟩) (mem_lnY.2 ⟨r, hm r hr, .inr rfl⟩) h1 h2
theorem cov_outX {l m : List Rc} (hm : ∀ r ∈ m, r ∈ l) {x y : Int} (h : (∀ p ∈ lnX l, x < p) ∨ (∀ p ∈ lnX l, p ≤ x)) : cov m x y = false := by
  unfold cov
  rw [List.any_eq_false]
  intro r hr k
  have k' := inR_iff.1 k
  rcases h with h | h
  · have := h r.x (mem_lnX.2 ⟨r, hm r hr, .inl rfl⟩)
    omega
  · have := h (r.x + r.w) (mem_lnX.2 ⟨r, hm r hr, .inr rfl⟩)
    omega
theorem cov_outY {l m : List Rc} (hm : ∀ r ∈ m, r ∈ l) {x y : Int} (h : (∀ p ∈ lnY l, y < p) ∨ (∀ p ∈ lnY l, p ≤ y)) : cov m x y = false := by
  unfold cov
  rw [List.any_eq_false]
  intro r hr k
  have k' := inR_iff.1 k
  rcases h with h | h
  · have := h r.y (mem_lnY.2 ⟨r, hm r hr, .inl rfl⟩)
    omega
  · have := h (r.y + r.h) (mem_lnY.2 ⟨r, hm r hr, .inr rfl⟩)
    omega
theorem ln_in {M : Nat} {l : List Rc} (h : ∀ r ∈ l, InM M r) : (∀ x ∈ lnX l, -(M : Int) ≤ x ∧ x ≤ -(M : Int) + (2 * M : Nat)) ∧ (∀ y ∈ lnY l, -(M : Int) ≤ y ∧ y ≤ -(M : Int) + (2 * M : Nat)) := by
  constructor
  · intro x hx
    obtain ⟨r, hr, e⟩ := mem_lnX.1 hx
    have b := h r hr
    have := b.w; have := b.h; have := b.x; have := b.y; have := b.x'; have := b.y'
    omega
  · intro x hx
    obtain ⟨r, hr, e⟩ := mem_lnY.1 hx
    have b := h r hr
    have := b.w; have := b.h; have := b.x; have := b.y; have := b.x'; have := b.y'
    omega
/-- the area, by the grid of a list that holds these rectangles -/
theorem ar_grid {M : Nat} {l m : List Rc} (h : ∀ r ∈ l, InM M r) (hm : ∀ r ∈ m, r ∈ l) : ar M m = gs (lnX l) (fun x => gs (lnY l) (fun y => ib (cov m x y)) ((lnY l).length - 1)) ((lnX l).length - 1) := by
  have e : ∀ x, sm (fun y => ib (cov m x y)) (-(M : Int)) (2 * M) = gs (lnY l) (fun y => ib (cov m x y)) ((lnY l).length - 1) := fun x =>
    sm_all (up_lnY l) (ln_in h).2 (fun i p q hp hq y h1 h2 => by rw [cov_midY hm hp hq h1 h2]) (fun y hy => by rw [cov_outY hm hy]; rfl)
  show sm _ _ _ = _
  rw [sm_congr fun x _ _ => e x]
  refine sm_all (up_lnX l) (ln_in h).1 (fun i p q hp hq x h1 h2 => ?_) (fun x hx => ?_)
  · exact gs_congr fun j _ => by rw [cov_midX hm hp hq h1 h2]
  · rw [gs_congr (g := fun _ => 0) fun j _ => by rw [cov_outX hm hx]; rfl]
    have : ∀ (Y : List Int) k, gs Y (fun _ => 0) k = 0 := by
      intro Y k
      induction k with
      | zero => rfl
      | succ k ih =>
        show gs Y (fun _ => 0) k + _ * 0 = 0
        rw [ih]
        omega
    exact this _ _
theorem gs_bd {X : List Int} (hu : Up X) {f : Int → Int} {C : Int} (h0 : ∀ x, 0 ≤ f x) (h1 : ∀ x, f x ≤ C) : ∀ (k : Nat) (p q : Int), X[0]? = some p → X[k]? = some q → 0 ≤ gs X f k ∧ gs X f k ≤ (q - p) * C
  | 0, p, q, hp, hq => by
    rw [hp] at hq
    obtain rfl := Option.some.inj hq
    simp [gs]
  | k + 1, p, q, hp, hq => by
    have hlt := (List.getElem?_eq_some_iff.1 hq).1
    obtain ⟨y, hy⟩ : ∃ y, X[k]? = some y := ⟨_, List.getElem?_eq_getElem (by omega)⟩
    obtain ⟨i1, i2⟩ := gs_bd hu h0 h1 k p y hp hy
    have l1 := hu.at hy hq (by omega)
    show 0 ≤ gs X f k + (X[k + 1]?.getD 0 - X[k]?.getD 0) * f (X[k]?.getD 0) ∧ gs X f k + (X[k + 1]?.getD 0 - X[k]?.getD 0) * f (X[k]?.getD 0) ≤ _
    rw [hq, hy]
    simp only [Option.getD_some]
    have a1 := Int.mul_nonneg (show 0 ≤ q - y by omega) (h0 y)
    have a2 := Int.mul_le_mul_of_nonneg_left (h1 y) (show 0 ≤ q - y by omega)
    have a3 : (q - p) * C = (y - p) * C + (q - y) * C := by grind
    omega
/-- no sum wraps: what the machine adds over a column -/
theorem sumY_eq {X Y : List Int} (hY : Up Y) {c : Nat → Nat → Bool} {i : Nat} {s : Int} {f : Int → Bool} (hc : ∀ j y, Y[j]? = some y → c i j = f y) {M : Int} (hM : 0 ≤ M ∧ M ≤ 1048576) (hb : ∀ y ∈ Y, -M ≤ y ∧ y ≤ M)
    {dx : Int} (hdx : X[i + 1]?.getD 0 - X[i]?.getD 0 = dx) (h0 : 0 ≤ dx ∧ dx ≤ 2 * M) (hs : 0 ≤ s ∧ s ≤ 8796093022208) : ∀ k, k + 1 ≤ Y.length → sumY X Y c i s k = s + dx * gs Y (fun y => ib (f y)) k
  | 0, _ => by simp [sumY, gs]
  | k + 1, hk => by
    have ih := sumY_eq hY hc hM hb hdx h0 hs k (by omega)
    obtain ⟨y, hy⟩ : ∃ y, Y[k]? = some y := ⟨_, List.getElem?_eq_getElem (by omega)⟩
    obtain ⟨z, hz⟩ : ∃ y, Y[k + 1]? = some y := ⟨_, List.getElem?_eq_getElem (by omega)⟩
    obtain ⟨p, hp⟩ : ∃ y, Y[0]? = some y := ⟨_, List.getElem?_eq_getElem (by omega)⟩
    have b1 := hb y (List.mem_of_getElem? hy)
    have b2 := hb z (List.mem_of_getElem? hz)
    have b3 := hb p (List.mem_of_getElem? hp)
    have l1 := hY.at hy hz (by omega)
    obtain ⟨g1, g2⟩ := gs_bd hY (f := fun y => ib (f y)) (C := 1) (fun x => ib_nn _) (fun x => ib_l1 _) k p y hp hy
    obtain ⟨g3, g4⟩ := gs_bd hY (f := fun y => ib (f y)) (C := 1) (fun x => ib_nn _) (fun x => ib_l1 _) (k + 1) p z hp hz
    have m1 := Int.mul_nonneg h0.1 g1
    have m2 : dx * gs Y (fun y => ib (f y)) k ≤ (2 * 1048576) * (2 * 1048576) := Int.mul_le_mul (by omega) (by omega) g1 (by omega)
    have m3 := Int.mul_nonneg h0.1 (show 0 ≤ z - y by omega)
    have m4 : dx * (z - y) ≤ (2 * 1048576) * (2 * 1048576) := Int.mul_le_mul (by omega) (by omega) (by omega) (by omega)
    show (if c i k then wrap64 (sumY X Y c i s k + wrap64 (wrap64 (X[i + 1]?.getD 0 - X[i]?.getD 0) * wrap64 (Y[k + 1]?.getD 0 - Y[k]?.getD 0))) else sumY X Y c i s k) = s + dx * (gs Y (fun y => ib (f y)) k + (Y[k + 1]?.getD 0 - Y[k]?.getD 0) * ib (f (Y[k]?.getD 0)))
    rw [hc k y hy, ih, hdx, hy, hz]
    simp only [Option.getD_some]
    have w1 : wrap64 dx = dx := by unfold wrap64; omega
    have w2 : wrap64 (z - y) = z - y := by unfold wrap64; omega
    have w3 : wrap64 (dx * (z - y)) = dx * (z - y) := by unfold wrap64; omega
    have w4 : wrap64 (s + dx * gs Y (fun y => ib (f y)) k + dx * (z - y)) = s + dx * gs Y (fun y => ib (f y)) k + dx * (z - y) := by unfold wrap64; omega
    rw [w1, w2, w3, w4]
    cases f y
    · simp [ib]
    · simp only [ib, if_true]
      grind
theorem sumX_eq {l m : List Rc} (h : ∀ r ∈ l, InM 1048576 r) (hm : ∀ r ∈ m, r ∈ l) : ∀ k, k + 1 ≤ (lnX l).length → sumX (lnX l) (lnY l) (cel (lnX l) (lnY l) m) k = gs (lnX l) (fun x => gs (lnY l) (fun y => ib (cov m x y)) ((lnY l).length - 1)) k
  | 0, _ => rfl
  | k + 1, hk => by
    have ih := sumX_eq h hm k (by omega)
    obtain ⟨x, hx⟩ : ∃ y, (lnX l)[k]? = some y := ⟨_, List.getElem?_eq_getElem (by omega)⟩
    obtain ⟨x', hx'⟩ : ∃ y, (lnX l)[k + 1]? = some y := ⟨_, List.getElem?_eq_getElem (by omega)⟩
    obtain ⟨p, hp⟩ : ∃ y, (lnX l)[0]? = some y := ⟨_, List.getElem?_eq_getElem (by omega)⟩
    have hbX := (ln_in h).1
    have hbY := (ln_in h).2
    have b1 := hbX x (List.mem_of_getElem? hx)
    have b2 := hbX x' (List.mem_of_getElem? hx')
    have b3 := hbX p (List.mem_of_getElem? hp)
    have l1 := (up_lnX l).at hx hx' (by omega)
    have l2 := (up_lnX l).le hp hx (by omega)
    have hn : 0 < (lnY l).length := by
      obtain ⟨r, hr, _⟩ := mem_lnX.1 (List.mem_of_getElem? hx)
      exact List.length_pos_of_mem (mem_lnY.2 ⟨r, hr, .inl rfl⟩)
    obtain ⟨y0, hy0⟩ : ∃ y, (lnY l)[0]? = some y := ⟨_, List.getElem?_eq_getElem (by omega)⟩
    obtain ⟨y1, hy1⟩ : ∃ y, (lnY l)[(lnY l).length - 1]? = some y := ⟨_, List.getElem?_eq_getElem (by omega)⟩
    have c1 := hbY y0 (List.mem_of_getElem? hy0)
    have c2 := hbY y1 (List.mem_of_getElem? hy1)
    have hF : ∀ x, 0 ≤ gs (lnY l) (fun y => ib (cov m x y)) ((lnY l).length - 1) ∧ gs (lnY l) (fun y => ib (cov m x y)) ((lnY l).length - 1) ≤ 2097152 := by
      intro x
      obtain ⟨g1, g2⟩ := gs_bd (up_lnY l) (f := fun y => ib (cov m x y)) (C := 1) (fun x => ib_nn _) (fun x => ib_l1 _) _ y0 y1 hy0 hy1
      omega
    obtain ⟨g1, g2⟩ := gs_bd (up_lnX l) (C := 2097152) (fun x => (hF x).1) (fun x => (hF x).2) k p x hp hx
    show sumY _ _ _ k (sumX (lnX l) (lnY l) (cel (lnX l) (lnY l) m) k) ((lnY l).length - 1) = _ + ((lnX l)[k + 1]?.getD 0 - (lnX l)[k]?.getD 0) * gs (lnY l) (fun y => ib (cov m ((lnX l)[k]?.getD 0) y)) ((lnY l).length - 1)
    rw [ih]
    refine sumY_eq (up_lnY l) (f := fun y => cov m ((lnX l)[k]?.getD 0) y) (fun j y hy => ?_) (M := 1048576) (by omega) (fun y hy => by have := hbY y hy; omega) rfl (by rw [hx, hx']; simp only [Option.getD_some]; omega) (by omega) _ (by omega)
    unfold cel
    rw [hy]
    rfl
/-- what both sides add up is the area -/
theorem areaV_eq {l : List Rc} (h : ∀ r ∈ l, InM 1048576 r) : areaV l = ar 1048576 l := by
  rw [ar_grid h fun r hr => hr]
  by_cases he : (lnX l).length = 0
  · unfold areaV
    rw [he]
    rfl
  · exact sumX_eq h (fun r hr => hr) _ (by omega)
/-- a cell of the grid, or outside of it -/
theorem find {X : List Int} (hu : Up X) (x : Int) : (∀ p ∈ X, x < p) ∨ (∀ p ∈ X, p ≤ x) ∨ ∃ i p q, X[i]? = some p ∧ X[i + 1]? = some q ∧ p ≤ x ∧ x < q := by
  induction X with
  | nil => exact .inl fun p hp => by simp at hp
  | cons a X ih =>
    have h' := List.pairwise_cons.1 hu
    rcases Int.lt_or_le x a with h | h
    · left
      intro p hp
      rcases List.mem_cons.1 hp with rfl | hp
      · exact h
      · have := h'.1 p hp
        omega
    · right
      rcases ih h'.2 with k | k | ⟨i, p, q, h1, h2, h3, h4⟩
      · cases X with
        | nil => exact .inl fun p hp => by simp at hp; omega
        | cons b X => exact .inr ⟨0, a, b, rfl, rfl, h, k b (by simp)⟩
      · left
        intro p hp
        rcases List.mem_cons.1 hp with rfl | hp
        · exact h
        · exact k p hp
      · exact .inr ⟨i + 1, p, q, by simpa using h1, by simpa using h2, h3, h4⟩
end RG
end Go.Proofs.YtddhaiaapomdjaaGreat
