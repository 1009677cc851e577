/-
  Surfaces of flat patterns, plainly: a column swept from below, the columns added up, the grid without its cuts.
-/
import Derived.Test.YtjnfodbniohkhaaRg3
set_option linter.unusedVariables false
set_option linter.unusedSimpArgs false
namespace Go.Proofs.Ytjnfodbniohkhaa
set_option linter.unusedVariables false
set_option linter.unusedSimpArgs false
open Go Go.ChangeShapes Go.WideShapes Go.ChangeAt Go.RowKit Go.Deep

namespace RG
/-- what the sweep of one column adds up -/
def swp : List Rc → Int → Int → Int
  | [], s, _ => s
  | r :: l, s, t => swp l (s + max 0 (r.y + r.h - max r.y t)) (max t (r.y + r.h))
def inY (r : Rc) (y : Int) : Bool := decide (r.y ≤ y) && decide (y < r.y + r.h)
def covY (l : List Rc) (y : Int) : Bool := l.any fun r => inY r y
theorem sm_span {M : Nat} {b c : Int} (h1 : -(M : Int) ≤ b) (h2 : c ≤ M) : sm (fun y => ib (decide (b ≤ y) && decide (y < c))) (-M) (2 * M) = max 0 (c - b) := by
  by_cases h : b ≤ c
  · rw [sm_part (b := b) (c := c) h1 h (by omega) (fun x hx => by
      rcases hx with hx | hx
      · rw [show decide (b ≤ x) = false by simp; omega]; rfl
      · rw [show decide (x < c) = false by simp; omega]; simp [ib]), sm_const (c := 1) (fun x h3 h4 => by
      rw [show decide (b ≤ x) = true by simp; omega, show decide (x < c) = true by simp; omega]; rfl)]
    omega
  · rw [sm_zero fun x _ _ => by
      by_cases h3 : b ≤ x
      · rw [show decide (x < c) = false by simp; omega]; simp [ib]
      · rw [show decide (b ≤ x) = false by simp; omega]; rfl]
    omega
theorem swp_eq {M : Nat} : ∀ {l : List Rc} {s t : Int}, l.Pairwise (fun a b => a.y ≤ b.y) → (∀ r ∈ l, 0 < r.h ∧ -(M : Int) ≤ r.y ∧ r.y + r.h ≤ M) → -(M : Int) ≤ t → t ≤ M →
    swp l s t = s + sm (fun y => ib (covY l y && decide (t ≤ y))) (-M) (2 * M)
  | [], s, t, _, _, _, _ => by
    have e := sm_zero (f := fun y => ib (covY [] y && decide (t ≤ y))) (a := -(M : Int)) (n := 2 * M) fun y _ _ => rfl
    rw [e]
    show s = s + 0
    omega
  | r :: l, s, t, hp, hr, h1, h2 => by
    obtain ⟨k1, k2⟩ := List.pairwise_cons.1 hp
    obtain ⟨r1, r2, r3⟩ := hr r (by simp)
    have ih := swp_eq (M := M) (l := l) (s := s + max 0 (r.y + r.h - max r.y t)) (t := max t (r.y + r.h)) k2 (fun r hr' => hr r (by simp [hr'])) (by omega) (by omega)
    show swp l _ _ = _
    rw [ih, ← sm_span (M := M) (b := max r.y t) (c := r.y + r.h) (by omega) r3, Int.add_assoc, ← sm_add]
    congr 1
    refine sm_congr fun y _ _ => ?_
    have key : covY l y = true → r.y ≤ y := by
      intro h
      obtain ⟨q, hq, hy⟩ := List.any_eq_true.1 h
      have := k1 q hq
      simp only [inY, Bool.and_eq_true, decide_eq_true_eq] at hy
      omega
    have e : covY (r :: l) y = (inY r y || covY l y) := rfl
    rw [e]
    have m1 : decide (max r.y t ≤ y) = (decide (r.y ≤ y) && decide (t ≤ y)) := by
      rw [Bool.eq_iff_iff]
      simp only [Bool.and_eq_true, decide_eq_true_eq]
      omega
    have m2 : decide (max t (r.y + r.h) ≤ y) = (decide (t ≤ y) && !decide (y < r.y + r.h)) := by
      rw [Bool.eq_iff_iff]
      simp only [Bool.and_eq_true, Bool.not_eq_true', decide_eq_true_eq, decide_eq_false_iff_not]
      omega
    rw [m1, m2]
    unfold inY
    cases hc : covY l y
    · generalize decide (r.y ≤ y) = a
      generalize decide (t ≤ y) = b
      generalize decide (y < r.y + r.h) = c
      cases a <;> cases b <;> cases c <;> rfl
    · rw [show decide (r.y ≤ y) = true by simpa using key hc]
      generalize decide (t ≤ y) = b
      generalize decide (y < r.y + r.h) = c
      cases b <;> cases c <;> rfl
def cxL (l : List Rc) (x : Int) : List Rc := l.filter fun r => decide (r.x ≤ x) && decide (x < r.x + r.w)
def colS (M : Nat) (l : List Rc) (x : Int) : Int := sm (fun y => ib (cov l x y)) (-M) (2 * M)
theorem col_cov {l k : List Rc} {x : Int} (hk : ∀ r, r ∈ k ↔ r ∈ cxL l x) (y : Int) : covY k y = cov l x y := by
  rw [Bool.eq_iff_iff]
  unfold covY cov
  rw [List.any_eq_true, List.any_eq_true]
  constructor
  · rintro ⟨r, hr, hy⟩
    have := (hk r).1 hr
    unfold cxL at this
    rw [List.mem_filter] at this
    simp only [Bool.and_eq_true, decide_eq_true_eq, inY] at this hy
    exact ⟨r, this.1, inR_iff.2 ⟨this.2.1, this.2.2, hy.1, hy.2⟩⟩
  · rintro ⟨r, hr, hy⟩
    obtain ⟨h1, h2, h3, h4⟩ := inR_iff.1 hy
    refine ⟨r, (hk r).2 ?_, by simp [inY, h3, h4]⟩
    unfold cxL
    rw [List.mem_filter]
    exact ⟨hr, by simp [h1, h2]⟩
/-- what the code finds of a column is how much of it is covered -/
theorem swp_col {M : Nat} {l k : List Rc} {x : Int} (h : ∀ r ∈ l, InM M r) (hk : ∀ r, r ∈ k ↔ r ∈ cxL l x) (hs : k.Pairwise (fun a b => a.y ≤ b.y)) : swp k 0 (-M) = colS M l x := by
  rw [swp_eq (M := M) hs (fun r hr => by
    have := (hk r).1 hr
    unfold cxL at this
    have hi := h r (List.mem_filter.1 this).1
    exact ⟨hi.h, hi.y, hi.y'⟩) (by omega) (by omega), Int.zero_add]
  refine sm_congr fun y h1 _ => ?_
  rw [col_cov hk, show decide (-(M : Int) ≤ y) = true by simpa using h1, Bool.and_true]
theorem colS_bd (M : Nat) (l : List Rc) (x : Int) : 0 ≤ colS M l x ∧ colS M l x ≤ 2 * M := by
  constructor
  · exact sm_nonneg fun _ _ _ => ib_nn _
  · have := sm_le (f := fun y => ib (cov l x y)) (g := fun _ => 1) (a := -(M : Int)) (n := 2 * M) fun y _ _ => ib_l1 _
    rw [sm_const (f := fun _ => 1) (c := 1) fun _ _ _ => rfl] at this
    unfold colS
    omega
/-- the area without that of the cuts -/
def srfV (M : Nat) (a b : List Rc) : Int := s2 M fun x y => ib (cov a x y && !cov b x y)
theorem srf_diff (M : Nat) (a b : List Rc) : ar M (a ++ b) = srfV M a b + ar M b := by
  unfold ar srfV
  rw [← s2_add]
  refine s2_congr fun x y _ _ _ _ => ?_
  rw [cov_app]
  cases cov a x y <;> cases cov b x y <;> rfl
theorem gs_sub (X : List Int) (f g : Int → Int) : ∀ k, gs X (fun x => f x - g x) k = gs X f k - gs X g k
  | 0 => rfl
  | k + 1 => by
    show gs X _ k + _ * (f _ - g _) = (gs X f k + _ * f _) - (gs X g k + _ * g _)
    rw [gs_sub X f g k, Int.mul_sub]
    omega
theorem colS_gs {M : Nat} {l m : List Rc} (h : ∀ r ∈ l, InM M r) (hm : ∀ r ∈ m, r ∈ l) : gs (lnX l) (colS M m) ((lnX l).length - 1) = ar M m := by
  symm
  show sm (fun x => colS M m x) _ _ = _
  refine sm_all (up_lnX l) (ln_in h).1 (fun i p q hp hq x h1 h2 => ?_) (fun x hx => ?_)
  · exact sm_congr fun y _ _ => by rw [cov_midX hm hp hq h1 h2]
  · exact sm_zero fun y _ _ => by rw [cov_outX hm hx]; rfl
/-- the columns added up -/
theorem srf_cols {M : Nat} {a b : List Rc} (ha : ∀ r ∈ a, InM M r) (hb : ∀ r ∈ b, InM M r) :
    gs (lnX (a ++ b)) (fun x => colS M (a ++ b) x - colS M b x) ((lnX (a ++ b)).length - 1) = srfV M a b := by
  have h : ∀ r ∈ a ++ b, InM M r := fun r hr => by
    rcases List.mem_append.1 hr with h | h
    · exact ha r h
    · exact hb r h
  rw [gs_sub, colS_gs h fun r hr => hr, colS_gs h fun r hr => List.mem_append_right _ hr, srf_diff]
  omega
/-- any grid of cells on the lines of l -/
theorem sumX_gen {l : List Rc} {c : Nat → Nat → Bool} {φ : Int → Int → Bool} (h : ∀ r ∈ l, InM 1048576 r) (hc : ∀ i j x y, (lnX l)[i]? = some x → (lnY l)[j]? = some y → c i j = φ x y) :
    ∀ k, k + 1 ≤ (lnX l).length → sumX (lnX l) (lnY l) c k = gs (lnX l) (fun x => gs (lnY l) (fun y => ib (φ x y)) ((lnY l).length - 1)) k
  | 0, _ => rfl
  | k + 1, hk => by
    have ih := sumX_gen h hc k (by omega)
    obtain ⟨x, hx⟩ : ∃ y, (lnX l)[k]? = some y := ⟨_, List.getElem?_eq_getElem (by omega)⟩
    obtain ⟨x', hx'⟩ : ∃ y, (lnX l)[k + 1]? = some y := ⟨_, List.getElem?_eq_getElem (by omega)⟩
    obtain ⟨p, hp⟩ : ∃ y, (lnX l)[0]? = some y := ⟨_, List.getElem?_eq_getElem (by omega)⟩
    have hbX := (ln_in h).1
    have hbY := (ln_in h).2
    have b1 := hbX x (List.mem_of_getElem? hx)
    have b2 := hbX x' (List.mem_of_getElem? hx')
    have b3 := hbX p (List.mem_of_getElem? hp)
    have l1 := (up_lnX l).at hx hx' (by omega)
    have l2 := (up_lnX l).le hp hx (by omega)
    have hn : 0 < (lnY l).length := by
      obtain ⟨r, hr, _⟩ := mem_lnX.1 (List.mem_of_getElem? hx)
      exact List.length_pos_of_mem (mem_lnY.2 ⟨r, hr, .inl rfl⟩)
    obtain ⟨y0, hy0⟩ : ∃ y, (lnY l)[0]? = some y := ⟨_, List.getElem?_eq_getElem (by omega)⟩
    obtain ⟨y1, hy1⟩ : ∃ y, (lnY l)[(lnY l).length - 1]? = some y := ⟨_, List.getElem?_eq_getElem (by omega)⟩
    have c1 := hbY y0 (List.mem_of_getElem? hy0)
    have c2 := hbY y1 (List.mem_of_getElem? hy1)
    have hF : ∀ x, 0 ≤ gs (lnY l) (fun y => ib (φ x y)) ((lnY l).length - 1) ∧ gs (lnY l) (fun y => ib (φ x y)) ((lnY l).length - 1) ≤ 2097152 := by
      intro x
      obtain ⟨g1, g2⟩ := gs_bd (up_lnY l) (f := fun y => ib (φ x y)) (C := 1) (fun x => ib_nn _) (fun x => ib_l1 _) _ y0 y1 hy0 hy1
      omega
    obtain ⟨g1, g2⟩ := gs_bd (up_lnX l) (C := 2097152) (fun x => (hF x).1) (fun x => (hF x).2) k p x hp hx
    show sumY _ _ _ k (sumX (lnX l) (lnY l) c k) ((lnY l).length - 1) = _ + ((lnX l)[k + 1]?.getD 0 - (lnX l)[k]?.getD 0) * gs (lnY l) (fun y => ib (φ ((lnX l)[k]?.getD 0) y)) ((lnY l).length - 1)
    rw [ih]
    exact sumY_eq (up_lnY l) (f := fun y => φ ((lnX l)[k]?.getD 0) y) (fun j y hy => by rw [hx]; exact hc k j x y hx hy) (M := 1048576) (by omega) (fun y hy => by have := hbY y hy; omega) rfl (by rw [hx, hx']; simp only [Option.getD_some]; omega) (by omega) _ (by omega)
/-- the document's grid without its cuts adds up the same -/
theorem srf_grid {a b : List Rc} (ha : ∀ r ∈ a, InM 1048576 r) (hb : ∀ r ∈ b, InM 1048576 r) {c : Nat → Nat → Bool}
    (hc : ∀ i j, c i j = (cel (lnX (a ++ b)) (lnY (a ++ b)) a i j && !cel (lnX (a ++ b)) (lnY (a ++ b)) b i j)) :
    sumX (lnX (a ++ b)) (lnY (a ++ b)) c ((lnX (a ++ b)).length - 1) = srfV 1048576 a b := by
  have h : ∀ r ∈ a ++ b, InM 1048576 r := fun r hr => by
    rcases List.mem_append.1 hr with h | h
    · exact ha r h
    · exact hb r h
  have ma : ∀ r ∈ a, r ∈ a ++ b := fun r hr => List.mem_append_left _ hr
  have mb : ∀ r ∈ b, r ∈ a ++ b := fun r hr => List.mem_append_right _ hr
  have e1 : srfV 1048576 a b = gs (lnX (a ++ b)) (fun x => gs (lnY (a ++ b)) (fun y => ib (cov a x y && !cov b x y)) ((lnY (a ++ b)).length - 1)) ((lnX (a ++ b)).length - 1) := by
    have e : ∀ x, sm (fun y => ib (cov a x y && !cov b x y)) (-((1048576 : Nat) : Int)) (2 * 1048576) = gs (lnY (a ++ b)) (fun y => ib (cov a x y && !cov b x y)) ((lnY (a ++ b)).length - 1) := fun x =>
      sm_all (up_lnY _) (ln_in h).2 (fun i p q hp hq y h1 h2 => by rw [cov_midY ma hp hq h1 h2, cov_midY mb hp hq h1 h2]) (fun y hy => by rw [cov_outY ma hy]; rfl)
    show sm _ _ _ = _
    rw [sm_congr fun x _ _ => e x]
    refine sm_all (up_lnX _) (ln_in h).1 (fun i p q hp hq x h1 h2 => ?_) (fun x hx => ?_)
    · exact gs_congr fun j _ => by rw [cov_midX ma hp hq h1 h2, cov_midX mb hp hq h1 h2]
    · rw [← e x]
      exact sm_zero fun y _ _ => by rw [cov_outX ma hx]; rfl
  rw [e1]
  by_cases he : (lnX (a ++ b)).length = 0
  · rw [he]
    rfl
  · exact sumX_gen h (fun i j x y hx hy => by rw [hc]; unfold cel; rw [hx, hy]; rfl) _ (by omega)
end RG
end Go.Proofs.Ytjnfodbniohkhaa
