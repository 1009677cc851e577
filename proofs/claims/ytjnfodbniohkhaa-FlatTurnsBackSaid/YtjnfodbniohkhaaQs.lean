/-
  Flat patterns turned: the surface stays. No program.
-/
import Derived.Test.YtjnfodbniohkhaaQm
import Derived.Test.YtjnfodbniohkhaaSf1
set_option linter.unusedVariables false
set_option linter.unusedSimpArgs false
namespace Go.Proofs.Ytjnfodbniohkhaa
set_option linter.unusedVariables false
set_option linter.unusedSimpArgs false
open Go Go.ChangeShapes Go.WideShapes Go.ChangeAt Go.RowKit Go.Deep

namespace RG
/-- sums in the other order -/
theorem sm_swap (f : Int → Int → Int) (a b : Int) (m : Nat) : ∀ n, sm (fun x => sm (fun y => f x y) b m) a n = sm (fun y => sm (fun x => f x y) a n) b m
  | 0 => (sm_zero fun _ _ _ => rfl).symm
  | n + 1 => by
    show sm (fun x => sm (fun y => f x y) b m) a n + sm (fun y => f (a + n) y) b m = sm (fun y => sm (fun x => f x y) a n + f (a + n) y) b m
    rw [sm_add, sm_swap f a b m n]
theorem sm_one (f : Int → Int) (a : Int) : sm f a 1 = f a := by
  show 0 + f (a + (0 : Nat)) = f a
  rw [Int.zero_add]
  congr 1
  omega
/-- a sum backwards -/
theorem sm_rev (f : Int → Int) : ∀ (n : Nat) (a : Int), sm (fun x => f (-x - 1)) a n = sm f (-a - n) n
  | 0, a => rfl
  | n + 1, a => by
    show sm (fun x => f (-x - 1)) a n + f (-(a + n) - 1) = _
    rw [sm_rev f n a, show n + 1 = 1 + n by omega, sm_split, sm_one, show -a - ((1 + n : Nat) : Int) + ((1 : Nat) : Int) = -a - n by omega, show -(a + (n : Int)) - 1 = -a - ((1 + n : Nat) : Int) by omega]
    omega
/-- a sum shifted -/
theorem sm_shift (f : Int → Int) (d : Int) (a : Int) : ∀ n, sm (fun x => f (x - d)) a n = sm f (a - d) n
  | 0 => rfl
  | n + 1 => by
    show sm (fun x => f (x - d)) a n + f (a + n - d) = sm f (a - d) n + f (a - d + n)
    rw [sm_shift f d a n, show a + (n : Int) - d = a - d + n by omega]
/-- two windows that hold all of f -/
theorem sm_win {f : Int → Int} {a b : Int} {n m : Nat} (h1 : ∀ x, x < a ∨ a + n ≤ x → f x = 0) (h2 : ∀ x, x < b ∨ b + m ≤ x → f x = 0) : sm f a n = sm f b m := by
  have e1 := sm_part (f := f) (a := min a b) (b := a) (c := a + n) (n := (max (a + n) (b + m) - min a b).toNat) (by omega) (by omega) (by omega) h1
  have e2 := sm_part (f := f) (a := min a b) (b := b) (c := b + m) (n := (max (a + n) (b + m) - min a b).toNat) (by omega) (by omega) (by omega) h2
  rw [show (a + (n : Int) - a).toNat = n by omega] at e1
  rw [show (b + (m : Int) - b).toNat = m by omega] at e2
  rw [← e1, e2]
theorem inR_R1 (r : Rc) (x y : Int) : inR (R1 r) x y = inR r y (-x - 1) := by
  rw [Bool.eq_iff_iff, inR_iff, inR_iff]
  simp only [R1]
  omega
theorem inR_Sh (u v : Int) (r : Rc) (x y : Int) : inR (Sh u v r) x y = inR r (x - u) (y - v) := by
  rw [Bool.eq_iff_iff, inR_iff, inR_iff]
  simp only [Sh]
  omega
theorem cov_map {g : Rc → Rc} {p q : Int → Int → Int} (h : ∀ r x y, inR (g r) x y = inR r (p x y) (q x y)) (l : List Rc) (x y : Int) : cov (l.map g) x y = cov l (p x y) (q x y) := by
  unfold cov
  rw [List.any_map]
  congr 1
  funext r
  exact h r x y
theorem srf_R1 (M : Nat) (a c : List Rc) : srfV M (a.map R1) (c.map R1) = srfV M a c := by
  unfold srfV s2
  have e : ∀ l : List Rc, ∀ x y, cov (l.map R1) x y = cov l y (-x - 1) := cov_map (p := fun x y => y) (q := fun x y => -x - 1) inR_R1
  simp only [e]
  rw [sm_swap (fun x y => ib (cov a y (-x - 1) && !cov c y (-x - 1)))]
  refine sm_congr fun y _ _ => ?_
  rw [sm_rev (fun x => ib (cov a y x && !cov c y x))]
  rw [show -(-(M : Int)) - ((2 * M : Nat) : Int) = -(M : Int) by omega]
theorem srf_RN (M : Nat) (a c : List Rc) : ∀ n, srfV M (a.map (RN n)) (c.map (RN n)) = srfV M a c
  | 0 => by
    rw [show RN 0 = id from rfl, List.map_id, List.map_id]
  | n + 1 => by
    rw [← srf_RN M a c n, ← srf_R1 M (a.map (RN n)), List.map_map, List.map_map]
    rfl
theorem srf_Sh {M : Nat} {u v : Int} {a c : List Rc} (h : ∀ r ∈ a, InM M r) (h' : ∀ r ∈ a.map (Sh u v), InM M r) : srfV M (a.map (Sh u v)) (c.map (Sh u v)) = srfV M a c := by
  have e : ∀ l : List Rc, ∀ x y, cov (l.map (Sh u v)) x y = cov l (x - u) (y - v) := cov_map (p := fun x y => x - u) (q := fun x y => y - v) (inR_Sh u v)
  have o1 : ∀ x y, (x < -(M : Int) ∨ (M : Int) ≤ x ∨ y < -(M : Int) ∨ (M : Int) ≤ y) → ib (cov a x y && !cov c x y) = 0 := fun x y ho => by rw [cov_out h ho]; rfl
  have o2 : ∀ x y, (x < -(M : Int) - u ∨ (M : Int) - u ≤ x ∨ y < -(M : Int) - v ∨ (M : Int) - v ≤ y) → ib (cov a x y && !cov c x y) = 0 := fun x y ho => by
    have := cov_out (x := x + u) (y := y + v) h' (by omega)
    rw [e, show x + u - u = x by omega, show y + v - v = y by omega] at this
    rw [this]; rfl
  unfold srfV s2
  simp only [e]
  have in1 : ∀ x, sm (fun y => ib (cov a x (y - v) && !cov c x (y - v))) (-(M : Int)) (2 * M) = sm (fun y => ib (cov a x y && !cov c x y)) (-(M : Int)) (2 * M) := fun x => by
    rw [sm_shift (fun y => ib (cov a x y && !cov c x y))]
    exact sm_win (fun y hy => o2 x y (by omega)) (fun y hy => o1 x y (by omega))
  rw [sm_congr (g := fun x => sm (fun y => ib (cov a (x - u) y && !cov c (x - u) y)) (-(M : Int)) (2 * M)) fun x _ _ => in1 (x - u), sm_shift (fun x => sm (fun y => ib (cov a x y && !cov c x y)) (-(M : Int)) (2 * M))]
  exact sm_win (fun x hx => sm_zero fun y _ _ => o2 x y (by omega)) (fun x hx => sm_zero fun y _ _ => o1 x y (by omega))
theorem inM_R1 {M : Nat} {r : Rc} (h : InM M r) : InM M (R1 r) := by
  obtain ⟨h1, h2, h3, h4, h5, h6⟩ := h
  exact ⟨h2, h1, by simp only [R1]; omega, by simp only [R1]; omega, by simp only [R1]; omega, by simp only [R1]; omega⟩
theorem inM_RN {M : Nat} {r : Rc} (h : InM M r) : ∀ n, InM M (RN n r)
  | 0 => h
  | n + 1 => inM_R1 (inM_RN h n)
/-- the surface of a turned pattern -/
theorem qt_srf {F : Pat} {t : Nat} (h : ∀ r ∈ F.r, InM 1048576 r) (hc : ∀ r ∈ F.c, InM 1048576 r) (hf : ∀ r ∈ F.f, InM 1048576 r) (h' : ∀ r ∈ (qtF F t).r, InM 1048576 r) : srfV 1048576 (qtF F t).r (qtF F t).c = srfV 1048576 F.r F.c := by
  obtain ⟨e1, e2, _⟩ := qt_r (F := F) ⟨fun r hr => ⟨Int.le_of_lt (h r hr).w, Int.le_of_lt (h r hr).h⟩, fun r hr => ⟨Int.le_of_lt (hc r hr).w, Int.le_of_lt (hc r hr).h⟩, fun r hr => ⟨Int.le_of_lt (hf r hr).w, Int.le_of_lt (hf r hr).h⟩⟩ t
  have m : ∀ l : List Rc, l.map (fun r => Sh (qU F t) (qV F t) (RN t r)) = (l.map (RN t)).map (Sh (qU F t) (qV F t)) := fun l => by rw [List.map_map]; rfl
  rw [e1, m] at h' ⊢
  rw [e2, m, srf_Sh (fun r hr => by obtain ⟨q, hq, rfl⟩ := List.mem_map.1 hr; exact inM_RN (h q hq) t) h', srf_RN]
end RG
end Go.Proofs.Ytjnfodbniohkhaa
