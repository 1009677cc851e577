/-
  Nests: rectangles that touch along a line.
-/
import Derived.Test.YtddhaiaapomdjaaGreatNp1r
import Derived.BigRegion
set_option linter.unusedVariables false
set_option linter.unusedSimpArgs false
namespace Go.Proofs.YtddhaiaapomdjaaGreat
set_option linter.unusedVariables false
set_option linter.unusedSimpArgs false
open Go Go.ChangeShapes Go.WideShapes Go.ChangeAt Go.RowKit Go.Deep

namespace RG
set_option maxHeartbeats 1000000 in
theorem corners_any (r : Rc) (w : World) (hr : vrR r = true) :
    Calls Tryz.prog 140 #[rcv r] w fun e w' => e = .returned (rc r.x r.y (r.x + r.w) (r.y + r.h)) ∧ Gr w w' := by
  have h := vrR_iff.1 hr
  have m1 := h.w
  have m2 := h.h
  have m3 := h.x
  have m4 := h.y
  have m5 := h.x'
  have m6 := h.y'
  clear h hr
  go_enter Tryz.func140, Tryz.ntmps140
  go_wp2
  exact bodyPost_ret (v := rc r.x r.y (r.x + r.w) (r.y + r.h)) (by simp [results, Tryz.results140, go_sem]) rfl ⟨rfl, (by with_reducible repeat (first | exact Gr.refl _ | assumption | refine Gr.alloc ?_ _ | refine Gr.drewN ?_ _ | refine Gr.drew ?_ | refine Gr.setCell ?_ (by first | (dsimp only; omega) | (simp only [World.size_alloc]; omega) | (refine Gr.size ?_; (repeat (first | exact Gr.refl _ | assumption | refine Gr.alloc ?_ _ | refine Gr.drewN ?_ _ | refine Gr.drew ?_ | refine Gr.trans ?_ (by assumption))); done)) _ | refine Gr.trans ?_ (by assumption)))⟩
/-- two segments have more than a point in common -/
def coB (a b c d : Int) : Bool := decide (a ≤ c) && decide (b ≤ d) && (decide (a < c) || decide (b < d))
theorem coB_1 {a b c d : Int} (h : decide (a ≤ c) = false) : coB a b c d = false := by simp [coB, h]
theorem coB_2 {a b c d : Int} (h : decide (b ≤ d) = false) : coB a b c d = false := by simp [coB, h]
theorem coB_3 {a b c d : Int} (h : decide (a ≤ c) = true) (k : decide (b ≤ d) = true) (m : decide (a < c) = true) : coB a b c d = true := by simp [coB, h, k, m]
theorem coB_4 {a b c d : Int} (h : decide (a ≤ c) = true) (k : decide (b ≤ d) = true) (m : decide (a < c) = false) : coB a b c d = decide (b < d) := by simp [coB, h, k, m]
def bigI (a b : Int) : Int := if a < b then b else a
def lesI (a b : Int) : Int := if b < a then b else a
set_option maxHeartbeats 4000000 in
set_option maxRecDepth 100000 in
theorem commonPart_any (a1 a2 a3 a4 b1 b2 b3 b4 : Int) (w : World) :
    Calls Tryz.prog 139 #[rc a1 a2 a3 a4, rc b1 b2 b3 b4] w fun e w' => e = .returned (.tuple #[rc (bigI a1 b1) (bigI a2 b2) (lesI a3 b3) (lesI a4 b4), .bool (coB (bigI a1 b1) (bigI a2 b2) (lesI a3 b3) (lesI a4 b4))]) ∧ Gr w w' := by
  go_enter Tryz.func139, Tryz.ntmps139
  go_upto_region 2 with fail
  obtain ⟨m1, hm1⟩ : ∃ m, (if a1 < b1 then b1 else a1) = m := ⟨_, rfl⟩
  obtain ⟨m2, hm2⟩ : ∃ m, (if a2 < b2 then b2 else a2) = m := ⟨_, rfl⟩
  obtain ⟨m3, hm3⟩ : ∃ m, (if b3 < a3 then b3 else a3) = m := ⟨_, rfl⟩
  obtain ⟨m4, hm4⟩ : ∃ m, (if b4 < a4 then b4 else a4) = m := ⟨_, rfl⟩
  rw [hm1, hm2, hm3, hm4]
  have HM := hide (show bigI a1 b1 = m1 ∧ bigI a2 b2 = m2 ∧ lesI a3 b3 = m3 ∧ lesI a4 b4 = m4 from ⟨hm1, hm2, hm3, hm4⟩)
  clear hm1 hm2 hm3 hm4
  cases hA : decide (m1 ≤ m3) with
  | false =>
    have HE := hide (coB_1 (b := m2) (d := m4) hA)
    go_region
    go_wp2
    all_goals exact bodyPost_ret (v := .tuple #[rc m1 m2 m3 m4, .bool false]) (by simp [results, Tryz.results139, go_sem, *]) rfl ⟨by rw [HM.out.1, HM.out.2.1, HM.out.2.2.1, HM.out.2.2.2, HE.out], (by with_reducible repeat (first | exact Gr.refl _ | assumption | refine Gr.alloc ?_ _ | refine Gr.drewN ?_ _ | refine Gr.drew ?_ | refine Gr.setCell ?_ (by first | (dsimp only; omega) | (simp only [World.size_alloc]; omega) | (refine Gr.size ?_; (repeat (first | exact Gr.refl _ | assumption | refine Gr.alloc ?_ _ | refine Gr.drewN ?_ _ | refine Gr.drew ?_ | refine Gr.trans ?_ (by assumption))); done)) _ | refine Gr.trans ?_ (by assumption)))⟩
  | true =>
    cases hB : decide (m2 ≤ m4) with
    | false =>
      have HE := hide (coB_2 (a := m1) (c := m3) hB)
      go_region
      go_wp2
      all_goals exact bodyPost_ret (v := .tuple #[rc m1 m2 m3 m4, .bool false]) (by simp [results, Tryz.results139, go_sem, *]) rfl ⟨by rw [HM.out.1, HM.out.2.1, HM.out.2.2.1, HM.out.2.2.2, HE.out], (by with_reducible repeat (first | exact Gr.refl _ | assumption | refine Gr.alloc ?_ _ | refine Gr.drewN ?_ _ | refine Gr.drew ?_ | refine Gr.setCell ?_ (by first | (dsimp only; omega) | (simp only [World.size_alloc]; omega) | (refine Gr.size ?_; (repeat (first | exact Gr.refl _ | assumption | refine Gr.alloc ?_ _ | refine Gr.drewN ?_ _ | refine Gr.drew ?_ | refine Gr.trans ?_ (by assumption))); done)) _ | refine Gr.trans ?_ (by assumption)))⟩
    | true =>
      cases hC : decide (m1 < m3) with
      | true =>
        have HE := hide (coB_3 hA hB hC)
        go_region
        go_wp2
        all_goals exact bodyPost_ret (v := .tuple #[rc m1 m2 m3 m4, .bool true]) (by simp [results, Tryz.results139, go_sem, *]) rfl ⟨by rw [HM.out.1, HM.out.2.1, HM.out.2.2.1, HM.out.2.2.2, HE.out], (by with_reducible repeat (first | exact Gr.refl _ | assumption | refine Gr.alloc ?_ _ | refine Gr.drewN ?_ _ | refine Gr.drew ?_ | refine Gr.setCell ?_ (by first | (dsimp only; omega) | (simp only [World.size_alloc]; omega) | (refine Gr.size ?_; (repeat (first | exact Gr.refl _ | assumption | refine Gr.alloc ?_ _ | refine Gr.drewN ?_ _ | refine Gr.drew ?_ | refine Gr.trans ?_ (by assumption))); done)) _ | refine Gr.trans ?_ (by assumption)))⟩
      | false =>
        have HE := hide (coB_4 hA hB hC)
        go_region
        go_wp2
        all_goals exact bodyPost_ret (v := .tuple #[rc m1 m2 m3 m4, .bool (decide (m2 < m4))]) (by simp [results, Tryz.results139, go_sem, *]) rfl ⟨by rw [HM.out.1, HM.out.2.1, HM.out.2.2.1, HM.out.2.2.2, HE.out], (by with_reducible repeat (first | exact Gr.refl _ | assumption | refine Gr.alloc ?_ _ | refine Gr.drewN ?_ _ | refine Gr.drew ?_ | refine Gr.setCell ?_ (by first | (dsimp only; omega) | (simp only [World.size_alloc]; omega) | (refine Gr.size ?_; (repeat (first | exact Gr.refl _ | assumption | refine Gr.alloc ?_ _ | refine Gr.drewN ?_ _ | refine Gr.drew ?_ | refine Gr.trans ?_ (by assumption))); done)) _ | refine Gr.trans ?_ (by assumption)))⟩
theorem corners_at (x y u h : Int) (w : World) (hr : vrB x y u h = true) :
    Calls Tryz.prog 140 #[rc x y u h] w fun e w' => e = .returned (rc x y (x + u) (y + h)) ∧ Gr w w' := corners_any ⟨x, y, u, h⟩ w hr
/-- two rectangles that do not overlap touch along a line -/
def nbB (r s : Rc) : Bool := coB (bigI r.x s.x) (bigI r.y s.y) (lesI (r.x + r.w) (s.x + s.w)) (lesI (r.y + r.h) (s.y + s.h))
set_option maxHeartbeats 4000000 in
set_option maxRecDepth 100000 in
theorem neighbors_any (r s : Rc) (w : World) (hr : vrR r = true) (hs : vrR s = true) :
    Calls Tryz.prog 102 #[rcv r, rcv s] w fun e w' => e = .returned (.bool (nbB r s)) ∧ Gr w w' := by
  have h1 : vrB r.x r.y r.w r.h = true := hr
  have h2 : vrB s.x s.y s.w s.h = true := hs
  clear hr hs
  have HQ := hide (show coB (bigI r.x s.x) (bigI r.y s.y) (lesI (r.x + r.w) (s.x + s.w)) (lesI (r.y + r.h) (s.y + s.h)) = nbB r s from rfl)
  go_enter Tryz.func102, Tryz.ntmps102
  go_upto_region 1 with fail
  have m0 : w.heap.size + 1 < ((w.alloc (.cells #[iv r.x, iv r.y, iv r.w, iv r.h] 70)).alloc (.cells #[iv s.x, iv s.y, iv s.w, iv s.h] 70)).heap.size := by simp
  go_region_law (first | (go_simp; go_at_call 140; refine (corners_at _ _ _ _ _ (by assumption)).mono ?_; rintro e w1 ⟨rfl, g1⟩; (have m1 : w.heap.size + 1 < w1.heap.size := Nat.lt_of_lt_of_le m0 (Gr.size (by with_reducible repeat (first | exact Gr.refl _ | assumption | refine Gr.alloc ?_ _ | refine Gr.drewN ?_ _ | refine Gr.drew ?_ | refine Gr.setCell ?_ (by first | (dsimp only; omega) | (simp only [World.size_alloc]; omega) | (refine Gr.size ?_; (repeat (first | exact Gr.refl _ | assumption | refine Gr.alloc ?_ _ | refine Gr.drewN ?_ _ | refine Gr.drew ?_ | refine Gr.trans ?_ (by assumption))); done)) _ | refine Gr.trans ?_ (by assumption))))); (have m2 : w.heap.size < w1.heap.size := Nat.lt_of_succ_lt m1); obtain ⟨X1, Y1, c1, f1⟩ := g1.use) | (go_simp; go_at_call 139; refine (commonPart_any _ _ _ _ _ _ _ _ _).mono ?_; rintro e w1 ⟨rfl, g1⟩; (have m1 : w.heap.size + 1 < w1.heap.size := Nat.lt_of_lt_of_le m0 (Gr.size (by with_reducible repeat (first | exact Gr.refl _ | assumption | refine Gr.alloc ?_ _ | refine Gr.drewN ?_ _ | refine Gr.drew ?_ | refine Gr.setCell ?_ (by first | (dsimp only; omega) | (simp only [World.size_alloc]; omega) | (refine Gr.size ?_; (repeat (first | exact Gr.refl _ | assumption | refine Gr.alloc ?_ _ | refine Gr.drewN ?_ _ | refine Gr.drew ?_ | refine Gr.trans ?_ (by assumption))); done)) _ | refine Gr.trans ?_ (by assumption))))); (have m2 : w.heap.size < w1.heap.size := Nat.lt_of_succ_lt m1); obtain ⟨X1, Y1, c1, f1⟩ := g1.use))
  all_goals
    rw [HQ.out]
    go_wp2
    go_ret
    exact ⟨rfl, (by with_reducible repeat (first | exact Gr.refl _ | assumption | refine Gr.alloc ?_ _ | refine Gr.drewN ?_ _ | refine Gr.drew ?_ | refine Gr.setCell ?_ (by first | (dsimp only; omega) | (simp only [World.size_alloc]; omega) | (refine Gr.size ?_; (repeat (first | exact Gr.refl _ | assumption | refine Gr.alloc ?_ _ | refine Gr.drewN ?_ _ | refine Gr.drew ?_ | refine Gr.trans ?_ (by assumption))); done)) _ | refine Gr.trans ?_ (by assumption)))⟩
end RG
end Go.Proofs.YtddhaiaapomdjaaGreat
