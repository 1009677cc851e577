/-
  The reference's box of a face along an axis.
-/
import Derived.Test.YtefjgfglommefaaClash2
namespace Go.Proofs.Ytefjgfglommefaa
set_option linter.unusedVariables false
set_option linter.unusedSimpArgs false
open Go Go.ChangeShapes Go.WideShapes Go.ChangeAt Go.RowKit Go.Deep

def sel (i x y z : Int) : Int := if i = 0 then x else if i = 1 then y else z
theorem indT0 (x y z : Int) (w : World) : (Instr.index 90 (.agg #[iv x, iv y, iv z]) (.int .i64 0)).run Try.prog w = .ok (iv x) w := by kernel_rfl
theorem indT1 (x y z : Int) (w : World) : (Instr.index 90 (.agg #[iv x, iv y, iv z]) (.int .i64 1)).run Try.prog w = .ok (iv y) w := by kernel_rfl
theorem indT2 (x y z : Int) (w : World) : (Instr.index 90 (.agg #[iv x, iv y, iv z]) (.int .i64 2)).run Try.prog w = .ok (iv z) w := by kernel_rfl
theorem indT (i : Int) (h0 : 0 ≤ i) (h1 : i < 3) (x y z : Int) (w : World) : (Instr.index 90 (.agg #[iv x, iv y, iv z]) (.int .i64 i)).run Try.prog w = .ok (iv (sel i x y z)) w := by
  rcases (by omega : i = 0 ∨ i = 1 ∨ i = 2) with rfl | rfl | rfl
  · exact indT0 x y z w
  · exact indT1 x y z w
  · exact indT2 x y z w
def mn (a n : Int) : Int := if n < a then n else a
def mx (a n : Int) : Int := if a < n then n else a
/-- the corners' numbers along an axis -/
def cn (f : Fc) (i k : Int) : Int := if k = 0 then sel i f.ox f.oy f.oz else if k = 1 then sel i (po f.ox f.w f.ux 0 f.vx) (po f.oy f.w f.uy 0 f.vy) (po f.oz f.w f.uz 0 f.vz) else if k = 2 then sel i (po f.ox f.w f.ux f.h f.vx) (po f.oy f.w f.uy f.h f.vy) (po f.oz f.w f.uz f.h f.vz) else sel i (po f.ox 0 f.ux f.h f.vx) (po f.oy 0 f.uy f.h f.vy) (po f.oz 0 f.uz f.h f.vz)
def boL (f : Fc) (i : Int) : Int := mn (mn (mn (cn f i 0) (cn f i 1)) (cn f i 2)) (cn f i 3)
def boH (f : Fc) (i : Int) : Int := mx (mx (mx (cn f i 0) (cn f i 1)) (cn f i 2)) (cn f i 3)
def boI (f : Fc) (i k a b : Int) : Prop :=
  (k = 1 ∧ a = cn f i 0 ∧ b = cn f i 0) ∨ (k = 2 ∧ a = mn (cn f i 0) (cn f i 1) ∧ b = mx (cn f i 0) (cn f i 1)) ∨
  (k = 3 ∧ a = mn (mn (cn f i 0) (cn f i 1)) (cn f i 2) ∧ b = mx (mx (cn f i 0) (cn f i 1)) (cn f i 2)) ∨
  (k = 4 ∧ a = mn (mn (mn (cn f i 0) (cn f i 1)) (cn f i 2)) (cn f i 3) ∧ b = mx (mx (mx (cn f i 0) (cn f i 1)) (cn f i 2)) (cn f i 3))
set_option maxRecDepth 100000 in
set_option maxHeartbeats 4000000 in
theorem rbox_any (f : Fc) (i : Int) (w : World) (h0 : 0 ≤ i) (h1 : i < 3) :
    Calls Try.prog 84 #[fv f, iv i] w fun e w' => e = .returned (.tuple #[iv (boL f i), iv (boH f i)]) ∧ Gr w w' := by
  have NI := fun x y z w => indT i h0 h1 x y z w
  have CC := fun w => rcorn_any f w
  unfold cornV at CC
  have HC := hide CC
  clear CC
  go_enter Try.func84, Try.ntmps84
  go_upto_region 2 with (go_at_call 99; refine (HC.out _).mono ?_; rintro e w1 ⟨rfl, g1⟩; obtain ⟨X1, Y1, c1, f1⟩ := g1.use)
  have g0 : Gr w w1 := (by repeat (first | with_reducible exact Gr.refl _ | with_reducible assumption | with_reducible refine Gr.alloc ?_ _ | with_reducible refine Gr.drewN ?_ _ | with_reducible refine Gr.drew ?_ | with_reducible refine Gr.setCell ?_ (by first | (dsimp only; omega) | (simp only [World.size_alloc]; omega) | (with_reducible refine Gr.size ?_; (repeat (first | with_reducible exact Gr.refl _ | with_reducible assumption | with_reducible refine Gr.alloc ?_ _ | with_reducible refine Gr.drewN ?_ _ | with_reducible refine Gr.drew ?_ | with_reducible refine Gr.trans ?_ (by with_reducible assumption))); done)) _ | with_reducible refine Gr.trans ?_ (by with_reducible assumption)))
  obtain ⟨wA, rfl⟩ : ∃ wA, wA = w1 := ⟨_, rfl⟩
  have GC := @GrW.cell
  refine wp_region_grw _ (by kernel_rfl) (by kernel_rfl) (Gr.refl _) ?_
  repeat (go_big_quiet_step ((first | (go_at_call 76; exact quiet_grw (three_any _ _ _ _)))))
  refine wpQuiet_nil ?_
  intro wq hwq
  obtain ⟨gq, hwq'⟩ := hwq
  subst hwq'
  clear GC
  have gq1 := gq.gr
  generalize gq.w = wq at gq1 ⊢
  obtain ⟨Xq, Yq, cq, fq⟩ := gq1.use
  have sq := gq1.size
  (try simp only [World.size_alloc, World.size_setCell, World.heap_drewN] at sq)
  have d0 : wq.cell? ⟨wA.heap.size, 0, none⟩ = some (iv f.ox) := by rw [cq]; simp [go_sem]
  have d1 : wq.cell? ⟨wA.heap.size, 1, none⟩ = some (iv f.oy) := by rw [cq]; simp [go_sem]
  have d2 : wq.cell? ⟨wA.heap.size, 2, none⟩ = some (iv f.oz) := by rw [cq]; simp [go_sem]
  have d3 : wq.cell? ⟨wA.heap.size, 3, none⟩ = some (iv (po f.ox f.w f.ux 0 f.vx)) := by rw [cq]; simp [go_sem]
  have d4 : wq.cell? ⟨wA.heap.size, 4, none⟩ = some (iv (po f.oy f.w f.uy 0 f.vy)) := by rw [cq]; simp [go_sem]
  have d5 : wq.cell? ⟨wA.heap.size, 5, none⟩ = some (iv (po f.oz f.w f.uz 0 f.vz)) := by rw [cq]; simp [go_sem]
  have d6 : wq.cell? ⟨wA.heap.size, 6, none⟩ = some (iv (po f.ox f.w f.ux f.h f.vx)) := by rw [cq]; simp [go_sem]
  have d7 : wq.cell? ⟨wA.heap.size, 7, none⟩ = some (iv (po f.oy f.w f.uy f.h f.vy)) := by rw [cq]; simp [go_sem]
  have d8 : wq.cell? ⟨wA.heap.size, 8, none⟩ = some (iv (po f.oz f.w f.uz f.h f.vz)) := by rw [cq]; simp [go_sem]
  have d9 : wq.cell? ⟨wA.heap.size, 9, none⟩ = some (iv (po f.ox 0 f.ux f.h f.vx)) := by rw [cq]; simp [go_sem]
  have d10 : wq.cell? ⟨wA.heap.size, 10, none⟩ = some (iv (po f.oy 0 f.uy f.h f.vy)) := by rw [cq]; simp [go_sem]
  have d11 : wq.cell? ⟨wA.heap.size, 11, none⟩ = some (iv (po f.oz 0 f.uz f.h f.vz)) := by rw [cq]; simp [go_sem]
  have gq : Gr w wq := g0.trans ((Gr.alloc (Gr.refl _) _).trans gq1)
  clear cq fq
  go_wp2
  go_loopw [7, 8, 9] (fun lo hi j wr => ∃ k a b : Int, 1 ≤ k ∧ k ≤ 4 ∧ j = iv k ∧ lo = iv a ∧ hi = iv b ∧ Gr wq wr ∧ Hid (boI f i k a b)) (fun _ _ j _ => 4 - (intOf j).toNat)
  case atStart => exact ⟨1, _, _, by omega, by omega, rfl, rfl, rfl, (by repeat (first | with_reducible exact Gr.refl _ | with_reducible assumption | with_reducible refine Gr.alloc ?_ _ | with_reducible refine Gr.drewN ?_ _ | with_reducible refine Gr.drew ?_ | with_reducible refine Gr.setCell ?_ (by first | (dsimp only; omega) | (simp only [World.size_alloc]; omega) | (with_reducible refine Gr.size ?_; (repeat (first | with_reducible exact Gr.refl _ | with_reducible assumption | with_reducible refine Gr.alloc ?_ _ | with_reducible refine Gr.drewN ?_ _ | with_reducible refine Gr.drew ?_ | with_reducible refine Gr.trans ?_ (by with_reducible assumption))); done)) _ | with_reducible refine Gr.trans ?_ (by with_reducible assumption))), .inl ⟨rfl, rfl, rfl⟩⟩
  case round =>
    obtain ⟨k, a, b, hk0, hk, rfl, rfl, rfl, g, HS⟩ := hrel
    obtain ⟨Xr, Yr, cr, fr⟩ := g.use
    have hA : wA.heap.size < wq.heap.size := cell_lt (by rw [d0]; rfl)
    have hr : wA.heap.size < wr.heap.size := Nat.lt_of_lt_of_le hA g.size
    rcases (by omega : k = 1 ∨ k = 2 ∨ k = 3 ∨ k = 4) with rfl | rfl | rfl | rfl
    · go_wp2_with (go_at_call 76; refine (three_any _ _ _ _).mono ?_; rintro e w1 ⟨rfl, g1⟩; obtain ⟨X1, Y1, c1, f1⟩ := g1.use)
      all_goals
        go_roundw
        case rel => exact ⟨2, _, _, by omega, by omega, rfl, rfl, rfl, (by repeat (first | with_reducible exact Gr.refl _ | with_reducible assumption | with_reducible refine Gr.alloc ?_ _ | with_reducible refine Gr.drewN ?_ _ | with_reducible refine Gr.drew ?_ | with_reducible refine Gr.setCell ?_ (by first | (dsimp only; omega) | (simp only [World.size_alloc]; omega) | (with_reducible refine Gr.size ?_; (repeat (first | with_reducible exact Gr.refl _ | with_reducible assumption | with_reducible refine Gr.alloc ?_ _ | with_reducible refine Gr.drewN ?_ _ | with_reducible refine Gr.drew ?_ | with_reducible refine Gr.trans ?_ (by with_reducible assumption))); done)) _ | with_reducible refine Gr.trans ?_ (by with_reducible assumption))), by unfold Hid boI; have := HS.out; unfold boI at this; simp [cn, mn, mx] at this ⊢; grind⟩
        case measure => simp [intOf]
    · go_wp2_with (go_at_call 76; refine (three_any _ _ _ _).mono ?_; rintro e w1 ⟨rfl, g1⟩; obtain ⟨X1, Y1, c1, f1⟩ := g1.use)
      all_goals
        go_roundw
        case rel => exact ⟨3, _, _, by omega, by omega, rfl, rfl, rfl, (by repeat (first | with_reducible exact Gr.refl _ | with_reducible assumption | with_reducible refine Gr.alloc ?_ _ | with_reducible refine Gr.drewN ?_ _ | with_reducible refine Gr.drew ?_ | with_reducible refine Gr.setCell ?_ (by first | (dsimp only; omega) | (simp only [World.size_alloc]; omega) | (with_reducible refine Gr.size ?_; (repeat (first | with_reducible exact Gr.refl _ | with_reducible assumption | with_reducible refine Gr.alloc ?_ _ | with_reducible refine Gr.drewN ?_ _ | with_reducible refine Gr.drew ?_ | with_reducible refine Gr.trans ?_ (by with_reducible assumption))); done)) _ | with_reducible refine Gr.trans ?_ (by with_reducible assumption))), by unfold Hid boI; have := HS.out; unfold boI at this; simp [cn, mn, mx] at this ⊢; grind⟩
        case measure => simp [intOf]
    · go_wp2_with (go_at_call 76; refine (three_any _ _ _ _).mono ?_; rintro e w1 ⟨rfl, g1⟩; obtain ⟨X1, Y1, c1, f1⟩ := g1.use)
      all_goals
        go_roundw
        case rel => exact ⟨4, _, _, by omega, by omega, rfl, rfl, rfl, (by repeat (first | with_reducible exact Gr.refl _ | with_reducible assumption | with_reducible refine Gr.alloc ?_ _ | with_reducible refine Gr.drewN ?_ _ | with_reducible refine Gr.drew ?_ | with_reducible refine Gr.setCell ?_ (by first | (dsimp only; omega) | (simp only [World.size_alloc]; omega) | (with_reducible refine Gr.size ?_; (repeat (first | with_reducible exact Gr.refl _ | with_reducible assumption | with_reducible refine Gr.alloc ?_ _ | with_reducible refine Gr.drewN ?_ _ | with_reducible refine Gr.drew ?_ | with_reducible refine Gr.trans ?_ (by with_reducible assumption))); done)) _ | with_reducible refine Gr.trans ?_ (by with_reducible assumption))), by unfold Hid boI; have := HS.out; unfold boI at this; simp [cn, mn, mx] at this ⊢; grind⟩
        case measure => simp [intOf]
    · have he : a = boL f i ∧ b = boH f i := by have := HS.out; unfold boI at this; unfold boL boH; omega
      have HE := hide he
      clear he
      go_wp2
      go_ret2
      exact ⟨by obtain ⟨e1, e2⟩ := HE.out; subst e1; subst e2; rfl, gq.trans g⟩
end Go.Proofs.Ytefjgfglommefaa
