/-
  The reference's axis of a vector, and which faces are sound.
-/
import Derived.Test.YtefjgfglommefaaClash1
import Derived.Test.YtefjgfglommefaaRCorn
namespace Go.Proofs.Ytefjgfglommefaa
set_option linter.unusedVariables false
set_option linter.unusedSimpArgs false
open Go Go.ChangeShapes Go.WideShapes Go.ChangeAt Go.RowKit Go.Deep

/-- behind k numbers of a vector, what the search for its axis has -/
def axS (x y z : Int) (k at_ : Int) : Prop :=
  (k = 0 ∧ at_ = -1) ∨ (k = 1 ∧ ((x = 0 ∧ at_ = -1) ∨ ((x = 1 ∨ x = -1) ∧ at_ = 0))) ∨
  (k = 2 ∧ ((x = 0 ∧ y = 0 ∧ at_ = -1) ∨ ((x = 1 ∨ x = -1) ∧ y = 0 ∧ at_ = 0) ∨ (x = 0 ∧ (y = 1 ∨ y = -1) ∧ at_ = 1))) ∨ (k = 3 ∧ at_ = axI x y z)
set_option maxRecDepth 100000 in
set_option maxHeartbeats 2000000 in
theorem raxis_any (x y z : Int) (w : World) :
    Calls Try.prog 82 #[vc x y z] w fun e w' => e = .returned (iv (axI x y z)) ∧ Gr w w' := by
  go_enter Try.func82, Try.ntmps82
  go_wp2
  go_loop [3, 4] (fun at_ i => ∃ a k : Int, 0 ≤ k ∧ k ≤ 3 ∧ -1 ≤ a ∧ a ≤ 2 ∧ i = iv k ∧ at_ = iv a ∧ Hid (axS x y z k a)) (fun _ i => 3 - (intOf i).toNat)
  case atStart => exact ⟨-1, 0, by omega, by omega, by omega, by omega, rfl, rfl, .inl ⟨rfl, rfl⟩⟩
  case round =>
    obtain ⟨a, k, hk0, hk, ha0, ha, rfl, rfl, HS⟩ := hrel
    rcases (by omega : k = 0 ∨ k = 1 ∨ k = 2 ∨ k = 3) with rfl | rfl | rfl | rfl
    · obtain rfl : a = -1 := by have := HS.out; unfold axS at this; omega
      clear HS
      go_wp2
      all_goals try (go_ret; exact ⟨ret_iv (by unfold axI; simp at *; grind), (by repeat (first | with_reducible exact Gr.refl _ | with_reducible assumption | with_reducible refine Gr.alloc ?_ _ | with_reducible refine Gr.drewN ?_ _ | with_reducible refine Gr.drew ?_ | with_reducible refine Gr.setCell ?_ (by first | (dsimp only; omega) | (simp only [World.size_alloc]; omega) | (with_reducible refine Gr.size ?_; (repeat (first | with_reducible exact Gr.refl _ | with_reducible assumption | with_reducible refine Gr.alloc ?_ _ | with_reducible refine Gr.drewN ?_ _ | with_reducible refine Gr.drew ?_ | with_reducible refine Gr.trans ?_ (by with_reducible assumption))); done)) _ | with_reducible refine Gr.trans ?_ (by with_reducible assumption)))⟩)
      all_goals
        go_round
        case rel => first | exact ⟨_, 1, by omega, by omega, by omega, by omega, rfl, rfl, by unfold Hid axS; simp at * <;> omega⟩ | (subst_vars; exact ⟨_, _, _, ⟨_, 1, by omega, by omega, by omega, by omega, rfl, rfl, by unfold Hid axS; simp at * <;> omega⟩, rfl, rfl, rfl⟩)
        case measure => simp [intOf]
    · go_wp2
      all_goals try (go_ret; exact ⟨ret_iv (by have := HS.out; unfold axS at this; unfold axI; simp at *; grind), (by repeat (first | with_reducible exact Gr.refl _ | with_reducible assumption | with_reducible refine Gr.alloc ?_ _ | with_reducible refine Gr.drewN ?_ _ | with_reducible refine Gr.drew ?_ | with_reducible refine Gr.setCell ?_ (by first | (dsimp only; omega) | (simp only [World.size_alloc]; omega) | (with_reducible refine Gr.size ?_; (repeat (first | with_reducible exact Gr.refl _ | with_reducible assumption | with_reducible refine Gr.alloc ?_ _ | with_reducible refine Gr.drewN ?_ _ | with_reducible refine Gr.drew ?_ | with_reducible refine Gr.trans ?_ (by with_reducible assumption))); done)) _ | with_reducible refine Gr.trans ?_ (by with_reducible assumption)))⟩)
      all_goals
        go_round
        case rel => first | exact ⟨_, 2, by omega, by omega, by omega, by omega, rfl, rfl, by have := HS.out; unfold Hid; unfold axS at this ⊢; simp at *; omega⟩ | (subst_vars; exact ⟨_, _, _, ⟨_, 2, by omega, by omega, by omega, by omega, rfl, rfl, by have := HS.out; unfold Hid; unfold axS at this ⊢; simp at *; omega⟩, rfl, rfl, rfl⟩)
        case measure => simp [intOf]
    · go_wp2
      all_goals try (go_ret; exact ⟨ret_iv (by have := HS.out; unfold axS at this; unfold axI; simp at *; grind), (by repeat (first | with_reducible exact Gr.refl _ | with_reducible assumption | with_reducible refine Gr.alloc ?_ _ | with_reducible refine Gr.drewN ?_ _ | with_reducible refine Gr.drew ?_ | with_reducible refine Gr.setCell ?_ (by first | (dsimp only; omega) | (simp only [World.size_alloc]; omega) | (with_reducible refine Gr.size ?_; (repeat (first | with_reducible exact Gr.refl _ | with_reducible assumption | with_reducible refine Gr.alloc ?_ _ | with_reducible refine Gr.drewN ?_ _ | with_reducible refine Gr.drew ?_ | with_reducible refine Gr.trans ?_ (by with_reducible assumption))); done)) _ | with_reducible refine Gr.trans ?_ (by with_reducible assumption)))⟩)
      all_goals
        go_round
        case rel => first | exact ⟨_, 3, by omega, by omega, by omega, by omega, rfl, rfl, by have := HS.out; unfold Hid; unfold axS at this ⊢; unfold axI; simp at *; grind⟩ | (subst_vars; exact ⟨_, _, _, ⟨_, 3, by omega, by omega, by omega, by omega, rfl, rfl, by have := HS.out; unfold Hid; unfold axS at this ⊢; unfold axI; simp at *; grind⟩, rfl, rfl, rfl⟩)
        case measure => simp [intOf]
    · have he : a = axI x y z := by have := HS.out; unfold axS at this; omega
      have HE := hide he
      clear he HS
      go_wp2
      go_ret
      exact ⟨ret_iv HE.out, (by repeat (first | with_reducible exact Gr.refl _ | with_reducible assumption | with_reducible refine Gr.alloc ?_ _ | with_reducible refine Gr.drewN ?_ _ | with_reducible refine Gr.drew ?_ | with_reducible refine Gr.setCell ?_ (by first | (dsimp only; omega) | (simp only [World.size_alloc]; omega) | (with_reducible refine Gr.size ?_; (repeat (first | with_reducible exact Gr.refl _ | with_reducible assumption | with_reducible refine Gr.alloc ?_ _ | with_reducible refine Gr.drewN ?_ _ | with_reducible refine Gr.drew ?_ | with_reducible refine Gr.trans ?_ (by with_reducible assumption))); done)) _ | with_reducible refine Gr.trans ?_ (by with_reducible assumption)))⟩
/-- the faces that Clash examines -/
def soB (f : Fc) : Bool := axB f.ux f.uy f.uz && axB f.vx f.vy f.vz && !decide (axI f.ux f.uy f.uz = axI f.vx f.vy f.vz) && wiB f.w 1 1048576 && wiB f.h 1 1048576 && orgB f.ox f.oy f.oz
theorem axB_of {x y z : Int} : axB x y z = decide (0 ≤ axI x y z) := rfl
set_option maxRecDepth 100000 in
set_option maxHeartbeats 2000000 in
theorem sound_any (f : Fc) (w : World) :
    Calls Try.prog 81 #[fv f] w fun e w' => e = .returned (.bool (soB f)) ∧ Gr w w' := by
  have HS : Hid (soB f = (decide (0 ≤ axI f.ux f.uy f.uz) && decide (0 ≤ axI f.vx f.vy f.vz) && !decide (axI f.ux f.uy f.uz = axI f.vx f.vy f.vz) && wiB f.w 1 1048576 && wiB f.h 1 1048576 && (wiB f.ox (-1048576) 1048576 && wiB f.oy (-1048576) 1048576 && wiB f.oz (-1048576) 1048576))) := rfl
  go_enter Try.func81, Try.ntmps81
  go_upto_region 1 with fail
  have GC := @GrW.cell
  refine wp_region_grw _ (by kernel_rfl) (by kernel_rfl) (Gr.refl _) ?_
  repeat (go_big_quiet_step ((first | (go_at_call 76; exact quiet_grw (three_any _ _ _ _)) | (go_at_call 82; exact quiet_grw (raxis_any _ _ _ _)))))
  refine wpQuiet_nil ?_
  intro wq hwq
  obtain ⟨gq, hwq'⟩ := hwq
  subst hwq'
  clear GC
  have gq1 := gq.gr
  generalize gq.w = wq at gq1 ⊢
  obtain ⟨Xq, Yq, cq, fq⟩ := gq1.use
  have sq := gq1.size
  (try simp only [World.size_alloc, World.size_setCell, World.heap_drewN] at sq)
  generalize axI f.ux f.uy f.uz = a at *
  generalize axI f.vx f.vy f.vz = b at *
  have l0 : w.heap.size < wq.heap.size := by omega
  go_wp2_with fail
  refine (three_any _ _ _ _).mono ?_
  rintro e w1 ⟨rfl, g1⟩
  have z1 := g1.size
  have l1 : w.heap.size < w1.heap.size := by omega
  have g2 : Gr (w.alloc (.cells #[iv f.ox, iv f.oy, iv f.oz, iv f.ux, iv f.uy, iv f.uz, iv f.vx, iv f.vy, iv f.vz, iv f.w, iv f.h] 44)) w1 := (by repeat (first | with_reducible exact Gr.refl _ | with_reducible assumption | with_reducible refine Gr.alloc ?_ _ | with_reducible refine Gr.drewN ?_ _ | with_reducible refine Gr.drew ?_ | with_reducible refine Gr.setCell ?_ (by first | (dsimp only; omega) | (simp only [World.size_alloc]; omega) | (with_reducible refine Gr.size ?_; (repeat (first | with_reducible exact Gr.refl _ | with_reducible assumption | with_reducible refine Gr.alloc ?_ _ | with_reducible refine Gr.drewN ?_ _ | with_reducible refine Gr.drew ?_ | with_reducible refine Gr.trans ?_ (by with_reducible assumption))); done)) _ | with_reducible refine Gr.trans ?_ (by with_reducible assumption)))
  clear cq fq gq z1 l0 sq
  obtain ⟨X1, Y1, c1, f1⟩ := g2.use
  go_wp2_with (go_at_call 18; refine (rwithin_any _ _ _ _).mono ?_; rintro e w1 ⟨rfl, rfl⟩)
  all_goals
    go_ret
    refine ⟨ret_bool ?_, (by repeat (first | with_reducible exact Gr.refl _ | with_reducible assumption | with_reducible refine Gr.alloc ?_ _ | with_reducible refine Gr.drewN ?_ _ | with_reducible refine Gr.drew ?_ | with_reducible refine Gr.setCell ?_ (by first | (dsimp only; omega) | (simp only [World.size_alloc]; omega) | (with_reducible refine Gr.size ?_; (repeat (first | with_reducible exact Gr.refl _ | with_reducible assumption | with_reducible refine Gr.alloc ?_ _ | with_reducible refine Gr.drewN ?_ _ | with_reducible refine Gr.drew ?_ | with_reducible refine Gr.trans ?_ (by with_reducible assumption))); done)) _ | with_reducible refine Gr.trans ?_ (by with_reducible assumption)))⟩
    rw [HS.out]
    clear c1 f1 HS
    first | (simp_all; done) | (simp_all; intros; omega)
end Go.Proofs.Ytefjgfglommefaa
