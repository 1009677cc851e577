/-
  The code's Clash of two sound faces.
-/
import Derived.Test.YtefjgfglommefaaClash6
namespace Go.Proofs.Ytefjgfglommefaa
set_option linter.unusedVariables false
set_option linter.unusedSimpArgs false
open Go Go.ChangeShapes Go.WideShapes Go.ChangeAt Go.RowKit Go.Deep

/-- the box of f lies at block B -/
def CX (w : World) (B : Nat) (f : Fc) : Prop :=
  (w.cell? ⟨B, 0, none⟩ = some (iv (lo0 f)) ∧ w.cell? ⟨B, 1, none⟩ = some (iv (lo1 f)) ∧ w.cell? ⟨B, 2, none⟩ = some (iv (lo2 f))) ∧
  w.cell? ⟨B, 3, none⟩ = some (iv (hi0 f)) ∧ w.cell? ⟨B, 4, none⟩ = some (iv (hi1 f)) ∧ w.cell? ⟨B, 5, none⟩ = some (iv (hi2 f))
theorem CX.gr {w w' : World} {B : Nat} {f : Fc} (h : CX w B f) (g : Gr w w') : CX w' B f := by
  obtain ⟨⟨h0, h1, h2⟩, h3, h4, h5⟩ := h
  have hb : B < w.heap.size := cell_lt (by rw [h0]; rfl)
  exact ⟨⟨(g.cell _ _ hb).trans h0, (g.cell _ _ hb).trans h1, (g.cell _ _ hb).trans h2⟩, (g.cell _ _ hb).trans h3, (g.cell _ _ hb).trans h4, (g.cell _ _ hb).trans h5⟩
set_option maxRecDepth 100000 in
set_option maxHeartbeats 8000000 in
theorem clash_yes (a b : Fc) (w : World) (ha : soB a = true) (hb : soB b = true) (hn : (nrm a == nrm b) = false) :
    Calls Try.prog 37 #[fv a, fv b] w fun e w' => e = .returned (.bool (gapB (lo0 a) (hi0 a) (lo0 b) (hi0 b) && gapB (lo1 a) (hi1 a) (lo1 b) (hi1 b) && gapB (lo2 a) (hi2 a) (lo2 b) (hi2 b))) ∧ Gr w w' := by
  have HA := hide (fun w => box_yes a w ha)
  have HB := hide (fun w => box_yes b w hb)
  go_enter Try.func37, Try.ntmps37
  go_wp2_with fail
  refine (HA.out _).mono ?_
  rintro e w1 ⟨rfl, g1⟩
  obtain ⟨X1, Y1, c1, f1⟩ := g1.use
  have z1 := g1.size
  simp only [World.size_alloc] at z1
  have l1 : w.heap.size + 1 < w1.heap.size := by omega
  have gA : Gr w w1 := (by repeat (first | with_reducible exact Gr.refl _ | with_reducible assumption | with_reducible refine Gr.alloc ?_ _ | with_reducible refine Gr.drewN ?_ _ | with_reducible refine Gr.drew ?_ | with_reducible refine Gr.setCell ?_ (by first | (dsimp only; omega) | (simp only [World.size_alloc]; omega) | (with_reducible refine Gr.size ?_; (repeat (first | with_reducible exact Gr.refl _ | with_reducible assumption | with_reducible refine Gr.alloc ?_ _ | with_reducible refine Gr.drewN ?_ _ | with_reducible refine Gr.drew ?_ | with_reducible refine Gr.trans ?_ (by with_reducible assumption))); done)) _ | with_reducible refine Gr.trans ?_ (by with_reducible assumption)))
  obtain ⟨wA, rfl⟩ : ∃ wA, wA = w1 := ⟨_, rfl⟩
  go_wp2_with fail
  refine (HB.out _).mono ?_
  rintro e w1 ⟨rfl, g2⟩
  obtain ⟨X2, Y2, c2, f2⟩ := g2.use
  have z2 := g2.size
  simp only [World.size_alloc, World.size_setCell] at z2
  have l2 : wA.heap.size < w1.heap.size := by omega
  have gB : Gr w w1 := (by repeat (first | with_reducible exact Gr.refl _ | with_reducible assumption | with_reducible refine Gr.alloc ?_ _ | with_reducible refine Gr.drewN ?_ _ | with_reducible refine Gr.drew ?_ | with_reducible refine Gr.setCell ?_ (by first | (dsimp only; omega) | (simp only [World.size_alloc]; omega) | (with_reducible refine Gr.size ?_; (repeat (first | with_reducible exact Gr.refl _ | with_reducible assumption | with_reducible refine Gr.alloc ?_ _ | with_reducible refine Gr.drewN ?_ _ | with_reducible refine Gr.drew ?_ | with_reducible refine Gr.trans ?_ (by with_reducible assumption))); done)) _ | with_reducible refine Gr.trans ?_ (by with_reducible assumption)))
  obtain ⟨wB, rfl⟩ : ∃ wB, wB = w1 := ⟨_, rfl⟩
  go_wp2
  go_loopw [33] (fun i wr => ∃ k : Int, 0 ≤ k ∧ k ≤ 3 ∧ i = iv k ∧ Gr w wr ∧ Hid (CX wr wA.heap.size a) ∧ Hid (CX wr wB.heap.size b) ∧
    Hid (1 ≤ k → gapB (lo0 a) (hi0 a) (lo0 b) (hi0 b) = true) ∧ Hid (2 ≤ k → gapB (lo1 a) (hi1 a) (lo1 b) (hi1 b) = true) ∧ Hid (3 ≤ k → gapB (lo2 a) (hi2 a) (lo2 b) (hi2 b) = true)) (fun i _ => 3 - (intOf i).toNat)
  case atStart =>
    refine ⟨0, by omega, by omega, rfl, (by repeat (first | with_reducible exact Gr.refl _ | with_reducible assumption | with_reducible refine Gr.alloc ?_ _ | with_reducible refine Gr.drewN ?_ _ | with_reducible refine Gr.drew ?_ | with_reducible refine Gr.setCell ?_ (by first | (dsimp only; omega) | (simp only [World.size_alloc]; omega) | (with_reducible refine Gr.size ?_; (repeat (first | with_reducible exact Gr.refl _ | with_reducible assumption | with_reducible refine Gr.alloc ?_ _ | with_reducible refine Gr.drewN ?_ _ | with_reducible refine Gr.drew ?_ | with_reducible refine Gr.trans ?_ (by with_reducible assumption))); done)) _ | with_reducible refine Gr.trans ?_ (by with_reducible assumption))), ?_, ?_, by unfold Hid; omega, by unfold Hid; omega, by unfold Hid; omega⟩
    · refine ⟨⟨?_, ?_, ?_⟩, ?_, ?_, ?_⟩ <;> simp [go_sem, *]
    · refine ⟨⟨?_, ?_, ?_⟩, ?_, ?_, ?_⟩ <;> simp [go_sem, *]
  case round =>
    obtain ⟨k, hk0, hk, rfl, g, HCA, HCB, K0, K1, K2⟩ := hrel
    obtain ⟨⟨x0, x1, x2⟩, x3, x4, x5⟩ := HCA.out
    obtain ⟨⟨y0, y1, y2⟩, y3, y4, y5⟩ := HCB.out
    clear c1 f1 c2 f2
    rcases (by omega : k = 0 ∨ k = 1 ∨ k = 2 ∨ k = 3) with rfl | rfl | rfl | rfl
    · by_cases p : lo0 a < hi0 b
      · have p' : (decide (hi0 b ≤ lo0 a)) = false := by simp; omega
        have p'' : ¬ hi0 b ≤ lo0 a := by omega
        by_cases q : lo0 b < hi0 a
        · have q'' : ¬ hi0 a ≤ lo0 b := by omega
          have HG := hide (show gapB (lo0 a) (hi0 a) (lo0 b) (hi0 b) = true by simp [gapB, p, q])
          clear p q p'
          go_upto_region 8 with fail
          have GC := @GrW.cell
          refine wp_region_grw _ (by kernel_rfl) (by kernel_rfl) (Gr.refl _) ?_
          repeat (go_big_quiet_step ((first | fail)))
          refine wpQuiet_nil ?_
          intro wq hwq
          obtain ⟨gq, hwq'⟩ := hwq
          subst hwq'
          clear GC
          have gq1 := gq.gr
          generalize gq.w = wq at gq1 ⊢
          obtain ⟨Xq, Yq, cq, fq⟩ := gq1.use
          have sq := gq1.size
          (try simp only [World.size_alloc, World.size_setCell, World.heap_drewN] at sq)
          go_wp2
          go_roundw
          case rel => exact ⟨1, by omega, by omega, rfl, (by repeat (first | with_reducible exact Gr.refl _ | with_reducible assumption | with_reducible refine Gr.alloc ?_ _ | with_reducible refine Gr.drewN ?_ _ | with_reducible refine Gr.drew ?_ | with_reducible refine Gr.setCell ?_ (by first | (dsimp only; omega) | (simp only [World.size_alloc]; omega) | (with_reducible refine Gr.size ?_; (repeat (first | with_reducible exact Gr.refl _ | with_reducible assumption | with_reducible refine Gr.alloc ?_ _ | with_reducible refine Gr.drewN ?_ _ | with_reducible refine Gr.drew ?_ | with_reducible refine Gr.trans ?_ (by with_reducible assumption))); done)) _ | with_reducible refine Gr.trans ?_ (by with_reducible assumption))), HCA.out.gr gq1, HCB.out.gr gq1, fun _ => HG.out, by unfold Hid; omega, by unfold Hid; omega⟩
          case measure => simp [intOf]
        · have q'' : hi0 a ≤ lo0 b := by omega
          have HG := hide (show gapB (lo0 a) (hi0 a) (lo0 b) (hi0 b) = false by simp [gapB]; omega)
          clear p q p'
          go_upto_region 8 with fail
          have GC := @GrW.cell
          refine wp_region_grw _ (by kernel_rfl) (by kernel_rfl) (Gr.refl _) ?_
          repeat (go_big_quiet_step ((first | fail)))
          refine wpQuiet_nil ?_
          intro wq hwq
          obtain ⟨gq, hwq'⟩ := hwq
          subst hwq'
          clear GC
          have gq1 := gq.gr
          generalize gq.w = wq at gq1 ⊢
          obtain ⟨Xq, Yq, cq, fq⟩ := gq1.use
          have sq := gq1.size
          (try simp only [World.size_alloc, World.size_setCell, World.heap_drewN] at sq)
          go_wp2
          go_ret
          exact ⟨ret_bool (by rw [HG.out]; simp), (by repeat (first | with_reducible exact Gr.refl _ | with_reducible assumption | with_reducible refine Gr.alloc ?_ _ | with_reducible refine Gr.drewN ?_ _ | with_reducible refine Gr.drew ?_ | with_reducible refine Gr.setCell ?_ (by first | (dsimp only; omega) | (simp only [World.size_alloc]; omega) | (with_reducible refine Gr.size ?_; (repeat (first | with_reducible exact Gr.refl _ | with_reducible assumption | with_reducible refine Gr.alloc ?_ _ | with_reducible refine Gr.drewN ?_ _ | with_reducible refine Gr.drew ?_ | with_reducible refine Gr.trans ?_ (by with_reducible assumption))); done)) _ | with_reducible refine Gr.trans ?_ (by with_reducible assumption)))⟩
      · have p'' : hi0 b ≤ lo0 a := by omega
        have HG := hide (show gapB (lo0 a) (hi0 a) (lo0 b) (hi0 b) = false by simp [gapB]; omega)
        clear p
        go_upto_region 8 with fail
        have GC := @GrW.cell
        refine wp_region_grw _ (by kernel_rfl) (by kernel_rfl) (Gr.refl _) ?_
        repeat (go_big_quiet_step ((first | fail)))
        refine wpQuiet_nil ?_
        intro wq hwq
        obtain ⟨gq, hwq'⟩ := hwq
        subst hwq'
        clear GC
        have gq1 := gq.gr
        generalize gq.w = wq at gq1 ⊢
        obtain ⟨Xq, Yq, cq, fq⟩ := gq1.use
        have sq := gq1.size
        (try simp only [World.size_alloc, World.size_setCell, World.heap_drewN] at sq)
        go_wp2
        go_ret
        exact ⟨ret_bool (by rw [HG.out]; simp), (by repeat (first | with_reducible exact Gr.refl _ | with_reducible assumption | with_reducible refine Gr.alloc ?_ _ | with_reducible refine Gr.drewN ?_ _ | with_reducible refine Gr.drew ?_ | with_reducible refine Gr.setCell ?_ (by first | (dsimp only; omega) | (simp only [World.size_alloc]; omega) | (with_reducible refine Gr.size ?_; (repeat (first | with_reducible exact Gr.refl _ | with_reducible assumption | with_reducible refine Gr.alloc ?_ _ | with_reducible refine Gr.drewN ?_ _ | with_reducible refine Gr.drew ?_ | with_reducible refine Gr.trans ?_ (by with_reducible assumption))); done)) _ | with_reducible refine Gr.trans ?_ (by with_reducible assumption)))⟩
    · by_cases p : lo1 a < hi1 b
      · have p' : (decide (hi1 b ≤ lo1 a)) = false := by simp; omega
        have p'' : ¬ hi1 b ≤ lo1 a := by omega
        by_cases q : lo1 b < hi1 a
        · have q'' : ¬ hi1 a ≤ lo1 b := by omega
          have HG := hide (show gapB (lo1 a) (hi1 a) (lo1 b) (hi1 b) = true by simp [gapB, p, q])
          clear p q p'
          go_upto_region 8 with fail
          have GC := @GrW.cell
          refine wp_region_grw _ (by kernel_rfl) (by kernel_rfl) (Gr.refl _) ?_
          repeat (go_big_quiet_step ((first | fail)))
          refine wpQuiet_nil ?_
          intro wq hwq
          obtain ⟨gq, hwq'⟩ := hwq
          subst hwq'
          clear GC
          have gq1 := gq.gr
          generalize gq.w = wq at gq1 ⊢
          obtain ⟨Xq, Yq, cq, fq⟩ := gq1.use
          have sq := gq1.size
          (try simp only [World.size_alloc, World.size_setCell, World.heap_drewN] at sq)
          go_wp2
          go_roundw
          case rel => exact ⟨2, by omega, by omega, rfl, (by repeat (first | with_reducible exact Gr.refl _ | with_reducible assumption | with_reducible refine Gr.alloc ?_ _ | with_reducible refine Gr.drewN ?_ _ | with_reducible refine Gr.drew ?_ | with_reducible refine Gr.setCell ?_ (by first | (dsimp only; omega) | (simp only [World.size_alloc]; omega) | (with_reducible refine Gr.size ?_; (repeat (first | with_reducible exact Gr.refl _ | with_reducible assumption | with_reducible refine Gr.alloc ?_ _ | with_reducible refine Gr.drewN ?_ _ | with_reducible refine Gr.drew ?_ | with_reducible refine Gr.trans ?_ (by with_reducible assumption))); done)) _ | with_reducible refine Gr.trans ?_ (by with_reducible assumption))), HCA.out.gr gq1, HCB.out.gr gq1, fun _ => K0.out (by omega), fun _ => HG.out, by unfold Hid; omega⟩
          case measure => simp [intOf]
        · have q'' : hi1 a ≤ lo1 b := by omega
          have HG := hide (show gapB (lo1 a) (hi1 a) (lo1 b) (hi1 b) = false by simp [gapB]; omega)
          clear p q p'
          go_upto_region 8 with fail
          have GC := @GrW.cell
          refine wp_region_grw _ (by kernel_rfl) (by kernel_rfl) (Gr.refl _) ?_
          repeat (go_big_quiet_step ((first | fail)))
          refine wpQuiet_nil ?_
          intro wq hwq
          obtain ⟨gq, hwq'⟩ := hwq
          subst hwq'
          clear GC
          have gq1 := gq.gr
          generalize gq.w = wq at gq1 ⊢
          obtain ⟨Xq, Yq, cq, fq⟩ := gq1.use
          have sq := gq1.size
          (try simp only [World.size_alloc, World.size_setCell, World.heap_drewN] at sq)
          go_wp2
          go_ret
          exact ⟨ret_bool (by rw [HG.out]; simp), (by repeat (first | with_reducible exact Gr.refl _ | with_reducible assumption | with_reducible refine Gr.alloc ?_ _ | with_reducible refine Gr.drewN ?_ _ | with_reducible refine Gr.drew ?_ | with_reducible refine Gr.setCell ?_ (by first | (dsimp only; omega) | (simp only [World.size_alloc]; omega) | (with_reducible refine Gr.size ?_; (repeat (first | with_reducible exact Gr.refl _ | with_reducible assumption | with_reducible refine Gr.alloc ?_ _ | with_reducible refine Gr.drewN ?_ _ | with_reducible refine Gr.drew ?_ | with_reducible refine Gr.trans ?_ (by with_reducible assumption))); done)) _ | with_reducible refine Gr.trans ?_ (by with_reducible assumption)))⟩
      · have p'' : hi1 b ≤ lo1 a := by omega
        have HG := hide (show gapB (lo1 a) (hi1 a) (lo1 b) (hi1 b) = false by simp [gapB]; omega)
        clear p
        go_upto_region 8 with fail
        have GC := @GrW.cell
        refine wp_region_grw _ (by kernel_rfl) (by kernel_rfl) (Gr.refl _) ?_
        repeat (go_big_quiet_step ((first | fail)))
        refine wpQuiet_nil ?_
        intro wq hwq
        obtain ⟨gq, hwq'⟩ := hwq
        subst hwq'
        clear GC
        have gq1 := gq.gr
        generalize gq.w = wq at gq1 ⊢
        obtain ⟨Xq, Yq, cq, fq⟩ := gq1.use
        have sq := gq1.size
        (try simp only [World.size_alloc, World.size_setCell, World.heap_drewN] at sq)
        go_wp2
        go_ret
        exact ⟨ret_bool (by rw [HG.out]; simp), (by repeat (first | with_reducible exact Gr.refl _ | with_reducible assumption | with_reducible refine Gr.alloc ?_ _ | with_reducible refine Gr.drewN ?_ _ | with_reducible refine Gr.drew ?_ | with_reducible refine Gr.setCell ?_ (by first | (dsimp only; omega) | (simp only [World.size_alloc]; omega) | (with_reducible refine Gr.size ?_; (repeat (first | with_reducible exact Gr.refl _ | with_reducible assumption | with_reducible refine Gr.alloc ?_ _ | with_reducible refine Gr.drewN ?_ _ | with_reducible refine Gr.drew ?_ | with_reducible refine Gr.trans ?_ (by with_reducible assumption))); done)) _ | with_reducible refine Gr.trans ?_ (by with_reducible assumption)))⟩
    · by_cases p : lo2 a < hi2 b
      · have p' : (decide (hi2 b ≤ lo2 a)) = false := by simp; omega
        have p'' : ¬ hi2 b ≤ lo2 a := by omega
        by_cases q : lo2 b < hi2 a
        · have q'' : ¬ hi2 a ≤ lo2 b := by omega
          have HG := hide (show gapB (lo2 a) (hi2 a) (lo2 b) (hi2 b) = true by simp [gapB, p, q])
          clear p q p'
          go_upto_region 8 with fail
          have GC := @GrW.cell
          refine wp_region_grw _ (by kernel_rfl) (by kernel_rfl) (Gr.refl _) ?_
          repeat (go_big_quiet_step ((first | fail)))
          refine wpQuiet_nil ?_
          intro wq hwq
          obtain ⟨gq, hwq'⟩ := hwq
          subst hwq'
          clear GC
          have gq1 := gq.gr
          generalize gq.w = wq at gq1 ⊢
          obtain ⟨Xq, Yq, cq, fq⟩ := gq1.use
          have sq := gq1.size
          (try simp only [World.size_alloc, World.size_setCell, World.heap_drewN] at sq)
          go_wp2
          go_roundw
          case rel => exact ⟨3, by omega, by omega, rfl, (by repeat (first | with_reducible exact Gr.refl _ | with_reducible assumption | with_reducible refine Gr.alloc ?_ _ | with_reducible refine Gr.drewN ?_ _ | with_reducible refine Gr.drew ?_ | with_reducible refine Gr.setCell ?_ (by first | (dsimp only; omega) | (simp only [World.size_alloc]; omega) | (with_reducible refine Gr.size ?_; (repeat (first | with_reducible exact Gr.refl _ | with_reducible assumption | with_reducible refine Gr.alloc ?_ _ | with_reducible refine Gr.drewN ?_ _ | with_reducible refine Gr.drew ?_ | with_reducible refine Gr.trans ?_ (by with_reducible assumption))); done)) _ | with_reducible refine Gr.trans ?_ (by with_reducible assumption))), HCA.out.gr gq1, HCB.out.gr gq1, fun _ => K0.out (by omega), fun _ => K1.out (by omega), fun _ => HG.out⟩
          case measure => simp [intOf]
        · have q'' : hi2 a ≤ lo2 b := by omega
          have HG := hide (show gapB (lo2 a) (hi2 a) (lo2 b) (hi2 b) = false by simp [gapB]; omega)
          clear p q p'
          go_upto_region 8 with fail
          have GC := @GrW.cell
          refine wp_region_grw _ (by kernel_rfl) (by kernel_rfl) (Gr.refl _) ?_
          repeat (go_big_quiet_step ((first | fail)))
          refine wpQuiet_nil ?_
          intro wq hwq
          obtain ⟨gq, hwq'⟩ := hwq
          subst hwq'
          clear GC
          have gq1 := gq.gr
          generalize gq.w = wq at gq1 ⊢
          obtain ⟨Xq, Yq, cq, fq⟩ := gq1.use
          have sq := gq1.size
          (try simp only [World.size_alloc, World.size_setCell, World.heap_drewN] at sq)
          go_wp2
          go_ret
          exact ⟨ret_bool (by rw [HG.out]; simp), (by repeat (first | with_reducible exact Gr.refl _ | with_reducible assumption | with_reducible refine Gr.alloc ?_ _ | with_reducible refine Gr.drewN ?_ _ | with_reducible refine Gr.drew ?_ | with_reducible refine Gr.setCell ?_ (by first | (dsimp only; omega) | (simp only [World.size_alloc]; omega) | (with_reducible refine Gr.size ?_; (repeat (first | with_reducible exact Gr.refl _ | with_reducible assumption | with_reducible refine Gr.alloc ?_ _ | with_reducible refine Gr.drewN ?_ _ | with_reducible refine Gr.drew ?_ | with_reducible refine Gr.trans ?_ (by with_reducible assumption))); done)) _ | with_reducible refine Gr.trans ?_ (by with_reducible assumption)))⟩
      · have p'' : hi2 b ≤ lo2 a := by omega
        have HG := hide (show gapB (lo2 a) (hi2 a) (lo2 b) (hi2 b) = false by simp [gapB]; omega)
        clear p
        go_upto_region 8 with fail
        have GC := @GrW.cell
        refine wp_region_grw _ (by kernel_rfl) (by kernel_rfl) (Gr.refl _) ?_
        repeat (go_big_quiet_step ((first | fail)))
        refine wpQuiet_nil ?_
        intro wq hwq
        obtain ⟨gq, hwq'⟩ := hwq
        subst hwq'
        clear GC
        have gq1 := gq.gr
        generalize gq.w = wq at gq1 ⊢
        obtain ⟨Xq, Yq, cq, fq⟩ := gq1.use
        have sq := gq1.size
        (try simp only [World.size_alloc, World.size_setCell, World.heap_drewN] at sq)
        go_wp2
        go_ret
        exact ⟨ret_bool (by rw [HG.out]; simp), (by repeat (first | with_reducible exact Gr.refl _ | with_reducible assumption | with_reducible refine Gr.alloc ?_ _ | with_reducible refine Gr.drewN ?_ _ | with_reducible refine Gr.drew ?_ | with_reducible refine Gr.setCell ?_ (by first | (dsimp only; omega) | (simp only [World.size_alloc]; omega) | (with_reducible refine Gr.size ?_; (repeat (first | with_reducible exact Gr.refl _ | with_reducible assumption | with_reducible refine Gr.alloc ?_ _ | with_reducible refine Gr.drewN ?_ _ | with_reducible refine Gr.drew ?_ | with_reducible refine Gr.trans ?_ (by with_reducible assumption))); done)) _ | with_reducible refine Gr.trans ?_ (by with_reducible assumption)))⟩
    · have h0 := K0.out (by omega)
      have h1 := K1.out (by omega)
      have h2 := K2.out (by omega)
      have HH := hide (show (gapB (lo0 a) (hi0 a) (lo0 b) (hi0 b) && gapB (lo1 a) (hi1 a) (lo1 b) (hi1 b) && gapB (lo2 a) (hi2 a) (lo2 b) (hi2 b)) = true by rw [h0, h1, h2]; rfl)
      clear h0 h1 h2
      go_wp2
      go_ret
      exact ⟨ret_bool HH.out.symm, g⟩
end Go.Proofs.Ytefjgfglommefaa
