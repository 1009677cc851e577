/-
  GeomRects: the walk.
-/
import Derived.Test.YtfapbiiknfeidaaDoorRects2
namespace Go.Proofs.YtfapbiiknfeidaaDoor
set_option linter.unusedVariables false
set_option linter.unusedSimpArgs false
open Go Go.ChangeShapes Go.WideShapes Go.ChangeAt Go.RowKit Go.Deep

theorem ovB_swap (x y u h a b c d : Int) : ovB a b c d x y u h = ovB x y u h a b c d := by
  unfold ovB soB
  generalize vrB x y u h = p
  generalize vrB a b c d = q
  cases p <;> cases q <;> simp [Bool.and_comm]
theorem gaV_swap (a b c d : Int) : gaV c d a b = gaV a b c d := by unfold gaV; split <;> split <;> omega
theorem diV_swap (x y u h a b c d : Int) : diV a b c d x y u h = diV x y u h a b c d := by
  unfold diV
  rw [gaV_swap x (x + u) a (a + c), gaV_swap y (y + h) b (b + d), Bool.and_comm]
theorem diV_over (x y u h a b c d : Int) (k : ovB x y u h a b c d = true) : diV x y u h a b c d = 0 := by
  simp only [ovB, Bool.and_eq_true, soB_gap, decide_eq_true_eq] at k
  unfold diV
  simp only [k.1.1, k.1.2, Bool.and_self, if_true]
  unfold poV
  rw [if_pos k.2.1, if_pos k.2.2]
  rfl
set_option maxHeartbeats 1000000 in
theorem rects_walk (x y u h a b c d : Int) (w : World) (ht : Tab w) :
    Calls Tryd.prog 13 #[rc x y u h, rc a b c d] w fun e w' => e = .returned (.bool true) ∧ Gr w w' := by
  have HT := hide ht
  clear ht
  have e1 := ovB_swap x y u h a b c d
  have e2 := diV_swap x y u h a b c d
  by_cases o : ovB x y u h a b c d = true
  · have e3 := diV_over x y u h a b c d o
    go_enter Tryd.func13, Tryd.ntmps13
    go_upto_region 1 with fail
    have GC := fun (g : GrW ((w.alloc (Obj.cells #[iv x, iv y, iv u, iv h] 58)).alloc (Obj.cells #[iv a, iv b, iv c, iv d] 58))) i o => g.cell i o
    refine wp_region_grw ((w.alloc (Obj.cells #[iv x, iv y, iv u, iv h] 58)).alloc (Obj.cells #[iv a, iv b, iv c, iv d] 58)) (by kernel_rfl) (by kernel_rfl) (by repeat (first | with_reducible exact Gr.refl _ | with_reducible assumption | with_reducible refine Gr.alloc ?_ _ | with_reducible refine Gr.drewN ?_ _ | with_reducible refine Gr.drew ?_ | with_reducible refine Gr.setCell ?_ (by first | (dsimp only; omega) | (simp only [World.size_alloc]; omega) | (with_reducible refine Gr.size ?_; (repeat (first | with_reducible exact Gr.refl _ | with_reducible assumption | with_reducible refine Gr.alloc ?_ _ | with_reducible refine Gr.drewN ?_ _ | with_reducible refine Gr.drew ?_ | with_reducible refine Gr.trans ?_ (by with_reducible assumption))); done)) _ | with_reducible refine Gr.trans ?_ (by with_reducible assumption))) ?_
    repeat (go_big_quiet_step ((first | (go_at_call 36; exact quiet_grw (ValidRect_any _ _ _ _ _)) | (go_at_call 37; exact quiet_grw (rValidRect_any _ _ _ _ _)) | (go_at_call 38; exact quiet_grw (Overlap_any _ _ _ _ _ _ _ _ _)) | (go_at_call 39; exact quiet_grw (rOverlap_any _ _ _ _ _ _ _ _ _)) | (go_at_call 40; exact quiet_grw (Inside_any _ _ _ _ _ _ _ _ _)) | (go_at_call 41; exact quiet_grw (rInside_any _ _ _ _ _ _ _ _ _)) | (go_at_call 42; exact quiet_grw (Distance_any _ _ _ _ _ _ _ _ _)) | (go_at_call 43; exact quiet_grw (rDistance_any _ _ _ _ _ _ _ _ _)) | (go_at_call 19; exact quiet_grw (known_any _ (HT.out.gr (Gr.trans (by repeat (first | with_reducible exact Gr.refl _ | with_reducible assumption | with_reducible refine Gr.alloc ?_ _ | with_reducible refine Gr.drewN ?_ _ | with_reducible refine Gr.drew ?_ | with_reducible refine Gr.setCell ?_ (by first | (dsimp only; omega) | (simp only [World.size_alloc]; omega) | (with_reducible refine Gr.size ?_; (repeat (first | with_reducible exact Gr.refl _ | with_reducible assumption | with_reducible refine Gr.alloc ?_ _ | with_reducible refine Gr.drewN ?_ _ | with_reducible refine Gr.drew ?_ | with_reducible refine Gr.trans ?_ (by with_reducible assumption))); done)) _ | with_reducible refine Gr.trans ?_ (by with_reducible assumption))) (GrW.gr _))))))))
    refine wpQuiet_nil ?_
    intro wq hwq
    obtain ⟨gq, hwq'⟩ := hwq
    subst hwq'
    clear GC
    have gq1 := gq.gr
    generalize gq.w = wq at gq1 ⊢
    obtain ⟨Xq, Yq, cq, fq⟩ := gq1.use
    go_upto_region 3 with fail
    have GC := fun (g : GrW ((w.alloc (Obj.cells #[iv x, iv y, iv u, iv h] 58)).alloc (Obj.cells #[iv a, iv b, iv c, iv d] 58))) i o => g.cell i o
    refine wp_region_grw ((w.alloc (Obj.cells #[iv x, iv y, iv u, iv h] 58)).alloc (Obj.cells #[iv a, iv b, iv c, iv d] 58)) (by kernel_rfl) (by kernel_rfl) (by repeat (first | with_reducible exact Gr.refl _ | with_reducible assumption | with_reducible refine Gr.alloc ?_ _ | with_reducible refine Gr.drewN ?_ _ | with_reducible refine Gr.drew ?_ | with_reducible refine Gr.setCell ?_ (by first | (dsimp only; omega) | (simp only [World.size_alloc]; omega) | (with_reducible refine Gr.size ?_; (repeat (first | with_reducible exact Gr.refl _ | with_reducible assumption | with_reducible refine Gr.alloc ?_ _ | with_reducible refine Gr.drewN ?_ _ | with_reducible refine Gr.drew ?_ | with_reducible refine Gr.trans ?_ (by with_reducible assumption))); done)) _ | with_reducible refine Gr.trans ?_ (by with_reducible assumption))) ?_
    repeat (go_big_quiet_step ((first | (go_at_call 36; exact quiet_grw (ValidRect_any _ _ _ _ _)) | (go_at_call 37; exact quiet_grw (rValidRect_any _ _ _ _ _)) | (go_at_call 38; exact quiet_grw (Overlap_any _ _ _ _ _ _ _ _ _)) | (go_at_call 39; exact quiet_grw (rOverlap_any _ _ _ _ _ _ _ _ _)) | (go_at_call 40; exact quiet_grw (Inside_any _ _ _ _ _ _ _ _ _)) | (go_at_call 41; exact quiet_grw (rInside_any _ _ _ _ _ _ _ _ _)) | (go_at_call 42; exact quiet_grw (Distance_any _ _ _ _ _ _ _ _ _)) | (go_at_call 43; exact quiet_grw (rDistance_any _ _ _ _ _ _ _ _ _)) | (go_at_call 19; exact quiet_grw (known_any _ (HT.out.gr (Gr.trans (by repeat (first | with_reducible exact Gr.refl _ | with_reducible assumption | with_reducible refine Gr.alloc ?_ _ | with_reducible refine Gr.drewN ?_ _ | with_reducible refine Gr.drew ?_ | with_reducible refine Gr.setCell ?_ (by first | (dsimp only; omega) | (simp only [World.size_alloc]; omega) | (with_reducible refine Gr.size ?_; (repeat (first | with_reducible exact Gr.refl _ | with_reducible assumption | with_reducible refine Gr.alloc ?_ _ | with_reducible refine Gr.drewN ?_ _ | with_reducible refine Gr.drew ?_ | with_reducible refine Gr.trans ?_ (by with_reducible assumption))); done)) _ | with_reducible refine Gr.trans ?_ (by with_reducible assumption))) (GrW.gr _))))))))
    refine wpQuiet_nil ?_
    intro wq hwq
    obtain ⟨gq, hwq'⟩ := hwq
    subst hwq'
    clear GC
    have gq1 := gq.gr
    generalize gq.w = wq at gq1 ⊢
    obtain ⟨Xq, Yq, cq, fq⟩ := gq1.use
    go_wp2_with fail
    go_ret
    exact ⟨rfl, (by repeat (first | with_reducible exact Gr.refl _ | with_reducible assumption | with_reducible refine Gr.alloc ?_ _ | with_reducible refine Gr.drewN ?_ _ | with_reducible refine Gr.drew ?_ | with_reducible refine Gr.setCell ?_ (by first | (dsimp only; omega) | (simp only [World.size_alloc]; omega) | (with_reducible refine Gr.size ?_; (repeat (first | with_reducible exact Gr.refl _ | with_reducible assumption | with_reducible refine Gr.alloc ?_ _ | with_reducible refine Gr.drewN ?_ _ | with_reducible refine Gr.drew ?_ | with_reducible refine Gr.trans ?_ (by with_reducible assumption))); done)) _ | with_reducible refine Gr.trans ?_ (by with_reducible assumption)))⟩
  · have o' : ovB x y u h a b c d = false := by simpa using o
    clear o
    go_enter Tryd.func13, Tryd.ntmps13
    go_upto_region 1 with fail
    have GC := fun (g : GrW ((w.alloc (Obj.cells #[iv x, iv y, iv u, iv h] 58)).alloc (Obj.cells #[iv a, iv b, iv c, iv d] 58))) i o => g.cell i o
    refine wp_region_grw ((w.alloc (Obj.cells #[iv x, iv y, iv u, iv h] 58)).alloc (Obj.cells #[iv a, iv b, iv c, iv d] 58)) (by kernel_rfl) (by kernel_rfl) (by repeat (first | with_reducible exact Gr.refl _ | with_reducible assumption | with_reducible refine Gr.alloc ?_ _ | with_reducible refine Gr.drewN ?_ _ | with_reducible refine Gr.drew ?_ | with_reducible refine Gr.setCell ?_ (by first | (dsimp only; omega) | (simp only [World.size_alloc]; omega) | (with_reducible refine Gr.size ?_; (repeat (first | with_reducible exact Gr.refl _ | with_reducible assumption | with_reducible refine Gr.alloc ?_ _ | with_reducible refine Gr.drewN ?_ _ | with_reducible refine Gr.drew ?_ | with_reducible refine Gr.trans ?_ (by with_reducible assumption))); done)) _ | with_reducible refine Gr.trans ?_ (by with_reducible assumption))) ?_
    repeat (go_big_quiet_step ((first | (go_at_call 36; exact quiet_grw (ValidRect_any _ _ _ _ _)) | (go_at_call 37; exact quiet_grw (rValidRect_any _ _ _ _ _)) | (go_at_call 38; exact quiet_grw (Overlap_any _ _ _ _ _ _ _ _ _)) | (go_at_call 39; exact quiet_grw (rOverlap_any _ _ _ _ _ _ _ _ _)) | (go_at_call 40; exact quiet_grw (Inside_any _ _ _ _ _ _ _ _ _)) | (go_at_call 41; exact quiet_grw (rInside_any _ _ _ _ _ _ _ _ _)) | (go_at_call 42; exact quiet_grw (Distance_any _ _ _ _ _ _ _ _ _)) | (go_at_call 43; exact quiet_grw (rDistance_any _ _ _ _ _ _ _ _ _)) | (go_at_call 19; exact quiet_grw (known_any _ (HT.out.gr (Gr.trans (by repeat (first | with_reducible exact Gr.refl _ | with_reducible assumption | with_reducible refine Gr.alloc ?_ _ | with_reducible refine Gr.drewN ?_ _ | with_reducible refine Gr.drew ?_ | with_reducible refine Gr.setCell ?_ (by first | (dsimp only; omega) | (simp only [World.size_alloc]; omega) | (with_reducible refine Gr.size ?_; (repeat (first | with_reducible exact Gr.refl _ | with_reducible assumption | with_reducible refine Gr.alloc ?_ _ | with_reducible refine Gr.drewN ?_ _ | with_reducible refine Gr.drew ?_ | with_reducible refine Gr.trans ?_ (by with_reducible assumption))); done)) _ | with_reducible refine Gr.trans ?_ (by with_reducible assumption))) (GrW.gr _))))))))
    refine wpQuiet_nil ?_
    intro wq hwq
    obtain ⟨gq, hwq'⟩ := hwq
    subst hwq'
    clear GC
    have gq1 := gq.gr
    generalize gq.w = wq at gq1 ⊢
    obtain ⟨Xq, Yq, cq, fq⟩ := gq1.use
    go_upto_region 3 with fail
    have GC := fun (g : GrW ((w.alloc (Obj.cells #[iv x, iv y, iv u, iv h] 58)).alloc (Obj.cells #[iv a, iv b, iv c, iv d] 58))) i o => g.cell i o
    refine wp_region_grw ((w.alloc (Obj.cells #[iv x, iv y, iv u, iv h] 58)).alloc (Obj.cells #[iv a, iv b, iv c, iv d] 58)) (by kernel_rfl) (by kernel_rfl) (by repeat (first | with_reducible exact Gr.refl _ | with_reducible assumption | with_reducible refine Gr.alloc ?_ _ | with_reducible refine Gr.drewN ?_ _ | with_reducible refine Gr.drew ?_ | with_reducible refine Gr.setCell ?_ (by first | (dsimp only; omega) | (simp only [World.size_alloc]; omega) | (with_reducible refine Gr.size ?_; (repeat (first | with_reducible exact Gr.refl _ | with_reducible assumption | with_reducible refine Gr.alloc ?_ _ | with_reducible refine Gr.drewN ?_ _ | with_reducible refine Gr.drew ?_ | with_reducible refine Gr.trans ?_ (by with_reducible assumption))); done)) _ | with_reducible refine Gr.trans ?_ (by with_reducible assumption))) ?_
    repeat (go_big_quiet_step ((first | (go_at_call 36; exact quiet_grw (ValidRect_any _ _ _ _ _)) | (go_at_call 37; exact quiet_grw (rValidRect_any _ _ _ _ _)) | (go_at_call 38; exact quiet_grw (Overlap_any _ _ _ _ _ _ _ _ _)) | (go_at_call 39; exact quiet_grw (rOverlap_any _ _ _ _ _ _ _ _ _)) | (go_at_call 40; exact quiet_grw (Inside_any _ _ _ _ _ _ _ _ _)) | (go_at_call 41; exact quiet_grw (rInside_any _ _ _ _ _ _ _ _ _)) | (go_at_call 42; exact quiet_grw (Distance_any _ _ _ _ _ _ _ _ _)) | (go_at_call 43; exact quiet_grw (rDistance_any _ _ _ _ _ _ _ _ _)) | (go_at_call 19; exact quiet_grw (known_any _ (HT.out.gr (Gr.trans (by repeat (first | with_reducible exact Gr.refl _ | with_reducible assumption | with_reducible refine Gr.alloc ?_ _ | with_reducible refine Gr.drewN ?_ _ | with_reducible refine Gr.drew ?_ | with_reducible refine Gr.setCell ?_ (by first | (dsimp only; omega) | (simp only [World.size_alloc]; omega) | (with_reducible refine Gr.size ?_; (repeat (first | with_reducible exact Gr.refl _ | with_reducible assumption | with_reducible refine Gr.alloc ?_ _ | with_reducible refine Gr.drewN ?_ _ | with_reducible refine Gr.drew ?_ | with_reducible refine Gr.trans ?_ (by with_reducible assumption))); done)) _ | with_reducible refine Gr.trans ?_ (by with_reducible assumption))) (GrW.gr _))))))))
    refine wpQuiet_nil ?_
    intro wq hwq
    obtain ⟨gq, hwq'⟩ := hwq
    subst hwq'
    clear GC
    have gq1 := gq.gr
    generalize gq.w = wq at gq1 ⊢
    obtain ⟨Xq, Yq, cq, fq⟩ := gq1.use
    go_wp2_with fail
    go_ret
    exact ⟨rfl, (by repeat (first | with_reducible exact Gr.refl _ | with_reducible assumption | with_reducible refine Gr.alloc ?_ _ | with_reducible refine Gr.drewN ?_ _ | with_reducible refine Gr.drew ?_ | with_reducible refine Gr.setCell ?_ (by first | (dsimp only; omega) | (simp only [World.size_alloc]; omega) | (with_reducible refine Gr.size ?_; (repeat (first | with_reducible exact Gr.refl _ | with_reducible assumption | with_reducible refine Gr.alloc ?_ _ | with_reducible refine Gr.drewN ?_ _ | with_reducible refine Gr.drew ?_ | with_reducible refine Gr.trans ?_ (by with_reducible assumption))); done)) _ | with_reducible refine Gr.trans ?_ (by with_reducible assumption)))⟩
end Go.Proofs.YtfapbiiknfeidaaDoor
