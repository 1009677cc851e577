/-
  Rationals: what the functions of both sides return.
-/
import Derived.Test.YtjnfodbniohkhaaRat2
import Derived.Test.YtjnfodbniohkhaaTail
set_option linter.unusedVariables false
set_option linter.unusedSimpArgs false
namespace Go.Proofs.Ytjnfodbniohkhaa
set_option linter.unusedVariables false
set_option linter.unusedSimpArgs false
open Go Go.ChangeShapes Go.WideShapes Go.ChangeAt Go.RowKit Go.Deep

theorem cd_pos (n d : Int) (w : World) (h0 : 0 ≤ n) (hn : n ≤ 1099511627776) (hd : 1 ≤ d) (hd2 : d ≤ 1099511627776) :
    Calls Try.prog 46 #[iv n, iv d] w fun e w' => e = .returned (iv (gn n d)) ∧ w = w' := by
  have := cd_any n.natAbs d.natAbs w (by omega) (by omega)
  rw [show (iv (n.natAbs : Int)) = iv n by congr 1; omega, show (iv (d.natAbs : Int)) = iv d by congr 1; omega] at this
  exact this
theorem cd_neg (n d : Int) (w : World) (h0 : n < 0) (hn : -1099511627776 ≤ n) (hd : 1 ≤ d) (hd2 : d ≤ 1099511627776) :
    Calls Try.prog 46 #[iv (-n), iv d] w fun e w' => e = .returned (iv (gn n d)) ∧ w = w' := by
  have := cd_any n.natAbs d.natAbs w (by omega) (by omega)
  rw [show (iv (n.natAbs : Int)) = iv (-n) by congr 1; omega, show (iv (d.natAbs : Int)) = iv d by congr 1; omega] at this
  exact this
set_option maxHeartbeats 1000000 in
theorem reduced_any (n d : Int) (w : World) (hn : -549755813888 ≤ n ∧ n ≤ 549755813888) (hd : 1 ≤ d ∧ d ≤ 16777216) :
    Calls Try.prog 31 #[ra n d] w fun e w' => e = .returned (ra (rdN n d) (rdD n d)) ∧ Gr w w' := by
  have hg := gn_pos (n := n) hd.1
  have hg2 := gn_le (n := n) hd.1
  have W1 : IntKind.i64.wrap (n.tdiv (gn n d)) = rdN n d := IntWalk.i64_quo' _ _ (by omega)
  have W2 : IntKind.i64.wrap (d.tdiv (gn n d)) = rdD n d := IntWalk.i64_quo' _ _ (by omega)
  have hz : ¬ gn n d = 0 := by omega
  have hz2 : (gn n d == 0) = false := by simpa using hz
  by_cases h0 : 0 ≤ n
  · have HC := hide (fun w => cd_pos n d w h0 (by omega) (by omega) (by omega))
    have hm : ¬ n < -n := by omega
    generalize gn n d = g at *
    generalize rdN n d = x at *
    generalize rdD n d = y at *
    go_enter Try.func31, Try.ntmps31
    go_upto_region 1 with fail
    go_wp2_with (go_at_call 46; refine (HC.out _).mono ?_; rintro e w1 ⟨rfl, rfl⟩)
    have GC := @GrW.cell
    refine wp_region_grw_tail _ 9 (by kernel_rfl) (by kernel_rfl) (Gr.refl _) ?_
    simp only [List.take_succ_cons, List.take_zero, List.drop_succ_cons, List.drop_zero]
    repeat (go_big_quiet_step ((first | fail)))
    refine wpQuiet_nil ?_
    intro wq hwq
    obtain ⟨gq, hwq'⟩ := hwq
    subst hwq'
    clear GC
    have gq1 := gq.gr
    generalize gq.w = wq at gq1 ⊢
    obtain ⟨Xq, Yq, cq, fq⟩ := gq1.use
    have sq := gq1.size
    (try simp only [World.size_alloc, World.size_setCell, World.heap_drewN] at sq)
    go_wp2
    refine bodyPost_ret (v := ra x y) (by simp [results, Try.results31, go_sem, cq, fq]) rfl ⟨rfl, (by repeat (first | with_reducible exact Gr.refl _ | with_reducible assumption | with_reducible refine Gr.alloc ?_ _ | with_reducible refine Gr.drewN ?_ _ | with_reducible refine Gr.drew ?_ | with_reducible refine Gr.setCell ?_ (by first | (dsimp only; omega) | (simp only [World.size_alloc]; omega) | (with_reducible refine Gr.size ?_; (repeat (first | with_reducible exact Gr.refl _ | with_reducible assumption | with_reducible refine Gr.alloc ?_ _ | with_reducible refine Gr.drewN ?_ _ | with_reducible refine Gr.drew ?_ | with_reducible refine Gr.trans ?_ (by with_reducible assumption))); done)) _ | with_reducible refine Gr.trans ?_ (by with_reducible assumption)))⟩
  · have HC := hide (fun w => cd_neg n d w (by omega) (by omega) (by omega) (by omega))
    have hm : n < -n := by omega
    generalize gn n d = g at *
    generalize rdN n d = x at *
    generalize rdD n d = y at *
    go_enter Try.func31, Try.ntmps31
    go_upto_region 1 with fail
    go_wp2_with (go_at_call 46; refine (HC.out _).mono ?_; rintro e w1 ⟨rfl, rfl⟩)
    have GC := @GrW.cell
    refine wp_region_grw_tail _ 9 (by kernel_rfl) (by kernel_rfl) (Gr.refl _) ?_
    simp only [List.take_succ_cons, List.take_zero, List.drop_succ_cons, List.drop_zero]
    repeat (go_big_quiet_step ((first | fail)))
    refine wpQuiet_nil ?_
    intro wq hwq
    obtain ⟨gq, hwq'⟩ := hwq
    subst hwq'
    clear GC
    have gq1 := gq.gr
    generalize gq.w = wq at gq1 ⊢
    obtain ⟨Xq, Yq, cq, fq⟩ := gq1.use
    have sq := gq1.size
    (try simp only [World.size_alloc, World.size_setCell, World.heap_drewN] at sq)
    go_wp2
    refine bodyPost_ret (v := ra x y) (by simp [results, Try.results31, go_sem, cq, fq]) rfl ⟨rfl, (by repeat (first | with_reducible exact Gr.refl _ | with_reducible assumption | with_reducible refine Gr.alloc ?_ _ | with_reducible refine Gr.drewN ?_ _ | with_reducible refine Gr.drew ?_ | with_reducible refine Gr.setCell ?_ (by first | (dsimp only; omega) | (simp only [World.size_alloc]; omega) | (with_reducible refine Gr.size ?_; (repeat (first | with_reducible exact Gr.refl _ | with_reducible assumption | with_reducible refine Gr.alloc ?_ _ | with_reducible refine Gr.drewN ?_ _ | with_reducible refine Gr.drew ?_ | with_reducible refine Gr.trans ?_ (by with_reducible assumption))); done)) _ | with_reducible refine Gr.trans ?_ (by with_reducible assumption)))⟩
end Go.Proofs.Ytjnfodbniohkhaa
