/-
  Parts: the face of a flange, in the code.
-/
import Derived.Test.YtefjgfglommefaaVal7
set_option linter.unusedVariables false
set_option linter.unusedSimpArgs false
namespace Go.Proofs.Ytefjgfglommefaa
set_option linter.unusedVariables false
set_option linter.unusedSimpArgs false
open Go Go.ChangeShapes Go.WideShapes Go.ChangeAt Go.RowKit Go.Deep

set_option maxRecDepth 100000 in
set_option maxHeartbeats 1000000 in
theorem bent_any (f : Fc) (a : Int) (w : World) :
    Calls Try.prog 89 #[fv f, iv a] w fun e w' => e = .returned (vc (bdir f a).1 (bdir f a).2.1 (bdir f a).2.2) ∧ Gr w w' := by
  by_cases h1 : a = 90
  · rw [show bdir f a = (nx f, ny f, nz f) by simp [bdir, h1]]
    subst h1
    go_enter Try.func89, Try.ntmps89
    go_wp2_with (first | (go_at_call 12; refine (normal_any f _).mono ?_; rintro e w1 ⟨rfl, g1⟩; obtain ⟨X1, Y1, c1, f1⟩ := g1.use; have z1 := g1.size; (try simp only [World.size_alloc, World.size_setCell, World.heap_drewN, Nat.add_one_le_iff] at z1); (try have l0 : w.heap.size < w1.heap.size := by omega); (try have l1 : w.heap.size + 1 < w1.heap.size := by omega); (try have l2 : w.heap.size + 1 + 1 < w1.heap.size := by omega)))
    refine bodyPost_ret (v := vc (nx f) (ny f) (nz f)) (by simp [results, Try.results89, go_sem, *]) rfl ⟨rfl, (by repeat (first | with_reducible exact Gr.refl _ | with_reducible assumption | with_reducible refine Gr.alloc ?_ _ | with_reducible refine Gr.drewN ?_ _ | with_reducible refine Gr.drew ?_ | with_reducible refine Gr.setCell ?_ (by first | (dsimp only; omega) | (simp only [World.size_alloc]; omega) | (with_reducible refine Gr.size ?_; (repeat (first | with_reducible exact Gr.refl _ | with_reducible assumption | with_reducible refine Gr.alloc ?_ _ | with_reducible refine Gr.drewN ?_ _ | with_reducible refine Gr.drew ?_ | with_reducible refine Gr.trans ?_ (by with_reducible assumption))); done)) _ | with_reducible refine Gr.trans ?_ (by with_reducible assumption)))⟩
  · by_cases h2 : a = -90
    · rw [show bdir f a = (wrap64 (-1 * nx f), wrap64 (-1 * ny f), wrap64 (-1 * nz f)) by simp [bdir, h2]]
      subst h2
      go_enter Try.func89, Try.ntmps89
      go_wp2_with (first | (go_at_call 12; refine (normal_any f _).mono ?_; rintro e w1 ⟨rfl, g1⟩; obtain ⟨X1, Y1, c1, f1⟩ := g1.use; have z1 := g1.size; (try simp only [World.size_alloc, World.size_setCell, World.heap_drewN, Nat.add_one_le_iff] at z1); (try have l0 : w.heap.size < w1.heap.size := by omega); (try have l1 : w.heap.size + 1 < w1.heap.size := by omega); (try have l2 : w.heap.size + 1 + 1 < w1.heap.size := by omega)) | (go_at_call 100; refine (times_any _ _ _ _ _).mono ?_; rintro e w1 ⟨rfl, g1⟩; obtain ⟨X1, Y1, c1, f1⟩ := g1.use; have z1 := g1.size; (try simp only [World.size_alloc, World.size_setCell, World.heap_drewN, Nat.add_one_le_iff] at z1); (try have l0 : w.heap.size < w1.heap.size := by omega); (try have l1 : w.heap.size + 1 < w1.heap.size := by omega); (try have l2 : w.heap.size + 1 + 1 < w1.heap.size := by omega)))
      refine bodyPost_ret (v := vc (wrap64 (-1 * nx f)) (wrap64 (-1 * ny f)) (wrap64 (-1 * nz f))) (by simp [results, Try.results89, go_sem, *]) rfl ⟨rfl, (by repeat (first | with_reducible exact Gr.refl _ | with_reducible assumption | with_reducible refine Gr.alloc ?_ _ | with_reducible refine Gr.drewN ?_ _ | with_reducible refine Gr.drew ?_ | with_reducible refine Gr.setCell ?_ (by first | (dsimp only; omega) | (simp only [World.size_alloc]; omega) | (with_reducible refine Gr.size ?_; (repeat (first | with_reducible exact Gr.refl _ | with_reducible assumption | with_reducible refine Gr.alloc ?_ _ | with_reducible refine Gr.drewN ?_ _ | with_reducible refine Gr.drew ?_ | with_reducible refine Gr.trans ?_ (by with_reducible assumption))); done)) _ | with_reducible refine Gr.trans ?_ (by with_reducible assumption)))⟩
    · rw [show bdir f a = (wrap64 (-1 * f.vx), wrap64 (-1 * f.vy), wrap64 (-1 * f.vz)) by simp [bdir, h1, h2]]
      have h1' : (a == 90) = false := by simpa using h1
      have h2' : (a == -90) = false := by simpa using h2
      clear h1 h2
      go_enter Try.func89, Try.ntmps89
      go_wp2_with (first | (go_at_call 100; refine (times_any _ _ _ _ _).mono ?_; rintro e w1 ⟨rfl, g1⟩; obtain ⟨X1, Y1, c1, f1⟩ := g1.use; have z1 := g1.size; (try simp only [World.size_alloc, World.size_setCell, World.heap_drewN, Nat.add_one_le_iff] at z1); (try have l0 : w.heap.size < w1.heap.size := by omega); (try have l1 : w.heap.size + 1 < w1.heap.size := by omega); (try have l2 : w.heap.size + 1 + 1 < w1.heap.size := by omega)))
      refine bodyPost_ret (v := vc (wrap64 (-1 * f.vx)) (wrap64 (-1 * f.vy)) (wrap64 (-1 * f.vz))) (by simp [results, Try.results89, go_sem, *]) rfl ⟨rfl, (by repeat (first | with_reducible exact Gr.refl _ | with_reducible assumption | with_reducible refine Gr.alloc ?_ _ | with_reducible refine Gr.drewN ?_ _ | with_reducible refine Gr.drew ?_ | with_reducible refine Gr.setCell ?_ (by first | (dsimp only; omega) | (simp only [World.size_alloc]; omega) | (with_reducible refine Gr.size ?_; (repeat (first | with_reducible exact Gr.refl _ | with_reducible assumption | with_reducible refine Gr.alloc ?_ _ | with_reducible refine Gr.drewN ?_ _ | with_reducible refine Gr.drew ?_ | with_reducible refine Gr.trans ?_ (by with_reducible assumption))); done)) _ | with_reducible refine Gr.trans ?_ (by with_reducible assumption)))⟩
set_option maxRecDepth 100000 in
set_option maxHeartbeats 2000000 in
theorem flangeFace_any (g : Fc) (f : Fl) (b : Bool) (w : World) :
    Calls Try.prog 62 #[fv g, flv f, .bool b] w fun e w' => e = .returned (fv (flC g f b)) ∧ Gr w w' := by
  have HT := hide (fun w => turnedTo_any g f.sd w)
  have HB := hide (fun w => bent_any (tur g f.sd) f.an w)
  have HP := hide (fun w => pointOf_any (tur g f.sd) f.o (tur g f.sd).h w)
  have HE := hide (show flC g f b = ⟨po (tur g f.sd).ox f.o (tur g f.sd).ux (tur g f.sd).h (tur g f.sd).vx, po (tur g f.sd).oy f.o (tur g f.sd).uy (tur g f.sd).h (tur g f.sd).vy, po (tur g f.sd).oz f.o (tur g f.sd).uz (tur g f.sd).h (tur g f.sd).vz,
   (tur g f.sd).ux, (tur g f.sd).uy, (tur g f.sd).uz, (nextC (tur g f.sd) f.an b).1, (nextC (tur g f.sd) f.an b).2.1, (nextC (tur g f.sd) f.an b).2.2, f.wd, f.ln⟩ from rfl)
  generalize tur g f.sd = t at *
  go_enter Try.func62, Try.ntmps62
  go_upto_region 2 with (first | (go_at_call 57; refine (HT.out _).mono ?_; rintro e w1 ⟨rfl, g1⟩; obtain ⟨X1, Y1, c1, f1⟩ := g1.use; have z1 := g1.size; (try simp only [World.size_alloc, World.size_setCell, World.heap_drewN, Nat.add_one_le_iff] at z1); (try have l0 : w.heap.size < w1.heap.size := by omega); (try have l1 : w.heap.size + 1 < w1.heap.size := by omega); (try have l2 : w.heap.size + 1 + 1 < w1.heap.size := by omega)))
  have gA : Gr w w1 := (by repeat (first | with_reducible exact Gr.refl _ | with_reducible assumption | with_reducible refine Gr.alloc ?_ _ | with_reducible refine Gr.drewN ?_ _ | with_reducible refine Gr.drew ?_ | with_reducible refine Gr.setCell ?_ (by first | (dsimp only; omega) | (simp only [World.size_alloc]; omega) | (with_reducible refine Gr.size ?_; (repeat (first | with_reducible exact Gr.refl _ | with_reducible assumption | with_reducible refine Gr.alloc ?_ _ | with_reducible refine Gr.drewN ?_ _ | with_reducible refine Gr.drew ?_ | with_reducible refine Gr.trans ?_ (by with_reducible assumption))); done)) _ | with_reducible refine Gr.trans ?_ (by with_reducible assumption)))
  obtain ⟨wA, rfl⟩ : ∃ wA, wA = w1 := ⟨_, rfl⟩
  refine wp_region_new1 _ 15 (by kernel_rfl) (by kernel_rfl) (Gr.refl _) (z1 := #[iv 0, iv 0, iv 0, iv 0, iv 0, iv 0, iv 0, iv 0, iv 0, iv 0, iv 0]) (t1 := 44) rfl ⟨rfl, fun _ => rfl, rfl, fun a w => by go_simp⟩  ?_
  intro s gs
  obtain ⟨Xs, Ys, cs, fs⟩ := gs.use
  have GC := @GrW.cell
  simp only [List.take_succ_cons, List.take_zero]
  repeat (go_big_quiet_step ((first | (go_at_call 88; exact quiet_grw (HP.out _)))))
  refine wpQuiet_nil ?_
  clear GC cs fs gs
  intro B1 wq gq1 l1  ⟨b1, c1, f1⟩
  obtain ⟨Xq, Yq, cq, fq⟩ := gq1.use
  have sq := gq1.size
  (try simp only [World.size_alloc, World.size_setCell, World.heap_drewN] at sq l1 )
  simp only [List.drop_succ_cons, List.drop_zero]
  have n1 : B1 ≠ w.heap.size := by omega
  have n2 : B1 ≠ w.heap.size + 1 := by omega
  have n3 : B1 ≠ w.heap.size + 1 + 1 := by omega
  have n4 : B1 ≠ wA.heap.size := by omega
  have k1 : w.heap.size < wq.heap.size := by omega
  have k2 : w.heap.size + 1 < wq.heap.size := by omega
  have k3 : w.heap.size + 1 + 1 < wq.heap.size := by omega
  have k4 : wA.heap.size < wq.heap.size := by omega
  clear HP HT
  have tq : FX wq wA.heap.size t := by
    refine ⟨⟨?_, ?_, ?_, ?_, ?_, ?_, ?_, ?_, ?_, ?_, ?_⟩, ?_, ?_, ?_, ?_, ?_, ?_, ?_, ?_, ?_, ?_, ?_⟩ <;> simp [go_sem, *]
  have rq : FX wq (w.heap.size + 1 + 1) fc0 := by
    refine ⟨⟨?_, ?_, ?_, ?_, ?_, ?_, ?_, ?_, ?_, ?_, ?_⟩, ?_, ?_, ?_, ?_, ?_, ?_, ?_, ?_, ?_, ?_, ?_⟩ <;> simp [go_sem, fc0, *]
  have bq : FX wq B1 fc0 := by
    refine ⟨⟨?_, ?_, ?_, ?_, ?_, ?_, ?_, ?_, ?_, ?_, ?_⟩, ?_, ?_, ?_, ?_, ?_, ?_, ?_, ?_, ?_, ?_, ?_⟩ <;> simp [fc0, c1, f1]
  have aq : wq.cell? ⟨w.heap.size + 1, 6, none⟩ = some (iv f.an) := by simp [go_sem, *]
  have gwq : Gr w wq := (by repeat (first | with_reducible exact Gr.refl _ | with_reducible assumption | with_reducible refine Gr.alloc ?_ _ | with_reducible refine Gr.drewN ?_ _ | with_reducible refine Gr.drew ?_ | with_reducible refine Gr.setCell ?_ (by first | (dsimp only; omega) | (simp only [World.size_alloc]; omega) | (with_reducible refine Gr.size ?_; (repeat (first | with_reducible exact Gr.refl _ | with_reducible assumption | with_reducible refine Gr.alloc ?_ _ | with_reducible refine Gr.drewN ?_ _ | with_reducible refine Gr.drew ?_ | with_reducible refine Gr.trans ?_ (by with_reducible assumption))); done)) _ | with_reducible refine Gr.trans ?_ (by with_reducible assumption)))
  clear cq fq gq1 gA
  go_upto_region 3 with fail
  generalize hw : World.setCell _ _ _ = v1
  obtain rfl : v1 = FXset wq B1 ⟨po t.ox f.o t.ux t.h t.vx, po t.oy f.o t.uy t.h t.vy, po t.oz f.o t.uz t.h t.vz, t.ux, t.uy, t.uz, t.vx, t.vy, t.vz, f.wd, f.ln⟩ := hw.symm
  clear hw
  have tv := tq.other ⟨po t.ox f.o t.ux t.h t.vx, po t.oy f.o t.uy t.h t.vy, po t.oz f.o t.uz t.h t.vz, t.ux, t.uy, t.uz, t.vx, t.vy, t.vz, f.wd, f.ln⟩ (Ne.symm n4)
  have rv := rq.other ⟨po t.ox f.o t.ux t.h t.vx, po t.oy f.o t.uy t.h t.vy, po t.oz f.o t.uz t.h t.vz, t.ux, t.uy, t.uz, t.vx, t.vy, t.vz, f.wd, f.ln⟩ (Ne.symm n3)
  have bv := bq.set ⟨po t.ox f.o t.ux t.h t.vx, po t.oy f.o t.uy t.h t.vy, po t.oz f.o t.uz t.h t.vz, t.ux, t.uy, t.uz, t.vx, t.vy, t.vz, f.wd, f.ln⟩
  have av : (FXset wq B1 ⟨po t.ox f.o t.ux t.h t.vx, po t.oy f.o t.uy t.h t.vy, po t.oz f.o t.uz t.h t.vz, t.ux, t.uy, t.uz, t.vx, t.vy, t.vz, f.wd, f.ln⟩).cell? ⟨w.heap.size + 1, 6, none⟩ = some (iv f.an) := by
    unfold FXset
    simp [go_sem, *]
  have gv := gr_set ⟨po t.ox f.o t.ux t.h t.vx, po t.oy f.o t.uy t.h t.vy, po t.oz f.o t.uz t.h t.vz, t.ux, t.uy, t.uz, t.vx, t.vy, t.vz, f.wd, f.ln⟩ gwq (show w.heap.size ≤ B1 by omega)
  have sv := size_set wq B1 ⟨po t.ox f.o t.ux t.h t.vx, po t.oy f.o t.uy t.h t.vy, po t.oz f.o t.uz t.h t.vz, t.ux, t.uy, t.uz, t.vx, t.vy, t.vz, f.wd, f.ln⟩
  generalize FXset wq B1 ⟨po t.ox f.o t.ux t.h t.vx, po t.oy f.o t.uy t.h t.vy, po t.oz f.o t.uz t.h t.vz, t.ux, t.uy, t.uz, t.vx, t.vy, t.vz, f.wd, f.ln⟩ = v1 at *
  have k1' : w.heap.size < v1.heap.size := by omega
  have k2' : w.heap.size + 1 < v1.heap.size := by omega
  have k3' : w.heap.size + 1 + 1 < v1.heap.size := by omega
  have k4' : wA.heap.size < v1.heap.size := by omega
  have k5' : B1 < v1.heap.size := by omega
  clear c1 f1 tq rq bq aq gwq sv
  cases b with
  | false =>
    obtain ⟨⟨b0, b1, b2, b3, b4, b5, b6, b7, b8, b9, b10⟩, fb0, fb1, fb2, fb3, fb4, fb5, fb6, fb7, fb8, fb9, fb10⟩ := id bv
    obtain ⟨⟨r0, r1, r2, r3, r4, r5, r6, r7, r8, r9, r10⟩, fr0, fr1, fr2, fr3, fr4, fr5, fr6, fr7, fr8, fr9, fr10⟩ := id rv
    simp only at b0 b1 b2 b3 b4 b5 b6 b7 b8 b9 b10
    clear bv rv tv
    go_wp2
    refine bodyPost_ret (v := fv ⟨po t.ox f.o t.ux t.h t.vx, po t.oy f.o t.uy t.h t.vy, po t.oz f.o t.uz t.h t.vz, t.ux, t.uy, t.uz, t.vx, t.vy, t.vz, f.wd, f.ln⟩) (by simp [results, Try.results62, go_sem, *]) rfl ⟨by rw [HE.out]; rfl, (by repeat (first | with_reducible exact Gr.refl _ | with_reducible assumption | with_reducible refine Gr.alloc ?_ _ | with_reducible refine Gr.drewN ?_ _ | with_reducible refine Gr.drew ?_ | with_reducible refine Gr.setCell ?_ (by first | (dsimp only; omega) | (simp only [World.size_alloc]; omega) | (with_reducible refine Gr.size ?_; (repeat (first | with_reducible exact Gr.refl _ | with_reducible assumption | with_reducible refine Gr.alloc ?_ _ | with_reducible refine Gr.drewN ?_ _ | with_reducible refine Gr.drew ?_ | with_reducible refine Gr.trans ?_ (by with_reducible assumption))); done)) _ | with_reducible refine Gr.trans ?_ (by with_reducible assumption)))⟩
  | true =>
    rw [show nextC t f.an true = bdir t f.an from rfl] at HE
    generalize bdir t f.an = q at *
    obtain ⟨q1, q2, q3⟩ := q
    have HTV := hide tv
    obtain ⟨⟨a0, a1, a2, a3, a4, a5, a6, a7, a8, a9, a10⟩, fa0, fa1, fa2, fa3, fa4, fa5, fa6, fa7, fa8, fa9, fa10⟩ := id tv
    go_wp2_with fail
    refine (HB.out _).mono ?_
    rintro e w1 ⟨rfl, g1⟩
    have z1 := g1.size
    have j0 : B1 < w1.heap.size := by omega
    have j1 : w.heap.size < w1.heap.size := by omega
    have j2 : w.heap.size + 1 < w1.heap.size := by omega
    have j3 : w.heap.size + 1 + 1 < w1.heap.size := by omega
    have j4 : wA.heap.size < w1.heap.size := by omega
    have bw := bv.gr g1
    have rw' := rv.gr g1
    have gw := gv.trans g1
    clear g1 gv
    obtain ⟨⟨b0, b1, b2, b3, b4, b5, b6, b7, b8, b9, b10⟩, fb0, fb1, fb2, fb3, fb4, fb5, fb6, fb7, fb8, fb9, fb10⟩ := id bw
    obtain ⟨⟨r0, r1, r2, r3, r4, r5, r6, r7, r8, r9, r10⟩, fr0, fr1, fr2, fr3, fr4, fr5, fr6, fr7, fr8, fr9, fr10⟩ := id rw'
    simp only at b0 b1 b2 b3 b4 b5 b6 b7 b8 b9 b10
    clear bv rv tv bw rw'
    go_wp2_with fail
    refine bodyPost_ret (v := fv ⟨po t.ox f.o t.ux t.h t.vx, po t.oy f.o t.uy t.h t.vy, po t.oz f.o t.uz t.h t.vz, t.ux, t.uy, t.uz, q1, q2, q3, f.wd, f.ln⟩) (by simp [results, Try.results62, go_sem, *]) rfl ⟨by rw [HE.out], (by repeat (first | with_reducible exact Gr.refl _ | with_reducible assumption | with_reducible refine Gr.alloc ?_ _ | with_reducible refine Gr.drewN ?_ _ | with_reducible refine Gr.drew ?_ | with_reducible refine Gr.setCell ?_ (by first | (dsimp only; omega) | (simp only [World.size_alloc]; omega) | (with_reducible refine Gr.size ?_; (repeat (first | with_reducible exact Gr.refl _ | with_reducible assumption | with_reducible refine Gr.alloc ?_ _ | with_reducible refine Gr.drewN ?_ _ | with_reducible refine Gr.drew ?_ | with_reducible refine Gr.trans ?_ (by with_reducible assumption))); done)) _ | with_reducible refine Gr.trans ?_ (by with_reducible assumption)))⟩
end Go.Proofs.Ytefjgfglommefaa
