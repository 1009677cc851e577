/-
  Parts: sizes, turned faces, what two flanges or holes are to each other.
-/
import Derived.Test.YtefjgfglommefaaFX
set_option linter.unusedVariables false
set_option linter.unusedSimpArgs false
namespace Go.Proofs.Ytefjgfglommefaa
set_option linter.unusedVariables false
set_option linter.unusedSimpArgs false
open Go Go.ChangeShapes Go.WideShapes Go.ChangeAt Go.RowKit Go.Deep

set_option maxRecDepth 100000 in
set_option maxHeartbeats 2000000 in
theorem turnedTo_any (f : Fc) (s : Int) (w : World) :
    Calls Try.prog 57 #[fv f, iv s] w fun e w' => e = .returned (fv (tur f s)) ∧ Gr w w' := by
  have x0 := (FX.alloc w f).gr (Gr.alloc (Gr.refl _) (.cells #[iv 0, iv 0, iv 0, iv 0, iv 0, iv 0, iv 0, iv 0, iv 0, iv 0, iv 0] 44))
  have y0 := FX.alloc (w.alloc (.cells #[iv f.ox, iv f.oy, iv f.oz, iv f.ux, iv f.uy, iv f.uz, iv f.vx, iv f.vy, iv f.vz, iv f.w, iv f.h] 44)) fc0
  rw [World.size_alloc] at y0
  have g0 := Gr.alloc (Gr.alloc (Gr.refl w) (.cells #[iv f.ox, iv f.oy, iv f.oz, iv f.ux, iv f.uy, iv f.uz, iv f.vx, iv f.vy, iv f.vz, iv f.w, iv f.h] 44)) (.cells #[iv 0, iv 0, iv 0, iv 0, iv 0, iv 0, iv 0, iv 0, iv 0, iv 0, iv 0] 44)
  by_cases h2 : s = 2
  · rw [show tur f s = qua (qua (qua f)) by simp [tur, h2]]
    subst h2
    go_enter Try.func57, Try.ntmps57
    go_upto_region 6 with (go_at_call 85; refine (quarter_any f _).mono ?_; rintro e w1 ⟨rfl, g1⟩; obtain ⟨X1, Y1, c1, f1⟩ := g1.use; have z1 := g1.size; (try simp only [World.size_alloc, World.size_setCell, World.heap_drewN, Nat.add_one_le_iff] at z1); (try have l0 : w.heap.size < w1.heap.size := by omega); (try have l1 : w.heap.size + 1 < w1.heap.size := by omega); (try have l2 : w.heap.size + 1 + 1 < w1.heap.size := by omega))
    generalize hw : World.setCell _ _ _ = w1'
    obtain rfl : w1' = FXset w1 w.heap.size (qua f) := hw.symm
    clear hw
    have x1 := (x0.gr g1).set (qua f)
    have y1 := (y0.gr g1).other (qua f) (show w.heap.size + 1 ≠ w.heap.size by omega)
    have h1 := gr_set (qua f) (Gr.trans g0 g1) (Nat.le_refl _)
    clear g1 c1 f1
    generalize FXset w1 w.heap.size (qua f) = v1 at *
    have zz1 : w.heap.size + 1 < v1.heap.size := y1.lt
    have zy1 : w.heap.size < v1.heap.size := by omega
    obtain ⟨⟨a0, a1, a2, a3, a4, a5, a6, a7, a8, a9, a10⟩, p0, p1, p2, p3, p4, p5, p6, p7, p8, p9, p10⟩ := id x1
    obtain ⟨⟨b0, b1, b2, b3, b4, b5, b6, b7, b8, b9, b10⟩, q0, q1, q2, q3, q4, q5, q6, q7, q8, q9, q10⟩ := id y1
    go_upto_region 7 with (go_at_call 85; refine (quarter_any (qua f) _).mono ?_; rintro e w1 ⟨rfl, g1⟩; obtain ⟨X1, Y1, c1, f1⟩ := g1.use; have z1 := g1.size; (try simp only [World.size_alloc, World.size_setCell, World.heap_drewN, Nat.add_one_le_iff] at z1); (try have l0 : w.heap.size < w1.heap.size := by omega); (try have l1 : w.heap.size + 1 < w1.heap.size := by omega); (try have l2 : w.heap.size + 1 + 1 < w1.heap.size := by omega))
    generalize hw : World.setCell _ _ _ = w2'
    obtain rfl : w2' = FXset w1 w.heap.size (qua (qua f)) := hw.symm
    clear hw
    have x2 := (x1.gr g1).set (qua (qua f))
    have y2 := (y1.gr g1).other (qua (qua f)) (show w.heap.size + 1 ≠ w.heap.size by omega)
    have h2 := gr_set (qua (qua f)) (Gr.trans h1 g1) (Nat.le_refl _)
    clear g1 c1 f1
    generalize FXset w1 w.heap.size (qua (qua f)) = v2 at *
    have zz2 : w.heap.size + 1 < v2.heap.size := y2.lt
    have zy2 : w.heap.size < v2.heap.size := by omega
    obtain ⟨⟨a0, a1, a2, a3, a4, a5, a6, a7, a8, a9, a10⟩, p0, p1, p2, p3, p4, p5, p6, p7, p8, p9, p10⟩ := id x2
    obtain ⟨⟨b0, b1, b2, b3, b4, b5, b6, b7, b8, b9, b10⟩, q0, q1, q2, q3, q4, q5, q6, q7, q8, q9, q10⟩ := id y2
    go_upto_region 8 with (go_at_call 85; refine (quarter_any (qua (qua f)) _).mono ?_; rintro e w1 ⟨rfl, g1⟩; obtain ⟨X1, Y1, c1, f1⟩ := g1.use; have z1 := g1.size; (try simp only [World.size_alloc, World.size_setCell, World.heap_drewN, Nat.add_one_le_iff] at z1); (try have l0 : w.heap.size < w1.heap.size := by omega); (try have l1 : w.heap.size + 1 < w1.heap.size := by omega); (try have l2 : w.heap.size + 1 + 1 < w1.heap.size := by omega))
    generalize hw : World.setCell _ _ _ = w3'
    obtain rfl : w3' = FXset w1 w.heap.size (qua (qua (qua f))) := hw.symm
    clear hw
    have x3 := (x2.gr g1).set (qua (qua (qua f)))
    have y3 := (y2.gr g1).other (qua (qua (qua f))) (show w.heap.size + 1 ≠ w.heap.size by omega)
    have h3 := gr_set (qua (qua (qua f))) (Gr.trans h2 g1) (Nat.le_refl _)
    clear g1 c1 f1
    generalize FXset w1 w.heap.size (qua (qua (qua f))) = v3 at *
    have zz3 : w.heap.size + 1 < v3.heap.size := y3.lt
    have zy3 : w.heap.size < v3.heap.size := by omega
    obtain ⟨⟨a0, a1, a2, a3, a4, a5, a6, a7, a8, a9, a10⟩, p0, p1, p2, p3, p4, p5, p6, p7, p8, p9, p10⟩ := id x3
    obtain ⟨⟨b0, b1, b2, b3, b4, b5, b6, b7, b8, b9, b10⟩, q0, q1, q2, q3, q4, q5, q6, q7, q8, q9, q10⟩ := id y3
    go_wp2
    refine bodyPost_ret (v := fv (qua (qua (qua f)))) (by simp [results, Try.results57, go_sem, *]) rfl ⟨rfl, (by repeat (first | with_reducible exact Gr.refl _ | with_reducible assumption | with_reducible refine Gr.alloc ?_ _ | with_reducible refine Gr.drewN ?_ _ | with_reducible refine Gr.drew ?_ | with_reducible refine Gr.setCell ?_ (by first | (dsimp only; omega) | (simp only [World.size_alloc]; omega) | (with_reducible refine Gr.size ?_; (repeat (first | with_reducible exact Gr.refl _ | with_reducible assumption | with_reducible refine Gr.alloc ?_ _ | with_reducible refine Gr.drewN ?_ _ | with_reducible refine Gr.drew ?_ | with_reducible refine Gr.trans ?_ (by with_reducible assumption))); done)) _ | with_reducible refine Gr.trans ?_ (by with_reducible assumption)))⟩
  · by_cases h1 : s = 1
    · rw [show tur f s = qua (qua f) by simp [tur, h1]]
      subst h1
      clear h2
      go_enter Try.func57, Try.ntmps57
      go_upto_region 7 with (go_at_call 85; refine (quarter_any f _).mono ?_; rintro e w1 ⟨rfl, g1⟩; obtain ⟨X1, Y1, c1, f1⟩ := g1.use; have z1 := g1.size; (try simp only [World.size_alloc, World.size_setCell, World.heap_drewN, Nat.add_one_le_iff] at z1); (try have l0 : w.heap.size < w1.heap.size := by omega); (try have l1 : w.heap.size + 1 < w1.heap.size := by omega); (try have l2 : w.heap.size + 1 + 1 < w1.heap.size := by omega))
      generalize hw : World.setCell _ _ _ = w1'
      obtain rfl : w1' = FXset w1 w.heap.size (qua f) := hw.symm
      clear hw
      have x1 := (x0.gr g1).set (qua f)
      have y1 := (y0.gr g1).other (qua f) (show w.heap.size + 1 ≠ w.heap.size by omega)
      have h1 := gr_set (qua f) (Gr.trans g0 g1) (Nat.le_refl _)
      clear g1 c1 f1
      generalize FXset w1 w.heap.size (qua f) = v1 at *
      have zz1 : w.heap.size + 1 < v1.heap.size := y1.lt
      have zy1 : w.heap.size < v1.heap.size := by omega
      obtain ⟨⟨a0, a1, a2, a3, a4, a5, a6, a7, a8, a9, a10⟩, p0, p1, p2, p3, p4, p5, p6, p7, p8, p9, p10⟩ := id x1
      obtain ⟨⟨b0, b1, b2, b3, b4, b5, b6, b7, b8, b9, b10⟩, q0, q1, q2, q3, q4, q5, q6, q7, q8, q9, q10⟩ := id y1
      go_upto_region 8 with (go_at_call 85; refine (quarter_any (qua f) _).mono ?_; rintro e w1 ⟨rfl, g1⟩; obtain ⟨X1, Y1, c1, f1⟩ := g1.use; have z1 := g1.size; (try simp only [World.size_alloc, World.size_setCell, World.heap_drewN, Nat.add_one_le_iff] at z1); (try have l0 : w.heap.size < w1.heap.size := by omega); (try have l1 : w.heap.size + 1 < w1.heap.size := by omega); (try have l2 : w.heap.size + 1 + 1 < w1.heap.size := by omega))
      generalize hw : World.setCell _ _ _ = w2'
      obtain rfl : w2' = FXset w1 w.heap.size (qua (qua f)) := hw.symm
      clear hw
      have x2 := (x1.gr g1).set (qua (qua f))
      have y2 := (y1.gr g1).other (qua (qua f)) (show w.heap.size + 1 ≠ w.heap.size by omega)
      have h2 := gr_set (qua (qua f)) (Gr.trans h1 g1) (Nat.le_refl _)
      clear g1 c1 f1
      generalize FXset w1 w.heap.size (qua (qua f)) = v2 at *
      have zz2 : w.heap.size + 1 < v2.heap.size := y2.lt
      have zy2 : w.heap.size < v2.heap.size := by omega
      obtain ⟨⟨a0, a1, a2, a3, a4, a5, a6, a7, a8, a9, a10⟩, p0, p1, p2, p3, p4, p5, p6, p7, p8, p9, p10⟩ := id x2
      obtain ⟨⟨b0, b1, b2, b3, b4, b5, b6, b7, b8, b9, b10⟩, q0, q1, q2, q3, q4, q5, q6, q7, q8, q9, q10⟩ := id y2
      go_wp2
      refine bodyPost_ret (v := fv (qua (qua f))) (by simp [results, Try.results57, go_sem, *]) rfl ⟨rfl, (by repeat (first | with_reducible exact Gr.refl _ | with_reducible assumption | with_reducible refine Gr.alloc ?_ _ | with_reducible refine Gr.drewN ?_ _ | with_reducible refine Gr.drew ?_ | with_reducible refine Gr.setCell ?_ (by first | (dsimp only; omega) | (simp only [World.size_alloc]; omega) | (with_reducible refine Gr.size ?_; (repeat (first | with_reducible exact Gr.refl _ | with_reducible assumption | with_reducible refine Gr.alloc ?_ _ | with_reducible refine Gr.drewN ?_ _ | with_reducible refine Gr.drew ?_ | with_reducible refine Gr.trans ?_ (by with_reducible assumption))); done)) _ | with_reducible refine Gr.trans ?_ (by with_reducible assumption)))⟩
    · by_cases h0 : s = 0
      · rw [show tur f s = qua f by simp [tur, h0]]
        subst h0
        clear h1 h2
        go_enter Try.func57, Try.ntmps57
        go_upto_region 8 with (go_at_call 85; refine (quarter_any f _).mono ?_; rintro e w1 ⟨rfl, g1⟩; obtain ⟨X1, Y1, c1, f1⟩ := g1.use; have z1 := g1.size; (try simp only [World.size_alloc, World.size_setCell, World.heap_drewN, Nat.add_one_le_iff] at z1); (try have l0 : w.heap.size < w1.heap.size := by omega); (try have l1 : w.heap.size + 1 < w1.heap.size := by omega); (try have l2 : w.heap.size + 1 + 1 < w1.heap.size := by omega))
        generalize hw : World.setCell _ _ _ = w1'
        obtain rfl : w1' = FXset w1 w.heap.size (qua f) := hw.symm
        clear hw
        have x1 := (x0.gr g1).set (qua f)
        have y1 := (y0.gr g1).other (qua f) (show w.heap.size + 1 ≠ w.heap.size by omega)
        have h1 := gr_set (qua f) (Gr.trans g0 g1) (Nat.le_refl _)
        clear g1 c1 f1
        generalize FXset w1 w.heap.size (qua f) = v1 at *
        have zz1 : w.heap.size + 1 < v1.heap.size := y1.lt
        have zy1 : w.heap.size < v1.heap.size := by omega
        obtain ⟨⟨a0, a1, a2, a3, a4, a5, a6, a7, a8, a9, a10⟩, p0, p1, p2, p3, p4, p5, p6, p7, p8, p9, p10⟩ := id x1
        obtain ⟨⟨b0, b1, b2, b3, b4, b5, b6, b7, b8, b9, b10⟩, q0, q1, q2, q3, q4, q5, q6, q7, q8, q9, q10⟩ := id y1
        go_wp2
        refine bodyPost_ret (v := fv (qua f)) (by simp [results, Try.results57, go_sem, *]) rfl ⟨rfl, (by repeat (first | with_reducible exact Gr.refl _ | with_reducible assumption | with_reducible refine Gr.alloc ?_ _ | with_reducible refine Gr.drewN ?_ _ | with_reducible refine Gr.drew ?_ | with_reducible refine Gr.setCell ?_ (by first | (dsimp only; omega) | (simp only [World.size_alloc]; omega) | (with_reducible refine Gr.size ?_; (repeat (first | with_reducible exact Gr.refl _ | with_reducible assumption | with_reducible refine Gr.alloc ?_ _ | with_reducible refine Gr.drewN ?_ _ | with_reducible refine Gr.drew ?_ | with_reducible refine Gr.trans ?_ (by with_reducible assumption))); done)) _ | with_reducible refine Gr.trans ?_ (by with_reducible assumption)))⟩
      · rw [show tur f s = f by simp [tur, h0, h1, h2]]
        go_enter Try.func57, Try.ntmps57
        go_wp2_with fail
        refine bodyPost_ret (v := fv f) (by simp [results, Try.results57, go_sem, *]) rfl ⟨rfl, (by repeat (first | with_reducible exact Gr.refl _ | with_reducible assumption | with_reducible refine Gr.alloc ?_ _ | with_reducible refine Gr.drewN ?_ _ | with_reducible refine Gr.drew ?_ | with_reducible refine Gr.setCell ?_ (by first | (dsimp only; omega) | (simp only [World.size_alloc]; omega) | (with_reducible refine Gr.size ?_; (repeat (first | with_reducible exact Gr.refl _ | with_reducible assumption | with_reducible refine Gr.alloc ?_ _ | with_reducible refine Gr.drewN ?_ _ | with_reducible refine Gr.drew ?_ | with_reducible refine Gr.trans ?_ (by with_reducible assumption))); done)) _ | with_reducible refine Gr.trans ?_ (by with_reducible assumption)))⟩
theorem tur_w (f : Fc) (s : Int) : (tur f s).w = if s = 0 ∨ s = 2 then f.h else f.w := by
  unfold tur qua
  by_cases h0 : s = 0 <;> by_cases h1 : s = 1 <;> by_cases h2 : s = 2 <;> simp_all
set_option maxRecDepth 100000 in
set_option maxHeartbeats 1000000 in
theorem flangesOverlap_any (a b : Fl) (w : World) (h1 : 1 ≤ a.wd ∧ a.wd ≤ 150) (h2 : 0 ≤ a.o ∧ a.o ≤ 150) (h3 : 1 ≤ b.wd ∧ b.wd ≤ 150) (h4 : 0 ≤ b.o ∧ b.o ≤ 150) :
    Calls Try.prog 30 #[flv a, flv b] w fun e w' => e = .returned (.bool (ovF a b)) ∧ Gr w w' := by
  go_enter Try.func30, Try.ntmps30
  go_wp2
  all_goals
    go_ret
    exact ⟨ret_bool (by unfold ovF; simp [*] <;> omega), (by repeat (first | with_reducible exact Gr.refl _ | with_reducible assumption | with_reducible refine Gr.alloc ?_ _ | with_reducible refine Gr.drewN ?_ _ | with_reducible refine Gr.drew ?_ | with_reducible refine Gr.setCell ?_ (by first | (dsimp only; omega) | (simp only [World.size_alloc]; omega) | (with_reducible refine Gr.size ?_; (repeat (first | with_reducible exact Gr.refl _ | with_reducible assumption | with_reducible refine Gr.alloc ?_ _ | with_reducible refine Gr.drewN ?_ _ | with_reducible refine Gr.drew ?_ | with_reducible refine Gr.trans ?_ (by with_reducible assumption))); done)) _ | with_reducible refine Gr.trans ?_ (by with_reducible assumption)))⟩
set_option maxRecDepth 100000 in
set_option maxHeartbeats 1000000 in
theorem holesTouch_any (a b : Ho) (w : World) :
    Calls Try.prog 33 #[hov a, hov b] w fun e w' => e = .returned (.bool (touB a b)) ∧ Gr w w' := by
  by_cases h : a.fa = b.fa
  · have h' : (a.fa == b.fa) = true := by simpa using h
    have E := hide (show touB a b = (R.diV a.x a.y a.w a.h b.x b.y b.w b.h == 0) by simp [touB, h])
    clear h
    go_enter Try.func33, Try.ntmps33
    go_upto_region 1 with fail
    have GC := @GrW.cell
    refine wp_region_grw _ (by kernel_rfl) (by kernel_rfl) (Gr.refl _) ?_
    repeat (go_big_quiet_step ((first | (go_at_call 61; exact quiet_grw (rectOf_any _ _)) | (go_at_call 60; exact quiet_grw (R.Distance_any _ _ _ _ _ _ _ _ _)))))
    refine wpQuiet_nil ?_
    intro wq hwq
    obtain ⟨gq, hwq'⟩ := hwq
    subst hwq'
    clear GC
    have gq1 := gq.gr
    generalize gq.w = wq at gq1 ⊢
    obtain ⟨Xq, Yq, cq, fq⟩ := gq1.use
    have sq := gq1.size
    (try simp only [World.size_alloc, World.size_setCell, World.heap_drewN] at sq)
    go_wp2
    go_ret
    exact ⟨ret_bool E.out.symm, (by repeat (first | with_reducible exact Gr.refl _ | with_reducible assumption | with_reducible refine Gr.alloc ?_ _ | with_reducible refine Gr.drewN ?_ _ | with_reducible refine Gr.drew ?_ | with_reducible refine Gr.setCell ?_ (by first | (dsimp only; omega) | (simp only [World.size_alloc]; omega) | (with_reducible refine Gr.size ?_; (repeat (first | with_reducible exact Gr.refl _ | with_reducible assumption | with_reducible refine Gr.alloc ?_ _ | with_reducible refine Gr.drewN ?_ _ | with_reducible refine Gr.drew ?_ | with_reducible refine Gr.trans ?_ (by with_reducible assumption))); done)) _ | with_reducible refine Gr.trans ?_ (by with_reducible assumption)))⟩
  · have h' : (a.fa == b.fa) = false := by simpa using h
    have E := hide (show touB a b = false by simp [touB, h])
    clear h
    go_enter Try.func33, Try.ntmps33
    go_upto_region 1 with fail
    have GC := @GrW.cell
    refine wp_region_grw _ (by kernel_rfl) (by kernel_rfl) (Gr.refl _) ?_
    repeat (go_big_quiet_step ((first | fail)))
    refine wpQuiet_nil ?_
    intro wq hwq
    obtain ⟨gq, hwq'⟩ := hwq
    subst hwq'
    clear GC
    have gq1 := gq.gr
    generalize gq.w = wq at gq1 ⊢
    obtain ⟨Xq, Yq, cq, fq⟩ := gq1.use
    have sq := gq1.size
    (try simp only [World.size_alloc, World.size_setCell, World.heap_drewN] at sq)
    go_wp2
    go_ret
    exact ⟨ret_bool E.out.symm, (by repeat (first | with_reducible exact Gr.refl _ | with_reducible assumption | with_reducible refine Gr.alloc ?_ _ | with_reducible refine Gr.drewN ?_ _ | with_reducible refine Gr.drew ?_ | with_reducible refine Gr.setCell ?_ (by first | (dsimp only; omega) | (simp only [World.size_alloc]; omega) | (with_reducible refine Gr.size ?_; (repeat (first | with_reducible exact Gr.refl _ | with_reducible assumption | with_reducible refine Gr.alloc ?_ _ | with_reducible refine Gr.drewN ?_ _ | with_reducible refine Gr.drew ?_ | with_reducible refine Gr.trans ?_ (by with_reducible assumption))); done)) _ | with_reducible refine Gr.trans ?_ (by with_reducible assumption)))⟩
end Go.Proofs.Ytefjgfglommefaa
