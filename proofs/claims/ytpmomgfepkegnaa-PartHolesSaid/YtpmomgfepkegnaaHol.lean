/-
  Parts: where a hole is, in the code.
  Parts: where a hole is, in the reference.
-/
import Derived.Test.YtpmomgfepkegnaaFac2
set_option linter.unusedVariables false
set_option linter.unusedSimpArgs false
namespace Go.Proofs.Ytpmomgfepkegnaa
set_option linter.unusedVariables false
set_option linter.unusedSimpArgs false
open Go Go.ChangeShapes Go.WideShapes Go.ChangeAt Go.RowKit Go.Deep

theorem hasHole_any (p : Pa) (A B : Option Addr) (c d : Nat) (n : Int) (w : World) :
    Calls Try.prog 80 #[pav p A c B d, iv n] w fun e w' => e = .returned (.bool (wiB n 0 ((p.ho.length : Int) - 1))) ∧ Gr w w' := by
  go_enter Try.func80, Try.ntmps80
  go_wp2
  all_goals
    go_ret
    exact ⟨ret_bool (by unfold wiB; simp [*] <;> omega), (by repeat (first | with_reducible exact Gr.refl _ | with_reducible assumption | with_reducible refine Gr.alloc ?_ _ | with_reducible refine Gr.drewN ?_ _ | with_reducible refine Gr.drew ?_ | with_reducible refine Gr.setCell ?_ (by first | (dsimp only; omega) | (simp only [World.size_alloc]; omega) | (with_reducible refine Gr.size ?_; (repeat (first | with_reducible exact Gr.refl _ | with_reducible assumption | with_reducible refine Gr.alloc ?_ _ | with_reducible refine Gr.drewN ?_ _ | with_reducible refine Gr.drew ?_ | with_reducible refine Gr.trans ?_ (by with_reducible assumption))); done)) _ | with_reducible refine Gr.trans ?_ (by with_reducible assumption)))⟩
theorem wi_natH {n : Nat} {m : Int} (h : wiB m 0 ((n : Int) - 1) = true) : ∃ k : Nat, m = k ∧ k < n := by
  rw [wiB_iff] at h
  exact ⟨m.toNat, by omega, by omega⟩
/-- a hole's rectangle in space -/
def holF (f : Fc) (x : Ho) : Fc := ⟨po f.ox x.x f.ux x.y f.vx, po f.oy x.x f.uy x.y f.vy, po f.oz x.x f.uz x.y f.vz, f.ux, f.uy, f.uz, f.vx, f.vy, f.vz, x.w, x.h⟩
/-- the error of a part, a hole and a mask -/
noncomputable def holE (p : Pa) (n m : Int) : Int := if valE p ≠ 0 then valE p else if wiB n 0 ((p.ho.length : Int) - 1) then facE p m else 5
/-- the hole's place -/
noncomputable def holR (p : Pa) (n m : Int) : Fc := if holE p n m = 0 then (match p.ho[n.toNat]? with
  | some x => holF ((facL p m)[x.fa.toNat]?.getD fc0) x
  | none => fc0) else fc0
theorem holE_bad {p : Pa} {n m : Int} (h : ¬ valE p = 0) : holE p n m = valE p := by
  unfold holE
  rw [if_pos h]
theorem holE_none {p : Pa} {n m : Int} (h : valE p = 0) (k : wiB n 0 ((p.ho.length : Int) - 1) = false) : holE p n m = 5 := by
  unfold holE
  rw [if_neg (by simpa using h), k]
  rfl
theorem holE_fac {p : Pa} {n m : Int} (h : valE p = 0) (k : wiB n 0 ((p.ho.length : Int) - 1) = true) : holE p n m = facE p m := by
  unfold holE
  rw [if_neg (by simpa using h), k]
  rfl
theorem holR_no {p : Pa} {n m : Int} (h : ¬ holE p n m = 0) : holR p n m = fc0 := by
  unfold holR
  rw [if_neg h]
theorem holR_at {p : Pa} {k : Nat} {m : Int} {x : Ho} {g : Fc} {q : Nat} (h : holE p k m = 0) (hx : p.ho[k]? = some x) (hq : x.fa = q) (hg : (facL p m)[q]? = some g) : holR p k m = holF g x := by
  unfold holR
  rw [if_pos h, show ((k : Nat) : Int).toNat = k from rfl, hx]
  simp only
  rw [hq, show ((q : Nat) : Int).toNat = q from rfl, hg]
  rfl
theorem hole_face {p : Pa} {m : Int} {k : Nat} {x : Ho} (hv : valE p = 0) (hE : facE p m = 0) (hx : p.ho[k]? = some x) : ∃ (q : Nat) (g : Fc), x.fa = q ∧ (facL p m)[q]? = some g ∧ q < (facL p m).length := by
  have G := good_of hv
  have hh := (List.all_eq_true.1 G.ho) x (List.mem_of_getElem? hx)
  unfold hoB at hh
  simp only [Bool.and_eq_true] at hh
  have hf := wiB_iff.1 hh.1.1.1
  have hl : (facL p m).length = p.fl.length + 1 := by rw [facL_some hE, facs_len (Nat.le_refl _)]
  exact ⟨x.fa.toNat, _, by omega, List.getElem?_eq_getElem (by omega), by omega⟩
abbrev fcE (f : Fc) (e : Int) : Value := .tuple #[fv f, iv e]
set_option maxRecDepth 100000 in
set_option maxHeartbeats 4000000 in
theorem HoleFace_any (p : Pa) (A B : Option Addr) (c d : Nat) (n m : Int) (w : World) (hP : PaW w p A c B d) :
    Calls Try.prog 31 #[pav p A c B d, iv n, iv m] w fun e w' => e = .returned (fcE (holR p n m) (holE p n m)) ∧ Gr w w' := by
  have HV := hide (fun (w' : World) (g : Gr w w') => Validate_any p A B c d w' (hP.gr g))
  by_cases h0 : valE p = 0
  · rw [h0] at HV
    have HH := hide (fun w' => hasHole_any p A B c d n w')
    cases hn : wiB n 0 ((p.ho.length : Int) - 1) with
    | true =>
      rw [hn] at HH
      have hE := holE_fac (m := m) h0 hn
      have HF := hide (fun (w' : World) (g : Gr w w') => Faces_any p A B c d m w' (hP.gr g))
      have hlen := facL_len (p := p) (m := m)
      by_cases hf0 : facE p m = 0
      · obtain ⟨k, rfl, hk⟩ := wi_natH hn
        obtain ⟨x, hx⟩ : ∃ x, p.ho[k]? = some x := ⟨_, List.getElem?_eq_getElem hk⟩
        obtain ⟨q, g, hq, hg, hql⟩ := hole_face h0 hf0 hx
        have hR := holR_at (hE.trans hf0) hx hq hg
        rw [hR, hE]
        rw [hf0] at HF ⊢
        obtain ⟨b, off, hB, x0, x1, x2, x3, x4, x5⟩ := hP.ho.rd.ho hx
        subst hB
        have hb : b < w.heap.size := cell_lt (by rw [x0]; rfl)
        have nho := hP.ho.len
        obtain ⟨fa, kd, hx', hy', hw', hh'⟩ := x
        simp only at hq x0 x1 x2 x3 x4 x5
        subst hq
        have hk0 : (0 : Int) ≤ (k : Int) := by omega
        have hk1 : (k : Int) < (p.ho.length : Int) := by omega
        have hq0 : (0 : Int) ≤ (q : Int) := by omega
        have hq1 : (q : Int) < ((facL p m).length : Int) := by omega
        generalize facL p m = FS at *
        clear hE hR hP h0 hf0 hx
        go_enter Try.func31, Try.ntmps31
        go_wp2_with fail
        refine (HV.out _ (by repeat (first | with_reducible exact Gr.refl _ | with_reducible assumption | with_reducible refine Gr.alloc ?_ _ | with_reducible refine Gr.drewN ?_ _ | with_reducible refine Gr.drew ?_ | with_reducible refine Gr.setCell ?_ (by first | (dsimp only; omega) | (simp only [World.size_alloc]; omega) | (with_reducible refine Gr.size ?_; (repeat (first | with_reducible exact Gr.refl _ | with_reducible assumption | with_reducible refine Gr.alloc ?_ _ | with_reducible refine Gr.drewN ?_ _ | with_reducible refine Gr.drew ?_ | with_reducible refine Gr.trans ?_ (by with_reducible assumption))); done)) _ | with_reducible refine Gr.trans ?_ (by with_reducible assumption)))).mono ?_
        rintro e w1 ⟨rfl, g1⟩
        obtain ⟨X1, Y1, c1, f1⟩ := g1.use
        have z1 := g1.size
        simp only [World.size_alloc] at z1
        have l1 : w.heap.size < w1.heap.size := by omega
        have k1 : w.heap.size + 1 < w1.heap.size := by omega
        have gw1 : Gr w w1 := (by repeat (first | with_reducible exact Gr.refl _ | with_reducible assumption | with_reducible refine Gr.alloc ?_ _ | with_reducible refine Gr.drewN ?_ _ | with_reducible refine Gr.drew ?_ | with_reducible refine Gr.setCell ?_ (by first | (dsimp only; omega) | (simp only [World.size_alloc]; omega) | (with_reducible refine Gr.size ?_; (repeat (first | with_reducible exact Gr.refl _ | with_reducible assumption | with_reducible refine Gr.alloc ?_ _ | with_reducible refine Gr.drewN ?_ _ | with_reducible refine Gr.drew ?_ | with_reducible refine Gr.trans ?_ (by with_reducible assumption))); done)) _ | with_reducible refine Gr.trans ?_ (by with_reducible assumption)))
        go_wp2_with fail
        refine (HH.out _).mono ?_
        rintro e w2 ⟨rfl, g2⟩
        obtain ⟨X2, Y2, c2, f2⟩ := g2.use
        have z2 := g2.size
        have l2 : w.heap.size < w2.heap.size := by omega
        have k2 : w.heap.size + 1 < w2.heap.size := by omega
        have gw2 : Gr w w2 := gw1.trans g2
        go_wp2_with fail
        refine (HF.out _ gw2).mono ?_
        rintro e w3 ⟨v3, rfl, o3, g3⟩
        obtain ⟨A3, d3, rfl⟩ := o3.slice
        obtain ⟨b3, off3, hA3, y0, y1, y2, y3, y4, y5, y6, y7, y8, y9, y10⟩ := (slC_own o3 (by omega)).2.rd.fc hg
        subst hA3
        have hb3 : b3 < w3.heap.size := cell_lt (by rw [y0]; rfl)
        have z3 := g3.size
        have l3 : w.heap.size < w3.heap.size := by omega
        have k3 : w.heap.size + 1 < w3.heap.size := by omega
        have hbw3 : b < w3.heap.size := by omega
        have gw3 : Gr w w3 := gw2.trans g3
        have w0 := (gw3.cell _ _ hb).trans x0
        have w1' := (gw3.cell _ _ hb).trans x1
        have w2' := (gw3.cell _ _ hb).trans x2
        have w3' := (gw3.cell _ _ hb).trans x3
        have w4 := (gw3.cell _ _ hb).trans x4
        have w5 := (gw3.cell _ _ hb).trans x5
        have p7 : w3.cell? ⟨w.heap.size, 7, none⟩ = some (.slice (some ⟨b, off, none⟩) p.ho.length d) := by
          rw [(g3.cell _ _ l2), (g2.cell _ _ l1), (g1.cell _ _ (by simp only [World.size_alloc]; omega))]
          simp [go_sem]
        have r0 : ∀ i, i < 11 → w3.cell? ⟨w.heap.size + 1, i, none⟩ = some (iv 0) ∧ w3.frozen? ⟨w.heap.size + 1, i, none⟩ = false := by
          intro i hi
          rw [(g3.cell _ _ k2), (g2.cell _ _ k1), (g1.cell _ _ (by simp only [World.size_alloc]; omega)), (g3.frozen _ _ k2), (g2.frozen _ _ k1), (g1.frozen _ _ (by simp only [World.size_alloc]; omega))]
          rcases (by omega : i = 0 ∨ i = 1 ∨ i = 2 ∨ i = 3 ∨ i = 4 ∨ i = 5 ∨ i = 6 ∨ i = 7 ∨ i = 8 ∨ i = 9 ∨ i = 10) with rfl | rfl | rfl | rfl | rfl | rfl | rfl | rfl | rfl | rfl | rfl <;> simp [go_sem]
        clear c1 f1 c2 f2 x0 x1 x2 x3 x4 x5 o3 hg
        obtain ⟨e0, q0⟩ := r0 0 (by omega)
        obtain ⟨e1, q1⟩ := r0 1 (by omega)
        obtain ⟨e2, q2⟩ := r0 2 (by omega)
        obtain ⟨e3, q3⟩ := r0 3 (by omega)
        obtain ⟨e4, q4⟩ := r0 4 (by omega)
        obtain ⟨e5, q5⟩ := r0 5 (by omega)
        obtain ⟨e6, q6⟩ := r0 6 (by omega)
        obtain ⟨e7, q7⟩ := r0 7 (by omega)
        obtain ⟨e8, q8⟩ := r0 8 (by omega)
        obtain ⟨e9, q9⟩ := r0 9 (by omega)
        obtain ⟨e10, q10⟩ := r0 10 (by omega)
        clear r0
        go_upto_region 11 with fail
        have GC := @GrW.cell
        refine wp_region_grw_tail _ 15 (by kernel_rfl) (by kernel_rfl) (Gr.refl _) ?_
        simp only [List.take_succ_cons, List.take_zero, List.drop_succ_cons, List.drop_zero]
        repeat (go_big_quiet_step ((first | (go_at_call 79; exact quiet_grw (pointOf_any g hx' hy' _)))))
        refine wpQuiet_nil ?_
        intro wq hwq
        obtain ⟨gq, hwq'⟩ := hwq
        subst hwq'
        clear GC
        have gq1 := gq.gr
        generalize gq.w = wq at gq1 ⊢
        obtain ⟨Xq, Yq, cq, fq⟩ := gq1.use
        have sq := gq1.size
        (try simp only [World.size_alloc, World.size_setCell, World.heap_drewN] at sq)
        go_wp2
        refine bodyPost_ret (v := fcE (holF g ⟨(q : Int), kd, hx', hy', hw', hh'⟩) 0) (by simp [results, Try.results31, go_sem, holF, *]) rfl ⟨rfl, (by repeat (first | with_reducible exact Gr.refl _ | with_reducible assumption | with_reducible refine Gr.alloc ?_ _ | with_reducible refine Gr.drewN ?_ _ | with_reducible refine Gr.drew ?_ | with_reducible refine Gr.setCell ?_ (by first | (dsimp only; omega) | (simp only [World.size_alloc]; omega) | (with_reducible refine Gr.size ?_; (repeat (first | with_reducible exact Gr.refl _ | with_reducible assumption | with_reducible refine Gr.alloc ?_ _ | with_reducible refine Gr.drewN ?_ _ | with_reducible refine Gr.drew ?_ | with_reducible refine Gr.trans ?_ (by with_reducible assumption))); done)) _ | with_reducible refine Gr.trans ?_ (by with_reducible assumption)))⟩
      · rw [holR_no (by rw [hE]; exact hf0), hE]
        have h0' : (facE p m != 0) = true := by simpa using hf0
        generalize facE p m = y at *
        generalize facL p m = FS at *
        clear hE hP h0 hf0 hn
        go_enter Try.func31, Try.ntmps31
        go_wp2_with fail
        refine (HV.out _ (by repeat (first | with_reducible exact Gr.refl _ | with_reducible assumption | with_reducible refine Gr.alloc ?_ _ | with_reducible refine Gr.drewN ?_ _ | with_reducible refine Gr.drew ?_ | with_reducible refine Gr.setCell ?_ (by first | (dsimp only; omega) | (simp only [World.size_alloc]; omega) | (with_reducible refine Gr.size ?_; (repeat (first | with_reducible exact Gr.refl _ | with_reducible assumption | with_reducible refine Gr.alloc ?_ _ | with_reducible refine Gr.drewN ?_ _ | with_reducible refine Gr.drew ?_ | with_reducible refine Gr.trans ?_ (by with_reducible assumption))); done)) _ | with_reducible refine Gr.trans ?_ (by with_reducible assumption)))).mono ?_
        rintro e w1 ⟨rfl, g1⟩
        obtain ⟨X1, Y1, c1, f1⟩ := g1.use
        have z1 := g1.size
        simp only [World.size_alloc] at z1
        have l1 : w.heap.size < w1.heap.size := by omega
        have k1 : w.heap.size + 1 < w1.heap.size := by omega
        have gw1 : Gr w w1 := (by repeat (first | with_reducible exact Gr.refl _ | with_reducible assumption | with_reducible refine Gr.alloc ?_ _ | with_reducible refine Gr.drewN ?_ _ | with_reducible refine Gr.drew ?_ | with_reducible refine Gr.setCell ?_ (by first | (dsimp only; omega) | (simp only [World.size_alloc]; omega) | (with_reducible refine Gr.size ?_; (repeat (first | with_reducible exact Gr.refl _ | with_reducible assumption | with_reducible refine Gr.alloc ?_ _ | with_reducible refine Gr.drewN ?_ _ | with_reducible refine Gr.drew ?_ | with_reducible refine Gr.trans ?_ (by with_reducible assumption))); done)) _ | with_reducible refine Gr.trans ?_ (by with_reducible assumption)))
        go_wp2_with fail
        refine (HH.out _).mono ?_
        rintro e w2 ⟨rfl, g2⟩
        obtain ⟨X2, Y2, c2, f2⟩ := g2.use
        have z2 := g2.size
        have l2 : w.heap.size < w2.heap.size := by omega
        have k2 : w.heap.size + 1 < w2.heap.size := by omega
        have gw2 : Gr w w2 := gw1.trans g2
        go_wp2_with fail
        refine (HF.out _ gw2).mono ?_
        rintro e w3 ⟨v3, rfl, o3, g3⟩
        obtain ⟨A3, d3, rfl⟩ := o3.slice
        have z3 := g3.size
        have l3 : w.heap.size < w3.heap.size := by omega
        have k3 : w.heap.size + 1 < w3.heap.size := by omega
        obtain ⟨X3, Y3, c3, f3⟩ := g3.use
        clear o3
        go_wp2_with fail
        refine bodyPost_ret (v := fcE fc0 y) (by simp [results, Try.results31, go_sem, fc0, *]) rfl ⟨rfl, (by repeat (first | with_reducible exact Gr.refl _ | with_reducible assumption | with_reducible refine Gr.alloc ?_ _ | with_reducible refine Gr.drewN ?_ _ | with_reducible refine Gr.drew ?_ | with_reducible refine Gr.setCell ?_ (by first | (dsimp only; omega) | (simp only [World.size_alloc]; omega) | (with_reducible refine Gr.size ?_; (repeat (first | with_reducible exact Gr.refl _ | with_reducible assumption | with_reducible refine Gr.alloc ?_ _ | with_reducible refine Gr.drewN ?_ _ | with_reducible refine Gr.drew ?_ | with_reducible refine Gr.trans ?_ (by with_reducible assumption))); done)) _ | with_reducible refine Gr.trans ?_ (by with_reducible assumption)))⟩
    | false =>
      have hE := holE_none (m := m) h0 hn
      rw [holR_no (by rw [hE]; decide), hE]
      rw [hn] at HH
      clear hE hP h0 hn
      go_enter Try.func31, Try.ntmps31
      go_wp2_with fail
      refine (HV.out _ (by repeat (first | with_reducible exact Gr.refl _ | with_reducible assumption | with_reducible refine Gr.alloc ?_ _ | with_reducible refine Gr.drewN ?_ _ | with_reducible refine Gr.drew ?_ | with_reducible refine Gr.setCell ?_ (by first | (dsimp only; omega) | (simp only [World.size_alloc]; omega) | (with_reducible refine Gr.size ?_; (repeat (first | with_reducible exact Gr.refl _ | with_reducible assumption | with_reducible refine Gr.alloc ?_ _ | with_reducible refine Gr.drewN ?_ _ | with_reducible refine Gr.drew ?_ | with_reducible refine Gr.trans ?_ (by with_reducible assumption))); done)) _ | with_reducible refine Gr.trans ?_ (by with_reducible assumption)))).mono ?_
      rintro e w1 ⟨rfl, g1⟩
      obtain ⟨X1, Y1, c1, f1⟩ := g1.use
      have z1 := g1.size
      simp only [World.size_alloc] at z1
      have l1 : w.heap.size < w1.heap.size := by omega
      have k1 : w.heap.size + 1 < w1.heap.size := by omega
      have gw1 : Gr w w1 := (by repeat (first | with_reducible exact Gr.refl _ | with_reducible assumption | with_reducible refine Gr.alloc ?_ _ | with_reducible refine Gr.drewN ?_ _ | with_reducible refine Gr.drew ?_ | with_reducible refine Gr.setCell ?_ (by first | (dsimp only; omega) | (simp only [World.size_alloc]; omega) | (with_reducible refine Gr.size ?_; (repeat (first | with_reducible exact Gr.refl _ | with_reducible assumption | with_reducible refine Gr.alloc ?_ _ | with_reducible refine Gr.drewN ?_ _ | with_reducible refine Gr.drew ?_ | with_reducible refine Gr.trans ?_ (by with_reducible assumption))); done)) _ | with_reducible refine Gr.trans ?_ (by with_reducible assumption)))
      go_wp2_with fail
      refine (HH.out _).mono ?_
      rintro e w2 ⟨rfl, g2⟩
      obtain ⟨X2, Y2, c2, f2⟩ := g2.use
      have z2 := g2.size
      have l2 : w.heap.size < w2.heap.size := by omega
      have k2 : w.heap.size + 1 < w2.heap.size := by omega
      have gw2 : Gr w w2 := gw1.trans g2
      go_wp2_with fail
      refine bodyPost_ret (v := fcE fc0 5) (by simp [results, Try.results31, go_sem, fc0, *]) rfl ⟨rfl, (by repeat (first | with_reducible exact Gr.refl _ | with_reducible assumption | with_reducible refine Gr.alloc ?_ _ | with_reducible refine Gr.drewN ?_ _ | with_reducible refine Gr.drew ?_ | with_reducible refine Gr.setCell ?_ (by first | (dsimp only; omega) | (simp only [World.size_alloc]; omega) | (with_reducible refine Gr.size ?_; (repeat (first | with_reducible exact Gr.refl _ | with_reducible assumption | with_reducible refine Gr.alloc ?_ _ | with_reducible refine Gr.drewN ?_ _ | with_reducible refine Gr.drew ?_ | with_reducible refine Gr.trans ?_ (by with_reducible assumption))); done)) _ | with_reducible refine Gr.trans ?_ (by with_reducible assumption)))⟩
  · have hE := holE_bad (n := n) (m := m) h0
    rw [holR_no (by rw [hE]; exact h0), hE]
    have h0' : (valE p != 0) = true := by simpa using h0
    generalize valE p = y at *
    clear hE hP h0
    go_enter Try.func31, Try.ntmps31
    go_wp2_with fail
    refine (HV.out _ (by repeat (first | with_reducible exact Gr.refl _ | with_reducible assumption | with_reducible refine Gr.alloc ?_ _ | with_reducible refine Gr.drewN ?_ _ | with_reducible refine Gr.drew ?_ | with_reducible refine Gr.setCell ?_ (by first | (dsimp only; omega) | (simp only [World.size_alloc]; omega) | (with_reducible refine Gr.size ?_; (repeat (first | with_reducible exact Gr.refl _ | with_reducible assumption | with_reducible refine Gr.alloc ?_ _ | with_reducible refine Gr.drewN ?_ _ | with_reducible refine Gr.drew ?_ | with_reducible refine Gr.trans ?_ (by with_reducible assumption))); done)) _ | with_reducible refine Gr.trans ?_ (by with_reducible assumption)))).mono ?_
    rintro e w1 ⟨rfl, g1⟩
    obtain ⟨X1, Y1, c1, f1⟩ := g1.use
    have z1 := g1.size
    simp only [World.size_alloc] at z1
    have l1 : w.heap.size < w1.heap.size := by omega
    have k1 : w.heap.size + 1 < w1.heap.size := by omega
    have gw1 : Gr w w1 := (by repeat (first | with_reducible exact Gr.refl _ | with_reducible assumption | with_reducible refine Gr.alloc ?_ _ | with_reducible refine Gr.drewN ?_ _ | with_reducible refine Gr.drew ?_ | with_reducible refine Gr.setCell ?_ (by first | (dsimp only; omega) | (simp only [World.size_alloc]; omega) | (with_reducible refine Gr.size ?_; (repeat (first | with_reducible exact Gr.refl _ | with_reducible assumption | with_reducible refine Gr.alloc ?_ _ | with_reducible refine Gr.drewN ?_ _ | with_reducible refine Gr.drew ?_ | with_reducible refine Gr.trans ?_ (by with_reducible assumption))); done)) _ | with_reducible refine Gr.trans ?_ (by with_reducible assumption)))
    go_wp2_with fail
    refine bodyPost_ret (v := fcE fc0 y) (by simp [results, Try.results31, go_sem, fc0, *]) rfl ⟨rfl, (by repeat (first | with_reducible exact Gr.refl _ | with_reducible assumption | with_reducible refine Gr.alloc ?_ _ | with_reducible refine Gr.drewN ?_ _ | with_reducible refine Gr.drew ?_ | with_reducible refine Gr.setCell ?_ (by first | (dsimp only; omega) | (simp only [World.size_alloc]; omega) | (with_reducible refine Gr.size ?_; (repeat (first | with_reducible exact Gr.refl _ | with_reducible assumption | with_reducible refine Gr.alloc ?_ _ | with_reducible refine Gr.drewN ?_ _ | with_reducible refine Gr.drew ?_ | with_reducible refine Gr.trans ?_ (by with_reducible assumption))); done)) _ | with_reducible refine Gr.trans ?_ (by with_reducible assumption)))⟩
end Go.Proofs.Ytpmomgfepkegnaa
namespace Go.Proofs.Ytpmomgfepkegnaa
open Go Go.ChangeShapes Go.WideShapes Go.ChangeAt Go.RowKit Go.Deep

set_option maxRecDepth 100000 in
set_option maxHeartbeats 4000000 in
theorem rHoleFace_any (p : Pa) (A B : Option Addr) (c d : Nat) (n m : Int) (w : World) (hP : PaW w p A c B d) :
    Calls Try.prog 32 #[pav p A c B d, iv n, iv m] w fun e w' => e = .returned (fcE (holR p n m) (holE p n m)) ∧ Gr w w' := by
  have HV := hide (fun (w' : World) (g : Gr w w') => rValidate_any p A B c d w' (hP.gr g))
  have nho := hP.ho.len
  by_cases h0 : valE p = 0
  · have G := good_of h0
    rw [h0] at HV
    have HM := hide (fun w' => full_any p A B c d w' G.nfl)
    rw [show ((2 ^ p.fl.length - 1 : Nat) : Int) = fuM p from rfl] at HM
    cases hn : wiB n 0 ((p.ho.length : Int) - 1) with
    | true =>
      have hE := holE_fac (m := m) h0 hn
      cases hm : wiB m 0 (fuM p) with
      | true =>
        have hf0 := facE_ok h0 hm
        obtain ⟨k, rfl, hk⟩ := wi_natH hn
        obtain ⟨x, hx⟩ : ∃ x, p.ho[k]? = some x := ⟨_, List.getElem?_eq_getElem hk⟩
        obtain ⟨q, g, hq, hg, hql⟩ := hole_face h0 hf0 hx
        have hR := holR_at (hE.trans hf0) hx hq hg
        rw [hR, hE, hf0]
        obtain ⟨mk, rfl, hmk⟩ := fuM_lt G.nfl hm
        have HL := facL_some hf0
        rw [show ((mk : Nat) : Int).toNat = mk from rfl] at HL
        have HPL := hide (fun (w' : World) (g : Gr w w') => place_any p A B c d mk w' (hP.fl.gr g) G.nfl hmk G.fl.fit)
        rw [← (facs_eq G.fl.fit p.fl.length (Nat.le_refl _)).1, ← HL] at HPL
        have hlen := facL_len (p := p) (m := mk)
        obtain ⟨b, off, hB, x0, x1, x2, x3, x4, x5⟩ := hP.ho.rd.ho hx
        subst hB
        have hb : b < w.heap.size := cell_lt (by rw [x0]; rfl)
        obtain ⟨fa, kd, hx', hy', hw', hh'⟩ := x
        simp only at hq x0 x1 x2 x3 x4 x5
        subst hq
        have hk0 : (0 : Int) ≤ (k : Int) := by omega
        have hk1 : (k : Int) < (p.ho.length : Int) := by omega
        have hq0 : (0 : Int) ≤ (q : Int) := by omega
        have hq1 : (q : Int) < ((facL p mk).length : Int) := by omega
        generalize facL p mk = FS at *
        generalize fuM p = M at *
        clear hE hR hP h0 hf0 hx G HL
        go_enter Try.func32, Try.ntmps32
        go_wp2_with fail
        refine (HV.out _ (by repeat (first | with_reducible exact Gr.refl _ | with_reducible assumption | with_reducible refine Gr.alloc ?_ _ | with_reducible refine Gr.drewN ?_ _ | with_reducible refine Gr.drew ?_ | with_reducible refine Gr.setCell ?_ (by first | (dsimp only; omega) | (simp only [World.size_alloc]; omega) | (with_reducible refine Gr.size ?_; (repeat (first | with_reducible exact Gr.refl _ | with_reducible assumption | with_reducible refine Gr.alloc ?_ _ | with_reducible refine Gr.drewN ?_ _ | with_reducible refine Gr.drew ?_ | with_reducible refine Gr.trans ?_ (by with_reducible assumption))); done)) _ | with_reducible refine Gr.trans ?_ (by with_reducible assumption)))).mono ?_
        rintro e w1 ⟨rfl, g1⟩
        obtain ⟨X1, Y1, c1, f1⟩ := g1.use
        have z1 := g1.size
        simp only [World.size_alloc] at z1
        have l1 : w.heap.size < w1.heap.size := by omega
        have k1 : w.heap.size + 1 < w1.heap.size := by omega
        have gw1 : Gr w w1 := (by repeat (first | with_reducible exact Gr.refl _ | with_reducible assumption | with_reducible refine Gr.alloc ?_ _ | with_reducible refine Gr.drewN ?_ _ | with_reducible refine Gr.drew ?_ | with_reducible refine Gr.setCell ?_ (by first | (dsimp only; omega) | (simp only [World.size_alloc]; omega) | (with_reducible refine Gr.size ?_; (repeat (first | with_reducible exact Gr.refl _ | with_reducible assumption | with_reducible refine Gr.alloc ?_ _ | with_reducible refine Gr.drewN ?_ _ | with_reducible refine Gr.drew ?_ | with_reducible refine Gr.trans ?_ (by with_reducible assumption))); done)) _ | with_reducible refine Gr.trans ?_ (by with_reducible assumption)))
        go_wp2_with (first | (go_at_call 66; refine (rwithin_any _ _ _ _).mono ?_; rintro e w1 ⟨rfl, rfl⟩))
        refine (HM.out _).mono ?_
        rintro e w2 ⟨rfl, g2⟩
        obtain ⟨X2, Y2, c2, f2⟩ := g2.use
        have z2 := g2.size
        have l2 : w.heap.size < w2.heap.size := by omega
        have k2 : w.heap.size + 1 < w2.heap.size := by omega
        have gw2 : Gr w w2 := gw1.trans g2
        go_upto_region 9 with (first | (go_at_call 66; refine (rwithin_any _ _ _ _).mono ?_; rintro e w1 ⟨rfl, rfl⟩))
        go_region_law (first
          | (go_simp; go_at_call 69; refine (HPL.out _ (gw2.trans (by repeat (first | with_reducible exact Gr.refl _ | with_reducible assumption | with_reducible refine Gr.alloc ?_ _ | with_reducible refine Gr.drewN ?_ _ | with_reducible refine Gr.drew ?_ | with_reducible refine Gr.setCell ?_ (by first | (dsimp only; omega) | (simp only [World.size_alloc]; omega) | (with_reducible refine Gr.size ?_; (repeat (first | with_reducible exact Gr.refl _ | with_reducible assumption | with_reducible refine Gr.alloc ?_ _ | with_reducible refine Gr.drewN ?_ _ | with_reducible refine Gr.drew ?_ | with_reducible refine Gr.trans ?_ (by with_reducible assumption))); done)) _ | with_reducible refine Gr.trans ?_ (by with_reducible assumption))))).mono ?_; rintro e w6 ⟨v6, rfl, ho6, g6⟩; obtain ⟨A6, d6, rfl⟩ := ho6.slice; obtain ⟨b3, off3, hA3, y0, y1, y2, y3, y4, y5, y6, y7, y8, y9, y10⟩ := (slC_own ho6 (by omega)).2.rd.fc hg; subst hA3; (have hb3 : b3 < w6.heap.size := cell_lt (by rw [y0]; rfl)); (have z6 := Gr.size (Gr.trans (show Gr (w2.alloc (.cells #[iv (q : Int), iv kd, iv hx', iv hy', iv hw', iv hh'] 57)) _ from (by repeat (first | with_reducible exact Gr.refl _ | with_reducible assumption | with_reducible refine Gr.alloc ?_ _ | with_reducible refine Gr.drewN ?_ _ | with_reducible refine Gr.drew ?_ | with_reducible refine Gr.setCell ?_ (by first | (dsimp only; omega) | (simp only [World.size_alloc]; omega) | (with_reducible refine Gr.size ?_; (repeat (first | with_reducible exact Gr.refl _ | with_reducible assumption | with_reducible refine Gr.alloc ?_ _ | with_reducible refine Gr.drewN ?_ _ | with_reducible refine Gr.drew ?_ | with_reducible refine Gr.trans ?_ (by with_reducible assumption))); done)) _ | with_reducible refine Gr.trans ?_ (by with_reducible assumption)))) g6)); simp only [World.size_alloc] at z6; (have gw6 : Gr w w6 := gw2.trans (by repeat (first | with_reducible exact Gr.refl _ | with_reducible assumption | with_reducible refine Gr.alloc ?_ _ | with_reducible refine Gr.drewN ?_ _ | with_reducible refine Gr.drew ?_ | with_reducible refine Gr.setCell ?_ (by first | (dsimp only; omega) | (simp only [World.size_alloc]; omega) | (with_reducible refine Gr.size ?_; (repeat (first | with_reducible exact Gr.refl _ | with_reducible assumption | with_reducible refine Gr.alloc ?_ _ | with_reducible refine Gr.drewN ?_ _ | with_reducible refine Gr.drew ?_ | with_reducible refine Gr.trans ?_ (by with_reducible assumption))); done)) _ | with_reducible refine Gr.trans ?_ (by with_reducible assumption))));  (have k6 : w.heap.size + 1 < w6.heap.size := by omega); (have l6 : w.heap.size < w6.heap.size := by omega); (have m6 : w2.heap.size < w6.heap.size := by omega); obtain ⟨X6, Y6, c6, f6⟩ := g6.use))
        all_goals
          clear hk0 hk1 hq0 hq1
          go_upto_region 10 with fail
          refine wp_region_new1 _ 15 (by kernel_rfl) (by kernel_rfl) (Gr.refl _) (z1 := #[iv 0, iv 0, iv 0]) (t1 := 113) rfl ⟨rfl, fun _ => rfl, rfl, fun a w => by go_simp⟩  ?_
          intro s gs
          obtain ⟨Xs, Ys, cs, fs⟩ := gs.use
          have GC := @GrW.cell
          simp only [List.take_succ_cons, List.take_zero]
          repeat (go_big_quiet_step ((first | (go_at_call 82; exact quiet_grw (three_any _ _ _ _)) | (go_at_call 81; exact quiet_grw (along_any _ _ _ _ _ _ _ _)))))
          refine wpQuiet_nil ?_
          clear GC cs fs gs
          intro B1 wq gq1 l1  ⟨b1, c1, f1⟩
          obtain ⟨Xq, Yq, cq, fq⟩ := gq1.use
          have sq := gq1.size
          (try simp only [World.size_alloc, World.size_setCell, World.heap_drewN] at sq l1 )
          simp only [List.drop_succ_cons, List.drop_zero]
          go_upto_region 11 with fail
          have GC := @GrW.cell
          refine wp_region_grw_tail _ 11 (by kernel_rfl) (by kernel_rfl) (Gr.refl _) ?_
          simp only [List.take_succ_cons, List.take_zero, List.drop_succ_cons, List.drop_zero]
          repeat (go_big_quiet_step ((first | (go_at_call 83; exact quiet_grw (rvec_any _ _ _ _)))))
          refine wpQuiet_nil ?_
          intro wq hwq
          obtain ⟨gq, hwq'⟩ := hwq
          subst hwq'
          clear GC
          have gq1 := gq.gr
          generalize gq.w = wq at gq1 ⊢
          obtain ⟨Xq, Yq, cq, fq⟩ := gq1.use
          have sq := gq1.size
          (try simp only [World.size_alloc, World.size_setCell, World.heap_drewN] at sq)
          go_wp2
          refine bodyPost_ret (v := fcE ⟨co2 g.ox hx' g.ux hy' g.vx, co2 g.oy hx' g.uy hy' g.vy, co2 g.oz hx' g.uz hy' g.vz, g.ux, g.uy, g.uz, g.vx, g.vy, g.vz, hw', hh'⟩ 0) (by simp [results, Try.results32, go_sem, co2, *]) rfl ⟨by unfold holF; rw [po_2, po_2, po_2], (by repeat (first | with_reducible exact Gr.refl _ | with_reducible assumption | with_reducible refine Gr.alloc ?_ _ | with_reducible refine Gr.drewN ?_ _ | with_reducible refine Gr.drew ?_ | with_reducible refine Gr.setCell ?_ (by first | (dsimp only; omega) | (simp only [World.size_alloc]; omega) | (with_reducible refine Gr.size ?_; (repeat (first | with_reducible exact Gr.refl _ | with_reducible assumption | with_reducible refine Gr.alloc ?_ _ | with_reducible refine Gr.drewN ?_ _ | with_reducible refine Gr.drew ?_ | with_reducible refine Gr.trans ?_ (by with_reducible assumption))); done)) _ | with_reducible refine Gr.trans ?_ (by with_reducible assumption)))⟩
      | false =>
        have hf0 := facE_arg h0 hm
        rw [holR_no (by rw [hE, hf0]; decide), hE, hf0]
        generalize fuM p = M at *
        clear hE hP h0 hf0 G
        go_enter Try.func32, Try.ntmps32
        go_wp2_with fail
        refine (HV.out _ (by repeat (first | with_reducible exact Gr.refl _ | with_reducible assumption | with_reducible refine Gr.alloc ?_ _ | with_reducible refine Gr.drewN ?_ _ | with_reducible refine Gr.drew ?_ | with_reducible refine Gr.setCell ?_ (by first | (dsimp only; omega) | (simp only [World.size_alloc]; omega) | (with_reducible refine Gr.size ?_; (repeat (first | with_reducible exact Gr.refl _ | with_reducible assumption | with_reducible refine Gr.alloc ?_ _ | with_reducible refine Gr.drewN ?_ _ | with_reducible refine Gr.drew ?_ | with_reducible refine Gr.trans ?_ (by with_reducible assumption))); done)) _ | with_reducible refine Gr.trans ?_ (by with_reducible assumption)))).mono ?_
        rintro e w1 ⟨rfl, g1⟩
        obtain ⟨X1, Y1, c1, f1⟩ := g1.use
        have z1 := g1.size
        simp only [World.size_alloc] at z1
        have l1 : w.heap.size < w1.heap.size := by omega
        have k1 : w.heap.size + 1 < w1.heap.size := by omega
        have gw1 : Gr w w1 := (by repeat (first | with_reducible exact Gr.refl _ | with_reducible assumption | with_reducible refine Gr.alloc ?_ _ | with_reducible refine Gr.drewN ?_ _ | with_reducible refine Gr.drew ?_ | with_reducible refine Gr.setCell ?_ (by first | (dsimp only; omega) | (simp only [World.size_alloc]; omega) | (with_reducible refine Gr.size ?_; (repeat (first | with_reducible exact Gr.refl _ | with_reducible assumption | with_reducible refine Gr.alloc ?_ _ | with_reducible refine Gr.drewN ?_ _ | with_reducible refine Gr.drew ?_ | with_reducible refine Gr.trans ?_ (by with_reducible assumption))); done)) _ | with_reducible refine Gr.trans ?_ (by with_reducible assumption)))
        go_wp2_with (first | (go_at_call 66; refine (rwithin_any _ _ _ _).mono ?_; rintro e w1 ⟨rfl, rfl⟩))
        refine (HM.out _).mono ?_
        rintro e w2 ⟨rfl, g2⟩
        obtain ⟨X2, Y2, c2, f2⟩ := g2.use
        have z2 := g2.size
        have l2 : w.heap.size < w2.heap.size := by omega
        have k2 : w.heap.size + 1 < w2.heap.size := by omega
        have gw2 : Gr w w2 := gw1.trans g2
        go_wp2_with (first | (go_at_call 66; refine (rwithin_any _ _ _ _).mono ?_; rintro e w1 ⟨rfl, rfl⟩))
        refine bodyPost_ret (v := fcE fc0 1) (by simp [results, Try.results32, go_sem, fc0, *]) rfl ⟨rfl, (by repeat (first | with_reducible exact Gr.refl _ | with_reducible assumption | with_reducible refine Gr.alloc ?_ _ | with_reducible refine Gr.drewN ?_ _ | with_reducible refine Gr.drew ?_ | with_reducible refine Gr.setCell ?_ (by first | (dsimp only; omega) | (simp only [World.size_alloc]; omega) | (with_reducible refine Gr.size ?_; (repeat (first | with_reducible exact Gr.refl _ | with_reducible assumption | with_reducible refine Gr.alloc ?_ _ | with_reducible refine Gr.drewN ?_ _ | with_reducible refine Gr.drew ?_ | with_reducible refine Gr.trans ?_ (by with_reducible assumption))); done)) _ | with_reducible refine Gr.trans ?_ (by with_reducible assumption)))⟩
    | false =>
      have hE := holE_none (m := m) h0 hn
      rw [holR_no (by rw [hE]; decide), hE]
      clear hE hP h0 G
      go_enter Try.func32, Try.ntmps32
      go_wp2_with fail
      refine (HV.out _ (by repeat (first | with_reducible exact Gr.refl _ | with_reducible assumption | with_reducible refine Gr.alloc ?_ _ | with_reducible refine Gr.drewN ?_ _ | with_reducible refine Gr.drew ?_ | with_reducible refine Gr.setCell ?_ (by first | (dsimp only; omega) | (simp only [World.size_alloc]; omega) | (with_reducible refine Gr.size ?_; (repeat (first | with_reducible exact Gr.refl _ | with_reducible assumption | with_reducible refine Gr.alloc ?_ _ | with_reducible refine Gr.drewN ?_ _ | with_reducible refine Gr.drew ?_ | with_reducible refine Gr.trans ?_ (by with_reducible assumption))); done)) _ | with_reducible refine Gr.trans ?_ (by with_reducible assumption)))).mono ?_
      rintro e w1 ⟨rfl, g1⟩
      obtain ⟨X1, Y1, c1, f1⟩ := g1.use
      have z1 := g1.size
      simp only [World.size_alloc] at z1
      have l1 : w.heap.size < w1.heap.size := by omega
      have k1 : w.heap.size + 1 < w1.heap.size := by omega
      have gw1 : Gr w w1 := (by repeat (first | with_reducible exact Gr.refl _ | with_reducible assumption | with_reducible refine Gr.alloc ?_ _ | with_reducible refine Gr.drewN ?_ _ | with_reducible refine Gr.drew ?_ | with_reducible refine Gr.setCell ?_ (by first | (dsimp only; omega) | (simp only [World.size_alloc]; omega) | (with_reducible refine Gr.size ?_; (repeat (first | with_reducible exact Gr.refl _ | with_reducible assumption | with_reducible refine Gr.alloc ?_ _ | with_reducible refine Gr.drewN ?_ _ | with_reducible refine Gr.drew ?_ | with_reducible refine Gr.trans ?_ (by with_reducible assumption))); done)) _ | with_reducible refine Gr.trans ?_ (by with_reducible assumption)))
      go_wp2_with (first | (go_at_call 66; refine (rwithin_any _ _ _ _).mono ?_; rintro e w1 ⟨rfl, rfl⟩))
      refine bodyPost_ret (v := fcE fc0 5) (by simp [results, Try.results32, go_sem, fc0, *]) rfl ⟨rfl, (by repeat (first | with_reducible exact Gr.refl _ | with_reducible assumption | with_reducible refine Gr.alloc ?_ _ | with_reducible refine Gr.drewN ?_ _ | with_reducible refine Gr.drew ?_ | with_reducible refine Gr.setCell ?_ (by first | (dsimp only; omega) | (simp only [World.size_alloc]; omega) | (with_reducible refine Gr.size ?_; (repeat (first | with_reducible exact Gr.refl _ | with_reducible assumption | with_reducible refine Gr.alloc ?_ _ | with_reducible refine Gr.drewN ?_ _ | with_reducible refine Gr.drew ?_ | with_reducible refine Gr.trans ?_ (by with_reducible assumption))); done)) _ | with_reducible refine Gr.trans ?_ (by with_reducible assumption)))⟩
  · have hE := holE_bad (n := n) (m := m) h0
    rw [holR_no (by rw [hE]; exact h0), hE]
    have h0' : (valE p != 0) = true := by simpa using h0
    generalize valE p = y at *
    clear hE hP h0
    go_enter Try.func32, Try.ntmps32
    go_wp2_with fail
    refine (HV.out _ (by repeat (first | with_reducible exact Gr.refl _ | with_reducible assumption | with_reducible refine Gr.alloc ?_ _ | with_reducible refine Gr.drewN ?_ _ | with_reducible refine Gr.drew ?_ | with_reducible refine Gr.setCell ?_ (by first | (dsimp only; omega) | (simp only [World.size_alloc]; omega) | (with_reducible refine Gr.size ?_; (repeat (first | with_reducible exact Gr.refl _ | with_reducible assumption | with_reducible refine Gr.alloc ?_ _ | with_reducible refine Gr.drewN ?_ _ | with_reducible refine Gr.drew ?_ | with_reducible refine Gr.trans ?_ (by with_reducible assumption))); done)) _ | with_reducible refine Gr.trans ?_ (by with_reducible assumption)))).mono ?_
    rintro e w1 ⟨rfl, g1⟩
    obtain ⟨X1, Y1, c1, f1⟩ := g1.use
    have z1 := g1.size
    simp only [World.size_alloc] at z1
    have l1 : w.heap.size < w1.heap.size := by omega
    have k1 : w.heap.size + 1 < w1.heap.size := by omega
    have gw1 : Gr w w1 := (by repeat (first | with_reducible exact Gr.refl _ | with_reducible assumption | with_reducible refine Gr.alloc ?_ _ | with_reducible refine Gr.drewN ?_ _ | with_reducible refine Gr.drew ?_ | with_reducible refine Gr.setCell ?_ (by first | (dsimp only; omega) | (simp only [World.size_alloc]; omega) | (with_reducible refine Gr.size ?_; (repeat (first | with_reducible exact Gr.refl _ | with_reducible assumption | with_reducible refine Gr.alloc ?_ _ | with_reducible refine Gr.drewN ?_ _ | with_reducible refine Gr.drew ?_ | with_reducible refine Gr.trans ?_ (by with_reducible assumption))); done)) _ | with_reducible refine Gr.trans ?_ (by with_reducible assumption)))
    go_wp2_with fail
    refine bodyPost_ret (v := fcE fc0 y) (by simp [results, Try.results32, go_sem, fc0, *]) rfl ⟨rfl, (by repeat (first | with_reducible exact Gr.refl _ | with_reducible assumption | with_reducible refine Gr.alloc ?_ _ | with_reducible refine Gr.drewN ?_ _ | with_reducible refine Gr.drew ?_ | with_reducible refine Gr.setCell ?_ (by first | (dsimp only; omega) | (simp only [World.size_alloc]; omega) | (with_reducible refine Gr.size ?_; (repeat (first | with_reducible exact Gr.refl _ | with_reducible assumption | with_reducible refine Gr.alloc ?_ _ | with_reducible refine Gr.drewN ?_ _ | with_reducible refine Gr.drew ?_ | with_reducible refine Gr.trans ?_ (by with_reducible assumption))); done)) _ | with_reducible refine Gr.trans ?_ (by with_reducible assumption)))⟩
end Go.Proofs.Ytpmomgfepkegnaa
