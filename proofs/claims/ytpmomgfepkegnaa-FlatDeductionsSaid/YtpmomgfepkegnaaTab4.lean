/-
  Bend tables: the deduction of an angle, in the code.
-/
import Derived.Test.YtpmomgfepkegnaaTab3
set_option linter.unusedVariables false
set_option linter.unusedSimpArgs false
namespace Go.Proofs.Ytpmomgfepkegnaa
set_option linter.unusedVariables false
set_option linter.unusedSimpArgs false
open Go Go.ChangeShapes Go.WideShapes Go.ChangeAt Go.RowKit Go.Deep

set_option maxHeartbeats 1000000 in
theorem twelfths_any (x : En) (w : World) (h : enB x = true) :
    Calls Try.prog 154 #[env x] w fun e w' => e = .returned (iv (twI x)) ∧ Gr w w' := by
  obtain ⟨-, b1, b2⟩ := en_ra h
  have W1 : IntKind.i64.wrap (x.nm * 12) = x.nm * 12 := IntWalk.i64_in _ (by omega)
  have W2 : IntKind.i64.wrap ((x.nm * 12).tdiv x.dn) = (x.nm * 12).tdiv x.dn := IntWalk.i64_quo' _ _ (by omega)
  have hz : ¬ x.dn = 0 := by omega
  have hz2 : (x.dn == 0) = false := by simpa using hz
  have HE := hide (show (x.nm * 12).tdiv x.dn = twI x from rfl)
  clear b1 b2 h
  go_enter Try.func154, Try.ntmps154
  go_wp2
  go_ret
  exact ⟨ret_iv' HE.out, (by repeat (first | with_reducible exact Gr.refl _ | with_reducible assumption | with_reducible refine Gr.alloc ?_ _ | with_reducible refine Gr.drewN ?_ _ | with_reducible refine Gr.drew ?_ | with_reducible refine Gr.setCell ?_ (by first | (dsimp only; omega) | (simp only [World.size_alloc]; omega) | (with_reducible refine Gr.size ?_; (repeat (first | with_reducible exact Gr.refl _ | with_reducible assumption | with_reducible refine Gr.alloc ?_ _ | with_reducible refine Gr.drewN ?_ _ | with_reducible refine Gr.drew ?_ | with_reducible refine Gr.trans ?_ (by with_reducible assumption))); done)) _ | with_reducible refine Gr.trans ?_ (by with_reducible assumption)))⟩
set_option maxRecDepth 100000 in
set_option maxHeartbeats 1000000 in
theorem between_any (x y : En) (a : Int) (w : World) (hx : enB x = true) (hy : enB y = true) (h1 : x.an < a) (h2 : a < y.an) :
    Calls Try.prog 97 #[env x, env y, iv a] w fun e w' => e = .returned (ra (beN x y a) (beD x y)) ∧ Gr w w' := by
  obtain ⟨-, ⟨p1, p2⟩, p3, p4⟩ := be_ok hx hy h1 h2
  obtain ⟨a1, _⟩ := enB_use hx
  obtain ⟨a2, _⟩ := enB_use hy
  have t1 := tw_bd hx
  have t2 := tw_bd hy
  have q3 : 0 ≤ twI x * (y.an - a) := Int.mul_nonneg (by omega) (by omega)
  have q4 : 0 ≤ twI y * (a - x.an) := Int.mul_nonneg (by omega) (by omega)
  have HE := hide (show twI x * (y.an - a) + twI y * (a - x.an) = beN x y a from rfl)
  have HD := hide (show 12 * (y.an - x.an) = beD x y from rfl)
  have HX := hide (fun w => twelfths_any x w hx)
  have HY := hide (fun w => twelfths_any y w hy)
  rw [← HE.out] at p1 p2
  generalize twI x = p at *
  generalize twI y = q at *
  have W1 : IntKind.i64.wrap (y.an - a) = y.an - a := IntWalk.i64_in _ (by omega)
  have W2 : IntKind.i64.wrap (p * (y.an - a)) = p * (y.an - a) := IntWalk.i64_in _ (by omega)
  have W3 : IntKind.i64.wrap (a - x.an) = a - x.an := IntWalk.i64_in _ (by omega)
  have W4 : IntKind.i64.wrap (q * (a - x.an)) = q * (a - x.an) := IntWalk.i64_in _ (by omega)
  have W5 : IntKind.i64.wrap (p * (y.an - a) + q * (a - x.an)) = p * (y.an - a) + q * (a - x.an) := IntWalk.i64_in _ (by omega)
  have W6 : IntKind.i64.wrap (y.an - x.an) = y.an - x.an := IntWalk.i64_in _ (by omega)
  have W7 : IntKind.i64.wrap (12 * (y.an - x.an)) = 12 * (y.an - x.an) := IntWalk.i64_in _ (by omega)
  clear p1 p2 p3 p4 a1 a2 t1 t2 q3 q4 h1 h2 hx hy
  go_enter Try.func97, Try.ntmps97
  go_upto_region 1 with fail
  have GC := @GrW.cell
  refine wp_region_grw_tail _ 22 (by kernel_rfl) (by kernel_rfl) (Gr.refl _) ?_
  simp only [List.take_succ_cons, List.take_zero, List.drop_succ_cons, List.drop_zero]
  repeat (go_big_quiet_step ((first | (go_at_call 154; exact quiet_grw (HX.out _)) | (go_at_call 154; exact quiet_grw (HY.out _)))))
  refine wpQuiet_nil ?_
  intro wq hwq
  obtain ⟨gq, hwq'⟩ := hwq
  subst hwq'
  clear GC
  have gq1 := gq.gr
  generalize gq.w = wq at gq1 ⊢
  obtain ⟨Xq, Yq, cq, fq⟩ := gq1.use
  have sq := gq1.size
  (try simp only [World.size_alloc, World.size_setCell, World.heap_drewN] at sq)
  go_wp2
  refine bodyPost_ret (v := ra (p * (y.an - a) + q * (a - x.an)) (12 * (y.an - x.an))) (by simp [results, Try.results97, go_sem, *]) rfl ⟨by rw [HE.out, HD.out], (by repeat (first | with_reducible exact Gr.refl _ | with_reducible assumption | with_reducible refine Gr.alloc ?_ _ | with_reducible refine Gr.drewN ?_ _ | with_reducible refine Gr.drew ?_ | with_reducible refine Gr.setCell ?_ (by first | (dsimp only; omega) | (simp only [World.size_alloc]; omega) | (with_reducible refine Gr.size ?_; (repeat (first | with_reducible exact Gr.refl _ | with_reducible assumption | with_reducible refine Gr.alloc ?_ _ | with_reducible refine Gr.drewN ?_ _ | with_reducible refine Gr.drew ?_ | with_reducible refine Gr.trans ?_ (by with_reducible assumption))); done)) _ | with_reducible refine Gr.trans ?_ (by with_reducible assumption)))⟩
theorem dedA_bad {t : Tb} {a : Int} (h : tbE t = 9) : dedA t a = (0, 0, 9) := by
  unfold dedA
  rw [h]
  rfl
theorem dedA_ang {t : Tb} {a : Int} (h : tbE t = 0) (k : a6B a = false) : dedA t a = (0, 0, 1) := by
  unfold dedA
  rw [h, k]
  rfl
theorem dedA_good {t : Tb} {a : Int} (h : tbE t = 0) (k : a6B a = true) : dedA t a = dedV t.en a := by
  unfold dedA
  rw [h, k]
  rfl
theorem dedV_none {l : List En} {a : Int} (h : l[cutI l a]? = none) : dedV l a = (0, 0, 5) := by
  unfold dedV
  rw [h]
theorem dedV_found {l : List En} {a : Int} {y : En} (h : l[cutI l a]? = some y) (e : y.an = a) : dedV l a = (rdN y.nm y.dn, rdD y.nm y.dn, 0) := by
  unfold dedV
  rw [h]
  exact if_pos e
theorem dedV_zero {l : List En} {a : Int} {y : En} (h : l[cutI l a]? = some y) (e : ¬ y.an = a) (k : cutI l a = 0) : dedV l a = (0, 0, 5) := by
  unfold dedV
  rw [h]
  simp only [if_neg e, if_pos k]
theorem dedV_mid {l : List En} {a : Int} {x y : En} (h : l[cutI l a]? = some y) (e : ¬ y.an = a) (k : ¬ cutI l a = 0) (hx : l[cutI l a - 1]? = some x) : dedV l a = (rdN (beN x y a) (beD x y), rdD (beN x y a) (beD x y), 0) := by
  unfold dedV
  rw [h]
  simp only [if_neg e, if_neg k, hx]
theorem fdB_some {l : List En} {a : Int} {y : En} (h : l[cutI l a]? = some y) : fdB l a = (y.an == a) := by
  unfold fdB
  rw [h]
theorem fdB_none {l : List En} {a : Int} (h : l[cutI l a]? = none) : fdB l a = false := by
  unfold fdB
  rw [h]
set_option maxRecDepth 100000 in
set_option maxHeartbeats 4000000 in
theorem Deduction_any (t : Tb) (A : Option Addr) (c : Nat) (a : Int) (w : World) (hE : SlE w A c t.en) (hs : t.mt.size ≤ 1000) :
    Calls Try.prog 40 #[tbv t A c, iv a] w fun e w' => e = .returned (trV (dedA t a)) ∧ Gr w w' := by
  have hlen := hE.len
  have HF := hide hE
  have HV := hide (fun (w' : World) (g : Gr w w') => fValidate_any t A c w' (hE.gr g) hs)
  clear hE
  rcases tbE_cases t with h0 | h0
  · rw [h0] at HV
    cases ha : a6B a with
    | false =>
      rw [dedA_ang h0 ha]
      go_enter Try.func40, Try.ntmps40
      go_wp2_with fail
      refine (HV.out _ (by repeat (first | with_reducible exact Gr.refl _ | with_reducible assumption | with_reducible refine Gr.alloc ?_ _ | with_reducible refine Gr.drewN ?_ _ | with_reducible refine Gr.drew ?_ | with_reducible refine Gr.setCell ?_ (by first | (dsimp only; omega) | (simp only [World.size_alloc]; omega) | (with_reducible refine Gr.size ?_; (repeat (first | with_reducible exact Gr.refl _ | with_reducible assumption | with_reducible refine Gr.alloc ?_ _ | with_reducible refine Gr.drewN ?_ _ | with_reducible refine Gr.drew ?_ | with_reducible refine Gr.trans ?_ (by with_reducible assumption))); done)) _ | with_reducible refine Gr.trans ?_ (by with_reducible assumption)))).mono ?_
      rintro e w1 ⟨rfl, g1⟩
      obtain ⟨X1, Y1, c1, f1⟩ := g1.use
      have z1 := g1.size
      simp only [World.size_alloc] at z1
      have l1 : w.heap.size + 1 < w1.heap.size := by omega
      have l0 : w.heap.size < w1.heap.size := by omega
      go_wp2_with (first | (go_at_call 93; refine (fvalidAngle_any _ _).mono ?_; rintro e w1 ⟨rfl, rfl⟩))
      refine bodyPost_ret (v := trV (0, 0, 1)) (by simp [results, Try.results40, go_sem, *]) rfl ⟨rfl, (by repeat (first | with_reducible exact Gr.refl _ | with_reducible assumption | with_reducible refine Gr.alloc ?_ _ | with_reducible refine Gr.drewN ?_ _ | with_reducible refine Gr.drew ?_ | with_reducible refine Gr.setCell ?_ (by first | (dsimp only; omega) | (simp only [World.size_alloc]; omega) | (with_reducible refine Gr.size ?_; (repeat (first | with_reducible exact Gr.refl _ | with_reducible assumption | with_reducible refine Gr.alloc ?_ _ | with_reducible refine Gr.drewN ?_ _ | with_reducible refine Gr.drew ?_ | with_reducible refine Gr.trans ?_ (by with_reducible assumption))); done)) _ | with_reducible refine Gr.trans ?_ (by with_reducible assumption)))⟩
    | true =>
      obtain ⟨hok1, hok2⟩ := tbE_ok h0
      have HS := hide (asc_of hok2)
      have HEN := hide (fun (k : Nat) (x : En) (hx : t.en[k]? = some x) => en_of hok2 hx)
      have HB := hide (fun (w' : World) (g : Gr w w') => bsf_any A c t.en a w' (HF.out.gr g) HS.out)
      rw [dedA_good h0 ha]
      have hc := cut_le t.en a
      clear hok1 hok2 h0
      cases hy : t.en[cutI t.en a]? with
      | none =>
        rw [dedV_none hy]
        rw [fdB_none hy] at HB
        have hn : cutI t.en a = t.en.length := by have := List.getElem?_eq_none_iff.1 hy; omega
        have hn1 : ((t.en.length : Int) == 0) = true ∨ (((t.en.length : Int) == 0) = false) := by cases ((t.en.length : Int) == 0) <;> simp
        rw [hn] at HB
        clear hy hn hc
        go_enter Try.func40, Try.ntmps40
        go_wp2_with fail
        refine (HV.out _ (by repeat (first | with_reducible exact Gr.refl _ | with_reducible assumption | with_reducible refine Gr.alloc ?_ _ | with_reducible refine Gr.drewN ?_ _ | with_reducible refine Gr.drew ?_ | with_reducible refine Gr.setCell ?_ (by first | (dsimp only; omega) | (simp only [World.size_alloc]; omega) | (with_reducible refine Gr.size ?_; (repeat (first | with_reducible exact Gr.refl _ | with_reducible assumption | with_reducible refine Gr.alloc ?_ _ | with_reducible refine Gr.drewN ?_ _ | with_reducible refine Gr.drew ?_ | with_reducible refine Gr.trans ?_ (by with_reducible assumption))); done)) _ | with_reducible refine Gr.trans ?_ (by with_reducible assumption)))).mono ?_
        rintro e w1 ⟨rfl, g1⟩
        obtain ⟨X1, Y1, c1, f1⟩ := g1.use
        have z1 := g1.size
        simp only [World.size_alloc] at z1
        have l1 : w.heap.size + 1 < w1.heap.size := by omega
        have l0 : w.heap.size < w1.heap.size := by omega
        go_wp2_with (first | (go_at_call 93; refine (fvalidAngle_any _ _).mono ?_; rintro e w1 ⟨rfl, rfl⟩))
        refine (HB.out _ (by repeat (first | with_reducible exact Gr.refl _ | with_reducible assumption | with_reducible refine Gr.alloc ?_ _ | with_reducible refine Gr.drewN ?_ _ | with_reducible refine Gr.drew ?_ | with_reducible refine Gr.setCell ?_ (by first | (dsimp only; omega) | (simp only [World.size_alloc]; omega) | (with_reducible refine Gr.size ?_; (repeat (first | with_reducible exact Gr.refl _ | with_reducible assumption | with_reducible refine Gr.alloc ?_ _ | with_reducible refine Gr.drewN ?_ _ | with_reducible refine Gr.drew ?_ | with_reducible refine Gr.trans ?_ (by with_reducible assumption))); done)) _ | with_reducible refine Gr.trans ?_ (by with_reducible assumption)))).mono ?_
        rintro e w2 ⟨rfl, g2⟩
        obtain ⟨X2, Y2, c2, f2⟩ := g2.use
        have z2 := g2.size
        have m1 : w.heap.size + 1 < w2.heap.size := by omega
        have m0 : w.heap.size < w2.heap.size := by omega
        rcases hn1 with hn1 | hn1
        all_goals
          go_wp2_with fail
          refine bodyPost_ret (v := trV (0, 0, 5)) (by simp [results, Try.results40, go_sem, *]) rfl ⟨rfl, (by repeat (first | with_reducible exact Gr.refl _ | with_reducible assumption | with_reducible refine Gr.alloc ?_ _ | with_reducible refine Gr.drewN ?_ _ | with_reducible refine Gr.drew ?_ | with_reducible refine Gr.setCell ?_ (by first | (dsimp only; omega) | (simp only [World.size_alloc]; omega) | (with_reducible refine Gr.size ?_; (repeat (first | with_reducible exact Gr.refl _ | with_reducible assumption | with_reducible refine Gr.alloc ?_ _ | with_reducible refine Gr.drewN ?_ _ | with_reducible refine Gr.drew ?_ | with_reducible refine Gr.trans ?_ (by with_reducible assumption))); done)) _ | with_reducible refine Gr.trans ?_ (by with_reducible assumption)))⟩
      | some y =>
        have hn : cutI t.en a < t.en.length := (List.getElem?_eq_some_iff.1 hy).1
        rw [fdB_some hy] at HB
        have HY := hide hy
        have hey := HEN.out _ _ hy
        obtain ⟨b, off, hA, y0, y1, y2⟩ := HF.out.rd.en hy
        subst hA
        have hb : b < w.heap.size := cell_lt (by rw [y0]; rfl)
        clear hy hc
        by_cases hya : y.an = a
        · rw [dedV_found HY.out hya]
          have HR := hide (fun w => Reduce_any y.nm y.dn w)
          rw [show redV y.nm y.dn = (rdN y.nm y.dn, rdD y.nm y.dn, 0) by unfold redV; rw [(en_ra hey).1]; rfl] at HR
          rw [show (y.an == a) = true by simpa using hya] at HB
          generalize rdN y.nm y.dn = rn at *
          generalize rdD y.nm y.dn = rd at *
          clear HY hey hya
          generalize cutI t.en a = n at *
          have hn0 : (0 : Int) ≤ (n : Int) := by omega
          have hn1 : (n : Int) < (t.en.length : Int) := by omega
          go_enter Try.func40, Try.ntmps40
          go_wp2_with fail
          refine (HV.out _ (by repeat (first | with_reducible exact Gr.refl _ | with_reducible assumption | with_reducible refine Gr.alloc ?_ _ | with_reducible refine Gr.drewN ?_ _ | with_reducible refine Gr.drew ?_ | with_reducible refine Gr.setCell ?_ (by first | (dsimp only; omega) | (simp only [World.size_alloc]; omega) | (with_reducible refine Gr.size ?_; (repeat (first | with_reducible exact Gr.refl _ | with_reducible assumption | with_reducible refine Gr.alloc ?_ _ | with_reducible refine Gr.drewN ?_ _ | with_reducible refine Gr.drew ?_ | with_reducible refine Gr.trans ?_ (by with_reducible assumption))); done)) _ | with_reducible refine Gr.trans ?_ (by with_reducible assumption)))).mono ?_
          rintro e w1 ⟨rfl, g1⟩
          obtain ⟨X1, Y1, c1, f1⟩ := g1.use
          have z1 := g1.size
          simp only [World.size_alloc] at z1
          have l1 : w.heap.size + 1 < w1.heap.size := by omega
          have l0 : w.heap.size < w1.heap.size := by omega
          go_wp2_with (first | (go_at_call 93; refine (fvalidAngle_any _ _).mono ?_; rintro e w1 ⟨rfl, rfl⟩))
          refine (HB.out _ (by repeat (first | with_reducible exact Gr.refl _ | with_reducible assumption | with_reducible refine Gr.alloc ?_ _ | with_reducible refine Gr.drewN ?_ _ | with_reducible refine Gr.drew ?_ | with_reducible refine Gr.setCell ?_ (by first | (dsimp only; omega) | (simp only [World.size_alloc]; omega) | (with_reducible refine Gr.size ?_; (repeat (first | with_reducible exact Gr.refl _ | with_reducible assumption | with_reducible refine Gr.alloc ?_ _ | with_reducible refine Gr.drewN ?_ _ | with_reducible refine Gr.drew ?_ | with_reducible refine Gr.trans ?_ (by with_reducible assumption))); done)) _ | with_reducible refine Gr.trans ?_ (by with_reducible assumption)))).mono ?_
          rintro e w2 ⟨rfl, g2⟩
          obtain ⟨X2, Y2, c2, f2⟩ := g2.use
          have z2 := g2.size
          have m1 : w.heap.size + 1 < w2.heap.size := by omega
          have m0 : w.heap.size < w2.heap.size := by omega
          have hb2 : b < w2.heap.size := by omega
          have hb1 : b < w1.heap.size := by omega
          go_upto_region 8 with fail
          have GC := @GrW.cell
          refine wp_region_grw_tail _ 16 (by kernel_rfl) (by kernel_rfl) (Gr.refl _) ?_
          simp only [List.take_succ_cons, List.take_zero, List.drop_succ_cons, List.drop_zero]
          repeat (go_big_quiet_step ((first | (go_at_call 92; exact quiet_grw (HR.out _)))))
          refine wpQuiet_nil ?_
          intro wq hwq
          obtain ⟨gq, hwq'⟩ := hwq
          subst hwq'
          clear GC
          have gq1 := gq.gr
          generalize gq.w = wq at gq1 ⊢
          obtain ⟨Xq, Yq, cq, fq⟩ := gq1.use
          have sq := gq1.size
          (try simp only [World.size_alloc, World.size_setCell, World.heap_drewN] at sq)
          go_wp2
          refine bodyPost_ret (v := trV (rn, rd, 0)) (by simp [results, Try.results40, go_sem, *]) rfl ⟨rfl, (by repeat (first | with_reducible exact Gr.refl _ | with_reducible assumption | with_reducible refine Gr.alloc ?_ _ | with_reducible refine Gr.drewN ?_ _ | with_reducible refine Gr.drew ?_ | with_reducible refine Gr.setCell ?_ (by first | (dsimp only; omega) | (simp only [World.size_alloc]; omega) | (with_reducible refine Gr.size ?_; (repeat (first | with_reducible exact Gr.refl _ | with_reducible assumption | with_reducible refine Gr.alloc ?_ _ | with_reducible refine Gr.drewN ?_ _ | with_reducible refine Gr.drew ?_ | with_reducible refine Gr.trans ?_ (by with_reducible assumption))); done)) _ | with_reducible refine Gr.trans ?_ (by with_reducible assumption)))⟩
        · rw [show (y.an == a) = false by simpa using hya] at HB
          by_cases hn0 : cutI t.en a = 0
          · rw [dedV_zero HY.out hya hn0]
            rw [hn0] at HB hn
            have HB' := HB
            clear HY hey hya hn0
            have hl0 : 0 < t.en.length := hn
            go_enter Try.func40, Try.ntmps40
            go_wp2_with fail
            refine (HV.out _ (by repeat (first | with_reducible exact Gr.refl _ | with_reducible assumption | with_reducible refine Gr.alloc ?_ _ | with_reducible refine Gr.drewN ?_ _ | with_reducible refine Gr.drew ?_ | with_reducible refine Gr.setCell ?_ (by first | (dsimp only; omega) | (simp only [World.size_alloc]; omega) | (with_reducible refine Gr.size ?_; (repeat (first | with_reducible exact Gr.refl _ | with_reducible assumption | with_reducible refine Gr.alloc ?_ _ | with_reducible refine Gr.drewN ?_ _ | with_reducible refine Gr.drew ?_ | with_reducible refine Gr.trans ?_ (by with_reducible assumption))); done)) _ | with_reducible refine Gr.trans ?_ (by with_reducible assumption)))).mono ?_
            rintro e w1 ⟨rfl, g1⟩
            obtain ⟨X1, Y1, c1, f1⟩ := g1.use
            have z1 := g1.size
            simp only [World.size_alloc] at z1
            have l1 : w.heap.size + 1 < w1.heap.size := by omega
            have l0 : w.heap.size < w1.heap.size := by omega
            go_wp2_with (first | (go_at_call 93; refine (fvalidAngle_any _ _).mono ?_; rintro e w1 ⟨rfl, rfl⟩))
            refine (HB.out _ (by repeat (first | with_reducible exact Gr.refl _ | with_reducible assumption | with_reducible refine Gr.alloc ?_ _ | with_reducible refine Gr.drewN ?_ _ | with_reducible refine Gr.drew ?_ | with_reducible refine Gr.setCell ?_ (by first | (dsimp only; omega) | (simp only [World.size_alloc]; omega) | (with_reducible refine Gr.size ?_; (repeat (first | with_reducible exact Gr.refl _ | with_reducible assumption | with_reducible refine Gr.alloc ?_ _ | with_reducible refine Gr.drewN ?_ _ | with_reducible refine Gr.drew ?_ | with_reducible refine Gr.trans ?_ (by with_reducible assumption))); done)) _ | with_reducible refine Gr.trans ?_ (by with_reducible assumption)))).mono ?_
            rintro e w2 ⟨rfl, g2⟩
            obtain ⟨X2, Y2, c2, f2⟩ := g2.use
            have z2 := g2.size
            have m1 : w.heap.size + 1 < w2.heap.size := by omega
            have m0 : w.heap.size < w2.heap.size := by omega
            have hb2 : b < w2.heap.size := by omega
            have hb1 : b < w1.heap.size := by omega
            go_wp2_with fail
            refine bodyPost_ret (v := trV (0, 0, 5)) (by simp [results, Try.results40, go_sem, *]) rfl ⟨rfl, (by repeat (first | with_reducible exact Gr.refl _ | with_reducible assumption | with_reducible refine Gr.alloc ?_ _ | with_reducible refine Gr.drewN ?_ _ | with_reducible refine Gr.drew ?_ | with_reducible refine Gr.setCell ?_ (by first | (dsimp only; omega) | (simp only [World.size_alloc]; omega) | (with_reducible refine Gr.size ?_; (repeat (first | with_reducible exact Gr.refl _ | with_reducible assumption | with_reducible refine Gr.alloc ?_ _ | with_reducible refine Gr.drewN ?_ _ | with_reducible refine Gr.drew ?_ | with_reducible refine Gr.trans ?_ (by with_reducible assumption))); done)) _ | with_reducible refine Gr.trans ?_ (by with_reducible assumption)))⟩
          · obtain ⟨n, hn'⟩ : ∃ n : Nat, cutI t.en a = n + 1 := ⟨cutI t.en a - 1, by omega⟩
            obtain ⟨x, hx⟩ : ∃ x, t.en[n]? = some x := ⟨_, List.getElem?_eq_getElem (by omega)⟩
            have hx' : t.en[cutI t.en a - 1]? = some x := by rw [hn']; exact hx
            rw [dedV_mid HY.out hya hn0 hx']
            have hex := HEN.out _ _ hx
            have hxa : x.an < a := cut_lt (by omega) hx
            have hay : a < y.an := by have := cut_at HY.out; omega
            obtain ⟨hra, -⟩ := be_ok hex hey hxa hay
            have HBE := hide (fun w => between_any x y a w hex hey hxa hay)
            have HR := hide (fun w => Reduce_any (beN x y a) (beD x y) w)
            rw [show redV (beN x y a) (beD x y) = (rdN (beN x y a) (beD x y), rdD (beN x y a) (beD x y), 0) by unfold redV; rw [hra]; rfl] at HR
            obtain ⟨b', off', hA, x0, x1, x2⟩ := HF.out.rd.en hx
            obtain ⟨rfl, rfl⟩ : b = b' ∧ off = off' := by simpa using hA
            clear hA HY hey hya hn0 hra hx' hex hxa hay hx
            rw [hn'] at HB y0 y1 y2 hn
            clear hn'
            generalize rdN (beN x y a) (beD x y) = rn at *
            generalize rdD (beN x y a) (beD x y) = rd at *
            generalize beN x y a = bn at *
            generalize beD x y = bd at *
            have W1 : IntKind.i64.wrap ((n : Int) + 1 - 1) = (n : Int) := by rw [IntWalk.i64_in _ (by omega)]; omega
            have hk0 : (0 : Int) ≤ (n : Int) + 1 := by omega
            have hk1 : (n : Int) + 1 < (t.en.length : Int) := by omega
            have q1 : ((n : Int) + 1 == 0) = false := by rw [beq_eq_false_iff_ne]; omega
            have q2 : ((n : Int) + 1 == (t.en.length : Int)) = false := by rw [beq_eq_false_iff_ne]; omega
            have hk2 : (0 : Int) ≤ (n : Int) := by omega
            have hk3 : (n : Int) < (t.en.length : Int) := by omega
            go_enter Try.func40, Try.ntmps40
            go_wp2_with fail
            refine (HV.out _ (by repeat (first | with_reducible exact Gr.refl _ | with_reducible assumption | with_reducible refine Gr.alloc ?_ _ | with_reducible refine Gr.drewN ?_ _ | with_reducible refine Gr.drew ?_ | with_reducible refine Gr.setCell ?_ (by first | (dsimp only; omega) | (simp only [World.size_alloc]; omega) | (with_reducible refine Gr.size ?_; (repeat (first | with_reducible exact Gr.refl _ | with_reducible assumption | with_reducible refine Gr.alloc ?_ _ | with_reducible refine Gr.drewN ?_ _ | with_reducible refine Gr.drew ?_ | with_reducible refine Gr.trans ?_ (by with_reducible assumption))); done)) _ | with_reducible refine Gr.trans ?_ (by with_reducible assumption)))).mono ?_
            rintro e w1 ⟨rfl, g1⟩
            obtain ⟨X1, Y1, c1, f1⟩ := g1.use
            have z1 := g1.size
            simp only [World.size_alloc] at z1
            have l1 : w.heap.size + 1 < w1.heap.size := by omega
            have l0 : w.heap.size < w1.heap.size := by omega
            go_wp2_with (first | (go_at_call 93; refine (fvalidAngle_any _ _).mono ?_; rintro e w1 ⟨rfl, rfl⟩))
            refine (HB.out _ (by repeat (first | with_reducible exact Gr.refl _ | with_reducible assumption | with_reducible refine Gr.alloc ?_ _ | with_reducible refine Gr.drewN ?_ _ | with_reducible refine Gr.drew ?_ | with_reducible refine Gr.setCell ?_ (by first | (dsimp only; omega) | (simp only [World.size_alloc]; omega) | (with_reducible refine Gr.size ?_; (repeat (first | with_reducible exact Gr.refl _ | with_reducible assumption | with_reducible refine Gr.alloc ?_ _ | with_reducible refine Gr.drewN ?_ _ | with_reducible refine Gr.drew ?_ | with_reducible refine Gr.trans ?_ (by with_reducible assumption))); done)) _ | with_reducible refine Gr.trans ?_ (by with_reducible assumption)))).mono ?_
            rintro e w2 ⟨rfl, g2⟩
            obtain ⟨X2, Y2, c2, f2⟩ := g2.use
            have z2 := g2.size
            have m1 : w.heap.size + 1 < w2.heap.size := by omega
            have m0 : w.heap.size < w2.heap.size := by omega
            have hb2 : b < w2.heap.size := by omega
            have hb1 : b < w1.heap.size := by omega
            go_upto_region 11 with fail
            have GC := @GrW.cell
            refine wp_region_grw_tail _ 16 (by kernel_rfl) (by kernel_rfl) (Gr.refl _) ?_
            simp only [List.take_succ_cons, List.take_zero, List.drop_succ_cons, List.drop_zero]
            repeat (go_big_quiet_step ((first | (go_at_call 97; exact quiet_grw (HBE.out _)) | (go_at_call 92; exact quiet_grw (HR.out _)))))
            refine wpQuiet_nil ?_
            intro wq hwq
            obtain ⟨gq, hwq'⟩ := hwq
            subst hwq'
            clear GC
            have gq1 := gq.gr
            generalize gq.w = wq at gq1 ⊢
            obtain ⟨Xq, Yq, cq, fq⟩ := gq1.use
            have sq := gq1.size
            (try simp only [World.size_alloc, World.size_setCell, World.heap_drewN] at sq)
            go_wp2
            refine bodyPost_ret (v := trV (rn, rd, 0)) (by simp [results, Try.results40, go_sem, *]) rfl ⟨rfl, (by repeat (first | with_reducible exact Gr.refl _ | with_reducible assumption | with_reducible refine Gr.alloc ?_ _ | with_reducible refine Gr.drewN ?_ _ | with_reducible refine Gr.drew ?_ | with_reducible refine Gr.setCell ?_ (by first | (dsimp only; omega) | (simp only [World.size_alloc]; omega) | (with_reducible refine Gr.size ?_; (repeat (first | with_reducible exact Gr.refl _ | with_reducible assumption | with_reducible refine Gr.alloc ?_ _ | with_reducible refine Gr.drewN ?_ _ | with_reducible refine Gr.drew ?_ | with_reducible refine Gr.trans ?_ (by with_reducible assumption))); done)) _ | with_reducible refine Gr.trans ?_ (by with_reducible assumption)))⟩
  · rw [h0] at HV
    rw [dedA_bad h0]
    clear h0
    go_enter Try.func40, Try.ntmps40
    go_wp2_with fail
    refine (HV.out _ (by repeat (first | with_reducible exact Gr.refl _ | with_reducible assumption | with_reducible refine Gr.alloc ?_ _ | with_reducible refine Gr.drewN ?_ _ | with_reducible refine Gr.drew ?_ | with_reducible refine Gr.setCell ?_ (by first | (dsimp only; omega) | (simp only [World.size_alloc]; omega) | (with_reducible refine Gr.size ?_; (repeat (first | with_reducible exact Gr.refl _ | with_reducible assumption | with_reducible refine Gr.alloc ?_ _ | with_reducible refine Gr.drewN ?_ _ | with_reducible refine Gr.drew ?_ | with_reducible refine Gr.trans ?_ (by with_reducible assumption))); done)) _ | with_reducible refine Gr.trans ?_ (by with_reducible assumption)))).mono ?_
    rintro e w1 ⟨rfl, g1⟩
    obtain ⟨X1, Y1, c1, f1⟩ := g1.use
    have z1 := g1.size
    simp only [World.size_alloc] at z1
    have l1 : w.heap.size + 1 < w1.heap.size := by omega
    have l0 : w.heap.size < w1.heap.size := by omega
    go_wp2_with fail
    refine bodyPost_ret (v := trV (0, 0, 9)) (by simp [results, Try.results40, go_sem, *]) rfl ⟨rfl, (by repeat (first | with_reducible exact Gr.refl _ | with_reducible assumption | with_reducible refine Gr.alloc ?_ _ | with_reducible refine Gr.drewN ?_ _ | with_reducible refine Gr.drew ?_ | with_reducible refine Gr.setCell ?_ (by first | (dsimp only; omega) | (simp only [World.size_alloc]; omega) | (with_reducible refine Gr.size ?_; (repeat (first | with_reducible exact Gr.refl _ | with_reducible assumption | with_reducible refine Gr.alloc ?_ _ | with_reducible refine Gr.drewN ?_ _ | with_reducible refine Gr.drew ?_ | with_reducible refine Gr.trans ?_ (by with_reducible assumption))); done)) _ | with_reducible refine Gr.trans ?_ (by with_reducible assumption)))⟩
end Go.Proofs.Ytpmomgfepkegnaa
