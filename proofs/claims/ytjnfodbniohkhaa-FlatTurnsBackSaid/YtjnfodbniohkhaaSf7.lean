/-
  Flat patterns: Surface of the code.
-/
import Derived.Test.YtjnfodbniohkhaaSf6
set_option linter.unusedVariables false
set_option linter.unusedSimpArgs false
namespace Go.Proofs.Ytjnfodbniohkhaa
set_option linter.unusedVariables false
set_option linter.unusedSimpArgs false
open Go Go.ChangeShapes Go.WideShapes Go.ChangeAt Go.RowKit Go.Deep

namespace RG
/-- a list that stands from here on, of valid rectangles -/
def Cov (w1 : World) (A : Option Addr) (c : Nat) (l : List Rc) : Prop := (∀ w', Gr w1 w' → SlR w' A c l) ∧ (∀ r ∈ l, InM 1048576 r) ∧ l.length ≤ 400
theorem covered_at {w1 : World} {A : Option Addr} {c : Nat} {l : List Rc} (h : Cov w1 A c l) (x : Int) (w' : World) (g : Gr w1 w') : Calls Try.prog 25 #[.slice A l.length c, iv x] w' fun e w'' => e = .returned (iv (colS 1048576 l x)) ∧ Gr w' w'' :=
  covered_any A c l x w' (h.1 w' g) h.2.1 h.2.2
theorem colS_le {l m : List Rc} (h : ∀ r ∈ m, r ∈ l) (x : Int) : colS 1048576 m x ≤ colS 1048576 l x := by
  refine sm_le fun y _ _ => ib_le fun hc => ?_
  obtain ⟨r, hr, hi⟩ := List.any_eq_true.1 hc
  exact cov_true (h r hr) hi
theorem sub_bd {a b : Int} (h : b ≤ a) (h1 : 0 ≤ a ∧ a ≤ 2 * ((1048576 : Nat) : Int)) (h2 : 0 ≤ b ∧ b ≤ 2 * ((1048576 : Nat) : Int)) : (0 ≤ a - b ∧ a - b ≤ 2097152) ∧ IntKind.i64.wrap (a - b) = a - b :=
  ⟨⟨by omega, by omega⟩, IntWalk.i64_in _ (by omega)⟩
/-- what Surface returns -/
def sfV (F : Pat) : Int := if chE F = 0 then srfV 1048576 F.r F.c else 0
theorem gs_succ {X : List Int} {f : Int → Int} {k : Nat} {x y : Int} (hx : X[k]? = some x) (hy : X[k + 1]? = some y) : gs X f (k + 1) = gs X f k + (y - x) * f x := by
  show gs X f k + (X[k + 1]?.getD 0 - X[k]?.getD 0) * f (X[k]?.getD 0) = _
  rw [hx, hy]
  rfl
set_option maxHeartbeats 8000000 in
set_option maxRecDepth 100000 in
theorem Surface_any (A1 A2 A3 A4 : Option Addr) (c1 c2 c3 c4 : Nat) (F : Pat) (w : World) (hF : PatW w A1 c1 A2 c2 A3 c3 A4 c4 F) :
    Calls Try.prog 11 #[ptv A1 F.r.length c1 A2 F.c.length c2 A3 F.f.length c3 A4 F.b.length c4] w fun e w' => e = .returned (sle (iv (sfV F)) (chE F)) ∧ Gr w w' := by
  have HC := hide (fun (w' : World) (g : Gr w w') => check_any A1 A2 A3 A4 c1 c2 c3 c4 F w' (hF.gr g))
  have HF := hide hF
  rcases ch_01 F with h0 | h0
  case inr =>
    have HV := hide (show sfV F = 0 from if_neg (by rw [h0]; decide))
    have HE := hide h0
    rw [h0] at HC
    clear h0 hF
    go_enter Try.func11, Try.ntmps11
    go_wp2_with fail
    refine (HC.out _ (Gr.alloc (Gr.refl _) _)).mono ?_
    rintro e w1 ⟨rfl, g1⟩
    go_wp2_with fail
    go_ret2
    exact ⟨by rw [HV.out, HE.out]; rfl, (Gr.alloc (Gr.refl _) _).trans g1⟩
  case inl =>
    have HV := hide (show sfV F = srfV 1048576 F.r F.c from if_pos h0)
    have HE := hide h0
    obtain ⟨⟨l1, l2⟩, l3, l4, l5⟩ := ch_yes h0
    obtain ⟨i1, i2, i3, i4⟩ := lm_in l5
    rw [h0] at HC
    obtain ⟨all, hall⟩ : ∃ all, F.r ++ F.c = all := ⟨_, rfl⟩
    have hia : ∀ r ∈ all, InM 1048576 r := fun r hr => by
      rw [← hall] at hr
      rcases List.mem_append.1 hr with h | h
      · exact i1 r h
      · exact i2 r h
    have hca : ∀ r ∈ F.c, r ∈ all := fun r hr => by rw [← hall]; exact List.mem_append_right _ hr
    have hal : all.length = F.r.length + F.c.length := by rw [← hall, List.length_append]
    have hne : all ≠ [] := by
      intro e
      rw [e] at hal
      simp at hal
      omega
    have HSC := hide (show gs (lnX all) (fun x => colS 1048576 all x - colS 1048576 F.c x) ((lnX all).length - 1) = srfV 1048576 F.r F.c by rw [← hall]; exact srf_cols i1 i2)
    have HCA := hide (fun (w' : World) (g : Gr w w') => by
      have := Concat_any (some ⟨w'.heap.size, 0, none⟩) 2 [⟨A1, c1, F.r⟩, ⟨A2, c2, F.c⟩] (w'.alloc (.cells #[.slice A1 F.r.length c1, .slice A2 F.c.length c2] 22)) (slRR_2 _ (hF.r.gr g) (hF.c.gr g)) (by simp) (by rw [show allR [⟨A1, c1, F.r⟩, ⟨A2, c2, F.c⟩] = all by rw [← hall]; simp [allR]]; omega)
      rw [show allR [⟨A1, c1, F.r⟩, ⟨A2, c2, F.c⟩] = all by rw [← hall]; simp [allR]] at this
      exact this)
    have HIA := hide hia
    have HCC := hide hca
    have HI2 := hide i2
    have HNE := hide hne
    have hl400 : all.length ≤ 400 := by omega
    have hc400 : F.c.length ≤ 400 := by omega
    have hX1 := len_lnX all
    have hX0 : 0 < (lnX all).length := by
      obtain ⟨r, hr⟩ := List.exists_mem_of_ne_nil all hne
      exact List.length_pos_of_mem (mem_lnX.2 ⟨r, hr, .inl rfl⟩)
    have HUX := hide (up_lnX all)
    have HBX := hide (ln_in hia).1
    have hXm : (lnX all).length ≤ 800 := by omega
    clear h0 l1 l2 l3 l4 l5 i1 i2 i3 i4 hia hca hne hal hall hX1
    have HVE := hide (fun (D : Option Addr) (q : Nat) (w' : World) (h : SlR w' D q all) => verticals_any D q all w' h HIA.out HNE.out hl400)
    generalize lnX all = X at *
    go_enter Try.func11, Try.ntmps11
    go_wp2_with fail
    refine (HC.out _ (Gr.alloc (Gr.refl _) _)).mono ?_
    rintro e w1 ⟨rfl, g1⟩
    obtain ⟨s1, b0, b1, b2, b3⟩ := box4 g1
    have gw1 : Gr w w1 := (Gr.alloc (Gr.refl _) _).trans g1
    clear HC
    go_wp2_with fail
    refine (HCA.out _ gw1).mono ?_
    rintro e w2 ⟨D, q, rfl, hD, g2⟩
    have gw2 : Gr w1 w2 := (Gr.alloc (Gr.refl _) _).trans g2
    have HD := hide (own_slr hD)
    clear hD HCA
    go_wp2_with fail
    refine (HVE.out D q _ HD.out).mono ?_
    rintro e w3 ⟨D2, q2, rfl, hD2, g3⟩
    have HX := hide hD2
    have x1 := hD2.cap
    have x2 := hD2.capB
    have g13 : Gr w1 w3 := gw2.trans g3
    have g23 := g3
    clear hD2 HVE
    have hCa : Cov w3 D q all := ⟨fun w' g => (HD.out.gr g3).gr g, HIA.out, hl400⟩
    have hCc : Cov w3 A2 c2 F.c := ⟨fun w' g => HF.out.c.gr ((gw1.trans g13).trans g), HI2.out, hc400⟩
    have e1 : (w3.cell? ⟨w.heap.size, 1, none⟩) = some (.slice A2 F.c.length c2) := (g13.cell _ _ s1).trans b1
    have E1 := hide e1
    have s3 : w.heap.size < w3.heap.size := Nat.lt_of_lt_of_le s1 g13.size
    have U0 : IntKind.i64.wrap ((X.length : Int) - 1) = (X.length : Int) - 1 := IntWalk.i64_in _ (by omega)
    clear b0 b1 b2 b3 e1 g1 g2 s1
    go_wp2_with fail
    obtain ⟨h, hh⟩ : ∃ h : Int → Int, (fun x => colS 1048576 all x - colS 1048576 F.c x) = h := ⟨_, rfl⟩
    rw [hh] at HSC
    have HH := hide (fun x => congrFun hh x)
    have HH0 := hide (show ∀ x, 0 ≤ h x ∧ h x ≤ 2097152 from fun x => by
      rw [← hh]
      exact (sub_bd (colS_le HCC.out x) (colS_bd 1048576 all x) (colS_bd 1048576 F.c x)).1)
    clear hh
    go_loopw [7, 26] (fun sv iv' wr => ∃ k : Nat, k + 1 ≤ X.length ∧ iv' = iv k ∧ sv = iv (gs X h k) ∧ Gr w3 wr) (fun _ i _ => X.length - (intOf i).toNat)
    case atStart => exact ⟨0, by omega, rfl, rfl, Gr.refl _⟩
    case round =>
      obtain ⟨k, hk, rfl, rfl, g⟩ := hrel
      have f1 := (g.cell _ _ s3).trans E1.out
      have s4 : w.heap.size < wr.heap.size := Nat.lt_of_lt_of_le s3 g.size
      by_cases hkl : k + 1 < X.length
      · obtain ⟨x, hx⟩ : ∃ x, X[k]? = some x := ⟨_, List.getElem?_eq_getElem (by omega)⟩
        obtain ⟨y, hy⟩ : ∃ x, X[k + 1]? = some x := ⟨_, List.getElem?_eq_getElem hkl⟩
        obtain ⟨p, hp⟩ : ∃ x, X[0]? = some x := ⟨_, List.getElem?_eq_getElem (by omega)⟩
        have d1 := HBX.out x (List.mem_of_getElem? hx)
        have d2 := HBX.out y (List.mem_of_getElem? hy)
        have d3 := HBX.out p (List.mem_of_getElem? hp)
        have d4 := HUX.out.at hx hy (by omega)
        have d5 := HUX.out.le hp hx (by omega)
        obtain ⟨v1, v2⟩ := gs_bd HUX.out (f := h) (C := 2097152) (fun x => (HH0.out x).1) (fun x => (HH0.out x).2) k p x hp hx
        obtain ⟨v3, v4⟩ := HH0.out x
        have HN := hide (gs_succ (f := h) hx hy)
        obtain ⟨bX, oX, hA, cx⟩ := (HX.out.gr g).rd.in_ hx
        obtain ⟨_, _, hA', cy⟩ := (HX.out.gr g).rd.in_ hy
        subst hA
        cases hA'
        have hbX : bX < wr.heap.size := cell_lt (by rw [cx]; rfl)
        have HHx := hide (HH.out x)
        have hle : (x - p) * 2097152 ≤ 2097152 * 2097152 := Int.mul_le_mul_of_nonneg_right (by omega) (by omega)
        have m1 : 0 ≤ (y - x) * h x := Int.mul_nonneg (by omega) v3
        have m2 : (y - x) * h x ≤ 2097152 * 2097152 := Int.mul_le_mul (by omega) v4 v3 (by omega)
        have HXk := hide hx
        have HYk := hide hy
        clear hx hy hp
        have HCV := hide (fun (l : List Rc) (A : Option Addr) (c : Nat) (h : Cov w3 A c l) (w' : World) (g : Gr w3 w') => covered_at h x w' g)
        have S1 := (sub_bd (colS_le HCC.out x) (colS_bd 1048576 all x) (colS_bd 1048576 F.c x)).2
        have HHy := hide (show colS 1048576 all x - colS 1048576 F.c x = h x from HHx.out)
        have S2 : IntKind.i64.wrap (y - x) = y - x := IntWalk.i64_in _ (by omega)
        have S3 : IntKind.i64.wrap ((y - x) * (colS 1048576 all x - colS 1048576 F.c x)) = (y - x) * (colS 1048576 all x - colS 1048576 F.c x) := by rw [HHy.out]; exact IntWalk.i64_in _ (by omega)
        have S4 : IntKind.i64.wrap (gs X h k + (y - x) * (colS 1048576 all x - colS 1048576 F.c x)) = gs X h k + (y - x) * (colS 1048576 all x - colS 1048576 F.c x) := by rw [HHy.out]; exact IntWalk.i64_in _ (by omega)
        have S5 : IntKind.i64.wrap ((k : Int) + 1) = (k : Int) + 1 := IntWalk.i64_in _ (by omega)
        have hk0 : (0 : Int) ≤ (k : Int) := by omega
        have hk1 : (k : Int) < (X.length : Int) - 1 := by omega
        have hk2 : (k : Int) < (X.length : Int) := by omega
        have hk3 : (k : Int) + 1 < (X.length : Int) := by omega
        have hk4 : (0 : Int) ≤ (k : Int) + 1 := by omega
        have hk5 : ((k : Int) + 1).toNat = k + 1 := by omega
        obtain ⟨sm0, hsm⟩ : ∃ s, gs X h k = s := ⟨_, rfl⟩
        rw [hsm] at HN S4 ⊢
        clear d1 d2 d3 d4 d5 v1 v2 v3 v4 hle m1 m2 hsm HH HHx
        go_upto_region 10 with fail
        have GC := @GrW.cell
        refine wp_region_grw _ (by kernel_rfl) (by kernel_rfl) (Gr.refl _) ?_
        repeat (go_big_quiet_step ((first | (go_at_call 25; exact quiet_grw (HCV.out _ _ _ (by assumption) _ (Gr.trans g (GrW.gr _)))))))
        refine wpQuiet_nil ?_
        intro wq hwq
        obtain ⟨gq, hwq'⟩ := hwq
        subst hwq'
        clear GC
        have gq1 := gq.gr
        generalize gq.w = wq at gq1 ⊢
        obtain ⟨Xq, Yq, cq, fq⟩ := gq1.use
        have sq := gq1.size
        (try simp only [World.size_alloc, World.size_setCell, World.heap_drewN] at sq)
        have gwq : Gr w3 wq := g.trans gq1
        clear S1 f1 cx cy hCa hCc
        obtain ⟨_, _, hA', cx⟩ := (HX.out.gr gwq).rd.in_ HXk.out
        cases hA'
        obtain ⟨_, _, hA', cy⟩ := (HX.out.gr gwq).rd.in_ HYk.out
        cases hA'
        clear cq fq sq
        go_upto_region 11 with fail
        have GC := @GrW.cell
        refine wp_region_grw _ (by kernel_rfl) (by kernel_rfl) (Gr.refl _) ?_
        repeat (go_big_quiet_step ((first | fail)))
        refine wpQuiet_nil ?_
        intro wq hwq
        obtain ⟨gq, hwq'⟩ := hwq
        subst hwq'
        clear GC
        have gq1 := gq.gr
        generalize gq.w = wq at gq1 ⊢
        obtain ⟨Xq, Yq, cq, fq⟩ := gq1.use
        have sq := gq1.size
        (try simp only [World.size_alloc, World.size_setCell, World.heap_drewN] at sq)
        go_wp2
        go_roundw
        case rel => exact ⟨k + 1, by omega, by go_num, by rw [HN.out, HHy.out], g.trans (by repeat (first | with_reducible exact Gr.refl _ | with_reducible assumption | with_reducible refine Gr.alloc ?_ _ | with_reducible refine Gr.drewN ?_ _ | with_reducible refine Gr.drew ?_ | with_reducible refine Gr.setCell ?_ (by first | (dsimp only; omega) | (simp only [World.size_alloc]; omega) | (with_reducible refine Gr.size ?_; (repeat (first | with_reducible exact Gr.refl _ | with_reducible assumption | with_reducible refine Gr.alloc ?_ _ | with_reducible refine Gr.drewN ?_ _ | with_reducible refine Gr.drew ?_ | with_reducible refine Gr.trans ?_ (by with_reducible assumption))); done)) _ | with_reducible refine Gr.trans ?_ (by with_reducible assumption)))⟩
        case measure => simp only [intOf]; omega
      · obtain rfl : k = X.length - 1 := by omega
        have hk9 : ¬ (((X.length - 1 : Nat) : Int) < (X.length : Int) - 1) := by omega
        rw [HSC.out]
        go_wp2
        go_ret2
        exact ⟨by rw [HV.out, HE.out]; rfl, (gw1.trans g13).trans g⟩
end RG
end Go.Proofs.Ytjnfodbniohkhaa
