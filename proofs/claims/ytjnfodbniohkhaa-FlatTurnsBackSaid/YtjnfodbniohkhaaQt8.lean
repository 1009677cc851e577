/-
  FlatTurnsBack: the law.
-/
import Derived.Test.YtjnfodbniohkhaaQt7
set_option linter.unusedVariables false
set_option linter.unusedSimpArgs false
namespace Go.Proofs.Ytjnfodbniohkhaa
set_option linter.unusedVariables false
set_option linter.unusedSimpArgs false
open Go Go.ChangeShapes Go.WideShapes Go.ChangeAt Go.RowKit Go.Deep

open RG
set_option maxHeartbeats 8000000 in
set_option maxRecDepth 100000 in
theorem back_out (A1 A2 A3 A4 : Option Addr) (c1 c2 c3 c4 : Nat) (F : Pat) (a b : Int) (w : World) (hF : PatW w A1 c1 A2 c2 A3 c3 A4 c4 F) (h : lgB F = true ∨ (lgB F = false ∧ (a < 0 ∨ 3 < a ∨ b < 0 ∨ 3 < b))) :
    Calls Try.prog 3 #[ptv A1 F.r.length c1 A2 F.c.length c2 A3 F.f.length c3 A4 F.b.length c4, iv a, iv b] w fun x w' => x = .returned (.bool true) ∧ Gr w w' := by
  have HL := hide (fun (w' : World) => Long_any A1 A2 A3 A4 c1 c2 c3 c4 F w' hF.r.capB hF.c.capB hF.f.capB hF.b.capB hF.r.cap hF.c.cap hF.f.cap hF.b.cap)
  have HK := hide (fun (w' : World) => known3_any w')
  clear hF
  rcases h with h | ⟨h, h2⟩
  · rw [h] at HL
    clear h
    go_enter Try.func3, Try.ntmps3
    go_wp2_with fail
    refine (HL.out _).mono ?_
    rintro e w1 ⟨rfl, g1⟩
    have gw1 := (Gr.alloc (Gr.refl _) _).trans g1
    clear g1 HL
    go_wp2_with fail
    refine (HK.out _).mono ?_
    rintro e w2 ⟨rfl, g2⟩
    go_wp2_with fail
    go_ret
    exact ⟨rfl, gw1.trans g2⟩
  rw [h] at HL
  clear h
  by_cases j1 : a < 0
  · have k1 : decide (a < 0) = true := by simpa using j1
    clear j1 h2
    go_enter Try.func3, Try.ntmps3
    go_wp2_with fail
    refine (HL.out _).mono ?_
    rintro e w1 ⟨rfl, g1⟩
    have gw1 := (Gr.alloc (Gr.refl _) _).trans g1
    clear g1 HL
    go_wp2_with fail
    refine (HK.out _).mono ?_
    rintro e w2 ⟨rfl, g2⟩
    go_wp2_with fail
    go_ret
    exact ⟨rfl, gw1.trans g2⟩
  have k1 : decide (a < 0) = false := by simpa using j1
  by_cases j2 : 3 < a
  · have k2 : decide (3 < a) = true := by simpa using j2
    clear j1 j2 h2
    go_enter Try.func3, Try.ntmps3
    go_wp2_with fail
    refine (HL.out _).mono ?_
    rintro e w1 ⟨rfl, g1⟩
    have gw1 := (Gr.alloc (Gr.refl _) _).trans g1
    clear g1 HL
    go_wp2_with fail
    refine (HK.out _).mono ?_
    rintro e w2 ⟨rfl, g2⟩
    go_wp2_with fail
    go_ret
    exact ⟨rfl, gw1.trans g2⟩
  have k2 : decide (3 < a) = false := by simpa using j2
  by_cases j3 : b < 0
  · have k3 : decide (b < 0) = true := by simpa using j3
    clear j1 j2 j3 h2
    go_enter Try.func3, Try.ntmps3
    go_wp2_with fail
    refine (HL.out _).mono ?_
    rintro e w1 ⟨rfl, g1⟩
    have gw1 := (Gr.alloc (Gr.refl _) _).trans g1
    clear g1 HL
    go_wp2_with fail
    refine (HK.out _).mono ?_
    rintro e w2 ⟨rfl, g2⟩
    go_wp2_with fail
    go_ret
    exact ⟨rfl, gw1.trans g2⟩
  have k3 : decide (b < 0) = false := by simpa using j3
  have j4 : 3 < b := by omega
  have k4 : decide (3 < b) = true := by simpa using j4
  clear j1 j2 j3 j4 h2
  go_enter Try.func3, Try.ntmps3
  go_wp2_with fail
  refine (HL.out _).mono ?_
  rintro e w1 ⟨rfl, g1⟩
  have gw1 := (Gr.alloc (Gr.refl _) _).trans g1
  clear g1 HL
  go_wp2_with fail
  refine (HK.out _).mono ?_
  rintro e w2 ⟨rfl, g2⟩
  go_wp2_with fail
  go_ret
  exact ⟨rfl, gw1.trans g2⟩
theorem box_res {w w' : World} {a b c d : Value} {t : TypeId} (g : Gr (w.alloc (.cells #[a, b, c, d] t)) w') : w'.cell? ⟨w.heap.size, 0, none⟩ = some a ∧ w'.cell? ⟨w.heap.size, 1, none⟩ = some b ∧ w'.cell? ⟨w.heap.size, 2, none⟩ = some c ∧ w'.cell? ⟨w.heap.size, 3, none⟩ = some d ∧ w.heap.size < w'.heap.size :=
  have h := box4 g
  ⟨h.2.1, h.2.2.1, h.2.2.2.1, h.2.2.2.2, h.1⟩
set_option maxHeartbeats 8000000 in
set_option maxRecDepth 100000 in
theorem back_in (A1 A2 A3 A4 : Option Addr) (c1 c2 c3 c4 : Nat) (F : Pat) (na nb : Nat) (w : World) (hF : PatW w A1 c1 A2 c2 A3 c3 A4 c4 F) (hl : lgB F = false) (ha : na ≤ 3) (hb : nb ≤ 3) :
    Calls Try.prog 3 #[ptv A1 F.r.length c1 A2 F.c.length c2 A3 F.f.length c3 A4 F.b.length c4, iv (na : Int), iv (nb : Int)] w fun x w' => x = .returned (.bool true) ∧ Gr w w' := by
  have n4 : F.b.length ≤ 400 := by
    unfold lgB at hl
    simp only [Bool.or_eq_false_iff, decide_eq_false_iff_not] at hl
    omega
  have HL := hide (fun (w' : World) => Long_any A1 A2 A3 A4 c1 c2 c3 c4 F w' hF.r.capB hF.c.capB hF.f.capB hF.b.capB hF.r.cap hF.c.cap hF.f.cap hF.b.cap)
  rw [hl] at HL
  have HK := hide (fun (w' : World) => known3_any w')
  have HS := hide (fun (w' : World) (g : Gr w w') => Settle_any A1 A2 A3 A4 c1 c2 c3 c4 F w' (hF.gr g) n4)
  have HQ := hide (fun (t : Nat) (ht : t ≤ 3) (w' : World) (g : Gr w w') => Quarter_any A1 A2 A3 A4 c1 c2 c3 c4 F t w' (hF.gr g) ht n4)
  have k1 : decide ((na : Int) < 0) = false := by simp only [decide_eq_false_iff_not]; omega
  have k2 : decide ((3 : Int) < (na : Int)) = false := by simp only [decide_eq_false_iff_not]; omega
  have k3 : decide ((nb : Int) < 0) = false := by simp only [decide_eq_false_iff_not]; omega
  have k4 : decide ((3 : Int) < (nb : Int)) = false := by simp only [decide_eq_false_iff_not]; omega
  clear hl
  by_cases hs : qtE F 0 = 0 ∧ qtE F na = 0
  case neg =>
    have HS0 := hide (show (qtE F 0 != 0) = true ∨ ((qtE F 0 != 0) = false ∧ (qtE F na != 0) = true) by
      by_cases h : qtE F 0 = 0
      · right
        exact ⟨by simp [h], by simp only [bne_iff_ne, ne_eq]; exact fun e => hs ⟨h, e⟩⟩
      · left
        simpa using h)
    have HQ1 := hide (HQ.out na ha)
    clear hs ha hb hF HQ n4
    generalize qtE F 0 = Es at *
    generalize qtE F na = Ex at *
    generalize qtP F 0 = S at *
    generalize qtP F na = X at *
    go_enter Try.func3, Try.ntmps3
    go_wp2_with fail
    refine (HL.out _).mono ?_
    rintro e w1 ⟨rfl, g1⟩
    obtain ⟨b0, b1, b2, b3, s1⟩ := box_res g1
    have gw1 := (Gr.alloc (Gr.refl _) _).trans g1
    clear HL
    go_wp2_with fail
    refine (HS.out _ gw1).mono ?_
    rintro e w2 ⟨D1, D2, D3, D4, q1, q2, q3, q4, rfl, _, _, g2⟩
    obtain ⟨b0, b1, b2, b3, s2⟩ := box_res (g1.trans g2)
    have gw2 := gw1.trans g2
    clear HS s1
    go_wp2_with fail
    refine (HQ1.out _ (gw2.trans (Gr.alloc (Gr.refl _) _))).mono ?_
    rintro e w3 ⟨E1, E2, E3, E4, r1, r2, r3, r4, rfl, _, _, g3⟩
    have gw3 := (gw2.trans (Gr.alloc (Gr.refl _) _)).trans g3
    clear HQ1 g1 g2 g3
    rcases HS0.out with e1 | ⟨e1, e2⟩
    · clear HS0
      go_wp2_with fail
      refine (HK.out _).mono ?_
      rintro e w4 ⟨rfl, g4⟩
      go_wp2_with fail
      go_ret
      exact ⟨rfl, (gw3.trans (Gr.alloc (Gr.refl _) _)).trans g4⟩
    · clear HS0
      go_wp2_with fail
      refine (HK.out _).mono ?_
      rintro e w4 ⟨rfl, g4⟩
      go_wp2_with fail
      go_ret
      exact ⟨rfl, (gw3.trans (Gr.alloc (Gr.refl _) _)).trans g4⟩
  case pos =>
    obtain ⟨h0, hx⟩ := hs
    obtain ⟨hc, hS, _⟩ := qt_ok h0
    obtain ⟨_, hX, _⟩ := qt_ok hx
    obtain ⟨hc0, hv0⟩ := qt_ch h0
    obtain ⟨hcx, hvx⟩ := qt_ch hx
    obtain ⟨lx1, lx2, lx3, lx4⟩ := qt_len F na
    obtain ⟨⟨_, lf1⟩, lf2, lf3, _⟩ := ch_yes hc
    obtain ⟨m, hm⟩ : ∃ m, (na + nb) % 4 = m := ⟨_, rfl⟩
    have hm3 : m ≤ 3 := by omega
    obtain ⟨lz1, lz2, lz3, lz4⟩ := qt_len F m
    have HYZ := hide (show qtE (qtF F na) nb = 0 → qtE F m = 0 → oB F = true → qtP (qtF F na) nb = qtP F m ∧ (qtP F m).r.length ≤ 1000 ∧ (qtP F m).c.length ≤ 1000 ∧ (qtP F m).f.length ≤ 1000 ∧ (qtP F m).b.length ≤ 1000 from fun e1 e2 e3 => by
      have := qt_back ha hb hx e1 (by rw [hm]; exact e2) e3
      rw [hm] at this
      refine ⟨this, ?_⟩
      rw [(qt_ok e2).2.1]
      omega)
    have HF1 := hide (fun (w' : World) (g : Gr w w') => by
      have := Surface_any A1 A2 A3 A4 c1 c2 c3 c4 F w' (hF.gr g)
      rw [hc] at this
      exact this)
    have HF2 := hide (fun (D1 D2 D3 D4 : Option Addr) (q1 q2 q3 q4 : Nat) (w' : World) (h : PatW w' D1 q1 D2 q2 D3 q3 D4 q4 (qtF F na)) => by
      have := Surface_any D1 D2 D3 D4 q1 q2 q3 q4 (qtF F na) w' h
      rw [hcx, hvx] at this
      exact this)
    have HF3 := hide (fun (D1 D2 D3 D4 : Option Addr) (q1 q2 q3 q4 : Nat) (w' : World) (h : PatW w' D1 q1 D2 q2 D3 q3 D4 q4 (qtF F 0)) => by
      have := Surface_any D1 D2 D3 D4 q1 q2 q3 q4 (qtF F 0) w' h
      rw [hc0, hv0] at this
      exact this)
    have HQX := hide (fun (D1 D2 D3 D4 : Option Addr) (q1 q2 q3 q4 : Nat) (w' : World) (h : PatW w' D1 q1 D2 q2 D3 q3 D4 q4 (qtF F na)) => Quarter_any D1 D2 D3 D4 q1 q2 q3 q4 (qtF F na) nb w' h hb (by omega))
    have HQ1 := hide (HQ.out na ha)
    have HQM := hide (HQ.out m hm3)
    have HOR := hide (fun (w' : World) (g : Gr w w') => ordered_any A1 A2 A3 A4 c1 c2 c3 c4 F w' (hF.gr g))
    have u1 : IntKind.i64.wrap ((na : Int) + (nb : Int)) = (na : Int) + (nb : Int) := IntWalk.i64_in _ (by omega)
    have u2 : ((na : Int) + (nb : Int)).tmod 4 = (m : Int) := by rw [Int.tmod_eq_emod_of_nonneg (by omega)]; omega
    have u3 : IntKind.i64.wrap (m : Int) = (m : Int) := IntWalk.i64_in _ (by omega)
    rw [h0, hS] at HS
    rw [hx, hX] at HQ1
    clear h0 hx hc hS hX hc0 hv0 hcx hvx lx1 lx2 lx3 lx4 lf1 lf2 lf3 lz1 lz2 lz3 lz4 hm hm3 ha hb hF HQ n4
    generalize sfV F = V at *
    generalize qtF F 0 = S at *
    generalize qtF F na = X at *
    generalize qtP X nb = Y at *
    generalize qtE X nb = Ey at *
    generalize qtP F m = Z at *
    generalize qtE F m = Ez at *
    generalize oB F = ob at *
    go_enter Try.func3, Try.ntmps3
    go_wp2_with fail
    refine (HL.out _).mono ?_
    rintro e w1 ⟨rfl, g1⟩
    obtain ⟨b0, b1, b2, b3, s1⟩ := box_res g1
    have gw1 := (Gr.alloc (Gr.refl _) _).trans g1
    clear HL
    go_wp2_with fail
    refine (HS.out _ gw1).mono ?_
    rintro e w2 ⟨D1, D2, D3, D4, q1, q2, q3, q4, rfl, hP2, _, g2⟩
    have gb2 := g1.trans g2
    obtain ⟨b0, b1, b2, b3, s2⟩ := box_res gb2
    have gw2 := gw1.trans g2
    have HP2 := hide hP2
    clear HS s1 hP2 g1 g2 gw1
    go_wp2_with fail
    refine (HQ1.out _ (gw2.trans (Gr.alloc (Gr.refl _) _))).mono ?_
    rintro e w3 ⟨E1, E2, E3, E4, r1, r2, r3, r4, rfl, hP3, _, g3⟩
    have gS3 := g3
    have gb3 := (gb2.trans (Gr.alloc (Gr.refl _) _)).trans g3
    have gw3 := (gw2.trans (Gr.alloc (Gr.refl _) _)).trans g3
    have g23 := (Gr.alloc (Gr.refl _) _).trans g3
    have HP3 := hide hP3
    clear HQ1 hP3 g3 gb2 gw2 b0 b1 b2 b3 s2
    go_wp2_with fail
    refine (HQX.out _ _ _ _ _ _ _ _ _ (HP3.out.gr (Gr.alloc (Gr.refl _) _))).mono ?_
    rintro e w4 ⟨G1, G2, G3, G4, s1, s2, s3, s4, rfl, hP4, _, g4⟩
    have gb4 := (gb3.trans (Gr.alloc (Gr.refl _) _)).trans g4
    have gw4 := (gw3.trans (Gr.alloc (Gr.refl _) _)).trans g4
    have g34 := (Gr.alloc (Gr.refl _) _).trans g4
    have gX4 := g4
    have HP4 := hide hP4
    obtain ⟨b0, b1, b2, b3, sb⟩ := box_res gb4
    clear HQX hP4 g4 gb3 gw3
    go_wp2_with fail
    refine (HQM.out _ (gw4.trans (Gr.alloc (Gr.refl _) _))).mono ?_
    rintro e w5 ⟨H1, H2, H3, H4, t1, t2, t3, t4, rfl, hP5, _, g5⟩
    have gb5 := (gb4.trans (Gr.alloc (Gr.refl _) _)).trans g5
    have gw5 := (gw4.trans (Gr.alloc (Gr.refl _) _)).trans g5
    have g45 := (Gr.alloc (Gr.refl _) _).trans g5
    obtain ⟨b0, b1, b2, b3, sb⟩ := box_res gb5
    obtain ⟨y0, y1, y2, y3, sy⟩ := box_res g5
    have HP5 := hide hP5
    have G5S := hide (gS3.trans (g34.trans g45))
    have G5X := hide (gX4.trans g45)
    have G25 := hide (g23.trans (g34.trans g45))
    have G35 := hide (g34.trans g45)
    have G45 := hide g45
    have GB5 := hide gb5
    have GW5 := hide gw5
    clear HQM hP5 g5 gb4 gw4 gb5 gw5 gS3 gX4 g23 g34 g45
    have HB5 := hide (And.intro (And.intro b0 b1) (And.intro b2 b3))
    go_upto_region 9 with fail
    go_cut [88] from 73 to 87 (fun v wx => v = .bool false ∧ Gr (w5.alloc (.cells #[.slice H1 Z.r.length t1, .slice H2 Z.c.length t2, .slice H3 Z.f.length t3, .slice H4 Z.b.length t4] 25)) wx)
    case first =>
      by_cases ey : Ey = 0
      · by_cases ez : Ez = 0
        · subst ey ez
          cases ob with
          | false =>
            go_wp2_with fail
            refine (HOR.out _ (GW5.out.trans (Gr.alloc (Gr.refl _) _))).mono ?_
            rintro e w6 ⟨rfl, g6⟩
            go_wp2_with fail
            go_meet
            exact ⟨rfl, g6⟩
          | true =>
            obtain ⟨hyz, n1, n2, n3, n4⟩ := HYZ.out rfl rfl rfl
            subst hyz
            go_wp2_with fail
            refine (HOR.out _ (GW5.out.trans (Gr.alloc (Gr.refl _) _))).mono ?_
            rintro e w6 ⟨rfl, g6⟩
            have g56 := (Gr.alloc (Gr.refl w5) _).trans g6
            obtain ⟨z0, z1, z2, z3, sz⟩ := box_res g6
            have y0 := (g56.cell _ _ sy).trans y0
            have y1 := (g56.cell _ _ sy).trans y1
            have y2 := (g56.cell _ _ sy).trans y2
            have y3 := (g56.cell _ _ sy).trans y3
            have sy := Nat.lt_of_lt_of_le sy g56.size
            have P4 := HP4.out.gr (G45.out.trans g56)
            have P5 := HP5.out.gr g56
            have HSF := hide (sameFlat_self G1 G2 G3 G4 H1 H2 H3 H4 s1 s2 s3 s4 t1 t2 t3 t4 _ _ _ _ w6 P4.r P4.c P4.f P4.b P5.r P5.c P5.f P5.b n1 n2 n3 n4)
            clear P4 P5 n1 n2 n3 n4 g56
            go_wp2_with fail
            refine HSF.out.mono ?_
            rintro e w7 ⟨rfl, g7⟩
            go_wp2_with fail
            go_meet
            exact ⟨rfl, g6.trans g7⟩
        · subst ey
          have ez' : (Ez == 0) = false := by simpa using ez
          clear ez
          go_wp2_with fail
          go_meet
          exact ⟨rfl, Gr.refl _⟩
      · have ey' : (Ey == 0) = false := by simpa using ey
        clear ey
        go_wp2_with fail
        go_meet
        exact ⟨rfl, Gr.refl _⟩
    case rest =>
      obtain ⟨rfl, gc⟩ := hcut
      have gA : Gr w5 wc := (Gr.alloc (Gr.refl _) _).trans gc
      obtain ⟨x0, x1, x2, x3, sx⟩ := box_res (G5X.out.trans gA)
      obtain ⟨v0, v1, v2, v3, sv⟩ := box_res (G5S.out.trans gA)
      have f0 := (gA.cell _ _ sb).trans HB5.out.1.1
      have f1 := (gA.cell _ _ sb).trans HB5.out.1.2
      have f2 := (gA.cell _ _ sb).trans HB5.out.2.1
      have f3 := (gA.cell _ _ sb).trans HB5.out.2.2
      have sf := Nat.lt_of_lt_of_le sb gA.size
      have HGA := hide gA
      have P2 := hide (HP2.out.gr (G25.out.trans gA))
      have P3 := hide (HP3.out.gr (G35.out.trans gA))
      have GW := hide (GW5.out.trans gA)
      clear gA gc b0 b1 b2 b3 y0 y1 y2 y3 sy sb HYZ HOR
      go_wp2_with fail
      refine (HF1.out _ GW.out).mono ?_
      rintro e w6 ⟨rfl, g6⟩
      have x0 := (g6.cell _ _ sx).trans x0
      have x1 := (g6.cell _ _ sx).trans x1
      have x2 := (g6.cell _ _ sx).trans x2
      have x3 := (g6.cell _ _ sx).trans x3
      have HS6 := hide (And.intro ((g6.cell _ _ sv).trans v0) (And.intro ((g6.cell _ _ sv).trans v1) (And.intro ((g6.cell _ _ sv).trans v2) (And.intro ((g6.cell _ _ sv).trans v3) (Nat.lt_of_lt_of_le sv g6.size)))))
      have sx := Nat.lt_of_lt_of_le sx g6.size
      have G6 := hide (GW.out.trans g6)
      have P3' := hide (P3.out.gr g6)
      have P2' := hide (P2.out.gr g6)
      clear g6 v0 v1 v2 v3 sv f0 f1 f2 f3 sf HF1
      go_wp2_with fail
      refine (HF2.out _ _ _ _ _ _ _ _ _ P3'.out).mono ?_
      rintro e w7 ⟨rfl, g7⟩
      have v0 := (g7.cell _ _ HS6.out.2.2.2.2).trans HS6.out.1
      have v1 := (g7.cell _ _ HS6.out.2.2.2.2).trans HS6.out.2.1
      have v2 := (g7.cell _ _ HS6.out.2.2.2.2).trans HS6.out.2.2.1
      have v3 := (g7.cell _ _ HS6.out.2.2.2.2).trans HS6.out.2.2.2.1
      have sv := Nat.lt_of_lt_of_le HS6.out.2.2.2.2 g7.size
      have G7 := hide (G6.out.trans g7)
      have P2'' := hide (P2'.out.gr g7)
      clear g7 x0 x1 x2 x3 sx HF2
      go_wp2_with fail
      refine (HF3.out _ _ _ _ _ _ _ _ _ P2''.out).mono ?_
      rintro e w8 ⟨rfl, g8⟩
      have G8 := hide (G7.out.trans g8)
      clear g8 v0 v1 v2 v3 sv HF3
      go_wp2_with fail
      refine (HK.out _).mono ?_
      rintro e w9 ⟨rfl, g9⟩
      go_wp2_with fail
      go_ret
      exact ⟨rfl, G8.out.trans g9⟩
theorem turnsBack_walk (A1 A2 A3 A4 : Option Addr) (c1 c2 c3 c4 : Nat) (F : Pat) (a b : Int) (w : World) (hF : PatW w A1 c1 A2 c2 A3 c3 A4 c4 F) :
    Calls Try.prog 3 #[ptv A1 F.r.length c1 A2 F.c.length c2 A3 F.f.length c3 A4 F.b.length c4, iv a, iv b] w fun x w' => x = .returned (.bool true) ∧ Gr w w' := by
  cases hl : lgB F with
  | true => exact back_out A1 A2 A3 A4 c1 c2 c3 c4 F a b w hF (.inl hl)
  | false =>
    by_cases h : a < 0 ∨ 3 < a ∨ b < 0 ∨ 3 < b
    · exact back_out A1 A2 A3 A4 c1 c2 c3 c4 F a b w hF (.inr ⟨hl, h⟩)
    · obtain ⟨na, rfl⟩ : ∃ n : Nat, a = n := ⟨a.toNat, by omega⟩
      obtain ⟨nb, rfl⟩ : ∃ n : Nat, b = n := ⟨b.toNat, by omega⟩
      exact back_in A1 A2 A3 A4 c1 c2 c3 c4 F na nb w hF hl (by omega) (by omega)
end Go.Proofs.Ytjnfodbniohkhaa
