/-
  Regions: newGrid.
-/
import Derived.Test.YtfbhpeedjphpaaaRgn
set_option linter.unusedVariables false
set_option linter.unusedSimpArgs false
namespace Go.Proofs.Ytfbhpeedjphpaaa
set_option linter.unusedVariables false
set_option linter.unusedSimpArgs false
open Go Go.ChangeShapes Go.WideShapes Go.ChangeAt Go.RowKit Go.Deep

namespace RG
theorem elRows : ElT Try.prog 41 56 1 24 := elT_of (.slice none 0 0) (by kernel_rfl) (by kernel_rfl) rfl
/-- what newGrid returns -/
def NewG (w : World) (X Y : List Int) (e : Ending) (w' : World) : Prop := ∃ (A1 B1 F1 : Option Addr) (a b f : Nat) (rb : Nat → Nat), e = .returned (grv X Y A1 B1 F1 a b f) ∧ GrM w' w.heap.size w'.heap.size X Y A1 B1 F1 a b f rb (fun _ _ => false) ∧ Gr w w'
set_option maxHeartbeats 8000000 in
set_option maxRecDepth 100000 in
theorem newGrid_any (A : Option Addr) (c : Nat) (L : List RS) (w : World) (hL : SlRR w A c L) (hL2 : L.length ≤ 2) (hv : ∀ x ∈ L, x.l.length ≤ 48 ∧ ∀ r ∈ x.l, InM 1048576 r) :
    Calls Try.prog 13 #[.slice A L.length c] w (NewG w (lnX (allR L)) (lnY (allR L))) := by
  have n1 := hL.cap
  have n2 := hL.capB
  have HL := hide hL
  have HV := hide hv
  clear hL hv
  go_enter Try.func13, Try.ntmps13
  go_wp2
  have g0 : Gr w (w.alloc (.cells #[.slice none 0 0, .slice none 0 0, .slice none 0 0] 43)) := Gr.alloc (Gr.refl _) _
  have HB := hide (fun (w' : World) (g : Gr (w.alloc (.cells #[.slice none 0 0, .slice none 0 0, .slice none 0 0] 43)) w') => (Made.new w #[.slice none 0 0, .slice none 0 0, .slice none 0 0] 43).gr g)
  have hs1 : (w.alloc (.cells #[.slice none 0 0, .slice none 0 0, .slice none 0 0] 43)).heap.size = w.heap.size + 1 := by simp
  generalize w.alloc (.cells #[.slice none 0 0, .slice none 0 0, .slice none 0 0] 43) = w1 at *
  have HS1 := hide hs1
  have hs1' : w.heap.size < w1.heap.size := by omega
  clear hs1
  go_loopw [3, 4, 12] (fun xv yv i wr => ∃ (k : Nat) (O Q : List Int) (A1 B1 : Option Addr) (d1 d2 : Nat), k ≤ L.length ∧ i = iv k ∧ xv = .slice A1 O.length d1 ∧ yv = .slice B1 Q.length d2 ∧ Gr w1 wr ∧ Hid (OwnL wr w1.heap.size 3 1 inL (.slice A1 O.length d1) O) ∧ Hid (OwnL wr w1.heap.size 3 1 inL (.slice B1 Q.length d2) Q) ∧ Hid (Dj (.slice A1 O.length d1) (.slice B1 Q.length d2)) ∧ Hid (O = flX (allR (L.take k)) ∧ Q = flY (allR (L.take k))) ∧ O.length ≤ 96 * k ∧ Q.length ≤ 96 * k) (fun _ _ i _ => L.length - (intOf i).toNat)
  case atStart => exact ⟨0, [], [], none, none, 0, 0, by omega, rfl, rfl, rfl, Gr.refl _, own_nil _ _ _ _ _, own_nil _ _ _ _ _, dj_nil _ _ _, ⟨rfl, rfl⟩, by simp, by simp⟩
  case round =>
    obtain ⟨k, O, Q, A1, B1, d1, d2, hk, rfl, rfl, rfl, g, HO, HQ, HD, HE, hO, hQ⟩ := hrel
    by_cases hkl : k < L.length
    · obtain ⟨x, hx⟩ : ∃ x, L[k]? = some x := ⟨_, List.getElem?_eq_getElem hkl⟩
      obtain ⟨b, o, rfl, x0, hxl⟩ := (HL.out.gr (g0.trans g)).at_ hx
      have HX := hide hx
      have HXL := hide hxl
      have hxv := HV.out x (List.mem_of_getElem? hx)
      have h48 := hxv.1
      have HVX := hide hxv.2
      have hk0 : (0 : Int) ≤ (k : Int) := by omega
      have hk1 : (k : Int) < (L.length : Int) := by omega
      have n3 := hxl.cap
      have n4 := hxl.capB
      clear hx hxl hxv
      go_wp2
      obtain ⟨wo, rfl⟩ : ∃ wo : World, wo = wr := ⟨_, rfl⟩
      have HE1 := hide (show O = flX (allR (L.take k) ++ x.l.take 0) ∧ Q = flY (allR (L.take k) ++ x.l.take 0) by simpa using HE.out)
      clear HE
      go_loopw [3, 4, 18] (fun xv yv i wr => ∃ (j : Nat) (O Q : List Int) (A1 B1 : Option Addr) (d1 d2 : Nat), j ≤ x.l.length ∧ i = iv j ∧ xv = .slice A1 O.length d1 ∧ yv = .slice B1 Q.length d2 ∧ Gr w1 wr ∧ wo.heap.size ≤ wr.heap.size ∧ Hid (OwnL wr w1.heap.size 3 1 inL (.slice A1 O.length d1) O) ∧ Hid (OwnL wr w1.heap.size 3 1 inL (.slice B1 Q.length d2) Q) ∧ Hid (Dj (.slice A1 O.length d1) (.slice B1 Q.length d2)) ∧ Hid (O = flX (allR (L.take k) ++ x.l.take j) ∧ Q = flY (allR (L.take k) ++ x.l.take j)) ∧ O.length ≤ 96 * k + 2 * j ∧ Q.length ≤ 96 * k + 2 * j) (fun _ _ i _ => x.l.length - (intOf i).toNat)
      case atStart => exact ⟨0, O, Q, A1, B1, d1, d2, by omega, rfl, rfl, rfl, g, Nat.le_refl _, HO, HQ, HD, HE1, by omega, by omega⟩
      case round =>
        clear HO HQ HD HE1 hO hQ
        obtain ⟨j, O, Q, A1, B1, d1, d2, hj, rfl, rfl, rfl, g2, hsz, HO, HQ, HD, HE, hO, hQ⟩ := hrel
        have sz2 := g2.size
        by_cases hjl : j < x.l.length
        · obtain ⟨r, hr⟩ : ∃ r, x.l[j]? = some r := ⟨_, List.getElem?_eq_getElem hjl⟩
          obtain ⟨b2, o2, hA, y0, y1, y2, y3⟩ := (HL.out.gr (g0.trans g2)).at_ HX.out |>.elim fun b h => h.elim fun o h => h.2.2.at_ hr
          have hb := HVX.out r (List.mem_of_getElem? hr)
          have m1 := hb.w
          have m2 := hb.h
          have m3 := hb.x
          have m4 := hb.y
          have m5 := hb.x'
          have m6 := hb.y'
          have HA := hide hA
          have HR := hide hr
          have hj0 : (0 : Int) ≤ (j : Int) := by omega
          have hj1 : (j : Int) < (x.l.length : Int) := by omega
          clear hr hb
          rw [hA]
          clear hA
          obtain ⟨O2, hO2⟩ : ∃ O2, O ++ [r.x, r.x + r.w] = O2 := ⟨_, rfl⟩
          obtain ⟨Q2, hQ2⟩ : ∃ Q2, Q ++ [r.y, r.y + r.h] = Q2 := ⟨_, rfl⟩
          have HO2 := hide hO2
          have HQ2 := hide hQ2
          have HE2 := hide (show O2 = flX (allR (L.take k) ++ x.l.take (j + 1)) ∧ Q2 = flY (allR (L.take k) ++ x.l.take (j + 1)) by
            rw [take_at HR.out, ← List.append_assoc, flX_snoc, flY_snoc, ← HE.out.1, ← HE.out.2]
            exact ⟨hO2.symm, hQ2.symm⟩)
          have hO2l : O2.length ≤ 96 * k + 2 * (j + 1) := by rw [← hO2]; simp; omega
          have hQ2l : Q2.length ≤ 96 * k + 2 * (j + 1) := by rw [← hQ2]; simp; omega
          have hO2e : O2.length = O.length + 2 := by rw [← hO2]; simp
          have hQ2e : Q2.length = Q.length + 2 := by rw [← hQ2]; simp
          have HOl := hide hO2e
          have HQl := hide hQ2e
          clear hO2 hQ2 HE hO2e hQ2e
          go_upto_region 8 with fail
          have HBX := hide (fun (w' : World) (g : Gr (wr.alloc (.cells #[iv r.x, iv r.y, iv r.w, iv r.h] 36)) w') => box4 g)
          have g3 : Gr wr (wr.alloc (.cells #[iv r.x, iv r.y, iv r.w, iv r.h] 36)) := Gr.alloc (Gr.refl _) _
          have hs3 : (wr.alloc (.cells #[iv r.x, iv r.y, iv r.w, iv r.h] 36)).heap.size = wr.heap.size + 1 := by simp
          generalize wr.alloc (.cells #[iv r.x, iv r.y, iv r.w, iv r.h] 36) = w3 at *
          have HS3 := hide hs3
          have hs3' : wr.heap.size < w3.heap.size := by omega
          clear hs3
          obtain ⟨hB3, p0, p1, p2, p3⟩ := HBX.out _ (Gr.refl _)
          have HO3 := hide (HO.out.gr g3)
          have HQ3 := hide (HQ.out.gr g3)
          have oO := fun b hb => (OwnL.lt HO.out b hb).2
          have oQ := fun b hb => (OwnL.lt HQ.out b hb).2
          have HoO := hide oO
          have HoQ := hide oQ
          clear oO oQ HO HQ hB3
          have g13 : Gr w1 w3 := g2.trans g3
          clear y0 y1 y2 y3 x0
          go_upto_region 9 with (refine wpList_appZ rfl _ _ _ rfl inL w1.heap.size 3 1 8 elInt (by decide) O [r.x, r.x + r.w] O2 HO2.out _ rfl (HO3.out.gr (Gr.alloc (Gr.refl _) _)) ⟨w3.heap.size, 0, none⟩ 2 2 rfl rfl (by decide) (fun _ => rfl) (news2 w3 r.x (r.x + r.w) 3) (one2 _ _) (by omega) (by decide) (by simp only [World.size_alloc]; have := g13.size; omega) ?_; intro gg cap1 w8 hO8 hG8 hgw8 hat8 hlt8)
          have g8 : Gr w1 w8 := hG8 _ (Gr.alloc g13 _) (Nat.le_refl _)
          have hQ8 := OwnL.kept (HQ3.out.gr (Gr.alloc (Gr.refl _) (.cells #[iv r.x, iv (r.x + r.w)] 3))) hgw8 (HD.out.symm.ne)
          have q1 : w8.cell? ⟨wr.heap.size, 1, none⟩ = some (iv r.y) := cell_grown (cell_keep_alloc p1 _) hgw8 (fun e => by have := HoO.out _ e.symm; omega)
          have q3 : w8.cell? ⟨wr.heap.size, 3, none⟩ = some (iv r.h) := cell_grown (cell_keep_alloc p3 _) hgw8 (fun e => by have := HoO.out _ e.symm; omega)
          have HD8 := hide (dj_next (n := O2.length) (cap := cap1) HD.out (fun b hb => by have := HoQ.out b hb; simp only [World.size_alloc]; omega) hat8)
          have oO8 := hide (fun b hb => (OwnL.lt hO8 b hb).2)
          have sz8 := hgw8.size
          simp only [World.size_alloc] at sz8
          have HO8 := hide hO8
          have HQ8 := hide hQ8
          clear hO8 hG8 hgw8 hat8 hQ8 p0 p1 p2 p3 HO3 HQ3 HD HoO HBX
          go_wp2_with (refine wpList_appZ rfl _ _ _ rfl inL w1.heap.size 3 1 8 elInt (by decide) Q [r.y, r.y + r.h] Q2 HQ2.out _ rfl (HQ8.out.gr (Gr.alloc (Gr.refl _) _)) ⟨w8.heap.size, 0, none⟩ 2 2 rfl rfl (by decide) (fun _ => rfl) (news2 w8 r.y (r.y + r.h) 3) (one2 _ _) (by omega) (by decide) (by simp only [World.size_alloc]; have := g8.size; omega) ?_; intro gg2 cap2 w9 hQ9 hG9 hgw9 hat9 hlt9)
          have g9 : Gr w1 w9 := hG9 _ (Gr.alloc g8 _) (Nat.le_refl _)
          have hO9 := hide (OwnL.kept (HO8.out.gr (Gr.alloc (Gr.refl _) (.cells #[iv r.y, iv (r.y + r.h)] 3))) hgw9 HD8.out.ne)
          have HD9 := hide (dj_next (n := Q2.length) (cap := cap2) HD8.out.symm (fun b hb => by have := oO8.out b hb; simp only [World.size_alloc]; omega) hat9).symm
          have sz9 := hgw9.size
          simp only [World.size_alloc] at sz9
          have HQ9 := hide hQ9
          clear hQ9 hG9 hgw9 hat9 HO8 HQ8 HD8 q1 q3
          go_roundw
          case rel => exact ⟨j + 1, O2, Q2, some ⟨gg, 0, none⟩, some ⟨gg2, 0, none⟩, cap1, cap2, by omega, by go_num, rfl, rfl, g9, by omega, hO9, HQ9, HD9, HE2, by omega, by omega⟩
          case measure => simp only [intOf]; omega
        · obtain rfl : j = x.l.length := by omega
          have HE2 := hide (show O = flX (allR (L.take (k + 1))) ∧ Q = flY (allR (L.take (k + 1))) by
            rw [allR_snoc HX.out]
            simpa using HE.out)
          go_wp2
          go_roundw
          case rel => exact ⟨k + 1, O, Q, A1, B1, d1, d2, by omega, by go_num, rfl, rfl, g2, HO, HQ, HD, HE2, by omega, by omega⟩
          case measure => simp only [intOf]; omega
    · obtain rfl : k = L.length := by omega
      have HX := hide (show srt O = lnX (allR L) by rw [← srt_flX, HE.out.1, List.take_length])
      have HY := hide (show srt Q = lnY (allR L) by rw [← srt_flY, HE.out.2, List.take_length])
      have lX := len_srt O
      have lY := len_srt Q
      rw [HX.out] at lX
      rw [HY.out] at lY
      have lX1 : (lnX (allR L)).length ≤ 1000 := by omega
      have lY1 : (lnY (allR L)).length ≤ 1000 := by omega
      clear HE lX lY
      have sz := g.size
      generalize lnX (allR L) = X at *
      generalize lnY (allR L) = Y at *
      go_upto_region 12 with fail
      go_wp2_with fail
      refine (sortU_any A1 d1 O wr (own_sli HO.out) (by omega)).mono ?_
      rintro e w3 ⟨D1, q1, rfl, ho3, g3⟩
      rw [HX.out] at ho3 ⊢
      have HO3 := hide ho3
      have sz3 := g3.size
      have HQ3 := hide (HQ.out.gr g3)
      clear ho3 HO HQ HD
      go_wp2_with fail
      refine (sortU_any B1 d2 Q w3 (own_sli HQ3.out) (by omega)).mono ?_
      rintro e w4 ⟨D2, q2, rfl, ho4, g4⟩
      rw [HY.out] at ho4 ⊢
      have HO4 := hide ho4
      have sz4 := g4.size
      have HO3' := hide (HO3.out.gr g4)
      clear ho4 HO3 HQ3 HX HY
      go_upto_region 13 with fail
      have m5 := Made.new w4 #[.slice D1 X.length q1, .slice D2 Y.length q2, .slice none 0 0] 43
      have g5 : Gr w4 (w4.alloc (.cells #[.slice D1 X.length q1, .slice D2 Y.length q2, .slice none 0 0] 43)) := Gr.alloc (Gr.refl _) _
      have hs5 : (w4.alloc (.cells #[.slice D1 X.length q1, .slice D2 Y.length q2, .slice none 0 0] 43)).heap.size = w4.heap.size + 1 := by simp
      generalize w4.alloc (.cells #[.slice D1 X.length q1, .slice D2 Y.length q2, .slice none 0 0] 43) = w5 at *
      have hX5 := hide ((HO3'.out.gr g5).weak (show w1.heap.size ≤ wr.heap.size by omega))
      have hY5 := hide ((HO4.out.gr g5).weak (show w1.heap.size ≤ w3.heap.size by omega))
      have hXS := hide (show (Value.slice D1 X.length q1).ownBlock ≠ some w4.heap.size from fun e => by have := (OwnL.lt HO3'.out _ e).2; omega)
      have hYS := hide (show (Value.slice D2 Y.length q2).ownBlock ≠ some w4.heap.size from fun e => by have := (OwnL.lt HO4.out _ e).2; omega)
      obtain ⟨S, hS⟩ : ∃ S, w4.heap.size = S := ⟨_, rfl⟩
      have g15 : Gr w1 w5 := ((g.trans g3).trans g4).trans g5
      rw [hS] at m5 hXS hYS hs5
      have hS5 : S < w5.heap.size := by omega
      have hS1 : w1.heap.size ≤ S := by omega
      have HS5 := hide hs5
      rw [hS]
      clear hS hs5 HO3' HO4 g3 g4 g5 g sz sz3 sz4
      obtain ⟨M0, M1, M2, M3, M4, M5⟩ := made3 m5
      have HM5 := hide m5
      clear m5
      go_wp2
      go_loopw [52] (fun i wr => ∃ (k : Nat) (bs : List Nat) (F : Option Addr) (f : Nat), k ≤ X.length ∧ i = iv k ∧ bs.length = k ∧ Fld S (fun _ => S) 1 w5 wr ∧ Hid (Rws wr w5.heap.size Y.length F f bs) ∧ Hid (Made wr S #[.slice D1 X.length q1, .slice D2 Y.length q2, .slice F k f])) (fun i _ => X.length - (intOf i).toNat)
      case atStart => exact ⟨0, [], none, 0, by omega, rfl, rfl, Fld.refl _ _ _ _, rws_nil _ _ _, HM5⟩
      case round =>
        clear M0 M1 M2 M3 M4 M5 HM5
        obtain ⟨k, bs, F, f, hk, rfl, hbs, hF, HR, HM⟩ := hrel
        obtain ⟨M0, M1, M2, M3, M4, M5⟩ := made3 HM.out
        have szr := hF.size
        have HBS := hide hbs
        have HF := hide hF
        clear hbs hF
        by_cases hkl : k < X.length
        · have hk0 : (0 : Int) ≤ (k : Int) := by omega
          have hk1 : (k : Int) < (X.length : Int) := by omega
          have hSr : S < wr.heap.size := by omega
          have hmk : ∀ w, (Instr.makeSlice 56 (.int .i64 (Y.length : Int)) (.int .i64 (Y.length : Int))).run Try.prog w = .ok (.slice (some ⟨w.heap.size, 0, none⟩) Y.length Y.length) (w.alloc (.cells (madeCells #[.bool false] Y.length) 4)) := fun w => run_make_row' 56 4 (.bool false) 1 (by kernel_rfl) (by kernel_rfl) rfl .i64 .i64 Y.length (by omega) (by omega) w
          have HOW := hide (show World.ownsRow wr w5.heap.size 56 1 (.slice F k f) k (bs.flatMap (rwL Y.length)) by
            have := HR.out.own
            unfold OwnL at this
            rwa [HBS.out] at this)
          obtain ⟨i0, z0, hi0, hz0, hsz0, hby0, hzc0⟩ := elRows.inf
          have hok := fun k' hk' => (World.ownsRow.lt HOW.out k' hk').1
          have HOK := hide hok
          clear hok
          generalize hbq : bs.flatMap (rwL Y.length) = FL at *
          have HBQ := hide hbq
          clear hbq
          go_upto_region 15 with fail
          go_region_law (first
            | (refine step_append_lies _ (by rfl) _ _ _ (by rfl) w5.heap.size 56 i0 _ 1 24 elRows.und hi0 hz0 hsz0 hby0 hzc0 (by omega) _ k FL (by rfl) (own_gr HOW.out (by repeat (first | with_reducible exact Gr.refl _ | with_reducible assumption | with_reducible refine Gr.alloc ?_ _ | with_reducible refine Gr.drewN ?_ _ | with_reducible refine Gr.drew ?_ | with_reducible refine Gr.setCell ?_ (by first | (dsimp only; omega) | (simp only [World.size_alloc]; omega) | (with_reducible refine Gr.size ?_; (repeat (first | with_reducible exact Gr.refl _ | with_reducible assumption | with_reducible refine Gr.alloc ?_ _ | with_reducible refine Gr.drewN ?_ _ | with_reducible refine Gr.drew ?_ | with_reducible refine Gr.trans ?_ (by with_reducible assumption))); done)) _ | with_reducible refine Gr.trans ?_ (by with_reducible assumption)))) ⟨wr.heap.size + 1, 0, none⟩ 1 1 (rwL Y.length wr.heap.size) (by rfl) (by rfl) (newsN _ #[.slice (some ⟨wr.heap.size, 0, none⟩) Y.length Y.length] 56 (wr.heap.size + 1) (by simp)) (by intro u hu; simp at hu; subst hu; rfl) (by omega) (by unfold maxLen; omega) (by omega) (Nat.le_trans szr (Gr.size (by repeat (first | with_reducible exact Gr.refl _ | with_reducible assumption | with_reducible refine Gr.alloc ?_ _ | with_reducible refine Gr.drewN ?_ _ | with_reducible refine Gr.drew ?_ | with_reducible refine Gr.setCell ?_ (by first | (dsimp only; omega) | (simp only [World.size_alloc]; omega) | (with_reducible refine Gr.size ?_; (repeat (first | with_reducible exact Gr.refl _ | with_reducible assumption | with_reducible refine Gr.alloc ?_ _ | with_reducible refine Gr.drewN ?_ _ | with_reducible refine Gr.drew ?_ | with_reducible refine Gr.trans ?_ (by with_reducible assumption))); done)) _ | with_reducible refine Gr.trans ?_ (by with_reducible assumption))))) _ rfl ?_; intro gg cap1 w8 hown8 hgrow hat hlt; (have m8 := made_grown (HM.out.gr (by repeat (first | with_reducible exact Gr.refl _ | with_reducible assumption | with_reducible refine Gr.alloc ?_ _ | with_reducible refine Gr.drewN ?_ _ | with_reducible refine Gr.drew ?_ | with_reducible refine Gr.setCell ?_ (by first | (dsimp only; omega) | (simp only [World.size_alloc]; omega) | (with_reducible refine Gr.size ?_; (repeat (first | with_reducible exact Gr.refl _ | with_reducible assumption | with_reducible refine Gr.alloc ?_ _ | with_reducible refine Gr.drewN ?_ _ | with_reducible refine Gr.drew ?_ | with_reducible refine Gr.trans ?_ (by with_reducible assumption))); done)) _ | with_reducible refine Gr.trans ?_ (by with_reducible assumption)))) hgrow HOK.out hS5); obtain ⟨m80, m81, m82⟩ := id m8))
          all_goals
            have r8 := hide (Rws.next (b0 := wr.heap.size) HR.out HBS.out (show Gr wr _ from (by repeat (first | with_reducible exact Gr.refl _ | with_reducible assumption | with_reducible refine Gr.alloc ?_ _ | with_reducible refine Gr.drewN ?_ _ | with_reducible refine Gr.drew ?_ | with_reducible refine Gr.setCell ?_ (by first | (dsimp only; omega) | (simp only [World.size_alloc]; omega) | (with_reducible refine Gr.size ?_; (repeat (first | with_reducible exact Gr.refl _ | with_reducible assumption | with_reducible refine Gr.alloc ?_ _ | with_reducible refine Gr.drewN ?_ _ | with_reducible refine Gr.drew ?_ | with_reducible refine Gr.trans ?_ (by with_reducible assumption))); done)) _ | with_reducible refine Gr.trans ?_ (by with_reducible assumption)))) szr (Nat.le_refl _) (by simp; omega) (fun j hj => by have h := made_zero wr Y.length 4 j hj; exact ⟨cell_keep_alloc h.1 _, (Gr.frozen (show Gr (wr.alloc (.cells (madeCells #[.bool false] Y.length) 4)) _ from Gr.alloc (Gr.refl _) _) _ _ (by simp)).trans h.2⟩) (by rw [HBQ.out]; exact hown8) hgrow hat)
            have r9 := hide (r8.out.set hS5 2 (.slice (some ⟨gg, 0, none⟩) (k + 1) cap1))
            have f9 := (((HF.out.gr (show Gr wr _ from (by repeat (first | with_reducible exact Gr.refl _ | with_reducible assumption | with_reducible refine Gr.alloc ?_ _ | with_reducible refine Gr.drewN ?_ _ | with_reducible refine Gr.drew ?_ | with_reducible refine Gr.setCell ?_ (by first | (dsimp only; omega) | (simp only [World.size_alloc]; omega) | (with_reducible refine Gr.size ?_; (repeat (first | with_reducible exact Gr.refl _ | with_reducible assumption | with_reducible refine Gr.alloc ?_ _ | with_reducible refine Gr.drewN ?_ _ | with_reducible refine Gr.drew ?_ | with_reducible refine Gr.trans ?_ (by with_reducible assumption))); done)) _ | with_reducible refine Gr.trans ?_ (by with_reducible assumption))))).grown hgrow HOK.out).store (i := 0) (j := 2) (by decide) (Nat.le_refl _) (.slice (some ⟨gg, 0, none⟩) (k + 1) cap1))
            have m9 := hide (show Made (w8.setCell ⟨S, 2, none⟩ (.slice (some ⟨gg, 0, none⟩) (k + 1) cap1)) S #[.slice D1 X.length q1, .slice D2 Y.length q2, .slice (some ⟨gg, 0, none⟩) (k + 1) cap1] from made_set m8 2 (by simp) _ rfl)
            have f9' := hide f9
            have hbl := hide (show (bs ++ [wr.heap.size]).length = k + 1 by simp [HBS.out])
            clear hown8 hgrow hat hlt HOW m8 m80 m81 m82 HM M0 M1 M2 M3 M4 M5 r8 f9 hmk HBQ HOK
            go_wp2
            go_roundw
            case rel => exact ⟨k + 1, bs ++ [wr.heap.size], some ⟨gg, 0, none⟩, cap1, by omega, by go_num, hbl.out, f9'.out, r9, m9⟩
            case measure => simp only [intOf]; omega
        · obtain rfl : k = X.length := by omega
          have gW := HF.out.below w (g0.trans g15) (by omega)
          obtain ⟨rb, hG⟩ := grM_of (lo := w1.heap.size) hX5.out hY5.out hXS.out hYS.out HF.out HR.out HBS.out (by omega) lX1 lY1
          have HG := hide hG
          have mB := made_fld (HB.out _ g15) HF.out (fun i _ => by omega)
          obtain ⟨N0, N1, N2, N3, N4, N5⟩ := made3 mB
          have hBr := mB.1
          clear hG mB HR HF
          go_wp2
          have HF2 := hide (((HG.out.set hs1' 0 (.slice D1 X.length q1)).set hs1' 1 (.slice D2 Y.length q2)).set hs1' 2 (.slice F X.length f))
          refine bodyPost_ret (v := grv X Y D1 D2 F q1 q2 f) (by simp [results, Try.results13, go_sem, *]) rfl ⟨D1, D2, F, q1, q2, f, rb, rfl, ?_, ?_⟩
          · exact HF2.out.weak (by omega) (by simp) (by simp)
          · exact ((gW.setCell (p := ⟨w.heap.size, 0, none⟩) (Nat.le_refl _) _).setCell (p := ⟨w.heap.size, 1, none⟩) (Nat.le_refl _) _).setCell (p := ⟨w.heap.size, 2, none⟩) (Nat.le_refl _) _
end RG
end Go.Proofs.Ytfbhpeedjphpaaa
