/-
  Flat patterns turned: SameRects and SameFlat at equal lists; ordered of the statements.
-/
import Derived.Test.YtjnfodbniohkhaaQm
set_option linter.unusedVariables false
set_option linter.unusedSimpArgs false
namespace Go.Proofs.Ytjnfodbniohkhaa
set_option linter.unusedVariables false
set_option linter.unusedSimpArgs false
open Go Go.ChangeShapes Go.WideShapes Go.ChangeAt Go.RowKit Go.Deep

namespace RG
theorem sRcT : Try.prog.underlying 55 = some (.struct (Try.prog.fieldsOf 55)) := by kernel_rfl
theorem pRcT : Try.prog.stoodInHeld 55 = false := by kernel_rfl
theorem gRcT : Try.prog.eqGuardType Try.prog.depth 55 = false := by kernel_rfl
theorem sSgT : Try.prog.underlying 47 = some (.struct (Try.prog.fieldsOf 47)) := by kernel_rfl
theorem pSgT : Try.prog.stoodInHeld 47 = false := by kernel_rfl
theorem sBnT : Try.prog.underlying 49 = some (.struct (Try.prog.fieldsOf 49)) := by kernel_rfl
theorem pBnT : Try.prog.stoodInHeld 49 = false := by kernel_rfl
theorem gBnT : Try.prog.eqGuardType Try.prog.depth 49 = false := by kernel_rfl
theorem eqRcS (r : Rc) (w : World) : (Op.equalIn 10000 55 (rcv r) (rcv r)).run Try.prog w = .ok true w := by
  have u3 := Try.underlying3
  have a3 := Try.isAgg3
  have z3 := Try.sizeOf3
  rw [run_equalIn_agg w 9999 55 _ _ sRcT pRcT]
  simp only [Program.fieldsOf, Try.underlying55]
  go_simp
theorem eqSgS (d : Nat) (a b c e : Int) (w : World) : (Op.equalIn (d + 2) 47 (.agg #[iv a, iv b, iv c, iv e]) (.agg #[iv a, iv b, iv c, iv e])).run Try.prog w = .ok true w := by
  have u3 := Try.underlying3
  have a3 := Try.isAgg3
  have z3 := Try.sizeOf3
  rw [run_equalIn_agg w (d + 1) 47 _ _ sSgT pSgT]
  simp only [Program.fieldsOf, Try.underlying47]
  go_simp
theorem eqBnS (b : Bd) (w : World) : (Op.equalIn 10000 49 (bdv b) (bdv b)).run Try.prog w = .ok true w := by
  have u3 := Try.underlying3
  have a3 := Try.isAgg3
  have z3 := Try.sizeOf3
  have hs := fun w => eqSgS 9997 b.a b.b b.c b.d w
  have zs := Try.sizeOf47
  have aS := Try.isAgg47
  rw [run_equalIn_agg w 9999 49 _ _ sBnT pBnT]
  simp only [Program.fieldsOf, Try.underlying49]
  go_simp
set_option maxRecDepth 100000 in
set_option maxHeartbeats 2000000 in
theorem sameRects_self (A B : Option Addr) (c d : Nat) (l : List Rc) (w : World) (hl : SlR w A c l) (hm : SlR w B d l) (hn : l.length ≤ 1000) :
    Calls Try.prog 22 #[.slice A l.length c, .slice B l.length d] w fun e w' => e = .returned (.bool true) ∧ Gr w w' := by
  have HLl := hide hl
  have HLm := hide hm
  clear hl hm
  have GP := gRcT
  go_enter Try.func22, Try.ntmps22
  go_wp2
  go_loopw [5] (fun i wr => ∃ k : Nat, k ≤ l.length ∧ i = iv k ∧ Gr w wr) (fun i _ => l.length - (intOf i).toNat)
  case atStart => exact ⟨0, by omega, rfl, Gr.refl _⟩
  case round =>
    obtain ⟨k, hk, rfl, g⟩ := hrel
    by_cases hkl : k < l.length
    · obtain ⟨a, ha⟩ : ∃ a, l[k]? = some a := ⟨_, List.getElem?_eq_getElem hkl⟩
      obtain ⟨p, o, rfl, x0, x1, x2, x3⟩ := (HLl.out.gr g).at_ ha
      obtain ⟨q, o', rfl, y0, y1, y2, y3⟩ := (HLm.out.gr g).at_ ha
      have hp : p < wr.heap.size := cell_lt (by rw [x0]; rfl)
      have hqw : q < wr.heap.size := cell_lt (by rw [y0]; rfl)
      have NEQ := fun w => eqRcS a w
      have hk0 : (0 : Int) ≤ (k : Int) := by omega
      have hk1 : (k : Int) < (l.length : Int) := by omega
      clear ha
      go_upto_region 6 with fail
      have GC := @GrW.cell
      refine wp_region_grw _ (by kernel_rfl) (by kernel_rfl) (Gr.refl _) ?_
      repeat (go_big_quiet_step ((first | fail)))
      refine wpQuiet_nil ?_
      intro wq hwq
      obtain ⟨gq, hwq'⟩ := hwq
      subst hwq'
      clear GC
      have gq1 := gq.gr
      generalize gq.w = wq at gq1 ⊢
      obtain ⟨Xq, Yq, cq, fq⟩ := gq1.use
      have sq := gq1.size
      (try simp only [World.size_alloc, World.size_setCell, World.heap_drewN] at sq)
      go_wp2
      go_roundw
      case rel => exact ⟨k + 1, by omega, by go_num, (by repeat (first | with_reducible exact Gr.refl _ | with_reducible assumption | with_reducible refine Gr.alloc ?_ _ | with_reducible refine Gr.drewN ?_ _ | with_reducible refine Gr.drew ?_ | with_reducible refine Gr.setCell ?_ (by first | (dsimp only; omega) | (simp only [World.size_alloc]; omega) | (with_reducible refine Gr.size ?_; (repeat (first | with_reducible exact Gr.refl _ | with_reducible assumption | with_reducible refine Gr.alloc ?_ _ | with_reducible refine Gr.drewN ?_ _ | with_reducible refine Gr.drew ?_ | with_reducible refine Gr.trans ?_ (by with_reducible assumption))); done)) _ | with_reducible refine Gr.trans ?_ (by with_reducible assumption)))⟩
      case measure => simp only [intOf]; omega
    · obtain rfl : k = l.length := by omega
      go_wp2
      go_ret
      exact ⟨rfl, g⟩
set_option maxRecDepth 100000 in
set_option maxHeartbeats 4000000 in
theorem sameFlat_self (A1 A2 A3 A4 B1 B2 B3 B4 : Option Addr) (c1 c2 c3 c4 d1 d2 d3 d4 : Nat) (l1 l2 l3 : List Rc) (l4 : List Bd) (w : World) (h1 : SlR w A1 c1 l1) (h2 : SlR w A2 c2 l2) (h3 : SlR w A3 c3 l3) (h4 : SlB w A4 c4 l4)
    (k1 : SlR w B1 d1 l1) (k2 : SlR w B2 d2 l2) (k3 : SlR w B3 d3 l3) (k4 : SlB w B4 d4 l4) (n1 : l1.length ≤ 1000) (n2 : l2.length ≤ 1000) (n3 : l3.length ≤ 1000) (n4 : l4.length ≤ 1000) :
    Calls Try.prog 10 #[ptv A1 l1.length c1 A2 l2.length c2 A3 l3.length c3 A4 l4.length c4, ptv B1 l1.length d1 B2 l2.length d2 B3 l3.length d3 B4 l4.length d4] w fun e w' => e = .returned (.bool true) ∧ Gr w w' := by
  have H1 := hide (fun (w' : World) (g : Gr w w') => sameRects_self A1 B1 c1 d1 l1 w' (h1.gr g) (k1.gr g) n1)
  have H2 := hide (fun (w' : World) (g : Gr w w') => sameRects_self A2 B2 c2 d2 l2 w' (h2.gr g) (k2.gr g) n2)
  have H3 := hide (fun (w' : World) (g : Gr w w') => sameRects_self A3 B3 c3 d3 l3 w' (h3.gr g) (k3.gr g) n3)
  have HLl := hide h4
  have HLm := hide k4
  clear h1 h2 h3 h4 k1 k2 k3 k4
  have GP := gBnT
  go_enter Try.func10, Try.ntmps10
  go_wp2_with fail
  refine (H1.out _ (by repeat (first | with_reducible exact Gr.refl _ | with_reducible assumption | with_reducible refine Gr.alloc ?_ _ | with_reducible refine Gr.drewN ?_ _ | with_reducible refine Gr.drew ?_ | with_reducible refine Gr.setCell ?_ (by first | (dsimp only; omega) | (simp only [World.size_alloc]; omega) | (with_reducible refine Gr.size ?_; (repeat (first | with_reducible exact Gr.refl _ | with_reducible assumption | with_reducible refine Gr.alloc ?_ _ | with_reducible refine Gr.drewN ?_ _ | with_reducible refine Gr.drew ?_ | with_reducible refine Gr.trans ?_ (by with_reducible assumption))); done)) _ | with_reducible refine Gr.trans ?_ (by with_reducible assumption)))).mono ?_
  rintro e w1 ⟨rfl, g1⟩
  obtain ⟨X1, Y1, cc1, f1⟩ := g1.use
  have z1 := g1.size
  simp only [World.size_alloc] at z1
  have l0 : w.heap.size < w1.heap.size := by omega
  have l1' : w.heap.size + 1 < w1.heap.size := by omega
  go_wp2_with fail
  refine (H2.out _ (by repeat (first | with_reducible exact Gr.refl _ | with_reducible assumption | with_reducible refine Gr.alloc ?_ _ | with_reducible refine Gr.drewN ?_ _ | with_reducible refine Gr.drew ?_ | with_reducible refine Gr.setCell ?_ (by first | (dsimp only; omega) | (simp only [World.size_alloc]; omega) | (with_reducible refine Gr.size ?_; (repeat (first | with_reducible exact Gr.refl _ | with_reducible assumption | with_reducible refine Gr.alloc ?_ _ | with_reducible refine Gr.drewN ?_ _ | with_reducible refine Gr.drew ?_ | with_reducible refine Gr.trans ?_ (by with_reducible assumption))); done)) _ | with_reducible refine Gr.trans ?_ (by with_reducible assumption)))).mono ?_
  rintro e w2 ⟨rfl, g2⟩
  obtain ⟨X2, Y2, cc2, f2⟩ := g2.use
  have z2 := g2.size
  have m0 : w.heap.size < w2.heap.size := by omega
  have m1 : w.heap.size + 1 < w2.heap.size := by omega
  go_wp2_with fail
  refine (H3.out _ (by repeat (first | with_reducible exact Gr.refl _ | with_reducible assumption | with_reducible refine Gr.alloc ?_ _ | with_reducible refine Gr.drewN ?_ _ | with_reducible refine Gr.drew ?_ | with_reducible refine Gr.setCell ?_ (by first | (dsimp only; omega) | (simp only [World.size_alloc]; omega) | (with_reducible refine Gr.size ?_; (repeat (first | with_reducible exact Gr.refl _ | with_reducible assumption | with_reducible refine Gr.alloc ?_ _ | with_reducible refine Gr.drewN ?_ _ | with_reducible refine Gr.drew ?_ | with_reducible refine Gr.trans ?_ (by with_reducible assumption))); done)) _ | with_reducible refine Gr.trans ?_ (by with_reducible assumption)))).mono ?_
  rintro e w3 ⟨rfl, g3⟩
  obtain ⟨X3, Y3, cc3, f3⟩ := g3.use
  have z3 := g3.size
  have o0 : w.heap.size < w3.heap.size := by omega
  have o1 : w.heap.size + 1 < w3.heap.size := by omega
  have gw3 : Gr w w3 := (by repeat (first | with_reducible exact Gr.refl _ | with_reducible assumption | with_reducible refine Gr.alloc ?_ _ | with_reducible refine Gr.drewN ?_ _ | with_reducible refine Gr.drew ?_ | with_reducible refine Gr.setCell ?_ (by first | (dsimp only; omega) | (simp only [World.size_alloc]; omega) | (with_reducible refine Gr.size ?_; (repeat (first | with_reducible exact Gr.refl _ | with_reducible assumption | with_reducible refine Gr.alloc ?_ _ | with_reducible refine Gr.drewN ?_ _ | with_reducible refine Gr.drew ?_ | with_reducible refine Gr.trans ?_ (by with_reducible assumption))); done)) _ | with_reducible refine Gr.trans ?_ (by with_reducible assumption)))
  have q1 : w3.cell? ⟨w.heap.size, 3, none⟩ = some (.slice A4 l4.length c4) := by rw [cc3, cc2, cc1]; simp [go_sem]
  have q2 : w3.cell? ⟨w.heap.size + 1, 3, none⟩ = some (.slice B4 l4.length d4) := by rw [cc3, cc2, cc1]; simp [go_sem]
  go_wp2_with fail
  clear X1 Y1 cc1 f1 X2 Y2 cc2 f2 X3 Y3 cc3 f3
  go_loopw [5] (fun i wr => ∃ k : Nat, k ≤ l4.length ∧ i = iv k ∧ Gr w3 wr) (fun i _ => l4.length - (intOf i).toNat)
  case atStart => exact ⟨0, by omega, rfl, Gr.refl _⟩
  case round =>
    obtain ⟨k, hk, rfl, g⟩ := hrel
    have zr := g.size
    have q3 := (g.cell _ _ o0).trans q1
    have q4 := (g.cell _ _ o1).trans q2
    have lr0 : w.heap.size < wr.heap.size := by omega
    have lr1 : w.heap.size + 1 < wr.heap.size := by omega
    clear q1 q2
    by_cases hkl : k < l4.length
    · obtain ⟨a, ha⟩ : ∃ a, l4[k]? = some a := ⟨_, List.getElem?_eq_getElem hkl⟩
      obtain ⟨p, o, rfl, x0, x1, x2, x3, x4, x5, x6, x7⟩ := (HLl.out.gr (gw3.trans g)).at_ ha
      obtain ⟨q, o', rfl, y0, y1, y2, y3, y4, y5, y6, y7⟩ := (HLm.out.gr (gw3.trans g)).at_ ha
      have hp : p < wr.heap.size := cell_lt (by rw [x0]; rfl)
      have hqw : q < wr.heap.size := cell_lt (by rw [y0]; rfl)
      have NEQ := fun w => eqBnS a w
      have hk0 : (0 : Int) ≤ (k : Int) := by omega
      have hk1 : (k : Int) < (l4.length : Int) := by omega
      clear ha
      go_upto_region 6 with fail
      have GC := @GrW.cell
      refine wp_region_grw _ (by kernel_rfl) (by kernel_rfl) (Gr.refl _) ?_
      repeat (go_big_quiet_step ((first | fail)))
      refine wpQuiet_nil ?_
      intro wq hwq
      obtain ⟨gq, hwq'⟩ := hwq
      subst hwq'
      clear GC
      have gq1 := gq.gr
      generalize gq.w = wq at gq1 ⊢
      obtain ⟨Xq, Yq, cq, fq⟩ := gq1.use
      have sq := gq1.size
      (try simp only [World.size_alloc, World.size_setCell, World.heap_drewN] at sq)
      go_wp2
      go_roundw
      case rel => exact ⟨k + 1, by omega, by go_num, (by repeat (first | with_reducible exact Gr.refl _ | with_reducible assumption | with_reducible refine Gr.alloc ?_ _ | with_reducible refine Gr.drewN ?_ _ | with_reducible refine Gr.drew ?_ | with_reducible refine Gr.setCell ?_ (by first | (dsimp only; omega) | (simp only [World.size_alloc]; omega) | (with_reducible refine Gr.size ?_; (repeat (first | with_reducible exact Gr.refl _ | with_reducible assumption | with_reducible refine Gr.alloc ?_ _ | with_reducible refine Gr.drewN ?_ _ | with_reducible refine Gr.drew ?_ | with_reducible refine Gr.trans ?_ (by with_reducible assumption))); done)) _ | with_reducible refine Gr.trans ?_ (by with_reducible assumption)))⟩
      case measure => simp only [intOf]; omega
    · obtain rfl : k = l4.length := by omega
      go_wp2
      go_ret
      exact ⟨rfl, gw3.trans g⟩
set_option maxRecDepth 100000 in
set_option maxHeartbeats 4000000 in
theorem ordered_any (A1 A2 A3 A4 : Option Addr) (c1 c2 c3 c4 : Nat) (F : Pat) (w : World) (hF : PatW w A1 c1 A2 c2 A3 c3 A4 c4 F) :
    Calls Try.prog 9 #[ptv A1 F.r.length c1 A2 F.c.length c2 A3 F.f.length c3 A4 F.b.length c4] w fun e w' => e = .returned (.bool (oB F)) ∧ Gr w w' := by
  have HB := hide hF.b
  have n1 := hF.b.cap
  have n2 := hF.b.capB
  have HO := hide (show oB F = F.b.all odB from rfl)
  have g0 : Gr w (w.alloc (.cells #[.slice A1 F.r.length c1, .slice A2 F.c.length c2, .slice A3 F.f.length c3, .slice A4 F.b.length c4] 25)) := Gr.alloc (Gr.refl _) _
  clear hF
  go_enter Try.func9, Try.ntmps9
  go_wp2_with fail
  go_loopw [3] (fun i wr => ∃ k : Nat, k ≤ F.b.length ∧ i = iv k ∧ Gr (w.alloc (.cells #[.slice A1 F.r.length c1, .slice A2 F.c.length c2, .slice A3 F.f.length c3, .slice A4 F.b.length c4] 25)) wr ∧ Hid (∀ j b, j < k → F.b[j]? = some b → odB b = true)) (fun i _ => F.b.length - (intOf i).toNat)
  case atStart => exact ⟨0, by omega, rfl, Gr.refl _, fun j b hj => absurd hj (by omega)⟩
  case round =>
    obtain ⟨k, hk, rfl, g, HD⟩ := hrel
    obtain ⟨s0, b0, b1, b2, b3⟩ := box4 g
    have gw := g0.trans g
    clear b0 b1 b2
    by_cases hkl : k < F.b.length
    · obtain ⟨x, hx⟩ : ∃ x, F.b[k]? = some x := ⟨_, List.getElem?_eq_getElem hkl⟩
      obtain ⟨p, o, rfl, y0, y1, y2, y3, y4, y5, y6, y7⟩ := (HB.out.gr gw).at_ hx
      have hp : p < wr.heap.size := cell_lt (by rw [y0]; rfl)
      have hk0 : (0 : Int) ≤ (k : Int) := by omega
      have hk1 : (k : Int) < (F.b.length : Int) := by omega
      have s1 : IntKind.i64.wrap ((k : Int) + 1) = (k : Int) + 1 := IntWalk.i64_in _ (by omega)
      by_cases h1 : x.c < x.a
      · have j1 : decide (x.c < x.a) = true := by simpa using h1
        have HF := hide (show oB F = false by
          rw [HO.out]
          refine List.all_eq_false.2 ⟨x, List.mem_of_getElem? hx, ?_⟩
          unfold odB
          simp only [Bool.and_eq_true, decide_eq_true_eq]
          omega)
        clear hx HD HO h1 y0 y1 y6 y7
        go_wp2
        go_ret
        exact ⟨ret_bool HF.out.symm, gw.trans (Gr.alloc (Gr.refl _) _)⟩
      · have j1 : decide (x.c < x.a) = false := by simpa using h1
        by_cases h2 : x.d < x.b
        · have j2 : decide (x.d < x.b) = true := by simpa using h2
          have HF := hide (show oB F = false by
            rw [HO.out]
            refine List.all_eq_false.2 ⟨x, List.mem_of_getElem? hx, ?_⟩
            unfold odB
            simp only [Bool.and_eq_true, decide_eq_true_eq]
            omega)
          clear hx HD HO h1 h2 y0 y1 y6 y7
          go_wp2
          go_ret
          exact ⟨ret_bool HF.out.symm, gw.trans (Gr.alloc (Gr.refl _) _)⟩
        · have j2 : decide (x.d < x.b) = false := by simpa using h2
          have HD2 := hide (show ∀ j b, j < k + 1 → F.b[j]? = some b → odB b = true from fun j b hj hb => by
            by_cases e : j < k
            · exact HD.out j b e hb
            · obtain rfl : j = k := by omega
              rw [hx] at hb
              cases hb
              unfold odB
              simp only [Bool.and_eq_true, decide_eq_true_eq]
              omega)
          clear hx HD HO h1 h2 y0 y1 y6 y7
          go_wp2
          go_roundw
          case rel => exact ⟨k + 1, by omega, by go_num, g.trans (Gr.alloc (Gr.refl _) _), HD2⟩
          case measure => simp only [intOf]; omega
    · obtain rfl : k = F.b.length := by omega
      have hk1 : ¬ ((F.b.length : Int) < (F.b.length : Int)) := by omega
      have HF := hide (show oB F = true by
        rw [HO.out]
        refine List.all_eq_true.2 fun x hx => ?_
        obtain ⟨j, hj⟩ := List.mem_iff_getElem?.1 hx
        exact HD.out j x (List.getElem?_eq_some_iff.1 hj).1 hj)
      clear HD HO
      go_wp2
      go_ret
      exact ⟨ret_bool HF.out.symm, gw⟩
end RG
end Go.Proofs.Ytjnfodbniohkhaa
