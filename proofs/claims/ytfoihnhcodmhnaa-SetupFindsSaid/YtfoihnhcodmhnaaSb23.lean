/-
  Bounds that windows prove, in the reference.
-/
import Derived.Test.YtfoihnhcodmhnaaSb22
set_option linter.unusedVariables false
set_option linter.unusedSimpArgs false
namespace Go.Proofs.Ytfoihnhcodmhnaa
set_option linter.unusedVariables false
set_option linter.unusedSimpArgs false
open Go Go.ChangeShapes Go.WideShapes Go.ChangeAt Go.RowKit Go.Deep

set_option maxRecDepth 100000 in
set_option maxHeartbeats 4000000 in
theorem rCheckBound_any (A B : Option Addr) (c d : Nat) (ns : List Nd) (s : Int) (ws : List Wd) (w : World) (hl : SlN w A c ns) (hp : SlW w B d ws) (hws : ws.length ≤ 1000) :
    Calls Try.prog 32 #[.slice A ns.length c, iv s, .slice B ws.length d] w fun e w' => e = .returned (ierr (cbV ns s ws) (cbE ns s ws)) ∧ Gr w w' := by
  have HV := hide (rCheck0_any A c ns s w hl)
  have n1 := hp.cap
  have n2 := hp.capB
  have HP := hide hp
  by_cases h0 : chE ns s = 0
  · obtain ⟨h2, h3⟩ := chE_ok h0
    obtain ⟨b4, b5⟩ := wiB_iff.1 h3
    obtain ⟨hlen, hB⟩ := vaE_ok h2
    have HW := hide (fun (x : Wd) w => windowIn_any A c x ns w (by omega))
    have H0 := hide h0
    obtain ⟨q, rfl⟩ : ∃ q : Nat, s = q := ⟨s.toNat, by omega⟩
    have HBK := hide (fun (f t : Nat) (w' : World) (g : Gr w w') (h1 : f ≤ t) (h2 : t < ns.length) => rblocked_any A c ns q f t w' (hl.gr g) hB h1 h2 (by omega))
    rw [h0] at HV
    clear h0 hl hp h2 h3 hB
    go_enter Try.func32, Try.ntmps32
    go_wp2_with (first | (go_at_call 46; refine (HV.out).mono ?_; rintro e w1 ⟨rfl, g1⟩; obtain ⟨X1, Y1, c1, f1⟩ := g1.use))
    go_loopw [9] (fun i wr => ∃ k : Nat, k ≤ ws.length ∧ i = iv k ∧ Gr w wr ∧ Hid (∀ i x, i < k → ws[i]? = some x → wnB x ns.length = true)) (fun i _ => ws.length - (intOf i).toNat)
    case atStart => exact ⟨0, by omega, rfl, (by repeat (first | with_reducible exact Gr.refl _ | with_reducible assumption | with_reducible refine Gr.alloc ?_ _ | with_reducible refine Gr.drewN ?_ _ | with_reducible refine Gr.drew ?_ | with_reducible refine Gr.setCell ?_ (by first | (dsimp only; omega) | (simp only [World.size_alloc]; omega) | (with_reducible refine Gr.size ?_; (repeat (first | with_reducible exact Gr.refl _ | with_reducible assumption | with_reducible refine Gr.alloc ?_ _ | with_reducible refine Gr.drewN ?_ _ | with_reducible refine Gr.drew ?_ | with_reducible refine Gr.trans ?_ (by with_reducible assumption))); done)) _ | with_reducible refine Gr.trans ?_ (by with_reducible assumption))), hide (fun i x hi => absurd hi (Nat.not_lt_zero i))⟩
    case round =>
      obtain ⟨k, hk, rfl, g, HS⟩ := hrel
      by_cases hkl : k < ws.length
      · obtain ⟨x, hx⟩ : ∃ z, ws[k]? = some z := ⟨_, List.getElem?_eq_getElem hkl⟩
        obtain ⟨b, o, rfl, x0, x1⟩ := (HP.out.gr g).at_ hx
        have hb : b < wr.heap.size := cell_lt (by rw [x0]; rfl)
        have HX := hide hx
        have hk0 : (0 : Int) ≤ (k : Int) := by omega
        have hk1 : (k : Int) < (ws.length : Int) := by omega
        have HWX := hide (HW.out x)
        clear hx
        cases hv : wnB x ns.length with
        | true =>
          have HS' := hide (up_to (P := fun x => wnB x ns.length = true) HS.out HX.out hv)
          rw [hv] at HWX
          clear hv
          go_wp2_with (first | (go_at_call 64; refine (HWX.out _).mono ?_; rintro e w1 ⟨rfl, g1⟩; obtain ⟨X1, Y1, c1, f1⟩ := g1.use))
          go_roundw
          case rel => exact ⟨k + 1, by omega, by go_num, (by repeat (first | with_reducible exact Gr.refl _ | with_reducible assumption | with_reducible refine Gr.alloc ?_ _ | with_reducible refine Gr.drewN ?_ _ | with_reducible refine Gr.drew ?_ | with_reducible refine Gr.setCell ?_ (by first | (dsimp only; omega) | (simp only [World.size_alloc]; omega) | (with_reducible refine Gr.size ?_; (repeat (first | with_reducible exact Gr.refl _ | with_reducible assumption | with_reducible refine Gr.alloc ?_ _ | with_reducible refine Gr.drewN ?_ _ | with_reducible refine Gr.drew ?_ | with_reducible refine Gr.trans ?_ (by with_reducible assumption))); done)) _ | with_reducible refine Gr.trans ?_ (by with_reducible assumption))), HS'⟩
          case measure => simp only [intOf]; omega
        | false =>
          have HE := hide (cbE_vw H0.out (all_stop (f := fun x : Wd => wnB x ns.length) HX.out hv))
          have HR := hide (cbV_no (ns := ns) (s := (q : Int)) (ws := ws) (by rw [HE.out]; decide))
          rw [hv] at HWX
          clear hv
          go_wp2_with (first | (go_at_call 64; refine (HWX.out _).mono ?_; rintro e w1 ⟨rfl, g1⟩; obtain ⟨X1, Y1, c1, f1⟩ := g1.use))
          go_ret2
          exact ⟨ret_ie HR.out.symm HE.out.symm, (by repeat (first | with_reducible exact Gr.refl _ | with_reducible assumption | with_reducible refine Gr.alloc ?_ _ | with_reducible refine Gr.drewN ?_ _ | with_reducible refine Gr.drew ?_ | with_reducible refine Gr.setCell ?_ (by first | (dsimp only; omega) | (simp only [World.size_alloc]; omega) | (with_reducible refine Gr.size ?_; (repeat (first | with_reducible exact Gr.refl _ | with_reducible assumption | with_reducible refine Gr.alloc ?_ _ | with_reducible refine Gr.drewN ?_ _ | with_reducible refine Gr.drew ?_ | with_reducible refine Gr.trans ?_ (by with_reducible assumption))); done)) _ | with_reducible refine Gr.trans ?_ (by with_reducible assumption)))⟩
      · obtain rfl : k = ws.length := by omega
        have HVW := hide (show vwB ns ws = true from all_end HS.out)
        clear HS hkl hk
        obtain ⟨wa, rfl⟩ : ∃ wa, wa = wr := ⟨_, rfl⟩
        go_wp2
        go_loopw [10] (fun i wr => ∃ j : Nat, (j = 0 ∨ j + 1 ≤ ws.length) ∧ i = .int .i64 ((j : Int) + 1) ∧ Gr w wr ∧ Hid (Odr ws (j + 1))) (fun i _ => ws.length - (intOf i).toNat)
        case atStart => exact ⟨0, .inl rfl, rfl, g, hide (fun i x y hi => absurd hi (by omega))⟩
        case round =>
          clear g
          obtain ⟨j, hj, rfl, g, HS⟩ := hrel
          by_cases hkl : j + 1 < ws.length
          · obtain ⟨x, hx⟩ : ∃ z, ws[j+1]? = some z := ⟨_, List.getElem?_eq_getElem hkl⟩
            obtain ⟨b, o, rfl, x0, x1⟩ := (HP.out.gr g).at_ hx
            have hb : b < wr.heap.size := cell_lt (by rw [x0]; rfl)
            have HX := hide hx
            have hk0 : (0 : Int) ≤ (j : Int) + 1 := by omega
            have hk1 : (j : Int) + 1 < (ws.length : Int) := by omega
            clear hx
            obtain ⟨y, hy⟩ : ∃ y, ws[j]? = some y := ⟨_, List.getElem?_eq_getElem (by omega)⟩
            obtain ⟨b', o', hA', v0, v1⟩ := (HP.out.gr g).at_ hy
            obtain ⟨rfl, rfl⟩ : b = b' ∧ o = o' := by simpa using hA'
            have HY := hide hy
            have W3 : IntKind.i64.wrap ((j : Int) + 1 - 1) = (j : Int) := by rw [IntWalk.i64_in _ (by omega)]; omega
            have hj0 : (0 : Int) ≤ (j : Int) := by omega
            have hj1 : (j : Int) < (ws.length : Int) := by omega
            clear hA' hy hj
            by_cases hyz : x.fm < y.tl
            · have hyz' : decide (x.fm < y.tl) = true := by simpa using hyz
              have HE := hide (cbE_od H0.out HVW.out (odB_stop HY.out HX.out hyz))
              have HR := hide (cbV_no (ns := ns) (s := (q : Int)) (ws := ws) (by rw [HE.out]; decide))
              clear hyz
              go_upto_region 12 with fail
              have GC := @GrW.cell
              refine wp_region_grw _ (by kernel_rfl) (by kernel_rfl) (Gr.refl _) ?_
              repeat (go_big_quiet_step ((first | fail)))
              refine wpQuiet_nil ?_
              intro wq hwq
              obtain ⟨gq, hwq'⟩ := hwq
              subst hwq'
              clear GC
              have gq1 := gq.gr
              generalize gq.w = wq at gq1 ⊢
              obtain ⟨Xq, Yq, cq, fq⟩ := gq1.use
              have sq := gq1.size
              (try simp only [World.size_alloc, World.size_setCell, World.heap_drewN] at sq)
              go_wp2
              go_ret2
              exact ⟨ret_ie HR.out.symm HE.out.symm, (by repeat (first | with_reducible exact Gr.refl _ | with_reducible assumption | with_reducible refine Gr.alloc ?_ _ | with_reducible refine Gr.drewN ?_ _ | with_reducible refine Gr.drew ?_ | with_reducible refine Gr.setCell ?_ (by first | (dsimp only; omega) | (simp only [World.size_alloc]; omega) | (with_reducible refine Gr.size ?_; (repeat (first | with_reducible exact Gr.refl _ | with_reducible assumption | with_reducible refine Gr.alloc ?_ _ | with_reducible refine Gr.drewN ?_ _ | with_reducible refine Gr.drew ?_ | with_reducible refine Gr.trans ?_ (by with_reducible assumption))); done)) _ | with_reducible refine Gr.trans ?_ (by with_reducible assumption)))⟩
            · have hyz' : decide (x.fm < y.tl) = false := by simpa using hyz
              have HE := hide (odr_step HS.out HY.out HX.out (by omega))
              clear hyz
              go_upto_region 12 with fail
              have GC := @GrW.cell
              refine wp_region_grw _ (by kernel_rfl) (by kernel_rfl) (Gr.refl _) ?_
              repeat (go_big_quiet_step ((first | fail)))
              refine wpQuiet_nil ?_
              intro wq hwq
              obtain ⟨gq, hwq'⟩ := hwq
              subst hwq'
              clear GC
              have gq1 := gq.gr
              generalize gq.w = wq at gq1 ⊢
              obtain ⟨Xq, Yq, cq, fq⟩ := gq1.use
              have sq := gq1.size
              (try simp only [World.size_alloc, World.size_setCell, World.heap_drewN] at sq)
              go_wp2
              go_roundw
              case rel => exact ⟨j + 1, by omega, by go_num, (by repeat (first | with_reducible exact Gr.refl _ | with_reducible assumption | with_reducible refine Gr.alloc ?_ _ | with_reducible refine Gr.drewN ?_ _ | with_reducible refine Gr.drew ?_ | with_reducible refine Gr.setCell ?_ (by first | (dsimp only; omega) | (simp only [World.size_alloc]; omega) | (with_reducible refine Gr.size ?_; (repeat (first | with_reducible exact Gr.refl _ | with_reducible assumption | with_reducible refine Gr.alloc ?_ _ | with_reducible refine Gr.drewN ?_ _ | with_reducible refine Gr.drew ?_ | with_reducible refine Gr.trans ?_ (by with_reducible assumption))); done)) _ | with_reducible refine Gr.trans ?_ (by with_reducible assumption))), HE⟩
              case measure => simp only [intOf]; omega
          · have HOD := hide (odB_iff.2 (show Odr ws ws.length from fun i x y hi hx hy => HS.out i x y (by omega) hx hy))
            have hkz : decide ((j : Int) + 1 < (ws.length : Int)) = false := by rw [decide_eq_false_iff_not]; omega
            clear HS hj
            obtain ⟨wb, rfl⟩ : ∃ wb, wb = wr := ⟨_, rfl⟩
            go_wp2
            go_loopw [11] (fun i wr => ∃ k : Nat, k ≤ ws.length ∧ i = iv k ∧ Gr w wr ∧ Hid (∀ i x, i < k → ws[i]? = some x → bwF ns (q : Int) x = true)) (fun i _ => ws.length - (intOf i).toNat)
            case atStart => exact ⟨0, by omega, rfl, g, hide (fun i x hi => absurd hi (Nat.not_lt_zero i))⟩
            case round =>
              clear g hkl hkz
              obtain ⟨k, hk, rfl, g, HS⟩ := hrel
              by_cases hkl : k < ws.length
              · obtain ⟨x, hx⟩ : ∃ z, ws[k]? = some z := ⟨_, List.getElem?_eq_getElem hkl⟩
                obtain ⟨f, t, rfl, hft, htn⟩ := vw_nat HVW.out (List.mem_of_getElem? hx)
                obtain ⟨b, o, rfl, x0, x1⟩ := (HP.out.gr g).at_ hx
                simp only at x0 x1
                have hb : b < wr.heap.size := cell_lt (by rw [x0]; rfl)
                have HX := hide hx
                have hk0 : (0 : Int) ≤ (k : Int) := by omega
                have hk1 : (k : Int) < (ws.length : Int) := by omega
                have HBX := hide (fun (w' : World) (g'' : Gr w w') => HBK.out f t w' g'' hft htn)
                have HBF := hide (show bwF ns (q : Int) ⟨f, t⟩ = bkB (mks ns) q f t from rfl)
                clear hx
                cases hv : bkB (mks ns) q f t with
                | true =>
                  have HS' := hide (up_to (P := fun x => bwF ns (q : Int) x = true) HS.out HX.out (by rw [HBF.out, hv]))
                  rw [hv] at HBX
                  clear hv
                  go_upto_region 17 with fail
                  have GC := @GrW.cell
                  refine wp_region_grw _ (by kernel_rfl) (by kernel_rfl) (Gr.refl _) ?_
                  repeat (go_big_quiet_step ((first | (go_at_call 67; exact quiet_grs (HBX.out _ (Gr.trans (by repeat (first | with_reducible exact Gr.refl _ | with_reducible assumption | with_reducible refine Gr.alloc ?_ _ | with_reducible refine Gr.drewN ?_ _ | with_reducible refine Gr.drew ?_ | with_reducible refine Gr.setCell ?_ (by first | (dsimp only; omega) | (simp only [World.size_alloc]; omega) | (with_reducible refine Gr.size ?_; (repeat (first | with_reducible exact Gr.refl _ | with_reducible assumption | with_reducible refine Gr.alloc ?_ _ | with_reducible refine Gr.drewN ?_ _ | with_reducible refine Gr.drew ?_ | with_reducible refine Gr.trans ?_ (by with_reducible assumption))); done)) _ | with_reducible refine Gr.trans ?_ (by with_reducible assumption))) (GrW.gr _)))))))
                  refine wpQuiet_nil ?_
                  intro wq hwq
                  obtain ⟨gq, hwq'⟩ := hwq
                  subst hwq'
                  clear GC
                  have gq1 := gq.gr
                  generalize gq.w = wq at gq1 ⊢
                  obtain ⟨Xq, Yq, cq, fq⟩ := gq1.use
                  have sq := gq1.size
                  (try simp only [World.size_alloc, World.size_setCell, World.heap_drewN] at sq)
                  go_wp2
                  go_roundw
                  case rel => exact ⟨k + 1, by omega, by go_num, (by repeat (first | with_reducible exact Gr.refl _ | with_reducible assumption | with_reducible refine Gr.alloc ?_ _ | with_reducible refine Gr.drewN ?_ _ | with_reducible refine Gr.drew ?_ | with_reducible refine Gr.setCell ?_ (by first | (dsimp only; omega) | (simp only [World.size_alloc]; omega) | (with_reducible refine Gr.size ?_; (repeat (first | with_reducible exact Gr.refl _ | with_reducible assumption | with_reducible refine Gr.alloc ?_ _ | with_reducible refine Gr.drewN ?_ _ | with_reducible refine Gr.drew ?_ | with_reducible refine Gr.trans ?_ (by with_reducible assumption))); done)) _ | with_reducible refine Gr.trans ?_ (by with_reducible assumption))), HS'⟩
                  case measure => simp only [intOf]; omega
                | false =>
                  have HE := hide (cbE_bw H0.out HVW.out HOD.out (all_stop (f := bwF ns (q : Int)) HX.out (by rw [HBF.out, hv])))
                  have HR := hide (cbV_no (ns := ns) (s := (q : Int)) (ws := ws) (by rw [HE.out]; decide))
                  rw [hv] at HBX
                  clear hv
                  go_upto_region 17 with fail
                  have GC := @GrW.cell
                  refine wp_region_grw _ (by kernel_rfl) (by kernel_rfl) (Gr.refl _) ?_
                  repeat (go_big_quiet_step ((first | (go_at_call 67; exact quiet_grs (HBX.out _ (Gr.trans (by repeat (first | with_reducible exact Gr.refl _ | with_reducible assumption | with_reducible refine Gr.alloc ?_ _ | with_reducible refine Gr.drewN ?_ _ | with_reducible refine Gr.drew ?_ | with_reducible refine Gr.setCell ?_ (by first | (dsimp only; omega) | (simp only [World.size_alloc]; omega) | (with_reducible refine Gr.size ?_; (repeat (first | with_reducible exact Gr.refl _ | with_reducible assumption | with_reducible refine Gr.alloc ?_ _ | with_reducible refine Gr.drewN ?_ _ | with_reducible refine Gr.drew ?_ | with_reducible refine Gr.trans ?_ (by with_reducible assumption))); done)) _ | with_reducible refine Gr.trans ?_ (by with_reducible assumption))) (GrW.gr _)))))))
                  refine wpQuiet_nil ?_
                  intro wq hwq
                  obtain ⟨gq, hwq'⟩ := hwq
                  subst hwq'
                  clear GC
                  have gq1 := gq.gr
                  generalize gq.w = wq at gq1 ⊢
                  obtain ⟨Xq, Yq, cq, fq⟩ := gq1.use
                  have sq := gq1.size
                  (try simp only [World.size_alloc, World.size_setCell, World.heap_drewN] at sq)
                  go_wp2
                  go_ret2
                  exact ⟨ret_ie HR.out.symm HE.out.symm, (by repeat (first | with_reducible exact Gr.refl _ | with_reducible assumption | with_reducible refine Gr.alloc ?_ _ | with_reducible refine Gr.drewN ?_ _ | with_reducible refine Gr.drew ?_ | with_reducible refine Gr.setCell ?_ (by first | (dsimp only; omega) | (simp only [World.size_alloc]; omega) | (with_reducible refine Gr.size ?_; (repeat (first | with_reducible exact Gr.refl _ | with_reducible assumption | with_reducible refine Gr.alloc ?_ _ | with_reducible refine Gr.drewN ?_ _ | with_reducible refine Gr.drew ?_ | with_reducible refine Gr.trans ?_ (by with_reducible assumption))); done)) _ | with_reducible refine Gr.trans ?_ (by with_reducible assumption)))⟩
              · obtain rfl : k = ws.length := by omega
                have HE := hide (cbE_ok H0.out HVW.out HOD.out (all_end HS.out))
                have HR := hide (show cbV ns (q : Int) ws = if ns.length = 0 then 0 else (ws.length : Int) + 1 by unfold cbV; rw [if_pos HE.out])
                by_cases hn0 : ns.length = 0
                · have hn0' : ((ns.length : Int) == 0) = true := by rw [beq_iff_eq]; omega
                  rw [if_pos hn0] at HR
                  clear hn0
                  go_wp2
                  go_ret2
                  exact ⟨ret_ie HR.out.symm HE.out.symm, g⟩
                · have hn0' : ((ns.length : Int) == 0) = false := by rw [beq_eq_false_iff_ne]; omega
                  rw [if_neg hn0] at HR
                  clear hn0
                  go_wp2
                  go_ret2
                  exact ⟨ret_ie HR.out.symm HE.out.symm, g⟩
  · have HE := hide (cbE_bad (ws := ws) h0)
    have HR := hide (cbV_no (ns := ns) (s := s) (ws := ws) (by rw [HE.out]; exact h0))
    have h1 : (chE ns s != 0) = true := by simpa using h0
    rw [HE.out, HR.out]
    generalize chE ns s = e0 at *
    clear h0 hl hp
    go_enter Try.func32, Try.ntmps32
    go_wp2_with (first | (go_at_call 46; refine (HV.out).mono ?_; rintro e w1 ⟨rfl, g1⟩; obtain ⟨X1, Y1, c1, f1⟩ := g1.use))
    go_ret2
    exact ⟨rfl, (by repeat (first | with_reducible exact Gr.refl _ | with_reducible assumption | with_reducible refine Gr.alloc ?_ _ | with_reducible refine Gr.drewN ?_ _ | with_reducible refine Gr.drew ?_ | with_reducible refine Gr.setCell ?_ (by first | (dsimp only; omega) | (simp only [World.size_alloc]; omega) | (with_reducible refine Gr.size ?_; (repeat (first | with_reducible exact Gr.refl _ | with_reducible assumption | with_reducible refine Gr.alloc ?_ _ | with_reducible refine Gr.drewN ?_ _ | with_reducible refine Gr.drew ?_ | with_reducible refine Gr.trans ?_ (by with_reducible assumption))); done)) _ | with_reducible refine Gr.trans ?_ (by with_reducible assumption)))⟩
end Go.Proofs.Ytfoihnhcodmhnaa
