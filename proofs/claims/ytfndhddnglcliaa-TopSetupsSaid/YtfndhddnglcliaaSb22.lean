/-
  Bounds that windows prove, on both sides.
-/
import Derived.Test.YtfndhddnglcliaaSb12
import Derived.Test.YtfndhddnglcliaaLst3
set_option linter.unusedVariables false
set_option linter.unusedSimpArgs false
namespace Go.Proofs.Ytfndhddnglcliaa
set_option linter.unusedVariables false
set_option linter.unusedSimpArgs false
open Go Go.ChangeShapes Go.WideShapes Go.ChangeAt Go.RowKit Go.Deep

theorem up_to2 {α : Type} {ns : List α} {P : α → Prop} {k : Nat} {x : α} (H : ∀ i x, i < k → ns[i]? = some x → P x) (hx : ns[k]? = some x) (h : P x) : ∀ i x, i < k + 1 → ns[i]? = some x → P x := up_to H hx h
/-- windows in order -/
def Odr (ws : List Wd) (k : Nat) : Prop := ∀ i x y, i + 1 < k → ws[i]? = some x → ws[i+1]? = some y → x.tl ≤ y.fm
noncomputable def odB (ws : List Wd) : Bool := @decide (Odr ws ws.length) (Classical.propDecidable _)
theorem odB_iff {ws : List Wd} : odB ws = true ↔ Odr ws ws.length := by
  unfold odB
  exact @decide_eq_true_iff _ (Classical.propDecidable _)
theorem odB_stop {ws : List Wd} {i : Nat} {x y : Wd} (hx : ws[i]? = some x) (hy : ws[i+1]? = some y) (h : y.fm < x.tl) : odB ws = false := by
  rw [← Bool.not_eq_true, odB_iff]
  intro H
  have := H i x y (List.getElem?_eq_some_iff.1 hy).1 hx hy
  omega
theorem odr_step {ws : List Wd} {i : Nat} {x y : Wd} (H : Odr ws (i + 1)) (hx : ws[i]? = some x) (hy : ws[i+1]? = some y) (h : x.tl ≤ y.fm) : Odr ws (i + 1 + 1) := by
  intro j a b hj ha hb
  rcases Nat.lt_or_ge (j + 1) (i + 1) with q | q
  · exact H j a b q ha hb
  · obtain rfl : j = i := by omega
    rw [hx] at ha
    rw [hy] at hb
    obtain rfl := Option.some.inj ha
    obtain rfl := Option.some.inj hb
    exact h
def vwB (ns : List Nd) (ws : List Wd) : Bool := ws.all fun x => wnB x ns.length
def bwF (ns : List Nd) (s : Int) (x : Wd) : Bool := bkB (mks ns) s.toNat x.fm.toNat x.tl.toNat
def bwB (ns : List Nd) (s : Int) (ws : List Wd) : Bool := ws.all (bwF ns s)
noncomputable def cbE (ns : List Nd) (s : Int) (ws : List Wd) : Int := if chE ns s ≠ 0 then chE ns s else if vwB ns ws then (if odB ws then (if bwB ns s ws then 0 else 11) else 12) else 1
noncomputable def cbV (ns : List Nd) (s : Int) (ws : List Wd) : Int := if cbE ns s ws = 0 then (if ns.length = 0 then 0 else ws.length + 1) else 0
theorem cbE_bad {ns : List Nd} {s : Int} {ws : List Wd} (h : ¬ chE ns s = 0) : cbE ns s ws = chE ns s := by unfold cbE; rw [if_pos h]
theorem cbE_vw {ns : List Nd} {s : Int} {ws : List Wd} (h : chE ns s = 0) (k : vwB ns ws = false) : cbE ns s ws = 1 := by unfold cbE; rw [if_neg (by simpa using h), k]; rfl
theorem cbE_od {ns : List Nd} {s : Int} {ws : List Wd} (h : chE ns s = 0) (k : vwB ns ws = true) (o : odB ws = false) : cbE ns s ws = 12 := by unfold cbE; rw [if_neg (by simpa using h), k, o]; rfl
theorem cbE_bw {ns : List Nd} {s : Int} {ws : List Wd} (h : chE ns s = 0) (k : vwB ns ws = true) (o : odB ws = true) (b : bwB ns s ws = false) : cbE ns s ws = 11 := by unfold cbE; rw [if_neg (by simpa using h), k, o, b]; rfl
theorem cbE_ok {ns : List Nd} {s : Int} {ws : List Wd} (h : chE ns s = 0) (k : vwB ns ws = true) (o : odB ws = true) (b : bwB ns s ws = true) : cbE ns s ws = 0 := by unfold cbE; rw [if_neg (by simpa using h), k, o, b]; rfl
theorem cbV_no {ns : List Nd} {s : Int} {ws : List Wd} (h : ¬ cbE ns s ws = 0) : cbV ns s ws = 0 := by unfold cbV; rw [if_neg h]
theorem vw_nat {ns : List Nd} {ws : List Wd} (h : vwB ns ws = true) {x : Wd} (hx : x ∈ ws) : ∃ f t : Nat, x = ⟨f, t⟩ ∧ f ≤ t ∧ t < ns.length := by
  have := wnB_iff.1 (List.all_eq_true.1 h x hx)
  obtain ⟨a, b⟩ := x
  simp only at this
  exact ⟨a.toNat, b.toNat, by rw [Int.toNat_of_nonneg this.1, Int.toNat_of_nonneg (by omega)], by omega, by omega⟩
set_option maxRecDepth 100000 in
set_option maxHeartbeats 4000000 in
theorem CheckBound_any (A B : Option Addr) (c d : Nat) (ns : List Nd) (s : Int) (ws : List Wd) (w : World) (hl : SlN w A c ns) (hp : SlW w B d ws) (hws : ws.length ≤ 1000) :
    Calls Try.prog 7 #[.slice A ns.length c, iv s, .slice B ws.length d] w fun e w' => e = .returned (ierr (cbV ns s ws) (cbE ns s ws)) ∧ Gr w w' := by
  have HV := hide (scheck_any A c ns s w hl)
  have n1 := hp.cap
  have n2 := hp.capB
  have HP := hide hp
  by_cases h0 : chE ns s = 0
  · obtain ⟨h2, h3⟩ := chE_ok h0
    obtain ⟨b4, b5⟩ := wiB_iff.1 h3
    have hlen := (vaE_ok h2).1
    have hml := mks_lt (vaE_ok h2).2
    have HW := hide (fun (x : Wd) w => validWindow_any x ns.length w)
    have HSS := hide (fun (w' : World) (g : Gr w w') => setsOf_any A c ns w' (hl.gr g) h2)
    have H0 := hide h0
    obtain ⟨q, rfl⟩ : ∃ q : Nat, s = q := ⟨s.toNat, by omega⟩
    have HBK := hide (fun (A' : Option Addr) (d' f t : Nat) (w' : World) (h : SlU w' A' d' (mks ns)) (h1 : f ≤ t) (h2 : t < ns.length) => blocked_any A' d' (mks ns) q f t w' h hml h1 (by rw [mks_len]; exact h2) (by rw [mks_len]; omega))
    rw [h0] at HV
    clear h0 hl hp h2 h3 hml
    go_enter Try.func7, Try.ntmps7
    go_wp2_with (first | (go_at_call 11; refine (HV.out).mono ?_; rintro e w1 ⟨rfl, rfl⟩))
    go_loopw [24] (fun i wr => ∃ k : Nat, k ≤ ws.length ∧ i = iv k ∧ Gr w wr ∧ Hid (∀ i x, i < k → ws[i]? = some x → wnB x ns.length = true)) (fun i _ => ws.length - (intOf i).toNat)
    case atStart => exact ⟨0, by omega, rfl, Gr.refl _, hide (fun i x hi => absurd hi (Nat.not_lt_zero i))⟩
    case round =>
      obtain ⟨k, hk, rfl, g, HS⟩ := hrel
      by_cases hkl : k < ws.length
      · obtain ⟨x, hx⟩ : ∃ z, ws[k]? = some z := ⟨_, List.getElem?_eq_getElem hkl⟩
        obtain ⟨b, o, rfl, x0, x1⟩ := (HP.out.gr g).at_ hx
        have hb : b < wr.heap.size := cell_lt (by rw [x0]; rfl)
        have HX := hide hx
        have hk0 : (0 : Int) ≤ (k : Int) := by omega
        have hk1 : (k : Int) < (ws.length : Int) := by omega
        have HWX := hide (HW.out x)
        clear hx
        cases hv : wnB x ns.length with
        | true =>
          have HS' := hide (up_to (P := fun x => wnB x ns.length = true) HS.out HX.out hv)
          rw [hv] at HWX
          clear hv
          go_wp2_with (first | (go_at_call 18; refine (HWX.out _).mono ?_; rintro e w1 ⟨rfl, g1⟩; obtain ⟨X1, Y1, c1, f1⟩ := g1.use))
          go_roundw
          case rel => exact ⟨k + 1, by omega, by go_num, (by repeat (first | with_reducible exact Gr.refl _ | with_reducible assumption | with_reducible refine Gr.alloc ?_ _ | with_reducible refine Gr.drewN ?_ _ | with_reducible refine Gr.drew ?_ | with_reducible refine Gr.setCell ?_ (by first | (dsimp only; omega) | (simp only [World.size_alloc]; omega) | (with_reducible refine Gr.size ?_; (repeat (first | with_reducible exact Gr.refl _ | with_reducible assumption | with_reducible refine Gr.alloc ?_ _ | with_reducible refine Gr.drewN ?_ _ | with_reducible refine Gr.drew ?_ | with_reducible refine Gr.trans ?_ (by with_reducible assumption))); done)) _ | with_reducible refine Gr.trans ?_ (by with_reducible assumption))), HS'⟩
          case measure => simp only [intOf]; omega
        | false =>
          have HE := hide (cbE_vw H0.out (all_stop (f := fun x : Wd => wnB x ns.length) HX.out hv))
          have HR := hide (cbV_no (ns := ns) (s := (q : Int)) (ws := ws) (by rw [HE.out]; decide))
          rw [hv] at HWX
          clear hv
          go_wp2_with (first | (go_at_call 18; refine (HWX.out _).mono ?_; rintro e w1 ⟨rfl, g1⟩; obtain ⟨X1, Y1, c1, f1⟩ := g1.use))
          go_ret2
          exact ⟨ret_ie HR.out.symm HE.out.symm, (by repeat (first | with_reducible exact Gr.refl _ | with_reducible assumption | with_reducible refine Gr.alloc ?_ _ | with_reducible refine Gr.drewN ?_ _ | with_reducible refine Gr.drew ?_ | with_reducible refine Gr.setCell ?_ (by first | (dsimp only; omega) | (simp only [World.size_alloc]; omega) | (with_reducible refine Gr.size ?_; (repeat (first | with_reducible exact Gr.refl _ | with_reducible assumption | with_reducible refine Gr.alloc ?_ _ | with_reducible refine Gr.drewN ?_ _ | with_reducible refine Gr.drew ?_ | with_reducible refine Gr.trans ?_ (by with_reducible assumption))); done)) _ | with_reducible refine Gr.trans ?_ (by with_reducible assumption)))⟩
      · obtain rfl : k = ws.length := by omega
        have HVW := hide (show vwB ns ws = true from all_end HS.out)
        clear HS hkl hk
        obtain ⟨wa, rfl⟩ : ∃ wa, wa = wr := ⟨_, rfl⟩
        go_wp2
        go_loopw [36] (fun i wr => ∃ k : Nat, k ≤ ws.length ∧ i = iv k ∧ Gr w wr ∧ Hid (Odr ws k)) (fun i _ => ws.length - (intOf i).toNat)
        case atStart => exact ⟨0, by omega, rfl, g, hide (fun i x y hi => absurd hi (Nat.not_lt_zero _))⟩
        case round =>
          clear g
          obtain ⟨k, hk, rfl, g, HS⟩ := hrel
          by_cases hkl : k < ws.length
          · obtain ⟨x, hx⟩ : ∃ z, ws[k]? = some z := ⟨_, List.getElem?_eq_getElem hkl⟩
            obtain ⟨b, o, rfl, x0, x1⟩ := (HP.out.gr g).at_ hx
            have hb : b < wr.heap.size := cell_lt (by rw [x0]; rfl)
            have HX := hide hx
            have hk0 : (0 : Int) ≤ (k : Int) := by omega
            have hk1 : (k : Int) < (ws.length : Int) := by omega
            clear hx
            by_cases hk : k = 0
            · subst hk
              have HE := hide (show Odr ws (0 + 1) from fun i x y hi => absurd hi (by omega))
              simp only [Nat.zero_mul, Nat.add_zero] at x0 x1
              go_upto_region 13 with fail
              have GC := @GrW.cell
              refine wp_region_grw _ (by kernel_rfl) (by kernel_rfl) (Gr.refl _) ?_
              repeat (go_big_quiet_step ((first | fail)))
              refine wpQuiet_nil ?_
              intro wq hwq
              obtain ⟨gq, hwq'⟩ := hwq
              subst hwq'
              clear GC
              have gq1 := gq.gr
              generalize gq.w = wq at gq1 ⊢
              obtain ⟨Xq, Yq, cq, fq⟩ := gq1.use
              have sq := gq1.size
              (try simp only [World.size_alloc, World.size_setCell, World.heap_drewN] at sq)
              go_wp2
              go_roundw
              case rel => exact ⟨0 + 1, by omega, by go_num, (by repeat (first | with_reducible exact Gr.refl _ | with_reducible assumption | with_reducible refine Gr.alloc ?_ _ | with_reducible refine Gr.drewN ?_ _ | with_reducible refine Gr.drew ?_ | with_reducible refine Gr.setCell ?_ (by first | (dsimp only; omega) | (simp only [World.size_alloc]; omega) | (with_reducible refine Gr.size ?_; (repeat (first | with_reducible exact Gr.refl _ | with_reducible assumption | with_reducible refine Gr.alloc ?_ _ | with_reducible refine Gr.drewN ?_ _ | with_reducible refine Gr.drew ?_ | with_reducible refine Gr.trans ?_ (by with_reducible assumption))); done)) _ | with_reducible refine Gr.trans ?_ (by with_reducible assumption))), HE⟩
              case measure => simp only [intOf]; omega
            · obtain ⟨j, rfl⟩ : ∃ j, k = j + 1 := ⟨k - 1, by omega⟩
              obtain ⟨y, hy⟩ : ∃ y, ws[j]? = some y := ⟨_, List.getElem?_eq_getElem (by omega)⟩
              obtain ⟨b', o', hA', v0, v1⟩ := (HP.out.gr g).at_ hy
              obtain ⟨rfl, rfl⟩ : b = b' ∧ o = o' := by simpa using hA'
              have HY := hide hy
              have W3 : IntKind.i64.wrap ((j : Int) + 1 - 1) = (j : Int) := by rw [IntWalk.i64_in _ (by omega)]; omega
              have hj0 : (0 : Int) ≤ (j : Int) := by omega
              have hj1 : (j : Int) < (ws.length : Int) := by omega
              have hjk : decide ((0 : Int) < (j : Int) + 1) = true := by rw [decide_eq_true_eq]; omega
              clear hA' hy hk
              by_cases hyz : x.fm < y.tl
              · have hyz' : decide (x.fm < y.tl) = true := by simpa using hyz
                have HE := hide (cbE_od H0.out HVW.out (odB_stop HY.out HX.out hyz))
                have HR := hide (cbV_no (ns := ns) (s := (q : Int)) (ws := ws) (by rw [HE.out]; decide))
                clear hyz
                go_upto_region 13 with fail
                have GC := @GrW.cell
                refine wp_region_grw _ (by kernel_rfl) (by kernel_rfl) (Gr.refl _) ?_
                repeat (go_big_quiet_step ((first | fail)))
                refine wpQuiet_nil ?_
                intro wq hwq
                obtain ⟨gq, hwq'⟩ := hwq
                subst hwq'
                clear GC
                have gq1 := gq.gr
                generalize gq.w = wq at gq1 ⊢
                obtain ⟨Xq, Yq, cq, fq⟩ := gq1.use
                have sq := gq1.size
                (try simp only [World.size_alloc, World.size_setCell, World.heap_drewN] at sq)
                go_wp2
                go_ret2
                exact ⟨ret_ie HR.out.symm HE.out.symm, (by repeat (first | with_reducible exact Gr.refl _ | with_reducible assumption | with_reducible refine Gr.alloc ?_ _ | with_reducible refine Gr.drewN ?_ _ | with_reducible refine Gr.drew ?_ | with_reducible refine Gr.setCell ?_ (by first | (dsimp only; omega) | (simp only [World.size_alloc]; omega) | (with_reducible refine Gr.size ?_; (repeat (first | with_reducible exact Gr.refl _ | with_reducible assumption | with_reducible refine Gr.alloc ?_ _ | with_reducible refine Gr.drewN ?_ _ | with_reducible refine Gr.drew ?_ | with_reducible refine Gr.trans ?_ (by with_reducible assumption))); done)) _ | with_reducible refine Gr.trans ?_ (by with_reducible assumption)))⟩
              · have hyz' : decide (x.fm < y.tl) = false := by simpa using hyz
                have HE := hide (odr_step HS.out HY.out HX.out (by omega))
                clear hyz
                go_upto_region 13 with fail
                have GC := @GrW.cell
                refine wp_region_grw _ (by kernel_rfl) (by kernel_rfl) (Gr.refl _) ?_
                repeat (go_big_quiet_step ((first | fail)))
                refine wpQuiet_nil ?_
                intro wq hwq
                obtain ⟨gq, hwq'⟩ := hwq
                subst hwq'
                clear GC
                have gq1 := gq.gr
                generalize gq.w = wq at gq1 ⊢
                obtain ⟨Xq, Yq, cq, fq⟩ := gq1.use
                have sq := gq1.size
                (try simp only [World.size_alloc, World.size_setCell, World.heap_drewN] at sq)
                go_wp2
                go_roundw
                case rel => exact ⟨j + 1 + 1, by omega, by go_num, (by repeat (first | with_reducible exact Gr.refl _ | with_reducible assumption | with_reducible refine Gr.alloc ?_ _ | with_reducible refine Gr.drewN ?_ _ | with_reducible refine Gr.drew ?_ | with_reducible refine Gr.setCell ?_ (by first | (dsimp only; omega) | (simp only [World.size_alloc]; omega) | (with_reducible refine Gr.size ?_; (repeat (first | with_reducible exact Gr.refl _ | with_reducible assumption | with_reducible refine Gr.alloc ?_ _ | with_reducible refine Gr.drewN ?_ _ | with_reducible refine Gr.drew ?_ | with_reducible refine Gr.trans ?_ (by with_reducible assumption))); done)) _ | with_reducible refine Gr.trans ?_ (by with_reducible assumption))), HE⟩
                case measure => simp only [intOf]; omega
          · obtain rfl : k = ws.length := by omega
            have HOD := hide (odB_iff.2 HS.out)
            clear HS hkl hk
            obtain ⟨wb, rfl⟩ : ∃ wb, wb = wr := ⟨_, rfl⟩
            go_wp2_with fail
            refine (HSS.out _ g).mono ?_
            rintro e w3 ⟨A3, d3, rfl, o3, g3⟩
            have HL3 := hide (own_sub o3)
            have gw3 : Gr w w3 := g.trans g3
            clear o3
            go_wp2
            go_loopw [59] (fun i wr => ∃ k : Nat, k ≤ ws.length ∧ i = iv k ∧ Gr w3 wr ∧ Hid (∀ i x, i < k → ws[i]? = some x → bwF ns (q : Int) x = true)) (fun i _ => ws.length - (intOf i).toNat)
            case atStart => exact ⟨0, by omega, rfl, Gr.refl _, hide (fun i x hi => absurd hi (Nat.not_lt_zero i))⟩
            case round =>
              obtain ⟨k, hk, rfl, g', HS⟩ := hrel
              by_cases hkl : k < ws.length
              · obtain ⟨x, hx⟩ : ∃ z, ws[k]? = some z := ⟨_, List.getElem?_eq_getElem hkl⟩
                obtain ⟨b, o, rfl, x0, x1⟩ := (HP.out.gr (gw3.trans g')).at_ hx
                have hb : b < wr.heap.size := cell_lt (by rw [x0]; rfl)
                have HX := hide hx
                have hk0 : (0 : Int) ≤ (k : Int) := by omega
                have hk1 : (k : Int) < (ws.length : Int) := by omega
                obtain ⟨f, t, rfl, hft, htn⟩ := vw_nat HVW.out (List.mem_of_getElem? hx)
                have HBX := hide (fun (w' : World) (g'' : Gr wr w') => HBK.out A3 d3 f t w' (HL3.out.gr (g'.trans g'')) hft htn)
                have HBF := hide (show bwF ns (q : Int) ⟨f, t⟩ = bkB (mks ns) q f t from rfl)
                clear hx
                cases hv : bkB (mks ns) q f t with
                | true =>
                  have HS' := hide (up_to (P := fun x => bwF ns (q : Int) x = true) HS.out HX.out (by rw [HBF.out, hv]))
                  rw [hv] at HBX
                  clear hv
                  go_wp2_with (first | (go_at_call 19; refine (HBX.out _ (by repeat (first | with_reducible exact Gr.refl _ | with_reducible assumption | with_reducible refine Gr.alloc ?_ _ | with_reducible refine Gr.drewN ?_ _ | with_reducible refine Gr.drew ?_ | with_reducible refine Gr.setCell ?_ (by first | (dsimp only; omega) | (simp only [World.size_alloc]; omega) | (with_reducible refine Gr.size ?_; (repeat (first | with_reducible exact Gr.refl _ | with_reducible assumption | with_reducible refine Gr.alloc ?_ _ | with_reducible refine Gr.drewN ?_ _ | with_reducible refine Gr.drew ?_ | with_reducible refine Gr.trans ?_ (by with_reducible assumption))); done)) _ | with_reducible refine Gr.trans ?_ (by with_reducible assumption)))).mono ?_; rintro e w1 ⟨rfl, g1⟩; obtain ⟨X1, Y1, c1, f1⟩ := g1.use))
                  go_roundw
                  case rel => exact ⟨k + 1, by omega, by go_num, (by repeat (first | with_reducible exact Gr.refl _ | with_reducible assumption | with_reducible refine Gr.alloc ?_ _ | with_reducible refine Gr.drewN ?_ _ | with_reducible refine Gr.drew ?_ | with_reducible refine Gr.setCell ?_ (by first | (dsimp only; omega) | (simp only [World.size_alloc]; omega) | (with_reducible refine Gr.size ?_; (repeat (first | with_reducible exact Gr.refl _ | with_reducible assumption | with_reducible refine Gr.alloc ?_ _ | with_reducible refine Gr.drewN ?_ _ | with_reducible refine Gr.drew ?_ | with_reducible refine Gr.trans ?_ (by with_reducible assumption))); done)) _ | with_reducible refine Gr.trans ?_ (by with_reducible assumption))), HS'⟩
                  case measure => simp only [intOf]; omega
                | false =>
                  have HE := hide (cbE_bw H0.out HVW.out HOD.out (all_stop (f := bwF ns (q : Int)) HX.out (by rw [HBF.out, hv])))
                  have HR := hide (cbV_no (ns := ns) (s := (q : Int)) (ws := ws) (by rw [HE.out]; decide))
                  rw [hv] at HBX
                  clear hv
                  go_wp2_with (first | (go_at_call 19; refine (HBX.out _ (by repeat (first | with_reducible exact Gr.refl _ | with_reducible assumption | with_reducible refine Gr.alloc ?_ _ | with_reducible refine Gr.drewN ?_ _ | with_reducible refine Gr.drew ?_ | with_reducible refine Gr.setCell ?_ (by first | (dsimp only; omega) | (simp only [World.size_alloc]; omega) | (with_reducible refine Gr.size ?_; (repeat (first | with_reducible exact Gr.refl _ | with_reducible assumption | with_reducible refine Gr.alloc ?_ _ | with_reducible refine Gr.drewN ?_ _ | with_reducible refine Gr.drew ?_ | with_reducible refine Gr.trans ?_ (by with_reducible assumption))); done)) _ | with_reducible refine Gr.trans ?_ (by with_reducible assumption)))).mono ?_; rintro e w1 ⟨rfl, g1⟩; obtain ⟨X1, Y1, c1, f1⟩ := g1.use))
                  go_ret2
                  exact ⟨ret_ie HR.out.symm HE.out.symm, gw3.trans (g'.trans (by repeat (first | with_reducible exact Gr.refl _ | with_reducible assumption | with_reducible refine Gr.alloc ?_ _ | with_reducible refine Gr.drewN ?_ _ | with_reducible refine Gr.drew ?_ | with_reducible refine Gr.setCell ?_ (by first | (dsimp only; omega) | (simp only [World.size_alloc]; omega) | (with_reducible refine Gr.size ?_; (repeat (first | with_reducible exact Gr.refl _ | with_reducible assumption | with_reducible refine Gr.alloc ?_ _ | with_reducible refine Gr.drewN ?_ _ | with_reducible refine Gr.drew ?_ | with_reducible refine Gr.trans ?_ (by with_reducible assumption))); done)) _ | with_reducible refine Gr.trans ?_ (by with_reducible assumption))))⟩
              · obtain rfl : k = ws.length := by omega
                have HE := hide (cbE_ok H0.out HVW.out HOD.out (all_end HS.out))
                have HR := hide (show cbV ns (q : Int) ws = if ns.length = 0 then 0 else (ws.length : Int) + 1 by unfold cbV; rw [if_pos HE.out])
                by_cases hn0 : ns.length = 0
                · have hn0' : ((ns.length : Int) == 0) = true := by rw [beq_iff_eq]; omega
                  rw [if_pos hn0] at HR
                  clear hn0
                  go_wp2
                  go_ret2
                  exact ⟨ret_ie HR.out.symm HE.out.symm, gw3.trans g'⟩
                · have hn0' : ((ns.length : Int) == 0) = false := by rw [beq_eq_false_iff_ne]; omega
                  rw [if_neg hn0] at HR
                  clear hn0
                  go_wp2
                  go_ret2
                  exact ⟨ret_ie HR.out.symm HE.out.symm, gw3.trans g'⟩
  · have HE := hide (cbE_bad (ws := ws) h0)
    have HR := hide (cbV_no (ns := ns) (s := s) (ws := ws) (by rw [HE.out]; exact h0))
    have h1 : (chE ns s != 0) = true := by simpa using h0
    rw [HE.out, HR.out]
    generalize chE ns s = e0 at *
    clear h0 hl hp
    go_enter Try.func7, Try.ntmps7
    go_wp2_with (first | (go_at_call 11; refine (HV.out).mono ?_; rintro e w1 ⟨rfl, rfl⟩))
    go_ret2
    exact ⟨rfl, (by repeat (first | with_reducible exact Gr.refl _ | with_reducible assumption | with_reducible refine Gr.alloc ?_ _ | with_reducible refine Gr.drewN ?_ _ | with_reducible refine Gr.drew ?_ | with_reducible refine Gr.setCell ?_ (by first | (dsimp only; omega) | (simp only [World.size_alloc]; omega) | (with_reducible refine Gr.size ?_; (repeat (first | with_reducible exact Gr.refl _ | with_reducible assumption | with_reducible refine Gr.alloc ?_ _ | with_reducible refine Gr.drewN ?_ _ | with_reducible refine Gr.drew ?_ | with_reducible refine Gr.trans ?_ (by with_reducible assumption))); done)) _ | with_reducible refine Gr.trans ?_ (by with_reducible assumption)))⟩
end Go.Proofs.Ytfndhddnglcliaa
