/-
  Plan of the code: the walk.
-/
import Derived.Test.YtfndhddnglcliaaPln2
import Derived.Test.YtfndhddnglcliaaPln4
set_option linter.unusedVariables false
set_option linter.unusedSimpArgs false
namespace Go.Proofs.Ytfndhddnglcliaa
set_option linter.unusedVariables false
set_option linter.unusedSimpArgs false
open Go Go.ChangeShapes Go.WideShapes Go.ChangeAt Go.RowKit Go.Deep

theorem info_set : ∃ i, Try.prog.info? 50 = some i ∧ i.zero = some (uv 0) ∧ i.size = 1 ∧ i.bytes = 8 := by
  have hi : (Try.prog.info? 50).map (fun i => (i.zero, i.size, i.bytes)) = some (some (uv 0), 1, 8) := by kernel_rfl
  cases e1 : Try.prog.info? 50 with
  | none => rw [e1] at hi; cases hi
  | some i =>
    rw [e1] at hi
    simp only [Option.map_some, Option.some.injEq, Prod.mk.injEq] at hi
    exact ⟨i, rfl, hi.1, hi.2.1, hi.2.2⟩
theorem made_u (n j : Nat) (h : j < n * 1) : (madeCells (uv 0).cells (n * 1)).toList[j]? = some (uv 0) := by
  unfold madeCells
  simp only [Array.toList_map, Array.toList_range, List.getElem?_map]
  rw [List.getElem?_range h]
  have : j % 1 < 1 := Nat.mod_lt _ (by decide)
  have h0 : j % 1 = 0 := by omega
  simp [uv, Value.cells, h0]
theorem own_blk1 {w : World} {base B n : Nat} {e : TypeId} {d : Nat} {xs : List Value} {v : Value} (h : w.ownsRow base e 1 (.slice (some ⟨B, 0, none⟩) n d) n xs) (hx : ∀ j, j < n * 1 → xs[j]? = some v) : Blk w B (fun _ => v) n := by
  refine ⟨(World.ownsRow.lt h B rfl).2, fun j hj => ⟨?_, World.ownsRow.frozenAt h j⟩⟩
  rw [World.ownsRow.cellAt h j (by omega), hx j (by omega)]
theorem Blk.slu {w : World} {B n : Nat} {l : List Nat} (h : Blk w B (fun i => uv (l.getD i 0)) n) (hn : l.length = n) (hm : n ≤ 1000) : SlU w (some ⟨B, 0, none⟩) n l := by
  refine ⟨fun i x hx => ⟨B, 0, rfl, ?_, trivial⟩, by omega, by omega⟩
  have hi := (List.getElem?_eq_some_iff.1 hx).1
  have := (h.2 i (by omega)).1
  rw [Nat.zero_add, Nat.mul_one, this]
  dsimp only
  rw [List.getD_eq_getElem?_getD, hx]
  rfl
def stF (L : List Chg) (i : Nat) : Value := uv (stv (mu L (i : Int)))
theorem st_slu {w : World} {B q : Nat} {L : List Chg} (h : Blk w B (stF L) q) (hm : q ≤ 1000) : SlU w (some ⟨B, 0, none⟩) q (msL q L) :=
  Blk.slu (Blk.congr h fun i hi => by
    unfold stF
    rw [List.getD_eq_getElem?_getD, msL_at hi]
    rfl) (msL_len q L) hm
theorem st_set {w : World} {B q a : Nat} {L : List Chg} {t b : Int} (h : Blk w B (stF L) q) (ha : a < q) (hb : 0 ≤ b) : Blk (w.setCell ⟨B, a, none⟩ (uv (2 ^ b.toNat))) B (stF (L ++ [⟨t, (a : Int), b⟩])) q := by
  refine (Blk.set h (uv (2 ^ b.toNat)) rfl ha).congr fun i hi => ?_
  unfold stF
  rw [mu_snoc]
  unfold muF
  by_cases e : i = a
  · rw [if_pos e, if_pos (by simp only; omega)]
    unfold stv
    rw [if_neg (by simp only; omega)]
  · rw [if_neg e, if_neg (by simp only; omega)]
theorem elCh : ElT Try.prog 25 54 3 24 := elT_of (.agg #[.int .i64 0, .int .i64 0, .int .i64 0]) Try.underlying25 (by kernel_rfl) rfl
theorem slc_own {w : World} {base : Nat} {e : TypeId} {A : Option Addr} {d : Nat} {xs : List Chg} (h : OwnL w base e 3 chL (.slice A xs.length d) xs) : SlC w A d xs := by
  obtain ⟨_, h1, h2, h3⟩ := OwnL.rd (c := chL) (fun _ => rfl) h
  exact ⟨h1, h2, by unfold maxLen at h3; omega⟩
theorem slc_nil (w : World) : SlC w none 0 [] := ⟨fun i x hx => by simp at hx, by simp, by decide⟩
theorem ownF {w : World} {base : Nat} {e : TypeId} {k n : Nat} {v : Value} {xs : List Value} (h : w.ownsRow base e k v n xs) {a : Addr} (ha : a.block < base) (u : Value) : (w.setCell a u).ownsRow base e k v n xs := by
  obtain ⟨h0, h1 | ⟨b, cap, cur, h1, hb, h2, h3⟩⟩ := id h
  · exact ⟨h0, .inl h1⟩
  · refine ⟨h0, .inr ⟨b, cap, cur, h1, hb, ?_, h3⟩⟩
    rw [← h2]
    exact Below.heap_setCell w a u b (by omega)
/-- the change that is made lies in a box -/
def cxF (k a p : Nat) (i : Nat) : Value := if i = 0 then iv k else if i = 1 then iv a else iv p
/-- what Plan gives -/
def PlnP (ns : List Nd) (s : Int) (L : List Chg) : Prop := L.length ≤ 24 ∧ if chE ns s = 0 then L.length = leN ns s ∧ ckE ns s L = 0 else L = []
set_option maxRecDepth 100000 in
set_option maxHeartbeats 1000000 in
theorem Plan_any (A : Option Addr) (c : Nat) (ns : List Nd) (s : Int) (w : World) (hl : SlN w A c ns) :
    Calls Try.prog 6 #[.slice A ns.length c, iv s] w fun e w' => ∃ A' d' L, e = .returned (sle (.slice A' L.length d') (chE ns s)) ∧ SlC w' A' d' L ∧ PlnP ns s L ∧ Gr w w' := by
  have HV := hide (scheck_any A c ns s w hl)
  by_cases h0 : chE ns s = 0
  · obtain ⟨h2, h3⟩ := chE_ok h0
    obtain ⟨b4, b5⟩ := wiB_iff.1 h3
    obtain ⟨hlen, hB⟩ := vaE_ok h2
    have hml := mks_lt hB
    obtain ⟨q, rfl⟩ : ∃ q : Nat, s = q := ⟨s.toNat, by omega⟩
    have n1 := hl.cap
    have n2 := hl.capB
    have HSS := hide (setsOf_any A c ns w hl h2)
    have hq1 : 1 ≤ q := by omega
    have hq3 : q ≤ 3 := by omega
    have HOL := hide (fun (A' : Option Addr) (d : Nat) (w' : World) (h : SlU w' A' d (mks ns)) => outlooks_any A' d (mks ns) q w' h (by rw [mks_len]; exact hlen) hml hq3)
    have HEND := hide (fun (L : List Chg) (h : PlI ns q ns.length L) => plI_done h h0)
    have HPE := hide (fun (L : List Chg) (hl : L.length ≤ 24) (h : L.length = leN ns (q : Int) ∧ ckE ns (q : Int) L = 0) => show PlnP ns (q : Int) L from ⟨hl, by rw [if_pos h0]; exact h⟩)
    have HNB := hide hB
    have HNL := hide hl
    have HOKN := hide (mks_ok hB)
    have hsl := mks_len ns
    obtain ⟨iz, hi, hz, hsz, hby⟩ := info_set
    rw [h0] at HV ⊢
    clear h0 h2 h3 hB hl hml b4 b5
    obtain ⟨ss, hss⟩ : ∃ ss, mks ns = ss := ⟨_, rfl⟩
    have HMK := hide hss
    rw [hss] at HSS HOL HOKN hsl
    have HSL := hide hsl
    have hsl1 : ss.length ≤ 24 := by omega
    clear hss hsl
    go_enter Try.func6, Try.ntmps6
    go_wp2_with (first | (go_at_call 11; refine (HV.out).mono ?_; rintro e w1 ⟨rfl, rfl⟩))
    refine HSS.out.mono ?_
    rintro e w3 ⟨A3, d3, rfl, o3, g3⟩
    have HL3 := hide (own_sub o3)
    have k1 := (own_sub o3).cap
    have k2 := (own_sub o3).capB
    clear o3
    go_wp2_with fail
    refine (HOL.out _ _ _ HL3.out).mono ?_
    rintro e w4 ⟨B, rfl, hO4, g4⟩
    have HO4 := hide hO4
    have gw4 : Gr w w4 := g3.trans g4
    clear hO4
    go_wp2_with (refine wpList_make_full w4 rfl _ _ _ rfl w4.heap.size 50 iz (uv 0) 1 elSet.und hi hz hsz .i64 .i64 _ _ q rfl rfl rfl rfl (by rw [hby]; omega) (by unfold maxLen; omega) (Nat.le_refl _) ?_; intro w5 hown5 hg5)
    have g5 : Gr w4 w5 := Gr.grown (Gr.refl _) hg5 (fun k hk => by cases hk)
    have HB5 := hide (own_blk1 hown5 (fun j hj => made_u q j hj))
    clear hown5 hg5 hi hz hsz hby
    obtain ⟨G, hG⟩ : ∃ G, w4.heap.size = G := ⟨_, rfl⟩
    rw [hG] at HB5
    simp only [hG]
    have hwG : w.heap.size ≤ G := by have := gw4.size; omega
    have hG4 : w4.heap.size ≤ G := by omega
    have hG5 : G + 1 ≤ w5.heap.size := HB5.out.1
    have HB0 := hide (show Blk w5 G (stF []) q from HB5.out)
    clear hG HB5
    go_wp2
    go_loopw [10, 29] (fun v i wr => ∃ (k : Nat) (L : List Chg) (A' : Option Addr) (d' : Nat), k ≤ ss.length ∧ i = iv k ∧ v = .slice A' L.length d' ∧ L.length ≤ k ∧ Gr w4 wr ∧ G + 1 ≤ wr.heap.size ∧ Hid (Blk wr G (stF L) q) ∧ Hid (OwnL wr (G + 1) 54 3 chL (.slice A' L.length d') L) ∧ Hid (PlI ns q k L)) (fun _ i _ => ss.length - (intOf i).toNat)
    case atStart => exact ⟨0, [], none, 0, by omega, rfl, rfl, by simp, g5, hG5, HB0, own_nil _ _ _ _ _, hide (plI0 ns q)⟩
    case round =>
      clear HB0 hG5 g5
      obtain ⟨k, L, A1, d1, hk, rfl, rfl, hL, g, hbz, HB, HO, HP⟩ := hrel
      by_cases hkl : k < ss.length
      · obtain ⟨x, hx⟩ : ∃ x, ns[k]? = some x := ⟨_, List.getElem?_eq_getElem (by rw [← HSL.out]; exact hkl)⟩
        have HX := hide hx
        have hsk : ss[k]? = some (mk x.l) := by rw [← HMK.out]; unfold mks; rw [List.getElem?_map, hx]; rfl
        obtain ⟨b, o, rfl, x0⟩ := (HL3.out.gr (g4.trans g)).rd.uv_ hsk
        have hr := inR_of (nds_in HNB.out (List.mem_of_getElem? hx)).2
        have hne := (nds_in HNB.out (List.mem_of_getElem? hx)).1
        have HNE := hide hne
        have HIR := hide hr
        have hmx := mk_lt hr
        have hms := msL_lt HP.out.ord
        have HMS := hide hms
        have HUN := hide (fun (w' : World) (g' : Gr wr w') => un_any (some ⟨G, 0, none⟩) q q (msL q L) _ w' ((st_slu HB.out (by omega)).gr g') hms (msL_len q L).symm rfl)
        have hMl : orL (msL q L) < 512 := orL_all hms
        have HME := hide (fun w' : World => meets_any (orL (msL q L)) (mk x.l) w' hMl hmx)
        have hk0 : (0 : Int) ≤ (k : Int) := by omega
        have hk1 : (k : Int) < (ss.length : Int) := by omega
        clear hsk hne
        cases hmt : LS.mt (orL (msL q L)) (mk x.l) with
        | true =>
          have HN := hide (plI_yes HP.out hx hr hmt)
          rw [hmt] at HME
          clear hmt hx hr hms
          generalize orL (msL q L) = M at *
          generalize mk x.l = X at *
          go_wp2_with (first | (go_at_call 14; refine (HUN.out _ (Gr.refl _)).mono ?_; rintro e w1 ⟨rfl, rfl⟩) | (go_at_call 15; refine (HME.out _).mono ?_; rintro e w1 ⟨rfl, rfl⟩))
          go_roundw
          case rel => exact ⟨k + 1, L, A1, d1, by omega, by go_num, rfl, by omega, (by repeat (first | with_reducible exact Gr.refl _ | with_reducible assumption | with_reducible refine Gr.alloc ?_ _ | with_reducible refine Gr.drewN ?_ _ | with_reducible refine Gr.drew ?_ | with_reducible refine Gr.setCell ?_ (by first | (dsimp only; omega) | (simp only [World.size_alloc]; omega) | (with_reducible refine Gr.size ?_; (repeat (first | with_reducible exact Gr.refl _ | with_reducible assumption | with_reducible refine Gr.alloc ?_ _ | with_reducible refine Gr.drewN ?_ _ | with_reducible refine Gr.drew ?_ | with_reducible refine Gr.trans ?_ (by with_reducible assumption))); done)) _ | with_reducible refine Gr.trans ?_ (by with_reducible assumption))), hbz, HB, HO, HN⟩
          case measure => simp only [intOf]; omega
        | false =>
          obtain ⟨bn, on, rfl, x1, xl⟩ := (HNL.out.gr (gw4.trans g)).at_ hx
          have XL := hide xl
          have xc1 := xl.cap
          have xc2 := xl.capB
          have hq : (msL q L).length = q := msL_len q L
          obtain ⟨ha, hb, hbest⟩ := bc_ok (F := LS.outl q (ss.drop (k + 1))) (ms := msL q L) (l := x.l) (by omega) HNE.out (fun z _ => Nat.le_trans (LS.outl_le hq1 (fun y hy => HOKN.out y (List.mem_of_mem_drop hy))) (by rw [List.length_drop]; omega))
          rw [hq] at ha hbest
          have HN := hide (plI_no HP.out HNB.out hlen hq1 hx hmt ha hb (by rw [HMK.out]; exact hbest))
          have hbr := hr _ hb
          have HBC := hide (fun (w' : World) (g' : Gr wr w') => show Calls Try.prog 16 #[.slice (some ⟨G, 0, none⟩) q q, .slice x.A x.l.length x.c, .pointer (some ⟨B, (k + 1) * 512, none⟩)] w' fun e w'' => e = .returned (.agg #[iv 0, iv (bcA (LS.outl q (ss.drop (k + 1))) (msL q L) x.l), iv (bcB (LS.outl q (ss.drop (k + 1))) (msL q L) x.l)]) ∧ Gr w' w'' from by
            have h := bestChange_any G 0 q (msL q L) x.A x.c x.l B ((k + 1) * 512) q (LS.outl q (ss.drop (k + 1))) w' ((st_slu HB.out (by omega)).gr g') HMS.out (XL.out.gr g') HIR.out ((HO4.out (k + 1) (by omega)).gr (g.trans g')) (fun i p hi hp => by
              have := cd_kpS (msL_one HP.out.ord) (i := i) (p := p) hi
              rwa [hq] at this) (by omega)
            rw [hq] at h
            exact h)
          generalize bcB (LS.outl q (ss.drop (k + 1))) (msL q L) x.l = bb at *
          generalize bcA (LS.outl q (ss.drop (k + 1))) (msL q L) x.l = aa at *
          obtain ⟨p, rfl⟩ : ∃ p : Nat, bb = p := ⟨bb.toNat, by omega⟩
          have hp : p < 9 := by omega
          have HSI := hide (fun w => single_any p w hp)
          have hbn : bn < wr.heap.size := cell_lt (by rw [x1]; rfl)
          have hkn : (k : Int) < (ns.length : Int) := by rw [← HSL.out]; omega
          have W1 : IntKind.i64.wrap ((k : Int) + 1) = (k : Int) + 1 := IntWalk.i64_in _ (by omega)
          have hk2 : (k : Int) + 1 < (ss.length : Int) + 1 := by omega
          rw [hmt] at HME
          clear hmt hx hr hms hbest hb hbr hq
          generalize orL (msL q L) = M at *
          generalize mk x.l = X at *
          obtain ⟨xA, xc, xll⟩ := x
          dsimp only at *
          go_upto_region 12 with (first | (go_at_call 14; refine (HUN.out _ (Gr.refl _)).mono ?_; rintro e w1 ⟨rfl, rfl⟩) | (go_at_call 15; refine (HME.out _).mono ?_; rintro e w1 ⟨rfl, rfl⟩))
          refine wp_region_new1 _ 10 (by kernel_rfl) (by kernel_rfl) (Gr.refl _) (z1 := #[iv 0, iv 0, iv 0]) (t1 := 54) rfl ⟨rfl, fun _ => rfl, rfl, fun a w => by go_simp⟩  ?_
          intro s gs
          obtain ⟨Xs, Ys, cs, fs⟩ := gs.use
          have GC := @GrW.cell
          simp only [List.take_succ_cons, List.take_zero]
          repeat (go_big_quiet_step ((first | (go_at_call 16; exact quiet_grw (HBC.out _ (Gr.trans gs (GrW.gr _)))))))
          refine wpQuiet_nil ?_
          clear GC cs fs gs
          intro B1 wq gq1 l1  ⟨b1, c1, f1⟩
          obtain ⟨Xq, Yq, cq, fq⟩ := gq1.use
          have sq := gq1.size
          (try simp only [World.size_alloc, World.size_setCell, World.heap_drewN] at sq l1 )
          simp only [List.drop_succ_cons, List.drop_zero]
          have HBX := hide (show Blk wq B1 (fun _ => iv 0) 3 from ⟨b1, fun j hj => ⟨by rw [c1]; rcases (by omega : j = 0 ∨ j = 1 ∨ j = 2) with rfl | rfl | rfl <;> rfl, f1 j⟩⟩)
          go_upto_region 14 with fail
          obtain ⟨w6, hw6⟩ : ∃ w6, (((wq.setCell ⟨B1, 0, none⟩ (.int .i64 0)).setCell ⟨B1, 1, none⟩ (.int .i64 (aa : Int))).setCell ⟨B1, 2, none⟩ (.int .i64 (p : Int))).setCell ⟨B1, 0, none⟩ (.int .i64 (k : Int)) = w6 := ⟨_, rfl⟩
          have HX6 := hide (show Blk w6 B1 (cxF k aa p) 3 from by
            rw [← hw6]
            exact Blk.congr (Blk.set (k := 0) (Blk.set (k := 2) (Blk.set (k := 1) (Blk.set (k := 0) HBX.out (.int .i64 0) rfl (by decide)) (.int .i64 (aa : Int)) rfl (by decide)) (.int .i64 (p : Int)) rfl (by decide)) (.int .i64 (k : Int)) rfl (by decide)) fun i hi => by
              rcases (by omega : i = 0 ∨ i = 1 ∨ i = 2) with rfl | rfl | rfl <;> rfl)
          have g6 : Gr wr w6 := by
            rw [← hw6]
            exact Gr.setCell (Gr.setCell (Gr.setCell (Gr.setCell gq1 (by dsimp only; exact l1) _) (by dsimp only; exact l1) _) (by dsimp only; exact l1) _) (by dsimp only; exact l1) _
          rw [hw6]
          clear hw6 c1 f1 b1 cq fq sq gq1 HBX
          have HB6 := hide (HB.out.gr g6)
          have HO6 := hide (HO.out.gr g6)
          have y0 := (HX6.out.2 0 (by decide)).1
          have y1 := (HX6.out.2 1 (by decide)).1
          have y2 := (HX6.out.2 2 (by decide)).1
          have fy0 := (HX6.out.2 0 (by decide)).2
          simp only [show cxF k aa p 0 = iv k from rfl, show cxF k aa p 1 = iv aa from rfl, show cxF k aa p 2 = iv p from rfl] at y0 y1 y2
          have z1 := (HB6.out.2 aa ha).1
          have z2 := (HB6.out.2 aa ha).2
          have hB6 := HX6.out.1
          have hG6 := HB6.out.1
          have hBG : ¬ B1 = G := by omega
          have ha0 : (0 : Int) ≤ (aa : Int) := by omega
          have ha1 : (aa : Int) < (q : Int) := by omega
          have GC := @GrW.cell
          refine wp_region_grw_tail _ 7 (by kernel_rfl) (by kernel_rfl) (Gr.refl _) ?_
          simp only [List.take_succ_cons, List.take_zero, List.drop_succ_cons, List.drop_zero]
          repeat (go_big_quiet_step ((first | (go_at_call 17; exact quiet_grs (HSI.out _)))))
          refine wpQuiet_nil ?_
          intro wq hwq
          obtain ⟨gq, hwq'⟩ := hwq
          subst hwq'
          clear GC
          have gq1 := gq.gr
          generalize gq.w = wq at gq1 ⊢
          obtain ⟨Xq, Yq, cq, fq⟩ := gq1.use
          have sq := gq1.size
          (try simp only [World.size_alloc, World.size_setCell, World.heap_drewN] at sq)
          have HB7 := hide (st_set (t := (k : Int)) (b := (p : Int)) (HB6.out.gr gq1) ha (by omega))
          have HO7 := hide (show OwnL (wq.setCell ⟨G, aa, none⟩ (uv (2 ^ p))) (G + 1) 54 3 chL (.slice A1 L.length d1) L from ownF (HO6.out.gr gq1) (by dsimp only; omega) _)
          have HX7 := hide (blk_far (HX6.out.gr gq1) G aa (uv (2 ^ p)) hBG)
          have g7 : Gr w4 (wq.setCell ⟨G, aa, none⟩ (uv (2 ^ p))) := Gr.setCell (g.trans (g6.trans gq1)) (by dsimp only; exact hG4) _
          rw [show ((p : Int)).toNat = p from by omega] at HB7
          go_upto_region 15 with fail
          obtain ⟨w7, hw7⟩ : ∃ w7, wq.setCell ⟨G, aa, none⟩ (.int .u64 ((2 : Int) ^ p)) = w7 := ⟨_, rfl⟩
          have e7 : wq.setCell ⟨G, aa, none⟩ (uv (2 ^ p)) = w7 := by
            rw [← hw7]
            simp [uv]
          rw [hw7]
          rw [e7] at g7 HB7 HO7 HX7
          clear hw7 e7 gq1 sq cq fq y0 y1 y2 fy0 z1 z2 HB6 HO6 HX6 g6 x0 x1
          obtain ⟨L2, hL2⟩ : ∃ L2, L ++ [(⟨(k : Int), (aa : Int), (p : Int)⟩ : Chg)] = L2 := ⟨_, rfl⟩
          have HY := hide hL2
          have hL2l : L2.length = L.length + 1 := by rw [← hL2]; simp
          have hL2k : L2.length ≤ k + 1 := by omega
          rw [hL2] at HB7 HN
          have y0 := (HX7.out.2 0 (by decide)).1
          have y1 := (HX7.out.2 1 (by decide)).1
          have y2 := (HX7.out.2 2 (by decide)).1
          simp only [show cxF k aa p 0 = iv k from rfl, show cxF k aa p 1 = iv aa from rfl, show cxF k aa p 2 = iv p from rfl] at y0 y1 y2
          have hB7 := HX7.out.1
          have hG7 := HB7.out.1
          have hOLT := hide (fun k hk => (World.ownsRow.lt HO7.out k hk).1)
          clear hL2l hL2
          go_wp2_with (refine wpList_app1 rfl _ _ _ rfl chL (G + 1) 54 3 24 elCh (by decide) L ⟨(k : Int), (aa : Int), (p : Int)⟩ L2 HY.out _ rfl (OwnL.gr HO7.out (Gr.alloc (Gr.refl _) _)) _ 1 rfl rfl (by intro j u hu; refine newsA w7 #[iv k, iv aa, iv p] 54 j u ?_; exact hu) (by intro u hu; simp at hu; rcases hu with rfl | rfl | rfl <;> rfl) (by omega) (by decide) (by simp only [World.size_alloc]; omega) ?_; intro gg cap1 w8 hO8 hG8 hgrow hgb hg8)
          have HB8 := hide (Blk.grown (lo := G + 1) (HB7.out.gr (Gr.alloc (Gr.refl _) _)) hgrow hOLT.out (by omega))
          have g8 : Gr w4 w8 := hG8 w4 (Gr.alloc g7 _) (by omega)
          have hs8 : G + 1 ≤ w8.heap.size := HB8.out.1
          have HO8 := hide hO8
          clear hO8 hG8 hgrow hgb hg8
          go_wp2
          go_roundw
          case rel => exact ⟨k + 1, L2, some ⟨gg, 0, none⟩, cap1, by omega, by go_num, rfl, hL2k, g8, hs8, HB8, HO8, HN⟩
          case measure => simp only [intOf]; omega
      · obtain rfl : k = ss.length := by omega
        have HF := hide (HEND.out L (by rw [← HSL.out]; exact HP.out))
        have HS := hide (slc_own HO.out)
        have HPP := hide (HPE.out L (by omega) HF.out)
        go_wp2
        go_ret2
        exact ⟨A1, d1, L, rfl, HS.out, HPP.out, (by repeat (first | with_reducible exact Gr.refl _ | with_reducible assumption | with_reducible refine Gr.alloc ?_ _ | with_reducible refine Gr.drewN ?_ _ | with_reducible refine Gr.drew ?_ | with_reducible refine Gr.setCell ?_ (by first | (dsimp only; omega) | (simp only [World.size_alloc]; omega) | (with_reducible refine Gr.size ?_; (repeat (first | with_reducible exact Gr.refl _ | with_reducible assumption | with_reducible refine Gr.alloc ?_ _ | with_reducible refine Gr.drewN ?_ _ | with_reducible refine Gr.drew ?_ | with_reducible refine Gr.trans ?_ (by with_reducible assumption))); done)) _ | with_reducible refine Gr.trans ?_ (by with_reducible assumption)))⟩
  · have HPE := hide (show PlnP ns s [] from ⟨by simp, by rw [if_neg h0]⟩)
    have h1 : (chE ns s != 0) = true := by simpa using h0
    generalize chE ns s = e0 at *
    clear h0 hl
    go_enter Try.func6, Try.ntmps6
    go_wp2_with (first | (go_at_call 11; refine (HV.out).mono ?_; rintro e w1 ⟨rfl, rfl⟩))
    go_ret2
    exact ⟨none, 0, [], rfl, slc_nil _, HPE.out, (by repeat (first | with_reducible exact Gr.refl _ | with_reducible assumption | with_reducible refine Gr.alloc ?_ _ | with_reducible refine Gr.drewN ?_ _ | with_reducible refine Gr.drew ?_ | with_reducible refine Gr.setCell ?_ (by first | (dsimp only; omega) | (simp only [World.size_alloc]; omega) | (with_reducible refine Gr.size ?_; (repeat (first | with_reducible exact Gr.refl _ | with_reducible assumption | with_reducible refine Gr.alloc ?_ _ | with_reducible refine Gr.drewN ?_ _ | with_reducible refine Gr.drew ?_ | with_reducible refine Gr.trans ?_ (by with_reducible assumption))); done)) _ | with_reducible refine Gr.trans ?_ (by with_reducible assumption)))⟩
end Go.Proofs.Ytfndhddnglcliaa
