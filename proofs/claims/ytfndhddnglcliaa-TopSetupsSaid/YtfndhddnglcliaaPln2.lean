/-
  The best change at a step: the walk.
-/
import Derived.Test.YtfndhddnglcliaaPln1
set_option linter.unusedVariables false
set_option linter.unusedSimpArgs false
namespace Go.Proofs.Ytfndhddnglcliaa
set_option linter.unusedVariables false
set_option linter.unusedSimpArgs false
open Go Go.ChangeShapes Go.WideShapes Go.ChangeAt Go.RowKit Go.Deep

def bxF (a : Nat) (b : Int) (i : Nat) : Value := if i = 0 then iv 0 else if i = 1 then iv a else iv b
theorem bx_new (w : World) (t : TypeId) : Blk (w.alloc (.cells #[.int .i64 0, .int .i64 0, .int .i64 0] t)) w.heap.size (bxF 0 0) 3 :=
  ⟨by simp, fun j hj => by rcases (by omega : j = 0 ∨ j = 1 ∨ j = 2) with rfl | rfl | rfl <;> exact ⟨by simp [go_sem, bxF], by simp [go_sem]⟩⟩
theorem un_any (A : Option Addr) (n c : Nat) (l : List Nat) (M : Nat) (w : World) (hl : SlU w A c l) (hlt : ∀ n ∈ l, n < 512) (hn : n = l.length) (hM : orL l = M) :
    Calls Try.prog 14 #[.slice A n c] w fun e w' => e = .returned (uv M) ∧ w = w' := by
  subst hn hM
  exact union_any A c l w hl hlt
theorem blk_far {w : World} {B n : Nat} {f : Nat → Value} (h : Blk w B f n) (B' o : Nat) (u : Value) (hne : B ≠ B') : Blk (w.setCell ⟨B', o, none⟩ u) B f n :=
  ⟨by simpa using h.1, fun j hj => ⟨by simp [go_sem, (h.2 j hj).1, hne], by simp [go_sem, (h.2 j hj).2]⟩⟩
set_option maxRecDepth 100000 in
set_option maxHeartbeats 4000000 in
theorem bestChange_any (b0 o0 c : Nat) (ms : List Nat) (B : Option Addr) (cb : Nat) (l : List Int) (O off s : Nat) (F : Nat → Nat) (w : World) (hm : SlU w (some ⟨b0, o0, none⟩) c ms) (hlt : ∀ n ∈ ms, n < 512) (hl : SlI w B cb l) (hr : inR l) (hO : Olk w O off s F)
    (hcd : ∀ i p, i < ms.length → p < 9 → LS.cd (kpS ms i ||| 2 ^ p) ≤ s) (hq3 : ms.length ≤ 3) :
    Calls Try.prog 16 #[.slice (some ⟨b0, o0, none⟩) ms.length c, .slice B l.length cb, .pointer (some ⟨O, off, none⟩)] w fun e w' => e = .returned (.agg #[iv 0, iv (bcA F ms l), iv (bcB F ms l)]) ∧ Gr w w' := by
  have n1 := hm.cap
  have n2 := hm.capB
  have n3 := hl.cap
  have n4 := hl.capB
  have HM := hide hm
  have HL := hide hl
  have HR := hide hr
  have HO := hide hO
  have HT := hide hlt
  have HCD := hide hcd
  clear hm hl hr hO hlt hcd
  go_enter Try.func16, Try.ntmps16
  go_wp2
  have HB0 := hide (bx_new (w.alloc (.cells #[.int .i64 0, .int .i64 0, .int .i64 0] 54)) 54)
  have HR0 := hide (Blk.gr (bx_new w 54) (Gr.alloc (Gr.refl _) (.cells #[.int .i64 0, .int .i64 0, .int .i64 0] 54)))
  have g0 : Gr w ((w.alloc (.cells #[.int .i64 0, .int .i64 0, .int .i64 0] 54)).alloc (.cells #[.int .i64 0, .int .i64 0, .int .i64 0] 54)) := Gr.alloc (Gr.alloc (Gr.refl _) _) _
  rw [World.size_alloc] at HB0
  try simp only [World.size_alloc]
  obtain ⟨R, hR⟩ : ∃ R, w.heap.size = R := ⟨_, rfl⟩
  rw [hR] at HB0 HR0
  simp only [hR]
  have hwR : w.heap.size ≤ R := by omega
  generalize (w.alloc (.cells #[.int .i64 0, .int .i64 0, .int .i64 0] 54)).alloc (.cells #[.int .i64 0, .int .i64 0, .int .i64 0] 54) = w1 at *
  clear hR
  go_loopw [8, 16] (fun v i wr => ∃ (k a L : Nat) (b : Int), k ≤ ms.length ∧ i = iv k ∧ v = iv L ∧ Gr w wr ∧ Hid (Blk wr R (bxF 0 0) 3 ∧ Blk wr (R + 1) (bxF a b) 3) ∧ Hid (BsE (bcV F ms) l k 0 a b L)) (fun _ i _ => ms.length - (intOf i).toNat)
  case atStart => exact ⟨0, 0, 25, 0, by omega, rfl, rfl, g0, hide ⟨HR0.out, HB0.out⟩, hide (bs_start _ _)⟩
  case round =>
    clear HB0 HR0 g0
    obtain ⟨k, a, L, b, hk, rfl, rfl, g, HX, HP⟩ := hrel
    by_cases hkl : k < ms.length
    · have hk0 : (0 : Int) ≤ (k : Int) := by omega
      have hk1 : (k : Int) < (ms.length : Int) := by omega
      have W1 : IntKind.i64.wrap ((k : Int) + 1) = (k : Int) + 1 := IntWalk.i64_in _ (by omega)
      have S1 := hide (fun (w' : World) (g' : Gr w w') => (slu_take HM.out k).gr g')
      have S2 := hide (fun (w' : World) (g' : Gr w w') => show SlU w' (if c = k + 1 then some ⟨b0, o0, none⟩ else some ⟨b0, o0 + (k + 1), none⟩) (c - (k + 1)) (ms.drop (k + 1)) from by
        by_cases e : c = k + 1
        · rw [List.drop_eq_nil_of_le (by omega)]
          exact ⟨fun j x hx => by simp at hx, by simp, by omega⟩
        · rw [if_neg e]
          exact (slu_drop HM.out (k + 1)).gr g')
      have T1 := hide (fun n (hn : n ∈ ms.take k) => HT.out n (List.mem_of_mem_take hn))
      have T2 := hide (fun n (hn : n ∈ ms.drop (k + 1)) => HT.out n (List.mem_of_mem_drop hn))
      go_upto_region 6 with fail
      have GC := @GrW.cell
      refine wp_region_grw _ (by kernel_rfl) (by kernel_rfl) (Gr.refl _) ?_
      repeat (go_big_quiet_step ((first | (go_at_call 14; exact quiet_grs (un_any _ _ _ _ _ _ (by first | exact S1.out _ (Gr.trans g (GrW.gr _)) | exact S2.out _ (Gr.trans g (GrW.gr _))) (by first | exact T1.out | exact T2.out) (by first | (rw [List.length_take]; omega) | (rw [List.length_drop])) rfl)))))
      refine wpQuiet_nil ?_
      intro wq hwq
      obtain ⟨gq, hwq'⟩ := hwq
      subst hwq'
      clear GC
      have gq1 := gq.gr
      generalize gq.w = wq at gq1 ⊢
      obtain ⟨Xq, Yq, cq, fq⟩ := gq1.use
      have sq := gq1.size
      (try simp only [World.size_alloc, World.size_setCell, World.heap_drewN] at sq)
      generalize (if c = k + 1 then some (⟨b0, o0, none⟩ : Addr) else some ⟨b0, o0 + (k + 1), none⟩) = zz
      have hK := kpS_lt HT.out k
      have W2 : bits .or .u64 ((orL (ms.take k) : Nat) : Int) ((orL (ms.drop (k + 1)) : Nat) : Int) = ((kpS ms k : Nat) : Int) := u_or (Nat.lt_trans (orL_lt HT.out k) (by decide)) (Nat.lt_trans (orL_all T2.out) (by decide))
      have HCk := hide (fun p (hp : p < 9) => HCD.out k p hkl hp)
      clear S1 S2 T1 T2
      generalize orL (ms.take k) = M1 at *
      generalize orL (ms.drop (k + 1)) = M2 at *
      obtain ⟨K, hKe⟩ : ∃ K, kpS ms k = K := ⟨_, rfl⟩
      have HKE := hide hKe
      rw [hKe] at W2 HCk hK
      clear hKe
      go_wp2
      have gwq : Gr w wq := g.trans gq1
      have HX' := hide (show Blk wq R (bxF 0 0) 3 ∧ Blk wq (R + 1) (bxF a b) 3 from ⟨HX.out.1.gr gq1, HX.out.2.gr gq1⟩)
      clear cq sq gq1 gq HX g
      go_loopw [8, 31] (fun v i wr => ∃ (m a L : Nat) (b : Int), m ≤ l.length ∧ i = iv m ∧ v = iv L ∧ Gr w wr ∧ Hid (Blk wr R (bxF 0 0) 3 ∧ Blk wr (R + 1) (bxF a b) 3) ∧ Hid (BsE (bcV F ms) l k m a b L)) (fun _ i _ => l.length - (intOf i).toNat)
      case atStart => exact ⟨0, a, L, b, by omega, rfl, rfl, gwq, HX', HP⟩
      case round =>
        clear HX' HP gwq
        obtain ⟨m, a, L, b, hm, rfl, rfl, g, HX, HP⟩ := hrel
        by_cases hml : m < l.length
        · obtain ⟨z, hz⟩ : ∃ z, l[m]? = some z := ⟨_, List.getElem?_eq_getElem hml⟩
          obtain ⟨b1, o1, rfl, x0⟩ := (HL.out.gr g).rd.in_ hz
          have hzr := HR.out z (List.mem_of_getElem? hz)
          obtain ⟨p, rfl⟩ : ∃ p : Nat, z = p := ⟨z.toNat, by omega⟩
          have hp : p < 9 := by omega
          have HZ := hide hz
          have HSI := hide (fun w => single_any p w hp)
          have hKp : K ||| 2 ^ p < 512 := Nat.or_lt_two_pow (n := 9) hK (Nat.pow_lt_pow_right (by decide) hp)
          have W1 := u_orp hK hp
          have hOB := (HO.out.gr g).1
          have y0 := (HO.out.gr g).2 (K ||| 2 ^ p) hKp (HCk.out p hp)
          have hm0 : (0 : Int) ≤ (m : Int) := by omega
          have hm1 : (m : Int) < (l.length : Int) := by omega
          have HV := hide (show bcV F ms k (p : Int) = F (K ||| 2 ^ p) by unfold bcV; rw [HKE.out]; rfl)
          clear hz hzr
          generalize K ||| 2 ^ p = KP at *
          have hKP0 : (0 : Int) ≤ (KP : Int) := by omega
          have hKP1 : (KP : Int) < 512 := by omega
          generalize F KP = V at *
          have x1 := (HX.out.2.2 0 (by decide)).1
          have x2 := (HX.out.2.2 1 (by decide)).1
          have x3 := (HX.out.2.2 2 (by decide)).1
          have f1 := (HX.out.2.2 0 (by decide)).2
          have f2 := (HX.out.2.2 1 (by decide)).2
          have f3 := (HX.out.2.2 2 (by decide)).2
          have hRs := HX.out.2.1
          have hkm : k < ms.length := hkl
          by_cases hv : V < L
          · have hv' : decide (V < L) = true := decide_eq_true hv
            have HN := hide (show BsE (bcV F ms) l k (m + 1) k (p : Int) V from by
              have := bs_yes HP.out HZ.out (by rw [HV.out]; exact hv)
              rwa [HV.out] at this)
            clear hv
            go_upto_region 10 with fail
            have GC := @GrW.cell
            refine wp_region_grw _ (by kernel_rfl) (by kernel_rfl) (Gr.refl _) ?_
            repeat (go_big_quiet_step ((first | (go_at_call 17; exact quiet_grs (HSI.out _)))))
            refine wpQuiet_nil ?_
            intro wq hwq
            obtain ⟨gq, hwq'⟩ := hwq
            subst hwq'
            clear GC
            have gq1 := gq.gr
            generalize gq.w = wq at gq1 ⊢
            obtain ⟨Xq, Yq, cq, fq⟩ := gq1.use
            have sq := gq1.size
            (try simp only [World.size_alloc, World.size_setCell, World.heap_drewN] at sq)
            have HX' := hide (show Blk wq R (bxF 0 0) 3 ∧ Blk wq (R + 1) (bxF a b) 3 from ⟨HX.out.1.gr (by repeat (first | with_reducible exact Gr.refl _ | with_reducible assumption | with_reducible refine Gr.alloc ?_ _ | with_reducible refine Gr.drewN ?_ _ | with_reducible refine Gr.drew ?_ | with_reducible refine Gr.setCell ?_ (by first | (dsimp only; omega) | (simp only [World.size_alloc]; omega) | (with_reducible refine Gr.size ?_; (repeat (first | with_reducible exact Gr.refl _ | with_reducible assumption | with_reducible refine Gr.alloc ?_ _ | with_reducible refine Gr.drewN ?_ _ | with_reducible refine Gr.drew ?_ | with_reducible refine Gr.trans ?_ (by with_reducible assumption))); done)) _ | with_reducible refine Gr.trans ?_ (by with_reducible assumption))), HX.out.2.gr (by repeat (first | with_reducible exact Gr.refl _ | with_reducible assumption | with_reducible refine Gr.alloc ?_ _ | with_reducible refine Gr.drewN ?_ _ | with_reducible refine Gr.drew ?_ | with_reducible refine Gr.setCell ?_ (by first | (dsimp only; omega) | (simp only [World.size_alloc]; omega) | (with_reducible refine Gr.size ?_; (repeat (first | with_reducible exact Gr.refl _ | with_reducible assumption | with_reducible refine Gr.alloc ?_ _ | with_reducible refine Gr.drewN ?_ _ | with_reducible refine Gr.drew ?_ | with_reducible refine Gr.trans ?_ (by with_reducible assumption))); done)) _ | with_reducible refine Gr.trans ?_ (by with_reducible assumption)))⟩)
            have gwq : Gr w wq := g.trans (by repeat (first | with_reducible exact Gr.refl _ | with_reducible assumption | with_reducible refine Gr.alloc ?_ _ | with_reducible refine Gr.drewN ?_ _ | with_reducible refine Gr.drew ?_ | with_reducible refine Gr.setCell ?_ (by first | (dsimp only; omega) | (simp only [World.size_alloc]; omega) | (with_reducible refine Gr.size ?_; (repeat (first | with_reducible exact Gr.refl _ | with_reducible assumption | with_reducible refine Gr.alloc ?_ _ | with_reducible refine Gr.drewN ?_ _ | with_reducible refine Gr.drew ?_ | with_reducible refine Gr.trans ?_ (by with_reducible assumption))); done)) _ | with_reducible refine Gr.trans ?_ (by with_reducible assumption)))
            have hw1 : w.heap.size ≤ R + 1 := by omega
            have HB2 := hide (show Blk (((wq.setCell ⟨R + 1, 0, none⟩ (.int .i64 0)).setCell ⟨R + 1, 1, none⟩ (.int .i64 (k : Int))).setCell ⟨R + 1, 2, none⟩ (.int .i64 (p : Int))) (R + 1) (bxF k p) 3 from
              blk_congr (Blk.set (k := 2) (Blk.set (k := 1) (Blk.set (k := 0) HX'.out.2 (.int .i64 0) rfl (by decide)) (.int .i64 (k : Int)) rfl (by decide)) (.int .i64 (p : Int)) rfl (by decide)) fun i hi => by
                rcases (by omega : i = 0 ∨ i = 1 ∨ i = 2) with rfl | rfl | rfl <;> rfl)
            have HB1 := hide (blk_far (blk_far (blk_far HX'.out.1 (R + 1) 0 (.int .i64 0) (by omega)) (R + 1) 1 (.int .i64 (k : Int)) (by omega)) (R + 1) 2 (.int .i64 (p : Int)) (by omega))
            go_wp2
            go_roundw
            case rel => exact ⟨m + 1, k, V, p, by omega, by go_num, rfl, Gr.setCell (Gr.setCell (Gr.setCell gwq hw1 _) hw1 _) hw1 _, hide ⟨HB1.out, HB2.out⟩, HN⟩
            case measure => simp only [intOf]; omega
          · have hv' : decide (V < L) = false := decide_eq_false hv
            have HN := hide (bs_no HP.out HZ.out (by rw [HV.out]; exact hv))
            clear hv
            go_upto_region 10 with fail
            have GC := @GrW.cell
            refine wp_region_grw _ (by kernel_rfl) (by kernel_rfl) (Gr.refl _) ?_
            repeat (go_big_quiet_step ((first | (go_at_call 17; exact quiet_grs (HSI.out _)))))
            refine wpQuiet_nil ?_
            intro wq hwq
            obtain ⟨gq, hwq'⟩ := hwq
            subst hwq'
            clear GC
            have gq1 := gq.gr
            generalize gq.w = wq at gq1 ⊢
            obtain ⟨Xq, Yq, cq, fq⟩ := gq1.use
            have sq := gq1.size
            (try simp only [World.size_alloc, World.size_setCell, World.heap_drewN] at sq)
            go_wp2
            go_roundw
            case rel => exact ⟨m + 1, a, L, b, by omega, by go_num, rfl, g.trans (by repeat (first | with_reducible exact Gr.refl _ | with_reducible assumption | with_reducible refine Gr.alloc ?_ _ | with_reducible refine Gr.drewN ?_ _ | with_reducible refine Gr.drew ?_ | with_reducible refine Gr.setCell ?_ (by first | (dsimp only; omega) | (simp only [World.size_alloc]; omega) | (with_reducible refine Gr.size ?_; (repeat (first | with_reducible exact Gr.refl _ | with_reducible assumption | with_reducible refine Gr.alloc ?_ _ | with_reducible refine Gr.drewN ?_ _ | with_reducible refine Gr.drew ?_ | with_reducible refine Gr.trans ?_ (by with_reducible assumption))); done)) _ | with_reducible refine Gr.trans ?_ (by with_reducible assumption))), hide ⟨Blk.gr HX.out.1 (by repeat (first | with_reducible exact Gr.refl _ | with_reducible assumption | with_reducible refine Gr.alloc ?_ _ | with_reducible refine Gr.drewN ?_ _ | with_reducible refine Gr.drew ?_ | with_reducible refine Gr.setCell ?_ (by first | (dsimp only; omega) | (simp only [World.size_alloc]; omega) | (with_reducible refine Gr.size ?_; (repeat (first | with_reducible exact Gr.refl _ | with_reducible assumption | with_reducible refine Gr.alloc ?_ _ | with_reducible refine Gr.drewN ?_ _ | with_reducible refine Gr.drew ?_ | with_reducible refine Gr.trans ?_ (by with_reducible assumption))); done)) _ | with_reducible refine Gr.trans ?_ (by with_reducible assumption))), Blk.gr HX.out.2 (by repeat (first | with_reducible exact Gr.refl _ | with_reducible assumption | with_reducible refine Gr.alloc ?_ _ | with_reducible refine Gr.drewN ?_ _ | with_reducible refine Gr.drew ?_ | with_reducible refine Gr.setCell ?_ (by first | (dsimp only; omega) | (simp only [World.size_alloc]; omega) | (with_reducible refine Gr.size ?_; (repeat (first | with_reducible exact Gr.refl _ | with_reducible assumption | with_reducible refine Gr.alloc ?_ _ | with_reducible refine Gr.drewN ?_ _ | with_reducible refine Gr.drew ?_ | with_reducible refine Gr.trans ?_ (by with_reducible assumption))); done)) _ | with_reducible refine Gr.trans ?_ (by with_reducible assumption)))⟩, HN⟩
            case measure => simp only [intOf]; omega
        · obtain rfl : m = l.length := by omega
          have HN := hide (bs_next HP.out)
          go_wp2
          go_roundw
          case rel => exact ⟨k + 1, a, L, b, by omega, by go_num, rfl, g, HX, HN⟩
          case measure => simp only [intOf]; omega
    · obtain rfl : k = ms.length := by omega
      have HE := hide (bs_get HP.out)
      have x0 := (HX.out.2.2 0 (by decide)).1
      have x1 := (HX.out.2.2 1 (by decide)).1
      have x2 := (HX.out.2.2 2 (by decide)).1
      have y0 := (HX.out.1.2 0 (by decide)).1
      have y1 := (HX.out.1.2 1 (by decide)).1
      have y2 := (HX.out.1.2 2 (by decide)).1
      have f0 := (HX.out.1.2 0 (by decide)).2
      have f1 := (HX.out.1.2 1 (by decide)).2
      have f2 := (HX.out.1.2 2 (by decide)).2
      have hR := HX.out.1.1
      simp only [show bxF a b 0 = iv 0 from rfl, show bxF a b 1 = iv a from rfl, show bxF a b 2 = iv b from rfl] at x0 x1 x2
      go_wp2
      refine bodyPost_ret (v := .agg #[iv 0, iv a, iv b]) (by simp [results, Try.results16, go_sem, *]) rfl ⟨by rw [← HE.out.1, ← HE.out.2], (by repeat (first | with_reducible exact Gr.refl _ | with_reducible assumption | with_reducible refine Gr.alloc ?_ _ | with_reducible refine Gr.drewN ?_ _ | with_reducible refine Gr.drew ?_ | with_reducible refine Gr.setCell ?_ (by first | (dsimp only; omega) | (simp only [World.size_alloc]; omega) | (with_reducible refine Gr.size ?_; (repeat (first | with_reducible exact Gr.refl _ | with_reducible assumption | with_reducible refine Gr.alloc ?_ _ | with_reducible refine Gr.drewN ?_ _ | with_reducible refine Gr.drew ?_ | with_reducible refine Gr.trans ?_ (by with_reducible assumption))); done)) _ | with_reducible refine Gr.trans ?_ (by with_reducible assumption)))⟩
end Go.Proofs.Ytfndhddnglcliaa
