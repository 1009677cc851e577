/-
  What the top statement of setups needs, plainly; its literals.
  The top law of setups.
-/
import Derived.Test.YtfndhddnglcliaaBst5
import Derived.Test.YtfndhddnglcliaaPln5
import Derived.Test.YtfndhddnglcliaaSb29
import Derived.Test.YtfndhddnglcliaaSb25
set_option linter.unusedVariables false
set_option linter.unusedSimpArgs false
namespace Go.Proofs.Ytfndhddnglcliaa
set_option linter.unusedVariables false
set_option linter.unusedSimpArgs false
open Go Go.ChangeShapes Go.WideShapes Go.ChangeAt Go.RowKit Go.Deep

/-- one need of one pair, where it lies -/
def oNs (h : Nat) : List Nd := [⟨some ⟨h, 0, none⟩, 1, [0]⟩]
abbrev oW (w : World) : World := (w.alloc (Obj.cells #[Value.int IntKind.i64 0] 3)).alloc (Obj.cells #[Value.slice (some { block := w.heap.size, off := 0 }) 1 1] 30)
theorem oSl (w : World) : SlN (oW w) (some ⟨w.heap.size + 1, 0, none⟩) 1 (oNs w.heap.size) := by
  refine ⟨fun i x hx => ⟨w.heap.size + 1, 0, rfl, ?_⟩, ?_, by simp [oNs], by decide⟩
  · have hi : i < 1 := (List.getElem?_eq_some_iff.1 hx).1
    obtain rfl : i = 0 := by omega
    simp [oNs] at hx
    subst hx
    exact ⟨by simp [go_sem], trivial⟩
  · intro x hx
    simp only [oNs, List.mem_cons, List.not_mem_nil, or_false] at hx
    subst hx
    refine one_sli ?_
    simp [go_sem]
theorem oE (h : Nat) : chE (oNs h) 1 = 0 := rfl
theorem oO : LS.outl 1 [1] 0 = 1 := by decide +kernel
theorem oL (h : Nat) : leN (oNs h) 1 = 1 := by
  unfold leN
  rw [if_pos (oE h)]
  exact oO
/-- two jobs, the second without steps -/
def tJ (A : Option Addr) (c : Nat) (ns : List Nd) : List Jb := [⟨A, c, ns⟩, ⟨none, 0, []⟩]
theorem sln_nil (w : World) : SlN w none 0 [] := ⟨fun i x hx => by simp at hx, fun x hx => by simp at hx, by simp, by decide⟩
theorem tSl {A : Option Addr} {c : Nat} {ns : List Nd} (w : World) (t : TypeId) (h : SlN w A c ns) : SlJ (w.alloc (.cells #[.slice A ns.length c, .slice none 0 0] t)) (some ⟨w.heap.size, 0, none⟩) 2 (tJ A c ns) := by
  refine ⟨fun i x hx => ⟨w.heap.size, 0, rfl, ?_⟩, ?_, by simp [tJ], by decide⟩
  · have hi : i < 2 := (List.getElem?_eq_some_iff.1 hx).1
    rcases (by omega : i = 0 ∨ i = 1) with rfl | rfl <;> (simp [tJ] at hx; subst hx; exact ⟨by simp [go_sem], trivial⟩)
  · intro x hx
    simp only [tJ, List.mem_cons, List.not_mem_nil, or_false] at hx
    rcases hx with rfl | rfl
    · exact h.gr (Gr.alloc (Gr.refl _) _)
    · exact sln_nil _
theorem tJ_best {A : Option Addr} {c : Nat} {ns : List Nd} {s : Int} (h0 : chE ns s = 0) (hlg : lgB ns = false) : wdB (tJ A c ns) = false ∧ beE (tJ A c ns) s = 0 ∧ beN (tJ A c ns) s = leN ns s ∧ (beL (tJ A c ns) s).length = 2 := by
  obtain ⟨h2, h3⟩ := chE_ok h0
  obtain ⟨b4, b5⟩ := wiB_iff.1 h3
  obtain ⟨hlen, hB⟩ := vaE_ok h2
  obtain ⟨q, rfl⟩ : ∃ q : Nat, s = q := ⟨s.toNat, by omega⟩
  have hw : wdB (tJ A c ns) = false := by
    unfold wdB tJ
    simp only [List.length_cons, List.length_nil, List.any_cons, List.any_nil, hlg, Bool.or_false]
    rfl
  have hj : joE (tJ A c ns) = 0 := by
    unfold joE
    rw [if_neg (by simp [tJ])]
    unfold tJ
    rw [joF_go h2, joF_go (by rfl)]
    rfl
  have ht : toN (tJ A c ns) = ns.length := by simp [toN, tJ]
  have hE : beE (tJ A c ns) (q : Int) = 0 := beE_4 hj h3 (by omega)
  obtain ⟨p1, p2, _⟩ := bsR_ok (js := tJ A c ns) (q := q) hj (by omega) (by omega)
  have hm := exts_mem p1 (by simp [tJ]) (tJ A c ns).length 0 (by omega)
  rw [List.take_zero] at hm
  have hm' : (bsR (tJ A c ns) q).1 ∈ [[(0 : Int), 1], [1, 0]] := hm
  have hjn : jnL (tJ A c ns) (bsR (tJ A c ns) q).1 = ns.map (·.l) := by
    simp only [List.mem_cons, List.not_mem_nil, or_false] at hm'
    rcases hm' with e | e <;> rw [e] <;> simp [jnL, jnF, tJ]
  have hle : (bsR (tJ A c ns) q).2 = leN ns (q : Int) := by
    rw [p2, hjn]
    unfold leR leN
    rw [if_pos h0, Int.toNat_natCast, ← mks_R rfl]
  refine ⟨hw, hE, ?_, ?_⟩
  · unfold beN
    rw [if_pos hE]
    exact hle
  · unfold beL
    rw [if_pos hE]
    exact (pmB_iff.1 p1).1
end Go.Proofs.Ytfndhddnglcliaa
namespace Go.Proofs.Ytfndhddnglcliaa
open Go Go.ChangeShapes Go.WideShapes Go.ChangeAt Go.RowKit Go.Deep

set_option maxRecDepth 100000 in
set_option maxHeartbeats 4000000 in
theorem topsetups_walk (A : Option Addr) (c : Nat) (ns : List Nd) (s : Int) (B : Option Addr) (d : Nat) (l : List Chg) (X : Option Addr) (dw : Nat) (ws : List Wd) (w : World) (hl : SlN w A c ns) (hp : SlC w B d l) (hw : SlW w X dw ws) :
    Calls Try.prog 3 #[rgv A ns.length c s, .slice B l.length d, .slice X ws.length dw] w fun e w' => e = .returned (.bool true) ∧ Gr w w' := by
  have m1 := hp.cap
  have m2 := hp.capB
  have m3 := hw.cap
  have m4 := hw.capB
  have m5 := hl.cap
  have m6 := hl.capB
  have HO := hide (fun w => by have := Least_any _ _ _ 1 _ (oSl w); rw [oE, oL] at this; exact this)
  have HLG := hide (fun (w' : World) (g : Gr w w') => long_any A c ns w' (hl.gr g))
  have HL := hide hl
  have HP := hide hp
  have HW := hide hw
  cases hlg : lgB ns with
  | true =>
    rw [hlg] at HLG
    clear hl hp hw
    go_enter Try.func3, Try.ntmps3
    go_upto_region 1 with fail
    have GC := @GrW.cell
    refine wp_region_grw _ (by kernel_rfl) (by kernel_rfl) (Gr.refl _) ?_
    repeat (go_big_quiet_step ((first | fail)))
    refine wpQuiet_nil ?_
    intro wq hwq
    obtain ⟨gq, hwq'⟩ := hwq
    subst hwq'
    clear GC
    have gq1 := gq.gr
    generalize gq.w = wq at gq1 ⊢
    obtain ⟨Xq, Yq, cq, fq⟩ := gq1.use
    have sq := gq1.size
    (try simp only [World.size_alloc, World.size_setCell, World.heap_drewN] at sq)
    go_wp2_with fail
    refine (HO.out _).mono ?_
    rintro e w1 ⟨rfl, g1⟩
    have gw1 : Gr w w1 := Gr.trans (by repeat (first | with_reducible exact Gr.refl _ | with_reducible assumption | with_reducible refine Gr.alloc ?_ _ | with_reducible refine Gr.drewN ?_ _ | with_reducible refine Gr.drew ?_ | with_reducible refine Gr.setCell ?_ (by first | (dsimp only; omega) | (simp only [World.size_alloc]; omega) | (with_reducible refine Gr.size ?_; (repeat (first | with_reducible exact Gr.refl _ | with_reducible assumption | with_reducible refine Gr.alloc ?_ _ | with_reducible refine Gr.drewN ?_ _ | with_reducible refine Gr.drew ?_ | with_reducible refine Gr.trans ?_ (by with_reducible assumption))); done)) _ | with_reducible refine Gr.trans ?_ (by with_reducible assumption))) g1
    go_wp2_with (first | (go_at_call 5; refine (HLG.out _ gw1).mono ?_; rintro e w1 ⟨rfl, rfl⟩))
    go_ret
    exact ⟨rfl, gw1⟩
  | false =>
    rw [hlg] at HLG
    by_cases h12 : 12 < ns.length
    · clear hl hp hw
      go_enter Try.func3, Try.ntmps3
      go_upto_region 1 with fail
      have GC := @GrW.cell
      refine wp_region_grw _ (by kernel_rfl) (by kernel_rfl) (Gr.refl _) ?_
      repeat (go_big_quiet_step ((first | fail)))
      refine wpQuiet_nil ?_
      intro wq hwq
      obtain ⟨gq, hwq'⟩ := hwq
      subst hwq'
      clear GC
      have gq1 := gq.gr
      generalize gq.w = wq at gq1 ⊢
      obtain ⟨Xq, Yq, cq, fq⟩ := gq1.use
      have sq := gq1.size
      (try simp only [World.size_alloc, World.size_setCell, World.heap_drewN] at sq)
      go_wp2_with fail
      refine (HO.out _).mono ?_
      rintro e w1 ⟨rfl, g1⟩
      have gw1 : Gr w w1 := Gr.trans (by repeat (first | with_reducible exact Gr.refl _ | with_reducible assumption | with_reducible refine Gr.alloc ?_ _ | with_reducible refine Gr.drewN ?_ _ | with_reducible refine Gr.drew ?_ | with_reducible refine Gr.setCell ?_ (by first | (dsimp only; omega) | (simp only [World.size_alloc]; omega) | (with_reducible refine Gr.size ?_; (repeat (first | with_reducible exact Gr.refl _ | with_reducible assumption | with_reducible refine Gr.alloc ?_ _ | with_reducible refine Gr.drewN ?_ _ | with_reducible refine Gr.drew ?_ | with_reducible refine Gr.trans ?_ (by with_reducible assumption))); done)) _ | with_reducible refine Gr.trans ?_ (by with_reducible assumption))) g1
      go_wp2_with (first | (go_at_call 5; refine (HLG.out _ gw1).mono ?_; rintro e w1 ⟨rfl, rfl⟩))
      go_ret
      exact ⟨rfl, gw1⟩
    · by_cases h60 : 60 < l.length
      · clear hl hp hw
        go_enter Try.func3, Try.ntmps3
        go_upto_region 1 with fail
        have GC := @GrW.cell
        refine wp_region_grw _ (by kernel_rfl) (by kernel_rfl) (Gr.refl _) ?_
        repeat (go_big_quiet_step ((first | fail)))
        refine wpQuiet_nil ?_
        intro wq hwq
        obtain ⟨gq, hwq'⟩ := hwq
        subst hwq'
        clear GC
        have gq1 := gq.gr
        generalize gq.w = wq at gq1 ⊢
        obtain ⟨Xq, Yq, cq, fq⟩ := gq1.use
        have sq := gq1.size
        (try simp only [World.size_alloc, World.size_setCell, World.heap_drewN] at sq)
        go_wp2_with fail
        refine (HO.out _).mono ?_
        rintro e w1 ⟨rfl, g1⟩
        have gw1 : Gr w w1 := Gr.trans (by repeat (first | with_reducible exact Gr.refl _ | with_reducible assumption | with_reducible refine Gr.alloc ?_ _ | with_reducible refine Gr.drewN ?_ _ | with_reducible refine Gr.drew ?_ | with_reducible refine Gr.setCell ?_ (by first | (dsimp only; omega) | (simp only [World.size_alloc]; omega) | (with_reducible refine Gr.size ?_; (repeat (first | with_reducible exact Gr.refl _ | with_reducible assumption | with_reducible refine Gr.alloc ?_ _ | with_reducible refine Gr.drewN ?_ _ | with_reducible refine Gr.drew ?_ | with_reducible refine Gr.trans ?_ (by with_reducible assumption))); done)) _ | with_reducible refine Gr.trans ?_ (by with_reducible assumption))) g1
        go_wp2_with (first | (go_at_call 5; refine (HLG.out _ gw1).mono ?_; rintro e w1 ⟨rfl, rfl⟩))
        go_ret
        exact ⟨rfl, gw1⟩
      · by_cases h40 : 40 < ws.length
        · clear hl hp hw
          go_enter Try.func3, Try.ntmps3
          go_upto_region 1 with fail
          have GC := @GrW.cell
          refine wp_region_grw _ (by kernel_rfl) (by kernel_rfl) (Gr.refl _) ?_
          repeat (go_big_quiet_step ((first | fail)))
          refine wpQuiet_nil ?_
          intro wq hwq
          obtain ⟨gq, hwq'⟩ := hwq
          subst hwq'
          clear GC
          have gq1 := gq.gr
          generalize gq.w = wq at gq1 ⊢
          obtain ⟨Xq, Yq, cq, fq⟩ := gq1.use
          have sq := gq1.size
          (try simp only [World.size_alloc, World.size_setCell, World.heap_drewN] at sq)
          go_wp2_with fail
          refine (HO.out _).mono ?_
          rintro e w1 ⟨rfl, g1⟩
          have gw1 : Gr w w1 := Gr.trans (by repeat (first | with_reducible exact Gr.refl _ | with_reducible assumption | with_reducible refine Gr.alloc ?_ _ | with_reducible refine Gr.drewN ?_ _ | with_reducible refine Gr.drew ?_ | with_reducible refine Gr.setCell ?_ (by first | (dsimp only; omega) | (simp only [World.size_alloc]; omega) | (with_reducible refine Gr.size ?_; (repeat (first | with_reducible exact Gr.refl _ | with_reducible assumption | with_reducible refine Gr.alloc ?_ _ | with_reducible refine Gr.drewN ?_ _ | with_reducible refine Gr.drew ?_ | with_reducible refine Gr.trans ?_ (by with_reducible assumption))); done)) _ | with_reducible refine Gr.trans ?_ (by with_reducible assumption))) g1
          go_wp2_with (first | (go_at_call 5; refine (HLG.out _ gw1).mono ?_; rintro e w1 ⟨rfl, rfl⟩))
          go_ret
          exact ⟨rfl, gw1⟩
        · have HN := hide (fun (w' : World) (g : Gr w w') => Least_any A c ns s w' (hl.gr g))
          have HPL := hide (fun (w' : World) (g : Gr w w') => Plan_any A c ns s w' (hl.gr g))
          by_cases h0 : chE ns s = 0
          · have HPP := hide (fun (L : List Chg) (h : PlnP ns s L) => show L.length = leN ns s ∧ ckE ns s L = 0 from by have := h.2; rwa [if_pos h0] at this)
            have HCB := hide (fun (w' : World) (g : Gr w w') => CheckBound_any A X c dw ns s ws w' (hl.gr g) (hw.gr g) (by omega))
            have HBD := hide (fun (w' : World) (g : Gr w w') => Bound_any A c ns s w' (hl.gr g))
            have hLl : (bdL ns s).length ≤ 24 := by
              unfold bdL
              rw [if_pos h0]
              have := fdL_len (mks ns) s.toNat ns.length
              have := (vaE_ok (chE_ok h0).1).1
              omega
            have HCO := hide (fun (A' : Option Addr) (d' : Nat) (w' : World) (g : Gr w w') (h : SlW w' A' d' (bdL ns s)) => CheckBound_any A A' c d' ns s (bdL ns s) w' (hl.gr g) h (by omega))
            have HMA : Hid (cbE ns s (bdL ns s) = 0 ∧ cbV ns s (bdL ns s) ≤ leN ns s) := hide (by
              obtain ⟨b4, b5⟩ := wiB_iff.1 (chE_ok h0).2
              obtain ⟨q, rfl⟩ : ∃ q : Nat, s = q := ⟨s.toNat, by omega⟩
              have e : bdL ns (q : Int) = fdL (mks ns) q ns.length := by unfold bdL; rw [if_pos h0]; rfl
              rw [e]
              have hc := fd_cb h0
              exact ⟨hc, (cb_le hc).1⟩)
            have HCK := hide (fun (A' : Option Addr) (d' : Nat) (L : List Chg) (w' : World) (g : Gr w w') (h : SlC w' A' d' L) => Check_any A A' c d' ns s L w' (hl.gr g) h)
            have HKL := hide (fun (w' : World) (g : Gr w w') => Check_any A B c d ns s l w' (hl.gr g) (hp.gr g))
            have HWN := hide (fun (h : cbE ns s ws = 0) => (cb_le h).1)
            have HLN := hide (fun (h : ckE ns s l = 0) => (no_fewer h).1)
            obtain ⟨t1, t2, t3, t4⟩ := tJ_best (A := A) (c := c) h0 hlg
            have HBE := hide (fun (w' : World) (g : Gr w w') => show Calls Try.prog 10 #[.slice (some ⟨w'.heap.size, 0, none⟩) 2 2, iv s] (w'.alloc (.cells #[.slice A ns.length c, .slice none 0 0] 22)) (fun e w'' => ∃ A' d, e = .returned (bev (.slice A' (beL (tJ A c ns) s).length d) (beN (tJ A c ns) s) (beE (tJ A c ns) s)) ∧ SlI w'' A' d (beL (tJ A c ns) s) ∧ Gr (w'.alloc (.cells #[.slice A ns.length c, .slice none 0 0] 22)) w'') from Best_any _ _ (tJ A c ns) s _ (tSl w' 22 (hl.gr g)) t1)
            have hV2 := HMA.out.2
            have hd : ((cbE ns s ws == 0) = true ∧ decide (cbV ns s ws > (leN ns s : Int)) = false ∧ (ckE ns s l == 0) = true ∧ decide (l.length < leN ns s) = false ∧ decide ((l.length : Int) < cbV ns s ws) = false) ∨ ((cbE ns s ws == 0) = true ∧ decide (cbV ns s ws > (leN ns s : Int)) = false ∧ (ckE ns s l == 0) = false ∧ True ∧ True) ∨
                ((cbE ns s ws == 0) = false ∧ True ∧ (ckE ns s l == 0) = true ∧ decide (l.length < leN ns s) = false ∧ True) ∨ ((cbE ns s ws == 0) = false ∧ True ∧ (ckE ns s l == 0) = false ∧ True ∧ True) := by
              have a1 := HWN.out
              have a2 := HLN.out
              by_cases e1 : cbE ns s ws = 0
              · have a3 := a1 e1
                by_cases e2 : ckE ns s l = 0
                · have a4 := a2 e2
                  exact .inl ⟨by simpa using e1, by rw [decide_eq_false_iff_not]; omega, by simpa using e2, by rw [decide_eq_false_iff_not]; omega, by rw [decide_eq_false_iff_not]; omega⟩
                · exact .inr (.inl ⟨by simpa using e1, by rw [decide_eq_false_iff_not]; omega, by simpa using e2, trivial, trivial⟩)
              · by_cases e2 : ckE ns s l = 0
                · have a4 := a2 e2
                  exact .inr (.inr (.inl ⟨by simpa using e1, trivial, by simpa using e2, by rw [decide_eq_false_iff_not]; omega, trivial⟩))
                · exact .inr (.inr (.inr ⟨by simpa using e1, trivial, by simpa using e2, trivial, trivial⟩))
            have dV2 : decide (cbV ns s (bdL ns s) > (leN ns s : Int)) = false := by rw [decide_eq_false_iff_not]; omega
            rw [HMA.out.1] at HCO
            rw [t2, t3, t4] at HBE
            rw [h0] at HN HPL HBD
            clear hl hp hw h0 hlg t1 t2 t3 t4 HMA HWN HLN hV2
            generalize cbV ns s (bdL ns s) = V2 at *
            generalize bdL ns s = D at *
            generalize cbE ns s ws = E1 at *
            generalize cbV ns s ws = V1 at *
            generalize ckE ns s l = K at *
            generalize leN ns s = n at *
            generalize beL (tJ A c ns) s = BL at *
            rcases hd with ⟨k1, k2, k3, k4, k5⟩ | ⟨k1, k2, k3, k4, k5⟩ | ⟨k1, k2, k3, k4, k5⟩ | ⟨k1, k2, k3, k4, k5⟩
            all_goals
              go_enter Try.func3, Try.ntmps3
              go_upto_region 1 with fail
              have GC := @GrW.cell
              refine wp_region_grw _ (by kernel_rfl) (by kernel_rfl) (Gr.refl _) ?_
              repeat (go_big_quiet_step ((first | fail)))
              refine wpQuiet_nil ?_
              intro wq hwq
              obtain ⟨gq, hwq'⟩ := hwq
              subst hwq'
              clear GC
              have gq1 := gq.gr
              generalize gq.w = wq at gq1 ⊢
              obtain ⟨Xq, Yq, cq, fq⟩ := gq1.use
              have sq := gq1.size
              (try simp only [World.size_alloc, World.size_setCell, World.heap_drewN] at sq)
              go_wp2_with fail
              refine (HO.out _).mono ?_
              rintro e w1 ⟨rfl, g1⟩
              have gw1 : Gr w w1 := Gr.trans (by repeat (first | with_reducible exact Gr.refl _ | with_reducible assumption | with_reducible refine Gr.alloc ?_ _ | with_reducible refine Gr.drewN ?_ _ | with_reducible refine Gr.drew ?_ | with_reducible refine Gr.setCell ?_ (by first | (dsimp only; omega) | (simp only [World.size_alloc]; omega) | (with_reducible refine Gr.size ?_; (repeat (first | with_reducible exact Gr.refl _ | with_reducible assumption | with_reducible refine Gr.alloc ?_ _ | with_reducible refine Gr.drewN ?_ _ | with_reducible refine Gr.drew ?_ | with_reducible refine Gr.trans ?_ (by with_reducible assumption))); done)) _ | with_reducible refine Gr.trans ?_ (by with_reducible assumption))) g1
              clear g1 gq1 cq fq sq
              go_wp2_with (first | (go_at_call 5; refine (HLG.out _ gw1).mono ?_; rintro e w1 ⟨rfl, rfl⟩) | fail)
              refine (HN.out _ gw1).mono ?_
              rintro e w2 ⟨rfl, g2⟩
              have gw2 : Gr w w2 := gw1.trans g2
              go_wp2_with fail
              refine (HPL.out _ gw2).mono ?_
              rintro e w3 ⟨A3, d3, L, rfl, s3, hP, g3⟩
              obtain ⟨hLn, hLk⟩ := HPP.out L hP
              have S3 := hide s3
              have b31 := s3.cap
              have gw3 : Gr w w3 := gw2.trans g3
              clear s3 hP g2 gw2 g3
              go_wp2_with fail
              refine (HCB.out _ gw3).mono ?_
              rintro e w4 ⟨rfl, g4⟩
              have gw4 : Gr w w4 := gw3.trans g4
              go_wp2_with fail
              refine (HBD.out _ gw4).mono ?_
              rintro e w5 ⟨A5, d5, rfl, s5, g5⟩
              have gw5 : Gr w w5 := gw4.trans g5
              have HC5 := hide (HCO.out A5 d5 w5 gw5 s5)
              clear s5
              go_wp2_with fail
              refine HC5.out.mono ?_
              rintro e w6 ⟨rfl, g6⟩
              have gw6 : Gr w w6 := gw5.trans g6
              have HC6 := hide (HCK.out A3 d3 L w6 gw6 (S3.out.gr (g4.trans (g5.trans g6))))
              rw [hLk] at HC6
              subst hLn
              have hLn' : ((L.length : Int) != (L.length : Int)) = false := by simp
              clear hLk g4 g5 g6 gw3 gw4 gw5
              go_wp2_with fail
              refine HC6.out.mono ?_
              rintro e w7 ⟨rfl, g7⟩
              have gw7 : Gr w w7 := gw6.trans g7
              have HC7 := hide (HKL.out w7 gw7)
              clear g7 gw6
              go_wp2_with fail
              refine HC7.out.mono ?_
              rintro e w8 ⟨rfl, g8⟩
              have gw8 : Gr w w8 := gw7.trans g8
              have HB8 := hide (HBE.out w8 gw8)
              clear g8 gw7
              go_wp2_with fail
              refine HB8.out.mono ?_
              rintro e w9 ⟨A9, d9, rfl, s9, g9⟩
              have gw9 : Gr w w9 := gw8.trans (Gr.trans (Gr.alloc (Gr.refl _) _) g9)
              clear s9 g9
              go_wp2
              go_ret
              exact ⟨rfl, gw9⟩
          · have HPP := hide (fun (L : List Chg) (h : PlnP ns s L) => show L = [] from by have := h.2; rwa [if_neg h0] at this)
            have hn0 : leN ns s = 0 := by unfold leN; rw [if_neg h0]
            rw [hn0] at HN
            have h1 : (chE ns s != 0) = true := by simpa using h0
            have hxx : (chE ns s != chE ns s) = false := by simp
            generalize chE ns s = E at *
            clear hl hp hw h0 hn0
            go_enter Try.func3, Try.ntmps3
            go_upto_region 1 with fail
            have GC := @GrW.cell
            refine wp_region_grw _ (by kernel_rfl) (by kernel_rfl) (Gr.refl _) ?_
            repeat (go_big_quiet_step ((first | fail)))
            refine wpQuiet_nil ?_
            intro wq hwq
            obtain ⟨gq, hwq'⟩ := hwq
            subst hwq'
            clear GC
            have gq1 := gq.gr
            generalize gq.w = wq at gq1 ⊢
            obtain ⟨Xq, Yq, cq, fq⟩ := gq1.use
            have sq := gq1.size
            (try simp only [World.size_alloc, World.size_setCell, World.heap_drewN] at sq)
            go_wp2_with fail
            refine (HO.out _).mono ?_
            rintro e w1 ⟨rfl, g1⟩
            have gw1 : Gr w w1 := Gr.trans (by repeat (first | with_reducible exact Gr.refl _ | with_reducible assumption | with_reducible refine Gr.alloc ?_ _ | with_reducible refine Gr.drewN ?_ _ | with_reducible refine Gr.drew ?_ | with_reducible refine Gr.setCell ?_ (by first | (dsimp only; omega) | (simp only [World.size_alloc]; omega) | (with_reducible refine Gr.size ?_; (repeat (first | with_reducible exact Gr.refl _ | with_reducible assumption | with_reducible refine Gr.alloc ?_ _ | with_reducible refine Gr.drewN ?_ _ | with_reducible refine Gr.drew ?_ | with_reducible refine Gr.trans ?_ (by with_reducible assumption))); done)) _ | with_reducible refine Gr.trans ?_ (by with_reducible assumption))) g1
            clear g1
            go_wp2_with (first | (go_at_call 5; refine (HLG.out _ gw1).mono ?_; rintro e w1 ⟨rfl, rfl⟩) | fail)
            refine (HN.out _ gw1).mono ?_
            rintro e w2 ⟨rfl, g2⟩
            have gw2 : Gr w w2 := gw1.trans g2
            go_wp2_with fail
            refine (HPL.out _ gw2).mono ?_
            rintro e w3 ⟨A3, d3, L, rfl, s3, hP, g3⟩
            obtain rfl := HPP.out L hP
            have gw3 : Gr w w3 := gw2.trans g3
            clear s3 hP g2 g3
            go_wp2
            go_ret
            exact ⟨rfl, gw3⟩
end Go.Proofs.Ytfndhddnglcliaa
