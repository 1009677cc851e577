/-
  Best of the code.
-/
import Derived.Test.YtfndhddnglcliaaBst4
set_option linter.unusedVariables false
set_option linter.unusedSimpArgs false
namespace Go.Proofs.Ytfndhddnglcliaa
set_option linter.unusedVariables false
set_option linter.unusedSimpArgs false
open Go Go.ChangeShapes Go.WideShapes Go.ChangeAt Go.RowKit Go.Deep

abbrev bev (v : Value) (n e : Int) : Value := .tuple #[v, iv n, iv e]
theorem beE_1 {js : List Jb} {s : Int} (h : ¬ joE js = 0) : beE js s = joE js := by unfold beE; rw [if_pos h]
theorem beE_2 {js : List Jb} {s : Int} (h : joE js = 0) (k : wiB s 1 3 = false) : beE js s = 1 := by unfold beE; rw [if_neg (by simpa using h), if_pos k]
theorem beE_3 {js : List Jb} {s : Int} (h : joE js = 0) (k : wiB s 1 3 = true) (t : 24 < toN js) : beE js s = 4 := by unfold beE; rw [if_neg (by simpa using h), if_neg (by simp [k]), if_pos t]
theorem beE_4 {js : List Jb} {s : Int} (h : joE js = 0) (k : wiB s 1 3 = true) (t : ¬ 24 < toN js) : beE js s = 0 := by unfold beE; rw [if_neg (by simpa using h), if_neg (by simp [k]), if_neg t]
theorem be_bad {js : List Jb} {s : Int} (h : ¬ beE js s = 0) : beL js s = [] ∧ beN js s = 0 := by unfold beL beN; rw [if_neg h, if_neg h]; exact ⟨rfl, rfl⟩
set_option maxRecDepth 100000 in
set_option maxHeartbeats 2000000 in
theorem Best_any (A : Option Addr) (c : Nat) (js : List Jb) (s : Int) (w : World) (hj : SlJ w A c js) (hwd : wdB js = false) :
    Calls Try.prog 10 #[.slice A js.length c, iv s] w fun e w' => ∃ A' d, e = .returned (bev (.slice A' (beL js s).length d) (beN js s) (beE js s)) ∧ SlI w' A' d (beL js s) ∧ Gr w w' := by
  obtain ⟨hw1, hw2⟩ := wd_ok hwd
  have HV := hide (fun (w' : World) (g : Gr w w') => validateJobs_any A c js w' (hj.gr g))
  have HVS := hide (fun w' : World => validStations_any s w')
  have HCT := hide (fun (w' : World) (g : Gr w w') => countSteps_any A c js w' (hj.gr g) (by omega) (fun j hj => (hw2 j hj).1))
  have hB0 := hide (At1.new w (.slice A js.length c) 40)
  have hB1 := hide (show At1 ((w.alloc (.cells #[.slice A js.length c] 40)).alloc (.cells #[iv s] 3)) (w.heap.size + 1) (iv s) by
    have := At1.new (w.alloc (.cells #[.slice A js.length c] 40)) (iv s) 3
    rwa [World.size_alloc] at this)
  have hm := hmf
  have hT := toN_le (fun j hj => (hw2 j hj).1) js.length
  rw [List.take_length] at hT
  by_cases h0 : joE js = 0
  · have h4 := joE_len h0
    cases hws : wiB s 1 3 with
    | false =>
      have HE := hide (beE_2 h0 hws)
      have HB := hide (be_bad (js := js) (s := s) (by rw [HE.out]; decide))
      rw [h0] at HV
      rw [hws] at HVS
      rw [HE.out, HB.out.1, HB.out.2]
      clear h0 hws hj hwd hw2
      go_enter Try.func10, Try.ntmps10
      go_wp2_with (first | (go_at_call 23; refine (HV.out _ (by repeat (first | with_reducible exact Gr.refl _ | with_reducible assumption | with_reducible refine Gr.alloc ?_ _ | with_reducible refine Gr.drewN ?_ _ | with_reducible refine Gr.drew ?_ | with_reducible refine Gr.setCell ?_ (by first | (dsimp only; omega) | (simp only [World.size_alloc]; omega) | (with_reducible refine Gr.size ?_; (repeat (first | with_reducible exact Gr.refl _ | with_reducible assumption | with_reducible refine Gr.alloc ?_ _ | with_reducible refine Gr.drewN ?_ _ | with_reducible refine Gr.drew ?_ | with_reducible refine Gr.trans ?_ (by with_reducible assumption))); done)) _ | with_reducible refine Gr.trans ?_ (by with_reducible assumption)))).mono ?_; rintro e w1 ⟨rfl, rfl⟩) | (go_at_call 24; refine (HVS.out _).mono ?_; rintro e w1 ⟨rfl, rfl⟩))
      go_ret3
      exact ⟨none, 0, rfl, sli_nil _, (by repeat (first | with_reducible exact Gr.refl _ | with_reducible assumption | with_reducible refine Gr.alloc ?_ _ | with_reducible refine Gr.drewN ?_ _ | with_reducible refine Gr.drew ?_ | with_reducible refine Gr.setCell ?_ (by first | (dsimp only; omega) | (simp only [World.size_alloc]; omega) | (with_reducible refine Gr.size ?_; (repeat (first | with_reducible exact Gr.refl _ | with_reducible assumption | with_reducible refine Gr.alloc ?_ _ | with_reducible refine Gr.drewN ?_ _ | with_reducible refine Gr.drew ?_ | with_reducible refine Gr.trans ?_ (by with_reducible assumption))); done)) _ | with_reducible refine Gr.trans ?_ (by with_reducible assumption)))⟩
    | true =>
      by_cases ht : 24 < toN js
      · have HE := hide (beE_3 h0 hws ht)
        have HB := hide (be_bad (js := js) (s := s) (by rw [HE.out]; decide))
        have hd : decide ((toN js : Int) > 24) = true := by rw [decide_eq_true_eq]; omega
        rw [h0] at HV
        rw [hws] at HVS
        rw [HE.out, HB.out.1, HB.out.2]
        clear h0 hws hj hwd hw2
        go_enter Try.func10, Try.ntmps10
        go_wp2_with (first | (go_at_call 23; refine (HV.out _ (by repeat (first | with_reducible exact Gr.refl _ | with_reducible assumption | with_reducible refine Gr.alloc ?_ _ | with_reducible refine Gr.drewN ?_ _ | with_reducible refine Gr.drew ?_ | with_reducible refine Gr.setCell ?_ (by first | (dsimp only; omega) | (simp only [World.size_alloc]; omega) | (with_reducible refine Gr.size ?_; (repeat (first | with_reducible exact Gr.refl _ | with_reducible assumption | with_reducible refine Gr.alloc ?_ _ | with_reducible refine Gr.drewN ?_ _ | with_reducible refine Gr.drew ?_ | with_reducible refine Gr.trans ?_ (by with_reducible assumption))); done)) _ | with_reducible refine Gr.trans ?_ (by with_reducible assumption)))).mono ?_; rintro e w1 ⟨rfl, rfl⟩) | (go_at_call 24; refine (HVS.out _).mono ?_; rintro e w1 ⟨rfl, rfl⟩) | (go_at_call 25; refine (HCT.out _ (by repeat (first | with_reducible exact Gr.refl _ | with_reducible assumption | with_reducible refine Gr.alloc ?_ _ | with_reducible refine Gr.drewN ?_ _ | with_reducible refine Gr.drew ?_ | with_reducible refine Gr.setCell ?_ (by first | (dsimp only; omega) | (simp only [World.size_alloc]; omega) | (with_reducible refine Gr.size ?_; (repeat (first | with_reducible exact Gr.refl _ | with_reducible assumption | with_reducible refine Gr.alloc ?_ _ | with_reducible refine Gr.drewN ?_ _ | with_reducible refine Gr.drew ?_ | with_reducible refine Gr.trans ?_ (by with_reducible assumption))); done)) _ | with_reducible refine Gr.trans ?_ (by with_reducible assumption)))).mono ?_; rintro e w1 ⟨rfl, rfl⟩))
        go_ret3
        exact ⟨none, 0, rfl, sli_nil _, (by repeat (first | with_reducible exact Gr.refl _ | with_reducible assumption | with_reducible refine Gr.alloc ?_ _ | with_reducible refine Gr.drewN ?_ _ | with_reducible refine Gr.drew ?_ | with_reducible refine Gr.setCell ?_ (by first | (dsimp only; omega) | (simp only [World.size_alloc]; omega) | (with_reducible refine Gr.size ?_; (repeat (first | with_reducible exact Gr.refl _ | with_reducible assumption | with_reducible refine Gr.alloc ?_ _ | with_reducible refine Gr.drewN ?_ _ | with_reducible refine Gr.drew ?_ | with_reducible refine Gr.trans ?_ (by with_reducible assumption))); done)) _ | with_reducible refine Gr.trans ?_ (by with_reducible assumption)))⟩
      · have hq := wiB_iff.1 hws
        obtain ⟨q, rfl⟩ : ∃ q : Nat, s = q := ⟨s.toNat, by omega⟩
        have HE := hide (beE_4 h0 hws ht)
        have HB := hide (show beL js (q : Int) = (bsR js q).1 ∧ beN js (q : Int) = (bsR js q).2 by unfold beL beN; rw [if_pos HE.out, if_pos HE.out]; exact ⟨rfl, rfl⟩)
        have hd : decide ((toN js : Int) > 24) = false := by rw [decide_eq_false_iff_not]; omega
        have HPE := hide (fun bb bl (w' : World) hord h1 cj cs cl cb => permute_any w w.heap.size (w.heap.size + 1) bb bl A c js q w' hord h1 cj cs cl cb hj hwd h0 (by omega) (by omega))
        rw [h0] at HV
        rw [hws] at HVS
        rw [HE.out, HB.out.1, HB.out.2]
        clear h0 hws hj hwd hw2
        generalize bsR js q = R at *
        go_enter Try.func10, Try.ntmps10
        go_upto_region 10 with (first | (go_at_call 23; refine (HV.out _ (by repeat (first | with_reducible exact Gr.refl _ | with_reducible assumption | with_reducible refine Gr.alloc ?_ _ | with_reducible refine Gr.drewN ?_ _ | with_reducible refine Gr.drew ?_ | with_reducible refine Gr.setCell ?_ (by first | (dsimp only; omega) | (simp only [World.size_alloc]; omega) | (with_reducible refine Gr.size ?_; (repeat (first | with_reducible exact Gr.refl _ | with_reducible assumption | with_reducible refine Gr.alloc ?_ _ | with_reducible refine Gr.drewN ?_ _ | with_reducible refine Gr.drew ?_ | with_reducible refine Gr.trans ?_ (by with_reducible assumption))); done)) _ | with_reducible refine Gr.trans ?_ (by with_reducible assumption)))).mono ?_; rintro e w1 ⟨rfl, rfl⟩) | (go_at_call 24; refine (HVS.out _).mono ?_; rintro e w1 ⟨rfl, rfl⟩) | (go_at_call 25; refine (HCT.out _ (by repeat (first | with_reducible exact Gr.refl _ | with_reducible assumption | with_reducible refine Gr.alloc ?_ _ | with_reducible refine Gr.drewN ?_ _ | with_reducible refine Gr.drew ?_ | with_reducible refine Gr.setCell ?_ (by first | (dsimp only; omega) | (simp only [World.size_alloc]; omega) | (with_reducible refine Gr.size ?_; (repeat (first | with_reducible exact Gr.refl _ | with_reducible assumption | with_reducible refine Gr.alloc ?_ _ | with_reducible refine Gr.drewN ?_ _ | with_reducible refine Gr.drew ?_ | with_reducible refine Gr.trans ?_ (by with_reducible assumption))); done)) _ | with_reducible refine Gr.trans ?_ (by with_reducible assumption)))).mono ?_; rintro e w1 ⟨rfl, rfl⟩))
        have G1 : Gr w (w.alloc (.cells #[.slice A js.length c] 40)) := Gr.alloc (Gr.refl _) _
        have C2 := At1.new ((w.alloc (.cells #[.slice A js.length c] 40)).alloc (.cells #[iv q] 3)) (.slice none 0 0) 30
        have C3 := At1.new (((w.alloc (.cells #[.slice A js.length c] 40)).alloc (.cells #[iv q] 3)).alloc (.cells #[.slice none 0 0] 30)) (iv 25) 3
        simp only [World.size_alloc] at C2 C3
        have HC := hide (HPE.out (w.heap.size + 1 + 1) (w.heap.size + 1 + 1 + 1) ((((w.alloc (.cells #[.slice A js.length c] 40)).alloc (.cells #[iv q] 3)).alloc (.cells #[.slice none 0 0] 30)).alloc (.cells #[iv 25] 3)) (by omega) (Gr.alloc (Gr.alloc (Gr.alloc G1 _) _) _) (hB0.out.gr (Gr.alloc (Gr.alloc (Gr.alloc (Gr.refl _) _) _) _)) (hB1.out.gr (Gr.alloc (Gr.alloc (Gr.refl _) _) _)) C3 (C2.gr (Gr.alloc (Gr.refl _) _)))
        clear C2 C3 HPE G1
        go_wp2_with fail
        refine HC.out.mono ?_
        rintro e w5 ⟨rfl, g5, hl5, Ab, d5, hb5, hs5⟩
        have x1 := hl5.1
        have x2 := hb5.1
        have HS5 := hide hs5
        clear hl5 hb5 hs5 HC
        go_upto_region 11 with fail
        have GC := @GrW.cell
        refine wp_region_grw _ (by kernel_rfl) (by kernel_rfl) (Gr.refl _) ?_
        repeat (go_big_quiet_step ((first | fail)))
        refine wpQuiet_nil ?_
        intro wq hwq
        obtain ⟨gq, hwq'⟩ := hwq
        subst hwq'
        clear GC
        have gq1 := gq.gr
        generalize gq.w = wq at gq1 ⊢
        obtain ⟨Xq, Yq, cq, fq⟩ := gq1.use
        have sq := gq1.size
        (try simp only [World.size_alloc, World.size_setCell, World.heap_drewN] at sq)
        go_wp2
        go_ret3
        exact ⟨Ab, d5, rfl, HS5.out.gr gq1, g5.trans gq1⟩
  · have HE := hide (beE_1 (s := s) h0)
    have HB := hide (be_bad (js := js) (s := s) (by rw [HE.out]; exact h0))
    have h1 : (joE js != 0) = true := by simpa using h0
    rw [HE.out, HB.out.1, HB.out.2]
    generalize joE js = e0 at *
    clear h0 hj hwd hw2
    go_enter Try.func10, Try.ntmps10
    go_wp2_with (first | (go_at_call 23; refine (HV.out _ (by repeat (first | with_reducible exact Gr.refl _ | with_reducible assumption | with_reducible refine Gr.alloc ?_ _ | with_reducible refine Gr.drewN ?_ _ | with_reducible refine Gr.drew ?_ | with_reducible refine Gr.setCell ?_ (by first | (dsimp only; omega) | (simp only [World.size_alloc]; omega) | (with_reducible refine Gr.size ?_; (repeat (first | with_reducible exact Gr.refl _ | with_reducible assumption | with_reducible refine Gr.alloc ?_ _ | with_reducible refine Gr.drewN ?_ _ | with_reducible refine Gr.drew ?_ | with_reducible refine Gr.trans ?_ (by with_reducible assumption))); done)) _ | with_reducible refine Gr.trans ?_ (by with_reducible assumption)))).mono ?_; rintro e w1 ⟨rfl, rfl⟩))
    go_ret3
    exact ⟨none, 0, rfl, sli_nil _, (by repeat (first | with_reducible exact Gr.refl _ | with_reducible assumption | with_reducible refine Gr.alloc ?_ _ | with_reducible refine Gr.drewN ?_ _ | with_reducible refine Gr.drew ?_ | with_reducible refine Gr.setCell ?_ (by first | (dsimp only; omega) | (simp only [World.size_alloc]; omega) | (with_reducible refine Gr.size ?_; (repeat (first | with_reducible exact Gr.refl _ | with_reducible assumption | with_reducible refine Gr.alloc ?_ _ | with_reducible refine Gr.drewN ?_ _ | with_reducible refine Gr.drew ?_ | with_reducible refine Gr.trans ?_ (by with_reducible assumption))); done)) _ | with_reducible refine Gr.trans ?_ (by with_reducible assumption)))⟩
end Go.Proofs.Ytfndhddnglcliaa
