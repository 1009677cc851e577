/-
  The law of the best order: no order has fewer.
-/
import Derived.Test.YtjdiepnbchcnoaaBst7
set_option linter.unusedVariables false
set_option linter.unusedSimpArgs false
namespace Go.Proofs.Ytjdiepnbchcnoaa
set_option linter.unusedVariables false
set_option linter.unusedSimpArgs false
open Go Go.ChangeShapes Go.WideShapes Go.ChangeAt Go.RowKit Go.Deep

theorem jnE_ok {js : List Jb} {l : List Int} (h0 : joE js = 0) (ht : toN js ≤ 24) (hp : pmB l js.length = true) : jnE js l = 0 := by
  unfold jnE
  rw [if_neg (by simpa using h0), if_neg (by simp [hp]), if_neg (by omega)]
theorem jnE_pm {js : List Jb} {l : List Int} (h0 : joE js = 0) (h : jnE js l = 0) : pmB l js.length = true := by
  unfold jnE at h
  rw [if_neg (by simpa using h0)] at h
  cases hp : pmB l js.length with
  | true => rfl
  | false =>
    rw [if_pos hp] at h
    cases h
/-- Least of what is joined -/
theorem least_jn (A : Option Addr) (d : Nat) (js : List Jb) (l : List Int) (q : Nat) (xs : List Nd) (w : World) (h0 : joE js = 0) (ht : toN js ≤ 24) (hp : pmB l js.length = true) (hq : 1 ≤ q ∧ q ≤ 3) (hx : xs.map (·.l) = jnR js l) (hl : SlN w A d xs) :
    Calls Try.prog 8 #[.slice A xs.length d, iv q] w fun e w' => e = .returned (ierr (leR q (jnL js l)) 0) ∧ Gr w w' := by
  have hR : jnR js l = jnL js l := by unfold jnR; rw [jnE_ok h0 ht hp]; rfl
  rw [hR] at hx
  have hv := jn_ok h0 hp ht hx
  have hce : chE xs (q : Int) = 0 := by
    unfold chE
    rw [if_neg (by simpa using hv), if_pos (wiB_iff.2 (by omega))]
  have hle : leN xs (q : Int) = leR q (jnL js l) := by
    unfold leN leR
    rw [if_pos hce, mks_R hx, Int.toNat_natCast]
  have := Least_any A d xs q w hl
  rw [hce, hle] at this
  exact this
set_option maxRecDepth 100000 in
set_option maxHeartbeats 2000000 in
theorem bestleast_walk (A : Option Addr) (c : Nat) (js : List Jb) (s : Int) (B : Option Addr) (cb : Nat) (l : List Int) (w : World) (hj : SlJ w A c js) (hl : SlI w B cb l) :
    Calls Try.prog 5 #[.slice A js.length c, iv s, .slice B l.length cb] w fun e w' => e = .returned (.bool true) ∧ Gr w w' := by
  have n1 := hj.cap
  have n2 := hj.capB
  have n3 := hl.cap
  have n4 := hl.capB
  have HWD := hide (wide_any A c js w hj)
  cases hwd : wdB js with
  | true =>
    rw [hwd] at HWD
    clear hj
    go_enter Try.func5, Try.ntmps5
    go_wp2_with (first | (go_at_call 12; refine (HWD.out).mono ?_; rintro e w1 ⟨rfl, rfl⟩) | (go_at_call 7; refine (known_any _).mono ?_; rintro e w1 ⟨rfl, g1⟩; obtain ⟨X1, Y1, c1, f1⟩ := g1.use))
    go_ret
    exact ⟨rfl, (by repeat (first | with_reducible exact Gr.refl _ | with_reducible assumption | with_reducible refine Gr.alloc ?_ _ | with_reducible refine Gr.drewN ?_ _ | with_reducible refine Gr.drew ?_ | with_reducible refine Gr.setCell ?_ (by first | (dsimp only; omega) | (simp only [World.size_alloc]; omega) | (with_reducible refine Gr.size ?_; (repeat (first | with_reducible exact Gr.refl _ | with_reducible assumption | with_reducible refine Gr.alloc ?_ _ | with_reducible refine Gr.drewN ?_ _ | with_reducible refine Gr.drew ?_ | with_reducible refine Gr.trans ?_ (by with_reducible assumption))); done)) _ | with_reducible refine Gr.trans ?_ (by with_reducible assumption)))⟩
  | false =>
    obtain ⟨hw1, hw2⟩ := wd_ok hwd
    have HT := hide (ltotal_any A c js w hj (by omega) (fun j hj => (hw2 j hj).1))
    rw [hwd] at HWD
    by_cases h60 : 60 < l.length
    · clear hj hl hw2
      go_enter Try.func5, Try.ntmps5
      go_wp2_with (first | (go_at_call 12; refine (HWD.out).mono ?_; rintro e w1 ⟨rfl, rfl⟩) | (go_at_call 7; refine (known_any _).mono ?_; rintro e w1 ⟨rfl, g1⟩; obtain ⟨X1, Y1, c1, f1⟩ := g1.use))
      go_ret
      exact ⟨rfl, (by repeat (first | with_reducible exact Gr.refl _ | with_reducible assumption | with_reducible refine Gr.alloc ?_ _ | with_reducible refine Gr.drewN ?_ _ | with_reducible refine Gr.drew ?_ | with_reducible refine Gr.setCell ?_ (by first | (dsimp only; omega) | (simp only [World.size_alloc]; omega) | (with_reducible refine Gr.size ?_; (repeat (first | with_reducible exact Gr.refl _ | with_reducible assumption | with_reducible refine Gr.alloc ?_ _ | with_reducible refine Gr.drewN ?_ _ | with_reducible refine Gr.drew ?_ | with_reducible refine Gr.trans ?_ (by with_reducible assumption))); done)) _ | with_reducible refine Gr.trans ?_ (by with_reducible assumption)))⟩
    · have HA := hide (fun (w' : World) (g : Gr w w') => Best_any A c js s w' (hj.gr g) hwd)
      have HJ := hide (fun (A' : Option Addr) (d : Nat) (o : List Int) (w' : World) (g : Gr w w') (ho : SlI w' A' d o) => Join_any A c js A' d o w' (hj.gr g) ho hwd)
      have HL := hide hl
      by_cases hout : toN js > 10 ∧ toN js ≤ 24
      · generalize toN js = T at *
        have d1 : decide ((T : Int) > 10) = true := by rw [decide_eq_true_eq]; omega
        have d2 : decide ((T : Int) ≤ 24) = true := by rw [decide_eq_true_eq]; omega
        clear hout hj hl hwd hw2
        go_enter Try.func5, Try.ntmps5
        go_wp2_with (first | (go_at_call 12; refine (HWD.out).mono ?_; rintro e w1 ⟨rfl, rfl⟩) | (go_at_call 13; refine (HT.out).mono ?_; rintro e w1 ⟨rfl, rfl⟩) | (go_at_call 7; refine (known_any _).mono ?_; rintro e w1 ⟨rfl, g1⟩; obtain ⟨X1, Y1, c1, f1⟩ := g1.use))
        go_ret
        exact ⟨rfl, (by repeat (first | with_reducible exact Gr.refl _ | with_reducible assumption | with_reducible refine Gr.alloc ?_ _ | with_reducible refine Gr.drewN ?_ _ | with_reducible refine Gr.drew ?_ | with_reducible refine Gr.setCell ?_ (by first | (dsimp only; omega) | (simp only [World.size_alloc]; omega) | (with_reducible refine Gr.size ?_; (repeat (first | with_reducible exact Gr.refl _ | with_reducible assumption | with_reducible refine Gr.alloc ?_ _ | with_reducible refine Gr.drewN ?_ _ | with_reducible refine Gr.drew ?_ | with_reducible refine Gr.trans ?_ (by with_reducible assumption))); done)) _ | with_reducible refine Gr.trans ?_ (by with_reducible assumption)))⟩
      · have hd : (decide ((toN js : Int) > 10) = false) ∨ (decide ((toN js : Int) > 10) = true ∧ decide ((toN js : Int) ≤ 24) = false) := by
          by_cases h1 : toN js > 10
          · exact .inr ⟨by rw [decide_eq_true_eq]; omega, by rw [decide_eq_false_iff_not]; omega⟩
          · exact .inl (by rw [decide_eq_false_iff_not]; omega)
        by_cases hE : beE js s = 0
        · obtain ⟨h0, hs, ht⟩ := beE_ok hE
          obtain ⟨q, rfl⟩ : ∃ q : Nat, s = q := ⟨s.toNat, by omega⟩
          obtain ⟨p1, p2, p3⟩ := bsR_ok (q := q) h0 ht (by omega)
          have HB := hide (show beL js (q : Int) = (bsR js q).1 ∧ beN js (q : Int) = (bsR js q).2 by unfold beL beN; rw [if_pos hE, if_pos hE]; exact ⟨rfl, rfl⟩)
          have HJB := hide (jnE_ok h0 ht p1)
          have HLB := hide (fun (A' : Option Addr) (d : Nat) (xs : List Nd) (w' : World) (hx : xs.map (·.l) = jnR js (bsR js q).1) (h : SlN w' A' d xs) => least_jn A' d js (bsR js q).1 q xs w' h0 ht p1 (by omega) hx h)
          have HLO := hide (fun (hp : pmB l js.length = true) (A' : Option Addr) (d : Nat) (xs : List Nd) (w' : World) (hx : xs.map (·.l) = jnR js l) (h : SlN w' A' d xs) => least_jn A' d js l q xs w' h0 ht hp (by omega) hx h)
          have HPM := hide (fun h => jnE_pm (js := js) (l := l) h0 h)
          have HP3 := hide (fun h => p3 l h)
          have HP2 := hide p2
          rw [hE, HB.out.1, HB.out.2] at HA
          rw [← p2] at HLB
          clear hE hj hl hwd hw2 hout h0 p1 p2 p3
          generalize toN js = T at *
          generalize bsR js q = R at *
          have hnn : ((R.2 : Int) != (R.2 : Int)) = false := by simp
          rcases hd with hd | ⟨hd, hd2⟩
          all_goals
            go_enter Try.func5, Try.ntmps5
            go_wp2_with (first | (go_at_call 12; refine (HWD.out).mono ?_; rintro e w1 ⟨rfl, rfl⟩) | (go_at_call 13; refine (HT.out).mono ?_; rintro e w1 ⟨rfl, rfl⟩) | fail)
            refine (HA.out _ (Gr.refl _)).mono ?_
            rintro e w1 ⟨A1, d1', rfl, s1, g1⟩
            have HJ1 := hide (HJ.out A1 d1' R.1 w1 g1 s1)
            rw [HJB.out] at HJ1
            clear s1
            go_wp2_with fail
            refine HJ1.out.mono ?_
            rintro e w2 ⟨A2, d2, xs, rfl, hxs, hO2, g2⟩
            have HL2 := hide (HLB.out A2 d2 xs w2 hxs hO2.sln)
            have gw2 : Gr w w2 := g1.trans g2
            clear hxs hO2 g1 g2
            go_wp2_with fail
            refine HL2.out.mono ?_
            rintro e w3 ⟨rfl, g3⟩
            have gw3 : Gr w w3 := gw2.trans g3
            have HJ3 := hide (HJ.out B cb l w3 gw3 (HL.out.gr gw3))
            clear g3 gw2
            go_wp2_with fail
            refine HJ3.out.mono ?_
            rintro e w4 ⟨A4, d4, ys, rfl, hys, hO4, g4⟩
            have gw4 : Gr w w4 := gw3.trans g4
            by_cases hE4 : jnE js l = 0
            · have hpm := HPM.out hE4
              have HL4 := hide (HLO.out hpm A4 d4 ys w4 hys hO4.sln)
              have hle := HP3.out hpm
              have d3 : decide (R.2 ≤ leR q (jnL js l)) = true := by rw [decide_eq_true_eq]; exact hle
              rw [hE4]
              clear hpm hys hO4 g4 gw3 hle
              generalize leR q (jnL js l) = m at *
              go_wp2_with fail
              refine HL4.out.mono ?_
              rintro e w5 ⟨rfl, g5⟩
              have gw5 : Gr w w5 := gw4.trans g5
              clear g5 gw4
              go_wp2_with (first | (go_at_call 7; refine (known_any _).mono ?_; rintro e w1 ⟨rfl, g1⟩; obtain ⟨X1, Y1, c1, f1⟩ := g1.use) | fail)
              go_ret
              exact ⟨rfl, (by repeat (first | with_reducible exact Gr.refl _ | with_reducible assumption | with_reducible refine Gr.alloc ?_ _ | with_reducible refine Gr.drewN ?_ _ | with_reducible refine Gr.drew ?_ | with_reducible refine Gr.setCell ?_ (by first | (dsimp only; omega) | (simp only [World.size_alloc]; omega) | (with_reducible refine Gr.size ?_; (repeat (first | with_reducible exact Gr.refl _ | with_reducible assumption | with_reducible refine Gr.alloc ?_ _ | with_reducible refine Gr.drewN ?_ _ | with_reducible refine Gr.drew ?_ | with_reducible refine Gr.trans ?_ (by with_reducible assumption))); done)) _ | with_reducible refine Gr.trans ?_ (by with_reducible assumption)))⟩
            · have hE4' : (jnE js l != 0) = true := by simpa using hE4
              clear hE4 hys hO4 g4 gw3
              generalize jnE js l = E4 at *
              go_wp2_with (first | (go_at_call 7; refine (known_any _).mono ?_; rintro e w1 ⟨rfl, g1⟩; obtain ⟨X1, Y1, c1, f1⟩ := g1.use) | fail)
              go_ret
              exact ⟨rfl, (by repeat (first | with_reducible exact Gr.refl _ | with_reducible assumption | with_reducible refine Gr.alloc ?_ _ | with_reducible refine Gr.drewN ?_ _ | with_reducible refine Gr.drew ?_ | with_reducible refine Gr.setCell ?_ (by first | (dsimp only; omega) | (simp only [World.size_alloc]; omega) | (with_reducible refine Gr.size ?_; (repeat (first | with_reducible exact Gr.refl _ | with_reducible assumption | with_reducible refine Gr.alloc ?_ _ | with_reducible refine Gr.drewN ?_ _ | with_reducible refine Gr.drew ?_ | with_reducible refine Gr.trans ?_ (by with_reducible assumption))); done)) _ | with_reducible refine Gr.trans ?_ (by with_reducible assumption)))⟩
        · obtain ⟨e1, e2⟩ := be_bad hE
          rw [e1, e2] at HA
          have hE' : (beE js s != 0) = true := by simpa using hE
          clear e1 e2 hE hj hl hwd hw2 hout
          generalize toN js = T at *
          generalize beE js s = E at *
          rcases hd with hd | ⟨hd, hd2⟩
          all_goals
            go_enter Try.func5, Try.ntmps5
            go_wp2_with (first | (go_at_call 12; refine (HWD.out).mono ?_; rintro e w1 ⟨rfl, rfl⟩) | (go_at_call 13; refine (HT.out).mono ?_; rintro e w1 ⟨rfl, rfl⟩) | fail)
            refine (HA.out _ (Gr.refl _)).mono ?_
            rintro e w1 ⟨A1, d1', rfl, s1, g1⟩
            clear s1
            go_wp2_with (first | (go_at_call 7; refine (known_any _).mono ?_; rintro e w1 ⟨rfl, g1⟩; obtain ⟨X1, Y1, c1, f1⟩ := g1.use) | fail)
            go_ret
            exact ⟨rfl, (by repeat (first | with_reducible exact Gr.refl _ | with_reducible assumption | with_reducible refine Gr.alloc ?_ _ | with_reducible refine Gr.drewN ?_ _ | with_reducible refine Gr.drew ?_ | with_reducible refine Gr.setCell ?_ (by first | (dsimp only; omega) | (simp only [World.size_alloc]; omega) | (with_reducible refine Gr.size ?_; (repeat (first | with_reducible exact Gr.refl _ | with_reducible assumption | with_reducible refine Gr.alloc ?_ _ | with_reducible refine Gr.drewN ?_ _ | with_reducible refine Gr.drew ?_ | with_reducible refine Gr.trans ?_ (by with_reducible assumption))); done)) _ | with_reducible refine Gr.trans ?_ (by with_reducible assumption)))⟩
end Go.Proofs.Ytjdiepnbchcnoaa
