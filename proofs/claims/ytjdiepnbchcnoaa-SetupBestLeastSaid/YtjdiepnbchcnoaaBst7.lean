/-
  The law of the best order.
-/
import Derived.Test.YtjdiepnbchcnoaaBst6
set_option linter.unusedVariables false
set_option linter.unusedSimpArgs false
namespace Go.Proofs.Ytjdiepnbchcnoaa
set_option linter.unusedVariables false
set_option linter.unusedSimpArgs false
open Go Go.ChangeShapes Go.WideShapes Go.ChangeAt Go.RowKit Go.Deep

set_option maxHeartbeats 1000000 in
theorem ltotal_any (A : Option Addr) (c : Nat) (js : List Jb) (w : World) (hl : SlJ w A c js) (hn : js.length ≤ 20) (hs : ∀ j ∈ js, j.ns.length ≤ 60) :
    Calls Try.prog 13 #[.slice A js.length c] w fun e w' => e = .returned (iv (toN js)) ∧ w = w' := by
  have n1 := hl.cap
  have n2 := hl.capB
  have HL := hide hl
  have HB := hide (toN_le hs)
  clear hl hs
  go_enter Try.func13, Try.ntmps13
  go_wp2
  go_loop [3, 4] (fun s i => ∃ k : Nat, k ≤ js.length ∧ i = iv k ∧ s = iv (toN (js.take k))) (fun _ i => js.length - (intOf i).toNat)
  case atStart => exact ⟨0, by omega, rfl, rfl⟩
  case round =>
    obtain ⟨k, hk, rfl, rfl⟩ := hrel
    by_cases hkl : k < js.length
    · obtain ⟨x, hx⟩ : ∃ z, js[k]? = some z := ⟨_, List.getElem?_eq_getElem hkl⟩
      obtain ⟨b, o, rfl, x0, xl⟩ := HL.out.at_ hx
      have HT := hide (toN_at hx)
      have b1 := HB.out k
      have b2 := HB.out (k + 1)
      rw [HT.out] at b2
      have hk0 : (0 : Int) ≤ (k : Int) := by omega
      have hk1 : (k : Int) < (js.length : Int) := by omega
      clear hx xl
      generalize toN (js.take k) = T at *
      have W1 : IntKind.i64.wrap ((T : Int) + (x.ns.length : Int)) = (T : Int) + (x.ns.length : Int) := IntWalk.i64_in _ (by omega)
      go_wp2
      go_round
      case rel => exact ⟨k + 1, by omega, by go_num, by rw [HT.out]; go_num⟩
      case measure => simp only [intOf]; omega
    · obtain rfl : k = js.length := by omega
      rw [List.take_length]
      go_wp2
      go_ret
      exact ⟨rfl, rfl⟩
/-- whether the statement leaves these jobs out -/
def outJ (js : List Jb) : Prop := toN js > 10 ∧ toN js ≤ 24
theorem tg {T n : Nat} : (decide ((T : Int) > (n : Int)) = decide (T > n)) := by
  rw [decide_eq_decide]
  omega
set_option maxRecDepth 100000 in
set_option maxHeartbeats 2000000 in
theorem best_walk (A : Option Addr) (c : Nat) (js : List Jb) (s : Int) (w : World) (hj : SlJ w A c js) :
    Calls Try.prog 4 #[.slice A js.length c, iv s] w fun e w' => e = .returned (.bool true) ∧ Gr w w' := by
  have n1 := hj.cap
  have n2 := hj.capB
  have HWD := hide (wide_any A c js w hj)
  cases hwd : wdB js with
  | true =>
    rw [hwd] at HWD
    clear hj
    go_enter Try.func4, Try.ntmps4
    go_wp2_with (first | (go_at_call 12; refine (HWD.out).mono ?_; rintro e w1 ⟨rfl, rfl⟩) | (go_at_call 7; refine (known_any _).mono ?_; rintro e w1 ⟨rfl, g1⟩; obtain ⟨X1, Y1, c1, f1⟩ := g1.use))
    go_ret
    exact ⟨rfl, (by repeat (first | with_reducible exact Gr.refl _ | with_reducible assumption | with_reducible refine Gr.alloc ?_ _ | with_reducible refine Gr.drewN ?_ _ | with_reducible refine Gr.drew ?_ | with_reducible refine Gr.setCell ?_ (by first | (dsimp only; omega) | (simp only [World.size_alloc]; omega) | (with_reducible refine Gr.size ?_; (repeat (first | with_reducible exact Gr.refl _ | with_reducible assumption | with_reducible refine Gr.alloc ?_ _ | with_reducible refine Gr.drewN ?_ _ | with_reducible refine Gr.drew ?_ | with_reducible refine Gr.trans ?_ (by with_reducible assumption))); done)) _ | with_reducible refine Gr.trans ?_ (by with_reducible assumption)))⟩
  | false =>
    obtain ⟨hw1, hw2⟩ := wd_ok hwd
    have HT := hide (ltotal_any A c js w hj (by omega) (fun j hj => (hw2 j hj).1))
    have HA := hide (fun (w' : World) (g : Gr w w') => Best_any A c js s w' (hj.gr g) hwd)
    have HB := hide (fun (w' : World) (g : Gr w w') => rBest_any A c js s w' (hj.gr g) hwd)
    rw [hwd] at HWD
    generalize toN js = T at *
    have hnn : ((beN js s : Int) == (beN js s : Int)) = true := by simp
    have hee : (beE js s == beE js s) = true := by simp
    clear hj hwd hw2
    generalize beN js s = N at *
    generalize beE js s = E at *
    generalize beL js s = L at *
    by_cases h1 : T > 10
    · have d1 : decide ((T : Int) > 10) = true := by rw [decide_eq_true_eq]; omega
      by_cases h2 : T ≤ 24
      · have d2 : decide ((T : Int) ≤ 24) = true := by rw [decide_eq_true_eq]; omega
        clear h1 h2
        go_enter Try.func4, Try.ntmps4
        go_wp2_with (first | (go_at_call 12; refine (HWD.out).mono ?_; rintro e w1 ⟨rfl, rfl⟩) | (go_at_call 13; refine (HT.out).mono ?_; rintro e w1 ⟨rfl, rfl⟩) | (go_at_call 7; refine (known_any _).mono ?_; rintro e w1 ⟨rfl, g1⟩; obtain ⟨X1, Y1, c1, f1⟩ := g1.use))
        go_ret
        exact ⟨rfl, (by repeat (first | with_reducible exact Gr.refl _ | with_reducible assumption | with_reducible refine Gr.alloc ?_ _ | with_reducible refine Gr.drewN ?_ _ | with_reducible refine Gr.drew ?_ | with_reducible refine Gr.setCell ?_ (by first | (dsimp only; omega) | (simp only [World.size_alloc]; omega) | (with_reducible refine Gr.size ?_; (repeat (first | with_reducible exact Gr.refl _ | with_reducible assumption | with_reducible refine Gr.alloc ?_ _ | with_reducible refine Gr.drewN ?_ _ | with_reducible refine Gr.drew ?_ | with_reducible refine Gr.trans ?_ (by with_reducible assumption))); done)) _ | with_reducible refine Gr.trans ?_ (by with_reducible assumption)))⟩
      · have d2 : decide ((T : Int) ≤ 24) = false := by rw [decide_eq_false_iff_not]; omega
        clear h1 h2
        go_enter Try.func4, Try.ntmps4
        go_wp2_with (first | (go_at_call 12; refine (HWD.out).mono ?_; rintro e w1 ⟨rfl, rfl⟩) | (go_at_call 13; refine (HT.out).mono ?_; rintro e w1 ⟨rfl, rfl⟩) | fail)
        refine (HA.out _ (Gr.refl _)).mono ?_
        rintro e w1 ⟨A1, d1', rfl, s1, g1⟩
        have S1 := hide s1
        have k1 := s1.cap
        clear s1
        go_wp2_with fail
        refine (HB.out _ g1).mono ?_
        rintro e w2 ⟨A2, d2', rfl, s2, g2⟩
        have gw2 : Gr w w2 := g1.trans g2
        have HSS := hide (sameInts_self A1 A2 d1' d2' L w2 (S1.out.gr g2) s2)
        clear s2 g1 g2
        go_wp2_with (first | (go_at_call 16; refine (HSS.out).mono ?_; rintro e w1 ⟨rfl, g1⟩; obtain ⟨X1, Y1, c1, f1⟩ := g1.use) | (go_at_call 7; refine (known_any _).mono ?_; rintro e w1 ⟨rfl, g1⟩; obtain ⟨X1, Y1, c1, f1⟩ := g1.use) | fail)
        go_ret
        exact ⟨rfl, (by repeat (first | with_reducible exact Gr.refl _ | with_reducible assumption | with_reducible refine Gr.alloc ?_ _ | with_reducible refine Gr.drewN ?_ _ | with_reducible refine Gr.drew ?_ | with_reducible refine Gr.setCell ?_ (by first | (dsimp only; omega) | (simp only [World.size_alloc]; omega) | (with_reducible refine Gr.size ?_; (repeat (first | with_reducible exact Gr.refl _ | with_reducible assumption | with_reducible refine Gr.alloc ?_ _ | with_reducible refine Gr.drewN ?_ _ | with_reducible refine Gr.drew ?_ | with_reducible refine Gr.trans ?_ (by with_reducible assumption))); done)) _ | with_reducible refine Gr.trans ?_ (by with_reducible assumption)))⟩
    · have d1 : decide ((T : Int) > 10) = false := by rw [decide_eq_false_iff_not]; omega
      clear h1
      go_enter Try.func4, Try.ntmps4
      go_wp2_with (first | (go_at_call 12; refine (HWD.out).mono ?_; rintro e w1 ⟨rfl, rfl⟩) | (go_at_call 13; refine (HT.out).mono ?_; rintro e w1 ⟨rfl, rfl⟩) | fail)
      refine (HA.out _ (Gr.refl _)).mono ?_
      rintro e w1 ⟨A1, d1', rfl, s1, g1⟩
      have S1 := hide s1
      have k1 := s1.cap
      clear s1
      go_wp2_with fail
      refine (HB.out _ g1).mono ?_
      rintro e w2 ⟨A2, d2', rfl, s2, g2⟩
      have gw2 : Gr w w2 := g1.trans g2
      have HSS := hide (sameInts_self A1 A2 d1' d2' L w2 (S1.out.gr g2) s2)
      clear s2 g1 g2
      go_wp2_with (first | (go_at_call 16; refine (HSS.out).mono ?_; rintro e w1 ⟨rfl, g1⟩; obtain ⟨X1, Y1, c1, f1⟩ := g1.use) | (go_at_call 7; refine (known_any _).mono ?_; rintro e w1 ⟨rfl, g1⟩; obtain ⟨X1, Y1, c1, f1⟩ := g1.use) | fail)
      go_ret
      exact ⟨rfl, (by repeat (first | with_reducible exact Gr.refl _ | with_reducible assumption | with_reducible refine Gr.alloc ?_ _ | with_reducible refine Gr.drewN ?_ _ | with_reducible refine Gr.drew ?_ | with_reducible refine Gr.setCell ?_ (by first | (dsimp only; omega) | (simp only [World.size_alloc]; omega) | (with_reducible refine Gr.size ?_; (repeat (first | with_reducible exact Gr.refl _ | with_reducible assumption | with_reducible refine Gr.alloc ?_ _ | with_reducible refine Gr.drewN ?_ _ | with_reducible refine Gr.drew ?_ | with_reducible refine Gr.trans ?_ (by with_reducible assumption))); done)) _ | with_reducible refine Gr.trans ?_ (by with_reducible assumption)))⟩
end Go.Proofs.Ytjdiepnbchcnoaa
