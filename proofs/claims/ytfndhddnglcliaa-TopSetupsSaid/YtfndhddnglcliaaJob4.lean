/-
  Join of both sides.
-/
import Derived.Test.YtfndhddnglcliaaJob3
set_option linter.unusedVariables false
set_option linter.unusedSimpArgs false
namespace Go.Proofs.Ytfndhddnglcliaa
set_option linter.unusedVariables false
set_option linter.unusedSimpArgs false
open Go Go.ChangeShapes Go.WideShapes Go.ChangeAt Go.RowKit Go.Deep

def jnF (js : List Jb) (z : Int) : List (List Int) := match js[z.toNat]? with
  | some j => j.ns.map (·.l)
  | none => []
/-- the needs of jobs, one after another -/
def jnL (js : List Jb) (l : List Int) : List (List Int) := l.flatMap (jnF js)
def jnE (js : List Jb) (l : List Int) : Int := if joE js ≠ 0 then joE js else if pmB l js.length = false then 1 else if 24 < toN js then 4 else 0
def jnR (js : List Jb) (l : List Int) : List (List Int) := if jnE js l = 0 then jnL js l else []
theorem jn_next {js : List Jb} {l : List Int} {k i : Nat} {A : Option Addr} {c : Nat} {ns : List Nd} (hz : l[k]? = some (i : Int)) (hx : js[i]? = some ⟨A, c, ns⟩) : jnL js (l.take (k + 1)) = jnL js (l.take k) ++ ns.map (·.l) := by
  unfold jnL
  rw [take_at hz, List.flatMap_append, List.flatMap_cons, List.flatMap_nil, List.append_nil]
  unfold jnF
  rw [show ((i : Int)).toNat = i by omega, hx]
theorem pm_at {l : List Int} {n k : Nat} {z : Int} (h : pmB l n = true) (hn : n ≤ 4) (hz : l[k]? = some z) : ∃ i : Nat, z = i ∧ i < n := by
  obtain ⟨h1, h2⟩ := pmB_iff.1 h
  have hk := (List.getElem?_eq_some_iff.1 hz).1
  obtain ⟨h3, h4⟩ := (((cov_dst h1 hn).1 h2) k z (by omega) hz).1
  exact ⟨z.toNat, by omega, by omega⟩
theorem wd_ok {js : List Jb} (h : wdB js = false) : js.length ≤ 20 ∧ ∀ j ∈ js, j.ns.length ≤ 60 ∧ ∀ x ∈ j.ns, x.l.length ≤ 60 := by
  unfold wdB lgB at h
  simp only [Bool.or_eq_false_iff, decide_eq_false_iff_not, Nat.not_lt, List.any_eq_false, Bool.not_eq_true] at h
  exact ⟨h.1, fun j hj => ⟨(h.2 j hj).1, fun x hx => (h.2 j hj).2 x hx⟩⟩
theorem joE_len {js : List Jb} (h : joE js = 0) : js.length ≤ 4 := by
  unfold joE at h
  split at h
  · cases h
  · omega
theorem OwnN.weak {w : World} {base lo : Nat} {A : Option Addr} {d : Nat} {xs : List Nd} (h : OwnN w base A d xs) (hb : lo ≤ base) : OwnN w lo A d xs := ⟨OwnL.weak h.row hb, fun x hx => OwnL.weak (h.el x hx) hb, h.far⟩
set_option maxRecDepth 100000 in
set_option maxHeartbeats 2000000 in
theorem Join_any (A : Option Addr) (c : Nat) (js : List Jb) (B : Option Addr) (cb : Nat) (l : List Int) (w : World) (hj : SlJ w A c js) (hl : SlI w B cb l) (hwd : wdB js = false) :
    Calls Try.prog 28 #[.slice A js.length c, .slice B l.length cb] w fun e w' => ∃ A' d' xs, e = .returned (sle (.slice A' xs.length d') (jnE js l)) ∧ xs.map (·.l) = jnR js l ∧ OwnN w' w.heap.size A' d' xs ∧ Gr w w' := by
  obtain ⟨hw1, hw2⟩ := wd_ok hwd
  have HW := hide hw2
  have n1 := hj.cap
  have n2 := hj.capB
  have n3 := hl.cap
  have n4 := hl.capB
  have HV := hide (validateJobs_any A c js w hj)
  by_cases h0 : joE js = 0
  · have h4 := joE_len h0
    have HPM := hide (fun (w' : World) (g : Gr w w') => isPermutation_any B cb l js.length w' (hl.gr g) h4)
    rw [h0] at HV
    cases hpm : pmB l js.length with
    | false =>
      have HE := hide (show jnE js l = 1 by unfold jnE; rw [if_neg (by simpa using h0), if_pos hpm])
      have HR := hide (show jnR js l = [] by unfold jnR; rw [HE.out]; rfl)
      rw [hpm] at HPM
      clear hj hl h0 hpm
      go_enter Try.func28, Try.ntmps28
      go_wp2_with (first | (go_at_call 23; refine (HV.out).mono ?_; rintro e w1 ⟨rfl, rfl⟩) | (go_at_call 40; refine (HPM.out _ (by repeat (first | with_reducible exact Gr.refl _ | with_reducible assumption | with_reducible refine Gr.alloc ?_ _ | with_reducible refine Gr.drewN ?_ _ | with_reducible refine Gr.drew ?_ | with_reducible refine Gr.setCell ?_ (by first | (dsimp only; omega) | (simp only [World.size_alloc]; omega) | (with_reducible refine Gr.size ?_; (repeat (first | with_reducible exact Gr.refl _ | with_reducible assumption | with_reducible refine Gr.alloc ?_ _ | with_reducible refine Gr.drewN ?_ _ | with_reducible refine Gr.drew ?_ | with_reducible refine Gr.trans ?_ (by with_reducible assumption))); done)) _ | with_reducible refine Gr.trans ?_ (by with_reducible assumption)))).mono ?_; rintro e w1 ⟨rfl, rfl⟩))
      go_ret2
      exact ⟨none, 0, [], by rw [HE.out]; rfl, HR.out.symm, ownN_nil _ _, (by repeat (first | with_reducible exact Gr.refl _ | with_reducible assumption | with_reducible refine Gr.alloc ?_ _ | with_reducible refine Gr.drewN ?_ _ | with_reducible refine Gr.drew ?_ | with_reducible refine Gr.setCell ?_ (by first | (dsimp only; omega) | (simp only [World.size_alloc]; omega) | (with_reducible refine Gr.size ?_; (repeat (first | with_reducible exact Gr.refl _ | with_reducible assumption | with_reducible refine Gr.alloc ?_ _ | with_reducible refine Gr.drewN ?_ _ | with_reducible refine Gr.drew ?_ | with_reducible refine Gr.trans ?_ (by with_reducible assumption))); done)) _ | with_reducible refine Gr.trans ?_ (by with_reducible assumption)))⟩
    | true =>
      have HCT := hide (fun (w' : World) (g : Gr w w') => countSteps_any A c js w' (hj.gr g) (by omega) (fun j hj => (hw2 j hj).1))
      have HTB := hide (toN_le (fun j hj => (hw2 j hj).1) js.length)
      rw [List.take_length] at HTB
      have hTB := HTB.out
      by_cases ht : 24 < toN js
      · have HE := hide (show jnE js l = 4 by unfold jnE; rw [if_neg (by simpa using h0), if_neg (by simp [hpm]), if_pos ht])
        have HR := hide (show jnR js l = [] by unfold jnR; rw [HE.out]; rfl)
        rw [hpm] at HPM
        have hd : decide ((toN js : Int) > 24) = true := by rw [decide_eq_true_eq]; omega
        clear hj hl h0 hpm
        go_enter Try.func28, Try.ntmps28
        go_wp2_with (first | (go_at_call 23; refine (HV.out).mono ?_; rintro e w1 ⟨rfl, rfl⟩) | (go_at_call 40; refine (HPM.out _ (by repeat (first | with_reducible exact Gr.refl _ | with_reducible assumption | with_reducible refine Gr.alloc ?_ _ | with_reducible refine Gr.drewN ?_ _ | with_reducible refine Gr.drew ?_ | with_reducible refine Gr.setCell ?_ (by first | (dsimp only; omega) | (simp only [World.size_alloc]; omega) | (with_reducible refine Gr.size ?_; (repeat (first | with_reducible exact Gr.refl _ | with_reducible assumption | with_reducible refine Gr.alloc ?_ _ | with_reducible refine Gr.drewN ?_ _ | with_reducible refine Gr.drew ?_ | with_reducible refine Gr.trans ?_ (by with_reducible assumption))); done)) _ | with_reducible refine Gr.trans ?_ (by with_reducible assumption)))).mono ?_; rintro e w1 ⟨rfl, rfl⟩) | (go_at_call 25; refine (HCT.out _ (by repeat (first | with_reducible exact Gr.refl _ | with_reducible assumption | with_reducible refine Gr.alloc ?_ _ | with_reducible refine Gr.drewN ?_ _ | with_reducible refine Gr.drew ?_ | with_reducible refine Gr.setCell ?_ (by first | (dsimp only; omega) | (simp only [World.size_alloc]; omega) | (with_reducible refine Gr.size ?_; (repeat (first | with_reducible exact Gr.refl _ | with_reducible assumption | with_reducible refine Gr.alloc ?_ _ | with_reducible refine Gr.drewN ?_ _ | with_reducible refine Gr.drew ?_ | with_reducible refine Gr.trans ?_ (by with_reducible assumption))); done)) _ | with_reducible refine Gr.trans ?_ (by with_reducible assumption)))).mono ?_; rintro e w1 ⟨rfl, rfl⟩))
        go_ret2
        exact ⟨none, 0, [], by rw [HE.out]; rfl, HR.out.symm, ownN_nil _ _, (by repeat (first | with_reducible exact Gr.refl _ | with_reducible assumption | with_reducible refine Gr.alloc ?_ _ | with_reducible refine Gr.drewN ?_ _ | with_reducible refine Gr.drew ?_ | with_reducible refine Gr.setCell ?_ (by first | (dsimp only; omega) | (simp only [World.size_alloc]; omega) | (with_reducible refine Gr.size ?_; (repeat (first | with_reducible exact Gr.refl _ | with_reducible assumption | with_reducible refine Gr.alloc ?_ _ | with_reducible refine Gr.drewN ?_ _ | with_reducible refine Gr.drew ?_ | with_reducible refine Gr.trans ?_ (by with_reducible assumption))); done)) _ | with_reducible refine Gr.trans ?_ (by with_reducible assumption)))⟩
      · have HE := hide (show jnE js l = 0 by unfold jnE; rw [if_neg (by simpa using h0), if_neg (by simp [hpm]), if_neg ht])
        have HR := hide (show jnR js l = jnL js l by unfold jnR; rw [HE.out]; rfl)
        rw [hpm] at HPM
        have HPI := hide (fun k z => pm_at (k := k) (z := z) hpm h4)
        have hl4 : l.length ≤ 4 := by have := (pmB_iff.1 hpm).1; omega
        have HJ := hide hj
        have HL := hide hl
        clear hj hl h0 hpm hw2
        go_enter Try.func28, Try.ntmps28
        go_wp2_with (first | (go_at_call 23; refine (HV.out).mono ?_; rintro e w1 ⟨rfl, rfl⟩) | (go_at_call 40; refine (HPM.out _ (by repeat (first | with_reducible exact Gr.refl _ | with_reducible assumption | with_reducible refine Gr.alloc ?_ _ | with_reducible refine Gr.drewN ?_ _ | with_reducible refine Gr.drew ?_ | with_reducible refine Gr.setCell ?_ (by first | (dsimp only; omega) | (simp only [World.size_alloc]; omega) | (with_reducible refine Gr.size ?_; (repeat (first | with_reducible exact Gr.refl _ | with_reducible assumption | with_reducible refine Gr.alloc ?_ _ | with_reducible refine Gr.drewN ?_ _ | with_reducible refine Gr.drew ?_ | with_reducible refine Gr.trans ?_ (by with_reducible assumption))); done)) _ | with_reducible refine Gr.trans ?_ (by with_reducible assumption)))).mono ?_; rintro e w1 ⟨rfl, rfl⟩) | (go_at_call 25; refine (HCT.out _ (by repeat (first | with_reducible exact Gr.refl _ | with_reducible assumption | with_reducible refine Gr.alloc ?_ _ | with_reducible refine Gr.drewN ?_ _ | with_reducible refine Gr.drew ?_ | with_reducible refine Gr.setCell ?_ (by first | (dsimp only; omega) | (simp only [World.size_alloc]; omega) | (with_reducible refine Gr.size ?_; (repeat (first | with_reducible exact Gr.refl _ | with_reducible assumption | with_reducible refine Gr.alloc ?_ _ | with_reducible refine Gr.drewN ?_ _ | with_reducible refine Gr.drew ?_ | with_reducible refine Gr.trans ?_ (by with_reducible assumption))); done)) _ | with_reducible refine Gr.trans ?_ (by with_reducible assumption)))).mono ?_; rintro e w1 ⟨rfl, rfl⟩))
        go_loopw [7, 27] (fun v i wr => ∃ (k : Nat) (A' : Option Addr) (d' : Nat) (xs : List Nd), k ≤ l.length ∧ i = iv k ∧ v = .slice A' xs.length d' ∧ xs.length ≤ 60 * k ∧ Gr w wr ∧ Hid (OwnN wr w.heap.size A' d' xs ∧ xs.map (·.l) = jnL js (l.take k))) (fun _ i _ => l.length - (intOf i).toNat)
        case atStart => exact ⟨0, none, 0, [], by omega, rfl, rfl, by simp, (by repeat (first | with_reducible exact Gr.refl _ | with_reducible assumption | with_reducible refine Gr.alloc ?_ _ | with_reducible refine Gr.drewN ?_ _ | with_reducible refine Gr.drew ?_ | with_reducible refine Gr.setCell ?_ (by first | (dsimp only; omega) | (simp only [World.size_alloc]; omega) | (with_reducible refine Gr.size ?_; (repeat (first | with_reducible exact Gr.refl _ | with_reducible assumption | with_reducible refine Gr.alloc ?_ _ | with_reducible refine Gr.drewN ?_ _ | with_reducible refine Gr.drew ?_ | with_reducible refine Gr.trans ?_ (by with_reducible assumption))); done)) _ | with_reducible refine Gr.trans ?_ (by with_reducible assumption))), hide ⟨ownN_nil _ _, rfl⟩⟩
        case round =>
          obtain ⟨k, A1, d1, xs, hk, rfl, rfl, hxs, g, HX⟩ := hrel
          by_cases hkl : k < l.length
          · obtain ⟨z, hz⟩ : ∃ z, l[k]? = some z := ⟨_, List.getElem?_eq_getElem hkl⟩
            obtain ⟨b, o, rfl, x0⟩ := (HL.out.gr g).rd.in_ hz
            obtain ⟨i, rfl, hi⟩ := HPI.out k z hz
            obtain ⟨x, hx⟩ : ∃ x, js[i]? = some x := ⟨_, List.getElem?_eq_getElem hi⟩
            obtain ⟨XA, XC, NS⟩ := x
            obtain ⟨b1, o1, rfl, x1, _⟩ := (HJ.out.gr g).at_ hx
            dsimp only at x1
            have XL : Hid (SlN w XA XC NS) := hide (HJ.out.el _ (List.mem_of_getElem? hx))
            have XW : Hid (NS.length ≤ 60 ∧ ∀ x ∈ NS, x.l.length ≤ 60) := hide (HW.out _ (List.mem_of_getElem? hx))
            have xw := XW.out.1
            have xn1 := XL.out.cap
            have xn2 := XL.out.capB
            have HNX := hide (jn_next hz hx)
            have hk0 : (0 : Int) ≤ (k : Int) := by omega
            have hk1 : (k : Int) < (l.length : Int) := by omega
            have hi0 : (0 : Int) ≤ (i : Int) := by omega
            have hi1 : (i : Int) < (js.length : Int) := by omega
            clear hz hx
            go_wp2
            obtain ⟨wo, hwo⟩ : ∃ wo, wo = wr := ⟨_, rfl⟩
            go_loopw [7, 36] (fun v i wr => ∃ (m : Nat) (A' : Option Addr) (d' : Nat) (ys : List Nd), m ≤ NS.length ∧ i = iv m ∧ v = .slice A' ys.length d' ∧ ys.length ≤ 60 * k + m ∧ Gr w wr ∧ Hid (OwnN wr w.heap.size A' d' ys ∧ ys.map (·.l) = jnL js (l.take k) ++ (NS.map (·.l)).take m)) (fun _ i _ => NS.length - (intOf i).toNat)
            case atStart => exact ⟨0, A1, d1, xs, by omega, rfl, rfl, by omega, (by repeat (first | with_reducible exact Gr.refl _ | with_reducible assumption | with_reducible refine Gr.alloc ?_ _ | with_reducible refine Gr.drewN ?_ _ | with_reducible refine Gr.drew ?_ | with_reducible refine Gr.setCell ?_ (by first | (dsimp only; omega) | (simp only [World.size_alloc]; omega) | (with_reducible refine Gr.size ?_; (repeat (first | with_reducible exact Gr.refl _ | with_reducible assumption | with_reducible refine Gr.alloc ?_ _ | with_reducible refine Gr.drewN ?_ _ | with_reducible refine Gr.drew ?_ | with_reducible refine Gr.trans ?_ (by with_reducible assumption))); done)) _ | with_reducible refine Gr.trans ?_ (by with_reducible assumption))), hide ⟨HX.out.1, by rw [HX.out.2]; simp⟩⟩
            case round =>
              clear HX
              obtain ⟨m, A2, d2, ys, hm, rfl, rfl, hys, g2, HY⟩ := hrel
              by_cases hml : m < NS.length
              · obtain ⟨y, hy⟩ : ∃ y, NS[m]? = some y := ⟨_, List.getElem?_eq_getElem hml⟩
                obtain ⟨b2, o2, rfl, y0, yl⟩ := (XL.out.gr g2).at_ hy
                have HCL := hide (clone_any y.A y.c y.l wr yl (XW.out.2 y (List.mem_of_getElem? hy)))
                have HTK := hide (take_at (l := NS.map (·.l)) (k := m) (x := y.l) (by rw [List.getElem?_map, hy]; rfl))
                have hm0 : (0 : Int) ≤ (m : Int) := by omega
                have hm1 : (m : Int) < (NS.length : Int) := by omega
                clear hy yl x0 x1
                go_wp2_with fail
                refine HCL.out.mono ?_
                rintro e w1 ⟨A5, c5, rfl, hO5, g5⟩
                have HO5 := hide hO5
                obtain ⟨Y, hY⟩ : ∃ Y, ys ++ [⟨A5, c5, y.l⟩] = Y := ⟨_, rfl⟩
                have HYY := hide hY
                have hsz := g2.size
                have hsz2 := g5.size
                clear hO5 hY y0
                go_wp2_with (refine wpList_app2 rfl _ _ _ rfl ndL w.heap.size 30 1 24 elNd (by decide) ys ⟨A5, c5, y.l⟩ Y HYY.out _ rfl (OwnL.gr HY.out.1.row (Gr.alloc g5 _)) _ 1 rfl rfl (by intro j u hu; refine newsA w1 #[.slice A5 y.l.length c5] 30 j u ?_; exact hu) (by intro u hu; simp at hu; subst hu; rfl) (by omega) (by decide) (by simp only [World.size_alloc]; omega) ?_; intro gg cap1 w8 hO8 hG8 hgrow hat _)
                have HN := hide (ownN_next HY.out.1 g5 HO5.out hsz hO8 HYY.out hgrow hat)
                have hYl : Y.length = ys.length + 1 := by rw [← HYY.out]; simp
                have g8 := hG8 w (Gr.alloc (g2.trans g5) _) (Nat.le_refl _)
                have hYl2 : Y.length ≤ 60 * k + (m + 1) := by omega
                clear hYl hO8 hG8 hgrow hat
                go_roundw
                case rel => exact ⟨m + 1, some ⟨gg, 0, none⟩, cap1, Y, by omega, by go_num, rfl, hYl2, g8, hide ⟨HN.out, by rw [← HYY.out, List.map_append, HY.out.2, HTK.out, List.append_assoc]; rfl⟩⟩
                case measure => simp only [intOf]; omega
              · obtain rfl : m = NS.length := by omega
                have HM := hide (show ys.map (·.l) = jnL js (l.take (k + 1)) by rw [HY.out.2, HNX.out]; congr 1; exact List.take_of_length_le (by simp))
                go_wp2
                go_roundw
                case rel => exact ⟨k + 1, A2, d2, ys, by omega, by go_num, rfl, by omega, (by repeat (first | with_reducible exact Gr.refl _ | with_reducible assumption | with_reducible refine Gr.alloc ?_ _ | with_reducible refine Gr.drewN ?_ _ | with_reducible refine Gr.drew ?_ | with_reducible refine Gr.setCell ?_ (by first | (dsimp only; omega) | (simp only [World.size_alloc]; omega) | (with_reducible refine Gr.size ?_; (repeat (first | with_reducible exact Gr.refl _ | with_reducible assumption | with_reducible refine Gr.alloc ?_ _ | with_reducible refine Gr.drewN ?_ _ | with_reducible refine Gr.drew ?_ | with_reducible refine Gr.trans ?_ (by with_reducible assumption))); done)) _ | with_reducible refine Gr.trans ?_ (by with_reducible assumption))), hide ⟨HY.out.1, HM.out⟩⟩
                case measure => simp only [intOf]; omega
          · obtain rfl : k = l.length := by omega
            rw [List.take_length] at HX
            go_wp2
            go_ret2
            exact ⟨A1, d1, xs, by rw [HE.out]; rfl, by rw [HX.out.2, HR.out], HX.out.1, (by repeat (first | with_reducible exact Gr.refl _ | with_reducible assumption | with_reducible refine Gr.alloc ?_ _ | with_reducible refine Gr.drewN ?_ _ | with_reducible refine Gr.drew ?_ | with_reducible refine Gr.setCell ?_ (by first | (dsimp only; omega) | (simp only [World.size_alloc]; omega) | (with_reducible refine Gr.size ?_; (repeat (first | with_reducible exact Gr.refl _ | with_reducible assumption | with_reducible refine Gr.alloc ?_ _ | with_reducible refine Gr.drewN ?_ _ | with_reducible refine Gr.drew ?_ | with_reducible refine Gr.trans ?_ (by with_reducible assumption))); done)) _ | with_reducible refine Gr.trans ?_ (by with_reducible assumption)))⟩
  · have HE := hide (show jnE js l = joE js by unfold jnE; rw [if_pos h0])
    have HR := hide (show jnR js l = [] by unfold jnR; rw [HE.out, if_neg h0])
    have h1 : (joE js != 0) = true := by simpa using h0
    generalize joE js = e0 at *
    clear h0 hj hl
    go_enter Try.func28, Try.ntmps28
    go_wp2_with (first | (go_at_call 23; refine (HV.out).mono ?_; rintro e w1 ⟨rfl, rfl⟩))
    go_ret2
    exact ⟨none, 0, [], by rw [HE.out]; rfl, HR.out.symm, ownN_nil _ _, (by repeat (first | with_reducible exact Gr.refl _ | with_reducible assumption | with_reducible refine Gr.alloc ?_ _ | with_reducible refine Gr.drewN ?_ _ | with_reducible refine Gr.drew ?_ | with_reducible refine Gr.setCell ?_ (by first | (dsimp only; omega) | (simp only [World.size_alloc]; omega) | (with_reducible refine Gr.size ?_; (repeat (first | with_reducible exact Gr.refl _ | with_reducible assumption | with_reducible refine Gr.alloc ?_ _ | with_reducible refine Gr.drewN ?_ _ | with_reducible refine Gr.drew ?_ | with_reducible refine Gr.trans ?_ (by with_reducible assumption))); done)) _ | with_reducible refine Gr.trans ?_ (by with_reducible assumption)))⟩
end Go.Proofs.Ytfndhddnglcliaa
