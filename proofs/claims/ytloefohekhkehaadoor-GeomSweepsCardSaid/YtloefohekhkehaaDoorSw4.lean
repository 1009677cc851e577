/-
  Sweep of the reference.
-/
import Derived.Test.YtloefohekhkehaaDoorSw3
import Derived.Test.YtloefohekhkehaaDoorWrap4
set_option linter.unusedVariables false
set_option linter.unusedSimpArgs false
namespace Go.Proofs.YtloefohekhkehaaDoor
set_option linter.unusedVariables false
set_option linter.unusedSimpArgs false
open Go Go.ChangeShapes Go.WideShapes Go.ChangeAt Go.RowKit Go.Deep

/-- the reference's points: both stations of a spot, one spot after another -/
def rP1 (f t K : Nat) (s : Spt) : List Pt := if f < t then [tnP K s, tnP (K + 1) s] else [tnP K s]
def rPs (f t K : Nat) (xs : List Spt) : List Pt := xs.flatMap (rP1 f t K)
theorem rPs_len (f t K : Nat) : ∀ xs : List Spt, xs.length ≤ (rPs f t K xs).length ∧ (rPs f t K xs).length ≤ 2 * xs.length
  | [] => ⟨Nat.le_refl _, Nat.le_refl _⟩
  | x :: xs => by
    have ih := rPs_len f t K xs
    unfold rPs at *
    rw [List.flatMap_cons, List.length_append, List.length_cons]
    have : (rP1 f t K x).length = 1 ∨ (rP1 f t K x).length = 2 := by unfold rP1; split <;> simp
    omega
theorem rPs_at {f t K m : Nat} {xs : List Spt} {s : Spt} (h : xs[m]? = some s) : rPs f t K (xs.take (m + 1)) = rPs f t K (xs.take m) ++ rP1 f t K s := by
  unfold rPs
  rw [List.take_add_one, h, List.flatMap_append]
  simp
theorem rPs_mem {f t j : Nat} {xs : List Spt} (hft : f ≤ t) (hj : f = t → j = 0) (p : Pt) : p ∈ rPs f t (f + j) xs ↔ p ∈ swP xs f t j := by
  unfold rPs swP
  rw [List.mem_flatMap]
  by_cases e : f = t
  · subst e
    have := hj rfl
    subst this
    rw [if_pos rfl, List.mem_map]
    constructor
    · rintro ⟨s, hs, h⟩
      unfold rP1 at h
      rw [if_neg (by omega), List.mem_singleton] at h
      exact ⟨s, hs, h.symm⟩
    · rintro ⟨s, hs, h⟩
      refine ⟨s, hs, ?_⟩
      unfold rP1
      rw [if_neg (by omega), List.mem_singleton]
      exact h.symm
  · rw [if_neg e, List.mem_append, List.mem_map, List.mem_map]
    constructor
    · rintro ⟨s, hs, h⟩
      unfold rP1 at h
      rw [if_pos (by omega)] at h
      simp only [List.mem_cons, List.not_mem_nil, or_false] at h
      rcases h with h | h
      · exact .inl ⟨s, hs, h.symm⟩
      · exact .inr ⟨s, hs, h.symm⟩
    · rintro (⟨s, hs, h⟩ | ⟨s, hs, h⟩)
      · refine ⟨s, hs, ?_⟩
        unfold rP1
        rw [if_pos (by omega)]
        simp [h]
      · refine ⟨s, hs, ?_⟩
        unfold rP1
        rw [if_pos (by omega)]
        simp [h]
theorem rPs_in {xs : List Spt} (h : SIn xs) {f t K : Nat} : ∀ p ∈ rPs f t K xs, PIn p := by
  intro p hp
  unfold rPs at hp
  obtain ⟨s, hs, hp⟩ := List.mem_flatMap.1 hp
  have h1 := fun k => tnP_in (xs := [s]) (fun x hx => by rw [List.mem_singleton] at hx; subst hx; exact h _ hs) (k := k)
  unfold rP1 at hp
  split at hp
  · simp only [List.mem_cons, List.not_mem_nil, or_false] at hp
    rcases hp with rfl | rfl
    · exact h1 K _ (by simp)
    · exact h1 (K + 1) _ (by simp)
  · rw [List.mem_singleton] at hp
    subst hp
    exact h1 K _ (by simp)
set_option maxHeartbeats 2000000 in
set_option maxRecDepth 100000 in
theorem rSweep_any (A : Option Addr) (c : Nat) (xs : List Spt) (f t : Int) (w : World) (hx : RdS w A xs) (lx : xs.length ≤ 1000000) :
    Calls Tryd.prog 7 #[.slice A xs.length c, iv f, iv t] w fun e w' => ∃ A' d ps, e = .returned (.tuple #[.slice A' ps.length d, iv (swE xs f t)]) ∧ RdL w' A' ps ∧ Gr w w' ∧ SwOk xs f t ps := by
  by_cases c1 : xs.length = 0
  · have hE := swE_bad (xs := xs) (f := f) (t := t) (by unfold swBad; simp [c1])
    have HK := hide (show SwOk xs f t [] from .inl ⟨by rw [hE]; decide, rfl⟩)
    have z1 : ((xs.length : Int) == 0) = true := by simp [c1]
    rw [hE]
    clear hE hx c1
    go_enter Tryd.func7, Tryd.ntmps7
    go_wp2
    go_ret2
    exact ⟨none, 0, [], rfl, rdl_nil _, (by repeat (first | with_reducible exact Gr.refl _ | with_reducible assumption | with_reducible refine Gr.alloc ?_ _ | with_reducible refine Gr.drewN ?_ _ | with_reducible refine Gr.drew ?_ | with_reducible refine Gr.setCell ?_ (by first | (dsimp only; omega) | (simp only [World.size_alloc]; omega) | (with_reducible refine Gr.size ?_; (repeat (first | with_reducible exact Gr.refl _ | with_reducible assumption | with_reducible refine Gr.alloc ?_ _ | with_reducible refine Gr.drewN ?_ _ | with_reducible refine Gr.drew ?_ | with_reducible refine Gr.trans ?_ (by with_reducible assumption))); done)) _ | with_reducible refine Gr.trans ?_ (by with_reducible assumption))), HK.out⟩
  have z1 : ((xs.length : Int) == 0) = false := by rw [beq_eq_false_iff_ne]; omega
  by_cases c2 : 12 < xs.length
  · have hE := swE_bad (xs := xs) (f := f) (t := t) (by unfold swBad; simp [c2])
    have HK := hide (show SwOk xs f t [] from .inl ⟨by rw [hE]; decide, rfl⟩)
    have z2 : (12 : Int) < (xs.length : Int) := by omega
    rw [hE]
    clear hE hx
    go_enter Tryd.func7, Tryd.ntmps7
    go_wp2
    go_ret2
    exact ⟨none, 0, [], rfl, rdl_nil _, (by repeat (first | with_reducible exact Gr.refl _ | with_reducible assumption | with_reducible refine Gr.alloc ?_ _ | with_reducible refine Gr.drewN ?_ _ | with_reducible refine Gr.drew ?_ | with_reducible refine Gr.setCell ?_ (by first | (dsimp only; omega) | (simp only [World.size_alloc]; omega) | (with_reducible refine Gr.size ?_; (repeat (first | with_reducible exact Gr.refl _ | with_reducible assumption | with_reducible refine Gr.alloc ?_ _ | with_reducible refine Gr.drewN ?_ _ | with_reducible refine Gr.drew ?_ | with_reducible refine Gr.trans ?_ (by with_reducible assumption))); done)) _ | with_reducible refine Gr.trans ?_ (by with_reducible assumption))), HK.out⟩
  have z2 : ¬ (12 : Int) < (xs.length : Int) := by omega
  by_cases c3 : f < 0
  · have hE := swE_bad (xs := xs) (f := f) (t := t) (by unfold swBad; simp [c3])
    have HK := hide (show SwOk xs f t [] from .inl ⟨by rw [hE]; decide, rfl⟩)
    rw [hE]
    clear hE hx
    go_enter Tryd.func7, Tryd.ntmps7
    go_wp2
    go_ret2
    exact ⟨none, 0, [], rfl, rdl_nil _, (by repeat (first | with_reducible exact Gr.refl _ | with_reducible assumption | with_reducible refine Gr.alloc ?_ _ | with_reducible refine Gr.drewN ?_ _ | with_reducible refine Gr.drew ?_ | with_reducible refine Gr.setCell ?_ (by first | (dsimp only; omega) | (simp only [World.size_alloc]; omega) | (with_reducible refine Gr.size ?_; (repeat (first | with_reducible exact Gr.refl _ | with_reducible assumption | with_reducible refine Gr.alloc ?_ _ | with_reducible refine Gr.drewN ?_ _ | with_reducible refine Gr.drew ?_ | with_reducible refine Gr.trans ?_ (by with_reducible assumption))); done)) _ | with_reducible refine Gr.trans ?_ (by with_reducible assumption))), HK.out⟩
  by_cases c4 : 6 < t
  · have hE := swE_bad (xs := xs) (f := f) (t := t) (by unfold swBad; simp [c4])
    have HK := hide (show SwOk xs f t [] from .inl ⟨by rw [hE]; decide, rfl⟩)
    rw [hE]
    clear hE hx
    go_enter Tryd.func7, Tryd.ntmps7
    go_wp2
    go_ret2
    exact ⟨none, 0, [], rfl, rdl_nil _, (by repeat (first | with_reducible exact Gr.refl _ | with_reducible assumption | with_reducible refine Gr.alloc ?_ _ | with_reducible refine Gr.drewN ?_ _ | with_reducible refine Gr.drew ?_ | with_reducible refine Gr.setCell ?_ (by first | (dsimp only; omega) | (simp only [World.size_alloc]; omega) | (with_reducible refine Gr.size ?_; (repeat (first | with_reducible exact Gr.refl _ | with_reducible assumption | with_reducible refine Gr.alloc ?_ _ | with_reducible refine Gr.drewN ?_ _ | with_reducible refine Gr.drew ?_ | with_reducible refine Gr.trans ?_ (by with_reducible assumption))); done)) _ | with_reducible refine Gr.trans ?_ (by with_reducible assumption))), HK.out⟩
  by_cases c5 : t < f
  · have hE := swE_bad (xs := xs) (f := f) (t := t) (by unfold swBad; simp [c5])
    have HK := hide (show SwOk xs f t [] from .inl ⟨by rw [hE]; decide, rfl⟩)
    rw [hE]
    clear hE hx
    go_enter Tryd.func7, Tryd.ntmps7
    go_wp2
    go_ret2
    exact ⟨none, 0, [], rfl, rdl_nil _, (by repeat (first | with_reducible exact Gr.refl _ | with_reducible assumption | with_reducible refine Gr.alloc ?_ _ | with_reducible refine Gr.drewN ?_ _ | with_reducible refine Gr.drew ?_ | with_reducible refine Gr.setCell ?_ (by first | (dsimp only; omega) | (simp only [World.size_alloc]; omega) | (with_reducible refine Gr.size ?_; (repeat (first | with_reducible exact Gr.refl _ | with_reducible assumption | with_reducible refine Gr.alloc ?_ _ | with_reducible refine Gr.drewN ?_ _ | with_reducible refine Gr.drew ?_ | with_reducible refine Gr.trans ?_ (by with_reducible assumption))); done)) _ | with_reducible refine Gr.trans ?_ (by with_reducible assumption))), HK.out⟩
  obtain ⟨f, rfl⟩ := Int.eq_ofNat_of_zero_le (show 0 ≤ f by omega)
  obtain ⟨t, rfl⟩ := Int.eq_ofNat_of_zero_le (show 0 ≤ t by omega)
  have hbd := swBad_no c1 c2 c3 c4 c5
  have HBD := hide hbd
  have HX := hide hx
  have HSL := hide (fun (h : sinL xs = true) => sin_in h)
  have hlen : xs.length ≤ 12 := by omega
  have hlen1 : 1 ≤ xs.length := by omega
  have hf6 : f ≤ 6 := by omega
  have ht6 : t ≤ 6 := by omega
  have hft : f ≤ t := by omega
  obtain ⟨i0, hi0, hz0, hz1, hz2⟩ := info_parts infoPt
  obtain ⟨ip, zp, hip, hzp, hsp, hbp, hcp⟩ := elPo
  clear hx hbd c1 c2
  go_enter Tryd.func7, Tryd.ntmps7
  go_wp2
  go_loopw [8] (fun i wr => ∃ m : Nat, m ≤ xs.length ∧ i = iv m ∧ Gr w wr ∧ Hid (∀ j s, j < m → xs[j]? = some s → sinB s.1 s.2 = true)) (fun i _ => xs.length - (intOf i).toNat)
  case atStart => exact ⟨0, by omega, rfl, (by repeat (first | with_reducible exact Gr.refl _ | with_reducible assumption | with_reducible refine Gr.alloc ?_ _ | with_reducible refine Gr.drewN ?_ _ | with_reducible refine Gr.drew ?_ | with_reducible refine Gr.setCell ?_ (by first | (dsimp only; omega) | (simp only [World.size_alloc]; omega) | (with_reducible refine Gr.size ?_; (repeat (first | with_reducible exact Gr.refl _ | with_reducible assumption | with_reducible refine Gr.alloc ?_ _ | with_reducible refine Gr.drewN ?_ _ | with_reducible refine Gr.drew ?_ | with_reducible refine Gr.trans ?_ (by with_reducible assumption))); done)) _ | with_reducible refine Gr.trans ?_ (by with_reducible assumption))), hide (fun j s h => absurd h (Nat.not_lt_zero j))⟩
  case round =>
    obtain ⟨m, hm, rfl, g, HS⟩ := hrel
    by_cases hlt : m < xs.length
    · obtain ⟨p, hp⟩ : ∃ p, xs[m]? = some p := ⟨_, List.getElem?_eq_getElem hlt⟩
      obtain ⟨b, off, rfl, x0, x1⟩ := (HX.out.gr g) m p hp
      have HP := hide hp
      have hm0 : (0 : Int) ≤ (m : Int) := by omega
      have hm1 : (m : Int) < (xs.length : Int) := by omega
      have hb : b < wr.heap.size := cell_lt (by rw [x0]; rfl)
      have HSP := hide (fun w' => rspotIn_any p.1 p.2 w')
      clear hp
      cases hv : sinB p.1 p.2 with
      | true =>
        have HS' := hide (show ∀ j s, j < m + 1 → xs[j]? = some s → sinB s.1 s.2 = true by
          intro j s hj hs
          rcases Nat.lt_or_ge j m with h | h
          · exact HS.out j s h hs
          · obtain rfl : j = m := by omega
            rw [HP.out] at hs
            obtain rfl := Option.some.inj hs
            exact hv)
        rw [hv] at HSP
        clear hv
        go_wp2_with (first | (go_at_call 15; refine (HSP.out _).mono ?_; rintro e w1 ⟨rfl, g1⟩; obtain ⟨X1, Y1, c1, f1⟩ := g1.use))
        go_roundw
        case rel => exact ⟨m + 1, by omega, by go_num, (by repeat (first | with_reducible exact Gr.refl _ | with_reducible assumption | with_reducible refine Gr.alloc ?_ _ | with_reducible refine Gr.drewN ?_ _ | with_reducible refine Gr.drew ?_ | with_reducible refine Gr.setCell ?_ (by first | (dsimp only; omega) | (simp only [World.size_alloc]; omega) | (with_reducible refine Gr.size ?_; (repeat (first | with_reducible exact Gr.refl _ | with_reducible assumption | with_reducible refine Gr.alloc ?_ _ | with_reducible refine Gr.drewN ?_ _ | with_reducible refine Gr.drew ?_ | with_reducible refine Gr.trans ?_ (by with_reducible assumption))); done)) _ | with_reducible refine Gr.trans ?_ (by with_reducible assumption))), HS'⟩
        case measure => simp only [intOf]; omega
      | false =>
        have hE := hide (swE_sin (xs := xs) HBD.out (by
          unfold sinL
          rw [List.all_eq_false]
          exact ⟨p, List.mem_of_getElem? HP.out, by simp [hv]⟩))
        have HK := hide (show SwOk xs (f : Int) (t : Int) [] from .inl ⟨by rw [hE.out]; decide, rfl⟩)
        rw [hv] at HSP
        clear hv
        go_wp2_with (first | (go_at_call 15; refine (HSP.out _).mono ?_; rintro e w1 ⟨rfl, g1⟩; obtain ⟨X1, Y1, c1, f1⟩ := g1.use))
        go_ret2
        exact ⟨none, 0, [], by rw [hE.out]; rfl, rdl_nil _, (by repeat (first | with_reducible exact Gr.refl _ | with_reducible assumption | with_reducible refine Gr.alloc ?_ _ | with_reducible refine Gr.drewN ?_ _ | with_reducible refine Gr.drew ?_ | with_reducible refine Gr.setCell ?_ (by first | (dsimp only; omega) | (simp only [World.size_alloc]; omega) | (with_reducible refine Gr.size ?_; (repeat (first | with_reducible exact Gr.refl _ | with_reducible assumption | with_reducible refine Gr.alloc ?_ _ | with_reducible refine Gr.drewN ?_ _ | with_reducible refine Gr.drew ?_ | with_reducible refine Gr.trans ?_ (by with_reducible assumption))); done)) _ | with_reducible refine Gr.trans ?_ (by with_reducible assumption))), HK.out⟩
    · obtain rfl : m = xs.length := by omega
      have hsl : sinL xs = true := by
        unfold sinL
        rw [List.all_eq_true]
        intro s hs
        obtain ⟨i, hi⟩ := List.mem_iff_getElem?.1 hs
        exact HS.out i s (List.getElem?_eq_some_iff.1 hi).1 hi
      have HIN := hide (HSL.out hsl)
      have hE := hide (swE_ok HBD.out hsl)
      clear hsl HS
      have hN1 : 1 ≤ swN f t := by unfold swN; split <;> omega
      have hN6 : swN f t ≤ 6 := by unfold swN; split <;> omega
      have hNf : f + swN f t ≤ 12 := by unfold swN; split <;> omega
      have HNK := hide (fun (j : Nat) (hj : j < swN f t) => show (decide (f + j < t) || ((f + j : Nat) : Int) == (f : Int)) = true ∧ (f = t → j = 0) by
        unfold swN at hj
        split at hj
        · obtain rfl : j = 0 := by omega
          exact ⟨by simp, fun _ => rfl⟩
        · exact ⟨by rw [decide_eq_true (by omega)]; rfl, fun h => by omega⟩)
      have HNE := hide (show decide (f + swN f t < t) = false ∧ (((f + swN f t : Nat) : Int) == (f : Int)) = false by
        unfold swN
        split
        · exact ⟨by rw [decide_eq_false_iff_not]; omega, by rw [beq_eq_false_iff_ne]; omega⟩
        · exact ⟨by rw [decide_eq_false_iff_not]; omega, by rw [beq_eq_false_iff_ne]; omega⟩)
      go_wp2
      go_loopw [9, 10] (fun v i wr => ∃ (j : Nat) (ps : List PL), j ≤ swN f t ∧ i = iv (f + j : Nat) ∧ ps.length = j ∧ Gr w wr ∧ Hid (OwP wr w.heap.size v ps ∧ SwR xs f t ps)) (fun _ i _ => swN f t + f - (intOf i).toNat)
      case atStart => exact ⟨0, [], by omega, by simp, rfl, g, hide ⟨owP_nil _ _, fun i l hl => by simp at hl⟩⟩
      case round =>
        clear g
        obtain ⟨j, ps, hj, rfl, hps, g, HS⟩ := hrel
        have HPS := hide hps
        have hpl : ps.length ≤ 12 := by omega
        clear hps
        obtain ⟨K, hK⟩ : ∃ K, f + j = K := ⟨_, rfl⟩
        have HKK := hide hK
        simp only [hK]
        by_cases hjn : j < swN f t
        · have HB := hide (HNK.out j hjn)
          obtain ⟨hb1, hb2⟩ := HB.out
          rw [hK] at hb1
          have hKl : K + 1 < 12 := by omega
          have hcc : (decide (K < t) = true) ∨ (decide (K < t) = false ∧ (((K : Nat) : Int) == (f : Int)) = true) := by
            cases h : decide (K < t) with
            | true => exact .inl rfl
            | false => rw [h] at hb1; exact .inr ⟨rfl, by simpa using hb1⟩
          have W1 : IntKind.i64.wrap ((K : Int) + 1) = (K : Int) + 1 := IntWalk.i64_in _ (by omega)
          have HTU := hide (fun (q : Nat) (p : Spt) (w' : World) (hp : p ∈ xs) (hq : q < 12) => turned_any p.1 p.2 q w' (HIN.out p hp).1 (HIN.out p hp).2 hq)
          clear hK hb1
          obtain ⟨wo, rfl⟩ : ∃ wo, wo = wr := ⟨_, rfl⟩
          rcases hcc with hcc | ⟨hcc, hcd⟩
          all_goals
            go_wp2
            go_loopw [11, 12] (fun v i wr => ∃ m : Nat, m ≤ xs.length ∧ i = iv m ∧ Gr wo wr ∧ Hid (Own wr wo.heap.size v (rPs f t K (xs.take m)))) (fun _ i _ => xs.length - (intOf i).toNat)
            case atStart => exact ⟨0, by omega, rfl, Gr.refl _, World.ownsRow_nil _ _ _ _⟩
            case round =>
              obtain ⟨m, hm, rfl, g2, HO⟩ := hrel
              by_cases hlt : m < xs.length
              · obtain ⟨p, hp⟩ : ∃ p, xs[m]? = some p := ⟨_, List.getElem?_eq_getElem hlt⟩
                obtain ⟨b, off, rfl, x0, x1⟩ := (HX.out.gr (g.trans g2)) m p hp
                have HPM := hide (List.mem_of_getElem? hp)
                have HPX := hide hp
                have HAT := hide (rPs_at (f := f) (t := t) (K := K) hp)
                have hlb := (rPs_len f t K (xs.take m)).2
                have hlt2 : (xs.take m).length = m := by simp; omega
                rw [hlt2] at hlb
                have hm0 : (0 : Int) ≤ (m : Int) := by omega
                have hm1 : (m : Int) < (xs.length : Int) := by omega
                have hb : b < wr.heap.size := cell_lt (by rw [x0]; rfl)
                generalize rPs f t K (xs.take m) = R at *
                clear hp hlt2
                go_wp2_with fail
                refine (HTU.out K p _ HPM.out (by omega)).mono ?_
                rintro e w2 ⟨rfl, g3⟩
                have HO2 := hide (own_gr1 HO.out g3)
                have HOLT := hide (fun k hk => (World.ownsRow.lt HO2.out k hk).1)
                have s2 := g3.size
                have s1 := g2.size
                have C1 := hide (cells_new4 w2 (tnP K p))
                have C2 : Hid (∀ u ∈ cellsOfPt (tnP K p), u.oneCell' = true) := by intro u hu; simp at hu; rcases hu with rfl | rfl | rfl | rfl <;> rfl
                have C3 : Hid (R.length + 1 ≤ maxLen) := by unfold Hid maxLen; omega
                have C4 : Hid ((R.length + 1) * 32 ≤ 140737488355328) := by unfold Hid; omega
                have C5 : Hid (wo.heap.size ≤ (w2.alloc (.cells #[iv (tnP K p).1, iv (tnP K p).2.1, iv (tnP K p).2.2.1, iv (tnP K p).2.2.2] 34)).heap.size) := by unfold Hid; simp; omega
                obtain ⟨X3, Y3, c3, f3⟩ := g3.use
                by_cases hft2 : f < t
                · have HR1 := hide (show rP1 f t K p = [tnP K p] ++ [tnP (K + 1) p] by unfold rP1; rw [if_pos hft2]; rfl)
                  have hd1 : decide (f < t) = true := decide_eq_true hft2
                  have HTU2 := hide (fun (w' : World) => by
                    have h := HTU.out (K + 1) p w' HPM.out hKl
                    rw [show ((K + 1 : Nat) : Int) = (K : Int) + 1 by omega] at h
                    exact h)
                  have sg := g.size
                  go_wp2_with (first | (at_builtin; refine wpList_append_own _ rfl _ _ 29 rfl wo.heap.size 34 i0 _ 4 32 Tryd.underlying29 hi0 hz0 hz1 hz2 rfl (by decide) _ _ _ rfl (HO2.out.alloc _) ⟨w2.heap.size, 0, none⟩ 1 1 (cellsOfPt (tnP K p)) rfl rfl C1.out C2.out C3.out C4.out C5.out ?_; intro v3 w3 hown3 hg3 hn3; have gww3 := Gr.grown (((g.trans g2).trans g3).alloc _) hg3 (fun k hk => Nat.le_trans sg (HOLT.out k hk)); obtain ⟨b', o', e', y0, y1⟩ := HX.out.gr gww3 m p HPX.out; cases e') | fail)
                  have gow3 : Gr wo w3 := Gr.grown ((g2.trans g3).alloc _) hg3 HOLT.out
                  have HO3 := hide hown3
                  have s3 := gow3.size
                  clear hown3 hg3 hn3 C1 C2 C3 C4 C5 HOLT c3 f3 y0 y1 gww3
                  refine (HTU2.out _).mono ?_
                  rintro e w4 ⟨rfl, g4⟩
                  have HO4 := hide (own_gr1 HO3.out g4)
                  have HOLT4 := hide (fun k hk => (World.ownsRow.lt HO4.out k hk).1)
                  have s4 := g4.size
                  have C1 := hide (cells_new4 w4 (tnP (K + 1) p))
                  have C2 : Hid (∀ u ∈ cellsOfPt (tnP (K + 1) p), u.oneCell' = true) := by intro u hu; simp at hu; rcases hu with rfl | rfl | rfl | rfl <;> rfl
                  have C3 : Hid (R.length + 1 + 1 ≤ maxLen) := by unfold Hid maxLen; omega
                  have C4 : Hid ((R.length + 1 + 1) * 32 ≤ 140737488355328) := by unfold Hid; omega
                  have C5 : Hid (wo.heap.size ≤ (w4.alloc (.cells #[iv (tnP (K + 1) p).1, iv (tnP (K + 1) p).2.1, iv (tnP (K + 1) p).2.2.1, iv (tnP (K + 1) p).2.2.2] 34)).heap.size) := by unfold Hid; simp; omega
                  go_wp2_with (at_builtin; refine wpList_append_own _ rfl _ _ 29 rfl wo.heap.size 34 i0 _ 4 32 Tryd.underlying29 hi0 hz0 hz1 hz2 rfl (by decide) _ _ _ rfl (HO4.out.alloc _) ⟨w4.heap.size, 0, none⟩ 1 1 (cellsOfPt (tnP (K + 1) p)) rfl rfl C1.out C2.out C3.out C4.out C5.out ?_; intro v5 w5 hown5 hg5 hn5)
                  go_roundw
                  case rel =>
                    refine ⟨m + 1, by omega, by go_num, Gr.grown ((gow3.trans g4).alloc _) hg5 HOLT4.out, hide ?_⟩
                    unfold Own
                    rw [HAT.out, HR1.out, ← List.append_assoc, flat_snoc, flat_snoc, List.length_append, List.length_append]
                    exact hown5
                  case measure => simp only [intOf]; omega
                · have HR1 := hide (show rP1 f t K p = [tnP K p] by unfold rP1; rw [if_neg hft2])
                  have hd1 : decide (f < t) = false := decide_eq_false hft2
                  go_wp2_with (at_builtin; refine wpList_append_own _ rfl _ _ 29 rfl wo.heap.size 34 i0 _ 4 32 Tryd.underlying29 hi0 hz0 hz1 hz2 rfl (by decide) _ _ _ rfl (HO2.out.alloc _) ⟨w2.heap.size, 0, none⟩ 1 1 (cellsOfPt (tnP K p)) rfl rfl C1.out C2.out C3.out C4.out C5.out ?_; intro v3 w3 hown3 hg3 hn3)
                  go_roundw
                  case rel =>
                    refine ⟨m + 1, by omega, by go_num, Gr.grown ((g2.trans g3).alloc _) hg3 HOLT.out, hide ?_⟩
                    unfold Own
                    rw [HAT.out, HR1.out, flat_snoc, List.length_append]
                    exact hown3
                  case measure => simp only [intOf]; omega
              · obtain rfl : m = xs.length := by omega
                rw [List.take_length] at HO
                have hRl := rPs_len f t K xs
                have hne : (rPs f t K xs).map vOf ≠ [] := by
                  intro e
                  have h0 : (rPs f t K xs).length = 0 := by
                    have := congrArg List.length e
                    rwa [List.length_map] at this
                  have h1 := hRl.1
                  omega
                obtain ⟨a, s, hr⟩ := run_pts hne
                have hrj : G.Run ((swP xs f t j).map vOf) (vOf a) (s.map vOf) := hr.congr (k := (swP xs f t j).map vOf) (fun x => by
                  simp only [List.mem_map]
                  exact ⟨fun ⟨p, h1, h2⟩ => ⟨p, by have := (rPs_mem hft hb2 p).2 h1; rwa [HKK.out] at this, h2⟩, fun ⟨p, h1, h2⟩ => ⟨p, (rPs_mem hft hb2 p).1 (by rw [HKK.out]; exact h1), h2⟩⟩)
                have hyl := run_len (ys := a :: s) rfl hr
                have hyl2 : (a :: s).length ≤ 1000000 := by omega
                obtain ⟨A6, d6, hv6⟩ := HO.out.slice
                subst hv6
                have HWR := hide (wrap_any A6 d6 (rPs f t K xs) wr a s (Own.rd HO.out).2 (rPs_in HIN.out) (by omega) (by omega) hr)
                have HNX := hide (fun (A4 : Option Addr) (d4 : Nat) => swR_next (l := (A4, a :: s, d4)) HS.out.2 ⟨a, s, rfl, by rw [HPS.out]; exact hrj⟩)
                have sg := g.size
                have s2 := g2.size
                generalize a :: s = ys at *
                clear hr hrj hne hyl HO
                generalize (rPs f t K xs).length = rl at *
                go_wp2_with fail
                refine HWR.out.mono ?_
                rintro e w4 ⟨v4, rfl, o4, g4⟩
                obtain ⟨A4, d4, rfl⟩ := o4.slice
                have HRD := hide (Own.rd o4).2
                have HAL := hide (fun a (ha : A4 = some a) => own_lt o4 ha)
                have gw4 : Gr wo w4 := g2.trans g4
                have s4 := g4.size
                have HRW := hide (own_gr1 HS.out.1.row (Gr.alloc gw4 (.cells #[.slice A4 ys.length d4] 29)))
                have HLT := hide (fun k hk => (World.ownsRow.lt HRW.out k hk).1)
                clear o4 g4 g2
                go_wp2_with (at_builtin; refine wpList_append_lies (w4.alloc (.cells #[.slice A4 ys.length d4] 29)) rfl _ _ _ rfl w.heap.size 29 ip zp 1 24 Tryd.underlying24 hip hzp hsp hbp hcp (by decide) _ ps.length _ rfl HRW.out ⟨w4.heap.size, 0, none⟩ 1 1 [.slice A4 ys.length d4] rfl rfl (by intro j u hu; match j with | 0 => (simp at hu; subst hu; simp [Addr.add, go_sem]) | j + 1 => simp at hu) (by intro u hu; simp at hu; subst hu; rfl) (by omega) (by unfold maxLen; omega) (by omega) (by simp only [World.size_alloc]; omega) _ rfl ?_; intro g5 c5 w6 hown6 hg6 hat6 hlt6)
                have HN6 := hide (owP_next (w2 := w4.alloc (.cells #[.slice A4 ys.length d4] 29)) HS.out.1 (Gr.alloc gw4 _) (HRD.out.gr (Gr.alloc (Gr.refl _) _)) hyl2 (fun a ha => by
                  obtain ⟨h1, h2⟩ := HAL.out a ha
                  simp only [World.size_alloc]
                  omega) hown6 hg6 (by
                  rcases hat6 with h | h
                  · exact .inl h.symm
                  · exact .inr (by rw [h]; rfl)))
                have gw6 : Gr w w6 := Gr.grown (g.trans (Gr.alloc gw4 _)) hg6 HLT.out
                clear hown6 hg6 hat6 hlt6
                go_roundw
                case rel => exact ⟨j + 1, ps ++ [(A4, ys, d4)], by omega, by rw [show f + (j + 1) = K + 1 by have := HKK.out; omega]; go_num, by rw [List.length_append, HPS.out]; rfl, gw6, hide ⟨HN6.out, HNX.out A4 d4⟩⟩
                case measure => simp only [intOf]; have := HKK.out; omega
        · have hje : j = swN f t := by omega
          obtain ⟨hb1, hb2⟩ := HNE.out
          rw [← hje, hK] at hb1 hb2
          obtain ⟨A9, d9, hv9⟩ := owP_slice HS.out.1
          subst hv9
          have HRD := hide (OwP.rd HS.out.1).2
          have HK := hide (show SwOk xs (f : Int) (t : Int) ps from .inr ⟨hE.out, by rw [Int.toNat_natCast, Int.toNat_natCast, HPS.out]; exact hje, by rw [Int.toNat_natCast, Int.toNat_natCast]; exact HS.out.2⟩)
          clear hK hje
          go_wp2
          go_ret2
          exact ⟨A9, d9, ps, by rw [hE.out]; rfl, HRD.out, g, HK.out⟩
end Go.Proofs.YtloefohekhkehaaDoor
