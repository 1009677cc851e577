/-
  Sweep of the code: the walk.
-/
import Derived.Test.YtloefohekhkehaaDoorSw2
set_option linter.unusedVariables false
set_option linter.unusedSimpArgs false
namespace Go.Proofs.YtloefohekhkehaaDoor
set_option linter.unusedVariables false
set_option linter.unusedSimpArgs false
open Go Go.ChangeShapes Go.WideShapes Go.ChangeAt Go.RowKit Go.Deep

theorem owP_slice {w : World} {base : Nat} {v : Value} {ps : List PL} (h : OwP w base v ps) : ∃ A d, v = .slice A ps.length d := by
  rcases h.row.2 with ⟨h1, h2⟩ | ⟨g, cap, cur, h1, _⟩
  · exact ⟨none, 0, by rw [h1, h2]⟩
  · exact ⟨_, cap, h1⟩
/-- what Sweep gives -/
def SwOk (xs : List Spt) (f t : Int) (ps : List PL) : Prop := (swE xs f t ≠ 0 ∧ ps = []) ∨ (swE xs f t = 0 ∧ ps.length = swN f.toNat t.toNat ∧ SwR xs f.toNat t.toNat ps)
theorem swE_bad {xs : List Spt} {f t : Int} (h : swBad xs.length f t = true) : swE xs f t = 1 := by unfold swE; rw [if_pos h]
theorem swE_sin {xs : List Spt} {f t : Int} (h : swBad xs.length f t = false) (k : sinL xs = false) : swE xs f t = 1 := by unfold swE; rw [if_neg (by simp [h]), if_neg (by simp [k])]
theorem swE_ok {xs : List Spt} {f t : Int} (h : swBad xs.length f t = false) (k : sinL xs = true) : swE xs f t = 0 := by unfold swE; rw [if_neg (by simp [h]), if_pos k]
theorem swBad_no {n : Nat} {f t : Int} (h1 : ¬ n = 0) (h2 : ¬ 12 < n) (h3 : ¬ f < 0) (h4 : ¬ 6 < t) (h5 : ¬ t < f) : swBad n f t = false := by unfold swBad; simp; omega
theorem rdl_nil (w : World) : RdL w none [] := fun i l hl => by simp at hl
theorem rdl_one {w : World} {A : Option Addr} {n : Nat} {ys : List Pt} {t : TypeId} (h : Rd w A ys) (hl : ys.length ≤ 1000000) : RdL (w.alloc (.cells #[.slice A ys.length n] t)) (some ⟨w.heap.size, 0, none⟩) [(A, ys, n)] := by
  intro i l hi
  match i with
  | 0 =>
    simp at hi
    subst hi
    exact ⟨⟨w.heap.size, 0, rfl, by simp [go_sem]⟩, h.gr (Gr.alloc (Gr.refl w) _), hl⟩
  | i + 1 => simp at hi
theorem elPo : ∃ i z, Tryd.prog.info? 29 = some i ∧ i.zero = some z ∧ i.size = 1 ∧ i.bytes = 24 ∧ z.cells.size = 1 := by
  have hi : (Tryd.prog.info? 29).map (fun i => (i.zero, i.size, i.bytes)) = some (some (.slice none 0 0), 1, 24) := by kernel_rfl
  cases e1 : Tryd.prog.info? 29 with
  | none => rw [e1] at hi; cases hi
  | some i =>
    rw [e1] at hi
    simp only [Option.map_some, Option.some.injEq, Prod.mk.injEq] at hi
    exact ⟨i, _, rfl, hi.1, hi.2.1, hi.2.2, rfl⟩
theorem run_len {xs ys : List Pt} {a : Pt} {t : List Pt} (e : ys = a :: t) (r : G.Run (xs.map vOf) (vOf a) (t.map vOf)) : ys.length ≤ xs.length := by
  have := r.length
  simp only [List.length_map] at this
  subst e
  simpa using this
theorem swR_next {xs : List Spt} {f t : Nat} {ps : List PL} {l : PL} (h : SwR xs f t ps) (hl : ∃ a s, l.2.1 = a :: s ∧ G.Run ((swP xs f t ps.length).map vOf) (vOf a) (s.map vOf)) : SwR xs f t (ps ++ [l]) := by
  intro i m hm
  by_cases hi : i < ps.length
  · rw [List.getElem?_append_left hi] at hm
    exact h i m hm
  · rw [List.getElem?_append_right (by omega)] at hm
    have hi2 : i - ps.length = 0 := by
      have := (List.getElem?_eq_some_iff.1 hm).1
      simp at this
      omega
    rw [hi2] at hm
    simp at hm
    subst hm
    rw [show i = ps.length by omega]
    exact hl
set_option maxHeartbeats 2000000 in
set_option maxRecDepth 100000 in
theorem Sweep_any (A : Option Addr) (c : Nat) (xs : List Spt) (f t : Int) (w : World) (hx : RdS w A xs) (lx : xs.length ≤ 1000000) (ht : Tab w) :
    Calls Tryd.prog 6 #[.slice A xs.length c, iv f, iv t] w fun e w' => ∃ A' d ps, e = .returned (.tuple #[.slice A' ps.length d, iv (swE xs f t)]) ∧ RdL w' A' ps ∧ Gr w w' ∧ SwOk xs f t ps := by
  by_cases c1 : xs.length = 0
  · have hE := swE_bad (xs := xs) (f := f) (t := t) (by unfold swBad; simp [c1])
    have HK := hide (show SwOk xs f t [] from .inl ⟨by rw [hE]; decide, rfl⟩)
    have z1 : ((xs.length : Int) == 0) = true := by simp [c1]
    rw [hE]
    clear hE hx ht c1
    go_enter Tryd.func6, Tryd.ntmps6
    go_wp2
    go_ret2
    exact ⟨none, 0, [], rfl, rdl_nil _, (by repeat (first | with_reducible exact Gr.refl _ | with_reducible assumption | with_reducible refine Gr.alloc ?_ _ | with_reducible refine Gr.drewN ?_ _ | with_reducible refine Gr.drew ?_ | with_reducible refine Gr.setCell ?_ (by first | (dsimp only; omega) | (simp only [World.size_alloc]; omega) | (with_reducible refine Gr.size ?_; (repeat (first | with_reducible exact Gr.refl _ | with_reducible assumption | with_reducible refine Gr.alloc ?_ _ | with_reducible refine Gr.drewN ?_ _ | with_reducible refine Gr.drew ?_ | with_reducible refine Gr.trans ?_ (by with_reducible assumption))); done)) _ | with_reducible refine Gr.trans ?_ (by with_reducible assumption))), HK.out⟩
  have z1 : ((xs.length : Int) == 0) = false := by rw [beq_eq_false_iff_ne]; omega
  by_cases c2 : 12 < xs.length
  · have hE := swE_bad (xs := xs) (f := f) (t := t) (by unfold swBad; simp [c2])
    have HK := hide (show SwOk xs f t [] from .inl ⟨by rw [hE]; decide, rfl⟩)
    have z2 : (12 : Int) < (xs.length : Int) := by omega
    rw [hE]
    clear hE hx ht
    go_enter Tryd.func6, Tryd.ntmps6
    go_wp2
    go_ret2
    exact ⟨none, 0, [], rfl, rdl_nil _, (by repeat (first | with_reducible exact Gr.refl _ | with_reducible assumption | with_reducible refine Gr.alloc ?_ _ | with_reducible refine Gr.drewN ?_ _ | with_reducible refine Gr.drew ?_ | with_reducible refine Gr.setCell ?_ (by first | (dsimp only; omega) | (simp only [World.size_alloc]; omega) | (with_reducible refine Gr.size ?_; (repeat (first | with_reducible exact Gr.refl _ | with_reducible assumption | with_reducible refine Gr.alloc ?_ _ | with_reducible refine Gr.drewN ?_ _ | with_reducible refine Gr.drew ?_ | with_reducible refine Gr.trans ?_ (by with_reducible assumption))); done)) _ | with_reducible refine Gr.trans ?_ (by with_reducible assumption))), HK.out⟩
  have z2 : ¬ (12 : Int) < (xs.length : Int) := by omega
  by_cases c3 : f < 0
  · have hE := swE_bad (xs := xs) (f := f) (t := t) (by unfold swBad; simp [c3])
    have HK := hide (show SwOk xs f t [] from .inl ⟨by rw [hE]; decide, rfl⟩)
    rw [hE]
    clear hE hx ht
    go_enter Tryd.func6, Tryd.ntmps6
    go_wp2
    go_ret2
    exact ⟨none, 0, [], rfl, rdl_nil _, (by repeat (first | with_reducible exact Gr.refl _ | with_reducible assumption | with_reducible refine Gr.alloc ?_ _ | with_reducible refine Gr.drewN ?_ _ | with_reducible refine Gr.drew ?_ | with_reducible refine Gr.setCell ?_ (by first | (dsimp only; omega) | (simp only [World.size_alloc]; omega) | (with_reducible refine Gr.size ?_; (repeat (first | with_reducible exact Gr.refl _ | with_reducible assumption | with_reducible refine Gr.alloc ?_ _ | with_reducible refine Gr.drewN ?_ _ | with_reducible refine Gr.drew ?_ | with_reducible refine Gr.trans ?_ (by with_reducible assumption))); done)) _ | with_reducible refine Gr.trans ?_ (by with_reducible assumption))), HK.out⟩
  by_cases c4 : 6 < t
  · have hE := swE_bad (xs := xs) (f := f) (t := t) (by unfold swBad; simp [c4])
    have HK := hide (show SwOk xs f t [] from .inl ⟨by rw [hE]; decide, rfl⟩)
    rw [hE]
    clear hE hx ht
    go_enter Tryd.func6, Tryd.ntmps6
    go_wp2
    go_ret2
    exact ⟨none, 0, [], rfl, rdl_nil _, (by repeat (first | with_reducible exact Gr.refl _ | with_reducible assumption | with_reducible refine Gr.alloc ?_ _ | with_reducible refine Gr.drewN ?_ _ | with_reducible refine Gr.drew ?_ | with_reducible refine Gr.setCell ?_ (by first | (dsimp only; omega) | (simp only [World.size_alloc]; omega) | (with_reducible refine Gr.size ?_; (repeat (first | with_reducible exact Gr.refl _ | with_reducible assumption | with_reducible refine Gr.alloc ?_ _ | with_reducible refine Gr.drewN ?_ _ | with_reducible refine Gr.drew ?_ | with_reducible refine Gr.trans ?_ (by with_reducible assumption))); done)) _ | with_reducible refine Gr.trans ?_ (by with_reducible assumption))), HK.out⟩
  by_cases c5 : t < f
  · have hE := swE_bad (xs := xs) (f := f) (t := t) (by unfold swBad; simp [c5])
    have HK := hide (show SwOk xs f t [] from .inl ⟨by rw [hE]; decide, rfl⟩)
    rw [hE]
    clear hE hx ht
    go_enter Tryd.func6, Tryd.ntmps6
    go_wp2
    go_ret2
    exact ⟨none, 0, [], rfl, rdl_nil _, (by repeat (first | with_reducible exact Gr.refl _ | with_reducible assumption | with_reducible refine Gr.alloc ?_ _ | with_reducible refine Gr.drewN ?_ _ | with_reducible refine Gr.drew ?_ | with_reducible refine Gr.setCell ?_ (by first | (dsimp only; omega) | (simp only [World.size_alloc]; omega) | (with_reducible refine Gr.size ?_; (repeat (first | with_reducible exact Gr.refl _ | with_reducible assumption | with_reducible refine Gr.alloc ?_ _ | with_reducible refine Gr.drewN ?_ _ | with_reducible refine Gr.drew ?_ | with_reducible refine Gr.trans ?_ (by with_reducible assumption))); done)) _ | with_reducible refine Gr.trans ?_ (by with_reducible assumption))), HK.out⟩
  obtain ⟨f, rfl⟩ := Int.eq_ofNat_of_zero_le (show 0 ≤ f by omega)
  obtain ⟨t, rfl⟩ := Int.eq_ofNat_of_zero_le (show 0 ≤ t by omega)
  have hbd := swBad_no c1 c2 c3 c4 c5
  have HBD := hide hbd
  have HX := hide hx
  have HT := hide ht
  have HSL := hide (fun (h : sinL xs = true) => sin_in h)
  have hlen : xs.length ≤ 12 := by omega
  have hlen1 : 1 ≤ xs.length := by omega
  have hf6 : f ≤ 6 := by omega
  have ht6 : t ≤ 6 := by omega
  have hft : f ≤ t := by omega
  obtain ⟨i0, hi0, hz0, hz1, hz2⟩ := info_parts infoPt
  obtain ⟨ip, zp, hip, hzp, hsp, hbp, hcp⟩ := elPo
  clear hx ht hbd c1 c2
  go_enter Tryd.func6, Tryd.ntmps6
  go_wp2
  go_loopw [35] (fun i wr => ∃ m : Nat, m ≤ xs.length ∧ i = iv m ∧ Gr w wr ∧ Hid (∀ j s, j < m → xs[j]? = some s → sinB s.1 s.2 = true)) (fun i _ => xs.length - (intOf i).toNat)
  case atStart => exact ⟨0, by omega, rfl, (by repeat (first | with_reducible exact Gr.refl _ | with_reducible assumption | with_reducible refine Gr.alloc ?_ _ | with_reducible refine Gr.drewN ?_ _ | with_reducible refine Gr.drew ?_ | with_reducible refine Gr.setCell ?_ (by first | (dsimp only; omega) | (simp only [World.size_alloc]; omega) | (with_reducible refine Gr.size ?_; (repeat (first | with_reducible exact Gr.refl _ | with_reducible assumption | with_reducible refine Gr.alloc ?_ _ | with_reducible refine Gr.drewN ?_ _ | with_reducible refine Gr.drew ?_ | with_reducible refine Gr.trans ?_ (by with_reducible assumption))); done)) _ | with_reducible refine Gr.trans ?_ (by with_reducible assumption))), hide (fun j s h => absurd h (Nat.not_lt_zero j))⟩
  case round =>
    obtain ⟨m, hm, rfl, g, HS⟩ := hrel
    by_cases hlt : m < xs.length
    · obtain ⟨p, hp⟩ : ∃ p, xs[m]? = some p := ⟨_, List.getElem?_eq_getElem hlt⟩
      obtain ⟨b, off, rfl, x0, x1⟩ := (HX.out.gr g) m p hp
      have HP := hide hp
      have hm0 : (0 : Int) ≤ (m : Int) := by omega
      have hm1 : (m : Int) < (xs.length : Int) := by omega
      have hb : b < wr.heap.size := cell_lt (by rw [x0]; rfl)
      have HSP := hide (fun w' => spotWithin_any p.1 p.2 w')
      clear hp
      cases hv : sinB p.1 p.2 with
      | true =>
        have HS' := hide (show ∀ j s, j < m + 1 → xs[j]? = some s → sinB s.1 s.2 = true by
          intro j s hj hs
          rcases Nat.lt_or_ge j m with h | h
          · exact HS.out j s h hs
          · obtain rfl : j = m := by omega
            rw [HP.out] at hs
            obtain rfl := Option.some.inj hs
            exact hv)
        rw [hv] at HSP
        clear hv
        go_wp2_with (first | (go_at_call 12; refine (HSP.out _).mono ?_; rintro e w1 ⟨rfl, g1⟩; obtain ⟨X1, Y1, c1, f1⟩ := g1.use))
        go_roundw
        case rel => exact ⟨m + 1, by omega, by go_num, (by repeat (first | with_reducible exact Gr.refl _ | with_reducible assumption | with_reducible refine Gr.alloc ?_ _ | with_reducible refine Gr.drewN ?_ _ | with_reducible refine Gr.drew ?_ | with_reducible refine Gr.setCell ?_ (by first | (dsimp only; omega) | (simp only [World.size_alloc]; omega) | (with_reducible refine Gr.size ?_; (repeat (first | with_reducible exact Gr.refl _ | with_reducible assumption | with_reducible refine Gr.alloc ?_ _ | with_reducible refine Gr.drewN ?_ _ | with_reducible refine Gr.drew ?_ | with_reducible refine Gr.trans ?_ (by with_reducible assumption))); done)) _ | with_reducible refine Gr.trans ?_ (by with_reducible assumption))), HS'⟩
        case measure => simp only [intOf]; omega
      | false =>
        have hE := hide (swE_sin (xs := xs) HBD.out (by
          unfold sinL
          rw [List.all_eq_false]
          exact ⟨p, List.mem_of_getElem? HP.out, by simp [hv]⟩))
        have HK := hide (show SwOk xs (f : Int) (t : Int) [] from .inl ⟨by rw [hE.out]; decide, rfl⟩)
        rw [hv] at HSP
        clear hv
        go_wp2_with (first | (go_at_call 12; refine (HSP.out _).mono ?_; rintro e w1 ⟨rfl, g1⟩; obtain ⟨X1, Y1, c1, f1⟩ := g1.use))
        go_ret2
        exact ⟨none, 0, [], by rw [hE.out]; rfl, rdl_nil _, (by repeat (first | with_reducible exact Gr.refl _ | with_reducible assumption | with_reducible refine Gr.alloc ?_ _ | with_reducible refine Gr.drewN ?_ _ | with_reducible refine Gr.drew ?_ | with_reducible refine Gr.setCell ?_ (by first | (dsimp only; omega) | (simp only [World.size_alloc]; omega) | (with_reducible refine Gr.size ?_; (repeat (first | with_reducible exact Gr.refl _ | with_reducible assumption | with_reducible refine Gr.alloc ?_ _ | with_reducible refine Gr.drewN ?_ _ | with_reducible refine Gr.drew ?_ | with_reducible refine Gr.trans ?_ (by with_reducible assumption))); done)) _ | with_reducible refine Gr.trans ?_ (by with_reducible assumption))), HK.out⟩
    · obtain rfl : m = xs.length := by omega
      have hsl : sinL xs = true := by
        unfold sinL
        rw [List.all_eq_true]
        intro s hs
        obtain ⟨i, hi⟩ := List.mem_iff_getElem?.1 hs
        exact HS.out i s (List.getElem?_eq_some_iff.1 hi).1 hi
      have HIN := hide (HSL.out hsl)
      have hE := hide (swE_ok HBD.out hsl)
      have HTA := hide (fun (k : Nat) (w' : World) (g' : Gr w w') (hk : k < 12) => turnAll_any A c xs k w' (HX.out.gr g') HIN.out hk (HT.out.gr g') hlen)
      have HPI := hide (fun k => tnP_in (k := k) HIN.out)
      clear hsl HS
      by_cases hef : f = t
      · subst hef
        have hef' : ((f : Int) == (f : Int)) = true := by simp
        go_wp2_with fail
        refine (HTA.out f _ g (by omega)).mono ?_
        rintro e w1 ⟨v1, rfl, o1, g1⟩
        obtain ⟨A1, d1, rfl⟩ := o1.slice
        have HH := hide (hull_any A1 d1 (xs.map (tnP f)) w1 (Own.rd o1).2 (HPI.out f) (by simp; omega) (by simp; omega))
        have hml : (xs.map (tnP f)).length ≤ 12 := by simp; omega
        generalize (xs.map (tnP f)).length = ml at *
        clear o1
        go_wp2_with fail
        refine HH.out.mono ?_
        rintro e w2 ⟨v2, ys, rfl, o2, g2, a, s, hys, hr⟩
        obtain ⟨A2, d2, rfl⟩ := o2.slice
        have hyl := run_len hys hr
        have hyl2 : ys.length ≤ 1000000 := by
          rw [List.length_map] at hyl
          omega
        have HRD := hide (rdl_one (n := d2) (t := 29) (Own.rd o2).2 hyl2)
        have HK := hide (show SwOk xs (f : Int) (f : Int) [(A2, ys, d2)] from .inr ⟨hE.out, by simp [swN], by
          intro i l hl
          match i with
          | 0 =>
            simp at hl
            subst hl
            exact ⟨a, s, hys, by unfold swP; simpa using hr⟩
          | i + 1 => simp at hl⟩)
        clear o2 hys hr hyl hyl2
        go_wp2
        go_ret2
        exact ⟨some ⟨w2.heap.size, 0, none⟩, 1, [(A2, ys, d2)], by rw [hE.out]; rfl, HRD.out, (by repeat (first | with_reducible exact Gr.refl _ | with_reducible assumption | with_reducible refine Gr.alloc ?_ _ | with_reducible refine Gr.drewN ?_ _ | with_reducible refine Gr.drew ?_ | with_reducible refine Gr.setCell ?_ (by first | (dsimp only; omega) | (simp only [World.size_alloc]; omega) | (with_reducible refine Gr.size ?_; (repeat (first | with_reducible exact Gr.refl _ | with_reducible assumption | with_reducible refine Gr.alloc ?_ _ | with_reducible refine Gr.drewN ?_ _ | with_reducible refine Gr.drew ?_ | with_reducible refine Gr.trans ?_ (by with_reducible assumption))); done)) _ | with_reducible refine Gr.trans ?_ (by with_reducible assumption))), HK.out⟩
      · have hef' : ((f : Int) == (t : Int)) = false := by rw [beq_eq_false_iff_ne]; omega
        have hswp : ∀ i, swP xs f t i = xs.map (tnP (f + i)) ++ xs.map (tnP (f + i + 1)) := fun i => by unfold swP; rw [if_neg hef]
        have HSW := hide hswp
        have hswn : swN f t = t - f := by unfold swN; rw [if_neg hef]
        have HSN := hide hswn
        have hlt : f < t := by omega
        obtain ⟨wo, hwo⟩ : ∃ wo, wo = wr := ⟨_, rfl⟩
        rw [← hwo] at g
        clear hswp hswn
        go_wp2
        rw [← hwo]
        clear hwo
        go_loopw [10, 11] (fun v i wr => ∃ (j : Nat) (ps : List PL), f + j ≤ t ∧ i = iv (f + j : Nat) ∧ ps.length = j ∧ Gr w wr ∧ Hid (OwP wr w.heap.size v ps ∧ SwR xs f t ps)) (fun _ i _ => t - (intOf i).toNat)
        case atStart => exact ⟨0, [], by omega, by simp, rfl, g, hide ⟨owP_nil _ _, fun i l hl => by simp at hl⟩⟩
        case round =>
          clear g
          obtain ⟨j, ps, hj, rfl, hps, g, HS⟩ := hrel
          by_cases hjt : f + j < t
          · have hd1 : decide (f + j < t) = true := by rw [decide_eq_true_eq]; exact hjt
            have hd2 : decide (((f + j : Nat) : Int) < (t : Int)) = true := by rw [decide_eq_true_eq]; omega
            obtain ⟨K, hK⟩ : ∃ K, f + j = K := ⟨_, rfl⟩
            have HKK := hide hK
            rw [hK] at hd1 hd2 hjt
            simp only [hK]
            have hKt : (K : Int) < (t : Int) := by omega
            have hK12 : K + 1 < 12 := by omega
            have HPS := hide hps
            have hpl : ps.length ≤ 12 := by omega
            have W1 : IntKind.i64.wrap ((K : Int) + 1) = (K : Int) + 1 := IntWalk.i64_in _ (by omega)
            have HT2 := hide (fun (w' : World) (g' : Gr w w') => by
              have h := HTA.out (K + 1) w' g' hK12
              rw [show ((K + 1 : Nat) : Int) = (K : Int) + 1 by omega] at h
              exact h)
            clear hK hps
            go_wp2_with fail
            refine (HTA.out K _ g (by omega)).mono ?_
            rintro e w1 ⟨v1, rfl, o1, g1⟩
            obtain ⟨b1, c1, hv1, hoa1, _, _⟩ := o1.form (by simp; omega)
            rw [List.length_map] at hv1
            subst hv1
            have HA1 := hide hoa1
            clear o1 hoa1
            go_wp2_with fail
            refine (HT2.out _ (g.trans g1)).mono ?_
            rintro e w2 ⟨v2, rfl, o2, g2⟩
            obtain ⟨b2, c2, hv2, hoa2, _, _⟩ := o2.form (by simp; omega)
            rw [List.length_map] at hv2
            subst hv2
            have s1 := g1.size
            have s2 := g2.size
            have HA2 := hide hoa2
            have HR1 := hide (show w2.ownsRow wr.heap.size 34 4 (.slice (some ⟨b1, 0, none⟩) xs.length c1) xs.length (flat (xs.map (tnP K))) from by
              have := own_gr1 HA1.out g2
              rwa [List.length_map] at this)
            have HN2 := hide hoa2.news
            have HF2 := hide (show (flat (xs.map (tnP (K + 1)))).length = xs.length * 4 by rw [flat_length, List.length_map])
            have HO2 := hide (flat_one (xs.map (tnP (K + 1))))
            have HLT1 := hide (fun k hk => (World.ownsRow.lt HR1.out k hk).1)
            clear o2 hoa2 HA1
            go_wp2_with (at_builtin; refine wpList_append_lies w2 rfl _ _ _ rfl wr.heap.size 34 i0 _ 4 32 Tryd.underlying29 hi0 hz0 hz1 hz2 rfl (by decide) _ xs.length (flat (xs.map (tnP K))) rfl HR1.out ⟨b2, 0, none⟩ xs.length c2 (flat (xs.map (tnP (K + 1)))) rfl HF2.out HN2.out HO2.out (by omega) (by unfold maxLen; omega) (by omega) (by omega) _ rfl ?_; intro gg c3 w3 hown3 hg3 hat3 hlt3)
            have gw3 : Gr wr w3 := Gr.grown (g1.trans g2) hg3 HLT1.out
            have HO3 := hide (show Own w3 wr.heap.size (.slice (some ⟨gg, 0, none⟩) (xs.length + xs.length) c3) (xs.map (tnP K) ++ xs.map (tnP (K + 1))) from by
              unfold Own
              rw [List.length_append, List.length_map, List.length_map, flat_append]
              exact hown3)
            have HH := hide (show Calls Tryd.prog 13 #[.slice (some ⟨gg, 0, none⟩) (xs.length + xs.length) c3] w3 _ from by
              have h := hull_any (some ⟨gg, 0, none⟩) c3 (xs.map (tnP K) ++ xs.map (tnP (K + 1))) w3 (Own.rd HO3.out).2 (fun p hp => by
                rcases List.mem_append.1 hp with hp | hp
                · exact HPI.out K p hp
                · exact HPI.out (K + 1) p hp) (by simp; omega) (by simp; omega)
              rw [show (xs.map (tnP K) ++ xs.map (tnP (K + 1))).length = xs.length + xs.length by simp] at h
              exact h)
            clear hown3 hg3 hat3 hlt3 HR1 HN2 HF2 HO2 HLT1 HA2
            go_wp2_with fail
            refine HH.out.mono ?_
            rintro e w4 ⟨v4, ys, rfl, o4, g4, a, s, hys, hr⟩
            obtain ⟨A4, d4, rfl⟩ := o4.slice
            have hyl := run_len hys hr
            have hyl2 : ys.length ≤ 1000000 := by
              rw [show (xs.map (tnP K) ++ xs.map (tnP (K + 1))).length = xs.length + xs.length by simp] at hyl
              omega
            have gw4 : Gr wr w4 := gw3.trans g4
            have HRD := hide (Own.rd o4).2
            have HAL := hide (fun a (ha : A4 = some a) => own_lt o4 ha)
            have HNX := hide (swR_next (l := (A4, ys, d4)) HS.out.2 ⟨a, s, hys, by
              rw [HPS.out, HSW.out j, HKK.out]
              exact hr⟩)
            have s3 := gw3.size
            have s4 := gw4.size
            have sg := g.size
            have HRW := hide (own_gr1 HS.out.1.row (Gr.alloc gw4 (.cells #[.slice A4 ys.length d4] 29)))
            have HLT := hide (fun k hk => (World.ownsRow.lt HRW.out k hk).1)
            clear o4 hys hr hyl HO3 g1 g2 gw3 g4
            go_wp2_with (at_builtin; refine wpList_append_lies (w4.alloc (.cells #[.slice A4 ys.length d4] 29)) rfl _ _ _ rfl w.heap.size 29 ip zp 1 24 Tryd.underlying24 hip hzp hsp hbp hcp (by decide) _ ps.length _ rfl HRW.out ⟨w4.heap.size, 0, none⟩ 1 1 [.slice A4 ys.length d4] rfl rfl (by intro j u hu; match j with | 0 => (simp at hu; subst hu; simp [Addr.add, go_sem]) | j + 1 => simp at hu) (by intro u hu; simp at hu; subst hu; rfl) (by omega) (by unfold maxLen; omega) (by omega) (by simp only [World.size_alloc]; omega) _ rfl ?_; intro g5 c5 w6 hown6 hg6 hat6 hlt6)
            have HN6 := hide (owP_next (w2 := w4.alloc (.cells #[.slice A4 ys.length d4] 29)) HS.out.1 (Gr.alloc gw4 _) (HRD.out.gr (Gr.alloc (Gr.refl _) _)) hyl2 (fun a ha => by
              obtain ⟨h1, h2⟩ := HAL.out a ha
              simp only [World.size_alloc]
              omega) hown6 hg6 (by
              rcases hat6 with h | h
              · exact .inl h.symm
              · exact .inr (by rw [h]; rfl)))
            have gw6 : Gr w w6 := Gr.grown (g.trans (Gr.alloc gw4 _)) hg6 HLT.out
            clear hown6 hg6 hat6 hlt6
            go_roundw
            case rel => exact ⟨j + 1, ps ++ [(A4, ys, d4)], by have := HKK.out; omega, by rw [show f + (j + 1) = K + 1 by have := HKK.out; omega]; go_num, by rw [List.length_append, HPS.out]; rfl, gw6, hide ⟨HN6.out, HNX.out⟩⟩
            case measure => simp only [intOf]; omega
          · have hd1 : decide (f + j < t) = false := by rw [decide_eq_false_iff_not]; exact hjt
            have hd2 : decide (((f + j : Nat) : Int) < (t : Int)) = false := by rw [decide_eq_false_iff_not]; omega
            have hjt2 : ¬ ((f + j : Nat) : Int) < (t : Int) := by omega
            obtain ⟨A9, d9, hv9⟩ := owP_slice HS.out.1
            subst hv9
            have HRD := hide (OwP.rd HS.out.1).2
            have HK := hide (show SwOk xs (f : Int) (t : Int) ps from .inr ⟨hE.out, by rw [Int.toNat_natCast, Int.toNat_natCast, HSN.out]; omega, by rw [Int.toNat_natCast, Int.toNat_natCast]; exact HS.out.2⟩)
            obtain ⟨K, hK⟩ : ∃ K, f + j = K := ⟨_, rfl⟩
            rw [hK] at hd1 hd2 hjt hjt2
            simp only [hK]
            clear hK hps
            go_wp2
            go_ret2
            exact ⟨A9, d9, ps, by rw [hE.out]; rfl, HRD.out, g, HK.out⟩
end Go.Proofs.YtloefohekhkehaaDoor
