/-
  Parts: the errors of the flanges, in the reference.
-/
import Derived.Test.YtefjgfglommefaaMVal15
import Derived.Test.YtefjgfglommefaaMV
set_option linter.unusedVariables false
set_option linter.unusedSimpArgs false
namespace Go.Proofs.Ytefjgfglommefaa
set_option linter.unusedVariables false
set_option linter.unusedSimpArgs false
open Go Go.ChangeShapes Go.WideShapes Go.ChangeAt Go.RowKit Go.Deep

/-- what the reference's flangesError returns -/
noncomputable def flsE (p : Pa) : Int := if firE (flA p) p.fl.length ≠ 0 then firE (flA p) p.fl.length else if anyB ovF p.fl then 7 else 0
theorem ov_way {a f : Fl} (h : ovF a f = true) : (f.pa == a.pa) = true ∧ (f.sd == a.sd) = true ∧ decide (f.o < a.o + a.wd) = true ∧ decide (a.o < f.o + f.wd) = true := by
  unfold ovF at h
  simp at h ⊢
  omega
theorem ov_ways {a f : Fl} (h : ovF a f = false) : (f.pa == a.pa) = false ∨ ((f.pa == a.pa) = true ∧ (f.sd == a.sd) = false) ∨ ((f.pa == a.pa) = true ∧ (f.sd == a.sd) = true ∧ decide (f.o < a.o + a.wd) = false) ∨ ((f.pa == a.pa) = true ∧ (f.sd == a.sd) = true ∧ decide (f.o < a.o + a.wd) = true ∧ decide (a.o < f.o + f.wd) = false) := by
  unfold ovF at h
  simp at h ⊢
  omega
set_option maxRecDepth 100000 in
set_option maxHeartbeats 4000000 in
theorem flangesError_any (p : Pa) (A B : Option Addr) (c d : Nat) (w : World) (hF : SlF w A c p.fl) (hb : basB p = true) :
    Calls Try.prog 46 #[pav p A c B d] w fun e w' => e = .returned (iv (flsE p)) ∧ Gr w w' := by
  have hlen := hF.len
  have HF := hide hF
  have HB := hide hb
  clear hF hb
  go_enter Try.func46, Try.ntmps46
  go_wp2
  go_loopw [3] (fun i wr => ∃ k : Nat, k ≤ p.fl.length ∧ i = iv k ∧ Gr (w.alloc (.cells #[.string p.nm, .string p.mt, iv p.ga, iv p.gr, iv p.wd, iv p.ht, .slice A p.fl.length c, .slice B p.ho.length d] 25)) wr ∧ Hid (FlOk p k) ∧ Hid (∀ j, j < k → flA p j = 0)) (fun i _ => p.fl.length - (intOf i).toNat)
  case atStart => exact ⟨0, by omega, rfl, (by repeat (first | with_reducible exact Gr.refl _ | with_reducible assumption | with_reducible refine Gr.alloc ?_ _ | with_reducible refine Gr.drewN ?_ _ | with_reducible refine Gr.drew ?_ | with_reducible refine Gr.setCell ?_ (by first | (dsimp only; omega) | (simp only [World.size_alloc]; omega) | (with_reducible refine Gr.size ?_; (repeat (first | with_reducible exact Gr.refl _ | with_reducible assumption | with_reducible refine Gr.alloc ?_ _ | with_reducible refine Gr.drewN ?_ _ | with_reducible refine Gr.drew ?_ | with_reducible refine Gr.trans ?_ (by with_reducible assumption))); done)) _ | with_reducible refine Gr.trans ?_ (by with_reducible assumption))), FlOk.zero HB.out, by intro j hj; omega⟩
  case round =>
    obtain ⟨k, hk, rfl, g, HOK, HZ⟩ := hrel
    have gW : Gr w wr := (by repeat (first | with_reducible exact Gr.refl _ | with_reducible assumption | with_reducible refine Gr.alloc ?_ _ | with_reducible refine Gr.drewN ?_ _ | with_reducible refine Gr.drew ?_ | with_reducible refine Gr.setCell ?_ (by first | (dsimp only; omega) | (simp only [World.size_alloc]; omega) | (with_reducible refine Gr.size ?_; (repeat (first | with_reducible exact Gr.refl _ | with_reducible assumption | with_reducible refine Gr.alloc ?_ _ | with_reducible refine Gr.drewN ?_ _ | with_reducible refine Gr.drew ?_ | with_reducible refine Gr.trans ?_ (by with_reducible assumption))); done)) _ | with_reducible refine Gr.trans ?_ (by with_reducible assumption)))
    obtain ⟨Xr, Yr, cr, fr⟩ := g.use
    have zr := g.size
    simp only [World.size_alloc] at zr
    have l0 : w.heap.size < wr.heap.size := by omega
    by_cases hkl : k < p.fl.length
    · obtain ⟨f, hf⟩ : ∃ f, p.fl[k]? = some f := ⟨_, List.getElem?_eq_getElem hkl⟩
      have HC := hide (flangeError_any p A B c d k f wr (HF.out.gr gW) hf HOK.out)
      have HL := hide hf
      by_cases h0 : flE p k f = 0
      · have HO' := hide (HOK.out.succ hf h0)
        have HZ' := hide (show ∀ j, j < k + 1 → flA p j = 0 by
          intro j hj
          rcases Nat.lt_or_ge j k with h | h
          · exact HZ.out j h
          · obtain rfl : j = k := by omega
            rw [flA_at HL.out, h0])
        rw [h0] at HC
        clear hf
        go_wp2_with fail
        refine HC.out.mono ?_
        rintro e w2 ⟨rfl, g2⟩
        go_wp2_with fail
        go_roundw
        case rel => exact ⟨k + 1, by omega, by go_num, (by repeat (first | with_reducible exact Gr.refl _ | with_reducible assumption | with_reducible refine Gr.alloc ?_ _ | with_reducible refine Gr.drewN ?_ _ | with_reducible refine Gr.drew ?_ | with_reducible refine Gr.setCell ?_ (by first | (dsimp only; omega) | (simp only [World.size_alloc]; omega) | (with_reducible refine Gr.size ?_; (repeat (first | with_reducible exact Gr.refl _ | with_reducible assumption | with_reducible refine Gr.alloc ?_ _ | with_reducible refine Gr.drewN ?_ _ | with_reducible refine Gr.drew ?_ | with_reducible refine Gr.trans ?_ (by with_reducible assumption))); done)) _ | with_reducible refine Gr.trans ?_ (by with_reducible assumption))), HO', HZ'⟩
        case measure => simp only [intOf]; omega
      · have HE3 := hide (show flsE p = flE p k f by
          have := firE_at (e := flA p) (k := k) (fun j hj => HZ.out j hj) (by rw [flA_at HL.out]; exact h0) hkl
          unfold flsE
          rw [this, flA_at HL.out, if_pos h0])
        have h0' : (flE p k f != 0) = true := by simpa using h0
        clear hf
        generalize flE p k f = x at *
        go_wp2_with fail
        refine HC.out.mono ?_
        rintro e w2 ⟨rfl, g2⟩
        go_wp2_with fail
        go_ret
        exact ⟨ret_iv HE3.out.symm, (by repeat (first | with_reducible exact Gr.refl _ | with_reducible assumption | with_reducible refine Gr.alloc ?_ _ | with_reducible refine Gr.drewN ?_ _ | with_reducible refine Gr.drew ?_ | with_reducible refine Gr.setCell ?_ (by first | (dsimp only; omega) | (simp only [World.size_alloc]; omega) | (with_reducible refine Gr.size ?_; (repeat (first | with_reducible exact Gr.refl _ | with_reducible assumption | with_reducible refine Gr.alloc ?_ _ | with_reducible refine Gr.drewN ?_ _ | with_reducible refine Gr.drew ?_ | with_reducible refine Gr.trans ?_ (by with_reducible assumption))); done)) _ | with_reducible refine Gr.trans ?_ (by with_reducible assumption)))⟩
    · obtain rfl : k = p.fl.length := by omega
      have HE := hide (show flsE p = if anyB ovF p.fl then 7 else 0 by
        unfold flsE
        rw [firE_none (fun j hj => HZ.out j hj)]; rfl)
      have SM := hide (flSm_of HOK.out)
      clear HZ HOK
      obtain ⟨wo, rfl⟩ : ∃ wo, wo = wr := ⟨_, rfl⟩
      go_wp2
      clear cr fr
      go_loopw [5] (fun i wr => ∃ i' : Nat, i' ≤ p.fl.length ∧ i = iv i' ∧ Gr (w.alloc (.cells #[.string p.nm, .string p.mt, iv p.ga, iv p.gr, iv p.wd, iv p.ht, .slice A p.fl.length c, .slice B p.ho.length d] 25)) wr ∧ Hid (∀ i, i < i' → ∀ k a b, k < i → p.fl[k]? = some a → p.fl[i]? = some b → ovF a b = false)) (fun i _ => p.fl.length - (intOf i).toNat)
      case atStart => exact ⟨0, by omega, rfl, g, by intro i hi; omega⟩
      case round =>
        obtain ⟨i, hi, rfl, g, HI⟩ := hrel
        obtain ⟨wo, rfl⟩ : ∃ wo, wo = wr := ⟨_, rfl⟩
        obtain ⟨Xo, Yo, co, fo⟩ := g.use
        have zo := g.size
        simp only [World.size_alloc] at zo
        by_cases hlt : i < p.fl.length
        · obtain ⟨f, hf⟩ : ∃ f, p.fl[i]? = some f := ⟨_, List.getElem?_eq_getElem hlt⟩
          go_wp2
          clear co fo
          go_loopw [6] (fun k wk => ∃ k' : Nat, k' ≤ i ∧ k = iv k' ∧ Gr (w.alloc (.cells #[.string p.nm, .string p.mt, iv p.ga, iv p.gr, iv p.wd, iv p.ht, .slice A p.fl.length c, .slice B p.ho.length d] 25)) wk ∧ Hid (∀ k a, k < k' → p.fl[k]? = some a → ovF a f = false)) (fun k _ => i - (intOf k).toNat)
          case atStart => exact ⟨0, by omega, rfl, g, by intro k a hk; omega⟩
          case round =>
            obtain ⟨k, hk, rfl, gk, HK⟩ := hrel
            have gW : Gr w wr := (by repeat (first | with_reducible exact Gr.refl _ | with_reducible assumption | with_reducible refine Gr.alloc ?_ _ | with_reducible refine Gr.drewN ?_ _ | with_reducible refine Gr.drew ?_ | with_reducible refine Gr.setCell ?_ (by first | (dsimp only; omega) | (simp only [World.size_alloc]; omega) | (with_reducible refine Gr.size ?_; (repeat (first | with_reducible exact Gr.refl _ | with_reducible assumption | with_reducible refine Gr.alloc ?_ _ | with_reducible refine Gr.drewN ?_ _ | with_reducible refine Gr.drew ?_ | with_reducible refine Gr.trans ?_ (by with_reducible assumption))); done)) _ | with_reducible refine Gr.trans ?_ (by with_reducible assumption)))
            obtain ⟨Xr, Yr, cr, fr⟩ := gk.use
            have zr := gk.size
            simp only [World.size_alloc] at zr
            have l0 : w.heap.size < wr.heap.size := by omega
            by_cases hki : k < i
            · obtain ⟨a, ha⟩ : ∃ a, p.fl[k]? = some a := ⟨_, List.getElem?_eq_getElem (by omega)⟩
              obtain ⟨b, off, hA, x0, x1, x2, x3, x4, x5, x6⟩ := HF.out.rd.fl hf
              obtain ⟨b', off', hA', y0, y1, y2, y3, y4, y5, y6⟩ := HF.out.rd.fl ha
              subst hA
              obtain ⟨rfl, rfl⟩ : b = b' ∧ off = off' := by simpa using hA'
              clear hA'
              have hbw : b < w.heap.size := cell_lt (by rw [x0]; rfl)
              have hi0 : (0 : Int) ≤ (i : Int) := by omega
              have hi1 : (i : Int) < (p.fl.length : Int) := by omega
              have hk0 : (0 : Int) ≤ (k : Int) := by omega
              have hk1 : (k : Int) < (p.fl.length : Int) := by omega
              obtain ⟨⟨fa1, fa2⟩, fa3, fa4⟩ := SM.out f (List.mem_of_getElem? hf)
              obtain ⟨⟨ga1, ga2⟩, ga3, ga4⟩ := SM.out a (List.mem_of_getElem? ha)
              have HLf := hide hf
              have HLa := hide ha
              clear hf ha
              have hbr : b < wr.heap.size := by omega
              have hbr1 : b < wr.heap.size + 1 := by omega
              cases hv : ovF a f with
              | true =>
                have HE2 := hide (show flsE p = 7 by rw [HE.out, if_pos (anyB_yes hki HLa.out HLf.out hv)])
                obtain ⟨v1, v2, v3, v4⟩ := ov_way hv
                clear hv
                go_upto_region 13 with fail
                go_region
                all_goals
                  go_wp2
                  go_ret
                  exact ⟨ret_iv HE2.out.symm, (by repeat (first | with_reducible exact Gr.refl _ | with_reducible assumption | with_reducible refine Gr.alloc ?_ _ | with_reducible refine Gr.drewN ?_ _ | with_reducible refine Gr.drew ?_ | with_reducible refine Gr.setCell ?_ (by first | (dsimp only; omega) | (simp only [World.size_alloc]; omega) | (with_reducible refine Gr.size ?_; (repeat (first | with_reducible exact Gr.refl _ | with_reducible assumption | with_reducible refine Gr.alloc ?_ _ | with_reducible refine Gr.drewN ?_ _ | with_reducible refine Gr.drew ?_ | with_reducible refine Gr.trans ?_ (by with_reducible assumption))); done)) _ | with_reducible refine Gr.trans ?_ (by with_reducible assumption)))⟩
              | false =>
                have HK' := hide (show ∀ j x, j < k + 1 → p.fl[j]? = some x → ovF x f = false by
                  intro j x hj hx
                  rcases Nat.lt_or_ge j k with h | h
                  · exact HK.out j x h hx
                  · obtain rfl : j = k := by omega
                    rw [HLa.out] at hx
                    obtain rfl := Option.some.inj hx
                    exact hv)
                have HV := ov_ways hv
                clear hv
                rcases HV with v1 | ⟨v1, v2⟩ | ⟨v1, v2, v3⟩ | ⟨v1, v2, v3, v4⟩
                all_goals
                  go_upto_region 13 with fail
                  go_region
                  all_goals
                    go_wp2
                    go_roundw
                    case rel => exact ⟨k + 1, by omega, by go_num, (by repeat (first | with_reducible exact Gr.refl _ | with_reducible assumption | with_reducible refine Gr.alloc ?_ _ | with_reducible refine Gr.drewN ?_ _ | with_reducible refine Gr.drew ?_ | with_reducible refine Gr.setCell ?_ (by first | (dsimp only; omega) | (simp only [World.size_alloc]; omega) | (with_reducible refine Gr.size ?_; (repeat (first | with_reducible exact Gr.refl _ | with_reducible assumption | with_reducible refine Gr.alloc ?_ _ | with_reducible refine Gr.drewN ?_ _ | with_reducible refine Gr.drew ?_ | with_reducible refine Gr.trans ?_ (by with_reducible assumption))); done)) _ | with_reducible refine Gr.trans ?_ (by with_reducible assumption))), HK'⟩
                    case measure => simp only [intOf]; omega
            · obtain rfl : k = i := by omega
              have HI' := hide (show ∀ j, j < k + 1 → ∀ m a b, m < j → p.fl[m]? = some a → p.fl[j]? = some b → ovF a b = false by
                intro j hj m a b hm hx hy
                rcases Nat.lt_or_ge j k with h | h
                · exact HI.out j h m a b hm hx hy
                · obtain rfl : j = k := by omega
                  rw [hf] at hy
                  obtain rfl := Option.some.inj hy
                  exact HK.out m a hm hx)
              go_wp2
              go_roundw
              case rel => exact ⟨k + 1, by omega, by go_num, (by repeat (first | with_reducible exact Gr.refl _ | with_reducible assumption | with_reducible refine Gr.alloc ?_ _ | with_reducible refine Gr.drewN ?_ _ | with_reducible refine Gr.drew ?_ | with_reducible refine Gr.setCell ?_ (by first | (dsimp only; omega) | (simp only [World.size_alloc]; omega) | (with_reducible refine Gr.size ?_; (repeat (first | with_reducible exact Gr.refl _ | with_reducible assumption | with_reducible refine Gr.alloc ?_ _ | with_reducible refine Gr.drewN ?_ _ | with_reducible refine Gr.drew ?_ | with_reducible refine Gr.trans ?_ (by with_reducible assumption))); done)) _ | with_reducible refine Gr.trans ?_ (by with_reducible assumption))), HI'⟩
              case measure => simp only [intOf]; omega
        · obtain rfl : i = p.fl.length := by omega
          have HE2 := hide (show flsE p = 0 by rw [HE.out, anyB_no HI.out]; rfl)
          go_wp2
          go_ret
          exact ⟨ret_iv HE2.out.symm, (by repeat (first | with_reducible exact Gr.refl _ | with_reducible assumption | with_reducible refine Gr.alloc ?_ _ | with_reducible refine Gr.drewN ?_ _ | with_reducible refine Gr.drew ?_ | with_reducible refine Gr.setCell ?_ (by first | (dsimp only; omega) | (simp only [World.size_alloc]; omega) | (with_reducible refine Gr.size ?_; (repeat (first | with_reducible exact Gr.refl _ | with_reducible assumption | with_reducible refine Gr.alloc ?_ _ | with_reducible refine Gr.drewN ?_ _ | with_reducible refine Gr.drew ?_ | with_reducible refine Gr.trans ?_ (by with_reducible assumption))); done)) _ | with_reducible refine Gr.trans ?_ (by with_reducible assumption)))⟩
end Go.Proofs.Ytefjgfglommefaa
