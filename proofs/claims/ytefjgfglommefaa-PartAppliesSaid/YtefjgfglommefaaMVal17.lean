/-
  Parts: the errors of the holes, in the reference.
-/
import Derived.Test.YtefjgfglommefaaMVal16
set_option linter.unusedVariables false
set_option linter.unusedSimpArgs false
namespace Go.Proofs.Ytefjgfglommefaa
set_option linter.unusedVariables false
set_option linter.unusedSimpArgs false
open Go Go.ChangeShapes Go.WideShapes Go.ChangeAt Go.RowKit Go.Deep

/-- what the reference's holesError returns -/
noncomputable def hosE (p : Pa) : Int := if !(p.ho.all (hoB p)) then 1 else if anyB touB p.ho then 7 else 0
theorem gaV_comm (a b c d : Int) : R.gaV a b c d = R.gaV c d a b := by
  unfold R.gaV
  split <;> split <;> omega
theorem diV_comm (x y u h a b c d : Int) : R.diV x y u h a b c d = R.diV a b c d x y u h := by
  unfold R.diV
  rw [Bool.and_comm, gaV_comm x, gaV_comm y]
theorem fa_yes {x y : Int} {q : Bool} (h : (x == y && q) = true) : (y == x) = true ∧ q = true := by
  rw [Bool.and_eq_true, beq_iff_eq] at h
  exact ⟨by rw [beq_iff_eq]; exact h.1.symm, h.2⟩
theorem fa_no {x y : Int} {q : Bool} (h : (x == y && q) = false) : (y == x) = false ∨ ((y == x) = true ∧ q = false) := by
  by_cases e : y = x
  · subst e
    rw [beq_self_eq_true, Bool.true_and] at h
    exact .inr ⟨beq_self_eq_true _, h⟩
  · exact .inl (beq_eq_false_iff_ne.2 e)
theorem hosE_one {p : Pa} (h : p.ho.all (hoB p) = false) : hosE p = 1 := by
  unfold hosE
  rw [h]
  rfl
theorem hosE_seven {p : Pa} (h : p.ho.all (hoB p) = true) (k : anyB touB p.ho = true) : hosE p = 7 := by
  unfold hosE
  rw [h, k]
  rfl
theorem hosE_ok {p : Pa} (h : p.ho.all (hoB p) = true) (k : anyB touB p.ho = false) : hosE p = 0 := by
  unfold hosE
  rw [h, k]
  rfl
theorem hoB_one {p : Pa} {f : Ho} (h : wiB f.fa 0 p.fl.length = true) (hk : f.kd = 1 ∨ f.kd = 2) : hoB p f = (wbB f.x f.w (extW p f.fa) && wbB f.y f.h (extH p f.fa)) := by
  unfold hoB
  rw [h, show (decide (f.kd = 1) || decide (f.kd = 2)) = true by simpa using hk]
  rfl
theorem wbB_iff {s n e : Int} : wbB s n e = true ↔ (1 ≤ n ∧ n ≤ e) ∧ 1 ≤ s ∧ s ≤ e - 1 - n := by
  unfold wbB
  rw [Bool.and_eq_true, wiB_iff, wiB_iff]
set_option maxRecDepth 100000 in
set_option maxHeartbeats 4000000 in
theorem holesError_any (p : Pa) (A B : Option Addr) (c d : Nat) (w : World) (hF : SlF w A c p.fl) (hH : SlH w B d p.ho) (ok : FlOk p p.fl.length) :
    Calls Try.prog 47 #[pav p A c B d] w fun e w' => e = .returned (iv (hosE p)) ∧ Gr w w' := by
  have hlen := hH.len
  have HF := hide hF
  have HH := hide hH
  have HOK := hide ok
  clear hF hH ok
  go_enter Try.func47, Try.ntmps47
  go_wp2
  go_loopw [3] (fun i wr => ∃ i' : Nat, i' ≤ p.ho.length ∧ i = iv i' ∧ Gr (w.alloc (.cells #[.string p.nm, .string p.mt, iv p.ga, iv p.gr, iv p.wd, iv p.ht, .slice A p.fl.length c, .slice B p.ho.length d] 25)) wr ∧ Hid (∀ j x, j < i' → p.ho[j]? = some x → hoB p x = true)) (fun i _ => p.ho.length - (intOf i).toNat)
  case atStart => exact ⟨0, by omega, rfl, Gr.refl _, by intro j x hj; omega⟩
  case round =>
    obtain ⟨i, hi, rfl, g, HI⟩ := hrel
    have gW : Gr w wr := (by repeat (first | with_reducible exact Gr.refl _ | with_reducible assumption | with_reducible refine Gr.alloc ?_ _ | with_reducible refine Gr.drewN ?_ _ | with_reducible refine Gr.drew ?_ | with_reducible refine Gr.setCell ?_ (by first | (dsimp only; omega) | (simp only [World.size_alloc]; omega) | (with_reducible refine Gr.size ?_; (repeat (first | with_reducible exact Gr.refl _ | with_reducible assumption | with_reducible refine Gr.alloc ?_ _ | with_reducible refine Gr.drewN ?_ _ | with_reducible refine Gr.drew ?_ | with_reducible refine Gr.trans ?_ (by with_reducible assumption))); done)) _ | with_reducible refine Gr.trans ?_ (by with_reducible assumption)))
    obtain ⟨Xr, Yr, cr, fr⟩ := g.use
    have zr := g.size
    simp only [World.size_alloc] at zr
    have l0 : w.heap.size < wr.heap.size := by omega
    by_cases hlt : i < p.ho.length
    · obtain ⟨f, hf⟩ : ∃ f, p.ho[i]? = some f := ⟨_, List.getElem?_eq_getElem hlt⟩
      obtain ⟨b, off, rfl, x0, x1, x2, x3, x4, x5⟩ := HH.out.rd.ho hf
      have hb : b < w.heap.size := cell_lt (by rw [x0]; rfl)
      have hbr : b < wr.heap.size := by omega
      have HS := hide (fun (w' : World) (g : Gr (wr.alloc (.cells #[iv f.fa, iv f.kd, iv f.x, iv f.y, iv f.w, iv f.h] 29)) w') (u1 : 0 ≤ f.fa) (u2 : f.fa ≤ p.fl.length) => extent_any p A (some ⟨b, off, none⟩) c d f.fa w' (HF.out.gr (gW.trans ((Gr.alloc (Gr.refl _) _).trans g))) u1 u2)
      have HL := hide hf
      clear hf
      cases hT : wiB f.fa 0 p.fl.length with
      | false =>
        have HE := hide (hosE_one (all_stop (f := hoB p) HL.out (by unfold hoB; rw [hT]; rfl)))
        go_wp2_with (first | (go_at_call 18; refine (rwithin_any _ _ _ _).mono ?_; rintro e w1 ⟨rfl, rfl⟩))
        go_ret
        exact ⟨ret_iv HE.out.symm, (by repeat (first | with_reducible exact Gr.refl _ | with_reducible assumption | with_reducible refine Gr.alloc ?_ _ | with_reducible refine Gr.drewN ?_ _ | with_reducible refine Gr.drew ?_ | with_reducible refine Gr.setCell ?_ (by first | (dsimp only; omega) | (simp only [World.size_alloc]; omega) | (with_reducible refine Gr.size ?_; (repeat (first | with_reducible exact Gr.refl _ | with_reducible assumption | with_reducible refine Gr.alloc ?_ _ | with_reducible refine Gr.drewN ?_ _ | with_reducible refine Gr.drew ?_ | with_reducible refine Gr.trans ?_ (by with_reducible assumption))); done)) _ | with_reducible refine Gr.trans ?_ (by with_reducible assumption)))⟩
      | true =>
        obtain ⟨u1, u2⟩ := wiB_iff.1 hT
        obtain ⟨hw, hh⟩ := ext_le HOK.out u1 u2 (Nat.le_refl _)
        by_cases hk : f.kd = 1 ∨ f.kd = 2
        · have HB := hide (hoB_one hT hk)
          have hk' : (f.kd != 1) = false ∨ ((f.kd != 1) = true ∧ (f.kd != 2) = false) := by
            rcases hk with h | h <;> simp [h]
          generalize extW p f.fa = ew at *
          generalize extH p f.fa = eh at *
          clear hk
          by_cases h4 : wiB f.x 1 ew = true ∧ wiB f.y 1 eh = true ∧ wiB f.w 1 ew = true ∧ wiB f.h 1 eh = true
          · obtain ⟨s1, s2, s3, s4⟩ := h4
            obtain ⟨a1, a2⟩ := wiB_iff.1 s1
            obtain ⟨b1, b2⟩ := wiB_iff.1 s2
            obtain ⟨c1', c2'⟩ := wiB_iff.1 s3
            obtain ⟨d1, d2⟩ := wiB_iff.1 s4
            by_cases h5 : f.x + f.w ≤ ew - 1 ∧ f.y + f.h ≤ eh - 1
            · have HI' := hide (show ∀ j x, j < i + 1 → p.ho[j]? = some x → hoB p x = true by
                intro j x hj hx
                rcases Nat.lt_or_ge j i with h | h
                · exact HI.out j x h hx
                · obtain rfl : j = i := by omega
                  rw [HL.out] at hx
                  obtain rfl := Option.some.inj hx
                  rw [HB.out, Bool.and_eq_true, wbB_iff, wbB_iff]
                  omega)
              obtain ⟨h6, h7⟩ := h5
              rcases hk' with k1 | ⟨k1, k2⟩
              all_goals
                go_wp2_with (first | (go_at_call 18; refine (rwithin_any _ _ _ _).mono ?_; rintro e w1 ⟨rfl, rfl⟩))
                refine (HS.out _ (Gr.refl _) u1 u2).mono ?_
                rintro e w1 ⟨rfl, g1⟩
                obtain ⟨X1, Y1, c1, f1⟩ := g1.use
                have z1 := g1.size
                simp only [World.size_alloc] at z1
                have l1 : w.heap.size < w1.heap.size := by omega
                have l2 : wr.heap.size < w1.heap.size := by omega
                go_wp2_with (first | (go_at_call 18; refine (rwithin_any _ _ _ _).mono ?_; rintro e w1 ⟨rfl, rfl⟩))
                go_roundw
                case rel => exact ⟨i + 1, by omega, by go_num, (by repeat (first | with_reducible exact Gr.refl _ | with_reducible assumption | with_reducible refine Gr.alloc ?_ _ | with_reducible refine Gr.drewN ?_ _ | with_reducible refine Gr.drew ?_ | with_reducible refine Gr.setCell ?_ (by first | (dsimp only; omega) | (simp only [World.size_alloc]; omega) | (with_reducible refine Gr.size ?_; (repeat (first | with_reducible exact Gr.refl _ | with_reducible assumption | with_reducible refine Gr.alloc ?_ _ | with_reducible refine Gr.drewN ?_ _ | with_reducible refine Gr.drew ?_ | with_reducible refine Gr.trans ?_ (by with_reducible assumption))); done)) _ | with_reducible refine Gr.trans ?_ (by with_reducible assumption))), HI'⟩
                case measure => simp only [intOf]; omega
            · have HE := hide (hosE_one (all_stop (f := hoB p) HL.out (by
                rw [HB.out, ← Bool.not_eq_true, Bool.and_eq_true, wbB_iff, wbB_iff]
                omega)))
              rcases hk' with k1 | ⟨k1, k2⟩
              all_goals
                go_wp2_with (first | (go_at_call 18; refine (rwithin_any _ _ _ _).mono ?_; rintro e w1 ⟨rfl, rfl⟩))
                refine (HS.out _ (Gr.refl _) u1 u2).mono ?_
                rintro e w1 ⟨rfl, g1⟩
                obtain ⟨X1, Y1, c1, f1⟩ := g1.use
                have z1 := g1.size
                simp only [World.size_alloc] at z1
                have l1 : w.heap.size < w1.heap.size := by omega
                have l2 : wr.heap.size < w1.heap.size := by omega
                go_wp2_with (first | (go_at_call 18; refine (rwithin_any _ _ _ _).mono ?_; rintro e w1 ⟨rfl, rfl⟩))
                all_goals first
                  | (go_ret
                     exact ⟨ret_iv HE.out.symm, (by repeat (first | with_reducible exact Gr.refl _ | with_reducible assumption | with_reducible refine Gr.alloc ?_ _ | with_reducible refine Gr.drewN ?_ _ | with_reducible refine Gr.drew ?_ | with_reducible refine Gr.setCell ?_ (by first | (dsimp only; omega) | (simp only [World.size_alloc]; omega) | (with_reducible refine Gr.size ?_; (repeat (first | with_reducible exact Gr.refl _ | with_reducible assumption | with_reducible refine Gr.alloc ?_ _ | with_reducible refine Gr.drewN ?_ _ | with_reducible refine Gr.drew ?_ | with_reducible refine Gr.trans ?_ (by with_reducible assumption))); done)) _ | with_reducible refine Gr.trans ?_ (by with_reducible assumption)))⟩)
                  | (exfalso
                     omega)
          · have HE := hide (hosE_one (all_stop (f := hoB p) HL.out (by
              rw [HB.out, ← Bool.not_eq_true, Bool.and_eq_true, wbB_iff, wbB_iff]
              simp only [wiB_iff] at h4
              omega)))
            have H4 := hide h4
            clear h4
            rcases hk' with k1 | ⟨k1, k2⟩
            all_goals
              go_wp2_with (first | (go_at_call 18; refine (rwithin_any _ _ _ _).mono ?_; rintro e w1 ⟨rfl, rfl⟩))
              refine (HS.out _ (Gr.refl _) u1 u2).mono ?_
              rintro e w1 ⟨rfl, g1⟩
              obtain ⟨X1, Y1, c1, f1⟩ := g1.use
              have z1 := g1.size
              simp only [World.size_alloc] at z1
              have l1 : w.heap.size < w1.heap.size := by omega
              have l2 : wr.heap.size < w1.heap.size := by omega
              go_wp2_with (first | (go_at_call 18; refine (rwithin_any _ _ _ _).mono ?_; rintro e w1 ⟨rfl, rfl⟩))
              all_goals first
                | (go_ret
                   exact ⟨ret_iv HE.out.symm, (by repeat (first | with_reducible exact Gr.refl _ | with_reducible assumption | with_reducible refine Gr.alloc ?_ _ | with_reducible refine Gr.drewN ?_ _ | with_reducible refine Gr.drew ?_ | with_reducible refine Gr.setCell ?_ (by first | (dsimp only; omega) | (simp only [World.size_alloc]; omega) | (with_reducible refine Gr.size ?_; (repeat (first | with_reducible exact Gr.refl _ | with_reducible assumption | with_reducible refine Gr.alloc ?_ _ | with_reducible refine Gr.drewN ?_ _ | with_reducible refine Gr.drew ?_ | with_reducible refine Gr.trans ?_ (by with_reducible assumption))); done)) _ | with_reducible refine Gr.trans ?_ (by with_reducible assumption)))⟩)
                | (exfalso
                   exact H4.out ⟨by assumption, by assumption, by assumption, by assumption⟩)
        · have HE := hide (hosE_one (all_stop (f := hoB p) HL.out (by unfold hoB; rw [show (decide (f.kd = 1) || decide (f.kd = 2)) = false by simpa using hk]; simp)))
          have k1 : (f.kd != 1) = true := by simp; omega
          have k2 : (f.kd != 2) = true := by simp; omega
          clear hk
          go_wp2_with (first | (go_at_call 18; refine (rwithin_any _ _ _ _).mono ?_; rintro e w1 ⟨rfl, rfl⟩))
          go_ret
          exact ⟨ret_iv HE.out.symm, (by repeat (first | with_reducible exact Gr.refl _ | with_reducible assumption | with_reducible refine Gr.alloc ?_ _ | with_reducible refine Gr.drewN ?_ _ | with_reducible refine Gr.drew ?_ | with_reducible refine Gr.setCell ?_ (by first | (dsimp only; omega) | (simp only [World.size_alloc]; omega) | (with_reducible refine Gr.size ?_; (repeat (first | with_reducible exact Gr.refl _ | with_reducible assumption | with_reducible refine Gr.alloc ?_ _ | with_reducible refine Gr.drewN ?_ _ | with_reducible refine Gr.drew ?_ | with_reducible refine Gr.trans ?_ (by with_reducible assumption))); done)) _ | with_reducible refine Gr.trans ?_ (by with_reducible assumption)))⟩
    · obtain rfl : i = p.ho.length := by omega
      have HA := hide (all_end (f := hoB p) (fun j x hj hx => HI.out j x hj hx))
      clear HI HOK
      obtain ⟨wo, rfl⟩ : ∃ wo, wo = wr := ⟨_, rfl⟩
      go_wp2
      clear cr fr
      go_loopw [7] (fun i wr => ∃ i' : Nat, i' ≤ p.ho.length ∧ i = iv i' ∧ Gr (w.alloc (.cells #[.string p.nm, .string p.mt, iv p.ga, iv p.gr, iv p.wd, iv p.ht, .slice A p.fl.length c, .slice B p.ho.length d] 25)) wr ∧ Hid (∀ i, i < i' → ∀ k a b, k < i → p.ho[k]? = some a → p.ho[i]? = some b → touB a b = false)) (fun i _ => p.ho.length - (intOf i).toNat)
      case atStart => exact ⟨0, by omega, rfl, g, by intro i hi; omega⟩
      case round =>
        obtain ⟨i, hi, rfl, g, HI⟩ := hrel
        obtain ⟨wo, rfl⟩ : ∃ wo, wo = wr := ⟨_, rfl⟩
        obtain ⟨Xo, Yo, co, fo⟩ := g.use
        have zo := g.size
        simp only [World.size_alloc] at zo
        by_cases hlt : i < p.ho.length
        · obtain ⟨f, hf⟩ : ∃ f, p.ho[i]? = some f := ⟨_, List.getElem?_eq_getElem hlt⟩
          go_wp2
          clear co fo
          go_loopw [8] (fun k wk => ∃ k' : Nat, k' ≤ i ∧ k = iv k' ∧ Gr (w.alloc (.cells #[.string p.nm, .string p.mt, iv p.ga, iv p.gr, iv p.wd, iv p.ht, .slice A p.fl.length c, .slice B p.ho.length d] 25)) wk ∧ Hid (∀ k a, k < k' → p.ho[k]? = some a → touB a f = false)) (fun k _ => i - (intOf k).toNat)
          case atStart => exact ⟨0, by omega, rfl, g, by intro k a hk; omega⟩
          case round =>
            obtain ⟨k, hk, rfl, gk, HK⟩ := hrel
            have gW : Gr w wr := (by repeat (first | with_reducible exact Gr.refl _ | with_reducible assumption | with_reducible refine Gr.alloc ?_ _ | with_reducible refine Gr.drewN ?_ _ | with_reducible refine Gr.drew ?_ | with_reducible refine Gr.setCell ?_ (by first | (dsimp only; omega) | (simp only [World.size_alloc]; omega) | (with_reducible refine Gr.size ?_; (repeat (first | with_reducible exact Gr.refl _ | with_reducible assumption | with_reducible refine Gr.alloc ?_ _ | with_reducible refine Gr.drewN ?_ _ | with_reducible refine Gr.drew ?_ | with_reducible refine Gr.trans ?_ (by with_reducible assumption))); done)) _ | with_reducible refine Gr.trans ?_ (by with_reducible assumption)))
            obtain ⟨Xr, Yr, cr, fr⟩ := gk.use
            have zr := gk.size
            simp only [World.size_alloc] at zr
            have l0 : w.heap.size < wr.heap.size := by omega
            by_cases hki : k < i
            · obtain ⟨a, ha⟩ : ∃ a, p.ho[k]? = some a := ⟨_, List.getElem?_eq_getElem (by omega)⟩
              obtain ⟨b, off, hA, x0, x1, x2, x3, x4, x5⟩ := HH.out.rd.ho hf
              obtain ⟨b', off', hA', y0, y1, y2, y3, y4, y5⟩ := HH.out.rd.ho ha
              subst hA
              obtain ⟨rfl, rfl⟩ : b = b' ∧ off = off' := by simpa using hA'
              clear hA'
              have hbw : b < w.heap.size := cell_lt (by rw [x0]; rfl)
              have hi0 : (0 : Int) ≤ (i : Int) := by omega
              have hi1 : (i : Int) < (p.ho.length : Int) := by omega
              have hk0 : (0 : Int) ≤ (k : Int) := by omega
              have hk1 : (k : Int) < (p.ho.length : Int) := by omega
              have HLf := hide hf
              have HLa := hide ha
              have HT := hide (show touB a f = (a.fa == f.fa && (R.diV f.x f.y f.w f.h a.x a.y a.w a.h == 0)) by
                unfold touB
                rw [diV_comm])
              clear hf ha
              cases hv : touB a f with
              | true =>
                have HB := hide (hosE_seven HA.out (anyB_yes hki HLa.out HLf.out hv))
                obtain ⟨v1, v2⟩ : (f.fa == a.fa) = true ∧ (R.diV f.x f.y f.w f.h a.x a.y a.w a.h == 0) = true := by
                  have := HT.out
                  rw [hv] at this
                  exact fa_yes this.symm
                clear hv
                have HD := hide (fun w => R.rDistance_any f.x f.y f.w f.h a.x a.y a.w a.h w)
                generalize R.diV f.x f.y f.w f.h a.x a.y a.w a.h = q at *
                have hbr : b < wr.heap.size := by omega
                go_upto_region 16 with fail
                have GC := @GrW.cell
                refine wp_region_grw _ (by kernel_rfl) (by kernel_rfl) (Gr.refl _) ?_
                repeat (go_big_quiet_step ((first | (go_at_call 75; exact quiet_grw (holeRect_any _ _)) | (go_at_call 74; exact quiet_grw (HD.out _)))))
                refine wpQuiet_nil ?_
                intro wq hwq
                obtain ⟨gq, hwq'⟩ := hwq
                subst hwq'
                clear GC
                have gq1 := gq.gr
                generalize gq.w = wq at gq1 ⊢
                obtain ⟨Xq, Yq, cq, fq⟩ := gq1.use
                have sq := gq1.size
                (try simp only [World.size_alloc, World.size_setCell, World.heap_drewN] at sq)
                go_wp2
                go_ret
                exact ⟨ret_iv HB.out.symm, (by repeat (first | with_reducible exact Gr.refl _ | with_reducible assumption | with_reducible refine Gr.alloc ?_ _ | with_reducible refine Gr.drewN ?_ _ | with_reducible refine Gr.drew ?_ | with_reducible refine Gr.setCell ?_ (by first | (dsimp only; omega) | (simp only [World.size_alloc]; omega) | (with_reducible refine Gr.size ?_; (repeat (first | with_reducible exact Gr.refl _ | with_reducible assumption | with_reducible refine Gr.alloc ?_ _ | with_reducible refine Gr.drewN ?_ _ | with_reducible refine Gr.drew ?_ | with_reducible refine Gr.trans ?_ (by with_reducible assumption))); done)) _ | with_reducible refine Gr.trans ?_ (by with_reducible assumption)))⟩
              | false =>
                have HK' := hide (show ∀ j x, j < k + 1 → p.ho[j]? = some x → touB x f = false by
                  intro j x hj hx
                  rcases Nat.lt_or_ge j k with h | h
                  · exact HK.out j x h hx
                  · obtain rfl : j = k := by omega
                    rw [HLa.out] at hx
                    obtain rfl := Option.some.inj hx
                    exact hv)
                have HV : (f.fa == a.fa) = false ∨ ((f.fa == a.fa) = true ∧ (R.diV f.x f.y f.w f.h a.x a.y a.w a.h == 0) = false) := by
                  have := HT.out
                  rw [hv] at this
                  exact fa_no this.symm
                clear hv
                have HD := hide (fun w => R.rDistance_any f.x f.y f.w f.h a.x a.y a.w a.h w)
                generalize R.diV f.x f.y f.w f.h a.x a.y a.w a.h = q at *
                have hbr : b < wr.heap.size := by omega
                rcases HV with v1 | ⟨v1, v2⟩
                all_goals
                  go_upto_region 16 with fail
                  have GC := @GrW.cell
                  refine wp_region_grw _ (by kernel_rfl) (by kernel_rfl) (Gr.refl _) ?_
                  repeat (go_big_quiet_step ((first | (go_at_call 75; exact quiet_grw (holeRect_any _ _)) | (go_at_call 74; exact quiet_grw (HD.out _)))))
                  refine wpQuiet_nil ?_
                  intro wq hwq
                  obtain ⟨gq, hwq'⟩ := hwq
                  subst hwq'
                  clear GC
                  have gq1 := gq.gr
                  generalize gq.w = wq at gq1 ⊢
                  obtain ⟨Xq, Yq, cq, fq⟩ := gq1.use
                  have sq := gq1.size
                  (try simp only [World.size_alloc, World.size_setCell, World.heap_drewN] at sq)
                  go_wp2
                  go_roundw
                  case rel => exact ⟨k + 1, by omega, by go_num, (by repeat (first | with_reducible exact Gr.refl _ | with_reducible assumption | with_reducible refine Gr.alloc ?_ _ | with_reducible refine Gr.drewN ?_ _ | with_reducible refine Gr.drew ?_ | with_reducible refine Gr.setCell ?_ (by first | (dsimp only; omega) | (simp only [World.size_alloc]; omega) | (with_reducible refine Gr.size ?_; (repeat (first | with_reducible exact Gr.refl _ | with_reducible assumption | with_reducible refine Gr.alloc ?_ _ | with_reducible refine Gr.drewN ?_ _ | with_reducible refine Gr.drew ?_ | with_reducible refine Gr.trans ?_ (by with_reducible assumption))); done)) _ | with_reducible refine Gr.trans ?_ (by with_reducible assumption))), HK'⟩
                  case measure => simp only [intOf]; omega
            · obtain rfl : k = i := by omega
              have HI' := hide (show ∀ j, j < k + 1 → ∀ m a b, m < j → p.ho[m]? = some a → p.ho[j]? = some b → touB a b = false by
                intro j hj m a b hm hx hy
                rcases Nat.lt_or_ge j k with h | h
                · exact HI.out j h m a b hm hx hy
                · obtain rfl : j = k := by omega
                  rw [hf] at hy
                  obtain rfl := Option.some.inj hy
                  exact HK.out m a hm hx)
              go_wp2
              go_roundw
              case rel => exact ⟨k + 1, by omega, by go_num, (by repeat (first | with_reducible exact Gr.refl _ | with_reducible assumption | with_reducible refine Gr.alloc ?_ _ | with_reducible refine Gr.drewN ?_ _ | with_reducible refine Gr.drew ?_ | with_reducible refine Gr.setCell ?_ (by first | (dsimp only; omega) | (simp only [World.size_alloc]; omega) | (with_reducible refine Gr.size ?_; (repeat (first | with_reducible exact Gr.refl _ | with_reducible assumption | with_reducible refine Gr.alloc ?_ _ | with_reducible refine Gr.drewN ?_ _ | with_reducible refine Gr.drew ?_ | with_reducible refine Gr.trans ?_ (by with_reducible assumption))); done)) _ | with_reducible refine Gr.trans ?_ (by with_reducible assumption))), HI'⟩
              case measure => simp only [intOf]; omega
        · obtain rfl : i = p.ho.length := by omega
          have HE2 := hide (hosE_ok HA.out (anyB_no HI.out))
          go_wp2
          go_ret
          exact ⟨ret_iv HE2.out.symm, (by repeat (first | with_reducible exact Gr.refl _ | with_reducible assumption | with_reducible refine Gr.alloc ?_ _ | with_reducible refine Gr.drewN ?_ _ | with_reducible refine Gr.drew ?_ | with_reducible refine Gr.setCell ?_ (by first | (dsimp only; omega) | (simp only [World.size_alloc]; omega) | (with_reducible refine Gr.size ?_; (repeat (first | with_reducible exact Gr.refl _ | with_reducible assumption | with_reducible refine Gr.alloc ?_ _ | with_reducible refine Gr.drewN ?_ _ | with_reducible refine Gr.drew ?_ | with_reducible refine Gr.trans ?_ (by with_reducible assumption))); done)) _ | with_reducible refine Gr.trans ?_ (by with_reducible assumption)))⟩
end Go.Proofs.Ytefjgfglommefaa
