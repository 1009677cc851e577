/-
  Parts compared, in the reference: Equal.
-/
import Derived.Test.YtpmomgfepkegnaaLaw2
set_option linter.unusedVariables false
set_option linter.unusedSimpArgs false
namespace Go.Proofs.Ytpmomgfepkegnaa
set_option linter.unusedVariables false
set_option linter.unusedSimpArgs false
open Go Go.ChangeShapes Go.WideShapes Go.ChangeAt Go.RowKit Go.Deep

def hdQ (p q : Pa) : Bool := (p.nm.toList == q.nm.toList) && (p.mt.toList == q.mt.toList) && (p.ga == q.ga) && (p.gr == q.gr) && (p.wd == q.wd) && (p.ht == q.ht)
theorem hdQ_parts {p q : Pa} : hdQ p q = true ↔ (p.nm.toList == q.nm.toList) = true ∧ (p.mt.toList == q.mt.toList) = true ∧ (p.ga == q.ga) = true ∧ (p.gr == q.gr) = true ∧ (p.wd == q.wd) = true ∧ (p.ht == q.ht) = true := by
  unfold hdQ
  simp only [Bool.and_eq_true, and_assoc]
/-- whether two parts are equal -/
noncomputable def eqB (p q : Pa) : Bool := hdQ p q && (lsB flB p.fl q.fl && lsB hoQ p.ho q.ho)
theorem eqB_self (p : Pa) : eqB p p = true := by
  unfold eqB
  rw [lsB_self flB_self, lsB_self hoQ_self, hdQ_parts.2 (by simp)]
  rfl
theorem eqB_head {p q : Pa} (h : hdQ p q = false) : eqB p q = false := by
  unfold eqB
  rw [h]
  rfl
theorem eqB_fl {p q : Pa} (h : lsB flB p.fl q.fl = false) : eqB p q = false := by
  unfold eqB
  rw [h]
  simp
theorem eqB_rest {p q : Pa} (h : hdQ p q = true) (k : lsB flB p.fl q.fl = true) : eqB p q = lsB hoQ p.ho q.ho := by
  unfold eqB
  rw [h, k]
  rfl
set_option maxRecDepth 100000 in
set_option maxHeartbeats 4000000 in
theorem rEqual_any (p q : Pa) (A B A' B' : Option Addr) (c d c' d' : Nat) (w : World) (hp : PaW w p A c B d) (hq : PaW w q A' c' B' d') :
    Calls Try.prog 20 #[pav p A c B d, pav q A' c' B' d'] w fun e w' => e = .returned (.bool (eqB p q)) ∧ Gr w w' := by
  have n1 := hp.fl.len
  have n2 := hq.fl.len
  have HP := hide hp
  have HQ := hide hq
  clear hp hq
  cases hh : hdQ p q with
  | false =>
    have HN := hide (show ¬ ((p.nm.toList == q.nm.toList) = true ∧ (p.mt.toList == q.mt.toList) = true ∧ (p.ga == q.ga) = true ∧ (p.gr == q.gr) = true ∧ (p.wd == q.wd) = true ∧ (p.ht == q.ht) = true) by rw [← hdQ_parts, hh]; simp)
    have HE := hide (eqB_head hh)
    clear hh
    go_enter Try.func20, Try.ntmps20
    go_upto_region 3 with fail
    all_goals first
      | (go_ret
         exact ⟨ret_bool HE.out.symm, (by repeat (first | with_reducible exact Gr.refl _ | with_reducible assumption | with_reducible refine Gr.alloc ?_ _ | with_reducible refine Gr.drewN ?_ _ | with_reducible refine Gr.drew ?_ | with_reducible refine Gr.setCell ?_ (by first | (dsimp only; omega) | (simp only [World.size_alloc]; omega) | (with_reducible refine Gr.size ?_; (repeat (first | with_reducible exact Gr.refl _ | with_reducible assumption | with_reducible refine Gr.alloc ?_ _ | with_reducible refine Gr.drewN ?_ _ | with_reducible refine Gr.drew ?_ | with_reducible refine Gr.trans ?_ (by with_reducible assumption))); done)) _ | with_reducible refine Gr.trans ?_ (by with_reducible assumption)))⟩)
      | (exfalso
         refine HN.out ⟨?_, ?_, ?_, ?_, ?_, ?_⟩ <;> (first | assumption | exact bn_eq (by assumption) | (simp at *; assumption)))
  | true =>
    obtain ⟨k1, k2, k3, k4, k5, k6⟩ := hdQ_parts.1 hh
    have HH := hide hh
    have h3 := eq_bn k3
    have h4 := eq_bn k4
    have h5 := eq_bn k5
    have h6 := eq_bn k6
    clear hh k3 k4 k5 k6
    by_cases hlen : p.fl.length = q.fl.length
    · have HN := hide hlen
      have hqq : ((p.fl.length : Int) != (q.fl.length : Int)) = false := eq_bn (by rw [beq_iff_eq]; omega)
      have GP := gFlg
      clear hlen
      go_enter Try.func20, Try.ntmps20
      go_upto_region 3 with fail
      go_wp2
      clear k1 k2 h3 h4 h5 h6 hqq
      go_loopw [5] (fun i wr => ∃ k : Nat, k ≤ p.fl.length ∧ i = iv k ∧ Gr ((w.alloc (.cells #[.string p.nm, .string p.mt, iv p.ga, iv p.gr, iv p.wd, iv p.ht, .slice A p.fl.length c, .slice B p.ho.length d] 25)).alloc (.cells #[.string q.nm, .string q.mt, iv q.ga, iv q.gr, iv q.wd, iv q.ht, .slice A' q.fl.length c', .slice B' q.ho.length d'] 25)) wr ∧ Hid (∀ i a b, i < k → p.fl[i]? = some a → q.fl[i]? = some b → flB a b = true)) (fun i _ => p.fl.length - (intOf i).toNat)
      case atStart => exact ⟨0, by omega, rfl, Gr.refl _, by intro i a b hi; omega⟩
      case round =>
        obtain ⟨k, hk, rfl, g, HS⟩ := hrel
        have gW : Gr w wr := (by repeat (first | with_reducible exact Gr.refl _ | with_reducible assumption | with_reducible refine Gr.alloc ?_ _ | with_reducible refine Gr.drewN ?_ _ | with_reducible refine Gr.drew ?_ | with_reducible refine Gr.setCell ?_ (by first | (dsimp only; omega) | (simp only [World.size_alloc]; omega) | (with_reducible refine Gr.size ?_; (repeat (first | with_reducible exact Gr.refl _ | with_reducible assumption | with_reducible refine Gr.alloc ?_ _ | with_reducible refine Gr.drewN ?_ _ | with_reducible refine Gr.drew ?_ | with_reducible refine Gr.trans ?_ (by with_reducible assumption))); done)) _ | with_reducible refine Gr.trans ?_ (by with_reducible assumption)))
        obtain ⟨Xr, Yr, cr, fr⟩ := g.use
        have zr := g.size
        simp only [World.size_alloc] at zr
        have l0 : w.heap.size < wr.heap.size := by omega
        have l1 : w.heap.size + 1 < wr.heap.size := by omega
        by_cases hkl : k < p.fl.length
        · have hkm : k < q.fl.length := by rw [← HN.out]; exact hkl
          obtain ⟨a, ha⟩ : ∃ a, p.fl[k]? = some a := ⟨_, List.getElem?_eq_getElem hkl⟩
          obtain ⟨b, hb⟩ : ∃ b, q.fl[k]? = some b := ⟨_, List.getElem?_eq_getElem hkm⟩
          obtain ⟨pb, o, rfl, x0, x1, x2, x3, x4, x5, x6⟩ := HP.out.fl.rd.fl ha
          obtain ⟨qb, o', rfl, y0, y1, y2, y3, y4, y5, y6⟩ := HQ.out.fl.rd.fl hb
          have hp1 : pb < w.heap.size := cell_lt (by rw [x0]; rfl)
          have hq1 : qb < w.heap.size := cell_lt (by rw [y0]; rfl)
          have hp2 : pb < wr.heap.size := by omega
          have hq2 : qb < wr.heap.size := by omega
          have NEQ := fun w => eqFlg a b w
          have hk0 : (0 : Int) ≤ (k : Int) := by omega
          have hk1 : (k : Int) < (p.fl.length : Int) := by omega
          have hk2 : (k : Int) < (q.fl.length : Int) := by omega
          have HLa := hide ha
          have HLb := hide hb
          clear ha hb
          cases hv : flB a b with
          | true =>
            have HS' := hide (show ∀ i x y, i < k + 1 → p.fl[i]? = some x → q.fl[i]? = some y → flB x y = true by
              intro i x y hi hx hy
              rcases Nat.lt_or_ge i k with h | h
              · exact HS.out i x y h hx hy
              · obtain rfl : i = k := by omega
                rw [HLa.out] at hx
                rw [HLb.out] at hy
                obtain rfl := Option.some.inj hx
                obtain rfl := Option.some.inj hy
                exact hv)
            rw [hv] at NEQ
            clear hv
            go_upto_region 6 with fail
            have GC := @GrW.cell
            refine wp_region_grw _ (by kernel_rfl) (by kernel_rfl) (Gr.refl _) ?_
            repeat (go_big_quiet_step ((first | fail)))
            refine wpQuiet_nil ?_
            intro wq hwq
            obtain ⟨gq, hwq'⟩ := hwq
            subst hwq'
            clear GC
            have gq1 := gq.gr
            generalize gq.w = wq at gq1 ⊢
            obtain ⟨Xq, Yq, cq, fq⟩ := gq1.use
            have sq := gq1.size
            (try simp only [World.size_alloc, World.size_setCell, World.heap_drewN] at sq)
            go_wp2
            go_roundw
            case rel => exact ⟨k + 1, by omega, by go_num, (by repeat (first | with_reducible exact Gr.refl _ | with_reducible assumption | with_reducible refine Gr.alloc ?_ _ | with_reducible refine Gr.drewN ?_ _ | with_reducible refine Gr.drew ?_ | with_reducible refine Gr.setCell ?_ (by first | (dsimp only; omega) | (simp only [World.size_alloc]; omega) | (with_reducible refine Gr.size ?_; (repeat (first | with_reducible exact Gr.refl _ | with_reducible assumption | with_reducible refine Gr.alloc ?_ _ | with_reducible refine Gr.drewN ?_ _ | with_reducible refine Gr.drew ?_ | with_reducible refine Gr.trans ?_ (by with_reducible assumption))); done)) _ | with_reducible refine Gr.trans ?_ (by with_reducible assumption))), HS'⟩
            case measure => simp only [intOf]; omega
          | false =>
            have HE := hide (eqB_fl (p := p) (q := q) (lsB_stop (f := flB) HLa.out HLb.out hv))
            rw [hv] at NEQ
            clear hv
            go_upto_region 6 with fail
            have GC := @GrW.cell
            refine wp_region_grw _ (by kernel_rfl) (by kernel_rfl) (Gr.refl _) ?_
            repeat (go_big_quiet_step ((first | fail)))
            refine wpQuiet_nil ?_
            intro wq hwq
            obtain ⟨gq, hwq'⟩ := hwq
            subst hwq'
            clear GC
            have gq1 := gq.gr
            generalize gq.w = wq at gq1 ⊢
            obtain ⟨Xq, Yq, cq, fq⟩ := gq1.use
            have sq := gq1.size
            (try simp only [World.size_alloc, World.size_setCell, World.heap_drewN] at sq)
            go_wp2
            go_ret
            exact ⟨ret_bool HE.out.symm, (by repeat (first | with_reducible exact Gr.refl _ | with_reducible assumption | with_reducible refine Gr.alloc ?_ _ | with_reducible refine Gr.drewN ?_ _ | with_reducible refine Gr.drew ?_ | with_reducible refine Gr.setCell ?_ (by first | (dsimp only; omega) | (simp only [World.size_alloc]; omega) | (with_reducible refine Gr.size ?_; (repeat (first | with_reducible exact Gr.refl _ | with_reducible assumption | with_reducible refine Gr.alloc ?_ _ | with_reducible refine Gr.drewN ?_ _ | with_reducible refine Gr.drew ?_ | with_reducible refine Gr.trans ?_ (by with_reducible assumption))); done)) _ | with_reducible refine Gr.trans ?_ (by with_reducible assumption)))⟩
        · obtain rfl : k = p.fl.length := by omega
          have HE := hide (eqB_rest HH.out (lsB_end (f := flB) HN.out HS.out))
          have HSH := hide (sameHoles_any B B' d d' p.ho q.ho wr (HP.out.ho.gr gW) (HQ.out.ho.gr gW))
          go_wp2_with fail
          refine HSH.out.mono ?_
          rintro e w2 ⟨rfl, g2⟩
          go_wp2_with fail
          go_ret
          exact ⟨ret_bool HE.out.symm, (by repeat (first | with_reducible exact Gr.refl _ | with_reducible assumption | with_reducible refine Gr.alloc ?_ _ | with_reducible refine Gr.drewN ?_ _ | with_reducible refine Gr.drew ?_ | with_reducible refine Gr.setCell ?_ (by first | (dsimp only; omega) | (simp only [World.size_alloc]; omega) | (with_reducible refine Gr.size ?_; (repeat (first | with_reducible exact Gr.refl _ | with_reducible assumption | with_reducible refine Gr.alloc ?_ _ | with_reducible refine Gr.drewN ?_ _ | with_reducible refine Gr.drew ?_ | with_reducible refine Gr.trans ?_ (by with_reducible assumption))); done)) _ | with_reducible refine Gr.trans ?_ (by with_reducible assumption)))⟩
    · have HE := hide (eqB_fl (p := p) (q := q) (lsB_len (f := flB) hlen))
      have hqq : ((p.fl.length : Int) != (q.fl.length : Int)) = true := by rw [bne_iff_ne]; omega
      clear hlen
      go_enter Try.func20, Try.ntmps20
      go_wp2
      go_ret
      exact ⟨ret_bool HE.out.symm, (by repeat (first | with_reducible exact Gr.refl _ | with_reducible assumption | with_reducible refine Gr.alloc ?_ _ | with_reducible refine Gr.drewN ?_ _ | with_reducible refine Gr.drew ?_ | with_reducible refine Gr.setCell ?_ (by first | (dsimp only; omega) | (simp only [World.size_alloc]; omega) | (with_reducible refine Gr.size ?_; (repeat (first | with_reducible exact Gr.refl _ | with_reducible assumption | with_reducible refine Gr.alloc ?_ _ | with_reducible refine Gr.drewN ?_ _ | with_reducible refine Gr.drew ?_ | with_reducible refine Gr.trans ?_ (by with_reducible assumption))); done)) _ | with_reducible refine Gr.trans ?_ (by with_reducible assumption)))⟩
end Go.Proofs.Ytpmomgfepkegnaa
