/-
  Check of the reference.
-/
import Derived.Test.YtjdiepnbchcnoaaSb19
set_option linter.unusedVariables false
set_option linter.unusedSimpArgs false
namespace Go.Proofs.Ytjdiepnbchcnoaa
set_option linter.unusedVariables false
set_option linter.unusedSimpArgs false
open Go Go.ChangeShapes Go.WideShapes Go.ChangeAt Go.RowKit Go.Deep

/-- pairs, or none -/
def rngP (L : List Int) : Prop := ∀ p ∈ L, -1 ≤ p ∧ p ≤ 8
theorem moF_rng {n : Nat} {s t i : Int} : ∀ {l : List Chg} {a : Int}, (∀ x ∈ l, okC n s x = true) → -1 ≤ a ∧ a ≤ 8 → -1 ≤ l.foldl (moF t i) a ∧ l.foldl (moF t i) a ≤ 8
  | [], a, _, h => h
  | x :: l, a, hx, h => by
    rw [List.foldl_cons]
    refine moF_rng (fun y hy => hx y (List.mem_cons_of_mem _ hy)) ?_
    have := hx x (List.mem_cons_self ..)
    unfold okC at this
    simp only [Bool.and_eq_true, wiB_iff] at this
    unfold moF
    split <;> omega
theorem ord_mem {n : Nat} {s : Int} {l : List Chg} (h : Ord n s l l.length) : ∀ x ∈ l, okC n s x = true := by
  intro x hx
  obtain ⟨i, hi⟩ := List.mem_iff_getElem?.1 hx
  exact (h i x (List.getElem?_eq_some_iff.1 hi).1 hi).1
theorem moL_rng {n q : Nat} {s t : Int} {l : List Chg} (h : Ord n s l l.length) : rngP (moL q l t) := by
  intro p hp
  unfold moL at hp
  obtain ⟨i, _, rfl⟩ := List.mem_map.1 hp
  exact moF_rng (ord_mem h) (by omega)
def pos (L : List Int) : List Int := L.filter fun p => decide (0 ≤ p)
theorem pos_in {L : List Int} (h : rngP L) : inR (pos L) := by
  intro z hz
  unfold pos at hz
  obtain ⟨h1, h2⟩ := List.mem_filter.1 hz
  have := h z h1
  rw [decide_eq_true_eq] at h2
  omega
theorem rng_take {L : List Int} (h : rngP L) (k : Nat) : rngP (L.take k) := fun z hz => h z (List.mem_of_mem_take hz)
theorem pos_yes {L : List Int} {k : Nat} {p : Int} (h : L[k]? = some p) (hp : 0 ≤ p) : pos (L.take (k + 1)) = pos (L.take k) ++ [p] := by
  unfold pos
  rw [take_at h, List.filter_append]
  simp [hp]
theorem pos_no {L : List Int} {k : Nat} {p : Int} (h : L[k]? = some p) (hp : ¬ 0 ≤ p) : pos (L.take (k + 1)) = pos (L.take k) := by
  unfold pos
  rw [take_at h, List.filter_append]
  simp [hp]
theorem mt_pos {L : List Int} {x : Nd} (h : rngP L) (hx : inR x.l) : LS.mt (mk (pos L)) (mk x.l) = stOk x L := by
  rw [Bool.eq_iff_iff, LS.mt_iff]
  unfold stOk
  rw [List.any_eq_true]
  constructor
  · rintro ⟨i, hi, h1, h2⟩
    rw [mk_bit (pos_in h)] at h1
    rw [mk_bit hx] at h2
    exact ⟨(i : Int), (List.mem_filter.1 h1).1, decide_eq_true h2⟩
  · rintro ⟨p, hp, hpx⟩
    rw [decide_eq_true_eq] at hpx
    have := hx p hpx
    refine ⟨p.toNat, by omega, ?_, ?_⟩
    · rw [mk_bit (pos_in h), show ((p.toNat : Nat) : Int) = p by omega]
      exact List.mem_filter.2 ⟨hp, decide_eq_true this.1⟩
    · rw [mk_bit hx, show ((p.toNat : Nat) : Int) = p by omega]
      exact hpx
theorem svB_one {ss : List Nat} {t n m : Nat} (h : ss[t]? = some n) : svB ss t t m = LS.mt m n := by
  unfold svB
  rw [drop_at h, show t + 1 - t = 1 by omega]
  simp
set_option maxRecDepth 100000 in
set_option maxHeartbeats 4000000 in
theorem rCheck_any (A B : Option Addr) (c d : Nat) (ns : List Nd) (s : Int) (l : List Chg) (w : World) (hl : SlN w A c ns) (hp : SlC w B d l) :
    Calls Try.prog 11 #[.slice A ns.length c, iv s, .slice B l.length d] w fun e w' => e = .returned (iv (ckE ns s l)) ∧ Gr w w' := by
  have HV := hide (rCheck0_any A c ns s w hl)
  have n1 := hp.cap
  have n2 := hp.capB
  have n3 := hl.cap
  have n4 := hl.capB
  by_cases h0 : chE ns s = 0
  · obtain ⟨h2, h3⟩ := chE_ok h0
    obtain ⟨b4, b5⟩ := wiB_iff.1 h3
    obtain ⟨hlen, hB⟩ := vaE_ok h2
    have HIO := hide (fun (w' : World) (g : Gr w w') => ordered_any B A d c ns l s w' (hp.gr g) (by omega) ⟨b4, b5⟩)
    cases ho : orB ns.length s l with
    | false =>
      have HE := hide (ckE_ord h0 ho)
      rw [h0] at HV
      rw [ho] at HIO
      rw [HE.out]
      clear h0 ho hl hp h2 h3 hB
      go_enter Try.func11, Try.ntmps11
      go_wp2_with (first | (go_at_call 22; refine (HV.out).mono ?_; rintro e w1 ⟨rfl, g1⟩; obtain ⟨X1, Y1, c1, f1⟩ := g1.use) | (go_at_call 28; refine (HIO.out _ (by repeat (first | with_reducible exact Gr.refl _ | with_reducible assumption | with_reducible refine Gr.alloc ?_ _ | with_reducible refine Gr.drewN ?_ _ | with_reducible refine Gr.drew ?_ | with_reducible refine Gr.setCell ?_ (by first | (dsimp only; omega) | (simp only [World.size_alloc]; omega) | (with_reducible refine Gr.size ?_; (repeat (first | with_reducible exact Gr.refl _ | with_reducible assumption | with_reducible refine Gr.alloc ?_ _ | with_reducible refine Gr.drewN ?_ _ | with_reducible refine Gr.drew ?_ | with_reducible refine Gr.trans ?_ (by with_reducible assumption))); done)) _ | with_reducible refine Gr.trans ?_ (by with_reducible assumption)))).mono ?_; rintro e w1 ⟨rfl, g1⟩; obtain ⟨X1, Y1, c1, f1⟩ := g1.use))
      go_ret
      exact ⟨rfl, (by repeat (first | with_reducible exact Gr.refl _ | with_reducible assumption | with_reducible refine Gr.alloc ?_ _ | with_reducible refine Gr.drewN ?_ _ | with_reducible refine Gr.drew ?_ | with_reducible refine Gr.setCell ?_ (by first | (dsimp only; omega) | (simp only [World.size_alloc]; omega) | (with_reducible refine Gr.size ?_; (repeat (first | with_reducible exact Gr.refl _ | with_reducible assumption | with_reducible refine Gr.alloc ?_ _ | with_reducible refine Gr.drewN ?_ _ | with_reducible refine Gr.drew ?_ | with_reducible refine Gr.trans ?_ (by with_reducible assumption))); done)) _ | with_reducible refine Gr.trans ?_ (by with_reducible assumption)))⟩
    | true =>
      have HE := hide (ckE_in h0 ho)
      have HOR := hide (orB_iff.1 ho)
      obtain ⟨q, rfl⟩ : ∃ q : Nat, s = q := ⟨s.toNat, by omega⟩
      have HMT := hide (fun (t : Int) (w' : World) (g : Gr w w') => rmounted_any B d q l t w' (hp.gr g) (by omega))
      have HRN := hide (fun t : Int => moL_rng (q := q) (t := t) HOR.out)
      have HSV := hide (fun (t m : Nat) (hm : m < 512) (ht : t < ns.length) (w' : World) (g : Gr w w') => rserves_any A c ns m t t w' (hl.gr g) hB hm (Nat.le_refl _) ht (by omega))
      have HB := hide hB
      rw [h0] at HV
      rw [ho] at HIO
      clear h0 ho hl hp h2 h3 hB
      go_enter Try.func11, Try.ntmps11
      go_wp2_with (first | (go_at_call 22; refine (HV.out).mono ?_; rintro e w1 ⟨rfl, g1⟩; obtain ⟨X1, Y1, c1, f1⟩ := g1.use) | (go_at_call 28; refine (HIO.out _ (by repeat (first | with_reducible exact Gr.refl _ | with_reducible assumption | with_reducible refine Gr.alloc ?_ _ | with_reducible refine Gr.drewN ?_ _ | with_reducible refine Gr.drew ?_ | with_reducible refine Gr.setCell ?_ (by first | (dsimp only; omega) | (simp only [World.size_alloc]; omega) | (with_reducible refine Gr.size ?_; (repeat (first | with_reducible exact Gr.refl _ | with_reducible assumption | with_reducible refine Gr.alloc ?_ _ | with_reducible refine Gr.drewN ?_ _ | with_reducible refine Gr.drew ?_ | with_reducible refine Gr.trans ?_ (by with_reducible assumption))); done)) _ | with_reducible refine Gr.trans ?_ (by with_reducible assumption)))).mono ?_; rintro e w1 ⟨rfl, g1⟩; obtain ⟨X1, Y1, c1, f1⟩ := g1.use))
      go_loopw [8] (fun i wr => ∃ t : Nat, t ≤ ns.length ∧ i = iv t ∧ Gr w wr ∧ Hid (∀ t', t' < t → ckS ns q l t' = true)) (fun i _ => ns.length - (intOf i).toNat)
      case atStart => exact ⟨0, by omega, rfl, (by repeat (first | with_reducible exact Gr.refl _ | with_reducible assumption | with_reducible refine Gr.alloc ?_ _ | with_reducible refine Gr.drewN ?_ _ | with_reducible refine Gr.drew ?_ | with_reducible refine Gr.setCell ?_ (by first | (dsimp only; omega) | (simp only [World.size_alloc]; omega) | (with_reducible refine Gr.size ?_; (repeat (first | with_reducible exact Gr.refl _ | with_reducible assumption | with_reducible refine Gr.alloc ?_ _ | with_reducible refine Gr.drewN ?_ _ | with_reducible refine Gr.drew ?_ | with_reducible refine Gr.trans ?_ (by with_reducible assumption))); done)) _ | with_reducible refine Gr.trans ?_ (by with_reducible assumption))), hide (fun t' h => absurd h (Nat.not_lt_zero t'))⟩
      case round =>
        obtain ⟨t, ht, rfl, g, HOK⟩ := hrel
        by_cases htn : t < ns.length
        · obtain ⟨x, hx⟩ : ∃ x, ns[t]? = some x := ⟨_, List.getElem?_eq_getElem htn⟩
          have HX := hide hx
          have hxr := inR_of (nds_in HB.out (List.mem_of_getElem? hx)).2
          have HST := hide (show ∀ L, rngP L → svB (mks ns) t t (mk (pos L)) = stOk x L from fun L hL => by
            rw [svB_one (n := mk x.l) (by unfold mks; rw [List.getElem?_map, hx]; rfl), mt_pos hL hxr])
          clear hx hxr
          obtain ⟨wo, rfl⟩ : ∃ wo, wo = wr := ⟨_, rfl⟩
          go_wp2_with fail
          refine (HMT.out _ _ g).mono ?_
          rintro e w3 ⟨A3, d3, rfl, s3, g3⟩
          have S3 := hide s3
          have c3 := s3.cap
          have c3' := s3.capB
          have gw3 : Gr w w3 := g.trans g3
          have HR := hide (HRN.out (t : Int))
          have HL3 := hide (moL_len q l (t : Int))
          have HCS := hide (show ckS ns q l t = stOk x (moL q l (t : Int)) from ckS_at HX.out)
          have HSX := hide (HST.out (moL q l (t : Int)) HR.out)
          clear s3
          have hL3 : (moL q l (t : Int)).length ≤ 3 := by rw [HL3.out]; omega
          generalize moL q l (t : Int) = L at *
          go_wp2
          go_loopw [9, 11] (fun m k wr => ∃ k' : Nat, k' ≤ L.length ∧ k = iv k' ∧ m = iv (mk (pos (L.take k'))) ∧ Gr w3 wr) (fun _ k _ => L.length - (intOf k).toNat)
          case atStart => exact ⟨0, by omega, rfl, rfl, Gr.refl _⟩
          case round =>
            obtain ⟨k, hk, rfl, rfl, g'⟩ := hrel
            have gz : Gr w wr := gw3.trans g'
            by_cases hkl : k < L.length
            · obtain ⟨p, hp⟩ : ∃ p, L[k]? = some p := ⟨_, List.getElem?_eq_getElem hkl⟩
              obtain ⟨b, o, rfl, x0⟩ := (S3.out.gr g').rd.in_ hp
              have hk0 : (0 : Int) ≤ (k : Int) := by omega
              have hk1 : (k : Int) < (L.length : Int) := by omega
              by_cases hp0 : 0 ≤ p
              · have hpr := HR.out p (List.mem_of_getElem? hp)
                obtain ⟨u, rfl⟩ : ∃ u : Nat, p = u := ⟨p.toNat, by omega⟩
                have hu : u < 9 := by omega
                have HT := hide (show mk (pos (L.take k)) ||| 2 ^ u = mk (pos (L.take (k + 1))) by rw [pos_yes hp hp0, mk_snoc]; rfl)
                have W1 := i_orp (m := mk (pos (L.take k))) (mk_lt (pos_in (rng_take HR.out k))) hu
                have W2 := shl_u hu
                have W3 := pow_in hu
                rw [HT.out] at W1
                clear hp hpr hp0
                generalize mk (pos (L.take k)) = M at *
                go_wp2
                go_roundw
                case rel => exact ⟨k + 1, by omega, by go_num, rfl, (by repeat (first | with_reducible exact Gr.refl _ | with_reducible assumption | with_reducible refine Gr.alloc ?_ _ | with_reducible refine Gr.drewN ?_ _ | with_reducible refine Gr.drew ?_ | with_reducible refine Gr.setCell ?_ (by first | (dsimp only; omega) | (simp only [World.size_alloc]; omega) | (with_reducible refine Gr.size ?_; (repeat (first | with_reducible exact Gr.refl _ | with_reducible assumption | with_reducible refine Gr.alloc ?_ _ | with_reducible refine Gr.drewN ?_ _ | with_reducible refine Gr.drew ?_ | with_reducible refine Gr.trans ?_ (by with_reducible assumption))); done)) _ | with_reducible refine Gr.trans ?_ (by with_reducible assumption)))⟩
                case measure => simp only [intOf]; omega
              · have HT := hide (show mk (pos (L.take k)) = mk (pos (L.take (k + 1))) by rw [pos_no hp hp0])
                have hp0' : decide (0 ≤ p) = false := by simpa using hp0
                clear hp hp0
                go_wp2
                go_roundw
                case rel => exact ⟨k + 1, by omega, by go_num, by rw [HT.out], (by repeat (first | with_reducible exact Gr.refl _ | with_reducible assumption | with_reducible refine Gr.alloc ?_ _ | with_reducible refine Gr.drewN ?_ _ | with_reducible refine Gr.drew ?_ | with_reducible refine Gr.setCell ?_ (by first | (dsimp only; omega) | (simp only [World.size_alloc]; omega) | (with_reducible refine Gr.size ?_; (repeat (first | with_reducible exact Gr.refl _ | with_reducible assumption | with_reducible refine Gr.alloc ?_ _ | with_reducible refine Gr.drewN ?_ _ | with_reducible refine Gr.drew ?_ | with_reducible refine Gr.trans ?_ (by with_reducible assumption))); done)) _ | with_reducible refine Gr.trans ?_ (by with_reducible assumption)))⟩
                case measure => simp only [intOf]; omega
            · obtain rfl : k = L.length := by omega
              rw [List.take_length]
              have hm := mk_lt (pos_in HR.out)
              have HS := hide (HSV.out t (mk (pos L)) hm htn wr gz)
              rw [HSX.out] at HS
              generalize mk (pos L) = M at *
              cases hv : stOk x L with
              | true =>
                have HOK1 := hide (below HOK.out (show ckS ns q l t = true by rw [HCS.out, hv]))
                rw [hv] at HS
                clear hv
                go_wp2_with (first | (go_at_call 30; refine (HS.out).mono ?_; rintro e w1 ⟨rfl, rfl⟩))
                go_roundw
                case rel => exact ⟨t + 1, by omega, by go_num, (by repeat (first | with_reducible exact Gr.refl _ | with_reducible assumption | with_reducible refine Gr.alloc ?_ _ | with_reducible refine Gr.drewN ?_ _ | with_reducible refine Gr.drew ?_ | with_reducible refine Gr.setCell ?_ (by first | (dsimp only; omega) | (simp only [World.size_alloc]; omega) | (with_reducible refine Gr.size ?_; (repeat (first | with_reducible exact Gr.refl _ | with_reducible assumption | with_reducible refine Gr.alloc ?_ _ | with_reducible refine Gr.drewN ?_ _ | with_reducible refine Gr.drew ?_ | with_reducible refine Gr.trans ?_ (by with_reducible assumption))); done)) _ | with_reducible refine Gr.trans ?_ (by with_reducible assumption))), HOK1⟩
                case measure => simp only [intOf]; omega
              | false =>
                have HF := hide (show ckE ns (q : Int) l = 11 by rw [HE.out]; rw [show ckB ns (q : Int).toNat l = false from ckB_stop htn (by rw [Int.toNat_natCast, HCS.out, hv])]; rfl)
                rw [hv] at HS
                clear hv
                go_wp2_with (first | (go_at_call 30; refine (HS.out).mono ?_; rintro e w1 ⟨rfl, rfl⟩))
                go_ret
                exact ⟨ret_iv HF.out.symm, (by repeat (first | with_reducible exact Gr.refl _ | with_reducible assumption | with_reducible refine Gr.alloc ?_ _ | with_reducible refine Gr.drewN ?_ _ | with_reducible refine Gr.drew ?_ | with_reducible refine Gr.setCell ?_ (by first | (dsimp only; omega) | (simp only [World.size_alloc]; omega) | (with_reducible refine Gr.size ?_; (repeat (first | with_reducible exact Gr.refl _ | with_reducible assumption | with_reducible refine Gr.alloc ?_ _ | with_reducible refine Gr.drewN ?_ _ | with_reducible refine Gr.drew ?_ | with_reducible refine Gr.trans ?_ (by with_reducible assumption))); done)) _ | with_reducible refine Gr.trans ?_ (by with_reducible assumption)))⟩
        · obtain rfl : t = ns.length := by omega
          have HF := hide (show ckE ns (q : Int) l = 0 by rw [HE.out]; rw [show ckB ns (q : Int).toNat l = true from ckB_end HOK.out]; rfl)
          go_wp2
          go_ret
          exact ⟨ret_iv HF.out.symm, (by repeat (first | with_reducible exact Gr.refl _ | with_reducible assumption | with_reducible refine Gr.alloc ?_ _ | with_reducible refine Gr.drewN ?_ _ | with_reducible refine Gr.drew ?_ | with_reducible refine Gr.setCell ?_ (by first | (dsimp only; omega) | (simp only [World.size_alloc]; omega) | (with_reducible refine Gr.size ?_; (repeat (first | with_reducible exact Gr.refl _ | with_reducible assumption | with_reducible refine Gr.alloc ?_ _ | with_reducible refine Gr.drewN ?_ _ | with_reducible refine Gr.drew ?_ | with_reducible refine Gr.trans ?_ (by with_reducible assumption))); done)) _ | with_reducible refine Gr.trans ?_ (by with_reducible assumption)))⟩
  · have HE := hide (ckE_bad (l := l) h0)
    have h1 : (chE ns s != 0) = true := by simpa using h0
    rw [HE.out]
    generalize chE ns s = e0 at *
    clear h0 hl hp
    go_enter Try.func11, Try.ntmps11
    go_wp2_with (first | (go_at_call 22; refine (HV.out).mono ?_; rintro e w1 ⟨rfl, g1⟩; obtain ⟨X1, Y1, c1, f1⟩ := g1.use))
    go_ret
    exact ⟨rfl, (by repeat (first | with_reducible exact Gr.refl _ | with_reducible assumption | with_reducible refine Gr.alloc ?_ _ | with_reducible refine Gr.drewN ?_ _ | with_reducible refine Gr.drew ?_ | with_reducible refine Gr.setCell ?_ (by first | (dsimp only; omega) | (simp only [World.size_alloc]; omega) | (with_reducible refine Gr.size ?_; (repeat (first | with_reducible exact Gr.refl _ | with_reducible assumption | with_reducible refine Gr.alloc ?_ _ | with_reducible refine Gr.drewN ?_ _ | with_reducible refine Gr.drew ?_ | with_reducible refine Gr.trans ?_ (by with_reducible assumption))); done)) _ | with_reducible refine Gr.trans ?_ (by with_reducible assumption)))⟩
end Go.Proofs.Ytjdiepnbchcnoaa
