/-
  Nests: lists of sheets and pieces, and what lies well on a sheet, of the reference.
  Nests: what lies well on a sheet, of the reference.
  Nests: one placement, of the reference: where there is no such piece or sheet, or the piece can't be put.
  Nests: one placement, of the reference: behind Put.
-/
import Derived.Test.YtocbcbfniiioaaaGreatGQc
import Derived.Test.YtocbcbfniiioaaaGreatGNc
import Derived.Deep.Cut
import Derived.Test.YtocbcbfniiioaaaGreatGKc
import Derived.Test.YtocbcbfniiioaaaGreatGGc
import Derived.Deep.CutRange
set_option linter.unusedVariables false
set_option linter.unusedSimpArgs false
namespace Go.Proofs.YtocbcbfniiioaaaGreat
set_option linter.unusedVariables false
set_option linter.unusedSimpArgs false
open Go Go.ChangeShapes Go.WideShapes Go.ChangeAt Go.RowKit Go.Deep

namespace RG
set_option maxHeartbeats 8000000 in
set_option maxRecDepth 100000 in
theorem given6_any (A : Option Addr) (c : Nat) (S : List ShT) (B : Option Addr) (d : Nat) (P : List Pc) (bs : Pc → Bool) (w : World) (hS : SlS w A c S) (hP : SlP w B d P) (hb : CoBs P bs) :
    Calls Tryz.prog 63 #[.slice A S.length c, .slice B P.length d] w fun e w' => e = .returned (iv (clE S P bs)) ∧ Gr w w' := by
  have n1 := hS.cap
  have n2 := hS.capB
  have n3 := hP.cap
  have n4 := hP.capB
  have HS := hide hS
  have HP := hide hP
  have HV := hide (fun (s : ShT) (w' : World) (h : ShW w' s) => rValidateSheet_any s w' h)
  have HQ := hide (fun (p : Pc) (hp : p ∈ P) (w' : World) (h : PcW w' p) => rValidatePiece_any p (bs p) w' h (hb p hp))
  have HC := hide (show clE S P bs = if 4 < S.length ∨ 8 < P.length then 4 else if fstE (S.map vsE) ≠ 0 then fstE (S.map vsE) else fstE (P.map fun p => vpE p (bs p)) from rfl)
  clear hS hP hb
  by_cases h4 : 4 < S.length
  · have h4' : decide ((S.length : Int) > 4) = true := decide_eq_true (by omega)
    have h4'' : (4 : Int) < (S.length : Int) := by omega
    have HE := hide (show clE S P bs = 4 by rw [HC.out, if_pos (.inl h4)])
    go_enter Tryz.func63, Tryz.ntmps63
    go_wp2
    go_ret
    exact ⟨ret_iv HE.out.symm, (by with_reducible repeat (first | exact Gr.refl _ | assumption | refine Gr.alloc ?_ _ | refine Gr.drewN ?_ _ | refine Gr.drew ?_ | refine Gr.setCell ?_ (by first | (dsimp only; omega) | (simp only [World.size_alloc]; omega) | (refine Gr.size ?_; (repeat (first | exact Gr.refl _ | assumption | refine Gr.alloc ?_ _ | refine Gr.drewN ?_ _ | refine Gr.drew ?_ | refine Gr.trans ?_ (by assumption))); done)) _ | refine Gr.trans ?_ (by assumption)))⟩
  · have h4'' : ¬ ((4 : Int) < (S.length : Int)) := by omega
    by_cases h8 : 8 < P.length
    · have h8'' : (8 : Int) < (P.length : Int) := by omega
      have HE := hide (show clE S P bs = 4 by rw [HC.out, if_pos (.inr h8)])
      go_enter Tryz.func63, Tryz.ntmps63
      go_wp2
      go_ret
      exact ⟨ret_iv HE.out.symm, (by with_reducible repeat (first | exact Gr.refl _ | assumption | refine Gr.alloc ?_ _ | refine Gr.drewN ?_ _ | refine Gr.drew ?_ | refine Gr.setCell ?_ (by first | (dsimp only; omega) | (simp only [World.size_alloc]; omega) | (refine Gr.size ?_; (repeat (first | exact Gr.refl _ | assumption | refine Gr.alloc ?_ _ | refine Gr.drewN ?_ _ | refine Gr.drew ?_ | refine Gr.trans ?_ (by assumption))); done)) _ | refine Gr.trans ?_ (by assumption)))⟩
    · have h8'' : ¬ ((8 : Int) < (P.length : Int)) := by omega
      have HC2 := hide (show clE S P bs = if fstE (S.map vsE) ≠ 0 then fstE (S.map vsE) else fstE (P.map fun p => vpE p (bs p)) by rw [HC.out, if_neg (by omega)])
      go_enter Tryz.func63, Tryz.ntmps63
      go_wp2
      go_loopw [5] (fun i wr => ∃ k : Nat, k ≤ S.length ∧ i = iv k ∧ Gr w wr ∧ Hid (∀ (j : Nat) (x : ShT), j < k → S[j]? = some x → vsE x = 0)) (fun i _ => S.length - (intOf i).toNat)
      case atStart => exact ⟨0, by omega, rfl, Gr.refl _, hide (fun j x h => absurd h (Nat.not_lt_zero j))⟩
      case round =>
        obtain ⟨k, hk, rfl, g, HK⟩ := hrel
        by_cases hkl : k < S.length
        · obtain ⟨s, hs⟩ : ∃ s, S[k]? = some s := ⟨_, List.getElem?_eq_getElem hkl⟩
          obtain ⟨b, o, hA, ⟨x0, x1, x2, x3, x4, x5, x6, x7⟩, hsw⟩ := (HS.out.gr g).at_ hs
          subst hA
          have hbl : b < wr.heap.size := cell_lt (by rw [x0]; rfl)
          have hk0 : (0 : Int) ≤ (k : Int) := by omega
          have hk1 : (k : Int) < (S.length : Int) := by omega
          have HVS := hide (fun (w' : World) (g' : Gr wr w') => HV.out s w' (hsw.gr g'))
          have HX := hide hs
          clear hs hsw
          by_cases h0 : vsE s = 0
          · have HK' := hide (show ∀ (j : Nat) (x : ShT), j < k + 1 → S[j]? = some x → vsE x = 0 by
              intro j x hj hx
              rcases Nat.lt_or_ge j k with h | h
              · exact HK.out j x h hx
              · obtain rfl : j = k := by omega
                rw [HX.out] at hx
                obtain rfl := Option.some.inj hx
                exact h0)
            rw [h0] at HVS
            clear h0
            go_wp2_with (first | (go_at_call 11; refine (HVS.out _ (by with_reducible repeat (first | exact Gr.refl _ | assumption | refine Gr.alloc ?_ _ | refine Gr.drewN ?_ _ | refine Gr.drew ?_ | refine Gr.setCell ?_ (by first | (dsimp only; omega) | (simp only [World.size_alloc]; omega) | (refine Gr.size ?_; (repeat (first | exact Gr.refl _ | assumption | refine Gr.alloc ?_ _ | refine Gr.drewN ?_ _ | refine Gr.drew ?_ | refine Gr.trans ?_ (by assumption))); done)) _ | refine Gr.trans ?_ (by assumption)))).mono ?_; rintro e w1 ⟨rfl, g1⟩; obtain ⟨X1, Y1, c1, f1⟩ := g1.use; have z1 := g1.size; (try simp only [World.size_alloc, World.size_setCell, World.heap_drewN, Nat.add_one_le_iff] at z1); (try have l0 : w.heap.size < w1.heap.size := by omega); (try have l1 : w.heap.size + 1 < w1.heap.size := by omega); (try have l2 : w.heap.size + 1 + 1 < w1.heap.size := by omega)))
            go_roundw
            case rel => exact ⟨k + 1, by omega, by go_num, (by with_reducible repeat (first | exact Gr.refl _ | assumption | refine Gr.alloc ?_ _ | refine Gr.drewN ?_ _ | refine Gr.drew ?_ | refine Gr.setCell ?_ (by first | (dsimp only; omega) | (simp only [World.size_alloc]; omega) | (refine Gr.size ?_; (repeat (first | exact Gr.refl _ | assumption | refine Gr.alloc ?_ _ | refine Gr.drewN ?_ _ | refine Gr.drew ?_ | refine Gr.trans ?_ (by assumption))); done)) _ | refine Gr.trans ?_ (by assumption))), HK'⟩
            case measure => simp only [intOf]; omega
          · have HE := hide (show clE S P bs = vsE s by
              have := fstE_hit (f := vsE) HX.out h0 HK.out
              rw [HC2.out, this, if_pos h0])
            obtain ⟨E, hE⟩ : ∃ E, vsE s = E := ⟨_, rfl⟩
            rw [hE] at HVS HE h0
            have h1 : (E != 0) = true := by simpa using h0
            clear hE
            go_wp2_with (first | (go_at_call 11; refine (HVS.out _ (by with_reducible repeat (first | exact Gr.refl _ | assumption | refine Gr.alloc ?_ _ | refine Gr.drewN ?_ _ | refine Gr.drew ?_ | refine Gr.setCell ?_ (by first | (dsimp only; omega) | (simp only [World.size_alloc]; omega) | (refine Gr.size ?_; (repeat (first | exact Gr.refl _ | assumption | refine Gr.alloc ?_ _ | refine Gr.drewN ?_ _ | refine Gr.drew ?_ | refine Gr.trans ?_ (by assumption))); done)) _ | refine Gr.trans ?_ (by assumption)))).mono ?_; rintro e w1 ⟨rfl, g1⟩; obtain ⟨X1, Y1, c1, f1⟩ := g1.use; have z1 := g1.size; (try simp only [World.size_alloc, World.size_setCell, World.heap_drewN, Nat.add_one_le_iff] at z1); (try have l0 : w.heap.size < w1.heap.size := by omega); (try have l1 : w.heap.size + 1 < w1.heap.size := by omega); (try have l2 : w.heap.size + 1 + 1 < w1.heap.size := by omega)))
            go_ret
            exact ⟨ret_iv HE.out.symm, (by with_reducible repeat (first | exact Gr.refl _ | assumption | refine Gr.alloc ?_ _ | refine Gr.drewN ?_ _ | refine Gr.drew ?_ | refine Gr.setCell ?_ (by first | (dsimp only; omega) | (simp only [World.size_alloc]; omega) | (refine Gr.size ?_; (repeat (first | exact Gr.refl _ | assumption | refine Gr.alloc ?_ _ | refine Gr.drewN ?_ _ | refine Gr.drew ?_ | refine Gr.trans ?_ (by assumption))); done)) _ | refine Gr.trans ?_ (by assumption)))⟩
        · obtain rfl : k = S.length := by omega
          have HC3 := hide (show clE S P bs = fstE (P.map fun p => vpE p (bs p)) by
            have := fstE_none (f := vsE) HK.out
            rw [HC2.out, this, if_neg (by decide)])
          clear HK
          go_wp2
          go_loopw [7] (fun i wr => ∃ k : Nat, k ≤ P.length ∧ i = iv k ∧ Gr w wr ∧ Hid (∀ (j : Nat) (x : Pc), j < k → P[j]? = some x → vpE x (bs x) = 0)) (fun i _ => P.length - (intOf i).toNat)
          case atStart => exact ⟨0, by omega, rfl, g, hide (fun j x h => absurd h (Nat.not_lt_zero j))⟩
          case round =>
            clear g
            obtain ⟨k, hk, rfl, g, HK⟩ := hrel
            by_cases hkl : k < P.length
            · obtain ⟨s, hs⟩ : ∃ s, P[k]? = some s := ⟨_, List.getElem?_eq_getElem hkl⟩
              obtain ⟨b, o, hA, ⟨x0, x1, x2, x3, x4, x5, x6⟩, hsw⟩ := (HP.out.gr g).at_ hs
              subst hA
              have hbl : b < wr.heap.size := cell_lt (by rw [x0]; rfl)
              have hk0 : (0 : Int) ≤ (k : Int) := by omega
              have hk1 : (k : Int) < (P.length : Int) := by omega
              have HVS := hide (fun (w' : World) (g' : Gr wr w') => HQ.out s (List.mem_of_getElem? hs) w' (hsw.gr g'))
              have HX := hide hs
              clear hs hsw
              by_cases h0 : vpE s (bs s) = 0
              · have HK' := hide (show ∀ (j : Nat) (x : Pc), j < k + 1 → P[j]? = some x → vpE x (bs x) = 0 by
                  intro j x hj hx
                  rcases Nat.lt_or_ge j k with h | h
                  · exact HK.out j x h hx
                  · obtain rfl : j = k := by omega
                    rw [HX.out] at hx
                    obtain rfl := Option.some.inj hx
                    exact h0)
                rw [h0] at HVS
                clear h0
                go_wp2_with (first | (go_at_call 13; refine (HVS.out _ (by with_reducible repeat (first | exact Gr.refl _ | assumption | refine Gr.alloc ?_ _ | refine Gr.drewN ?_ _ | refine Gr.drew ?_ | refine Gr.setCell ?_ (by first | (dsimp only; omega) | (simp only [World.size_alloc]; omega) | (refine Gr.size ?_; (repeat (first | exact Gr.refl _ | assumption | refine Gr.alloc ?_ _ | refine Gr.drewN ?_ _ | refine Gr.drew ?_ | refine Gr.trans ?_ (by assumption))); done)) _ | refine Gr.trans ?_ (by assumption)))).mono ?_; rintro e w1 ⟨rfl, g1⟩; obtain ⟨X1, Y1, c1, f1⟩ := g1.use; have z1 := g1.size; (try simp only [World.size_alloc, World.size_setCell, World.heap_drewN, Nat.add_one_le_iff] at z1); (try have l0 : w.heap.size < w1.heap.size := by omega); (try have l1 : w.heap.size + 1 < w1.heap.size := by omega); (try have l2 : w.heap.size + 1 + 1 < w1.heap.size := by omega)))
                go_roundw
                case rel => exact ⟨k + 1, by omega, by go_num, (by with_reducible repeat (first | exact Gr.refl _ | assumption | refine Gr.alloc ?_ _ | refine Gr.drewN ?_ _ | refine Gr.drew ?_ | refine Gr.setCell ?_ (by first | (dsimp only; omega) | (simp only [World.size_alloc]; omega) | (refine Gr.size ?_; (repeat (first | exact Gr.refl _ | assumption | refine Gr.alloc ?_ _ | refine Gr.drewN ?_ _ | refine Gr.drew ?_ | refine Gr.trans ?_ (by assumption))); done)) _ | refine Gr.trans ?_ (by assumption))), HK'⟩
                case measure => simp only [intOf]; omega
              · have HE := hide (show clE S P bs = vpE s (bs s) by
                  have := fstE_hit (f := fun p => vpE p (bs p)) HX.out h0 HK.out
                  rw [HC3.out, this])
                obtain ⟨E, hE⟩ : ∃ E, vpE s (bs s) = E := ⟨_, rfl⟩
                rw [hE] at HVS HE h0
                have h1 : (E != 0) = true := by simpa using h0
                clear hE
                go_wp2_with (first | (go_at_call 13; refine (HVS.out _ (by with_reducible repeat (first | exact Gr.refl _ | assumption | refine Gr.alloc ?_ _ | refine Gr.drewN ?_ _ | refine Gr.drew ?_ | refine Gr.setCell ?_ (by first | (dsimp only; omega) | (simp only [World.size_alloc]; omega) | (refine Gr.size ?_; (repeat (first | exact Gr.refl _ | assumption | refine Gr.alloc ?_ _ | refine Gr.drewN ?_ _ | refine Gr.drew ?_ | refine Gr.trans ?_ (by assumption))); done)) _ | refine Gr.trans ?_ (by assumption)))).mono ?_; rintro e w1 ⟨rfl, g1⟩; obtain ⟨X1, Y1, c1, f1⟩ := g1.use; have z1 := g1.size; (try simp only [World.size_alloc, World.size_setCell, World.heap_drewN, Nat.add_one_le_iff] at z1); (try have l0 : w.heap.size < w1.heap.size := by omega); (try have l1 : w.heap.size + 1 < w1.heap.size := by omega); (try have l2 : w.heap.size + 1 + 1 < w1.heap.size := by omega)))
                go_ret
                exact ⟨ret_iv HE.out.symm, (by with_reducible repeat (first | exact Gr.refl _ | assumption | refine Gr.alloc ?_ _ | refine Gr.drewN ?_ _ | refine Gr.drew ?_ | refine Gr.setCell ?_ (by first | (dsimp only; omega) | (simp only [World.size_alloc]; omega) | (refine Gr.size ?_; (repeat (first | exact Gr.refl _ | assumption | refine Gr.alloc ?_ _ | refine Gr.drewN ?_ _ | refine Gr.drew ?_ | refine Gr.trans ?_ (by assumption))); done)) _ | refine Gr.trans ?_ (by assumption)))⟩
            · obtain rfl : k = P.length := by omega
              have HE := hide (show clE S P bs = 0 by
                have := fstE_none (f := fun p => vpE p (bs p)) HK.out
                rw [HC3.out, this])
              go_wp2
              go_ret
              exact ⟨ret_iv HE.out.symm, (by with_reducible repeat (first | exact Gr.refl _ | assumption | refine Gr.alloc ?_ _ | refine Gr.drewN ?_ _ | refine Gr.drew ?_ | refine Gr.setCell ?_ (by first | (dsimp only; omega) | (simp only [World.size_alloc]; omega) | (refine Gr.size ?_; (repeat (first | exact Gr.refl _ | assumption | refine Gr.alloc ?_ _ | refine Gr.drewN ?_ _ | refine Gr.drew ?_ | refine Gr.trans ?_ (by assumption))); done)) _ | refine Gr.trans ?_ (by assumption)))⟩
end RG
end Go.Proofs.YtocbcbfniiioaaaGreat
set_option linter.unusedVariables false
set_option linter.unusedSimpArgs false
namespace Go.Proofs.YtocbcbfniiioaaaGreat
set_option linter.unusedVariables false
set_option linter.unusedSimpArgs false
open Go Go.ChangeShapes Go.WideShapes Go.ChangeAt Go.RowKit Go.Deep

namespace RG
/-- the rectangles of a piece lie well on a sheet -/
def weB (l : List Rc) (s : ShT) (m : Int) : Bool := aiB l (inmR s.wd s.ht m) && !npB ovQ l (s.cl ++ s.us)
theorem npB_me (l m : List Rc) : npB ovQ l m = l.any fun r => meB r m := rfl
theorem meB_app (r : Rc) (l m : List Rc) : meB r (l ++ m) = (meB r l || meB r m) := by unfold meB; rw [List.any_append]
theorem weB_no {l : List Rc} {s : ShT} {m : Int} {k : Nat} {r : Rc} (hr : l[k]? = some r) (h : isR r (inmR s.wd s.ht m) = false ∨ meB r s.cl = true ∨ meB r s.us = true) : weB l s m = false := by
  unfold weB
  have hm := List.mem_of_getElem? hr
  rcases h with h | h
  · have : aiB l (inmR s.wd s.ht m) = false := by
      cases e : aiB l (inmR s.wd s.ht m) with
      | false => rfl
      | true =>
        have := List.all_eq_true.1 e r hm
        rw [h] at this
        cases this
    rw [this, Bool.false_and]
  · have : npB ovQ l (s.cl ++ s.us) = true := by
      rw [npB_me, List.any_eq_true]
      refine ⟨r, hm, ?_⟩
      rw [meB_app]
      rcases h with h | h <;> rw [h] <;> simp
    rw [this, Bool.not_true, Bool.and_false]
theorem weB_yes {l : List Rc} {s : ShT} {m : Int} (h : ∀ (j : Nat) (r : Rc), j < l.length → l[j]? = some r → isR r (inmR s.wd s.ht m) = true ∧ meB r s.cl = false ∧ meB r s.us = false) : weB l s m = true := by
  unfold weB
  have hk : ∀ r ∈ l, isR r (inmR s.wd s.ht m) = true ∧ meB r s.cl = false ∧ meB r s.us = false := fun r hr => by
    obtain ⟨j, hj, e⟩ := List.getElem_of_mem hr
    exact h j r hj (by rw [← e]; exact List.getElem?_eq_getElem hj)
  have h1 : aiB l (inmR s.wd s.ht m) = true := List.all_eq_true.2 fun r hr => (hk r hr).1
  have h2 : npB ovQ l (s.cl ++ s.us) = false := by
    rw [npB_me, List.any_eq_false]
    intro r hr
    rw [meB_app, (hk r hr).2.1, (hk r hr).2.2]
    decide
  rw [h1, h2]
  rfl
theorem lwB_we (mt' : ByteArray) (ga' gr' : Int) (l : List Rc) (s : ShT) (k m : Int) : lwB mt' ga' gr' l s k m = (alB mt' s.mt ga' s.ga gr' s.gr k && weB l s m) := rfl
set_option maxHeartbeats 16000000 in
set_option maxRecDepth 100000 in
theorem well6_any (A : Option Addr) (c : Nat) (l : List Rc) (s : ShT) (t : St) (w : World) (hl : SlR w A c l) (hs : ShW w s) (hS : ShG s) (hm : 0 ≤ t.m ∧ t.m ≤ 14400) :
    Calls Tryz.prog 95 #[.slice A l.length c, s.v, stvv t] w fun e w' => e = .returned (.bool (weB l s t.m)) ∧ Gr w w' := by
  have n1 := hl.cap
  have n2 := hl.capB
  have HL := hide hl
  have HW := hide (fun (r : Rc) (w' : World) => show Calls Tryz.prog 75 #[rc r.x r.y r.w r.h, rc t.m t.m (s.wd - 2 * t.m) (s.ht - 2 * t.m)] w' fun e w'' => e = .returned (.bool (isR r (inmR s.wd s.ht t.m))) ∧ Gr w' w'' from Within_any r.x r.y r.w r.h t.m t.m (s.wd - 2 * t.m) (s.ht - 2 * t.m) w')
  have HC := hide (fun (r : Rc) (w' : World) (g : Gr w w') => meets6_any r s.cA s.cc s.cl w' (hs.c.gr g))
  have HU := hide (fun (r : Rc) (w' : World) (g : Gr w w') => meets6_any r s.uA s.uc s.us w' (hs.u.gr g))
  have HNO := hide (fun (k : Nat) (r : Rc) (hr : l[k]? = some r) => weB_no (s := s) (m := t.m) hr)
  have HYE := hide (weB_yes (l := l) (s := s) (m := t.m))
  have hw1 := hS.wd
  have hh1 := hS.ht
  have W1 : IntKind.i64.wrap (2 * t.m) = 2 * t.m := IntWalk.i64_in _ (by omega)
  have W2 : IntKind.i64.wrap (s.wd - 2 * t.m) = s.wd - 2 * t.m := IntWalk.i64_in _ (by omega)
  have W3 : IntKind.i64.wrap (s.ht - 2 * t.m) = s.ht - 2 * t.m := IntWalk.i64_in _ (by omega)
  generalize weB l s t.m = R at *
  obtain ⟨q, hq⟩ : ∃ q : Rc → Bool, q = fun r => isR r (inmR s.wd s.ht t.m) := ⟨_, rfl⟩
  have hq' : ∀ r, isR r (inmR s.wd s.ht t.m) = q r := fun r => by rw [hq]
  simp only [hq'] at HW HNO HYE
  clear hl hs hS hm hq hq' hw1 hh1
  obtain ⟨nm, mt, ga, gr, wd, ht, cA, cc, cl, uA, uc, us⟩ := s
  obtain ⟨g, m, cm⟩ := t
  dsimp only at *
  go_enter Tryz.func95, Tryz.ntmps95
  go_upto_region 2 with fail
  have HB := hide (fun (w' : World) (g' : Gr (((w.alloc (.cells #[.string nm, .string mt, iv ga, iv gr, iv wd, iv ht, .slice cA cl.length cc, .slice uA us.length uc] 24)).alloc (.cells #[iv g, iv m, .bool cm] 28)).alloc (.cells #[iv m, iv m, iv (wd - 2 * m), iv (ht - 2 * m)] 78)) w') => show Made w' w.heap.size #[.string nm, .string mt, iv ga, iv gr, iv wd, iv ht, .slice cA cl.length cc, .slice uA us.length uc] ∧ Made w' (w.heap.size + 2) #[iv m, iv m, iv (wd - 2 * m), iv (ht - 2 * m)] from
    ⟨(Made.new _ _ _).gr (Gr.trans (show Gr (w.alloc (.cells #[.string nm, .string mt, iv ga, iv gr, iv wd, iv ht, .slice cA cl.length cc, .slice uA us.length uc] 24)) _ from (by with_reducible repeat (first | exact Gr.refl _ | assumption | refine Gr.alloc ?_ _ | refine Gr.drewN ?_ _ | refine Gr.drew ?_ | refine Gr.setCell ?_ (by first | (dsimp only; omega) | (simp only [World.size_alloc]; omega) | (refine Gr.size ?_; (repeat (first | exact Gr.refl _ | assumption | refine Gr.alloc ?_ _ | refine Gr.drewN ?_ _ | refine Gr.drew ?_ | refine Gr.trans ?_ (by assumption))); done)) _ | refine Gr.trans ?_ (by assumption)))) g'), by
      have := (Made.new ((w.alloc (.cells #[.string nm, .string mt, iv ga, iv gr, iv wd, iv ht, .slice cA cl.length cc, .slice uA us.length uc] 24)).alloc (.cells #[iv g, iv m, .bool cm] 28)) #[iv m, iv m, iv (wd - 2 * m), iv (ht - 2 * m)] 78).gr g'
      simpa using this⟩)
  have g0 : Gr w (((w.alloc (.cells #[.string nm, .string mt, iv ga, iv gr, iv wd, iv ht, .slice cA cl.length cc, .slice uA us.length uc] 24)).alloc (.cells #[iv g, iv m, .bool cm] 28)).alloc (.cells #[iv m, iv m, iv (wd - 2 * m), iv (ht - 2 * m)] 78)) := (by with_reducible repeat (first | exact Gr.refl _ | assumption | refine Gr.alloc ?_ _ | refine Gr.drewN ?_ _ | refine Gr.drew ?_ | refine Gr.setCell ?_ (by first | (dsimp only; omega) | (simp only [World.size_alloc]; omega) | (refine Gr.size ?_; (repeat (first | exact Gr.refl _ | assumption | refine Gr.alloc ?_ _ | refine Gr.drewN ?_ _ | refine Gr.drew ?_ | refine Gr.trans ?_ (by assumption))); done)) _ | refine Gr.trans ?_ (by assumption)))
  generalize ((w.alloc (.cells #[.string nm, .string mt, iv ga, iv gr, iv wd, iv ht, .slice cA cl.length cc, .slice uA us.length uc] 24)).alloc (.cells #[iv g, iv m, .bool cm] 28)).alloc (.cells #[iv m, iv m, iv (wd - 2 * m), iv (ht - 2 * m)] 78) = w0 at *
  go_upto_region 3 with fail
  go_loopw [8] (fun i wr => ∃ k : Nat, k ≤ l.length ∧ i = iv k ∧ Gr w0 wr ∧ Hid (∀ (j : Nat) (r : Rc), j < k → l[j]? = some r → q r = true ∧ meB r cl = false ∧ meB r us = false)) (fun i _ => l.length - (intOf i).toNat)
  case atStart => exact ⟨0, by omega, rfl, Gr.refl _, hide (fun j r h => absurd h (Nat.not_lt_zero j))⟩
  case round =>
    obtain ⟨k, hk, rfl, g1, HS⟩ := hrel
    by_cases hkl : k < l.length
    · obtain ⟨r, hr⟩ : ∃ r, l[k]? = some r := ⟨_, List.getElem?_eq_getElem hkl⟩
      obtain ⟨b, o, rfl, x0, x1, x2, x3⟩ := (HL.out.gr (g0.trans g1)).at_ hr
      have hbl : b < wr.heap.size := cell_lt (by rw [x0]; rfl)
      obtain ⟨⟨hb1, y1, _⟩, hb2, y2, _⟩ := HB.out wr g1
      have a6 := y1 6
      have a7 := y1 7
      have c0 := y2 0
      have c1 := y2 1
      have c2 := y2 2
      have c3 := y2 3
      clear y1 y2
      have hk0 : (0 : Int) ≤ (k : Int) := by omega
      have hk1 : (k : Int) < (l.length : Int) := by omega
      have HX := hide hr
      have gwr := g0.trans g1
      have K1 := hide (HW.out r)
      have K2 := hide (fun (w' : World) (g' : Gr wr w') => HC.out r w' (gwr.trans g'))
      have K3 := hide (fun (w' : World) (g' : Gr wr w') => HU.out r w' (gwr.trans g'))
      clear hr
      cases h1 : q r with
      | false =>
        have HE := hide (show R = false from HNO.out k r HX.out (.inl h1))
        rw [h1] at K1
        clear h1
        go_upto_region 5 with fail
        have GC := @GrW.cell
        refine wp_region_grw _ (by kernel_rfl) (by kernel_rfl) (Gr.refl _) ?_
        repeat (go_big_quiet_step ((first | (go_at_call 75; exact quiet_grw (K1.out _)))))
        refine wpQuiet_nil ?_
        intro wq hwq
        obtain ⟨gq, hwq'⟩ := hwq
        subst hwq'
        clear GC
        have gq1 := gq.gr
        generalize gq.w = wq at gq1 ⊢
        obtain ⟨Xq, Yq, cq, fq⟩ := gq1.use
        have sq := gq1.size
        (try simp only [World.size_alloc, World.size_setCell, World.heap_drewN] at sq)
        go_wp2
        go_ret
        exact ⟨ret_bool HE.out.symm, (by with_reducible repeat (first | exact Gr.refl _ | assumption | refine Gr.alloc ?_ _ | refine Gr.drewN ?_ _ | refine Gr.drew ?_ | refine Gr.setCell ?_ (by first | (dsimp only; omega) | (simp only [World.size_alloc]; omega) | (refine Gr.size ?_; (repeat (first | exact Gr.refl _ | assumption | refine Gr.alloc ?_ _ | refine Gr.drewN ?_ _ | refine Gr.drew ?_ | refine Gr.trans ?_ (by assumption))); done)) _ | refine Gr.trans ?_ (by assumption)))⟩
      | true =>
        rw [h1] at K1
        cases h2 : meB r cl with
        | true =>
          have HE := hide (show R = false from HNO.out k r HX.out (.inr (.inl h2)))
          rw [h2] at K2
          clear h1 h2
          go_upto_region 5 with fail
          have GC := @GrW.cell
          refine wp_region_grw _ (by kernel_rfl) (by kernel_rfl) (Gr.refl _) ?_
          repeat (go_big_quiet_step ((first | (go_at_call 75; exact quiet_grw (K1.out _)))))
          go_big_quiet_step ((first | (go_at_call 45; exact quiet_grw (K2.out _ (GrW.gr _)))))
          repeat (go_big_quiet_step (fail))
          refine wpQuiet_nil ?_
          intro wq hwq
          obtain ⟨gq, hwq'⟩ := hwq
          subst hwq'
          clear GC
          have gq1 := gq.gr
          generalize gq.w = wq at gq1 ⊢
          obtain ⟨Xq, Yq, cq, fq⟩ := gq1.use
          have sq := gq1.size
          go_wp2
          go_ret
          exact ⟨ret_bool HE.out.symm, (by with_reducible repeat (first | exact Gr.refl _ | assumption | refine Gr.alloc ?_ _ | refine Gr.drewN ?_ _ | refine Gr.drew ?_ | refine Gr.setCell ?_ (by first | (dsimp only; omega) | (simp only [World.size_alloc]; omega) | (refine Gr.size ?_; (repeat (first | exact Gr.refl _ | assumption | refine Gr.alloc ?_ _ | refine Gr.drewN ?_ _ | refine Gr.drew ?_ | refine Gr.trans ?_ (by assumption))); done)) _ | refine Gr.trans ?_ (by assumption)))⟩
        | false =>
          rw [h2] at K2
          cases h3 : meB r us with
          | true =>
            have HE := hide (show R = false from HNO.out k r HX.out (.inr (.inr h3)))
            rw [h3] at K3
            clear h1 h2 h3
            go_upto_region 5 with fail
            have GC := @GrW.cell
            refine wp_region_grw _ (by kernel_rfl) (by kernel_rfl) (Gr.refl _) ?_
            repeat (go_big_quiet_step ((first | (go_at_call 75; exact quiet_grw (K1.out _)))))
            go_big_quiet_step ((first | (go_at_call 45; exact quiet_grw (K2.out _ (GrW.gr _)))))
            repeat (go_big_quiet_step ((first | (go_at_call 45; exact quiet_grw (K3.out _ (GrW.gr _))))))
            refine wpQuiet_nil ?_
            intro wq hwq
            obtain ⟨gq, hwq'⟩ := hwq
            subst hwq'
            clear GC
            have gq1 := gq.gr
            generalize gq.w = wq at gq1 ⊢
            obtain ⟨Xq, Yq, cq, fq⟩ := gq1.use
            have sq := gq1.size
            go_wp2
            go_ret
            exact ⟨ret_bool HE.out.symm, (by with_reducible repeat (first | exact Gr.refl _ | assumption | refine Gr.alloc ?_ _ | refine Gr.drewN ?_ _ | refine Gr.drew ?_ | refine Gr.setCell ?_ (by first | (dsimp only; omega) | (simp only [World.size_alloc]; omega) | (refine Gr.size ?_; (repeat (first | exact Gr.refl _ | assumption | refine Gr.alloc ?_ _ | refine Gr.drewN ?_ _ | refine Gr.drew ?_ | refine Gr.trans ?_ (by assumption))); done)) _ | refine Gr.trans ?_ (by assumption)))⟩
          | false =>
            rw [h3] at K3
            have HS' := hide (show ∀ (j : Nat) (r : Rc), j < k + 1 → l[j]? = some r → q r = true ∧ meB r cl = false ∧ meB r us = false from fun j r' hj hr' => by
              rcases Nat.lt_or_ge j k with e | e
              · exact HS.out j r' e hr'
              · obtain rfl : j = k := by omega
                rw [HX.out] at hr'
                obtain rfl := Option.some.inj hr'
                exact ⟨h1, h2, h3⟩)
            clear h1 h2 h3
            go_upto_region 5 with fail
            have GC := @GrW.cell
            refine wp_region_grw _ (by kernel_rfl) (by kernel_rfl) (Gr.refl _) ?_
            repeat (go_big_quiet_step ((first | (go_at_call 75; exact quiet_grw (K1.out _)))))
            go_big_quiet_step ((first | (go_at_call 45; exact quiet_grw (K2.out _ (GrW.gr _)))))
            repeat (go_big_quiet_step ((first | (go_at_call 45; exact quiet_grw (K3.out _ (GrW.gr _))))))
            refine wpQuiet_nil ?_
            intro wq hwq
            obtain ⟨gq, hwq'⟩ := hwq
            subst hwq'
            clear GC
            have gq1 := gq.gr
            generalize gq.w = wq at gq1 ⊢
            obtain ⟨Xq, Yq, cq, fq⟩ := gq1.use
            have sq := gq1.size
            go_wp2
            go_roundw
            case rel => exact ⟨k + 1, by omega, by go_num, (by with_reducible repeat (first | exact Gr.refl _ | assumption | refine Gr.alloc ?_ _ | refine Gr.drewN ?_ _ | refine Gr.drew ?_ | refine Gr.setCell ?_ (by first | (dsimp only; omega) | (simp only [World.size_alloc]; omega) | (refine Gr.size ?_; (repeat (first | exact Gr.refl _ | assumption | refine Gr.alloc ?_ _ | refine Gr.drewN ?_ _ | refine Gr.drew ?_ | refine Gr.trans ?_ (by assumption))); done)) _ | refine Gr.trans ?_ (by assumption))), HS'⟩
            case measure => simp only [intOf]; omega
    · obtain rfl : k = l.length := by omega
      have HE := hide (show R = true from HYE.out HS.out)
      go_wp2
      go_ret
      exact ⟨ret_bool HE.out.symm, (by with_reducible repeat (first | exact Gr.refl _ | assumption | refine Gr.alloc ?_ _ | refine Gr.drewN ?_ _ | refine Gr.drew ?_ | refine Gr.setCell ?_ (by first | (dsimp only; omega) | (simp only [World.size_alloc]; omega) | (refine Gr.size ?_; (repeat (first | exact Gr.refl _ | assumption | refine Gr.alloc ?_ _ | refine Gr.drewN ?_ _ | refine Gr.drew ?_ | refine Gr.trans ?_ (by assumption))); done)) _ | refine Gr.trans ?_ (by assumption)))⟩
end RG
end Go.Proofs.YtocbcbfniiioaaaGreat
set_option linter.unusedVariables false
set_option linter.unusedSimpArgs false
namespace Go.Proofs.YtocbcbfniiioaaaGreat
set_option linter.unusedVariables false
set_option linter.unusedSimpArgs false
open Go Go.ChangeShapes Go.WideShapes Go.ChangeAt Go.RowKit Go.Deep

namespace RG
set_option maxHeartbeats 8000000 in
set_option maxRecDepth 100000 in
theorem one_idx (A : Option Addr) (c sn : Nat) (A' : Option Addr) (d pn : Nat) (t : St) (V : Value) (pi sh x y k : Int) (w : World) (n1 : sn ≤ 4) (n2 : pn ≤ 8) (h : (wiB pi 0 ((pn : Int) - 1) && wiB sh 0 ((sn : Int) - 1)) = false) :
    Calls Tryz.prog 64 #[.slice A sn c, .slice A' pn d, stvv t, V, atv pi sh x y k] w fun e w' => e = .returned (iv 1) ∧ Gr w w' := by
  have hd : ¬ ((0 ≤ pi ∧ pi ≤ (pn : Int) - 1) ∧ 0 ≤ sh ∧ sh ≤ (sn : Int) - 1) := fun q => by
    rw [wiB_iff.2 q.1, wiB_iff.2 q.2] at h
    cases h
  clear h
  obtain ⟨g, m, cm⟩ := t
  by_cases h1 : pi < 0
  · have d1 : decide (pi < 0) = true := decide_eq_true h1
    clear hd h1
    go_enter Tryz.func64, Tryz.ntmps64
    go_wp2
    go_ret
    exact ⟨rfl, (by with_reducible repeat (first | exact Gr.refl _ | assumption | refine Gr.alloc ?_ _ | refine Gr.drewN ?_ _ | refine Gr.drew ?_ | refine Gr.setCell ?_ (by first | (dsimp only; omega) | (simp only [World.size_alloc]; omega) | (refine Gr.size ?_; (repeat (first | exact Gr.refl _ | assumption | refine Gr.alloc ?_ _ | refine Gr.drewN ?_ _ | refine Gr.drew ?_ | refine Gr.trans ?_ (by assumption))); done)) _ | refine Gr.trans ?_ (by assumption)))⟩
  · have d1 : decide (pi < 0) = false := decide_eq_false h1
    by_cases h2 : pi ≥ (pn : Int)
    · have d2 : decide (pi ≥ (pn : Int)) = true := decide_eq_true h2
      clear hd h1
      go_enter Tryz.func64, Tryz.ntmps64
      go_wp2
      go_ret
      exact ⟨rfl, (by with_reducible repeat (first | exact Gr.refl _ | assumption | refine Gr.alloc ?_ _ | refine Gr.drewN ?_ _ | refine Gr.drew ?_ | refine Gr.setCell ?_ (by first | (dsimp only; omega) | (simp only [World.size_alloc]; omega) | (refine Gr.size ?_; (repeat (first | exact Gr.refl _ | assumption | refine Gr.alloc ?_ _ | refine Gr.drewN ?_ _ | refine Gr.drew ?_ | refine Gr.trans ?_ (by assumption))); done)) _ | refine Gr.trans ?_ (by assumption)))⟩
    · have d2 : decide (pi ≥ (pn : Int)) = false := decide_eq_false h2
      by_cases h3 : sh < 0
      · have d3 : decide (sh < 0) = true := decide_eq_true h3
        clear hd h1
        go_enter Tryz.func64, Tryz.ntmps64
        go_wp2
        go_ret
        exact ⟨rfl, (by with_reducible repeat (first | exact Gr.refl _ | assumption | refine Gr.alloc ?_ _ | refine Gr.drewN ?_ _ | refine Gr.drew ?_ | refine Gr.setCell ?_ (by first | (dsimp only; omega) | (simp only [World.size_alloc]; omega) | (refine Gr.size ?_; (repeat (first | exact Gr.refl _ | assumption | refine Gr.alloc ?_ _ | refine Gr.drewN ?_ _ | refine Gr.drew ?_ | refine Gr.trans ?_ (by assumption))); done)) _ | refine Gr.trans ?_ (by assumption)))⟩
      · have d3 : decide (sh < 0) = false := decide_eq_false h3
        have h4 : sh ≥ (sn : Int) := by omega
        have d4 : decide (sh ≥ (sn : Int)) = true := decide_eq_true h4
        clear hd h1
        go_enter Tryz.func64, Tryz.ntmps64
        go_wp2
        go_ret
        exact ⟨rfl, (by with_reducible repeat (first | exact Gr.refl _ | assumption | refine Gr.alloc ?_ _ | refine Gr.drewN ?_ _ | refine Gr.drew ?_ | refine Gr.setCell ?_ (by first | (dsimp only; omega) | (simp only [World.size_alloc]; omega) | (refine Gr.size ?_; (repeat (first | exact Gr.refl _ | assumption | refine Gr.alloc ?_ _ | refine Gr.drewN ?_ _ | refine Gr.drew ?_ | refine Gr.trans ?_ (by assumption))); done)) _ | refine Gr.trans ?_ (by assumption)))⟩
set_option maxHeartbeats 8000000 in
set_option maxRecDepth 100000 in
theorem one_put (A : Option Addr) (c : Nat) (S : List ShT) (A' : Option Addr) (d : Nat) (Ps : List Pc) (t : St) (V : Value) (i j : Nat) (p : Pc) (x y k E : Int) (w : World) (hS : SlS w A c S) (hP : SlP w A' d Ps) (hp : Ps[i]? = some p) (hjl : j < S.length) (z1 : S.length ≤ 4) (z2 : Ps.length ≤ 8) (hE : E ≠ 0)
    (hU : ∀ w', Gr w w' → Calls Tryz.prog 18 #[p.v, atv i j x y k] w' fun e w'' => e = .returned (sle noPcV E) ∧ Gr w' w'') :
    Calls Tryz.prog 64 #[.slice A S.length c, .slice A' Ps.length d, stvv t, V, atv i j x y k] w fun e w' => e = .returned (iv 1) ∧ Gr w w' := by
  have hE1 : (E != 0) = true := by simpa using hE
  have HU := hide hU
  have hil : i < Ps.length := (List.getElem?_eq_some_iff.1 hp).1
  have n1 := hS.cap
  have n2 := hS.capB
  have n3 := hP.cap
  have n4 := hP.capB
  have HP := hide hP
  have HPI := hide hp
  have i0 : (0 : Int) ≤ (i : Int) := by omega
  have i1 : (i : Int) < (Ps.length : Int) := by omega
  have d1 : decide ((i : Int) < 0) = false := decide_eq_false (by omega)
  have d2 : decide (Ps.length ≤ i) = false := decide_eq_false (by omega)
  have d3 : decide ((j : Int) < 0) = false := decide_eq_false (by omega)
  have d4 : decide (S.length ≤ j) = false := decide_eq_false (by omega)
  obtain ⟨g, m, cm⟩ := t
  clear hS hP hU hp
  go_enter Tryz.func64, Tryz.ntmps64
  go_upto_region 3 with fail
  obtain ⟨w1, hw1⟩ : ∃ W, W = (w.alloc (.cells #[iv g, iv m, .bool cm] 28)).alloc (.cells #[iv i, iv j, iv x, iv y, iv k] 36) := ⟨_, rfl⟩
  have HM7 := hide ((Made.new w #[iv g, iv m, .bool cm] 28).gr (show Gr _ w1 from by rw [hw1]; exact Gr.alloc (Gr.refl _) _))
  have M9 := Made.new (w.alloc (.cells #[iv g, iv m, .bool cm] 28)) #[iv i, iv j, iv x, iv y, iv k] 36
  rw [World.size_alloc, ← hw1] at M9
  have HM9 := hide M9
  have g0 : Gr w w1 := by rw [hw1]; exact Gr.alloc (Gr.alloc (Gr.refl _) _) _
  have hws : w1.heap.size = w.heap.size + 2 := by rw [hw1]; simp
  rw [← hw1]
  clear hw1 M9
  obtain ⟨bp, op, hB, ⟨y0, y1, y2, y3, y4, y5, y6⟩, _⟩ := (HP.out.gr g0).at_ HPI.out
  subst hB
  have hbp : bp < w1.heap.size := cell_lt (by rw [y0]; rfl)
  have hb9 : w.heap.size + 1 < w1.heap.size := by omega
  clear hws
  have b0 := HM9.out.2.1 0
  have b1 := HM9.out.2.1 1
  have b2 := HM9.out.2.1 2
  have b3 := HM9.out.2.1 3
  have b4 := HM9.out.2.1 4
  have HUW := hide (show ∀ w', Gr w1 w' → Calls Tryz.prog 18 #[p.v, atv i j x y k] w' fun e w'' => e = .returned (sle noPcV E) ∧ Gr w' w'' from fun w' g => HU.out w' (g0.trans g))
  go_cut [11, 12] from 40 to 49 (fun p5 v6 wx => ∃ B5 : Nat, p5 = .pointer (some ⟨B5, 0, none⟩) ∧ v6 = iv E ∧ Gr w1 wx)
  case first =>
    go_region_held3 (fun w' => Gr (w1) w' ∧ ∀ ii oo, ii < (w1).heap.size → w'.cell? ⟨ii, oo, none⟩ = (w1).cell? ⟨ii, oo, none⟩) ((refine And.intro ?_ (Gr.cell ?_) <;> ((with_reducible repeat (first | exact Gr.refl _ | assumption | refine Gr.alloc ?_ _ | refine Gr.drewN ?_ _ | refine Gr.drew ?_ | refine Gr.setCell ?_ (by first | (dsimp only; omega) | (simp only [World.size_alloc]; omega) | (refine Gr.size ?_; (repeat (first | exact Gr.refl _ | assumption | refine Gr.alloc ?_ _ | refine Gr.drewN ?_ _ | refine Gr.drew ?_ | refine Gr.trans ?_ (by assumption))); done)) _ | refine Gr.trans ?_ (by assumption))); done)))
     (first | (go_at_call 18; refine (HUW.out _ (by with_reducible repeat (first | exact Gr.refl _ | assumption | refine Gr.alloc ?_ _ | refine Gr.drewN ?_ _ | refine Gr.drew ?_ | refine Gr.setCell ?_ (by first | (dsimp only; omega) | (simp only [World.size_alloc]; omega) | (refine Gr.size ?_; (repeat (first | exact Gr.refl _ | assumption | refine Gr.alloc ?_ _ | refine Gr.drewN ?_ _ | refine Gr.drew ?_ | refine Gr.trans ?_ (by assumption))); done)) _ | refine Gr.trans ?_ (by assumption)))).mono ?_; rintro e w9 ⟨rfl, g9⟩; obtain ⟨X1, Y1, c1, f1⟩ := g9.use; (have z9 := g9.size); (try simp only [World.size_alloc, World.size_drew, World.heap_drewN] at z9)))
    · go_wp2_with fail
      go_meet
      exact ⟨_, rfl, rfl, (by with_reducible repeat (first | exact Gr.refl _ | assumption | refine Gr.alloc ?_ _ | refine Gr.drewN ?_ _ | refine Gr.drew ?_ | refine Gr.setCell ?_ (by first | (dsimp only; omega) | (simp only [World.size_alloc]; omega) | (refine Gr.size ?_; (repeat (first | exact Gr.refl _ | assumption | refine Gr.alloc ?_ _ | refine Gr.drewN ?_ _ | refine Gr.drew ?_ | refine Gr.trans ?_ (by assumption))); done)) _ | refine Gr.trans ?_ (by assumption)))⟩
    · go_wp2_with fail
      go_meet
      exact ⟨_, rfl, rfl, (by with_reducible repeat (first | exact Gr.refl _ | assumption | refine Gr.alloc ?_ _ | refine Gr.drewN ?_ _ | refine Gr.drew ?_ | refine Gr.setCell ?_ (by first | (dsimp only; omega) | (simp only [World.size_alloc]; omega) | (refine Gr.size ?_; (repeat (first | exact Gr.refl _ | assumption | refine Gr.alloc ?_ _ | refine Gr.drewN ?_ _ | refine Gr.drew ?_ | refine Gr.trans ?_ (by assumption))); done)) _ | refine Gr.trans ?_ (by assumption)))⟩
  case rest =>
    obtain ⟨B5, rfl, rfl, gc⟩ := hcut
    have g0c := g0.trans gc
    clear b0 b1 b2 b3 b4 y0 y1 y2 y3 y4 y5 y6
    go_wp2_with fail
    go_ret
    exact ⟨rfl, g0c⟩
end RG
end Go.Proofs.YtocbcbfniiioaaaGreat
set_option linter.unusedVariables false
set_option linter.unusedSimpArgs false
namespace Go.Proofs.YtocbcbfniiioaaaGreat
set_option linter.unusedVariables false
set_option linter.unusedSimpArgs false
open Go Go.ChangeShapes Go.WideShapes Go.ChangeAt Go.RowKit Go.Deep

namespace RG
theorem oneQ_12 {Ps : List Pc} {t : St} {L : List At6} {p : Pc} {s : ShT} {z : At6} (h : puB p z = true) {m : Nat} {a : At6} (ha : L[m]? = some a) (e : a.pi = z.pi) : oneQ Ps t L p s z = 12 := by
  have h1 : (L.any fun a => a.pi == z.pi) = true := List.any_eq_true.2 ⟨a, List.mem_of_getElem? ha, by simpa using e⟩
  unfold oneQ
  rw [if_pos h, if_pos h1]
theorem any_no {L : List At6} {i : Int} (h : ∀ (m : Nat) (a : At6), m < L.length → L[m]? = some a → ¬ a.pi = i) : (L.any fun a => a.pi == i) = false := by
  rw [List.any_eq_false]
  intro a ha
  obtain ⟨m, hm, e⟩ := List.getElem_of_mem ha
  have := h m a hm (by rw [← e]; exact List.getElem?_eq_getElem hm)
  simpa using this
theorem oneQ_13 {Ps : List Pc} {t : St} {L : List At6} {p : Pc} {s : ShT} {z : At6} (h : puB p z = true) (h1 : (L.any fun a => a.pi == z.pi) = false) (h2 : lwB p.mt p.ga p.gr (mRl p z) s z.t t.m = false) : oneQ Ps t L p s z = 13 := by
  unfold oneQ
  rw [if_pos h, if_neg (by rw [h1]; decide), if_neg (by rw [h2]; decide)]
theorem oneQ_7 {Ps : List Pc} {t : St} {L : List At6} {p : Pc} {s : ShT} {z : At6} (h : puB p z = true) (h1 : (L.any fun a => a.pi == z.pi) = false) (h2 : lwB p.mt p.ga p.gr (mRl p z) s z.t t.m = true) {m : Nat} {a : At6} (ha : L[m]? = some a) (e : a.sh = z.sh) (hc : npB (ucB t) (mRl p z) (eaR Ps a) = true) : oneQ Ps t L p s z = 7 := by
  have h3 : ((takL Ps L z.sh).all fun m => !npB (ucB t) (mRl p z) m) = false := by
    cases q : ((takL Ps L z.sh).all fun m => !npB (ucB t) (mRl p z) m) with
    | false => rfl
    | true =>
      have := List.all_eq_true.1 q (eaR Ps a) (List.mem_map.2 ⟨a, List.mem_filter.2 ⟨List.mem_of_getElem? ha, by simpa using e⟩, rfl⟩)
      rw [hc] at this
      cases this
  unfold oneQ
  rw [if_pos h, if_neg (by rw [h1]; decide), if_pos h2, if_neg (by rw [h3]; decide)]
theorem oneQ_0 {Ps : List Pc} {t : St} {L : List At6} {p : Pc} {s : ShT} {z : At6} (h : puB p z = true) (h1 : (L.any fun a => a.pi == z.pi) = false) (h2 : lwB p.mt p.ga p.gr (mRl p z) s z.t t.m = true) (h3 : ∀ (m : Nat) (a : At6), m < L.length → L[m]? = some a → a.sh = z.sh → npB (ucB t) (mRl p z) (eaR Ps a) = false) : oneQ Ps t L p s z = 0 := by
  have h3 : ((takL Ps L z.sh).all fun m => !npB (ucB t) (mRl p z) m) = true := by
    rw [List.all_eq_true]
    intro q hq
    obtain ⟨a, ha, rfl⟩ := List.mem_map.1 hq
    obtain ⟨ha, e⟩ := List.mem_filter.1 ha
    obtain ⟨m, hm, em⟩ := List.getElem_of_mem ha
    rw [h3 m a hm (by rw [← em]; exact List.getElem?_eq_getElem hm) (by simpa using e)]
    rfl
  unfold oneQ
  rw [if_pos h, if_neg (by rw [h1]; decide), if_pos h2, if_pos h3]
theorem eaR_at {Ps : List Pc} {a : At6} {i : Nat} {p : Pc} (h : a.pi = i) (hp : Ps[i]? = some p) : eaR Ps a = mRl p a := by
  unfold eaR
  rw [h, show ((i : Int)).toNat = i from rfl, hp]
set_option maxHeartbeats 16000000 in
set_option maxRecDepth 100000 in
theorem one_ok {bs : Pc → Bool} (A : Option Addr) (c : Nat) (S : List ShT) (A' : Option Addr) (d : Nat) (Ps : List Pc) (t : St) (C : Option Addr) (e5 : Nat) (L : List At6) (i j : Nat) (p : Pc) (s : ShT) (x y k : Int) (w : World) (hS : SlS w A c S) (hP : SlP w A' d Ps) (hA : SlA w C e5 L) (hb : CoBs Ps bs) (hp : Ps[i]? = some p) (hs : S[j]? = some s) (z1 : S.length ≤ 4) (z2 : Ps.length ≤ 8) (z3 : ∀ s ∈ S, vsE s = 0) (z4 : ∀ p ∈ Ps, vpE p (bs p) = 0) (z5 : vtB t = true) (hpu : puB p ⟨i, j, x, y, k⟩ = true)
    (hL : ∀ a ∈ L, ∃ (i' : Nat) (p' : Pc), a.pi = i' ∧ Ps[i']? = some p' ∧ puB p' a = true) :
    Calls Tryz.prog 64 #[.slice A S.length c, .slice A' Ps.length d, stvv t, .slice C L.length e5, atv i j x y k] w fun e w' => e = .returned (iv (oneQ Ps t L p s ⟨i, j, x, y, k⟩)) ∧ Gr w w' := by
  have hjl : j < S.length := (List.getElem?_eq_some_iff.1 hs).1
  have hpm := List.mem_of_getElem? hp
  have hsm := List.mem_of_getElem? hs
  have HU := hide (fun (w' : World) (g : Gr w w') => rPut_yes ((hP.el p hpm).gr g) (hb p hpm) (z4 p hpm) hpu)
  have HUA := hide (fun (a : At6) (i' : Nat) (p' : Pc) (hp' : Ps[i']? = some p') (ha : puB p' a = true) (w' : World) (g : Gr w w') => rPut_yes ((hP.el p' (List.mem_of_getElem? hp')).gr g) (hb p' (List.mem_of_getElem? hp')) (z4 p' (List.mem_of_getElem? hp')) ha)
  have HWE := hide (fun (B : Option Addr) (q : Nat) (M : List Rc) (w' : World) (g : Gr w w') (hM : SlR w' B q M) => well6_any B q M s t w' hM ((hS.el s hsm).gr g) (vsE_good (z3 s hsm)) (vtB_iff.1 z5).2)
  have H12 := hide (fun (m : Nat) (a : At6) (ha : L[m]? = some a) (e : a.pi = (i : Int)) => oneQ_12 (Ps := Ps) (t := t) (s := s) hpu ha e)
  have H13 := hide (fun h1 h2 => oneQ_13 (Ps := Ps) (t := t) (s := s) (L := L) hpu h1 h2)
  have H7 := hide (fun h1 h2 (m : Nat) (a : At6) (ha : L[m]? = some a) e h3 => oneQ_7 (Ps := Ps) (t := t) (s := s) (L := L) hpu h1 h2 ha e h3)
  have H0 := hide (fun h1 h2 h3 => oneQ_0 (Ps := Ps) (t := t) (s := s) (L := L) hpu h1 h2 h3)
  have HLW := hide (lwB_we p.mt p.ga p.gr (mRl p ⟨i, j, x, y, k⟩) s k t.m)
  have HL := hide hL
  have HA := hide hA
  have HS := hide hS
  have HSI := hide hs
  have n5 := hA.cap
  have n6 := hA.capB
  dsimp only at H13 H7 H0
  generalize oneQ Ps t L p s ⟨i, j, x, y, k⟩ = R at *
  generalize mRl p ⟨i, j, x, y, k⟩ = M1 at *
  generalize mCl p ⟨i, j, x, y, k⟩ = M2 at *
  generalize mFl p ⟨i, j, x, y, k⟩ = M3 at *
  have hil : i < Ps.length := (List.getElem?_eq_some_iff.1 hp).1
  have n1 := hS.cap
  have n2 := hS.capB
  have n3 := hP.cap
  have n4 := hP.capB
  have HP := hide hP
  have HPI := hide hp
  have i0 : (0 : Int) ≤ (i : Int) := by omega
  have i1 : (i : Int) < (Ps.length : Int) := by omega
  have d1 : decide ((i : Int) < 0) = false := decide_eq_false (by omega)
  have d2 : decide (Ps.length ≤ i) = false := decide_eq_false (by omega)
  have d3 : decide ((j : Int) < 0) = false := decide_eq_false (by omega)
  have d4 : decide (S.length ≤ j) = false := decide_eq_false (by omega)
  obtain ⟨g, m, cm⟩ := t
  have j0 : (0 : Int) ≤ (j : Int) := by omega
  have j1 : (j : Int) < (S.length : Int) := by omega
  clear hS hP hA hb hp hs z3 z4 z5 hL hpu hpm hsm
  go_enter Tryz.func64, Tryz.ntmps64
  go_upto_region 3 with fail
  obtain ⟨w1, hw1⟩ : ∃ W, W = (w.alloc (.cells #[iv g, iv m, .bool cm] 28)).alloc (.cells #[iv i, iv j, iv x, iv y, iv k] 36) := ⟨_, rfl⟩
  have HM7 := hide ((Made.new w #[iv g, iv m, .bool cm] 28).gr (show Gr _ w1 from by rw [hw1]; exact Gr.alloc (Gr.refl _) _))
  have M9 := Made.new (w.alloc (.cells #[iv g, iv m, .bool cm] 28)) #[iv i, iv j, iv x, iv y, iv k] 36
  rw [World.size_alloc, ← hw1] at M9
  have HM9 := hide M9
  have g0 : Gr w w1 := by rw [hw1]; exact Gr.alloc (Gr.alloc (Gr.refl _) _) _
  have hws : w1.heap.size = w.heap.size + 2 := by rw [hw1]; simp
  rw [← hw1]
  clear hw1 M9
  obtain ⟨bp, op, hB, ⟨y0, y1, y2, y3, y4, y5, y6⟩, _⟩ := (HP.out.gr g0).at_ HPI.out
  subst hB
  have hbp : bp < w1.heap.size := cell_lt (by rw [y0]; rfl)
  have hb9 : w.heap.size + 1 < w1.heap.size := by omega
  clear hws
  have b0 := HM9.out.2.1 0
  have b1 := HM9.out.2.1 1
  have b2 := HM9.out.2.1 2
  have b3 := HM9.out.2.1 3
  have b4 := HM9.out.2.1 4
  have HUW := hide (show ∀ w', Gr w1 w' → Calls Tryz.prog 18 #[p.v, atv i j x y k] w' fun e w'' => PutOk p.nm p.mt p.ga p.gr M1 M2 M3 w' w'' e from fun w' g => HU.out w' (g0.trans g))
  go_cut [11, 12] from 40 to 49 (fun p5 v6 wx => PuC w1 p.nm p.mt p.ga p.gr M1.length M2.length M3.length M1 M2 M3 p5 wx ∧ v6 = iv 0)
  case first =>
    go_region_held3 (fun w' => Gr (w1) w' ∧ ∀ ii oo, ii < (w1).heap.size → w'.cell? ⟨ii, oo, none⟩ = (w1).cell? ⟨ii, oo, none⟩) ((refine And.intro ?_ (Gr.cell ?_) <;> ((with_reducible repeat (first | exact Gr.refl _ | assumption | refine Gr.alloc ?_ _ | refine Gr.drewN ?_ _ | refine Gr.drew ?_ | refine Gr.setCell ?_ (by first | (dsimp only; omega) | (simp only [World.size_alloc]; omega) | (refine Gr.size ?_; (repeat (first | exact Gr.refl _ | assumption | refine Gr.alloc ?_ _ | refine Gr.drewN ?_ _ | refine Gr.drew ?_ | refine Gr.trans ?_ (by assumption))); done)) _ | refine Gr.trans ?_ (by assumption))); done)))
     (first | (go_at_call 18; refine (HUW.out _ (by with_reducible repeat (first | exact Gr.refl _ | assumption | refine Gr.alloc ?_ _ | refine Gr.drewN ?_ _ | refine Gr.drew ?_ | refine Gr.setCell ?_ (by first | (dsimp only; omega) | (simp only [World.size_alloc]; omega) | (refine Gr.size ?_; (repeat (first | exact Gr.refl _ | assumption | refine Gr.alloc ?_ _ | refine Gr.drewN ?_ _ | refine Gr.drew ?_ | refine Gr.trans ?_ (by assumption))); done)) _ | refine Gr.trans ?_ (by assumption)))).mono ?_; rintro e w9 ⟨D1, D2, D3, q1, q2, q3, rfl, ⟨s1, s2, s3⟩, ⟨f1, f2, f3⟩, g9⟩; (have u1 := NwR.mk s1 f1); (have u2 := NwR.mk s2 f2); (have u3 := NwR.mk s3 f3); clear s1 s2 s3 f1 f2 f3; obtain ⟨X1, Y1, c1, f1⟩ := g9.use; (have z9 := g9.size); (try simp only [World.size_alloc, World.size_drew, World.heap_drewN] at z9 u1 u2 u3)))
    · go_wp2_with fail
      have gx : Gr w1 w9 := (by with_reducible repeat (first | exact Gr.refl _ | assumption | refine Gr.alloc ?_ _ | refine Gr.drewN ?_ _ | refine Gr.drew ?_ | refine Gr.setCell ?_ (by first | (dsimp only; omega) | (simp only [World.size_alloc]; omega) | (refine Gr.size ?_; (repeat (first | exact Gr.refl _ | assumption | refine Gr.alloc ?_ _ | refine Gr.drewN ?_ _ | refine Gr.drew ?_ | refine Gr.trans ?_ (by assumption))); done)) _ | refine Gr.trans ?_ (by assumption)))
      go_meet
      exact ⟨puC_new _ gx (by omega) u1 u2 u3, rfl⟩
    · go_wp2_with fail
      have gx : Gr w1 w9 := (by with_reducible repeat (first | exact Gr.refl _ | assumption | refine Gr.alloc ?_ _ | refine Gr.drewN ?_ _ | refine Gr.drew ?_ | refine Gr.setCell ?_ (by first | (dsimp only; omega) | (simp only [World.size_alloc]; omega) | (refine Gr.size ?_; (repeat (first | exact Gr.refl _ | assumption | refine Gr.alloc ?_ _ | refine Gr.drewN ?_ _ | refine Gr.drew ?_ | refine Gr.trans ?_ (by assumption))); done)) _ | refine Gr.trans ?_ (by assumption)))
      go_meet
      exact ⟨puC_set (B := w1.heap.size) ((Made.new w1 #[.string ⟨#[]⟩, .string ⟨#[]⟩, .int .i64 0, .int .i64 0, .slice none 0 0, .slice none 0 0, .slice none 0 0] 26).gr (show Gr _ w9 from (by clear gx; exact (by with_reducible repeat (first | exact Gr.refl _ | assumption | refine Gr.alloc ?_ _ | refine Gr.drewN ?_ _ | refine Gr.drew ?_ | refine Gr.setCell ?_ (by first | (dsimp only; omega) | (simp only [World.size_alloc]; omega) | (refine Gr.size ?_; (repeat (first | exact Gr.refl _ | assumption | refine Gr.alloc ?_ _ | refine Gr.drewN ?_ _ | refine Gr.drew ?_ | refine Gr.trans ?_ (by assumption))); done)) _ | refine Gr.trans ?_ (by assumption)))))) (by omega) gx (by omega) u1 u2 u3, rfl⟩
  case rest =>
    obtain ⟨⟨B, D1, D2, D3, q1, q2, q3, rfl, HMX, ⟨u1, u2, u3⟩, hB, gc⟩, rfl⟩ := hcut
    have g0c := g0.trans gc
    have HY := hide HMX
    have HU1 := hide u1.s
    have HN9 := hide (HM9.out.gr gc)
    have HN7 := hide ((HM7.out).gr gc)
    clear b0 b1 b2 b3 b4 y0 y1 y2 y3 y4 y5 y6 u1 u2 u3 HMX HUW HU HM7 HM9 hbp HPI hb9
    go_upto_region 7 with fail
    go_loopw [13] (fun i' wr => ∃ n : Nat, n ≤ L.length ∧ i' = iv n ∧ Gr wc wr ∧ Hid (∀ (m : Nat) (a : At6), m < n → L[m]? = some a → ¬ a.pi = (i : Int))) (fun i' _ => L.length - (intOf i').toNat)
    case atStart => exact ⟨0, by omega, rfl, Gr.refl _, hide (fun m a h => absurd h (Nat.not_lt_zero m))⟩
    case round =>
      obtain ⟨n, hn, rfl, g1, HS1⟩ := hrel
      have gw := g0c.trans g1
      by_cases hnl : n < L.length
      · obtain ⟨a, ha⟩ : ∃ a, L[n]? = some a := ⟨_, List.getElem?_eq_getElem hnl⟩
        obtain ⟨bl, ol, rfl, x0, x1, x2, x3, x4⟩ := (HA.out.gr gw).at_ ha
        have hbl : bl < wr.heap.size := cell_lt (by rw [x0]; rfl)
        have hb9 : w.heap.size + 1 < wr.heap.size := (HN9.out.gr g1).1
        have b0 := (HN9.out.gr g1).2.1 0
        have hn0 : (0 : Int) ≤ (n : Int) := by omega
        have hn1 : (n : Int) < (L.length : Int) := by omega
        have HX := hide ha
        clear ha
        by_cases he : a.pi = (i : Int)
        · have HE := hide (show R = 12 from H12.out n a HX.out he)
          rw [he] at x0
          clear he
          go_upto_region 9 with fail
          have GC := @GrW.cell
          refine wp_region_grw _ (by kernel_rfl) (by kernel_rfl) (Gr.refl _) ?_
          repeat (go_big_quiet_step ((first | fail)))
          refine wpQuiet_nil ?_
          intro wq hwq
          obtain ⟨gq, hwq'⟩ := hwq
          subst hwq'
          clear GC
          have gq1 := gq.gr
          generalize gq.w = wq at gq1 ⊢
          obtain ⟨Xq, Yq, cq, fq⟩ := gq1.use
          have sq := gq1.size
          (try simp only [World.size_alloc, World.size_setCell, World.heap_drewN] at sq)
          go_wp2
          go_ret
          exact ⟨ret_iv HE.out.symm, (by with_reducible repeat (first | exact Gr.refl _ | assumption | refine Gr.alloc ?_ _ | refine Gr.drewN ?_ _ | refine Gr.drew ?_ | refine Gr.setCell ?_ (by first | (dsimp only; omega) | (simp only [World.size_alloc]; omega) | (refine Gr.size ?_; (repeat (first | exact Gr.refl _ | assumption | refine Gr.alloc ?_ _ | refine Gr.drewN ?_ _ | refine Gr.drew ?_ | refine Gr.trans ?_ (by assumption))); done)) _ | refine Gr.trans ?_ (by assumption)))⟩
        · have HS1' := hide (show ∀ (m : Nat) (a : At6), m < n + 1 → L[m]? = some a → ¬ a.pi = (i : Int) from fun m a' hm hm' => by
            rcases Nat.lt_or_ge m n with e | e
            · exact HS1.out m a' e hm'
            · obtain rfl : m = n := by omega
              rw [HX.out] at hm'
              obtain rfl := Option.some.inj hm'
              exact he)
          have he' : (a.pi == (i : Int)) = false := by simpa using he
          clear x1 x2 x3 x4
          go_upto_region 9 with fail
          have GC := @GrW.cell
          refine wp_region_grw _ (by kernel_rfl) (by kernel_rfl) (Gr.refl _) ?_
          repeat (go_big_quiet_step ((first | fail)))
          refine wpQuiet_nil ?_
          intro wq hwq
          obtain ⟨gq, hwq'⟩ := hwq
          subst hwq'
          clear GC
          have gq1 := gq.gr
          generalize gq.w = wq at gq1 ⊢
          obtain ⟨Xq, Yq, cq, fq⟩ := gq1.use
          have sq := gq1.size
          (try simp only [World.size_alloc, World.size_setCell, World.heap_drewN] at sq)
          go_wp2
          go_roundw
          case rel => exact ⟨n + 1, by omega, by go_num, (by with_reducible repeat (first | exact Gr.refl _ | assumption | refine Gr.alloc ?_ _ | refine Gr.drewN ?_ _ | refine Gr.drew ?_ | refine Gr.setCell ?_ (by first | (dsimp only; omega) | (simp only [World.size_alloc]; omega) | (refine Gr.size ?_; (repeat (first | exact Gr.refl _ | assumption | refine Gr.alloc ?_ _ | refine Gr.drewN ?_ _ | refine Gr.drew ?_ | refine Gr.trans ?_ (by assumption))); done)) _ | refine Gr.trans ?_ (by assumption))), HS1'⟩
          case measure => simp only [intOf]; omega
      · obtain rfl : n = L.length := by omega
        have HAN := hide (any_no HS1.out)
        have HAN := hide HAN.out
        clear HS1 H12
        have HWW := hide (fun (w' : World) (g' : Gr wr w') => HWE.out D1 q1 M1 w' (gw.trans g') (HU1.out.gr (g1.trans g')))
        obtain ⟨bs', os, hAS, ⟨s0, s1, s2, s3, s4, s5, s6, s7⟩, _⟩ := (HS.out.gr gw).at_ HSI.out
        subst hAS
        have hbs : bs' < wr.heap.size := cell_lt (by rw [s0]; rfl)
        obtain ⟨hb9, yb, _⟩ := HN9.out.gr g1
        have b1 := yb 1
        clear yb
        go_upto_region 12 with fail
        have HB14 := hide (Made.new wr #[.string s.nm, .string s.mt, iv s.ga, iv s.gr, iv s.wd, iv s.ht, .slice s.cA s.cl.length s.cc, .slice s.uA s.us.length s.uc] 24)
        have g14 : Gr wr (wr.alloc (.cells #[.string s.nm, .string s.mt, iv s.ga, iv s.gr, iv s.wd, iv s.ht, .slice s.cA s.cl.length s.cc, .slice s.uA s.us.length s.uc] 24)) := Gr.alloc (Gr.refl _) _
        clear s0 s1 s2 s3 s4 s5 s6 s7 hbs hb9 b1 HS HSI
        obtain ⟨w14, e14⟩ : ∃ u, wr.alloc (.cells #[.string s.nm, .string s.mt, iv s.ga, iv s.gr, iv s.wd, iv s.ht, .slice s.cA s.cl.length s.cc, .slice s.uA s.us.length s.uc] 24) = u := ⟨_, rfl⟩
        rw [e14] at HB14 g14 ⊢
        clear e14
        generalize wr.heap.size = b14 at *
        have gc14 := g1.trans g14
        have HY14 := hide (HY.out.gr gc14)
        have HN914 := hide (HN9.out.gr gc14)
        have HN714 := hide (HN7.out.gr gc14)
        have gw14 := gw.trans g14
        have HWX := hide (fun (w' : World) (g' : Gr w14 w') => HWW.out w' (g14.trans g'))
        clear HWW HWE
        obtain ⟨lB, yB, _⟩ := HY14.out
        have a0 := yB 0
        have a1 := yB 1
        have a2 := yB 2
        have a3 := yB 3
        have a4 := yB 4
        have a5 := yB 5
        have a6 := yB 6
        clear yB
        obtain ⟨l14, y14, _⟩ := HB14.out
        have c0 := y14 0
        have c1 := y14 1
        have c2 := y14 2
        have c3 := y14 3
        have c4 := y14 4
        have c5 := y14 5
        have c6 := y14 6
        have c7 := y14 7
        clear y14
        obtain ⟨l9, y9, _⟩ := HN914.out
        have b4 := y9 4
        clear y9
        obtain ⟨l7, y7, _⟩ := HN714.out
        have d0 := y7 0
        have d1' := y7 1
        have d2' := y7 2
        clear y7
        have HLW := hide HLW.out
        cases hal : alB p.mt s.mt p.ga s.ga p.gr s.gr k with
        | false =>
          have HE := hide (show R = 13 from H13.out HAN.out (by rw [HLW.out, hal]; rfl))
          have HAL := hide (fun (v4 v5 v6 u4 u5 u6 u7 : Value) (w' : World) => rAllowed_any p.nm p.mt p.ga p.gr v4 v5 v6 s.nm s.mt s.ga s.gr u4 u5 u6 u7 k w')
          rw [hal] at HAL
          clear hal
          go_wp2_with fail
          refine (HAL.out _ _ _ _ _ _ _ _).mono ?_
          rintro _ w15 ⟨rfl, g15⟩
          clear a0 a1 a2 a3 a4 a5 a6 c0 c1 c2 c3 c4 c5 c6 c7 b4 d0 d1' d2'
          go_wp2_with fail
          go_ret
          exact ⟨ret_iv HE.out.symm, gw14.trans g15⟩
        | true =>
          have HAL := hide (fun (v4 v5 v6 u4 u5 u6 u7 : Value) (w' : World) => rAllowed_any p.nm p.mt p.ga p.gr v4 v5 v6 s.nm s.mt s.ga s.gr u4 u5 u6 u7 k w')
          rw [hal] at HAL
          go_wp2_with fail
          refine (HAL.out _ _ _ _ _ _ _ _).mono ?_
          rintro _ w15 ⟨rfl, g15⟩
          clear a0 a1 a2 a3 a4 a5 a6 c0 c1 c2 c3 c4 c5 c6 c7 b4 d0 d1' d2' lB l14 l9 l7
          obtain ⟨lB, yB, _⟩ := HY14.out.gr g15
          have a4 := yB 4
          clear yB
          obtain ⟨l14, y14, _⟩ := HB14.out.gr g15
          have c0 := y14 0
          have c1 := y14 1
          have c2 := y14 2
          have c3 := y14 3
          have c4 := y14 4
          have c5 := y14 5
          have c6 := y14 6
          have c7 := y14 7
          clear y14
          obtain ⟨l7, y7, _⟩ := HN714.out.gr g15
          have d0 := y7 0
          have d1' := y7 1
          have d2' := y7 2
          clear y7
          cases hwe : weB M1 s m with
          | false =>
            have HE := hide (show R = 13 from H13.out HAN.out (by rw [HLW.out, hal, hwe]; rfl))
            have HWY := HWX
            rw [hwe] at HWY
            clear hwe hal
            go_wp2_with fail
            refine (HWY.out w15 g15).mono ?_
            rintro _ w16 ⟨rfl, g16⟩
            clear a4 c0 c1 c2 c3 c4 c5 c6 c7 d0 d1' d2'
            go_wp2_with fail
            go_ret
            exact ⟨ret_iv HE.out.symm, (gw14.trans g15).trans g16⟩
          | true =>
            have HLT := hide (show lwB p.mt p.ga p.gr M1 s k m = true by rw [HLW.out, hal, hwe]; rfl)
            have HWY := HWX
            rw [hwe] at HWY
            clear hwe hal H13 HLW
            go_wp2_with fail
            refine (HWY.out w15 g15).mono ?_
            rintro _ w16 ⟨rfl, g16⟩
            clear a4 c0 c1 c2 c3 c4 c5 c6 c7 d0 d1' d2' lB l14 l7 HWX HWY HAL
            have gA := (gc14.trans g15).trans g16
            have gW := (gw14.trans g15).trans g16
            have HY16 := hide (HY.out.gr gA)
            have HN916 := hide (HN9.out.gr gA)
            have HN716 := hide (HN7.out.gr gA)
            have HU16 := hide (HU1.out.gr gA)
            clear HY14 HN914 HN714 HB14 HY HN9 HN7 gc14 gw14 g14 g15 g16
            go_upto_region 15 with fail
            obtain ⟨wz, ez⟩ : ∃ u, w16 = u := ⟨_, rfl⟩
            subst ez
            go_loopw [15] (fun i' wr => ∃ n : Nat, n ≤ L.length ∧ i' = iv n ∧ Gr w16 wr ∧ Hid (∀ (m_1 : Nat) (a : At6), m_1 < n → L[m_1]? = some a → a.sh = (j : Int) → npB (ucB ⟨g, m, cm⟩) M1 (eaR Ps a) = false)) (fun i' _ => L.length - (intOf i').toNat)
            case atStart => exact ⟨0, by omega, rfl, Gr.refl _, hide (fun m a h => absurd h (Nat.not_lt_zero m))⟩
            case round =>
              clear g1 gw
              obtain ⟨n, hn, rfl, g2, HS2⟩ := hrel
              have gwr := gW.trans g2
              by_cases hnl : n < L.length
              · obtain ⟨a, ha⟩ : ∃ a, L[n]? = some a := ⟨_, List.getElem?_eq_getElem hnl⟩
                obtain ⟨i', p', e1, hp', hpu'⟩ := HL.out a (List.mem_of_getElem? ha)
                have hea := eaR_at e1 hp'
                obtain ⟨pi', sh', x', y', k'⟩ := a
                dsimp only at e1
                subst e1
                have HUW := hide (show ∀ w', Gr wr w' → Calls Tryz.prog 18 #[p'.v, atv i' sh' x' y' k'] w' fun e w'' => PutOk p'.nm p'.mt p'.ga p'.gr (mRl p' ⟨i', sh', x', y', k'⟩) (mCl p' ⟨i', sh', x', y', k'⟩) (mFl p' ⟨i', sh', x', y', k'⟩) w' w'' e from fun w' g' => HUA.out ⟨i', sh', x', y', k'⟩ i' p' hp' hpu' w' (gwr.trans g'))
                have HEA := hide hea
                clear hea hpu'
                generalize mRl p' ⟨i', sh', x', y', k'⟩ = N1 at *
                generalize mCl p' ⟨i', sh', x', y', k'⟩ = N2 at *
                generalize mFl p' ⟨i', sh', x', y', k'⟩ = N3 at *
                have HX := hide ha
                obtain ⟨bl, ol, hCe, x0, x1, x2, x3, x4⟩ := (HA.out.gr gwr).at_ ha
                subst hCe
                dsimp only at x0 x1 x2 x3 x4
                have hbl : bl < wr.heap.size := cell_lt (by rw [x0]; rfl)
                obtain ⟨bp, op, hB, ⟨y0, y1, y2, y3, y4, y5, y6⟩, _⟩ := (HP.out.gr gwr).at_ hp'
                have hil' : i' < Ps.length := (List.getElem?_eq_some_iff.1 hp').1
                cases hB
                have hbp : bp < wr.heap.size := cell_lt (by rw [y0]; rfl)
                have hn0 : (0 : Int) ≤ (n : Int) := by omega
                have hn1 : (n : Int) < (L.length : Int) := by omega
                have i0' : (0 : Int) ≤ (i' : Int) := by omega
                have i1' : (i' : Int) < (Ps.length : Int) := by omega
                clear ha hp'
                go_upto_region 17 with fail
                go_cut [16, 17] from 91 to 106 (fun p6 v7 wx => PuC wr p'.nm p'.mt p'.ga p'.gr N1.length N2.length N3.length N1 N2 N3 p6 wx ∧ v7 = iv 0)
                case first =>
                  go_region_held3 (fun w' => Gr (wr) w' ∧ ∀ ii oo, ii < (wr).heap.size → w'.cell? ⟨ii, oo, none⟩ = (wr).cell? ⟨ii, oo, none⟩) ((refine And.intro ?_ (Gr.cell ?_) <;> ((with_reducible repeat (first | exact Gr.refl _ | assumption | refine Gr.alloc ?_ _ | refine Gr.drewN ?_ _ | refine Gr.drew ?_ | refine Gr.setCell ?_ (by first | (dsimp only; omega) | (simp only [World.size_alloc]; omega) | (refine Gr.size ?_; (repeat (first | exact Gr.refl _ | assumption | refine Gr.alloc ?_ _ | refine Gr.drewN ?_ _ | refine Gr.drew ?_ | refine Gr.trans ?_ (by assumption))); done)) _ | refine Gr.trans ?_ (by assumption))); done)))
                   (first | (go_at_call 18; refine (HUW.out _ (by with_reducible repeat (first | exact Gr.refl _ | assumption | refine Gr.alloc ?_ _ | refine Gr.drewN ?_ _ | refine Gr.drew ?_ | refine Gr.setCell ?_ (by first | (dsimp only; omega) | (simp only [World.size_alloc]; omega) | (refine Gr.size ?_; (repeat (first | exact Gr.refl _ | assumption | refine Gr.alloc ?_ _ | refine Gr.drewN ?_ _ | refine Gr.drew ?_ | refine Gr.trans ?_ (by assumption))); done)) _ | refine Gr.trans ?_ (by assumption)))).mono ?_; rintro e w9 ⟨E1, E2, E3, r1, r2, r3, rfl, ⟨s1, s2, s3⟩, ⟨f1, f2, f3⟩, g9⟩; (have u1 := NwR.mk s1 f1); (have u2 := NwR.mk s2 f2); (have u3 := NwR.mk s3 f3); clear s1 s2 s3 f1 f2 f3; obtain ⟨X1, Y1, c1, f1⟩ := g9.use; (have z9 := g9.size); (try simp only [World.size_alloc, World.size_drew, World.heap_drewN] at z9 u1 u2 u3)))
                  · go_wp2_with fail
                    have gx : Gr wr w9 := (by with_reducible repeat (first | exact Gr.refl _ | assumption | refine Gr.alloc ?_ _ | refine Gr.drewN ?_ _ | refine Gr.drew ?_ | refine Gr.setCell ?_ (by first | (dsimp only; omega) | (simp only [World.size_alloc]; omega) | (refine Gr.size ?_; (repeat (first | exact Gr.refl _ | assumption | refine Gr.alloc ?_ _ | refine Gr.drewN ?_ _ | refine Gr.drew ?_ | refine Gr.trans ?_ (by assumption))); done)) _ | refine Gr.trans ?_ (by assumption)))
                    go_meet
                    exact ⟨puC_new _ gx (by omega) u1 u2 u3, rfl⟩
                  · go_wp2_with fail
                    have gx : Gr wr w9 := (by with_reducible repeat (first | exact Gr.refl _ | assumption | refine Gr.alloc ?_ _ | refine Gr.drewN ?_ _ | refine Gr.drew ?_ | refine Gr.setCell ?_ (by first | (dsimp only; omega) | (simp only [World.size_alloc]; omega) | (refine Gr.size ?_; (repeat (first | exact Gr.refl _ | assumption | refine Gr.alloc ?_ _ | refine Gr.drewN ?_ _ | refine Gr.drew ?_ | refine Gr.trans ?_ (by assumption))); done)) _ | refine Gr.trans ?_ (by assumption)))
                    go_meet
                    exact ⟨puC_set (B := wr.heap.size) ((Made.new wr #[.string ⟨#[]⟩, .string ⟨#[]⟩, .int .i64 0, .int .i64 0, .slice none 0 0, .slice none 0 0, .slice none 0 0] 26).gr (show Gr _ w9 from (by clear gx; exact (by with_reducible repeat (first | exact Gr.refl _ | assumption | refine Gr.alloc ?_ _ | refine Gr.drewN ?_ _ | refine Gr.drew ?_ | refine Gr.setCell ?_ (by first | (dsimp only; omega) | (simp only [World.size_alloc]; omega) | (refine Gr.size ?_; (repeat (first | exact Gr.refl _ | assumption | refine Gr.alloc ?_ _ | refine Gr.drewN ?_ _ | refine Gr.drew ?_ | refine Gr.trans ?_ (by assumption))); done)) _ | refine Gr.trans ?_ (by assumption)))))) (by omega) gx (by omega) u1 u2 u3, rfl⟩
                case rest =>
                  clear x0 x1 x2 x3 x4 y0 y1 y2 y3 y4 y5 y6 hbl hbp HUW
                  obtain ⟨⟨B6, E1, E2, E3, r1, r2, r3, rfl, HMX, ⟨u1, u2, u3⟩, hB6, gc6⟩, rfl⟩ := hcut
                  have gwc := gwr.trans gc6
                  have g2c := g2.trans gc6
                  obtain ⟨bl', ol', hCe, _, x1, _, _, _⟩ := (HA.out.gr gwc).at_ HX.out
                  cases hCe
                  dsimp only at x1
                  have hbl : bl < wc.heap.size := cell_lt (by rw [x1]; rfl)
                  obtain ⟨lB, yB, _⟩ := HY16.out.gr g2c
                  have a4 := yB 4
                  clear yB
                  obtain ⟨lB6, yB, _⟩ := HMX
                  have c4 := yB 4
                  clear yB
                  obtain ⟨l9, y9, _⟩ := HN916.out.gr g2c
                  have b1 := y9 1
                  clear y9
                  obtain ⟨l7, y7, _⟩ := HN716.out.gr g2c
                  have d0 := y7 0
                  have d1' := y7 1
                  have d2' := y7 2
                  clear y7
                  have HCL := hide (fun (w' : World) (g' : Gr wc w') => rClear_any D1 q1 M1 E1 r1 N1 ⟨g, m, cm⟩ w' (HU16.out.gr (g2c.trans g')) (u1.s.gr g'))
                  clear u1 u2 u3
                  by_cases he : sh' = (j : Int)
                  · subst he
                    cases hcl : npB (ucB ⟨g, m, cm⟩) M1 N1 with
                    | true =>
                      rw [hcl] at HCL
                      have HE := hide (show R = 7 from H7.out HAN.out HLT.out n _ HX.out rfl (by rw [HEA.out]; exact hcl))
                      clear hcl
                      go_upto_region 18 with fail
                      have GC := @GrW.cell
                      refine wp_region_grw _ (by kernel_rfl) (by kernel_rfl) (Gr.refl _) ?_
                      repeat (go_big_quiet_step ((first | (go_at_call 23; exact quiet_grw (HCL.out _ (GrW.gr _))))))
                      refine wpQuiet_nil ?_
                      intro wq hwq
                      obtain ⟨gq, hwq'⟩ := hwq
                      subst hwq'
                      clear GC
                      have gq1 := gq.gr
                      generalize gq.w = wq at gq1 ⊢
                      obtain ⟨Xq, Yq, cq, fq⟩ := gq1.use
                      have sq := gq1.size
                      (try simp only [World.size_alloc, World.size_setCell, World.heap_drewN] at sq)
                      go_wp2
                      go_ret
                      exact ⟨ret_iv HE.out.symm, (by with_reducible repeat (first | exact Gr.refl _ | assumption | refine Gr.alloc ?_ _ | refine Gr.drewN ?_ _ | refine Gr.drew ?_ | refine Gr.setCell ?_ (by first | (dsimp only; omega) | (simp only [World.size_alloc]; omega) | (refine Gr.size ?_; (repeat (first | exact Gr.refl _ | assumption | refine Gr.alloc ?_ _ | refine Gr.drewN ?_ _ | refine Gr.drew ?_ | refine Gr.trans ?_ (by assumption))); done)) _ | refine Gr.trans ?_ (by assumption)))⟩
                    | false =>
                      rw [hcl] at HCL
                      have HS2' := hide (show ∀ (m_1 : Nat) (a : At6), m_1 < n + 1 → L[m_1]? = some a → a.sh = (j : Int) → npB (ucB ⟨g, m, cm⟩) M1 (eaR Ps a) = false from fun m' a' hm hm' hj' => by
                        rcases Nat.lt_or_ge m' n with e | e
                        · exact HS2.out m' a' e hm' hj'
                        · obtain rfl : m' = n := by omega
                          rw [HX.out] at hm'
                          obtain rfl := Option.some.inj hm'
                          rw [HEA.out]
                          exact hcl)
                      clear hcl
                      go_upto_region 18 with fail
                      have GC := @GrW.cell
                      refine wp_region_grw _ (by kernel_rfl) (by kernel_rfl) (Gr.refl _) ?_
                      repeat (go_big_quiet_step ((first | (go_at_call 23; exact quiet_grw (HCL.out _ (GrW.gr _))))))
                      refine wpQuiet_nil ?_
                      intro wq hwq
                      obtain ⟨gq, hwq'⟩ := hwq
                      subst hwq'
                      clear GC
                      have gq1 := gq.gr
                      generalize gq.w = wq at gq1 ⊢
                      obtain ⟨Xq, Yq, cq, fq⟩ := gq1.use
                      have sq := gq1.size
                      (try simp only [World.size_alloc, World.size_setCell, World.heap_drewN] at sq)
                      go_wp2
                      go_roundw
                      case rel => exact ⟨n + 1, by omega, by go_num, (by with_reducible repeat (first | exact Gr.refl _ | assumption | refine Gr.alloc ?_ _ | refine Gr.drewN ?_ _ | refine Gr.drew ?_ | refine Gr.setCell ?_ (by first | (dsimp only; omega) | (simp only [World.size_alloc]; omega) | (refine Gr.size ?_; (repeat (first | exact Gr.refl _ | assumption | refine Gr.alloc ?_ _ | refine Gr.drewN ?_ _ | refine Gr.drew ?_ | refine Gr.trans ?_ (by assumption))); done)) _ | refine Gr.trans ?_ (by assumption))), HS2'⟩
                      case measure => simp only [intOf]; omega
                  · have he' : (sh' == (j : Int)) = false := by simpa using he
                    have HS2' := hide (show ∀ (m_1 : Nat) (a : At6), m_1 < n + 1 → L[m_1]? = some a → a.sh = (j : Int) → npB (ucB ⟨g, m, cm⟩) M1 (eaR Ps a) = false from fun m' a' hm hm' hj' => by
                      rcases Nat.lt_or_ge m' n with e | e
                      · exact HS2.out m' a' e hm' hj'
                      · obtain rfl : m' = n := by omega
                        rw [HX.out] at hm'
                        obtain rfl := Option.some.inj hm'
                        exact absurd hj' he)
                    clear HCL
                    go_upto_region 18 with fail
                    have GC := @GrW.cell
                    refine wp_region_grw _ (by kernel_rfl) (by kernel_rfl) (Gr.refl _) ?_
                    repeat (go_big_quiet_step ((first | fail)))
                    refine wpQuiet_nil ?_
                    intro wq hwq
                    obtain ⟨gq, hwq'⟩ := hwq
                    subst hwq'
                    clear GC
                    have gq1 := gq.gr
                    generalize gq.w = wq at gq1 ⊢
                    obtain ⟨Xq, Yq, cq, fq⟩ := gq1.use
                    have sq := gq1.size
                    (try simp only [World.size_alloc, World.size_setCell, World.heap_drewN] at sq)
                    go_wp2
                    go_roundw
                    case rel => exact ⟨n + 1, by omega, by go_num, (by with_reducible repeat (first | exact Gr.refl _ | assumption | refine Gr.alloc ?_ _ | refine Gr.drewN ?_ _ | refine Gr.drew ?_ | refine Gr.setCell ?_ (by first | (dsimp only; omega) | (simp only [World.size_alloc]; omega) | (refine Gr.size ?_; (repeat (first | exact Gr.refl _ | assumption | refine Gr.alloc ?_ _ | refine Gr.drewN ?_ _ | refine Gr.drew ?_ | refine Gr.trans ?_ (by assumption))); done)) _ | refine Gr.trans ?_ (by assumption))), HS2'⟩
                    case measure => simp only [intOf]; omega
              · obtain rfl : n = L.length := by omega
                have HE := hide (show R = 0 from H0.out HAN.out HLT.out HS2.out)
                go_wp2
                go_ret
                exact ⟨ret_iv HE.out.symm, gwr⟩
end RG
end Go.Proofs.YtocbcbfniiioaaaGreat
