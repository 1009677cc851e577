/-
 Nests: lists of sheets and pieces, and what lies well on a sheet, of the reference.
 Nests: what lies well on a sheet, of the reference.
-/
import Derived.Test.YtddhaiaapomdjaaGreatGQe
import Derived.Test.YtddhaiaapomdjaaGreatGNe
set_option linter.unusedVariables false
set_option linter.unusedSimpArgs false
namespace Go.Proofs.YtddhaiaapomdjaaGreat
set_option linter.unusedVariables false
set_option linter.unusedSimpArgs false
open Go Go.ChangeShapes Go.WideShapes Go.ChangeAt Go.RowKit Go.Deep

namespace RG
set_option maxHeartbeats 8000000 in
set_option maxRecDepth 100000 in
theorem given6_any (A : Option Addr) (c : Nat) (S : List ShT) (B : Option Addr) (d : Nat) (P : List Pc) (bs : Pc → Bool) (w : World) (hS : SlS w A c S) (hP : SlP w B d P) (hb : CoBs P bs) :
  Calls Tryz.prog 37 #[.slice A S.length c, .slice B P.length d] w fun e w' => e = .returned (iv (clE S P bs)) ∧ Gr w w' := by
 have n1 := hS.cap
 have n2 := hS.capB
 have n3 := hP.cap
 have n4 := hP.capB
 have HS := hide hS
 have HP := hide hP
 have HV := hide (fun (s : ShT) (w' : World) (h : ShW w' s) => rValidateSheet_any s w' h)
 have HQ := hide (fun (p : Pc) (hp : p ∈ P) (w' : World) (h : PcW w' p) => rValidatePiece_any p (bs p) w' h (hb p hp))
 have HC := hide (show clE S P bs = if 4 < S.length ∨ 8 < P.length then 4 else if fstE (S.map vsE) ≠ 0 then fstE (S.map vsE) else fstE (P.map fun p => vpE p (bs p)) from rfl)
 clear hS hP hb
 by_cases h4 : 4 < S.length
 ·have h4' : decide ((S.length : Int) > 4) = true := decide_eq_true (by omega)
  have h4'' : (4 : Int) < (S.length : Int) := by omega
  have HE := hide (show clE S P bs = 4 by rw [HC.out, if_pos (.inl h4)])
  go_enter Tryz.func37, Tryz.ntmps37
  go_wp2
  go_ret
  exact ⟨ret_iv HE.out.symm, (by with_reducible repeat (first | exact Gr.refl _ | assumption | refine Gr.alloc ?_ _ | refine Gr.drewN ?_ _ | refine Gr.drew ?_ | refine Gr.setCell ?_ (by first | (dsimp only; omega) | (simp only [World.size_alloc]; omega)) _ | refine Gr.trans ?_ (by assumption)))⟩
 ·have h4'' : ¬ ((4 : Int) < (S.length : Int)) := by omega
  by_cases h8 : 8 < P.length
  ·have h8'' : (8 : Int) < (P.length : Int) := by omega
   have HE := hide (show clE S P bs = 4 by rw [HC.out, if_pos (.inr h8)])
   go_enter Tryz.func37, Tryz.ntmps37
   go_wp2
   go_ret
   exact ⟨ret_iv HE.out.symm, (by with_reducible repeat (first | exact Gr.refl _ | assumption | refine Gr.alloc ?_ _ | refine Gr.drewN ?_ _ | refine Gr.drew ?_ | refine Gr.setCell ?_ (by first | (dsimp only; omega) | (simp only [World.size_alloc]; omega)) _ | refine Gr.trans ?_ (by assumption)))⟩
  ·have h8'' : ¬ ((8 : Int) < (P.length : Int)) := by omega
   have HC2 := hide (show clE S P bs = if fstE (S.map vsE) ≠ 0 then fstE (S.map vsE) else fstE (P.map fun p => vpE p (bs p)) by rw [HC.out, if_neg (by omega)])
   go_enter Tryz.func37, Tryz.ntmps37
   go_wp2
   go_loopw [5] (fun i wr => ∃ k : Nat, k ≤ S.length ∧ i = iv k ∧ Gr w wr ∧ Hid (∀ (j : Nat) (x : ShT), j < k → S[j]? = some x → vsE x = 0)) (fun i _ => S.length - (intOf i).toNat)
   case atStart => exact ⟨0, by omega, rfl, Gr.refl _, hide (fun j x h => absurd h (Nat.not_lt_zero j))⟩
   case round =>
    obtain ⟨k, hk, rfl, g, HK⟩ := hrel
    by_cases hkl : k < S.length
    ·obtain ⟨s, hs⟩ : ∃ s, S[k]? = some s := ⟨_, List.getElem?_eq_getElem hkl⟩
     obtain ⟨b, o, hA, ⟨x0, x1, x2, x3, x4, x5, x6, x7⟩, hsw⟩ := (HS.out.gr g).at_ hs
     subst hA
     have hbl : b < wr.heap.size := cell_lt (by rw [x0]; rfl)
     have hk0 : (0 : Int) ≤ (k : Int) := by omega
     have hk1 : (k : Int) < (S.length : Int) := by omega
     have HVS := hide (fun (w' : World) (g' : Gr wr w') => HV.out s w' (hsw.gr g'))
     have HX := hide hs
     clear hs hsw
     by_cases h0 : vsE s = 0
     ·have HK' := hide (show ∀ (j : Nat) (x : ShT), j < k + 1 → S[j]? = some x → vsE x = 0 by
       intro j x hj hx
       rcases Nat.lt_or_ge j k with h | h
       ·exact HK.out j x h hx
       ·obtain rfl : j = k := by omega
        rw [HX.out] at hx
        obtain rfl := Option.some.inj hx
        exact h0)
      rw [h0] at HVS
      clear h0
      go_wp2_with (first | (go_at_call 28; refine (HVS.out _ (by with_reducible repeat (first | exact Gr.refl _ | assumption | refine Gr.alloc ?_ _ | refine Gr.drewN ?_ _ | refine Gr.drew ?_ | refine Gr.setCell ?_ (by first | (dsimp only; omega) | (simp only [World.size_alloc]; omega)) _ | refine Gr.trans ?_ (by assumption)))).mono ?_; rintro e w1 ⟨rfl, g1⟩; obtain ⟨X1, Y1, c1, f1⟩ := g1.use; have z1 := g1.size; (try simp only [World.size_alloc, World.size_setCell, World.heap_drewN, Nat.add_one_le_iff] at z1); (try have l0 : w.heap.size < w1.heap.size := by omega); (try have l1 : w.heap.size + 1 < w1.heap.size := by omega); (try have l2 : w.heap.size + 1 + 1 < w1.heap.size := by omega)))
      go_roundw
      case rel => exact ⟨k + 1, by omega, by go_num, (by with_reducible repeat (first | exact Gr.refl _ | assumption | refine Gr.alloc ?_ _ | refine Gr.drewN ?_ _ | refine Gr.drew ?_ | refine Gr.setCell ?_ (by first | (dsimp only; omega) | (simp only [World.size_alloc]; omega)) _ | refine Gr.trans ?_ (by assumption))), HK'⟩
      case measure => simp only [intOf]; omega
     ·have HE := hide (show clE S P bs = vsE s by
       have := fstE_hit (f := vsE) HX.out h0 HK.out
       rw [HC2.out, this, if_pos h0])
      obtain ⟨E, hE⟩ : ∃ E, vsE s = E := ⟨_, rfl⟩
      rw [hE] at HVS HE h0
      have h1 : (E != 0) = true := by simpa using h0
      clear hE
      go_wp2_with (first | (go_at_call 28; refine (HVS.out _ (by with_reducible repeat (first | exact Gr.refl _ | assumption | refine Gr.alloc ?_ _ | refine Gr.drewN ?_ _ | refine Gr.drew ?_ | refine Gr.setCell ?_ (by first | (dsimp only; omega) | (simp only [World.size_alloc]; omega)) _ | refine Gr.trans ?_ (by assumption)))).mono ?_; rintro e w1 ⟨rfl, g1⟩; obtain ⟨X1, Y1, c1, f1⟩ := g1.use; have z1 := g1.size; (try simp only [World.size_alloc, World.size_setCell, World.heap_drewN, Nat.add_one_le_iff] at z1); (try have l0 : w.heap.size < w1.heap.size := by omega); (try have l1 : w.heap.size + 1 < w1.heap.size := by omega); (try have l2 : w.heap.size + 1 + 1 < w1.heap.size := by omega)))
      go_ret
      exact ⟨ret_iv HE.out.symm, (by with_reducible repeat (first | exact Gr.refl _ | assumption | refine Gr.alloc ?_ _ | refine Gr.drewN ?_ _ | refine Gr.drew ?_ | refine Gr.setCell ?_ (by first | (dsimp only; omega) | (simp only [World.size_alloc]; omega)) _ | refine Gr.trans ?_ (by assumption)))⟩
    ·obtain rfl : k = S.length := by omega
     have HC3 := hide (show clE S P bs = fstE (P.map fun p => vpE p (bs p)) by
      have := fstE_none (f := vsE) HK.out
      rw [HC2.out, this, if_neg (by decide)])
     clear HK
     go_wp2
     go_loopw [7] (fun i wr => ∃ k : Nat, k ≤ P.length ∧ i = iv k ∧ Gr w wr ∧ Hid (∀ (j : Nat) (x : Pc), j < k → P[j]? = some x → vpE x (bs x) = 0)) (fun i _ => P.length - (intOf i).toNat)
     case atStart => exact ⟨0, by omega, rfl, g, hide (fun j x h => absurd h (Nat.not_lt_zero j))⟩
     case round =>
      clear g
      obtain ⟨k, hk, rfl, g, HK⟩ := hrel
      by_cases hkl : k < P.length
      ·obtain ⟨s, hs⟩ : ∃ s, P[k]? = some s := ⟨_, List.getElem?_eq_getElem hkl⟩
       obtain ⟨b, o, hA, ⟨x0, x1, x2, x3, x4, x5, x6⟩, hsw⟩ := (HP.out.gr g).at_ hs
       subst hA
       have hbl : b < wr.heap.size := cell_lt (by rw [x0]; rfl)
       have hk0 : (0 : Int) ≤ (k : Int) := by omega
       have hk1 : (k : Int) < (P.length : Int) := by omega
       have HVS := hide (fun (w' : World) (g' : Gr wr w') => HQ.out s (List.mem_of_getElem? hs) w' (hsw.gr g'))
       have HX := hide hs
       clear hs hsw
       by_cases h0 : vpE s (bs s) = 0
       ·have HK' := hide (show ∀ (j : Nat) (x : Pc), j < k + 1 → P[j]? = some x → vpE x (bs x) = 0 by
         intro j x hj hx
         rcases Nat.lt_or_ge j k with h | h
         ·exact HK.out j x h hx
         ·obtain rfl : j = k := by omega
          rw [HX.out] at hx
          obtain rfl := Option.some.inj hx
          exact h0)
        rw [h0] at HVS
        clear h0
        go_wp2_with (first | (go_at_call 30; refine (HVS.out _ (by with_reducible repeat (first | exact Gr.refl _ | assumption | refine Gr.alloc ?_ _ | refine Gr.drewN ?_ _ | refine Gr.drew ?_ | refine Gr.setCell ?_ (by first | (dsimp only; omega) | (simp only [World.size_alloc]; omega)) _ | refine Gr.trans ?_ (by assumption)))).mono ?_; rintro e w1 ⟨rfl, g1⟩; obtain ⟨X1, Y1, c1, f1⟩ := g1.use; have z1 := g1.size; (try simp only [World.size_alloc, World.size_setCell, World.heap_drewN, Nat.add_one_le_iff] at z1); (try have l0 : w.heap.size < w1.heap.size := by omega); (try have l1 : w.heap.size + 1 < w1.heap.size := by omega); (try have l2 : w.heap.size + 1 + 1 < w1.heap.size := by omega)))
        go_roundw
        case rel => exact ⟨k + 1, by omega, by go_num, (by with_reducible repeat (first | exact Gr.refl _ | assumption | refine Gr.alloc ?_ _ | refine Gr.drewN ?_ _ | refine Gr.drew ?_ | refine Gr.setCell ?_ (by first | (dsimp only; omega) | (simp only [World.size_alloc]; omega)) _ | refine Gr.trans ?_ (by assumption))), HK'⟩
        case measure => simp only [intOf]; omega
       ·have HE := hide (show clE S P bs = vpE s (bs s) by
         have := fstE_hit (f := fun p => vpE p (bs p)) HX.out h0 HK.out
         rw [HC3.out, this])
        obtain ⟨E, hE⟩ : ∃ E, vpE s (bs s) = E := ⟨_, rfl⟩
        rw [hE] at HVS HE h0
        have h1 : (E != 0) = true := by simpa using h0
        clear hE
        go_wp2_with (first | (go_at_call 30; refine (HVS.out _ (by with_reducible repeat (first | exact Gr.refl _ | assumption | refine Gr.alloc ?_ _ | refine Gr.drewN ?_ _ | refine Gr.drew ?_ | refine Gr.setCell ?_ (by first | (dsimp only; omega) | (simp only [World.size_alloc]; omega)) _ | refine Gr.trans ?_ (by assumption)))).mono ?_; rintro e w1 ⟨rfl, g1⟩; obtain ⟨X1, Y1, c1, f1⟩ := g1.use; have z1 := g1.size; (try simp only [World.size_alloc, World.size_setCell, World.heap_drewN, Nat.add_one_le_iff] at z1); (try have l0 : w.heap.size < w1.heap.size := by omega); (try have l1 : w.heap.size + 1 < w1.heap.size := by omega); (try have l2 : w.heap.size + 1 + 1 < w1.heap.size := by omega)))
        go_ret
        exact ⟨ret_iv HE.out.symm, (by with_reducible repeat (first | exact Gr.refl _ | assumption | refine Gr.alloc ?_ _ | refine Gr.drewN ?_ _ | refine Gr.drew ?_ | refine Gr.setCell ?_ (by first | (dsimp only; omega) | (simp only [World.size_alloc]; omega)) _ | refine Gr.trans ?_ (by assumption)))⟩
      ·obtain rfl : k = P.length := by omega
       have HE := hide (show clE S P bs = 0 by
        have := fstE_none (f := fun p => vpE p (bs p)) HK.out
        rw [HC3.out, this])
       go_wp2
       go_ret
       exact ⟨ret_iv HE.out.symm, (by with_reducible repeat (first | exact Gr.refl _ | assumption | refine Gr.alloc ?_ _ | refine Gr.drewN ?_ _ | refine Gr.drew ?_ | refine Gr.setCell ?_ (by first | (dsimp only; omega) | (simp only [World.size_alloc]; omega)) _ | refine Gr.trans ?_ (by assumption)))⟩
end RG
end Go.Proofs.YtddhaiaapomdjaaGreat
set_option linter.unusedVariables false
set_option linter.unusedSimpArgs false
namespace Go.Proofs.YtddhaiaapomdjaaGreat
set_option linter.unusedVariables false
set_option linter.unusedSimpArgs false
open Go Go.ChangeShapes Go.WideShapes Go.ChangeAt Go.RowKit Go.Deep

namespace RG
def weB (l : List Rc) (s : ShT) (m : Int) : Bool := aiB l (inmR s.wd s.ht m) && !npB ovQ l (s.cl ++ s.us)
end RG
end Go.Proofs.YtddhaiaapomdjaaGreat
