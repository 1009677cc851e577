/-
  Nests: two elements of a list for which a function holds.
-/
import Derived.Test.YtddhaiaapomdjaaGreatNs10r
set_option linter.unusedVariables false
set_option linter.unusedSimpArgs false
namespace Go.Proofs.YtddhaiaapomdjaaGreat
set_option linter.unusedVariables false
set_option linter.unusedSimpArgs false
open Go Go.ChangeShapes Go.WideShapes Go.ChangeAt Go.RowKit Go.Deep

namespace RG
/-- p holds of the elements at j and i -/
def pjB (p : Rc → Rc → Bool) (l : List Rc) (j i : Nat) : Bool := match l[j]?, l[i]? with
  | some a, some b => p a b
  | _, _ => false
def apB (p : Rc → Rc → Bool) (l : List Rc) : Bool := (List.range l.length).any fun i => (List.range i).any fun j => pjB p l j i
theorem pjB_at {p : Rc → Rc → Bool} {l : List Rc} {i j : Nat} {a b : Rc} (h : l[j]? = some a) (k : l[i]? = some b) : pjB p l j i = p a b := by simp [pjB, h, k]
theorem apB_yes {p : Rc → Rc → Bool} {l : List Rc} {i j : Nat} {a b : Rc} (h : l[j]? = some a) (k : l[i]? = some b) (hj : j < i) (q : p a b = true) : apB p l = true := by
  unfold apB
  rw [List.any_eq_true]
  refine ⟨i, List.mem_range.2 (List.getElem?_eq_some_iff.1 k).1, ?_⟩
  rw [List.any_eq_true]
  exact ⟨j, List.mem_range.2 hj, by rw [pjB_at h k]; exact q⟩
theorem apB_no {p : Rc → Rc → Bool} {l : List Rc} (h : ∀ (i j : Nat), i < l.length → j < i → pjB p l j i = false) : apB p l = false := by
  unfold apB
  rw [List.any_eq_false]
  intro i hi
  rw [List.any_eq_true]
  rintro ⟨j, hj, q⟩
  rw [h i j (List.mem_range.1 hi) (List.mem_range.1 hj)] at q
  cases q
set_option maxHeartbeats 4000000 in
set_option maxRecDepth 100000 in
theorem anyPairO_any (A : Option Addr) (c : Nat) (l : List Rc) (w : World) (hl : SlR w A c l) :
    Calls Tryz.prog 45 #[.slice A l.length c, .func (.func 46) #[] #[]] w fun e w' => e = .returned (.bool (apB ovQ l)) ∧ Gr w w' := by
  have n1 := hl.cap
  have n2 := hl.capB
  have HL := hide hl
  clear hl
  go_enter Tryz.func45, Tryz.ntmps45
  go_wp2
  go_loopw [11] (fun i wr => ∃ k : Nat, k ≤ l.length ∧ i = iv k ∧ Gr w wr ∧ Hid (∀ (i j : Nat), i < k → j < i → pjB ovQ l j i = false)) (fun i _ => l.length - (intOf i).toNat)
  case atStart => exact ⟨0, by omega, rfl, Gr.refl _, hide (fun i j h _ => absurd h (Nat.not_lt_zero _))⟩
  case round =>
    obtain ⟨k, hk, rfl, g, HS⟩ := hrel
    by_cases hkl : k < l.length
    · obtain ⟨r, hr⟩ : ∃ r, l[k]? = some r := ⟨_, List.getElem?_eq_getElem hkl⟩
      obtain ⟨b, o, rfl, x0, x1, x2, x3⟩ := (HL.out.gr g).at_ hr
      have hbl : b < wr.heap.size := cell_lt (by rw [x0]; rfl)
      have HR := hide hr
      have hk0 : (0 : Int) ≤ (k : Int) := by omega
      have hk1 : (k : Int) < (l.length : Int) := by omega
      have hk2 : (k : Int) ≤ (c : Int) := by omega
      clear hr
      go_wp2
      have g1 : Gr wr (wr.alloc (.cells #[iv r.x, iv r.y, iv r.w, iv r.h] 70)) := Gr.alloc (Gr.refl _) _
      have HB := hide (fun (w' : World) (g : Gr (wr.alloc (.cells #[iv r.x, iv r.y, iv r.w, iv r.h] 70)) w') => box4 g)
      generalize wr.alloc (.cells #[iv r.x, iv r.y, iv r.w, iv r.h] 70) = w1 at *
      go_loopw [20] (fun i wr2 => ∃ j : Nat, j ≤ k ∧ i = iv j ∧ Gr w1 wr2 ∧ Hid (∀ (i : Nat), i < j → pjB ovQ l i k = false)) (fun i _ => k - (intOf i).toNat)
      case atStart => exact ⟨0, by omega, rfl, Gr.refl _, hide (fun j h => absurd h (Nat.not_lt_zero j))⟩
      case round =>
        obtain ⟨j, hj, rfl, g2, HT⟩ := hrel
        by_cases hjl : j < k
        · obtain ⟨s, hs⟩ : ∃ s, l[j]? = some s := ⟨_, List.getElem?_eq_getElem (by omega)⟩
          obtain ⟨b2, o2, hA, y0, y1, y2, y3⟩ := (HL.out.gr ((g.trans g1).trans g2)).at_ hs
          cases hA
          have hbl2 : b < wr.heap.size := cell_lt (by rw [y0]; rfl)
          obtain ⟨hb, p0, p1, p2, p3⟩ := HB.out wr g2
          have HSS := hide hs
          have hj0 : (0 : Int) ≤ (j : Int) := by omega
          have hj1 : (j : Int) < (k : Int) := by omega
          have HI := hide (fun w' => show Calls Tryz.prog 46 #[rc s.x s.y s.w s.h, rc r.x r.y r.w r.h] w' fun e w2 => e = .returned (.bool (ovQ s r)) ∧ Gr w' w2 from Overlap_any s.x s.y s.w s.h r.x r.y r.w r.h w')
          clear hs
          cases hv : ovQ s r with
          | true =>
            have HE := hide (apB_yes (p := ovQ) HSS.out HR.out hjl hv)
            rw [hv] at HI
            clear hv
            go_wp2_with (first | (go_at_call 46; refine (HI.out _).mono ?_; rintro e w1 ⟨rfl, g1⟩; obtain ⟨X1, Y1, c1, f1⟩ := g1.use))
            go_ret
            exact ⟨ret_bool HE.out.symm, (by with_reducible repeat (first | exact Gr.refl _ | assumption | refine Gr.alloc ?_ _ | refine Gr.drewN ?_ _ | refine Gr.drew ?_ | refine Gr.setCell ?_ (by first | (dsimp only; omega) | (simp only [World.size_alloc]; omega) | (refine Gr.size ?_; (repeat (first | exact Gr.refl _ | assumption | refine Gr.alloc ?_ _ | refine Gr.drewN ?_ _ | refine Gr.drew ?_ | refine Gr.trans ?_ (by assumption))); done)) _ | refine Gr.trans ?_ (by assumption)))⟩
          | false =>
            have HT' := hide (show ∀ (i : Nat), i < j + 1 → pjB ovQ l i k = false by
              intro i hi
              rcases Nat.lt_or_ge i j with h | h
              · exact HT.out i h
              · obtain rfl : i = j := by omega
                rw [pjB_at HSS.out HR.out]
                exact hv)
            rw [hv] at HI
            clear hv
            go_wp2_with (first | (go_at_call 46; refine (HI.out _).mono ?_; rintro e w1 ⟨rfl, g1⟩; obtain ⟨X1, Y1, c1, f1⟩ := g1.use))
            go_roundw
            case rel => exact ⟨j + 1, by omega, by go_num, (by with_reducible repeat (first | exact Gr.refl _ | assumption | refine Gr.alloc ?_ _ | refine Gr.drewN ?_ _ | refine Gr.drew ?_ | refine Gr.setCell ?_ (by first | (dsimp only; omega) | (simp only [World.size_alloc]; omega) | (refine Gr.size ?_; (repeat (first | exact Gr.refl _ | assumption | refine Gr.alloc ?_ _ | refine Gr.drewN ?_ _ | refine Gr.drew ?_ | refine Gr.trans ?_ (by assumption))); done)) _ | refine Gr.trans ?_ (by assumption))), HT'⟩
            case measure => simp only [intOf]; omega
        · obtain rfl : j = k := by omega
          have HS' := hide (show ∀ (i m : Nat), i < j + 1 → m < i → pjB ovQ l m i = false by
            intro i m hi hm
            rcases Nat.lt_or_ge i j with h | h
            · exact HS.out i m h hm
            · obtain rfl : i = j := by omega
              exact HT.out m hm)
          go_wp2
          go_roundw
          case rel => exact ⟨j + 1, by omega, by go_num, (by with_reducible repeat (first | exact Gr.refl _ | assumption | refine Gr.alloc ?_ _ | refine Gr.drewN ?_ _ | refine Gr.drew ?_ | refine Gr.setCell ?_ (by first | (dsimp only; omega) | (simp only [World.size_alloc]; omega) | (refine Gr.size ?_; (repeat (first | exact Gr.refl _ | assumption | refine Gr.alloc ?_ _ | refine Gr.drewN ?_ _ | refine Gr.drew ?_ | refine Gr.trans ?_ (by assumption))); done)) _ | refine Gr.trans ?_ (by assumption))), HS'⟩
          case measure => simp only [intOf]; omega
    · obtain rfl : k = l.length := by omega
      have HE := hide (apB_no (p := ovQ) HS.out)
      go_wp2
      go_ret
      exact ⟨ret_bool HE.out.symm, (by with_reducible repeat (first | exact Gr.refl _ | assumption | refine Gr.alloc ?_ _ | refine Gr.drewN ?_ _ | refine Gr.drew ?_ | refine Gr.setCell ?_ (by first | (dsimp only; omega) | (simp only [World.size_alloc]; omega) | (refine Gr.size ?_; (repeat (first | exact Gr.refl _ | assumption | refine Gr.alloc ?_ _ | refine Gr.drewN ?_ _ | refine Gr.drew ?_ | refine Gr.trans ?_ (by assumption))); done)) _ | refine Gr.trans ?_ (by assumption)))⟩
def toR (r s : Rc) : Bool := diR r s == 0
set_option maxHeartbeats 4000000 in
set_option maxRecDepth 100000 in
theorem anyPairT_any (A : Option Addr) (c : Nat) (l : List Rc) (w : World) (hl : SlR w A c l) :
    Calls Tryz.prog 45 #[.slice A l.length c, .func (.func 65) #[] #[]] w fun e w' => e = .returned (.bool (apB toR l)) ∧ Gr w w' := by
  have n1 := hl.cap
  have n2 := hl.capB
  have HL := hide hl
  clear hl
  go_enter Tryz.func45, Tryz.ntmps45
  go_wp2
  go_loopw [11] (fun i wr => ∃ k : Nat, k ≤ l.length ∧ i = iv k ∧ Gr w wr ∧ Hid (∀ (i j : Nat), i < k → j < i → pjB toR l j i = false)) (fun i _ => l.length - (intOf i).toNat)
  case atStart => exact ⟨0, by omega, rfl, Gr.refl _, hide (fun i j h _ => absurd h (Nat.not_lt_zero _))⟩
  case round =>
    obtain ⟨k, hk, rfl, g, HS⟩ := hrel
    by_cases hkl : k < l.length
    · obtain ⟨r, hr⟩ : ∃ r, l[k]? = some r := ⟨_, List.getElem?_eq_getElem hkl⟩
      obtain ⟨b, o, rfl, x0, x1, x2, x3⟩ := (HL.out.gr g).at_ hr
      have hbl : b < wr.heap.size := cell_lt (by rw [x0]; rfl)
      have HR := hide hr
      have hk0 : (0 : Int) ≤ (k : Int) := by omega
      have hk1 : (k : Int) < (l.length : Int) := by omega
      have hk2 : (k : Int) ≤ (c : Int) := by omega
      clear hr
      go_wp2
      have g1 : Gr wr (wr.alloc (.cells #[iv r.x, iv r.y, iv r.w, iv r.h] 70)) := Gr.alloc (Gr.refl _) _
      have HB := hide (fun (w' : World) (g : Gr (wr.alloc (.cells #[iv r.x, iv r.y, iv r.w, iv r.h] 70)) w') => box4 g)
      generalize wr.alloc (.cells #[iv r.x, iv r.y, iv r.w, iv r.h] 70) = w1 at *
      go_loopw [20] (fun i wr2 => ∃ j : Nat, j ≤ k ∧ i = iv j ∧ Gr w1 wr2 ∧ Hid (∀ (i : Nat), i < j → pjB toR l i k = false)) (fun i _ => k - (intOf i).toNat)
      case atStart => exact ⟨0, by omega, rfl, Gr.refl _, hide (fun j h => absurd h (Nat.not_lt_zero j))⟩
      case round =>
        obtain ⟨j, hj, rfl, g2, HT⟩ := hrel
        by_cases hjl : j < k
        · obtain ⟨s, hs⟩ : ∃ s, l[j]? = some s := ⟨_, List.getElem?_eq_getElem (by omega)⟩
          obtain ⟨b2, o2, hA, y0, y1, y2, y3⟩ := (HL.out.gr ((g.trans g1).trans g2)).at_ hs
          cases hA
          have hbl2 : b < wr.heap.size := cell_lt (by rw [y0]; rfl)
          obtain ⟨hb, p0, p1, p2, p3⟩ := HB.out wr g2
          have HSS := hide hs
          have hj0 : (0 : Int) ≤ (j : Int) := by omega
          have hj1 : (j : Int) < (k : Int) := by omega
          have HI := hide (fun w' => show Calls Tryz.prog 65 #[rc s.x s.y s.w s.h, rc r.x r.y r.w r.h] w' fun e w2 => e = .returned (.bool (toR s r)) ∧ Gr w' w2 from touch_any s r w')
          clear hs
          cases hv : toR s r with
          | true =>
            have HE := hide (apB_yes (p := toR) HSS.out HR.out hjl hv)
            rw [hv] at HI
            clear hv
            go_wp2_with (first | (go_at_call 65; refine (HI.out _).mono ?_; rintro e w1 ⟨rfl, g1⟩; obtain ⟨X1, Y1, c1, f1⟩ := g1.use))
            go_ret
            exact ⟨ret_bool HE.out.symm, (by with_reducible repeat (first | exact Gr.refl _ | assumption | refine Gr.alloc ?_ _ | refine Gr.drewN ?_ _ | refine Gr.drew ?_ | refine Gr.setCell ?_ (by first | (dsimp only; omega) | (simp only [World.size_alloc]; omega) | (refine Gr.size ?_; (repeat (first | exact Gr.refl _ | assumption | refine Gr.alloc ?_ _ | refine Gr.drewN ?_ _ | refine Gr.drew ?_ | refine Gr.trans ?_ (by assumption))); done)) _ | refine Gr.trans ?_ (by assumption)))⟩
          | false =>
            have HT' := hide (show ∀ (i : Nat), i < j + 1 → pjB toR l i k = false by
              intro i hi
              rcases Nat.lt_or_ge i j with h | h
              · exact HT.out i h
              · obtain rfl : i = j := by omega
                rw [pjB_at HSS.out HR.out]
                exact hv)
            rw [hv] at HI
            clear hv
            go_wp2_with (first | (go_at_call 65; refine (HI.out _).mono ?_; rintro e w1 ⟨rfl, g1⟩; obtain ⟨X1, Y1, c1, f1⟩ := g1.use))
            go_roundw
            case rel => exact ⟨j + 1, by omega, by go_num, (by with_reducible repeat (first | exact Gr.refl _ | assumption | refine Gr.alloc ?_ _ | refine Gr.drewN ?_ _ | refine Gr.drew ?_ | refine Gr.setCell ?_ (by first | (dsimp only; omega) | (simp only [World.size_alloc]; omega) | (refine Gr.size ?_; (repeat (first | exact Gr.refl _ | assumption | refine Gr.alloc ?_ _ | refine Gr.drewN ?_ _ | refine Gr.drew ?_ | refine Gr.trans ?_ (by assumption))); done)) _ | refine Gr.trans ?_ (by assumption))), HT'⟩
            case measure => simp only [intOf]; omega
        · obtain rfl : j = k := by omega
          have HS' := hide (show ∀ (i m : Nat), i < j + 1 → m < i → pjB toR l m i = false by
            intro i m hi hm
            rcases Nat.lt_or_ge i j with h | h
            · exact HS.out i m h hm
            · obtain rfl : i = j := by omega
              exact HT.out m hm)
          go_wp2
          go_roundw
          case rel => exact ⟨j + 1, by omega, by go_num, (by with_reducible repeat (first | exact Gr.refl _ | assumption | refine Gr.alloc ?_ _ | refine Gr.drewN ?_ _ | refine Gr.drew ?_ | refine Gr.setCell ?_ (by first | (dsimp only; omega) | (simp only [World.size_alloc]; omega) | (refine Gr.size ?_; (repeat (first | exact Gr.refl _ | assumption | refine Gr.alloc ?_ _ | refine Gr.drewN ?_ _ | refine Gr.drew ?_ | refine Gr.trans ?_ (by assumption))); done)) _ | refine Gr.trans ?_ (by assumption))), HS'⟩
          case measure => simp only [intOf]; omega
    · obtain rfl : k = l.length := by omega
      have HE := hide (apB_no (p := toR) HS.out)
      go_wp2
      go_ret
      exact ⟨ret_bool HE.out.symm, (by with_reducible repeat (first | exact Gr.refl _ | assumption | refine Gr.alloc ?_ _ | refine Gr.drewN ?_ _ | refine Gr.drew ?_ | refine Gr.setCell ?_ (by first | (dsimp only; omega) | (simp only [World.size_alloc]; omega) | (refine Gr.size ?_; (repeat (first | exact Gr.refl _ | assumption | refine Gr.alloc ?_ _ | refine Gr.drewN ?_ _ | refine Gr.drew ?_ | refine Gr.trans ?_ (by assumption))); done)) _ | refine Gr.trans ?_ (by assumption)))⟩
end RG
end Go.Proofs.YtddhaiaapomdjaaGreat
