/-
  Nests: two lists of rectangles that overlap, or that keep their distance: the code's functions.
-/
import Derived.Test.YtddhaiaapomdjaaGreatNs2r
set_option linter.unusedVariables false
set_option linter.unusedSimpArgs false
namespace Go.Proofs.YtddhaiaapomdjaaGreat
set_option linter.unusedVariables false
set_option linter.unusedSimpArgs false
open Go Go.ChangeShapes Go.WideShapes Go.ChangeAt Go.RowKit Go.Deep

namespace RG
/-- no pair of the two lists is such -/
def Nop (p : Rc → Rc → Bool) (l m : List Rc) (k : Nat) : Prop := ∀ (i : Nat) (r : Rc), i < k → l[i]? = some r → ∀ (j : Nat) (s : Rc), m[j]? = some s → p r s = false
def npB (p : Rc → Rc → Bool) (l m : List Rc) : Bool := l.any fun r => m.any fun s => p r s
theorem npB_yes {p : Rc → Rc → Bool} {l m : List Rc} {r s : Rc} {i j : Nat} (h : l[i]? = some r) (k : m[j]? = some s) (q : p r s = true) : npB p l m = true := by
  unfold npB
  rw [List.any_eq_true]
  refine ⟨r, List.mem_of_getElem? h, ?_⟩
  rw [List.any_eq_true]
  exact ⟨s, List.mem_of_getElem? k, q⟩
theorem npB_no {p : Rc → Rc → Bool} {l m : List Rc} (h : Nop p l m l.length) : npB p l m = false := by
  unfold npB
  rw [List.any_eq_false]
  intro r hr
  obtain ⟨i, hi⟩ := List.mem_iff_getElem?.1 hr
  rw [List.any_eq_true]
  rintro ⟨s, hs, q⟩
  obtain ⟨j, hj⟩ := List.mem_iff_getElem?.1 hs
  rw [h i r (List.getElem?_eq_some_iff.1 hi).1 hi j s hj] at q
  cases q
theorem Nop.step {p : Rc → Rc → Bool} {l m : List Rc} {k : Nat} {r : Rc} (h : Nop p l m k) (hr : l[k]? = some r) (q : ∀ (j : Nat) (s : Rc), j < m.length → m[j]? = some s → p r s = false) : Nop p l m (k + 1) := by
  intro i x hi hx j s hs
  rcases Nat.lt_or_ge i k with c | c
  · exact h i x c hx j s hs
  · obtain rfl : i = k := by omega
    rw [hr] at hx
    obtain rfl := Option.some.inj hx
    exact q j s (List.getElem?_eq_some_iff.1 hs).1 hs
theorem nop_more {p : Rc → Rc → Bool} {m : List Rc} {k : Nat} {r s : Rc} (h : ∀ (j : Nat) (s : Rc), j < k → m[j]? = some s → p r s = false) (hs : m[k]? = some s) (q : p r s = false) : ∀ (j : Nat) (s : Rc), j < k + 1 → m[j]? = some s → p r s = false := by
  intro j x hj hx
  rcases Nat.lt_or_ge j k with c | c
  · exact h j x c hx
  · obtain rfl : j = k := by omega
    rw [hs] at hx
    obtain rfl := Option.some.inj hx
    exact q
/-- two rectangles are not clear of one another -/
def ucB (t : St) (r s : Rc) : Bool := ovQ r s || (decide (diR r s < t.g) && !(t.c && decide (diR r s = 0)))
set_option maxHeartbeats 4000000 in
set_option maxRecDepth 100000 in
theorem anyOverlap_any (A : Option Addr) (c : Nat) (l : List Rc) (B : Option Addr) (d : Nat) (m : List Rc) (w : World) (hl : SlR w A c l) (hm : SlR w B d m) :
    Calls Tryz.prog 43 #[.slice A l.length c, .slice B m.length d] w fun e w' => e = .returned (.bool (npB ovQ l m)) ∧ Gr w w' := by
  have n1 := hl.cap
  have n2 := hl.capB
  have n3 := hm.cap
  have n4 := hm.capB
  have HL := hide hl
  have HM := hide hm
  clear hl hm
  go_enter Tryz.func43, Tryz.ntmps43
  go_wp2
  go_loopw [11] (fun i wr => ∃ k : Nat, k ≤ l.length ∧ i = iv k ∧ Gr w wr ∧ Hid (Nop ovQ l m k)) (fun i _ => l.length - (intOf i).toNat)
  case atStart => exact ⟨0, by omega, rfl, Gr.refl _, hide (fun j r h => absurd h (Nat.not_lt_zero _))⟩
  case round =>
    obtain ⟨k, hk, rfl, g, HS⟩ := hrel
    by_cases hkl : k < l.length
    · obtain ⟨r, hr⟩ : ∃ r, l[k]? = some r := ⟨_, List.getElem?_eq_getElem hkl⟩
      obtain ⟨b, o, rfl, x0, x1, x2, x3⟩ := (HL.out.gr g).at_ hr
      have hbl : b < wr.heap.size := cell_lt (by rw [x0]; rfl)
      have HR := hide hr
      have hk0 : (0 : Int) ≤ (k : Int) := by omega
      have hk1 : (k : Int) < (l.length : Int) := by omega
      clear hr
      go_wp2
      have g1 : Gr wr (wr.alloc (.cells #[iv r.x, iv r.y, iv r.w, iv r.h] 70)) := Gr.alloc (Gr.refl _) _
      have HB := hide (fun (w' : World) (g : Gr (wr.alloc (.cells #[iv r.x, iv r.y, iv r.w, iv r.h] 70)) w') => box4 g)
      generalize wr.alloc (.cells #[iv r.x, iv r.y, iv r.w, iv r.h] 70) = w1 at *
      go_loopw [17] (fun i wr2 => ∃ j : Nat, j ≤ m.length ∧ i = iv j ∧ Gr w1 wr2 ∧ Hid (∀ (i : Nat) (s : Rc), i < j → m[i]? = some s → ovQ r s = false)) (fun i _ => m.length - (intOf i).toNat)
      case atStart => exact ⟨0, by omega, rfl, Gr.refl _, hide (fun j r h => absurd h (Nat.not_lt_zero j))⟩
      case round =>
        obtain ⟨j, hj, rfl, g2, HT⟩ := hrel
        by_cases hjl : j < m.length
        · obtain ⟨s, hs⟩ : ∃ s, m[j]? = some s := ⟨_, List.getElem?_eq_getElem hjl⟩
          obtain ⟨b2, o2, rfl, y0, y1, y2, y3⟩ := (HM.out.gr ((g.trans g1).trans g2)).at_ hs
          have hbl2 : b2 < wr.heap.size := cell_lt (by rw [y0]; rfl)
          obtain ⟨hb, p0, p1, p2, p3⟩ := HB.out wr g2
          have HSS := hide hs
          have hj0 : (0 : Int) ≤ (j : Int) := by omega
          have hj1 : (j : Int) < (m.length : Int) := by omega
          have HI := hide (fun w' => Overlap_any r.x r.y r.w r.h s.x s.y s.w s.h w')
          rw [show ovB r.x r.y r.w r.h s.x s.y s.w s.h = ovQ r s from rfl] at HI
          clear hs
          cases hv : ovQ r s with
          | true =>
            have HE := hide (npB_yes HR.out HSS.out hv)
            rw [hv] at HI
            clear hv
            go_wp2_with (first | (go_at_call 46; refine (HI.out _).mono ?_; rintro e w1 ⟨rfl, g1⟩; obtain ⟨X1, Y1, c1, f1⟩ := g1.use))
            go_ret
            exact ⟨ret_bool HE.out.symm, (by with_reducible repeat (first | exact Gr.refl _ | assumption | refine Gr.alloc ?_ _ | refine Gr.drewN ?_ _ | refine Gr.drew ?_ | refine Gr.setCell ?_ (by first | (dsimp only; omega) | (simp only [World.size_alloc]; omega) | (refine Gr.size ?_; (repeat (first | exact Gr.refl _ | assumption | refine Gr.alloc ?_ _ | refine Gr.drewN ?_ _ | refine Gr.drew ?_ | refine Gr.trans ?_ (by assumption))); done)) _ | refine Gr.trans ?_ (by assumption)))⟩
          | false =>
            have HT' := hide (nop_more HT.out HSS.out hv)
            rw [hv] at HI
            clear hv
            go_wp2_with (first | (go_at_call 46; refine (HI.out _).mono ?_; rintro e w1 ⟨rfl, g1⟩; obtain ⟨X1, Y1, c1, f1⟩ := g1.use))
            go_roundw
            case rel => exact ⟨j + 1, by omega, by go_num, (by with_reducible repeat (first | exact Gr.refl _ | assumption | refine Gr.alloc ?_ _ | refine Gr.drewN ?_ _ | refine Gr.drew ?_ | refine Gr.setCell ?_ (by first | (dsimp only; omega) | (simp only [World.size_alloc]; omega) | (refine Gr.size ?_; (repeat (first | exact Gr.refl _ | assumption | refine Gr.alloc ?_ _ | refine Gr.drewN ?_ _ | refine Gr.drew ?_ | refine Gr.trans ?_ (by assumption))); done)) _ | refine Gr.trans ?_ (by assumption))), HT'⟩
            case measure => simp only [intOf]; omega
        · obtain rfl : j = m.length := by omega
          have HS' := hide (HS.out.step HR.out HT.out)
          go_wp2
          go_roundw
          case rel => exact ⟨k + 1, by omega, by go_num, (by with_reducible repeat (first | exact Gr.refl _ | assumption | refine Gr.alloc ?_ _ | refine Gr.drewN ?_ _ | refine Gr.drew ?_ | refine Gr.setCell ?_ (by first | (dsimp only; omega) | (simp only [World.size_alloc]; omega) | (refine Gr.size ?_; (repeat (first | exact Gr.refl _ | assumption | refine Gr.alloc ?_ _ | refine Gr.drewN ?_ _ | refine Gr.drew ?_ | refine Gr.trans ?_ (by assumption))); done)) _ | refine Gr.trans ?_ (by assumption))), HS'⟩
          case measure => simp only [intOf]; omega
    · obtain rfl : k = l.length := by omega
      have HE := hide (npB_no HS.out)
      go_wp2
      go_ret
      exact ⟨ret_bool HE.out.symm, (by with_reducible repeat (first | exact Gr.refl _ | assumption | refine Gr.alloc ?_ _ | refine Gr.drewN ?_ _ | refine Gr.drew ?_ | refine Gr.setCell ?_ (by first | (dsimp only; omega) | (simp only [World.size_alloc]; omega) | (refine Gr.size ?_; (repeat (first | exact Gr.refl _ | assumption | refine Gr.alloc ?_ _ | refine Gr.drewN ?_ _ | refine Gr.drew ?_ | refine Gr.trans ?_ (by assumption))); done)) _ | refine Gr.trans ?_ (by assumption)))⟩
set_option maxHeartbeats 4000000 in
set_option maxRecDepth 100000 in
theorem Clear_any (A : Option Addr) (c : Nat) (l : List Rc) (B : Option Addr) (d : Nat) (m : List Rc) (t : St) (w : World) (hl : SlR w A c l) (hm : SlR w B d m) :
    Calls Tryz.prog 123 #[.slice A l.length c, .slice B m.length d, stvv t] w fun e w' => e = .returned (.bool (!npB (ucB t) l m)) ∧ Gr w w' := by
  have n1 := hl.cap
  have n2 := hl.capB
  have n3 := hm.cap
  have n4 := hm.capB
  have HL := hide hl
  have HM := hide hm
  clear hl hm
  go_enter Tryz.func123, Tryz.ntmps123
  go_wp2
  have g0 : Gr w (w.alloc (.cells #[iv t.g, iv t.m, .bool t.c] 29)) := Gr.alloc (Gr.refl _) _
  have HC := hide (fun (w' : World) (g : Gr (w.alloc (.cells #[iv t.g, iv t.m, .bool t.c] 29)) w') => box3 g)
  generalize w.alloc (.cells #[iv t.g, iv t.m, .bool t.c] 29) = w0 at *
  go_loopw [14] (fun i wr => ∃ k : Nat, k ≤ l.length ∧ i = iv k ∧ Gr w0 wr ∧ Hid (Nop (ucB t) l m k)) (fun i _ => l.length - (intOf i).toNat)
  case atStart => exact ⟨0, by omega, rfl, Gr.refl _, hide (fun j r h => absurd h (Nat.not_lt_zero _))⟩
  case round =>
    obtain ⟨k, hk, rfl, g, HS⟩ := hrel
    by_cases hkl : k < l.length
    · obtain ⟨r, hr⟩ : ∃ r, l[k]? = some r := ⟨_, List.getElem?_eq_getElem hkl⟩
      obtain ⟨b, o, rfl, x0, x1, x2, x3⟩ := (HL.out.gr (g0.trans g)).at_ hr
      have hbl : b < wr.heap.size := cell_lt (by rw [x0]; rfl)
      have HR := hide hr
      have hk0 : (0 : Int) ≤ (k : Int) := by omega
      have hk1 : (k : Int) < (l.length : Int) := by omega
      clear hr
      go_wp2
      have g1 : Gr wr (wr.alloc (.cells #[iv r.x, iv r.y, iv r.w, iv r.h] 70)) := Gr.alloc (Gr.refl _) _
      have HB := hide (fun (w' : World) (g : Gr (wr.alloc (.cells #[iv r.x, iv r.y, iv r.w, iv r.h] 70)) w') => box4 g)
      generalize wr.alloc (.cells #[iv r.x, iv r.y, iv r.w, iv r.h] 70) = w1 at *
      go_loopw [20] (fun i wr2 => ∃ j : Nat, j ≤ m.length ∧ i = iv j ∧ Gr w1 wr2 ∧ Hid (∀ (i : Nat) (s : Rc), i < j → m[i]? = some s → ucB t r s = false)) (fun i _ => m.length - (intOf i).toNat)
      case atStart => exact ⟨0, by omega, rfl, Gr.refl _, hide (fun j r h => absurd h (Nat.not_lt_zero j))⟩
      case round =>
        obtain ⟨j, hj, rfl, g2, HT⟩ := hrel
        by_cases hjl : j < m.length
        · obtain ⟨s, hs⟩ : ∃ s, m[j]? = some s := ⟨_, List.getElem?_eq_getElem hjl⟩
          obtain ⟨b2, o2, rfl, y0, y1, y2, y3⟩ := (HM.out.gr (((g0.trans g).trans g1).trans g2)).at_ hs
          have hbl2 : b2 < wr.heap.size := cell_lt (by rw [y0]; rfl)
          obtain ⟨hb, p0, p1, p2, p3⟩ := HB.out wr g2
          obtain ⟨hc, q0, q1, q2⟩ := HC.out wr ((g.trans g1).trans g2)
          have HSS := hide hs
          have hj0 : (0 : Int) ≤ (j : Int) := by omega
          have hj1 : (j : Int) < (m.length : Int) := by omega
          have HI := hide (fun w' => Overlap_any r.x r.y r.w r.h s.x s.y s.w s.h w')
          rw [show ovB r.x r.y r.w r.h s.x s.y s.w s.h = ovQ r s from rfl] at HI
          have HD := hide (fun w' => Distance_any r.x r.y r.w r.h s.x s.y s.w s.h w')
          rw [show diV r.x r.y r.w r.h s.x s.y s.w s.h = diR r s from rfl] at HD
          have HU := hide (show ucB t r s = (ovQ r s || (decide (diR r s < t.g) && !(t.c && decide (diR r s = 0)))) from rfl)
          clear hs
          generalize diR r s = z at *
          cases hv : ovQ r s with
          | true =>
            rw [hv] at HU HI
            have HE := hide (npB_yes HR.out HSS.out (HU.out.trans (Bool.true_or _)))
            clear hv
            go_wp2_with (first | (go_at_call 46; refine (HI.out _).mono ?_; rintro e w1 ⟨rfl, g1⟩; obtain ⟨X1, Y1, c1, f1⟩ := g1.use) | (go_at_call 104; refine (HD.out _).mono ?_; rintro e w1 ⟨rfl, g1⟩; obtain ⟨X1, Y1, c1, f1⟩ := g1.use))
            go_ret
            exact ⟨ret_bool (by rw [HE.out]; rfl), (by with_reducible repeat (first | exact Gr.refl _ | assumption | refine Gr.alloc ?_ _ | refine Gr.drewN ?_ _ | refine Gr.drew ?_ | refine Gr.setCell ?_ (by first | (dsimp only; omega) | (simp only [World.size_alloc]; omega) | (refine Gr.size ?_; (repeat (first | exact Gr.refl _ | assumption | refine Gr.alloc ?_ _ | refine Gr.drewN ?_ _ | refine Gr.drew ?_ | refine Gr.trans ?_ (by assumption))); done)) _ | refine Gr.trans ?_ (by assumption)))⟩
          | false =>
            rw [hv] at HU HI
            clear hv
            cases he : ucB t r s with
            | true =>
              have HE := hide (npB_yes HR.out HSS.out he)
              rw [he] at HU
              clear he
              go_wp2_with (first | (go_at_call 46; refine (HI.out _).mono ?_; rintro e w1 ⟨rfl, g1⟩; obtain ⟨X1, Y1, c1, f1⟩ := g1.use) | (go_at_call 104; refine (HD.out _).mono ?_; rintro e w1 ⟨rfl, g1⟩; obtain ⟨X1, Y1, c1, f1⟩ := g1.use))
              all_goals first
                | (go_ret; exact ⟨ret_bool (by rw [HE.out]; rfl), (by with_reducible repeat (first | exact Gr.refl _ | assumption | refine Gr.alloc ?_ _ | refine Gr.drewN ?_ _ | refine Gr.drew ?_ | refine Gr.setCell ?_ (by first | (dsimp only; omega) | (simp only [World.size_alloc]; omega) | (refine Gr.size ?_; (repeat (first | exact Gr.refl _ | assumption | refine Gr.alloc ?_ _ | refine Gr.drewN ?_ _ | refine Gr.drew ?_ | refine Gr.trans ?_ (by assumption))); done)) _ | refine Gr.trans ?_ (by assumption)))⟩)
                | (exfalso; have HX := HU.out; revert HX; simp [*]; try first | omega | (rename_i hz; revert hz; simp))
                | trace_state
            | false =>
              have HT' := hide (nop_more HT.out HSS.out he)
              rw [he] at HU
              clear he
              go_wp2_with (first | (go_at_call 46; refine (HI.out _).mono ?_; rintro e w1 ⟨rfl, g1⟩; obtain ⟨X1, Y1, c1, f1⟩ := g1.use) | (go_at_call 104; refine (HD.out _).mono ?_; rintro e w1 ⟨rfl, g1⟩; obtain ⟨X1, Y1, c1, f1⟩ := g1.use))
              all_goals first
                | (go_roundw
                   case rel => exact ⟨j + 1, by omega, by go_num, (by with_reducible repeat (first | exact Gr.refl _ | assumption | refine Gr.alloc ?_ _ | refine Gr.drewN ?_ _ | refine Gr.drew ?_ | refine Gr.setCell ?_ (by first | (dsimp only; omega) | (simp only [World.size_alloc]; omega) | (refine Gr.size ?_; (repeat (first | exact Gr.refl _ | assumption | refine Gr.alloc ?_ _ | refine Gr.drewN ?_ _ | refine Gr.drew ?_ | refine Gr.trans ?_ (by assumption))); done)) _ | refine Gr.trans ?_ (by assumption))), HT'⟩
                   case measure => simp only [intOf]; omega)
                | (exfalso; have HX := HU.out; revert HX; simp [*]; try first | omega | (rename_i hz; revert hz; simp))
                | trace_state
        · obtain rfl : j = m.length := by omega
          have HS' := hide (HS.out.step HR.out HT.out)
          go_wp2
          go_roundw
          case rel => exact ⟨k + 1, by omega, by go_num, (by with_reducible repeat (first | exact Gr.refl _ | assumption | refine Gr.alloc ?_ _ | refine Gr.drewN ?_ _ | refine Gr.drew ?_ | refine Gr.setCell ?_ (by first | (dsimp only; omega) | (simp only [World.size_alloc]; omega) | (refine Gr.size ?_; (repeat (first | exact Gr.refl _ | assumption | refine Gr.alloc ?_ _ | refine Gr.drewN ?_ _ | refine Gr.drew ?_ | refine Gr.trans ?_ (by assumption))); done)) _ | refine Gr.trans ?_ (by assumption))), HS'⟩
          case measure => simp only [intOf]; omega
    · obtain rfl : k = l.length := by omega
      have HE := hide (npB_no HS.out)
      go_wp2
      go_ret
      exact ⟨ret_bool (by rw [HE.out]; rfl), (by with_reducible repeat (first | exact Gr.refl _ | assumption | refine Gr.alloc ?_ _ | refine Gr.drewN ?_ _ | refine Gr.drew ?_ | refine Gr.setCell ?_ (by first | (dsimp only; omega) | (simp only [World.size_alloc]; omega) | (refine Gr.size ?_; (repeat (first | exact Gr.refl _ | assumption | refine Gr.alloc ?_ _ | refine Gr.drewN ?_ _ | refine Gr.drew ?_ | refine Gr.trans ?_ (by assumption))); done)) _ | refine Gr.trans ?_ (by assumption)))⟩
end RG
end Go.Proofs.YtddhaiaapomdjaaGreat
