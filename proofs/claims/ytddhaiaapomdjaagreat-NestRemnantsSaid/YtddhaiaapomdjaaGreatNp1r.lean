/-
  Nests: lists of rectangles that are valid; where a list begins; what two rectangles have in common.
-/
import Derived.Test.YtddhaiaapomdjaaGreatNs11r
import Derived.RegionTactic
import Derived.ChangeAlike
set_option linter.unusedVariables false
set_option linter.unusedSimpArgs false
namespace Go.Proofs.YtddhaiaapomdjaaGreat
set_option linter.unusedVariables false
set_option linter.unusedSimpArgs false
open Go Go.ChangeShapes Go.WideShapes Go.ChangeAt Go.RowKit Go.Deep

namespace RG
def vaB (l : List Rc) : Bool := l.all vrR
def vasB (L : List RS) : Bool := L.all fun x => vaB x.l
theorem vaB_no {l : List Rc} {k : Nat} {r : Rc} (h : l[k]? = some r) (q : vrR r = false) : vaB l = false := by
  unfold vaB
  rw [List.all_eq_false]
  exact ⟨r, List.mem_of_getElem? h, by simp [q]⟩
theorem vaB_yes {l : List Rc} (h : ∀ (j : Nat) (r : Rc), j < l.length → l[j]? = some r → vrR r = true) : vaB l = true := by
  unfold vaB
  rw [List.all_eq_true]
  intro r hr
  obtain ⟨j, hj⟩ := List.mem_iff_getElem?.1 hr
  exact h j r (List.getElem?_eq_some_iff.1 hj).1 hj
set_option maxHeartbeats 4000000 in
set_option maxRecDepth 100000 in
theorem validRects_any (A : Option Addr) (c : Nat) (L : List RS) (w : World) (hl : SlRR w A c L) :
    Calls Tryz.prog 61 #[.slice A L.length c] w fun e w' => e = .returned (.bool (vasB L)) ∧ Gr w w' := by
  have n1 := hl.cap
  have n2 := hl.capB
  have HL := hide hl
  clear hl
  go_enter Tryz.func61, Tryz.ntmps61
  go_wp2
  go_loopw [9] (fun i wr => ∃ k : Nat, k ≤ L.length ∧ i = iv k ∧ Gr w wr ∧ Hid (∀ (j : Nat) (x : RS), j < k → L[j]? = some x → vaB x.l = true)) (fun i _ => L.length - (intOf i).toNat)
  case atStart => exact ⟨0, by omega, rfl, Gr.refl _, hide (fun j r h => absurd h (Nat.not_lt_zero _))⟩
  case round =>
    obtain ⟨k, hk, rfl, g, HS⟩ := hrel
    by_cases hkl : k < L.length
    · obtain ⟨XA, xc, xl, hx⟩ : ∃ XA xc xl, L[k]? = some ⟨XA, xc, xl⟩ := ⟨_, _, _, List.getElem?_eq_getElem hkl⟩
      obtain ⟨b, o, hA, x0, hm⟩ := (HL.out.gr g).at_ hx
      subst hA
      dsimp only at x0 hm
      have hbl : b < wr.heap.size := cell_lt (by rw [x0]; rfl)
      have HM := hide (fun w' (g' : Gr wr w') => hm.gr g')
      have n3 := hm.cap
      have n4 := hm.capB
      have HR := hide hx
      have hk0 : (0 : Int) ≤ (k : Int) := by omega
      have hk1 : (k : Int) < (L.length : Int) := by omega
      clear hx hm
      go_wp2
      obtain ⟨w1, hw1⟩ : ∃ w1, w1 = wr := ⟨_, rfl⟩
      rw [← hw1] at g x0 HM ⊢
      clear hw1
      go_loopw [15] (fun i wr2 => ∃ j : Nat, j ≤ xl.length ∧ i = iv j ∧ Gr w1 wr2 ∧ Hid (∀ (i : Nat) (s : Rc), i < j → xl[i]? = some s → vrR s = true)) (fun i _ => xl.length - (intOf i).toNat)
      case atStart => exact ⟨0, by omega, rfl, Gr.refl _, hide (fun j r h => absurd h (Nat.not_lt_zero j))⟩
      case round =>
        obtain ⟨j, hj, rfl, g2, HT⟩ := hrel
        clear x0
        by_cases hjl : j < xl.length
        · obtain ⟨s, hs⟩ : ∃ s, xl[j]? = some s := ⟨_, List.getElem?_eq_getElem hjl⟩
          obtain ⟨b2, o2, rfl, y0, y1, y2, y3⟩ := (HM.out _ g2).at_ hs
          have hbl2 : b2 < wr.heap.size := cell_lt (by rw [y0]; rfl)
          have HSS := hide hs
          have hj0 : (0 : Int) ≤ (j : Int) := by omega
          have hj1 : (j : Int) < (xl.length : Int) := by omega
          have HI := hide (fun w' => show Calls Tryz.prog 90 #[rcv s] w' fun e w2 => e = .returned (.bool (vrR s)) ∧ Gr w' w2 from ValidRect_any s.x s.y s.w s.h w')
          clear hs
          cases hv : vrR s with
          | false =>
            have HE := hide (show vasB L = false by
              unfold vasB
              rw [List.all_eq_false]
              exact ⟨_, List.mem_of_getElem? HR.out, by rw [vaB_no HSS.out hv]; decide⟩)
            rw [hv] at HI
            clear hv
            go_wp2_with (first | (go_at_call 90; refine (HI.out _).mono ?_; rintro e w1 ⟨rfl, g1⟩; obtain ⟨X1, Y1, c1, f1⟩ := g1.use))
            go_ret
            exact ⟨ret_bool HE.out.symm, (by with_reducible repeat (first | exact Gr.refl _ | assumption | refine Gr.alloc ?_ _ | refine Gr.drewN ?_ _ | refine Gr.drew ?_ | refine Gr.setCell ?_ (by first | (dsimp only; omega) | (simp only [World.size_alloc]; omega) | (refine Gr.size ?_; (repeat (first | exact Gr.refl _ | assumption | refine Gr.alloc ?_ _ | refine Gr.drewN ?_ _ | refine Gr.drew ?_ | refine Gr.trans ?_ (by assumption))); done)) _ | refine Gr.trans ?_ (by assumption)))⟩
          | true =>
            have HT' := hide (show ∀ (i : Nat) (s : Rc), i < j + 1 → xl[i]? = some s → vrR s = true by
              intro i q hi hq
              rcases Nat.lt_or_ge i j with h | h
              · exact HT.out i q h hq
              · obtain rfl : i = j := by omega
                rw [HSS.out] at hq
                obtain rfl := Option.some.inj hq
                exact hv)
            rw [hv] at HI
            clear hv
            go_wp2_with (first | (go_at_call 90; refine (HI.out _).mono ?_; rintro e w1 ⟨rfl, g1⟩; obtain ⟨X1, Y1, c1, f1⟩ := g1.use))
            go_roundw
            case rel => exact ⟨j + 1, by omega, by go_num, (by with_reducible repeat (first | exact Gr.refl _ | assumption | refine Gr.alloc ?_ _ | refine Gr.drewN ?_ _ | refine Gr.drew ?_ | refine Gr.setCell ?_ (by first | (dsimp only; omega) | (simp only [World.size_alloc]; omega) | (refine Gr.size ?_; (repeat (first | exact Gr.refl _ | assumption | refine Gr.alloc ?_ _ | refine Gr.drewN ?_ _ | refine Gr.drew ?_ | refine Gr.trans ?_ (by assumption))); done)) _ | refine Gr.trans ?_ (by assumption))), HT'⟩
            case measure => simp only [intOf]; omega
        · obtain rfl : j = xl.length := by omega
          have HS' := hide (show ∀ (j : Nat) (q : RS), j < k + 1 → L[j]? = some q → vaB q.l = true by
            intro i q hi hq
            rcases Nat.lt_or_ge i k with h | h
            · exact HS.out i q h hq
            · obtain rfl : i = k := by omega
              rw [HR.out] at hq
              obtain rfl := Option.some.inj hq
              exact vaB_yes (fun i s h => HT.out i s h))
          go_wp2
          go_roundw
          case rel => exact ⟨k + 1, by omega, by go_num, (by with_reducible repeat (first | exact Gr.refl _ | assumption | refine Gr.alloc ?_ _ | refine Gr.drewN ?_ _ | refine Gr.drew ?_ | refine Gr.setCell ?_ (by first | (dsimp only; omega) | (simp only [World.size_alloc]; omega) | (refine Gr.size ?_; (repeat (first | exact Gr.refl _ | assumption | refine Gr.alloc ?_ _ | refine Gr.drewN ?_ _ | refine Gr.drew ?_ | refine Gr.trans ?_ (by assumption))); done)) _ | refine Gr.trans ?_ (by assumption))), HS'⟩
          case measure => simp only [intOf]; omega
    · obtain rfl : k = L.length := by omega
      have HE := hide (show vasB L = true by
        unfold vasB
        rw [List.all_eq_true]
        intro x hx
        obtain ⟨j, hj⟩ := List.mem_iff_getElem?.1 hx
        exact HS.out j x (List.getElem?_eq_some_iff.1 hj).1 hj)
      go_wp2
      go_ret
      exact ⟨ret_bool HE.out.symm, (by with_reducible repeat (first | exact Gr.refl _ | assumption | refine Gr.alloc ?_ _ | refine Gr.drewN ?_ _ | refine Gr.drew ?_ | refine Gr.setCell ?_ (by first | (dsimp only; omega) | (simp only [World.size_alloc]; omega) | (refine Gr.size ?_; (repeat (first | exact Gr.refl _ | assumption | refine Gr.alloc ?_ _ | refine Gr.drewN ?_ _ | refine Gr.drew ?_ | refine Gr.trans ?_ (by assumption))); done)) _ | refine Gr.trans ?_ (by assumption)))⟩
theorem iv_eq {a b : Int} (h : a = b) : (Value.int .i64 a) = .int .i64 b := by rw [h]
/-- the least X and the least Y -/
def mnV (l : List Rc) (z : Int × Int) : Int × Int := l.foldl (fun a r => (min a.1 r.x, min a.2 r.y)) z
theorem mnV_take {l : List Rc} {k : Nat} {r : Rc} (h : l[k]? = some r) (z : Int × Int) : mnV (l.take (k + 1)) z = (min (mnV (l.take k) z).1 r.x, min (mnV (l.take k) z).2 r.y) := by
  unfold mnV
  rw [take_at h, List.foldl_append]
  rfl
theorem mnV_le : ∀ {l : List Rc} {z : Int × Int} {x y : Int}, (x ≤ (mnV l z).1 ↔ x ≤ z.1 ∧ ∀ r ∈ l, x ≤ r.x) ∧ (y ≤ (mnV l z).2 ↔ y ≤ z.2 ∧ ∀ r ∈ l, y ≤ r.y)
  | [], z, x, y => by simp [mnV]
  | r :: l, z, x, y => by
    have ih := mnV_le (l := l) (z := (min z.1 r.x, min z.2 r.y)) (x := x) (y := y)
    have e : mnV (r :: l) z = mnV l (min z.1 r.x, min z.2 r.y) := rfl
    rw [e, ih.1, ih.2]
    simp only [List.mem_cons, forall_eq_or_imp]
    constructor
    · constructor
      · rintro ⟨h1, h2⟩
        exact ⟨by omega, by omega, h2⟩
      · rintro ⟨h1, h2, h3⟩
        exact ⟨by omega, h3⟩
    · constructor
      · rintro ⟨h1, h2⟩
        exact ⟨by omega, by omega, h2⟩
      · rintro ⟨h1, h2, h3⟩
        exact ⟨by omega, h3⟩
/-- a list begins at 0, 0 -/
def boB (l : List Rc) : Bool := match l with
  | [] => false
  | r :: q => (mnV (r :: q) (r.x, r.y)).1 == 0 && (mnV (r :: q) (r.x, r.y)).2 == 0
theorem boB_at {l : List Rc} {r : Rc} (h : l[0]? = some r) : boB l = ((mnV l (r.x, r.y)).1 == 0 && (mnV l (r.x, r.y)).2 == 0) := by
  cases l with
  | nil => simp at h
  | cons a q =>
    obtain rfl : a = r := by simpa using h
    rfl
set_option maxHeartbeats 2000000 in
set_option maxRecDepth 100000 in
theorem beginsAtOrigin_any (A : Option Addr) (c : Nat) (l : List Rc) (w : World) (hl : SlR w A c l) (h0 : 0 < l.length) :
    Calls Tryz.prog 62 #[.slice A l.length c] w fun e w' => e = .returned (.bool (boB l)) ∧ Gr w w' := by
  obtain ⟨r0, hr0⟩ : ∃ r, l[0]? = some r := ⟨_, List.getElem?_eq_getElem h0⟩
  have HQ := hide (boB_at hr0)
  have HN := hide (fun (k : Nat) (r : Rc) (h : l[k]? = some r) => mnV_take h (r0.x, r0.y))
  have HW := hide (show mnV l (r0.x, r0.y) = mnV (l.take l.length) (r0.x, r0.y) by rw [List.take_length])
  have HL := hide hl
  have n1 := hl.cap
  have n2 := hl.capB
  obtain ⟨b0, o0, hA0, y0, y1, y2, y3⟩ := hl.at_ hr0
  rw [Nat.zero_mul, Nat.add_zero] at y0 y1 y2 y3
  have hlt : b0 < w.heap.size := cell_lt (by rw [y0]; rfl)
  have h00 : (0 : Int) < (l.length : Int) := by omega
  subst hA0
  clear hl hr0 y2 y3
  go_enter Tryz.func62, Tryz.ntmps62
  go_wp2_with fail
  go_region
  go_wp2_with fail
  obtain ⟨z0, hz0⟩ : ∃ z, (r0.x, r0.y) = z := ⟨_, rfl⟩
  rw [hz0] at HN HW HQ
  have HZ0 := hide hz0
  clear hz0
  go_loopw [3, 4, 17] (fun xv yv i wr => ∃ k : Nat, k ≤ l.length ∧ i = iv k ∧ xv = iv (mnV (l.take k) z0).1 ∧ yv = iv (mnV (l.take k) z0).2 ∧ Gr w wr) (fun _ _ i _ => l.length - (intOf i).toNat)
  case atStart => exact ⟨0, by omega, rfl, by rw [List.take_zero, ← HZ0.out]; rfl, by rw [List.take_zero, ← HZ0.out]; rfl, (by with_reducible repeat (first | exact Gr.refl _ | assumption | refine Gr.alloc ?_ _ | refine Gr.drewN ?_ _ | refine Gr.drew ?_ | refine Gr.setCell ?_ (by first | (dsimp only; omega) | (simp only [World.size_alloc]; omega) | (refine Gr.size ?_; (repeat (first | exact Gr.refl _ | assumption | refine Gr.alloc ?_ _ | refine Gr.drewN ?_ _ | refine Gr.drew ?_ | refine Gr.trans ?_ (by assumption))); done)) _ | refine Gr.trans ?_ (by assumption)))⟩
  case round =>
    obtain ⟨k, hk, rfl, rfl, rfl, g⟩ := hrel
    by_cases hkl : k < l.length
    · obtain ⟨r, hr⟩ : ∃ r, l[k]? = some r := ⟨_, List.getElem?_eq_getElem hkl⟩
      obtain ⟨b9, o9, hA, x0, x1, x2, x3⟩ := (HL.out.gr g).at_ hr
      injection hA with hA
      injection hA with e1 e2
      subst e1 e2
      have hk0 : (0 : Int) ≤ (k : Int) := by omega
      have hk1 : (k : Int) < (l.length : Int) := by omega
      have HNk := hide (HN.out k r hr)
      generalize mnV (l.take k) z0 = z at *
      clear hr
      have hbk : b0 < wr.heap.size := by have := g.size; omega
      obtain ⟨z1, z2⟩ := z
      dsimp only at HNk ⊢
      go_wp2
      go_region
      go_wp2
      go_roundw
      case rel => exact ⟨k + 1, by omega, by go_num, by rw [HNk.out]; exact iv_eq (by dsimp only; omega), by rw [HNk.out]; exact iv_eq (by dsimp only; omega), (by with_reducible repeat (first | exact Gr.refl _ | assumption | refine Gr.alloc ?_ _ | refine Gr.drewN ?_ _ | refine Gr.drew ?_ | refine Gr.setCell ?_ (by first | (dsimp only; omega) | (simp only [World.size_alloc]; omega) | (refine Gr.size ?_; (repeat (first | exact Gr.refl _ | assumption | refine Gr.alloc ?_ _ | refine Gr.drewN ?_ _ | refine Gr.drew ?_ | refine Gr.trans ?_ (by assumption))); done)) _ | refine Gr.trans ?_ (by assumption)))⟩
      case measure => simp only [intOf]; omega
    · obtain rfl : k = l.length := by omega
      have hk1 : ¬ ((l.length : Int) < (l.length : Int)) := by omega
      rw [← HW.out]
      generalize mnV l z0 = z at *
      obtain ⟨z1, z2⟩ := z
      dsimp only at HQ ⊢
      by_cases q1 : z1 = 0
      · by_cases q2 : z2 = 0
        · subst q1 q2
          go_wp2
          go_ret
          exact ⟨ret_bool (by rw [HQ.out]; rfl), (by with_reducible repeat (first | exact Gr.refl _ | assumption | refine Gr.alloc ?_ _ | refine Gr.drewN ?_ _ | refine Gr.drew ?_ | refine Gr.setCell ?_ (by first | (dsimp only; omega) | (simp only [World.size_alloc]; omega) | (refine Gr.size ?_; (repeat (first | exact Gr.refl _ | assumption | refine Gr.alloc ?_ _ | refine Gr.drewN ?_ _ | refine Gr.drew ?_ | refine Gr.trans ?_ (by assumption))); done)) _ | refine Gr.trans ?_ (by assumption)))⟩
        · have q2' : (z2 == 0) = false := by simpa using q2
          clear q2
          subst q1
          go_wp2
          go_ret
          exact ⟨ret_bool (by rw [HQ.out]; simp [q2']), (by with_reducible repeat (first | exact Gr.refl _ | assumption | refine Gr.alloc ?_ _ | refine Gr.drewN ?_ _ | refine Gr.drew ?_ | refine Gr.setCell ?_ (by first | (dsimp only; omega) | (simp only [World.size_alloc]; omega) | (refine Gr.size ?_; (repeat (first | exact Gr.refl _ | assumption | refine Gr.alloc ?_ _ | refine Gr.drewN ?_ _ | refine Gr.drew ?_ | refine Gr.trans ?_ (by assumption))); done)) _ | refine Gr.trans ?_ (by assumption)))⟩
      · have q1' : (z1 == 0) = false := by simpa using q1
        clear q1
        go_wp2
        go_ret
        exact ⟨ret_bool (by rw [HQ.out]; simp [q1']), (by with_reducible repeat (first | exact Gr.refl _ | assumption | refine Gr.alloc ?_ _ | refine Gr.drewN ?_ _ | refine Gr.drew ?_ | refine Gr.setCell ?_ (by first | (dsimp only; omega) | (simp only [World.size_alloc]; omega) | (refine Gr.size ?_; (repeat (first | exact Gr.refl _ | assumption | refine Gr.alloc ?_ _ | refine Gr.drewN ?_ _ | refine Gr.drew ?_ | refine Gr.trans ?_ (by assumption))); done)) _ | refine Gr.trans ?_ (by assumption)))⟩
end RG
end Go.Proofs.YtddhaiaapomdjaaGreat
