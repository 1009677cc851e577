/-
  Nests: the reference's functions of rectangles.
  Nests: two lists of rectangles that keep their distance: the reference's function.
  Nests: the laws NestAllows and NestClears.
-/
import Derived.Test.YtocbcbfniiioaaaGreatNs2c
import Derived.Test.YtocbcbfniiioaaaGreatNs4c
import Derived.Test.YtocbcbfniiioaaaGreatGJc
import Derived.Test.YtocbcbfniiioaaaGreatGGc
set_option linter.unusedVariables false
set_option linter.unusedSimpArgs false
namespace Go.Proofs.YtocbcbfniiioaaaGreat
set_option linter.unusedVariables false
set_option linter.unusedSimpArgs false
open Go Go.ChangeShapes Go.WideShapes Go.ChangeAt Go.RowKit Go.Deep

namespace RG
theorem near_any (n : Int) (w : World) :
    Calls Tryz.prog 53 #[iv n] w fun e w' => e = .returned (.bool (wiB n (-1048576) 1048576)) ∧ w = w' := by
  go_enter Tryz.func53, Tryz.ntmps53
  go_wp2
  all_goals
    go_ret
    exact ⟨ret_bool (by simp [wiB]; omega), rfl⟩
theorem vrB_eq (x y u h : Int) : vrB x y u h = (wiB x (-1048576) 1048576 && wiB y (-1048576) 1048576 && wiB u 1 2097152 && wiB h 1 2097152 && wiB (x + u) (-1048576) 1048576 && wiB (y + h) (-1048576) 1048576) := by
  rw [Bool.eq_iff_iff]
  simp only [vrB, Bool.and_eq_true, vsB_iff, wiB_iff]
  omega
set_option maxHeartbeats 1000000 in
theorem Right_any (x y u h : Int) (w : World) :
    Calls Tryz.prog 74 #[rc x y u h] w fun e w' => e = .returned (.bool (vrB x y u h)) ∧ Gr w w' := by
  rw [vrB_eq]
  cases h1 : wiB x (-1048576) 1048576 with
  | false =>
    go_enter Tryz.func74, Tryz.ntmps74
    go_wp2_with (first | (go_at_call 53; refine (near_any _ _).mono ?_; rintro e w1 ⟨rfl, rfl⟩))
    go_ret
    exact ⟨ret_bool (by simp), (by with_reducible repeat (first | exact Gr.refl _ | assumption | refine Gr.alloc ?_ _ | refine Gr.drewN ?_ _ | refine Gr.drew ?_ | refine Gr.setCell ?_ (by first | (dsimp only; omega) | (simp only [World.size_alloc]; omega) | (refine Gr.size ?_; (repeat (first | exact Gr.refl _ | assumption | refine Gr.alloc ?_ _ | refine Gr.drewN ?_ _ | refine Gr.drew ?_ | refine Gr.trans ?_ (by assumption))); done)) _ | refine Gr.trans ?_ (by assumption)))⟩
  | true =>
    cases h2 : wiB y (-1048576) 1048576 with
    | false =>
      go_enter Tryz.func74, Tryz.ntmps74
      go_wp2_with (first | (go_at_call 53; refine (near_any _ _).mono ?_; rintro e w1 ⟨rfl, rfl⟩))
      go_ret
      exact ⟨ret_bool (by simp), (by with_reducible repeat (first | exact Gr.refl _ | assumption | refine Gr.alloc ?_ _ | refine Gr.drewN ?_ _ | refine Gr.drew ?_ | refine Gr.setCell ?_ (by first | (dsimp only; omega) | (simp only [World.size_alloc]; omega) | (refine Gr.size ?_; (repeat (first | exact Gr.refl _ | assumption | refine Gr.alloc ?_ _ | refine Gr.drewN ?_ _ | refine Gr.drew ?_ | refine Gr.trans ?_ (by assumption))); done)) _ | refine Gr.trans ?_ (by assumption)))⟩
    | true =>
      obtain ⟨a1, a2⟩ := wiB_iff.1 h1
      obtain ⟨b1, b2⟩ := wiB_iff.1 h2
      by_cases h3 : 1 ≤ u ∧ u ≤ 2097152 ∧ 1 ≤ h ∧ h ≤ 2097152
      · obtain ⟨c1, c2, d1, d2⟩ := h3
        have e3 : wiB u 1 2097152 = true := wiB_iff.2 ⟨c1, c2⟩
        have e4 : wiB h 1 2097152 = true := wiB_iff.2 ⟨d1, d2⟩
        have W1 : IntKind.i64.wrap (x + u) = x + u := IntWalk.i64_in _ (by omega)
        have W2 : IntKind.i64.wrap (y + h) = y + h := IntWalk.i64_in _ (by omega)
        rw [e3, e4]
        cases k1 : wiB (x + u) (-1048576) 1048576 <;>
        · go_enter Tryz.func74, Tryz.ntmps74
          go_wp2_with (first | (go_at_call 53; refine (near_any _ _).mono ?_; rintro e w1 ⟨rfl, rfl⟩))
          all_goals
            go_ret
            exact ⟨ret_bool (by simp [*]), (by with_reducible repeat (first | exact Gr.refl _ | assumption | refine Gr.alloc ?_ _ | refine Gr.drewN ?_ _ | refine Gr.drew ?_ | refine Gr.setCell ?_ (by first | (dsimp only; omega) | (simp only [World.size_alloc]; omega) | (refine Gr.size ?_; (repeat (first | exact Gr.refl _ | assumption | refine Gr.alloc ?_ _ | refine Gr.drewN ?_ _ | refine Gr.drew ?_ | refine Gr.trans ?_ (by assumption))); done)) _ | refine Gr.trans ?_ (by assumption)))⟩
      · have HE := hide (show (wiB u 1 2097152 && wiB h 1 2097152) = false by
          rw [← Bool.not_eq_true, Bool.and_eq_true, wiB_iff, wiB_iff]
          omega)
        go_enter Tryz.func74, Tryz.ntmps74
        go_wp2_with (first | (go_at_call 53; refine (near_any _ _).mono ?_; rintro e w1 ⟨rfl, rfl⟩))
        all_goals first
          | (exfalso; omega)
          | (go_ret; exact ⟨ret_bool (by
              have := HE.out
              cases p : wiB u 1 2097152 <;> cases q : wiB h 1 2097152 <;> simp_all), (by with_reducible repeat (first | exact Gr.refl _ | assumption | refine Gr.alloc ?_ _ | refine Gr.drewN ?_ _ | refine Gr.drew ?_ | refine Gr.setCell ?_ (by first | (dsimp only; omega) | (simp only [World.size_alloc]; omega) | (refine Gr.size ?_; (repeat (first | exact Gr.refl _ | assumption | refine Gr.alloc ?_ _ | refine Gr.drewN ?_ _ | refine Gr.drew ?_ | refine Gr.trans ?_ (by assumption))); done)) _ | refine Gr.trans ?_ (by assumption)))⟩)
set_option maxHeartbeats 2000000 in
theorem Overlaps_any (x y u h a b c d : Int) (w : World) :
    Calls Tryz.prog 59 #[rc x y u h, rc a b c d] w fun e w' => e = .returned (.bool (ovB x y u h a b c d)) ∧ Gr w w' := by
  cases h1 : vrB x y u h with
  | true =>
    cases h2 : vrB a b c d with
    | true =>
      obtain ⟨⟨p1, p2, p3, p4⟩, p5, p6⟩ := vr_lims h1
      obtain ⟨⟨q1, q2, q3, q4⟩, q5, q6⟩ := vr_lims h2
      obtain ⟨_, _⟩ := p1
      obtain ⟨_, _⟩ := p2
      obtain ⟨_, _⟩ := p3
      obtain ⟨_, _⟩ := p4
      obtain ⟨_, _⟩ := q1
      obtain ⟨_, _⟩ := q2
      obtain ⟨_, _⟩ := q3
      obtain ⟨_, _⟩ := q4
      have W1 : IntKind.i64.wrap (x + u) = x + u := IntWalk.i64_in _ (by omega)
      have W2 : IntKind.i64.wrap (y + h) = y + h := IntWalk.i64_in _ (by omega)
      have W3 : IntKind.i64.wrap (a + c) = a + c := IntWalk.i64_in _ (by omega)
      have W4 : IntKind.i64.wrap (b + d) = b + d := IntWalk.i64_in _ (by omega)
      have HE := hide (show ovB x y u h a b c d = (decide (x < a + c) && decide (a < x + u) && (decide (y < b + d) && decide (b < y + h))) by unfold ovB soB; rw [h1, h2]; rfl)
      go_enter Tryz.func59, Tryz.ntmps59
      go_wp2_with (first | (go_at_call 74; refine (Right_any _ _ _ _ _).mono ?_; rintro e w1 ⟨rfl, g1⟩; obtain ⟨X1, Y1, c1, f1⟩ := g1.use; have z1 := g1.size; (try simp only [World.size_alloc, World.size_setCell, World.heap_drewN, Nat.add_one_le_iff] at z1); (try have l0 : w.heap.size < w1.heap.size := by omega); (try have l1 : w.heap.size + 1 < w1.heap.size := by omega); (try have l2 : w.heap.size + 1 + 1 < w1.heap.size := by omega)))
      all_goals
        go_ret
        exact ⟨ret_bool (by rw [HE.out]; simp [*] <;> omega), (by with_reducible repeat (first | exact Gr.refl _ | assumption | refine Gr.alloc ?_ _ | refine Gr.drewN ?_ _ | refine Gr.drew ?_ | refine Gr.setCell ?_ (by first | (dsimp only; omega) | (simp only [World.size_alloc]; omega) | (refine Gr.size ?_; (repeat (first | exact Gr.refl _ | assumption | refine Gr.alloc ?_ _ | refine Gr.drewN ?_ _ | refine Gr.drew ?_ | refine Gr.trans ?_ (by assumption))); done)) _ | refine Gr.trans ?_ (by assumption)))⟩
    | false =>
      have HE := hide (show ovB x y u h a b c d = false by unfold ovB; rw [h2]; simp)
      go_enter Tryz.func59, Tryz.ntmps59
      go_wp2_with (first | (go_at_call 74; refine (Right_any _ _ _ _ _).mono ?_; rintro e w1 ⟨rfl, g1⟩; obtain ⟨X1, Y1, c1, f1⟩ := g1.use; have z1 := g1.size; (try simp only [World.size_alloc, World.size_setCell, World.heap_drewN, Nat.add_one_le_iff] at z1); (try have l0 : w.heap.size < w1.heap.size := by omega); (try have l1 : w.heap.size + 1 < w1.heap.size := by omega); (try have l2 : w.heap.size + 1 + 1 < w1.heap.size := by omega)))
      go_ret
      exact ⟨ret_bool HE.out.symm, (by with_reducible repeat (first | exact Gr.refl _ | assumption | refine Gr.alloc ?_ _ | refine Gr.drewN ?_ _ | refine Gr.drew ?_ | refine Gr.setCell ?_ (by first | (dsimp only; omega) | (simp only [World.size_alloc]; omega) | (refine Gr.size ?_; (repeat (first | exact Gr.refl _ | assumption | refine Gr.alloc ?_ _ | refine Gr.drewN ?_ _ | refine Gr.drew ?_ | refine Gr.trans ?_ (by assumption))); done)) _ | refine Gr.trans ?_ (by assumption)))⟩
  | false =>
    have HE := hide (show ovB x y u h a b c d = false by unfold ovB; rw [h1]; simp)
    go_enter Tryz.func59, Tryz.ntmps59
    go_wp2_with (first | (go_at_call 74; refine (Right_any _ _ _ _ _).mono ?_; rintro e w1 ⟨rfl, g1⟩; obtain ⟨X1, Y1, c1, f1⟩ := g1.use; have z1 := g1.size; (try simp only [World.size_alloc, World.size_setCell, World.heap_drewN, Nat.add_one_le_iff] at z1); (try have l0 : w.heap.size < w1.heap.size := by omega); (try have l1 : w.heap.size + 1 < w1.heap.size := by omega); (try have l2 : w.heap.size + 1 + 1 < w1.heap.size := by omega)))
    go_ret
    exact ⟨ret_bool HE.out.symm, (by with_reducible repeat (first | exact Gr.refl _ | assumption | refine Gr.alloc ?_ _ | refine Gr.drewN ?_ _ | refine Gr.drew ?_ | refine Gr.setCell ?_ (by first | (dsimp only; omega) | (simp only [World.size_alloc]; omega) | (refine Gr.size ?_; (repeat (first | exact Gr.refl _ | assumption | refine Gr.alloc ?_ _ | refine Gr.drewN ?_ _ | refine Gr.drew ?_ | refine Gr.trans ?_ (by assumption))); done)) _ | refine Gr.trans ?_ (by assumption)))⟩
set_option maxHeartbeats 2000000 in
theorem Apart_any (x y u h a b c d : Int) (w : World) :
    Calls Tryz.prog 48 #[rc x y u h, rc a b c d] w fun e w' => e = .returned (iv (diV x y u h a b c d)) ∧ Gr w w' := by
  cases h1 : vrB x y u h with
  | true =>
    cases h2 : vrB a b c d with
    | true =>
      obtain ⟨⟨p1, p2, p3, p4⟩, p5, p6⟩ := vr_lims h1
      obtain ⟨⟨q1, q2, q3, q4⟩, q5, q6⟩ := vr_lims h2
      obtain ⟨_, _⟩ := p1
      obtain ⟨_, _⟩ := p2
      obtain ⟨_, _⟩ := p3
      obtain ⟨_, _⟩ := p4
      obtain ⟨_, _⟩ := q1
      obtain ⟨_, _⟩ := q2
      obtain ⟨_, _⟩ := q3
      obtain ⟨_, _⟩ := q4
      have W1 : IntKind.i64.wrap (x - a) = x - a := IntWalk.i64_in _ (by omega)
      have W2 : IntKind.i64.wrap (x - a - c) = x - a - c := IntWalk.i64_in _ (by omega)
      have W3 : IntKind.i64.wrap (a - x) = a - x := IntWalk.i64_in _ (by omega)
      have W4 : IntKind.i64.wrap (a - x - u) = a - x - u := IntWalk.i64_in _ (by omega)
      have W5 : IntKind.i64.wrap (y - b) = y - b := IntWalk.i64_in _ (by omega)
      have W6 : IntKind.i64.wrap (y - b - d) = y - b - d := IntWalk.i64_in _ (by omega)
      have W7 : IntKind.i64.wrap (b - y) = b - y := IntWalk.i64_in _ (by omega)
      have W8 : IntKind.i64.wrap (b - y - h) = b - y - h := IntWalk.i64_in _ (by omega)
      have HE := hide (show diV x y u h a b c d = diM (poV (gaV x (x + u) a (a + c))) (poV (gaV y (y + h) b (b + d))) by unfold diV; rw [h1, h2]; rfl)
      go_enter Tryz.func48, Tryz.ntmps48
      go_wp2_with (first | (go_at_call 74; refine (Right_any _ _ _ _ _).mono ?_; rintro e w1 ⟨rfl, g1⟩; obtain ⟨X1, Y1, c1, f1⟩ := g1.use; have z1 := g1.size; (try simp only [World.size_alloc, World.size_setCell, World.heap_drewN, Nat.add_one_le_iff] at z1); (try have l0 : w.heap.size < w1.heap.size := by omega); (try have l1 : w.heap.size + 1 < w1.heap.size := by omega); (try have l2 : w.heap.size + 1 + 1 < w1.heap.size := by omega)))
      all_goals
        go_ret
        exact ⟨ret_iv (by rw [HE.out]; unfold diM poV gaV; repeat' split; all_goals omega), (by with_reducible repeat (first | exact Gr.refl _ | assumption | refine Gr.alloc ?_ _ | refine Gr.drewN ?_ _ | refine Gr.drew ?_ | refine Gr.setCell ?_ (by first | (dsimp only; omega) | (simp only [World.size_alloc]; omega) | (refine Gr.size ?_; (repeat (first | exact Gr.refl _ | assumption | refine Gr.alloc ?_ _ | refine Gr.drewN ?_ _ | refine Gr.drew ?_ | refine Gr.trans ?_ (by assumption))); done)) _ | refine Gr.trans ?_ (by assumption)))⟩
    | false =>
      have HE := hide (show diV x y u h a b c d = 0 by unfold diV; rw [h2]; simp)
      go_enter Tryz.func48, Tryz.ntmps48
      go_wp2_with (first | (go_at_call 74; refine (Right_any _ _ _ _ _).mono ?_; rintro e w1 ⟨rfl, g1⟩; obtain ⟨X1, Y1, c1, f1⟩ := g1.use; have z1 := g1.size; (try simp only [World.size_alloc, World.size_setCell, World.heap_drewN, Nat.add_one_le_iff] at z1); (try have l0 : w.heap.size < w1.heap.size := by omega); (try have l1 : w.heap.size + 1 < w1.heap.size := by omega); (try have l2 : w.heap.size + 1 + 1 < w1.heap.size := by omega)))
      go_ret
      exact ⟨ret_iv HE.out.symm, (by with_reducible repeat (first | exact Gr.refl _ | assumption | refine Gr.alloc ?_ _ | refine Gr.drewN ?_ _ | refine Gr.drew ?_ | refine Gr.setCell ?_ (by first | (dsimp only; omega) | (simp only [World.size_alloc]; omega) | (refine Gr.size ?_; (repeat (first | exact Gr.refl _ | assumption | refine Gr.alloc ?_ _ | refine Gr.drewN ?_ _ | refine Gr.drew ?_ | refine Gr.trans ?_ (by assumption))); done)) _ | refine Gr.trans ?_ (by assumption)))⟩
  | false =>
    have HE := hide (show diV x y u h a b c d = 0 by unfold diV; rw [h1]; simp)
    go_enter Tryz.func48, Tryz.ntmps48
    go_wp2_with (first | (go_at_call 74; refine (Right_any _ _ _ _ _).mono ?_; rintro e w1 ⟨rfl, g1⟩; obtain ⟨X1, Y1, c1, f1⟩ := g1.use; have z1 := g1.size; (try simp only [World.size_alloc, World.size_setCell, World.heap_drewN, Nat.add_one_le_iff] at z1); (try have l0 : w.heap.size < w1.heap.size := by omega); (try have l1 : w.heap.size + 1 < w1.heap.size := by omega); (try have l2 : w.heap.size + 1 + 1 < w1.heap.size := by omega)))
    go_ret
    exact ⟨ret_iv HE.out.symm, (by with_reducible repeat (first | exact Gr.refl _ | assumption | refine Gr.alloc ?_ _ | refine Gr.drewN ?_ _ | refine Gr.drew ?_ | refine Gr.setCell ?_ (by first | (dsimp only; omega) | (simp only [World.size_alloc]; omega) | (refine Gr.size ?_; (repeat (first | exact Gr.refl _ | assumption | refine Gr.alloc ?_ _ | refine Gr.drewN ?_ _ | refine Gr.drew ?_ | refine Gr.trans ?_ (by assumption))); done)) _ | refine Gr.trans ?_ (by assumption)))⟩
end RG
end Go.Proofs.YtocbcbfniiioaaaGreat
set_option linter.unusedVariables false
set_option linter.unusedSimpArgs false
namespace Go.Proofs.YtocbcbfniiioaaaGreat
set_option linter.unusedVariables false
set_option linter.unusedSimpArgs false
open Go Go.ChangeShapes Go.WideShapes Go.ChangeAt Go.RowKit Go.Deep

namespace RG
set_option maxHeartbeats 8000000 in
set_option maxRecDepth 100000 in
theorem rClear_any (A : Option Addr) (c : Nat) (l : List Rc) (B : Option Addr) (d : Nat) (m : List Rc) (t : St) (w : World) (hl : SlR w A c l) (hm : SlR w B d m) :
    Calls Tryz.prog 23 #[.slice A l.length c, .slice B m.length d, stvv t] w fun e w' => e = .returned (.bool (!npB (ucB t) l m)) ∧ Gr w w' := by
  have n1 := hl.cap
  have n2 := hl.capB
  have n3 := hm.cap
  have n4 := hm.capB
  have HL := hide hl
  have HM := hide hm
  clear hl hm
  go_enter Tryz.func23, Tryz.ntmps23
  go_wp2
  have g0 : Gr w (w.alloc (.cells #[iv t.g, iv t.m, .bool t.c] 28)) := Gr.alloc (Gr.refl _) _
  have HC := hide (fun (w' : World) (g : Gr (w.alloc (.cells #[iv t.g, iv t.m, .bool t.c] 28)) w') => box3 g)
  generalize w.alloc (.cells #[iv t.g, iv t.m, .bool t.c] 28) = w0 at *
  go_loopw [7] (fun i wr => ∃ k : Nat, k ≤ l.length ∧ i = iv k ∧ Gr w0 wr ∧ Hid (Nop (ucB t) l m k)) (fun i _ => l.length - (intOf i).toNat)
  case atStart => exact ⟨0, by omega, rfl, Gr.refl _, hide (fun j r h => absurd h (Nat.not_lt_zero _))⟩
  case round =>
    obtain ⟨k, hk, rfl, g, HS⟩ := hrel
    by_cases hkl : k < l.length
    · obtain ⟨r, hr⟩ : ∃ r, l[k]? = some r := ⟨_, List.getElem?_eq_getElem hkl⟩
      obtain ⟨b, o, hA, _⟩ := (HL.out.gr (g0.trans g)).at_ hr
      subst hA
      have HR := hide hr
      have hk0 : (0 : Int) ≤ (k : Int) := by omega
      have hk1 : (k : Int) < (l.length : Int) := by omega
      clear hr
      go_wp2
      obtain ⟨w1, rfl⟩ : ∃ x, x = wr := ⟨_, rfl⟩
      go_loopw [8] (fun i wr2 => ∃ j : Nat, j ≤ m.length ∧ i = iv j ∧ Gr w1 wr2 ∧ Hid (∀ (i : Nat) (s : Rc), i < j → m[i]? = some s → ucB t r s = false)) (fun i _ => m.length - (intOf i).toNat)
      case atStart => exact ⟨0, by omega, rfl, Gr.refl _, hide (fun j r h => absurd h (Nat.not_lt_zero j))⟩
      case round =>
        obtain ⟨j, hj, rfl, g2, HT⟩ := hrel
        by_cases hjl : j < m.length
        · obtain ⟨s, hs⟩ : ∃ s, m[j]? = some s := ⟨_, List.getElem?_eq_getElem hjl⟩
          obtain ⟨b2, o2, rfl, y0, y1, y2, y3⟩ := (HM.out.gr ((g0.trans g).trans g2)).at_ hs
          obtain ⟨b', o', hA, x0, x1, x2, x3⟩ := (HL.out.gr ((g0.trans g).trans g2)).at_ HR.out
          cases hA
          have hbl : b < wr.heap.size := cell_lt (by rw [x0]; rfl)
          have hbl2 : b2 < wr.heap.size := cell_lt (by rw [y0]; rfl)
          obtain ⟨hc, q0, q1, q2⟩ := HC.out wr (g.trans g2)
          have HSS := hide hs
          have hj0 : (0 : Int) ≤ (j : Int) := by omega
          have hj1 : (j : Int) < (m.length : Int) := by omega
          have HI := hide (fun w' => Overlaps_any r.x r.y r.w r.h s.x s.y s.w s.h w')
          rw [show ovB r.x r.y r.w r.h s.x s.y s.w s.h = ovQ r s from rfl] at HI
          have HD := hide (fun w' => Apart_any r.x r.y r.w r.h s.x s.y s.w s.h w')
          rw [show diV r.x r.y r.w r.h s.x s.y s.w s.h = diR r s from rfl] at HD
          have HU := hide (show ucB t r s = (ovQ r s || (decide (diR r s < t.g) && !(t.c && decide (diR r s = 0)))) from rfl)
          clear hs
          generalize diR r s = z at *
          cases hv : ovQ r s with
          | true =>
            rw [hv] at HU HI
            have HE := hide (npB_yes HR.out HSS.out (HU.out.trans (Bool.true_or _)))
            clear hv
            go_upto_region 7 with fail
            have GC := @GrW.cell
            refine wp_region_grw _ (by kernel_rfl) (by kernel_rfl) (Gr.refl _) ?_
            repeat (go_big_quiet_step ((first | (go_at_call 48; exact quiet_grw (HD.out _)))))
            refine wpQuiet_nil ?_
            intro wq hwq
            obtain ⟨gq, hwq'⟩ := hwq
            subst hwq'
            clear GC
            have gq1 := gq.gr
            generalize gq.w = wq at gq1 ⊢
            obtain ⟨Xq, Yq, cq, fq⟩ := gq1.use
            have sq := gq1.size
            (try simp only [World.size_alloc, World.size_setCell, World.heap_drewN] at sq)
            have l0 : w.heap.size < wq.heap.size := by omega
            have l1 : b < wq.heap.size := by omega
            have l2 : b2 < wq.heap.size := by omega
            go_upto_region 8 with fail
            have GC := @GrW.cell
            refine wp_region_grw _ (by kernel_rfl) (by kernel_rfl) (Gr.refl _) ?_
            repeat (go_big_quiet_step ((first | (go_at_call 59; exact quiet_grw (HI.out _)))))
            refine wpQuiet_nil ?_
            intro wq hwq
            obtain ⟨gq, hwq'⟩ := hwq
            subst hwq'
            clear GC
            have gq1 := gq.gr
            generalize gq.w = wq at gq1 ⊢
            obtain ⟨Xq, Yq, cq, fq⟩ := gq1.use
            have sq := gq1.size
            (try simp only [World.size_alloc, World.size_setCell, World.heap_drewN] at sq)
            go_wp2
            go_ret
            exact ⟨ret_bool (by rw [HE.out]; rfl), (by with_reducible repeat (first | exact Gr.refl _ | assumption | refine Gr.alloc ?_ _ | refine Gr.drewN ?_ _ | refine Gr.drew ?_ | refine Gr.setCell ?_ (by first | (dsimp only; omega) | (simp only [World.size_alloc]; omega) | (refine Gr.size ?_; (repeat (first | exact Gr.refl _ | assumption | refine Gr.alloc ?_ _ | refine Gr.drewN ?_ _ | refine Gr.drew ?_ | refine Gr.trans ?_ (by assumption))); done)) _ | refine Gr.trans ?_ (by assumption)))⟩
          | false =>
            rw [hv] at HU HI
            clear hv
            cases h1 : decide (z < t.g) with
            | false =>
              have he : ucB t r s = false := by rw [HU.out, h1]; rfl
              have HT' := hide (nop_more HT.out HSS.out he)
              clear he
              go_upto_region 7 with fail
              have GC := @GrW.cell
              refine wp_region_grw _ (by kernel_rfl) (by kernel_rfl) (Gr.refl _) ?_
              repeat (go_big_quiet_step ((first | (go_at_call 48; exact quiet_grw (HD.out _)))))
              refine wpQuiet_nil ?_
              intro wq hwq
              obtain ⟨gq, hwq'⟩ := hwq
              subst hwq'
              clear GC
              have gq1 := gq.gr
              generalize gq.w = wq at gq1 ⊢
              obtain ⟨Xq, Yq, cq, fq⟩ := gq1.use
              have sq := gq1.size
              (try simp only [World.size_alloc, World.size_setCell, World.heap_drewN] at sq)
              have l0 : w.heap.size < wq.heap.size := by omega
              have l1 : b < wq.heap.size := by omega
              have l2 : b2 < wq.heap.size := by omega
              go_upto_region 8 with fail
              have GC := @GrW.cell
              refine wp_region_grw _ (by kernel_rfl) (by kernel_rfl) (Gr.refl _) ?_
              repeat (go_big_quiet_step ((first | (go_at_call 59; exact quiet_grw (HI.out _)))))
              refine wpQuiet_nil ?_
              intro wq hwq
              obtain ⟨gq, hwq'⟩ := hwq
              subst hwq'
              clear GC
              have gq1 := gq.gr
              generalize gq.w = wq at gq1 ⊢
              obtain ⟨Xq, Yq, cq, fq⟩ := gq1.use
              have sq := gq1.size
              (try simp only [World.size_alloc, World.size_setCell, World.heap_drewN] at sq)
              go_wp2
              go_roundw
              case rel => exact ⟨j + 1, by omega, by go_num, (by with_reducible repeat (first | exact Gr.refl _ | assumption | refine Gr.alloc ?_ _ | refine Gr.drewN ?_ _ | refine Gr.drew ?_ | refine Gr.setCell ?_ (by first | (dsimp only; omega) | (simp only [World.size_alloc]; omega) | (refine Gr.size ?_; (repeat (first | exact Gr.refl _ | assumption | refine Gr.alloc ?_ _ | refine Gr.drewN ?_ _ | refine Gr.drew ?_ | refine Gr.trans ?_ (by assumption))); done)) _ | refine Gr.trans ?_ (by assumption))), HT'⟩
              case measure => simp only [intOf]; omega
            | true =>
              cases h2 : t.c with
              | false =>
                have he : ucB t r s = true := by rw [HU.out, h1, h2]; rfl
                have HE := hide (npB_yes HR.out HSS.out he)
                rw [h2] at q2
                clear he
                go_upto_region 7 with fail
                have GC := @GrW.cell
                refine wp_region_grw _ (by kernel_rfl) (by kernel_rfl) (Gr.refl _) ?_
                repeat (go_big_quiet_step ((first | (go_at_call 48; exact quiet_grw (HD.out _)))))
                refine wpQuiet_nil ?_
                intro wq hwq
                obtain ⟨gq, hwq'⟩ := hwq
                subst hwq'
                clear GC
                have gq1 := gq.gr
                generalize gq.w = wq at gq1 ⊢
                obtain ⟨Xq, Yq, cq, fq⟩ := gq1.use
                have sq := gq1.size
                (try simp only [World.size_alloc, World.size_setCell, World.heap_drewN] at sq)
                have l0 : w.heap.size < wq.heap.size := by omega
                have l1 : b < wq.heap.size := by omega
                have l2 : b2 < wq.heap.size := by omega
                go_upto_region 8 with fail
                have GC := @GrW.cell
                refine wp_region_grw _ (by kernel_rfl) (by kernel_rfl) (Gr.refl _) ?_
                repeat (go_big_quiet_step ((first | (go_at_call 59; exact quiet_grw (HI.out _)))))
                refine wpQuiet_nil ?_
                intro wq hwq
                obtain ⟨gq, hwq'⟩ := hwq
                subst hwq'
                clear GC
                have gq1 := gq.gr
                generalize gq.w = wq at gq1 ⊢
                obtain ⟨Xq, Yq, cq, fq⟩ := gq1.use
                have sq := gq1.size
                (try simp only [World.size_alloc, World.size_setCell, World.heap_drewN] at sq)
                go_wp2
                go_ret
                exact ⟨ret_bool (by rw [HE.out]; rfl), (by with_reducible repeat (first | exact Gr.refl _ | assumption | refine Gr.alloc ?_ _ | refine Gr.drewN ?_ _ | refine Gr.drew ?_ | refine Gr.setCell ?_ (by first | (dsimp only; omega) | (simp only [World.size_alloc]; omega) | (refine Gr.size ?_; (repeat (first | exact Gr.refl _ | assumption | refine Gr.alloc ?_ _ | refine Gr.drewN ?_ _ | refine Gr.drew ?_ | refine Gr.trans ?_ (by assumption))); done)) _ | refine Gr.trans ?_ (by assumption)))⟩
              | true =>
                rw [h2] at q2
                cases h3 : (z == 0) with
                | false =>
                  have he : ucB t r s = true := by rw [HU.out, h1, h2]; simp at h3; simp [h3]
                  have HE := hide (npB_yes HR.out HSS.out he)
                  clear he
                  go_upto_region 7 with fail
                  have GC := @GrW.cell
                  refine wp_region_grw _ (by kernel_rfl) (by kernel_rfl) (Gr.refl _) ?_
                  repeat (go_big_quiet_step ((first | (go_at_call 48; exact quiet_grw (HD.out _)))))
                  refine wpQuiet_nil ?_
                  intro wq hwq
                  obtain ⟨gq, hwq'⟩ := hwq
                  subst hwq'
                  clear GC
                  have gq1 := gq.gr
                  generalize gq.w = wq at gq1 ⊢
                  obtain ⟨Xq, Yq, cq, fq⟩ := gq1.use
                  have sq := gq1.size
                  (try simp only [World.size_alloc, World.size_setCell, World.heap_drewN] at sq)
                  have l0 : w.heap.size < wq.heap.size := by omega
                  have l1 : b < wq.heap.size := by omega
                  have l2 : b2 < wq.heap.size := by omega
                  go_upto_region 8 with fail
                  have GC := @GrW.cell
                  refine wp_region_grw _ (by kernel_rfl) (by kernel_rfl) (Gr.refl _) ?_
                  repeat (go_big_quiet_step ((first | (go_at_call 59; exact quiet_grw (HI.out _)))))
                  refine wpQuiet_nil ?_
                  intro wq hwq
                  obtain ⟨gq, hwq'⟩ := hwq
                  subst hwq'
                  clear GC
                  have gq1 := gq.gr
                  generalize gq.w = wq at gq1 ⊢
                  obtain ⟨Xq, Yq, cq, fq⟩ := gq1.use
                  have sq := gq1.size
                  (try simp only [World.size_alloc, World.size_setCell, World.heap_drewN] at sq)
                  go_wp2
                  go_ret
                  exact ⟨ret_bool (by rw [HE.out]; rfl), (by with_reducible repeat (first | exact Gr.refl _ | assumption | refine Gr.alloc ?_ _ | refine Gr.drewN ?_ _ | refine Gr.drew ?_ | refine Gr.setCell ?_ (by first | (dsimp only; omega) | (simp only [World.size_alloc]; omega) | (refine Gr.size ?_; (repeat (first | exact Gr.refl _ | assumption | refine Gr.alloc ?_ _ | refine Gr.drewN ?_ _ | refine Gr.drew ?_ | refine Gr.trans ?_ (by assumption))); done)) _ | refine Gr.trans ?_ (by assumption)))⟩
                | true =>
                  have he : ucB t r s = false := by rw [HU.out, h1, h2]; simp at h3; simp [h3]
                  have HT' := hide (nop_more HT.out HSS.out he)
                  clear he
                  go_upto_region 7 with fail
                  have GC := @GrW.cell
                  refine wp_region_grw _ (by kernel_rfl) (by kernel_rfl) (Gr.refl _) ?_
                  repeat (go_big_quiet_step ((first | (go_at_call 48; exact quiet_grw (HD.out _)))))
                  refine wpQuiet_nil ?_
                  intro wq hwq
                  obtain ⟨gq, hwq'⟩ := hwq
                  subst hwq'
                  clear GC
                  have gq1 := gq.gr
                  generalize gq.w = wq at gq1 ⊢
                  obtain ⟨Xq, Yq, cq, fq⟩ := gq1.use
                  have sq := gq1.size
                  (try simp only [World.size_alloc, World.size_setCell, World.heap_drewN] at sq)
                  have l0 : w.heap.size < wq.heap.size := by omega
                  have l1 : b < wq.heap.size := by omega
                  have l2 : b2 < wq.heap.size := by omega
                  go_upto_region 8 with fail
                  have GC := @GrW.cell
                  refine wp_region_grw _ (by kernel_rfl) (by kernel_rfl) (Gr.refl _) ?_
                  repeat (go_big_quiet_step ((first | (go_at_call 59; exact quiet_grw (HI.out _)))))
                  refine wpQuiet_nil ?_
                  intro wq hwq
                  obtain ⟨gq, hwq'⟩ := hwq
                  subst hwq'
                  clear GC
                  have gq1 := gq.gr
                  generalize gq.w = wq at gq1 ⊢
                  obtain ⟨Xq, Yq, cq, fq⟩ := gq1.use
                  have sq := gq1.size
                  (try simp only [World.size_alloc, World.size_setCell, World.heap_drewN] at sq)
                  go_wp2
                  go_roundw
                  case rel => exact ⟨j + 1, by omega, by go_num, (by with_reducible repeat (first | exact Gr.refl _ | assumption | refine Gr.alloc ?_ _ | refine Gr.drewN ?_ _ | refine Gr.drew ?_ | refine Gr.setCell ?_ (by first | (dsimp only; omega) | (simp only [World.size_alloc]; omega) | (refine Gr.size ?_; (repeat (first | exact Gr.refl _ | assumption | refine Gr.alloc ?_ _ | refine Gr.drewN ?_ _ | refine Gr.drew ?_ | refine Gr.trans ?_ (by assumption))); done)) _ | refine Gr.trans ?_ (by assumption))), HT'⟩
                  case measure => simp only [intOf]; omega
        · obtain rfl : j = m.length := by omega
          have HS' := hide (HS.out.step HR.out HT.out)
          go_wp2
          go_roundw
          case rel => exact ⟨k + 1, by omega, by go_num, (by with_reducible repeat (first | exact Gr.refl _ | assumption | refine Gr.alloc ?_ _ | refine Gr.drewN ?_ _ | refine Gr.drew ?_ | refine Gr.setCell ?_ (by first | (dsimp only; omega) | (simp only [World.size_alloc]; omega) | (refine Gr.size ?_; (repeat (first | exact Gr.refl _ | assumption | refine Gr.alloc ?_ _ | refine Gr.drewN ?_ _ | refine Gr.drew ?_ | refine Gr.trans ?_ (by assumption))); done)) _ | refine Gr.trans ?_ (by assumption))), HS'⟩
          case measure => simp only [intOf]; omega
    · obtain rfl : k = l.length := by omega
      have HE := hide (npB_no HS.out)
      go_wp2
      go_ret
      exact ⟨ret_bool (by rw [HE.out]; rfl), (by with_reducible repeat (first | exact Gr.refl _ | assumption | refine Gr.alloc ?_ _ | refine Gr.drewN ?_ _ | refine Gr.drew ?_ | refine Gr.setCell ?_ (by first | (dsimp only; omega) | (simp only [World.size_alloc]; omega) | (refine Gr.size ?_; (repeat (first | exact Gr.refl _ | assumption | refine Gr.alloc ?_ _ | refine Gr.drewN ?_ _ | refine Gr.drew ?_ | refine Gr.trans ?_ (by assumption))); done)) _ | refine Gr.trans ?_ (by assumption)))⟩
end RG
end Go.Proofs.YtocbcbfniiioaaaGreat
set_option linter.unusedVariables false
set_option linter.unusedSimpArgs false
namespace Go.Proofs.YtocbcbfniiioaaaGreat
set_option linter.unusedVariables false
set_option linter.unusedSimpArgs false
open Go Go.ChangeShapes Go.WideShapes Go.ChangeAt Go.RowKit Go.Deep

namespace RG
/-- clear goes both ways -/
theorem ovB_comm (x y w h x' y' w' h' : Int) : ovB x y w h x' y' w' h' = ovB x' y' w' h' x y w h := by
  unfold ovB
  rw [Bool.and_comm (vrB x y w h)]
  congr 1
  unfold soB
  rw [Bool.eq_iff_iff]
  simp only [Bool.and_eq_true, decide_eq_true_eq]
  omega
theorem gaV_comm (a b c d : Int) : gaV a b c d = gaV c d a b := by
  unfold gaV
  split <;> split <;> omega
theorem diV_comm (x y w h x' y' w' h' : Int) : diV x y w h x' y' w' h' = diV x' y' w' h' x y w h := by
  unfold diV
  rw [Bool.and_comm (vrB x y w h), gaV_comm x, gaV_comm y]
structure ClC (w0 : World) (A : Option Addr) (n c : Nat) (B : Option Addr) (k d : Nat) (g m : Int) (cm b : Bool) : Prop where
  use : ∀ w', Gr w0 w' → Calls Tryz.prog 22 #[.slice A n c, .slice B k d, stvv ⟨g, m, cm⟩] w' fun e w'' => e = .returned (.bool b) ∧ Gr w' w''
end RG
end Go.Proofs.YtocbcbfniiioaaaGreat
