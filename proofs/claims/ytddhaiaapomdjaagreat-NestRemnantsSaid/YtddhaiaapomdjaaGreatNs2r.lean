/-
  Nests: what the small functions return: ranges, lists that overlap or lie inside.
-/
import Derived.Test.YtddhaiaapomdjaaGreatNs1r
set_option linter.unusedVariables false
set_option linter.unusedSimpArgs false
namespace Go.Proofs.YtddhaiaapomdjaaGreat
set_option linter.unusedVariables false
set_option linter.unusedSimpArgs false
open Go Go.ChangeShapes Go.WideShapes Go.ChangeAt Go.RowKit Go.Deep

namespace RG
theorem nwithin_any (n lo hi : Int) (w : World) :
    Calls Tryz.prog 60 #[iv n, iv lo, iv hi] w fun e w' => e = .returned (.bool (wiB n lo hi)) ∧ w = w' := by
  go_enter Tryz.func60, Tryz.ntmps60
  go_wp2
  all_goals
    go_ret
    exact ⟨ret_bool (by simp [wiB]; omega), rfl⟩
def knB (g n : Int) : Bool := wiB g 1 60 && wiB n 0 2
theorem validKind_any (g n : Int) (w : World) :
    Calls Tryz.prog 59 #[iv g, iv n] w fun e w' => e = .returned (.bool (knB g n)) ∧ w = w' := by
  have HE := hide (show knB g n = (wiB g 1 60 && wiB n 0 2) from rfl)
  cases h : wiB g 1 60 with
  | true =>
    cases k : wiB n 0 2 with
    | true =>
      rw [h, k] at HE
      go_enter Tryz.func59, Tryz.ntmps59
      go_wp2_with (first | (go_at_call 60; refine (nwithin_any _ _ _ _).mono ?_; rintro e w1 ⟨rfl, rfl⟩))
      go_ret
      exact ⟨ret_bool (by rw [HE.out]; simp [*]), rfl⟩
    | false =>
      rw [h, k] at HE
      go_enter Tryz.func59, Tryz.ntmps59
      go_wp2_with (first | (go_at_call 60; refine (nwithin_any _ _ _ _).mono ?_; rintro e w1 ⟨rfl, rfl⟩))
      go_ret
      exact ⟨ret_bool (by rw [HE.out]; simp [*]), rfl⟩
  | false =>
    rw [h] at HE
    go_enter Tryz.func59, Tryz.ntmps59
    go_wp2_with (first | (go_at_call 60; refine (nwithin_any _ _ _ _).mono ?_; rintro e w1 ⟨rfl, rfl⟩))
    go_ret
    exact ⟨ret_bool (by rw [HE.out]; simp [*]), rfl⟩
/-- settings -/
structure St where
  g : Int
  m : Int
  c : Bool
abbrev stvv (s : St) : Value := .agg #[iv s.g, iv s.m, .bool s.c]
def aiB (l : List Rc) (s : Rc) : Bool := l.all fun r => isR r s
set_option maxHeartbeats 1000000 in
set_option maxRecDepth 100000 in
theorem allInside_any (A : Option Addr) (c : Nat) (l : List Rc) (s : Rc) (w : World) (hl : SlR w A c l) :
    Calls Tryz.prog 89 #[.slice A l.length c, rcv s] w fun e w' => e = .returned (.bool (aiB l s)) ∧ Gr w w' := by
  have n1 := hl.cap
  have n2 := hl.capB
  have HL := hide hl
  clear hl
  go_enter Tryz.func89, Tryz.ntmps89
  go_wp2
  have g0 : Gr w (w.alloc (.cells #[iv s.x, iv s.y, iv s.w, iv s.h] 70)) := Gr.alloc (Gr.refl _) _
  have HB := hide (fun (w' : World) (g : Gr (w.alloc (.cells #[iv s.x, iv s.y, iv s.w, iv s.h] 70)) w') => box4 g)
  generalize w.alloc (.cells #[iv s.x, iv s.y, iv s.w, iv s.h] 70) = w1 at *
  go_loopw [9] (fun i wr => ∃ k : Nat, k ≤ l.length ∧ i = iv k ∧ Gr w1 wr ∧ Hid (∀ j r, j < k → l[j]? = some r → isR r s = true)) (fun i _ => l.length - (intOf i).toNat)
  case atStart => exact ⟨0, by omega, rfl, Gr.refl _, hide (fun j r h => absurd h (Nat.not_lt_zero j))⟩
  case round =>
    obtain ⟨k, hk, rfl, g, HS⟩ := hrel
    by_cases hkl : k < l.length
    · obtain ⟨r, hr⟩ : ∃ r, l[k]? = some r := ⟨_, List.getElem?_eq_getElem hkl⟩
      obtain ⟨b, o, rfl, x0, x1, x2, x3⟩ := (HL.out.gr (g0.trans g)).at_ hr
      obtain ⟨hb, p0, p1, p2, p3⟩ := HB.out wr g
      have hbl : b < wr.heap.size := cell_lt (by rw [x0]; rfl)
      have HR := hide hr
      have hk0 : (0 : Int) ≤ (k : Int) := by omega
      have hk1 : (k : Int) < (l.length : Int) := by omega
      have HI := hide (fun w' => Inside_any r.x r.y r.w r.h s.x s.y s.w s.h w')
      rw [show isB r.x r.y r.w r.h s.x s.y s.w s.h = isR r s from rfl] at HI
      clear hr
      cases hv : isR r s with
      | true =>
        have HS' := hide (show ∀ j r, j < k + 1 → l[j]? = some r → isR r s = true by
          intro j q hj hq
          rcases Nat.lt_or_ge j k with h | h
          · exact HS.out j q h hq
          · obtain rfl : j = k := by omega
            rw [HR.out] at hq
            obtain rfl := Option.some.inj hq
            exact hv)
        rw [hv] at HI
        clear hv
        go_wp2_with (first | (go_at_call 133; refine (HI.out _).mono ?_; rintro e w1 ⟨rfl, g1⟩; obtain ⟨X1, Y1, c1, f1⟩ := g1.use))
        go_roundw
        case rel => exact ⟨k + 1, by omega, by go_num, (by with_reducible repeat (first | exact Gr.refl _ | assumption | refine Gr.alloc ?_ _ | refine Gr.drewN ?_ _ | refine Gr.drew ?_ | refine Gr.setCell ?_ (by first | (dsimp only; omega) | (simp only [World.size_alloc]; omega) | (refine Gr.size ?_; (repeat (first | exact Gr.refl _ | assumption | refine Gr.alloc ?_ _ | refine Gr.drewN ?_ _ | refine Gr.drew ?_ | refine Gr.trans ?_ (by assumption))); done)) _ | refine Gr.trans ?_ (by assumption))), HS'⟩
        case measure => simp only [intOf]; omega
      | false =>
        have HE := hide (show aiB l s = false by
          unfold aiB
          rw [List.all_eq_false]
          exact ⟨r, List.mem_of_getElem? HR.out, by simp [hv]⟩)
        rw [hv] at HI
        clear hv
        go_wp2_with (first | (go_at_call 133; refine (HI.out _).mono ?_; rintro e w1 ⟨rfl, g1⟩; obtain ⟨X1, Y1, c1, f1⟩ := g1.use))
        go_ret
        exact ⟨ret_bool HE.out.symm, (by with_reducible repeat (first | exact Gr.refl _ | assumption | refine Gr.alloc ?_ _ | refine Gr.drewN ?_ _ | refine Gr.drew ?_ | refine Gr.setCell ?_ (by first | (dsimp only; omega) | (simp only [World.size_alloc]; omega) | (refine Gr.size ?_; (repeat (first | exact Gr.refl _ | assumption | refine Gr.alloc ?_ _ | refine Gr.drewN ?_ _ | refine Gr.drew ?_ | refine Gr.trans ?_ (by assumption))); done)) _ | refine Gr.trans ?_ (by assumption)))⟩
    · obtain rfl : k = l.length := by omega
      have HE := hide (show aiB l s = true by
        unfold aiB
        rw [List.all_eq_true]
        intro r hr
        obtain ⟨j, hj⟩ := List.mem_iff_getElem?.1 hr
        exact HS.out j r (List.getElem?_eq_some_iff.1 hj).1 hj)
      go_wp2
      go_ret
      exact ⟨ret_bool HE.out.symm, (by with_reducible repeat (first | exact Gr.refl _ | assumption | refine Gr.alloc ?_ _ | refine Gr.drewN ?_ _ | refine Gr.drew ?_ | refine Gr.setCell ?_ (by first | (dsimp only; omega) | (simp only [World.size_alloc]; omega) | (refine Gr.size ?_; (repeat (first | exact Gr.refl _ | assumption | refine Gr.alloc ?_ _ | refine Gr.drewN ?_ _ | refine Gr.drew ?_ | refine Gr.trans ?_ (by assumption))); done)) _ | refine Gr.trans ?_ (by assumption)))⟩
end RG
end Go.Proofs.YtddhaiaapomdjaaGreat
