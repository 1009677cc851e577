/-
  Nests: a rectangle that lies strictly inside of one of a list.
-/
import Derived.Test.YtddhaiaapomdjaaGreatNs9r
set_option linter.unusedVariables false
set_option linter.unusedSimpArgs false
namespace Go.Proofs.YtddhaiaapomdjaaGreat
set_option linter.unusedVariables false
set_option linter.unusedSimpArgs false
open Go Go.ChangeShapes Go.WideShapes Go.ChangeAt Go.RowKit Go.Deep

namespace RG
/-- r is inside of s, at least 1 away from each side -/
def stB (r s : Rc) : Bool := isR r ⟨s.x + 1, s.y + 1, s.w - 2, s.h - 2⟩
set_option maxHeartbeats 2000000 in
set_option maxRecDepth 100000 in
theorem isStrictlyInside_any (r : Rc) (A : Option Addr) (c : Nat) (l : List Rc) (w : World) (hl : SlR w A c l) (hv : ∀ s ∈ l, vrR s = true) :
    Calls Tryz.prog 103 #[rcv r, .slice A l.length c] w fun e w' => e = .returned (.bool (l.any (stB r))) ∧ Gr w w' := by
  have n1 := hl.cap
  have n2 := hl.capB
  have HL := hide hl
  have HV := hide hv
  clear hl hv
  go_enter Tryz.func103, Tryz.ntmps103
  go_wp2
  have g0 : Gr w (w.alloc (.cells #[iv r.x, iv r.y, iv r.w, iv r.h] 70)) := Gr.alloc (Gr.refl _) _
  have HB := hide (fun (w' : World) (g : Gr (w.alloc (.cells #[iv r.x, iv r.y, iv r.w, iv r.h] 70)) w') => box4 g)
  generalize w.alloc (.cells #[iv r.x, iv r.y, iv r.w, iv r.h] 70) = w1 at *
  go_loopw [9] (fun i wr => ∃ k : Nat, k ≤ l.length ∧ i = iv k ∧ Gr w1 wr ∧ Hid (∀ (j : Nat) (s : Rc), j < k → l[j]? = some s → stB r s = false)) (fun i _ => l.length - (intOf i).toNat)
  case atStart => exact ⟨0, by omega, rfl, Gr.refl _, hide (fun j r h => absurd h (Nat.not_lt_zero j))⟩
  case round =>
    obtain ⟨k, hk, rfl, g, HS⟩ := hrel
    by_cases hkl : k < l.length
    · obtain ⟨s, hs⟩ : ∃ s, l[k]? = some s := ⟨_, List.getElem?_eq_getElem hkl⟩
      obtain ⟨b, o, rfl, x0, x1, x2, x3⟩ := (HL.out.gr (g0.trans g)).at_ hs
      obtain ⟨hb, p0, p1, p2, p3⟩ := HB.out wr g
      obtain ⟨⟨⟨a1, a2⟩, ⟨a3, a4⟩, ⟨a5, a6⟩, a7, a8⟩, _⟩ := vr_lims (HV.out s (List.mem_of_getElem? hs))
      have W1 : IntKind.i64.wrap (s.x + 1) = s.x + 1 := IntWalk.i64_in _ (by omega)
      have W2 : IntKind.i64.wrap (s.y + 1) = s.y + 1 := IntWalk.i64_in _ (by omega)
      have W3 : IntKind.i64.wrap (s.w - 2) = s.w - 2 := IntWalk.i64_in _ (by omega)
      have W4 : IntKind.i64.wrap (s.h - 2) = s.h - 2 := IntWalk.i64_in _ (by omega)
      clear a1 a2 a3 a4 a5 a6 a7 a8
      have hbl : b < wr.heap.size := cell_lt (by rw [x0]; rfl)
      have HR := hide hs
      have hk0 : (0 : Int) ≤ (k : Int) := by omega
      have hk1 : (k : Int) < (l.length : Int) := by omega
      have HI := hide (fun w' => Inside_any r.x r.y r.w r.h (s.x + 1) (s.y + 1) (s.w - 2) (s.h - 2) w')
      rw [show isB r.x r.y r.w r.h (s.x + 1) (s.y + 1) (s.w - 2) (s.h - 2) = stB r s from rfl] at HI
      clear hs
      cases hv : stB r s with
      | false =>
        have HS' := hide (show ∀ (j : Nat) (s : Rc), j < k + 1 → l[j]? = some s → stB r s = false by
          intro j q hj hq
          rcases Nat.lt_or_ge j k with h | h
          · exact HS.out j q h hq
          · obtain rfl : j = k := by omega
            rw [HR.out] at hq
            obtain rfl := Option.some.inj hq
            exact hv)
        rw [hv] at HI
        clear hv
        go_wp2_with (first | (go_at_call 133; refine (HI.out _).mono ?_; rintro e w1 ⟨rfl, g1⟩; obtain ⟨X1, Y1, c1, f1⟩ := g1.use))
        go_roundw
        case rel => exact ⟨k + 1, by omega, by go_num, (by with_reducible repeat (first | exact Gr.refl _ | assumption | refine Gr.alloc ?_ _ | refine Gr.drewN ?_ _ | refine Gr.drew ?_ | refine Gr.setCell ?_ (by first | (dsimp only; omega) | (simp only [World.size_alloc]; omega) | (refine Gr.size ?_; (repeat (first | exact Gr.refl _ | assumption | refine Gr.alloc ?_ _ | refine Gr.drewN ?_ _ | refine Gr.drew ?_ | refine Gr.trans ?_ (by assumption))); done)) _ | refine Gr.trans ?_ (by assumption))), HS'⟩
        case measure => simp only [intOf]; omega
      | true =>
        have HE := hide (show l.any (stB r) = true by
          rw [List.any_eq_true]
          exact ⟨s, List.mem_of_getElem? HR.out, hv⟩)
        rw [hv] at HI
        clear hv
        go_wp2_with (first | (go_at_call 133; refine (HI.out _).mono ?_; rintro e w1 ⟨rfl, g1⟩; obtain ⟨X1, Y1, c1, f1⟩ := g1.use))
        go_ret
        exact ⟨ret_bool HE.out.symm, (by with_reducible repeat (first | exact Gr.refl _ | assumption | refine Gr.alloc ?_ _ | refine Gr.drewN ?_ _ | refine Gr.drew ?_ | refine Gr.setCell ?_ (by first | (dsimp only; omega) | (simp only [World.size_alloc]; omega) | (refine Gr.size ?_; (repeat (first | exact Gr.refl _ | assumption | refine Gr.alloc ?_ _ | refine Gr.drewN ?_ _ | refine Gr.drew ?_ | refine Gr.trans ?_ (by assumption))); done)) _ | refine Gr.trans ?_ (by assumption)))⟩
    · obtain rfl : k = l.length := by omega
      have HE := hide (show l.any (stB r) = false by
        rw [List.any_eq_false]
        intro s hs
        obtain ⟨j, hj⟩ := List.mem_iff_getElem?.1 hs
        rw [HS.out j s (List.getElem?_eq_some_iff.1 hj).1 hj]
        decide)
      go_wp2
      go_ret
      exact ⟨ret_bool HE.out.symm, (by with_reducible repeat (first | exact Gr.refl _ | assumption | refine Gr.alloc ?_ _ | refine Gr.drewN ?_ _ | refine Gr.drew ?_ | refine Gr.setCell ?_ (by first | (dsimp only; omega) | (simp only [World.size_alloc]; omega) | (refine Gr.size ?_; (repeat (first | exact Gr.refl _ | assumption | refine Gr.alloc ?_ _ | refine Gr.drewN ?_ _ | refine Gr.drew ?_ | refine Gr.trans ?_ (by assumption))); done)) _ | refine Gr.trans ?_ (by assumption)))⟩
end RG
end Go.Proofs.YtddhaiaapomdjaaGreat
