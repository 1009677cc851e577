/-
  Bend tables: the search for an angle, in the code.
-/
import Derived.Test.YtpmomgfepkegnaaTab2
set_option linter.unusedVariables false
set_option linter.unusedSimpArgs false
namespace Go.Proofs.Ytpmomgfepkegnaa
set_option linter.unusedVariables false
set_option linter.unusedSimpArgs false
open Go Go.ChangeShapes Go.WideShapes Go.ChangeAt Go.RowKit Go.Deep

theorem ret_ib {a b : Int} {x y : Bool} (h : a = b) (k : x = y) : Ending.returned (.tuple #[iv a, .bool x]) = .returned (.tuple #[iv b, .bool y]) := by rw [h, k]
/-- whether a table has the angle -/
def fdB (l : List En) (a : Int) : Bool := match l[cutI l a]? with
  | some y => y.an == a
  | none => false
theorem cmF_any (x : En) (a : Int) (w : World) :
    Calls Try.prog 95 #[env x, iv a] w fun e w' => e = .returned (iv (cmI x.an a)) ∧ Gr w w' := by
  go_enter Try.func95, Try.ntmps95
  go_wp2_with (first | (go_at_call 96; refine (cmpC_any _ _ _).mono ?_; rintro e w1 ⟨rfl, rfl⟩))
  go_ret
  exact ⟨rfl, (by repeat (first | with_reducible exact Gr.refl _ | with_reducible assumption | with_reducible refine Gr.alloc ?_ _ | with_reducible refine Gr.drewN ?_ _ | with_reducible refine Gr.drew ?_ | with_reducible refine Gr.setCell ?_ (by first | (dsimp only; omega) | (simp only [World.size_alloc]; omega) | (with_reducible refine Gr.size ?_; (repeat (first | with_reducible exact Gr.refl _ | with_reducible assumption | with_reducible refine Gr.alloc ?_ _ | with_reducible refine Gr.drewN ?_ _ | with_reducible refine Gr.drew ?_ | with_reducible refine Gr.trans ?_ (by with_reducible assumption))); done)) _ | with_reducible refine Gr.trans ?_ (by with_reducible assumption)))⟩
theorem half_nat (x y : Nat) (h : x + y ≤ 2000) : (IntKind.u64.wrap ((x : Int) + y)) = ((x + y : Nat) : Int) := by
  unfold IntKind.wrap
  simp [IntKind.bits, IntKind.signed]
  omega
set_option maxRecDepth 100000 in
set_option maxHeartbeats 2000000 in
theorem bsf_any (A : Option Addr) (c : Nat) (l : List En) (a : Int) (w : World) (hE : SlE w A c l) (hs : Asc l) :
    Calls Try.prog 94 #[.slice A l.length c, iv a, .func (.func 95) #[] #[]] w fun e w' => e = .returned (.tuple #[iv (cutI l a), .bool (fdB l a)]) ∧ Gr w w' := by
  have hlen := hE.len
  have HF := hide hE
  have HS := hide hs
  clear hE hs
  go_enter Try.func94, Try.ntmps94
  go_wp2
  go_loopw [9, 10] (fun i j wr => ∃ x y : Nat, i = iv x ∧ j = iv y ∧ x ≤ y ∧ y ≤ l.length ∧ Gr w wr ∧ Hid (∀ k e, k < x → l[k]? = some e → e.an < a) ∧ Hid (∀ k e, y ≤ k → l[k]? = some e → a ≤ e.an)) (fun i j _ => (intOf j).toNat - (intOf i).toNat)
  case atStart => exact ⟨0, l.length, rfl, rfl, by omega, by omega, Gr.refl _, fun k e hk => by omega, fun k e hk he => by have := (List.getElem?_eq_some_iff.1 he).1; omega⟩
  case round =>
    obtain ⟨x, y, rfl, rfl, hxy, hy, g, HX, HY⟩ := hrel
    by_cases hlt : x < y
    · obtain ⟨e, he⟩ : ∃ e, l[(x + y) / 2]? = some e := ⟨_, List.getElem?_eq_getElem (by omega)⟩
      obtain ⟨b, off, rfl, x0, x1, x2⟩ := (HF.out.gr g).rd.en he
      have hb : b < wr.heap.size := cell_lt (by rw [x0]; rfl)
      have HV := hide (fun w => cmF_any e a w)
      have HL := hide he
      clear he
      by_cases hea : e.an < a
      · have HX' := hide (show ∀ k e, k < (x + y) / 2 + 1 → l[k]? = some e → e.an < a by
          intro k e' hk he'
          rcases Nat.lt_or_ge k ((x + y) / 2) with h | h
          · have := HS.out k _ e' e h he' HL.out
            omega
          · obtain rfl : k = (x + y) / 2 := by omega
            rw [HL.out] at he'
            obtain rfl := Option.some.inj he'
            exact hea)
        rw [show cmI e.an a = -1 by unfold cmI; rw [if_pos hea]] at HV
        clear hea
        go_wp2_with (first | (go_at_call 95; refine (HV.out _).mono ?_; rintro e w1 ⟨rfl, g1⟩; obtain ⟨X1, Y1, c1, f1⟩ := g1.use))
        go_roundw
        case rel => exact ⟨(x + y) / 2 + 1, y, by go_num, rfl, by omega, hy, (by repeat (first | with_reducible exact Gr.refl _ | with_reducible assumption | with_reducible refine Gr.alloc ?_ _ | with_reducible refine Gr.drewN ?_ _ | with_reducible refine Gr.drew ?_ | with_reducible refine Gr.setCell ?_ (by first | (dsimp only; omega) | (simp only [World.size_alloc]; omega) | (with_reducible refine Gr.size ?_; (repeat (first | with_reducible exact Gr.refl _ | with_reducible assumption | with_reducible refine Gr.alloc ?_ _ | with_reducible refine Gr.drewN ?_ _ | with_reducible refine Gr.drew ?_ | with_reducible refine Gr.trans ?_ (by with_reducible assumption))); done)) _ | with_reducible refine Gr.trans ?_ (by with_reducible assumption))), HX', HY⟩
        case measure => simp only [intOf]; omega
      · have HY' := hide (show ∀ k e, (x + y) / 2 ≤ k → l[k]? = some e → a ≤ e.an by
          intro k e' hk he'
          rcases Nat.lt_or_ge ((x + y) / 2) k with h | h
          · have := HS.out _ k e e' h HL.out he'
            omega
          · obtain rfl : k = (x + y) / 2 := by omega
            rw [HL.out] at he'
            obtain rfl := Option.some.inj he'
            omega)
        have hc : 0 ≤ cmI e.an a := by unfold cmI; rw [if_neg hea]; split <;> omega
        generalize cmI e.an a = cc at *
        clear hea
        go_wp2_with (first | (go_at_call 95; refine (HV.out _).mono ?_; rintro e w1 ⟨rfl, g1⟩; obtain ⟨X1, Y1, c1, f1⟩ := g1.use))
        go_roundw
        case rel => exact ⟨x, (x + y) / 2, rfl, by go_num, by omega, by omega, (by repeat (first | with_reducible exact Gr.refl _ | with_reducible assumption | with_reducible refine Gr.alloc ?_ _ | with_reducible refine Gr.drewN ?_ _ | with_reducible refine Gr.drew ?_ | with_reducible refine Gr.setCell ?_ (by first | (dsimp only; omega) | (simp only [World.size_alloc]; omega) | (with_reducible refine Gr.size ?_; (repeat (first | with_reducible exact Gr.refl _ | with_reducible assumption | with_reducible refine Gr.alloc ?_ _ | with_reducible refine Gr.drewN ?_ _ | with_reducible refine Gr.drew ?_ | with_reducible refine Gr.trans ?_ (by with_reducible assumption))); done)) _ | with_reducible refine Gr.trans ?_ (by with_reducible assumption))), HX, HY'⟩
        case measure => simp only [intOf]; omega
    · obtain rfl : x = y := by omega
      have HC := hide (cut_eq hy HX.out HY.out)
      clear HX HY
      by_cases hlt : x < l.length
      · obtain ⟨e, he⟩ : ∃ e, l[x]? = some e := ⟨_, List.getElem?_eq_getElem hlt⟩
        obtain ⟨b, off, rfl, x0, x1, x2⟩ := (HF.out.gr g).rd.en he
        have hb : b < wr.heap.size := cell_lt (by rw [x0]; rfl)
        have HV := hide (fun w => cmF_any e a w)
        have HD := hide (show fdB l a = (cmI e.an a == 0) by
          unfold fdB
          rw [← HC.out, he]
          have h0 : a ≤ e.an := by rw [HC.out] at he; exact cut_at he
          unfold cmI
          by_cases h : e.an = a
          · rw [if_neg (by omega), if_neg (by omega)]; simpa using h
          · rw [if_neg (by omega), if_pos (by omega)]; simpa using h)
        clear he
        generalize cmI e.an a = cc at *
        go_wp2_with (first | (go_at_call 95; refine (HV.out _).mono ?_; rintro e w1 ⟨rfl, g1⟩; obtain ⟨X1, Y1, c1, f1⟩ := g1.use; have z1 := g1.size; (try simp only [World.size_alloc, World.size_setCell, World.heap_drewN, Nat.add_one_le_iff] at z1); (try have l0 : w.heap.size < w1.heap.size := by omega); (try have l1 : w.heap.size + 1 < w1.heap.size := by omega); (try have l2 : w.heap.size + 1 + 1 < w1.heap.size := by omega)))
        go_ret2
        exact ⟨ret_ib (by rw [← HC.out]) HD.out.symm, (by repeat (first | with_reducible exact Gr.refl _ | with_reducible assumption | with_reducible refine Gr.alloc ?_ _ | with_reducible refine Gr.drewN ?_ _ | with_reducible refine Gr.drew ?_ | with_reducible refine Gr.setCell ?_ (by first | (dsimp only; omega) | (simp only [World.size_alloc]; omega) | (with_reducible refine Gr.size ?_; (repeat (first | with_reducible exact Gr.refl _ | with_reducible assumption | with_reducible refine Gr.alloc ?_ _ | with_reducible refine Gr.drewN ?_ _ | with_reducible refine Gr.drew ?_ | with_reducible refine Gr.trans ?_ (by with_reducible assumption))); done)) _ | with_reducible refine Gr.trans ?_ (by with_reducible assumption)))⟩
      · have HD := hide (show fdB l a = false by
          unfold fdB
          rw [← HC.out, List.getElem?_eq_none (by omega)])
        go_wp2_with fail
        go_ret2
        exact ⟨ret_ib (by rw [← HC.out]) HD.out.symm, (by repeat (first | with_reducible exact Gr.refl _ | with_reducible assumption | with_reducible refine Gr.alloc ?_ _ | with_reducible refine Gr.drewN ?_ _ | with_reducible refine Gr.drew ?_ | with_reducible refine Gr.setCell ?_ (by first | (dsimp only; omega) | (simp only [World.size_alloc]; omega) | (with_reducible refine Gr.size ?_; (repeat (first | with_reducible exact Gr.refl _ | with_reducible assumption | with_reducible refine Gr.alloc ?_ _ | with_reducible refine Gr.drewN ?_ _ | with_reducible refine Gr.drew ?_ | with_reducible refine Gr.trans ?_ (by with_reducible assumption))); done)) _ | with_reducible refine Gr.trans ?_ (by with_reducible assumption)))⟩
end Go.Proofs.Ytpmomgfepkegnaa
