/-
  Parts: whether all holes are right, in the code; the face of a flange.
-/
import Derived.Test.YtdabhnefoigebaaGreatVal6
import Derived.Test.YtdabhnefoigebaaGreatVal7
set_option linter.unusedVariables false
set_option linter.unusedSimpArgs false
namespace Go.Proofs.YtdabhnefoigebaaGreat
set_option linter.unusedVariables false
set_option linter.unusedSimpArgs false
open Go Go.ChangeShapes Go.WideShapes Go.ChangeAt Go.RowKit Go.Deep

theorem all_stop {α : Type} {f : α → Bool} {l : List α} {i : Nat} {x : α} (hx : l[i]? = some x) (h : f x = false) : l.all f = false := by
  rw [← Bool.not_eq_true, List.all_eq_true]
  intro k
  have := k x (List.mem_of_getElem? hx)
  rw [h] at this
  cases this
theorem all_end {α : Type} {f : α → Bool} {l : List α} (h : ∀ i x, i < l.length → l[i]? = some x → f x = true) : l.all f = true := by
  rw [List.all_eq_true]
  intro x hx
  obtain ⟨i, hi⟩ := List.mem_iff_getElem?.1 hx
  exact h i x (List.getElem?_eq_some_iff.1 hi).1 hi
set_option maxRecDepth 100000 in
set_option maxHeartbeats 4000000 in
theorem validHoles_any (p : Pa) (A B : Option Addr) (c d : Nat) (w : World) (hF : SlF w A c p.fl) (hH : SlH w B d p.ho) (ok : FlOk p p.fl.length) :
    Calls Tryz.prog 61 #[pav p A c B d] w fun e w' => e = .returned (.bool (p.ho.all (hoB p))) ∧ Gr w w' := by
  have hlen := hH.len
  have HF := hide hF
  have HH := hide hH
  have HOK := hide ok
  clear hF hH ok
  go_enter Tryz.func61, Tryz.ntmps61
  go_wp2
  go_loopw [10] (fun i wr => ∃ i' : Nat, i' ≤ p.ho.length ∧ i = iv i' ∧ Gr (w.alloc (.cells #[.string p.nm, .string p.mt, iv p.ga, iv p.gr, iv p.wd, iv p.ht, .slice A p.fl.length c, .slice B p.ho.length d] 25)) wr ∧ Hid (∀ j x, j < i' → p.ho[j]? = some x → hoB p x = true)) (fun i _ => p.ho.length - (intOf i).toNat)
  case atStart => exact ⟨0, by omega, rfl, Gr.refl _, by intro j x hj; omega⟩
  case round =>
    obtain ⟨i, hi, rfl, g, HI⟩ := hrel
    have gW : Gr w wr := (by repeat (first | with_reducible exact Gr.refl _ | with_reducible assumption | with_reducible refine Gr.alloc ?_ _ | with_reducible refine Gr.drewN ?_ _ | with_reducible refine Gr.drew ?_ | with_reducible refine Gr.setCell ?_ (by first | (dsimp only; omega) | (simp only [World.size_alloc]; omega) | (with_reducible refine Gr.size ?_; (repeat (first | with_reducible exact Gr.refl _ | with_reducible assumption | with_reducible refine Gr.alloc ?_ _ | with_reducible refine Gr.drewN ?_ _ | with_reducible refine Gr.drew ?_ | with_reducible refine Gr.trans ?_ (by with_reducible assumption))); done)) _ | with_reducible refine Gr.trans ?_ (by with_reducible assumption)))
    obtain ⟨Xr, Yr, cr, fr⟩ := g.use
    have zr := g.size
    simp only [World.size_alloc] at zr
    have l0 : w.heap.size < wr.heap.size := by omega
    by_cases hlt : i < p.ho.length
    · obtain ⟨f, hf⟩ : ∃ f, p.ho[i]? = some f := ⟨_, List.getElem?_eq_getElem hlt⟩
      obtain ⟨b, off, rfl, x0, x1, x2, x3, x4, x5⟩ := HH.out.rd.ho hf
      have hb : b < w.heap.size := cell_lt (by rw [x0]; rfl)
      have hbr : b < wr.heap.size := by omega
      have HS := hide (fun (w' : World) (g : Gr (wr.alloc (.cells #[iv f.fa, iv f.kd, iv f.x, iv f.y, iv f.w, iv f.h] 77)) w') (u1 : 0 ≤ f.fa) (u2 : f.fa ≤ p.fl.length) => size_any p A (some ⟨b, off, none⟩) c d f.fa w' (HF.out.gr (gW.trans ((Gr.alloc (Gr.refl _) _).trans g))) u1 u2)
      cases hT : wiB f.fa 0 p.fl.length with
      | false =>
        have HE := hide (all_stop (f := hoB p) hf (by unfold hoB; rw [hT]; rfl))
        go_wp2_with (first | (go_at_call 32; refine (hasFace_any _ _ _ _ _ _ _).mono ?_; rintro e w1 ⟨rfl, g1⟩; obtain ⟨X1, Y1, c1, f1⟩ := g1.use; have z1 := g1.size; (try simp only [World.size_alloc, World.size_setCell, World.heap_drewN, Nat.add_one_le_iff] at z1); (try have l0 : w.heap.size < w1.heap.size := by omega); (try have l1 : w.heap.size + 1 < w1.heap.size := by omega); (try have l2 : w.heap.size + 1 + 1 < w1.heap.size := by omega)))
        go_ret
        exact ⟨ret_bool HE.out.symm, (by repeat (first | with_reducible exact Gr.refl _ | with_reducible assumption | with_reducible refine Gr.alloc ?_ _ | with_reducible refine Gr.drewN ?_ _ | with_reducible refine Gr.drew ?_ | with_reducible refine Gr.setCell ?_ (by first | (dsimp only; omega) | (simp only [World.size_alloc]; omega) | (with_reducible refine Gr.size ?_; (repeat (first | with_reducible exact Gr.refl _ | with_reducible assumption | with_reducible refine Gr.alloc ?_ _ | with_reducible refine Gr.drewN ?_ _ | with_reducible refine Gr.drew ?_ | with_reducible refine Gr.trans ?_ (by with_reducible assumption))); done)) _ | with_reducible refine Gr.trans ?_ (by with_reducible assumption)))⟩
      | true =>
        obtain ⟨u1, u2⟩ := wiB_iff.1 hT
        obtain ⟨hw, hh⟩ := ext_le HOK.out u1 u2 (Nat.le_refl _)
        by_cases hk : f.kd = 1 ∨ f.kd = 2
        · cases h1 : wbB f.x f.w (extW p f.fa) with
          | false =>
            have HE := hide (all_stop (f := hoB p) hf (by unfold hoB; rw [h1]; simp))
            generalize extW p f.fa = ew at *
            generalize extH p f.fa = eh at *
            go_wp2_with (first | (go_at_call 32; refine (hasFace_any _ _ _ _ _ _ _).mono ?_; rintro e w1 ⟨rfl, g1⟩; obtain ⟨X1, Y1, c1, f1⟩ := g1.use; have z1 := g1.size; (try simp only [World.size_alloc, World.size_setCell, World.heap_drewN, Nat.add_one_le_iff] at z1); (try have l0 : w.heap.size < w1.heap.size := by omega); (try have l1 : w.heap.size + 1 < w1.heap.size := by omega); (try have l2 : w.heap.size + 1 + 1 < w1.heap.size := by omega)) | (go_at_call 33; refine (HS.out _ (by with_reducible assumption) u1 u2).mono ?_; rintro e w1 ⟨rfl, g1⟩; obtain ⟨X1, Y1, c1, f1⟩ := g1.use; have z1 := g1.size; (try simp only [World.size_alloc, World.size_setCell, World.heap_drewN, Nat.add_one_le_iff] at z1); (try have l0 : w.heap.size < w1.heap.size := by omega); (try have l1 : w.heap.size + 1 < w1.heap.size := by omega); (try have l2 : w.heap.size + 1 + 1 < w1.heap.size := by omega)) | (go_at_call 96; refine (withinBorder_any _ _ _ _ (by assumption)).mono ?_; rintro e w1 ⟨rfl, rfl⟩))
            all_goals first
              | (go_ret
                 exact ⟨ret_bool HE.out.symm, (by repeat (first | with_reducible exact Gr.refl _ | with_reducible assumption | with_reducible refine Gr.alloc ?_ _ | with_reducible refine Gr.drewN ?_ _ | with_reducible refine Gr.drew ?_ | with_reducible refine Gr.setCell ?_ (by first | (dsimp only; omega) | (simp only [World.size_alloc]; omega) | (with_reducible refine Gr.size ?_; (repeat (first | with_reducible exact Gr.refl _ | with_reducible assumption | with_reducible refine Gr.alloc ?_ _ | with_reducible refine Gr.drewN ?_ _ | with_reducible refine Gr.drew ?_ | with_reducible refine Gr.trans ?_ (by with_reducible assumption))); done)) _ | with_reducible refine Gr.trans ?_ (by with_reducible assumption)))⟩)
              | (exfalso
                 simp only [bne_iff_ne, ne_eq, bne_eq_false_iff_eq, beq_iff_eq, beq_eq_false_iff_ne] at *
                 omega)
          | true =>
            cases h2 : wbB f.y f.h (extH p f.fa) with
            | false =>
              have HE := hide (all_stop (f := hoB p) hf (by unfold hoB; rw [h2]; simp))
              generalize extW p f.fa = ew at *
              generalize extH p f.fa = eh at *
              go_wp2_with (first | (go_at_call 32; refine (hasFace_any _ _ _ _ _ _ _).mono ?_; rintro e w1 ⟨rfl, g1⟩; obtain ⟨X1, Y1, c1, f1⟩ := g1.use; have z1 := g1.size; (try simp only [World.size_alloc, World.size_setCell, World.heap_drewN, Nat.add_one_le_iff] at z1); (try have l0 : w.heap.size < w1.heap.size := by omega); (try have l1 : w.heap.size + 1 < w1.heap.size := by omega); (try have l2 : w.heap.size + 1 + 1 < w1.heap.size := by omega)) | (go_at_call 33; refine (HS.out _ (by with_reducible assumption) u1 u2).mono ?_; rintro e w1 ⟨rfl, g1⟩; obtain ⟨X1, Y1, c1, f1⟩ := g1.use; have z1 := g1.size; (try simp only [World.size_alloc, World.size_setCell, World.heap_drewN, Nat.add_one_le_iff] at z1); (try have l0 : w.heap.size < w1.heap.size := by omega); (try have l1 : w.heap.size + 1 < w1.heap.size := by omega); (try have l2 : w.heap.size + 1 + 1 < w1.heap.size := by omega)) | (go_at_call 96; refine (withinBorder_any _ _ _ _ (by assumption)).mono ?_; rintro e w1 ⟨rfl, rfl⟩))
              all_goals first
                | (go_ret
                   exact ⟨ret_bool HE.out.symm, (by repeat (first | with_reducible exact Gr.refl _ | with_reducible assumption | with_reducible refine Gr.alloc ?_ _ | with_reducible refine Gr.drewN ?_ _ | with_reducible refine Gr.drew ?_ | with_reducible refine Gr.setCell ?_ (by first | (dsimp only; omega) | (simp only [World.size_alloc]; omega) | (with_reducible refine Gr.size ?_; (repeat (first | with_reducible exact Gr.refl _ | with_reducible assumption | with_reducible refine Gr.alloc ?_ _ | with_reducible refine Gr.drewN ?_ _ | with_reducible refine Gr.drew ?_ | with_reducible refine Gr.trans ?_ (by with_reducible assumption))); done)) _ | with_reducible refine Gr.trans ?_ (by with_reducible assumption)))⟩)
                | (exfalso
                   simp only [bne_iff_ne, ne_eq, bne_eq_false_iff_eq, beq_iff_eq, beq_eq_false_iff_ne] at *
                   omega)
            | true =>
              have HI' := hide (show ∀ j x, j < i + 1 → p.ho[j]? = some x → hoB p x = true by
                intro j x hj hx
                rcases Nat.lt_or_ge j i with h | h
                · exact HI.out j x h hx
                · obtain rfl : j = i := by omega
                  rw [hf] at hx
                  obtain rfl := Option.some.inj hx
                  unfold hoB
                  rw [hT, h1, h2]
                  simp only [Bool.true_and, Bool.and_true]
                  simpa using hk)
              generalize extW p f.fa = ew at *
              generalize extH p f.fa = eh at *
              go_wp2_with (first | (go_at_call 32; refine (hasFace_any _ _ _ _ _ _ _).mono ?_; rintro e w1 ⟨rfl, g1⟩; obtain ⟨X1, Y1, c1, f1⟩ := g1.use; have z1 := g1.size; (try simp only [World.size_alloc, World.size_setCell, World.heap_drewN, Nat.add_one_le_iff] at z1); (try have l0 : w.heap.size < w1.heap.size := by omega); (try have l1 : w.heap.size + 1 < w1.heap.size := by omega); (try have l2 : w.heap.size + 1 + 1 < w1.heap.size := by omega)) | (go_at_call 33; refine (HS.out _ (by with_reducible assumption) u1 u2).mono ?_; rintro e w1 ⟨rfl, g1⟩; obtain ⟨X1, Y1, c1, f1⟩ := g1.use; have z1 := g1.size; (try simp only [World.size_alloc, World.size_setCell, World.heap_drewN, Nat.add_one_le_iff] at z1); (try have l0 : w.heap.size < w1.heap.size := by omega); (try have l1 : w.heap.size + 1 < w1.heap.size := by omega); (try have l2 : w.heap.size + 1 + 1 < w1.heap.size := by omega)) | (go_at_call 96; refine (withinBorder_any _ _ _ _ (by assumption)).mono ?_; rintro e w1 ⟨rfl, rfl⟩))
              all_goals first
                | (go_roundw
                   case rel => exact ⟨i + 1, by omega, by go_num, (by repeat (first | with_reducible exact Gr.refl _ | with_reducible assumption | with_reducible refine Gr.alloc ?_ _ | with_reducible refine Gr.drewN ?_ _ | with_reducible refine Gr.drew ?_ | with_reducible refine Gr.setCell ?_ (by first | (dsimp only; omega) | (simp only [World.size_alloc]; omega) | (with_reducible refine Gr.size ?_; (repeat (first | with_reducible exact Gr.refl _ | with_reducible assumption | with_reducible refine Gr.alloc ?_ _ | with_reducible refine Gr.drewN ?_ _ | with_reducible refine Gr.drew ?_ | with_reducible refine Gr.trans ?_ (by with_reducible assumption))); done)) _ | with_reducible refine Gr.trans ?_ (by with_reducible assumption))), HI'⟩
                   case measure => simp only [intOf]; omega)
                | (exfalso
                   simp only [bne_iff_ne, ne_eq, bne_eq_false_iff_eq, beq_iff_eq, beq_eq_false_iff_ne] at *
                   omega)
        · have HE := hide (all_stop (f := hoB p) hf (by unfold hoB; rw [show (decide (f.kd = 1) || decide (f.kd = 2)) = false by simpa using hk]; simp))
          go_wp2_with (first | (go_at_call 32; refine (hasFace_any _ _ _ _ _ _ _).mono ?_; rintro e w1 ⟨rfl, g1⟩; obtain ⟨X1, Y1, c1, f1⟩ := g1.use; have z1 := g1.size; (try simp only [World.size_alloc, World.size_setCell, World.heap_drewN, Nat.add_one_le_iff] at z1); (try have l0 : w.heap.size < w1.heap.size := by omega); (try have l1 : w.heap.size + 1 < w1.heap.size := by omega); (try have l2 : w.heap.size + 1 + 1 < w1.heap.size := by omega)))
          all_goals first
            | (go_ret
               exact ⟨ret_bool HE.out.symm, (by repeat (first | with_reducible exact Gr.refl _ | with_reducible assumption | with_reducible refine Gr.alloc ?_ _ | with_reducible refine Gr.drewN ?_ _ | with_reducible refine Gr.drew ?_ | with_reducible refine Gr.setCell ?_ (by first | (dsimp only; omega) | (simp only [World.size_alloc]; omega) | (with_reducible refine Gr.size ?_; (repeat (first | with_reducible exact Gr.refl _ | with_reducible assumption | with_reducible refine Gr.alloc ?_ _ | with_reducible refine Gr.drewN ?_ _ | with_reducible refine Gr.drew ?_ | with_reducible refine Gr.trans ?_ (by with_reducible assumption))); done)) _ | with_reducible refine Gr.trans ?_ (by with_reducible assumption)))⟩)
            | (exfalso
               simp only [bne_iff_ne, ne_eq, bne_eq_false_iff_eq, beq_iff_eq, beq_eq_false_iff_ne] at *
               omega)
    · obtain rfl : i = p.ho.length := by omega
      have HE := hide (all_end (f := hoB p) (fun j x hj hx => HI.out j x hj hx))
      go_wp2
      go_ret
      exact ⟨ret_bool HE.out.symm, (by repeat (first | with_reducible exact Gr.refl _ | with_reducible assumption | with_reducible refine Gr.alloc ?_ _ | with_reducible refine Gr.drewN ?_ _ | with_reducible refine Gr.drew ?_ | with_reducible refine Gr.setCell ?_ (by first | (dsimp only; omega) | (simp only [World.size_alloc]; omega) | (with_reducible refine Gr.size ?_; (repeat (first | with_reducible exact Gr.refl _ | with_reducible assumption | with_reducible refine Gr.alloc ?_ _ | with_reducible refine Gr.drewN ?_ _ | with_reducible refine Gr.drew ?_ | with_reducible refine Gr.trans ?_ (by with_reducible assumption))); done)) _ | with_reducible refine Gr.trans ?_ (by with_reducible assumption)))⟩
end Go.Proofs.YtdabhnefoigebaaGreat
