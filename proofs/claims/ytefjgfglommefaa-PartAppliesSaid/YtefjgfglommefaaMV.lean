/-
  Parts: whether two of a list of holes touch, in the code.
  Parts: whether all holes are right, in the code; the face of a flange.
  Parts: whether two of a list of flanges overlap, in the code.
  Parts: the code's Validate.
  Parts: the size of a face and the error of a flange, in the reference.
  Parts: the code's Validate behind the limits.
-/
import Derived.Test.YtefjgfglommefaaVal4
import Derived.Test.YtefjgfglommefaaVal7
import Derived.Test.YtefjgfglommefaaVal10
set_option linter.unusedVariables false
set_option linter.unusedSimpArgs false
namespace Go.Proofs.Ytefjgfglommefaa
set_option linter.unusedVariables false
set_option linter.unusedSimpArgs false
open Go Go.ChangeShapes Go.WideShapes Go.ChangeAt Go.RowKit Go.Deep

/-- a slice of holes as an argument has it -/
structure SlH (w : World) (A : Option Addr) (c : Nat) (l : List Ho) : Prop where
  rd : RdH w A l
  cap : l.length ≤ c
  capB : c ≤ 9223372036854775807
  len : l.length ≤ 1000
theorem SlH.gr {w w' : World} {A : Option Addr} {c : Nat} {l : List Ho} (h : SlH w A c l) (g : Gr w w') : SlH w' A c l := ⟨h.rd.gr g, h.cap, h.capB, h.len⟩
set_option maxRecDepth 100000 in
set_option maxHeartbeats 4000000 in
theorem anyH_any (A : Option Addr) (c : Nat) (l : List Ho) (w : World) (hF : SlH w A c l) :
    Calls Try.prog 32 #[.slice A l.length c, .func (.func 33) #[] #[]] w fun e w' => e = .returned (.bool (anyB touB l)) ∧ Gr w w' := by
  have hlen := hF.len
  have hcap := hF.cap
  have hcapB := hF.capB
  have HF := hide hF
  clear hF
  go_enter Try.func32, Try.ntmps32
  go_wp2
  go_loopw [11] (fun i wr => ∃ i' : Nat, i' ≤ l.length ∧ i = iv i' ∧ Gr w wr ∧ Hid (∀ i, i < i' → ∀ k a b, k < i → l[k]? = some a → l[i]? = some b → touB a b = false)) (fun i _ => l.length - (intOf i).toNat)
  case atStart => exact ⟨0, by omega, rfl, Gr.refl _, by intro i hi; omega⟩
  case round =>
    obtain ⟨i, hi, rfl, g, HI⟩ := hrel
    obtain ⟨wo, rfl⟩ : ∃ wo, wo = wr := ⟨_, rfl⟩
    by_cases hlt : i < l.length
    · obtain ⟨f, hf⟩ : ∃ f, l[i]? = some f := ⟨_, List.getElem?_eq_getElem hlt⟩
      obtain ⟨b, off, hA, x0, x1, x2, x3, x4, x5⟩ := (HF.out.gr g).rd.ho hf
      subst hA
      have hb : b < wo.heap.size := cell_lt (by rw [x0]; rfl)
      go_wp2
      have gB := g
      go_loopw [20] (fun k wk => ∃ k' : Nat, k' ≤ i ∧ k = iv k' ∧ Gr (wo.alloc (.cells #[iv f.fa, iv f.kd, iv f.x, iv f.y, iv f.w, iv f.h] 29)) wk ∧ Hid (∀ k a, k < k' → l[k]? = some a → touB a f = false)) (fun k _ => i - (intOf k).toNat)
      case atStart => exact ⟨0, by omega, rfl, Gr.refl _, by intro k a hk; omega⟩
      case round =>
        obtain ⟨k, hk, rfl, gk, HK⟩ := hrel
        obtain ⟨Xr, Yr, cr, fr⟩ := gk.use
        have zr := gk.size
        simp only [World.size_alloc] at zr
        have l0 : wo.heap.size < wr.heap.size := by omega
        have hbk : b < wr.heap.size := by omega
        by_cases hki : k < i
        · obtain ⟨a, ha⟩ : ∃ a, l[k]? = some a := ⟨_, List.getElem?_eq_getElem (by omega)⟩
          obtain ⟨b', off', hA', y0, y1, y2, y3, y4, y5⟩ := (HF.out.gr g).rd.ho ha
          obtain ⟨rfl, rfl⟩ : b = b' ∧ off = off' := by simpa using hA'
          clear hA'
          have HV := hide (fun w => holesTouch_any a f w)
          cases hv : touB a f with
          | true =>
            have HB := hide (anyB_yes hki ha hf hv)
            rw [hv] at HV
            go_wp2_with (go_at_call 33; refine (HV.out _).mono ?_; rintro e w1 ⟨rfl, g1⟩; obtain ⟨X1, Y1, c1, f1⟩ := g1.use)
            go_ret
            exact ⟨ret_bool HB.out.symm, (by repeat (first | with_reducible exact Gr.refl _ | with_reducible assumption | with_reducible refine Gr.alloc ?_ _ | with_reducible refine Gr.drewN ?_ _ | with_reducible refine Gr.drew ?_ | with_reducible refine Gr.setCell ?_ (by first | (dsimp only; omega) | (simp only [World.size_alloc]; omega) | (with_reducible refine Gr.size ?_; (repeat (first | with_reducible exact Gr.refl _ | with_reducible assumption | with_reducible refine Gr.alloc ?_ _ | with_reducible refine Gr.drewN ?_ _ | with_reducible refine Gr.drew ?_ | with_reducible refine Gr.trans ?_ (by with_reducible assumption))); done)) _ | with_reducible refine Gr.trans ?_ (by with_reducible assumption)))⟩
          | false =>
            have HK' := hide (show ∀ j x, j < k + 1 → l[j]? = some x → touB x f = false by
              intro j x hj hx
              rcases Nat.lt_or_ge j k with h | h
              · exact HK.out j x h hx
              · obtain rfl : j = k := by omega
                rw [ha] at hx
                obtain rfl := Option.some.inj hx
                exact hv)
            rw [hv] at HV
            go_wp2_with (go_at_call 33; refine (HV.out _).mono ?_; rintro e w1 ⟨rfl, g1⟩; obtain ⟨X1, Y1, c1, f1⟩ := g1.use)
            go_roundw
            case rel => exact ⟨k + 1, by omega, by go_num, (by repeat (first | with_reducible exact Gr.refl _ | with_reducible assumption | with_reducible refine Gr.alloc ?_ _ | with_reducible refine Gr.drewN ?_ _ | with_reducible refine Gr.drew ?_ | with_reducible refine Gr.setCell ?_ (by first | (dsimp only; omega) | (simp only [World.size_alloc]; omega) | (with_reducible refine Gr.size ?_; (repeat (first | with_reducible exact Gr.refl _ | with_reducible assumption | with_reducible refine Gr.alloc ?_ _ | with_reducible refine Gr.drewN ?_ _ | with_reducible refine Gr.drew ?_ | with_reducible refine Gr.trans ?_ (by with_reducible assumption))); done)) _ | with_reducible refine Gr.trans ?_ (by with_reducible assumption))), HK'⟩
            case measure => simp only [intOf]; omega
        · obtain rfl : k = i := by omega
          have HI' := hide (show ∀ j, j < k + 1 → ∀ m a b, m < j → l[m]? = some a → l[j]? = some b → touB a b = false by
            intro j hj m a b hm hx hy
            rcases Nat.lt_or_ge j k with h | h
            · exact HI.out j h m a b hm hx hy
            · obtain rfl : j = k := by omega
              rw [hf] at hy
              obtain rfl := Option.some.inj hy
              exact HK.out m a hm hx)
          go_wp2
          go_roundw
          case rel => exact ⟨k + 1, by omega, by go_num, (by repeat (first | with_reducible exact Gr.refl _ | with_reducible assumption | with_reducible refine Gr.alloc ?_ _ | with_reducible refine Gr.drewN ?_ _ | with_reducible refine Gr.drew ?_ | with_reducible refine Gr.setCell ?_ (by first | (dsimp only; omega) | (simp only [World.size_alloc]; omega) | (with_reducible refine Gr.size ?_; (repeat (first | with_reducible exact Gr.refl _ | with_reducible assumption | with_reducible refine Gr.alloc ?_ _ | with_reducible refine Gr.drewN ?_ _ | with_reducible refine Gr.drew ?_ | with_reducible refine Gr.trans ?_ (by with_reducible assumption))); done)) _ | with_reducible refine Gr.trans ?_ (by with_reducible assumption))), HI'⟩
          case measure => simp only [intOf]; omega
    · obtain rfl : i = l.length := by omega
      have HB := hide (anyB_no HI.out)
      go_wp2
      go_ret
      exact ⟨ret_bool HB.out.symm, (by repeat (first | with_reducible exact Gr.refl _ | with_reducible assumption | with_reducible refine Gr.alloc ?_ _ | with_reducible refine Gr.drewN ?_ _ | with_reducible refine Gr.drew ?_ | with_reducible refine Gr.setCell ?_ (by first | (dsimp only; omega) | (simp only [World.size_alloc]; omega) | (with_reducible refine Gr.size ?_; (repeat (first | with_reducible exact Gr.refl _ | with_reducible assumption | with_reducible refine Gr.alloc ?_ _ | with_reducible refine Gr.drewN ?_ _ | with_reducible refine Gr.drew ?_ | with_reducible refine Gr.trans ?_ (by with_reducible assumption))); done)) _ | with_reducible refine Gr.trans ?_ (by with_reducible assumption)))⟩
end Go.Proofs.Ytefjgfglommefaa
set_option linter.unusedVariables false
set_option linter.unusedSimpArgs false
namespace Go.Proofs.Ytefjgfglommefaa
set_option linter.unusedVariables false
set_option linter.unusedSimpArgs false
open Go Go.ChangeShapes Go.WideShapes Go.ChangeAt Go.RowKit Go.Deep

theorem all_stop {α : Type} {f : α → Bool} {l : List α} {i : Nat} {x : α} (hx : l[i]? = some x) (h : f x = false) : l.all f = false := by
  rw [← Bool.not_eq_true, List.all_eq_true]
  intro k
  have := k x (List.mem_of_getElem? hx)
  rw [h] at this
  cases this
theorem all_end {α : Type} {f : α → Bool} {l : List α} (h : ∀ i x, i < l.length → l[i]? = some x → f x = true) : l.all f = true := by
  rw [List.all_eq_true]
  intro x hx
  obtain ⟨i, hi⟩ := List.mem_iff_getElem?.1 hx
  exact h i x (List.getElem?_eq_some_iff.1 hi).1 hi
set_option maxRecDepth 100000 in
set_option maxHeartbeats 4000000 in
theorem validHoles_any (p : Pa) (A B : Option Addr) (c d : Nat) (w : World) (hF : SlF w A c p.fl) (hH : SlH w B d p.ho) (ok : FlOk p p.fl.length) :
    Calls Try.prog 31 #[pav p A c B d] w fun e w' => e = .returned (.bool (p.ho.all (hoB p))) ∧ Gr w w' := by
  have hlen := hH.len
  have HF := hide hF
  have HH := hide hH
  have HOK := hide ok
  clear hF hH ok
  go_enter Try.func31, Try.ntmps31
  go_wp2
  go_loopw [10] (fun i wr => ∃ i' : Nat, i' ≤ p.ho.length ∧ i = iv i' ∧ Gr (w.alloc (.cells #[.string p.nm, .string p.mt, iv p.ga, iv p.gr, iv p.wd, iv p.ht, .slice A p.fl.length c, .slice B p.ho.length d] 25)) wr ∧ Hid (∀ j x, j < i' → p.ho[j]? = some x → hoB p x = true)) (fun i _ => p.ho.length - (intOf i).toNat)
  case atStart => exact ⟨0, by omega, rfl, Gr.refl _, by intro j x hj; omega⟩
  case round =>
    obtain ⟨i, hi, rfl, g, HI⟩ := hrel
    have gW : Gr w wr := (by repeat (first | with_reducible exact Gr.refl _ | with_reducible assumption | with_reducible refine Gr.alloc ?_ _ | with_reducible refine Gr.drewN ?_ _ | with_reducible refine Gr.drew ?_ | with_reducible refine Gr.setCell ?_ (by first | (dsimp only; omega) | (simp only [World.size_alloc]; omega) | (with_reducible refine Gr.size ?_; (repeat (first | with_reducible exact Gr.refl _ | with_reducible assumption | with_reducible refine Gr.alloc ?_ _ | with_reducible refine Gr.drewN ?_ _ | with_reducible refine Gr.drew ?_ | with_reducible refine Gr.trans ?_ (by with_reducible assumption))); done)) _ | with_reducible refine Gr.trans ?_ (by with_reducible assumption)))
    obtain ⟨Xr, Yr, cr, fr⟩ := g.use
    have zr := g.size
    simp only [World.size_alloc] at zr
    have l0 : w.heap.size < wr.heap.size := by omega
    by_cases hlt : i < p.ho.length
    · obtain ⟨f, hf⟩ : ∃ f, p.ho[i]? = some f := ⟨_, List.getElem?_eq_getElem hlt⟩
      obtain ⟨b, off, rfl, x0, x1, x2, x3, x4, x5⟩ := HH.out.rd.ho hf
      have hb : b < w.heap.size := cell_lt (by rw [x0]; rfl)
      have hbr : b < wr.heap.size := by omega
      have HS := hide (fun (w' : World) (g : Gr (wr.alloc (.cells #[iv f.fa, iv f.kd, iv f.x, iv f.y, iv f.w, iv f.h] 29)) w') (u1 : 0 ≤ f.fa) (u2 : f.fa ≤ p.fl.length) => size_any p A (some ⟨b, off, none⟩) c d f.fa w' (HF.out.gr (gW.trans ((Gr.alloc (Gr.refl _) _).trans g))) u1 u2)
      cases hT : wiB f.fa 0 p.fl.length with
      | false =>
        have HE := hide (all_stop (f := hoB p) hf (by unfold hoB; rw [hT]; rfl))
        go_wp2_with (first | (go_at_call 58; refine (hasFace_any _ _ _ _ _ _ _).mono ?_; rintro e w1 ⟨rfl, g1⟩; obtain ⟨X1, Y1, c1, f1⟩ := g1.use; have z1 := g1.size; (try simp only [World.size_alloc, World.size_setCell, World.heap_drewN, Nat.add_one_le_iff] at z1); (try have l0 : w.heap.size < w1.heap.size := by omega); (try have l1 : w.heap.size + 1 < w1.heap.size := by omega); (try have l2 : w.heap.size + 1 + 1 < w1.heap.size := by omega)))
        go_ret
        exact ⟨ret_bool HE.out.symm, (by repeat (first | with_reducible exact Gr.refl _ | with_reducible assumption | with_reducible refine Gr.alloc ?_ _ | with_reducible refine Gr.drewN ?_ _ | with_reducible refine Gr.drew ?_ | with_reducible refine Gr.setCell ?_ (by first | (dsimp only; omega) | (simp only [World.size_alloc]; omega) | (with_reducible refine Gr.size ?_; (repeat (first | with_reducible exact Gr.refl _ | with_reducible assumption | with_reducible refine Gr.alloc ?_ _ | with_reducible refine Gr.drewN ?_ _ | with_reducible refine Gr.drew ?_ | with_reducible refine Gr.trans ?_ (by with_reducible assumption))); done)) _ | with_reducible refine Gr.trans ?_ (by with_reducible assumption)))⟩
      | true =>
        obtain ⟨u1, u2⟩ := wiB_iff.1 hT
        obtain ⟨hw, hh⟩ := ext_le HOK.out u1 u2 (Nat.le_refl _)
        by_cases hk : f.kd = 1 ∨ f.kd = 2
        · cases h1 : wbB f.x f.w (extW p f.fa) with
          | false =>
            have HE := hide (all_stop (f := hoB p) hf (by unfold hoB; rw [h1]; simp))
            generalize extW p f.fa = ew at *
            generalize extH p f.fa = eh at *
            go_wp2_with (first | (go_at_call 58; refine (hasFace_any _ _ _ _ _ _ _).mono ?_; rintro e w1 ⟨rfl, g1⟩; obtain ⟨X1, Y1, c1, f1⟩ := g1.use; have z1 := g1.size; (try simp only [World.size_alloc, World.size_setCell, World.heap_drewN, Nat.add_one_le_iff] at z1); (try have l0 : w.heap.size < w1.heap.size := by omega); (try have l1 : w.heap.size + 1 < w1.heap.size := by omega); (try have l2 : w.heap.size + 1 + 1 < w1.heap.size := by omega)) | (go_at_call 56; refine (HS.out _ (by with_reducible assumption) u1 u2).mono ?_; rintro e w1 ⟨rfl, g1⟩; obtain ⟨X1, Y1, c1, f1⟩ := g1.use; have z1 := g1.size; (try simp only [World.size_alloc, World.size_setCell, World.heap_drewN, Nat.add_one_le_iff] at z1); (try have l0 : w.heap.size < w1.heap.size := by omega); (try have l1 : w.heap.size + 1 < w1.heap.size := by omega); (try have l2 : w.heap.size + 1 + 1 < w1.heap.size := by omega)) | (go_at_call 59; refine (withinBorder_any _ _ _ _ (by assumption)).mono ?_; rintro e w1 ⟨rfl, rfl⟩))
            all_goals first
              | (go_ret
                 exact ⟨ret_bool HE.out.symm, (by repeat (first | with_reducible exact Gr.refl _ | with_reducible assumption | with_reducible refine Gr.alloc ?_ _ | with_reducible refine Gr.drewN ?_ _ | with_reducible refine Gr.drew ?_ | with_reducible refine Gr.setCell ?_ (by first | (dsimp only; omega) | (simp only [World.size_alloc]; omega) | (with_reducible refine Gr.size ?_; (repeat (first | with_reducible exact Gr.refl _ | with_reducible assumption | with_reducible refine Gr.alloc ?_ _ | with_reducible refine Gr.drewN ?_ _ | with_reducible refine Gr.drew ?_ | with_reducible refine Gr.trans ?_ (by with_reducible assumption))); done)) _ | with_reducible refine Gr.trans ?_ (by with_reducible assumption)))⟩)
              | (exfalso
                 simp only [bne_iff_ne, ne_eq, bne_eq_false_iff_eq, beq_iff_eq, beq_eq_false_iff_ne] at *
                 omega)
          | true =>
            cases h2 : wbB f.y f.h (extH p f.fa) with
            | false =>
              have HE := hide (all_stop (f := hoB p) hf (by unfold hoB; rw [h2]; simp))
              generalize extW p f.fa = ew at *
              generalize extH p f.fa = eh at *
              go_wp2_with (first | (go_at_call 58; refine (hasFace_any _ _ _ _ _ _ _).mono ?_; rintro e w1 ⟨rfl, g1⟩; obtain ⟨X1, Y1, c1, f1⟩ := g1.use; have z1 := g1.size; (try simp only [World.size_alloc, World.size_setCell, World.heap_drewN, Nat.add_one_le_iff] at z1); (try have l0 : w.heap.size < w1.heap.size := by omega); (try have l1 : w.heap.size + 1 < w1.heap.size := by omega); (try have l2 : w.heap.size + 1 + 1 < w1.heap.size := by omega)) | (go_at_call 56; refine (HS.out _ (by with_reducible assumption) u1 u2).mono ?_; rintro e w1 ⟨rfl, g1⟩; obtain ⟨X1, Y1, c1, f1⟩ := g1.use; have z1 := g1.size; (try simp only [World.size_alloc, World.size_setCell, World.heap_drewN, Nat.add_one_le_iff] at z1); (try have l0 : w.heap.size < w1.heap.size := by omega); (try have l1 : w.heap.size + 1 < w1.heap.size := by omega); (try have l2 : w.heap.size + 1 + 1 < w1.heap.size := by omega)) | (go_at_call 59; refine (withinBorder_any _ _ _ _ (by assumption)).mono ?_; rintro e w1 ⟨rfl, rfl⟩))
              all_goals first
                | (go_ret
                   exact ⟨ret_bool HE.out.symm, (by repeat (first | with_reducible exact Gr.refl _ | with_reducible assumption | with_reducible refine Gr.alloc ?_ _ | with_reducible refine Gr.drewN ?_ _ | with_reducible refine Gr.drew ?_ | with_reducible refine Gr.setCell ?_ (by first | (dsimp only; omega) | (simp only [World.size_alloc]; omega) | (with_reducible refine Gr.size ?_; (repeat (first | with_reducible exact Gr.refl _ | with_reducible assumption | with_reducible refine Gr.alloc ?_ _ | with_reducible refine Gr.drewN ?_ _ | with_reducible refine Gr.drew ?_ | with_reducible refine Gr.trans ?_ (by with_reducible assumption))); done)) _ | with_reducible refine Gr.trans ?_ (by with_reducible assumption)))⟩)
                | (exfalso
                   simp only [bne_iff_ne, ne_eq, bne_eq_false_iff_eq, beq_iff_eq, beq_eq_false_iff_ne] at *
                   omega)
            | true =>
              have HI' := hide (show ∀ j x, j < i + 1 → p.ho[j]? = some x → hoB p x = true by
                intro j x hj hx
                rcases Nat.lt_or_ge j i with h | h
                · exact HI.out j x h hx
                · obtain rfl : j = i := by omega
                  rw [hf] at hx
                  obtain rfl := Option.some.inj hx
                  unfold hoB
                  rw [hT, h1, h2]
                  simp only [Bool.true_and, Bool.and_true]
                  simpa using hk)
              generalize extW p f.fa = ew at *
              generalize extH p f.fa = eh at *
              go_wp2_with (first | (go_at_call 58; refine (hasFace_any _ _ _ _ _ _ _).mono ?_; rintro e w1 ⟨rfl, g1⟩; obtain ⟨X1, Y1, c1, f1⟩ := g1.use; have z1 := g1.size; (try simp only [World.size_alloc, World.size_setCell, World.heap_drewN, Nat.add_one_le_iff] at z1); (try have l0 : w.heap.size < w1.heap.size := by omega); (try have l1 : w.heap.size + 1 < w1.heap.size := by omega); (try have l2 : w.heap.size + 1 + 1 < w1.heap.size := by omega)) | (go_at_call 56; refine (HS.out _ (by with_reducible assumption) u1 u2).mono ?_; rintro e w1 ⟨rfl, g1⟩; obtain ⟨X1, Y1, c1, f1⟩ := g1.use; have z1 := g1.size; (try simp only [World.size_alloc, World.size_setCell, World.heap_drewN, Nat.add_one_le_iff] at z1); (try have l0 : w.heap.size < w1.heap.size := by omega); (try have l1 : w.heap.size + 1 < w1.heap.size := by omega); (try have l2 : w.heap.size + 1 + 1 < w1.heap.size := by omega)) | (go_at_call 59; refine (withinBorder_any _ _ _ _ (by assumption)).mono ?_; rintro e w1 ⟨rfl, rfl⟩))
              all_goals first
                | (go_roundw
                   case rel => exact ⟨i + 1, by omega, by go_num, (by repeat (first | with_reducible exact Gr.refl _ | with_reducible assumption | with_reducible refine Gr.alloc ?_ _ | with_reducible refine Gr.drewN ?_ _ | with_reducible refine Gr.drew ?_ | with_reducible refine Gr.setCell ?_ (by first | (dsimp only; omega) | (simp only [World.size_alloc]; omega) | (with_reducible refine Gr.size ?_; (repeat (first | with_reducible exact Gr.refl _ | with_reducible assumption | with_reducible refine Gr.alloc ?_ _ | with_reducible refine Gr.drewN ?_ _ | with_reducible refine Gr.drew ?_ | with_reducible refine Gr.trans ?_ (by with_reducible assumption))); done)) _ | with_reducible refine Gr.trans ?_ (by with_reducible assumption))), HI'⟩
                   case measure => simp only [intOf]; omega)
                | (exfalso
                   simp only [bne_iff_ne, ne_eq, bne_eq_false_iff_eq, beq_iff_eq, beq_eq_false_iff_ne] at *
                   omega)
        · have HE := hide (all_stop (f := hoB p) hf (by unfold hoB; rw [show (decide (f.kd = 1) || decide (f.kd = 2)) = false by simpa using hk]; simp))
          go_wp2_with (first | (go_at_call 58; refine (hasFace_any _ _ _ _ _ _ _).mono ?_; rintro e w1 ⟨rfl, g1⟩; obtain ⟨X1, Y1, c1, f1⟩ := g1.use; have z1 := g1.size; (try simp only [World.size_alloc, World.size_setCell, World.heap_drewN, Nat.add_one_le_iff] at z1); (try have l0 : w.heap.size < w1.heap.size := by omega); (try have l1 : w.heap.size + 1 < w1.heap.size := by omega); (try have l2 : w.heap.size + 1 + 1 < w1.heap.size := by omega)))
          all_goals first
            | (go_ret
               exact ⟨ret_bool HE.out.symm, (by repeat (first | with_reducible exact Gr.refl _ | with_reducible assumption | with_reducible refine Gr.alloc ?_ _ | with_reducible refine Gr.drewN ?_ _ | with_reducible refine Gr.drew ?_ | with_reducible refine Gr.setCell ?_ (by first | (dsimp only; omega) | (simp only [World.size_alloc]; omega) | (with_reducible refine Gr.size ?_; (repeat (first | with_reducible exact Gr.refl _ | with_reducible assumption | with_reducible refine Gr.alloc ?_ _ | with_reducible refine Gr.drewN ?_ _ | with_reducible refine Gr.drew ?_ | with_reducible refine Gr.trans ?_ (by with_reducible assumption))); done)) _ | with_reducible refine Gr.trans ?_ (by with_reducible assumption)))⟩)
            | (exfalso
               simp only [bne_iff_ne, ne_eq, bne_eq_false_iff_eq, beq_iff_eq, beq_eq_false_iff_ne] at *
               omega)
    · obtain rfl : i = p.ho.length := by omega
      have HE := hide (all_end (f := hoB p) (fun j x hj hx => HI.out j x hj hx))
      go_wp2
      go_ret
      exact ⟨ret_bool HE.out.symm, (by repeat (first | with_reducible exact Gr.refl _ | with_reducible assumption | with_reducible refine Gr.alloc ?_ _ | with_reducible refine Gr.drewN ?_ _ | with_reducible refine Gr.drew ?_ | with_reducible refine Gr.setCell ?_ (by first | (dsimp only; omega) | (simp only [World.size_alloc]; omega) | (with_reducible refine Gr.size ?_; (repeat (first | with_reducible exact Gr.refl _ | with_reducible assumption | with_reducible refine Gr.alloc ?_ _ | with_reducible refine Gr.drewN ?_ _ | with_reducible refine Gr.drew ?_ | with_reducible refine Gr.trans ?_ (by with_reducible assumption))); done)) _ | with_reducible refine Gr.trans ?_ (by with_reducible assumption)))⟩
end Go.Proofs.Ytefjgfglommefaa
set_option linter.unusedVariables false
set_option linter.unusedSimpArgs false
namespace Go.Proofs.Ytefjgfglommefaa
set_option linter.unusedVariables false
set_option linter.unusedSimpArgs false
open Go Go.ChangeShapes Go.WideShapes Go.ChangeAt Go.RowKit Go.Deep

/-- flanges whose sums do not wrap -/
def FlSm (g : Fl) : Prop := (1 ≤ g.wd ∧ g.wd ≤ 150) ∧ 0 ≤ g.o ∧ g.o ≤ 150
set_option maxRecDepth 100000 in
set_option maxHeartbeats 4000000 in
theorem anyF_any (A : Option Addr) (c : Nat) (l : List Fl) (w : World) (hF : SlF w A c l) (hs : ∀ g ∈ l, FlSm g) :
    Calls Try.prog 29 #[.slice A l.length c, .func (.func 30) #[] #[]] w fun e w' => e = .returned (.bool (anyB ovF l)) ∧ Gr w w' := by
  have hlen := hF.len
  have hcap := hF.cap
  have hcapB := hF.capB
  have HF := hide hF
  clear hF
  go_enter Try.func29, Try.ntmps29
  go_wp2
  go_loopw [11] (fun i wr => ∃ i' : Nat, i' ≤ l.length ∧ i = iv i' ∧ Gr w wr ∧ Hid (∀ i, i < i' → ∀ k a b, k < i → l[k]? = some a → l[i]? = some b → ovF a b = false)) (fun i _ => l.length - (intOf i).toNat)
  case atStart => exact ⟨0, by omega, rfl, Gr.refl _, by intro i hi; omega⟩
  case round =>
    obtain ⟨i, hi, rfl, g, HI⟩ := hrel
    obtain ⟨wo, rfl⟩ : ∃ wo, wo = wr := ⟨_, rfl⟩
    by_cases hlt : i < l.length
    · obtain ⟨f, hf⟩ : ∃ f, l[i]? = some f := ⟨_, List.getElem?_eq_getElem hlt⟩
      obtain ⟨b, off, hA, x0, x1, x2, x3, x4, x5, x6⟩ := (HF.out.gr g).rd.fl hf
      subst hA
      have hb : b < wo.heap.size := cell_lt (by rw [x0]; rfl)
      go_wp2
      have gB := g
      go_loopw [20] (fun k wk => ∃ k' : Nat, k' ≤ i ∧ k = iv k' ∧ Gr (wo.alloc (.cells #[.string f.nm, iv f.pa, iv f.sd, iv f.o, iv f.wd, iv f.ln, iv f.an] 27)) wk ∧ Hid (∀ k a, k < k' → l[k]? = some a → ovF a f = false)) (fun k _ => i - (intOf k).toNat)
      case atStart => exact ⟨0, by omega, rfl, Gr.refl _, by intro k a hk; omega⟩
      case round =>
        obtain ⟨k, hk, rfl, gk, HK⟩ := hrel
        obtain ⟨Xr, Yr, cr, fr⟩ := gk.use
        have zr := gk.size
        simp only [World.size_alloc] at zr
        have l0 : wo.heap.size < wr.heap.size := by omega
        have hbk : b < wr.heap.size := by omega
        by_cases hki : k < i
        · obtain ⟨a, ha⟩ : ∃ a, l[k]? = some a := ⟨_, List.getElem?_eq_getElem (by omega)⟩
          obtain ⟨b', off', hA', y0, y1, y2, y3, y4, y5, y6⟩ := (HF.out.gr g).rd.fl ha
          obtain ⟨rfl, rfl⟩ : b = b' ∧ off = off' := by simpa using hA'
          clear hA'
          have HV := hide (fun w => flangesOverlap_any a f w (hs a (List.mem_of_getElem? ha)).1 (hs a (List.mem_of_getElem? ha)).2 (hs f (List.mem_of_getElem? hf)).1 (hs f (List.mem_of_getElem? hf)).2)
          cases hv : ovF a f with
          | true =>
            have HB := hide (anyB_yes hki ha hf hv)
            rw [hv] at HV
            go_wp2_with (go_at_call 30; refine (HV.out _).mono ?_; rintro e w1 ⟨rfl, g1⟩; obtain ⟨X1, Y1, c1, f1⟩ := g1.use)
            go_ret
            exact ⟨ret_bool HB.out.symm, (by repeat (first | with_reducible exact Gr.refl _ | with_reducible assumption | with_reducible refine Gr.alloc ?_ _ | with_reducible refine Gr.drewN ?_ _ | with_reducible refine Gr.drew ?_ | with_reducible refine Gr.setCell ?_ (by first | (dsimp only; omega) | (simp only [World.size_alloc]; omega) | (with_reducible refine Gr.size ?_; (repeat (first | with_reducible exact Gr.refl _ | with_reducible assumption | with_reducible refine Gr.alloc ?_ _ | with_reducible refine Gr.drewN ?_ _ | with_reducible refine Gr.drew ?_ | with_reducible refine Gr.trans ?_ (by with_reducible assumption))); done)) _ | with_reducible refine Gr.trans ?_ (by with_reducible assumption)))⟩
          | false =>
            have HK' := hide (show ∀ j x, j < k + 1 → l[j]? = some x → ovF x f = false by
              intro j x hj hx
              rcases Nat.lt_or_ge j k with h | h
              · exact HK.out j x h hx
              · obtain rfl : j = k := by omega
                rw [ha] at hx
                obtain rfl := Option.some.inj hx
                exact hv)
            rw [hv] at HV
            go_wp2_with (go_at_call 30; refine (HV.out _).mono ?_; rintro e w1 ⟨rfl, g1⟩; obtain ⟨X1, Y1, c1, f1⟩ := g1.use)
            go_roundw
            case rel => exact ⟨k + 1, by omega, by go_num, (by repeat (first | with_reducible exact Gr.refl _ | with_reducible assumption | with_reducible refine Gr.alloc ?_ _ | with_reducible refine Gr.drewN ?_ _ | with_reducible refine Gr.drew ?_ | with_reducible refine Gr.setCell ?_ (by first | (dsimp only; omega) | (simp only [World.size_alloc]; omega) | (with_reducible refine Gr.size ?_; (repeat (first | with_reducible exact Gr.refl _ | with_reducible assumption | with_reducible refine Gr.alloc ?_ _ | with_reducible refine Gr.drewN ?_ _ | with_reducible refine Gr.drew ?_ | with_reducible refine Gr.trans ?_ (by with_reducible assumption))); done)) _ | with_reducible refine Gr.trans ?_ (by with_reducible assumption))), HK'⟩
            case measure => simp only [intOf]; omega
        · obtain rfl : k = i := by omega
          have HI' := hide (show ∀ j, j < k + 1 → ∀ m a b, m < j → l[m]? = some a → l[j]? = some b → ovF a b = false by
            intro j hj m a b hm hx hy
            rcases Nat.lt_or_ge j k with h | h
            · exact HI.out j h m a b hm hx hy
            · obtain rfl : j = k := by omega
              rw [hf] at hy
              obtain rfl := Option.some.inj hy
              exact HK.out m a hm hx)
          go_wp2
          go_roundw
          case rel => exact ⟨k + 1, by omega, by go_num, (by repeat (first | with_reducible exact Gr.refl _ | with_reducible assumption | with_reducible refine Gr.alloc ?_ _ | with_reducible refine Gr.drewN ?_ _ | with_reducible refine Gr.drew ?_ | with_reducible refine Gr.setCell ?_ (by first | (dsimp only; omega) | (simp only [World.size_alloc]; omega) | (with_reducible refine Gr.size ?_; (repeat (first | with_reducible exact Gr.refl _ | with_reducible assumption | with_reducible refine Gr.alloc ?_ _ | with_reducible refine Gr.drewN ?_ _ | with_reducible refine Gr.drew ?_ | with_reducible refine Gr.trans ?_ (by with_reducible assumption))); done)) _ | with_reducible refine Gr.trans ?_ (by with_reducible assumption))), HI'⟩
          case measure => simp only [intOf]; omega
    · obtain rfl : i = l.length := by omega
      have HB := hide (anyB_no HI.out)
      go_wp2
      go_ret
      exact ⟨ret_bool HB.out.symm, (by repeat (first | with_reducible exact Gr.refl _ | with_reducible assumption | with_reducible refine Gr.alloc ?_ _ | with_reducible refine Gr.drewN ?_ _ | with_reducible refine Gr.drew ?_ | with_reducible refine Gr.setCell ?_ (by first | (dsimp only; omega) | (simp only [World.size_alloc]; omega) | (with_reducible refine Gr.size ?_; (repeat (first | with_reducible exact Gr.refl _ | with_reducible assumption | with_reducible refine Gr.alloc ?_ _ | with_reducible refine Gr.drewN ?_ _ | with_reducible refine Gr.drew ?_ | with_reducible refine Gr.trans ?_ (by with_reducible assumption))); done)) _ | with_reducible refine Gr.trans ?_ (by with_reducible assumption)))⟩
end Go.Proofs.Ytefjgfglommefaa
set_option linter.unusedVariables false
set_option linter.unusedSimpArgs false
namespace Go.Proofs.Ytefjgfglommefaa
set_option linter.unusedVariables false
set_option linter.unusedSimpArgs false
open Go Go.ChangeShapes Go.WideShapes Go.ChangeAt Go.RowKit Go.Deep

theorem facs_congr {F : Fc → Fl → Bool → Fc} {w h : Int} {l : List Fl} {m m' : Nat → Bool} : ∀ {k : Nat}, (∀ i, i < k → m i = m' i) → facs F w h l m k = facs F w h l m' k
  | 0, _ => rfl
  | k + 1, hm => by
    unfold facs
    rw [facs_congr (k := k) (fun i hi => hm i (by omega)), hm k (by omega)]
theorem full_bit {n i : Nat} (h : i < n) : (2 ^ n - 1).testBit i = true := by
  rw [Nat.testBit_two_pow_sub_one]
  simpa using h
theorem facs_full (p : Pa) : facs flC p.wd p.ht p.fl (fun i => (2 ^ p.fl.length - 1).testBit i) p.fl.length = facs flC p.wd p.ht p.fl allT p.fl.length :=
  facs_congr fun i hi => full_bit hi
theorem full_val (n : Nat) (h : n ≤ 5) : wrap64 (wrap64 ((2 : Int) ^ n) - 1) = ((2 ^ n - 1 : Nat) : Int) := by
  rcases (by omega : n = 0 ∨ n = 1 ∨ n = 2 ∨ n = 3 ∨ n = 4 ∨ n = 5) with rfl | rfl | rfl | rfl | rfl | rfl <;> decide +kernel
theorem fullMask_any (p : Pa) (A B : Option Addr) (c d : Nat) (w : World) (h : p.fl.length ≤ 5) :
    Calls Try.prog 36 #[pav p A c B d] w fun e w' => e = .returned (iv ((2 ^ p.fl.length - 1 : Nat) : Int)) ∧ Gr w w' := by
  have HV := hide (full_val p.fl.length h)
  go_enter Try.func36, Try.ntmps36
  go_wp2
  go_ret
  exact ⟨ret_iv HV.out, (by repeat (first | with_reducible exact Gr.refl _ | with_reducible assumption | with_reducible refine Gr.alloc ?_ _ | with_reducible refine Gr.drewN ?_ _ | with_reducible refine Gr.drew ?_ | with_reducible refine Gr.setCell ?_ (by first | (dsimp only; omega) | (simp only [World.size_alloc]; omega) | (with_reducible refine Gr.size ?_; (repeat (first | with_reducible exact Gr.refl _ | with_reducible assumption | with_reducible refine Gr.alloc ?_ _ | with_reducible refine Gr.drewN ?_ _ | with_reducible refine Gr.drew ?_ | with_reducible refine Gr.trans ?_ (by with_reducible assumption))); done)) _ | with_reducible refine Gr.trans ?_ (by with_reducible assumption)))⟩
/-- what an argument that is a part gives the walks -/
structure PaW (w : World) (p : Pa) (A : Option Addr) (c : Nat) (B : Option Addr) (d : Nat) : Prop where
  fl : SlF w A c p.fl
  ho : SlH w B d p.ho
  nm : p.nm.size ≤ 1000
  mt : p.mt.size ≤ 1000
theorem PaW.gr {w w' : World} {p : Pa} {A : Option Addr} {c : Nat} {B : Option Addr} {d : Nat} (h : PaW w p A c B d) (g : Gr w w') : PaW w' p A c B d := ⟨h.fl.gr g, h.ho.gr g, h.nm, h.mt⟩
theorem valE_names {p : Pa} (h : (nameB p.nm.toList && nameB p.mt.toList) = false) : valE p = 2 := by
  unfold valE
  rw [h]
  rfl
theorem valE_base {p : Pa} (h : (nameB p.nm.toList && nameB p.mt.toList) = true) (hb : basB p = false) : valE p = 1 := by
  unfold valE
  rw [h, hb]
  rfl
theorem valE_large {p : Pa} (h : (nameB p.nm.toList && nameB p.mt.toList) = true) (hb : basB p = true) (hl : 5 < p.fl.length ∨ 6 < p.ho.length) : valE p = 4 := by
  unfold valE
  rw [h, hb]
  simp [hl]
/-- behind the limits -/
theorem valE_rest {p : Pa} (h : (nameB p.nm.toList && nameB p.mt.toList) = true) (hb : basB p = true) (hl : ¬ (5 < p.fl.length ∨ 6 < p.ho.length)) :
    valE p = if firE (flA p) p.fl.length ≠ 0 then firE (flA p) p.fl.length else if anyB ovF p.fl then 7 else if !(p.ho.all (hoB p)) then 1 else if anyB touB p.ho then 7 else if anyB clC (facs flC p.wd p.ht p.fl allT p.fl.length) then 6 else 0 := by
  unfold valE
  rw [h, hb]
  simp only [Bool.not_true, Bool.false_eq_true, if_false, hl]
set_option maxRecDepth 100000 in
set_option maxHeartbeats 4000000 in
theorem validate_early (p : Pa) (A B : Option Addr) (c d : Nat) (w : World) (hP : PaW w p A c B d) (h : (nameB p.nm.toList && nameB p.mt.toList) = false ∨ basB p = false ∨ 5 < p.fl.length ∨ 6 < p.ho.length) :
    Calls Try.prog 14 #[pav p A c B d] w fun e w' => e = .returned (iv (valE p)) ∧ Gr w w' := by
  have hn := hP.nm
  have hm := hP.mt
  have HP := hide hP
  clear hP
  cases h1 : nameB p.nm.toList with
  | false =>
    have HE := hide (valE_names (p := p) (by rw [h1]; rfl))
    go_enter Try.func14, Try.ntmps14
    go_wp2_with (first | (go_at_call 13; refine (validName_any _ _ (by omega)).mono ?_; rintro e w1 ⟨rfl, rfl⟩))
    go_ret
    exact ⟨ret_iv HE.out.symm, (by repeat (first | with_reducible exact Gr.refl _ | with_reducible assumption | with_reducible refine Gr.alloc ?_ _ | with_reducible refine Gr.drewN ?_ _ | with_reducible refine Gr.drew ?_ | with_reducible refine Gr.setCell ?_ (by first | (dsimp only; omega) | (simp only [World.size_alloc]; omega) | (with_reducible refine Gr.size ?_; (repeat (first | with_reducible exact Gr.refl _ | with_reducible assumption | with_reducible refine Gr.alloc ?_ _ | with_reducible refine Gr.drewN ?_ _ | with_reducible refine Gr.drew ?_ | with_reducible refine Gr.trans ?_ (by with_reducible assumption))); done)) _ | with_reducible refine Gr.trans ?_ (by with_reducible assumption)))⟩
  | true =>
    cases h2 : nameB p.mt.toList with
    | false =>
      have HE := hide (valE_names (p := p) (by rw [h1, h2]; rfl))
      go_enter Try.func14, Try.ntmps14
      go_wp2_with (first | (go_at_call 13; refine (validName_any _ _ (by omega)).mono ?_; rintro e w1 ⟨rfl, rfl⟩))
      go_ret
      exact ⟨ret_iv HE.out.symm, (by repeat (first | with_reducible exact Gr.refl _ | with_reducible assumption | with_reducible refine Gr.alloc ?_ _ | with_reducible refine Gr.drewN ?_ _ | with_reducible refine Gr.drew ?_ | with_reducible refine Gr.setCell ?_ (by first | (dsimp only; omega) | (simp only [World.size_alloc]; omega) | (with_reducible refine Gr.size ?_; (repeat (first | with_reducible exact Gr.refl _ | with_reducible assumption | with_reducible refine Gr.alloc ?_ _ | with_reducible refine Gr.drewN ?_ _ | with_reducible refine Gr.drew ?_ | with_reducible refine Gr.trans ?_ (by with_reducible assumption))); done)) _ | with_reducible refine Gr.trans ?_ (by with_reducible assumption)))⟩
    | true =>
      cases h3 : basB p with
      | false =>
        have HE := hide (valE_base (p := p) (by rw [h1, h2]; rfl) h3)
        go_enter Try.func14, Try.ntmps14
        go_wp2_with (first | (go_at_call 13; refine (validName_any _ _ (by omega)).mono ?_; rintro e w1 ⟨rfl, rfl⟩) | (go_at_call 27; refine (validBase_any _ _ _ _ _ _).mono ?_; rintro e w1 ⟨rfl, g1⟩; obtain ⟨X1, Y1, c1, f1⟩ := g1.use; have z1 := g1.size; (try simp only [World.size_alloc, World.size_setCell, World.heap_drewN, Nat.add_one_le_iff] at z1); (try have l0 : w.heap.size < w1.heap.size := by omega); (try have l1 : w.heap.size + 1 < w1.heap.size := by omega); (try have l2 : w.heap.size + 1 + 1 < w1.heap.size := by omega)))
        go_ret
        exact ⟨ret_iv HE.out.symm, (by repeat (first | with_reducible exact Gr.refl _ | with_reducible assumption | with_reducible refine Gr.alloc ?_ _ | with_reducible refine Gr.drewN ?_ _ | with_reducible refine Gr.drew ?_ | with_reducible refine Gr.setCell ?_ (by first | (dsimp only; omega) | (simp only [World.size_alloc]; omega) | (with_reducible refine Gr.size ?_; (repeat (first | with_reducible exact Gr.refl _ | with_reducible assumption | with_reducible refine Gr.alloc ?_ _ | with_reducible refine Gr.drewN ?_ _ | with_reducible refine Gr.drew ?_ | with_reducible refine Gr.trans ?_ (by with_reducible assumption))); done)) _ | with_reducible refine Gr.trans ?_ (by with_reducible assumption)))⟩
      | true =>
        have hl : 5 < p.fl.length ∨ 6 < p.ho.length := by
          rcases h with h | h | h
          · rw [h1, h2] at h; cases h
          · rw [h3] at h; cases h
          · exact h
        have HE := hide (valE_large (p := p) (by rw [h1, h2]; rfl) h3 hl)
        clear h
        by_cases hl5 : 5 < p.fl.length
        · clear hl
          go_enter Try.func14, Try.ntmps14
          go_wp2_with (first | (go_at_call 13; refine (validName_any _ _ (by omega)).mono ?_; rintro e w1 ⟨rfl, rfl⟩) | (go_at_call 27; refine (validBase_any _ _ _ _ _ _).mono ?_; rintro e w1 ⟨rfl, g1⟩; obtain ⟨X1, Y1, c1, f1⟩ := g1.use; have z1 := g1.size; (try simp only [World.size_alloc, World.size_setCell, World.heap_drewN, Nat.add_one_le_iff] at z1); (try have l0 : w.heap.size < w1.heap.size := by omega); (try have l1 : w.heap.size + 1 < w1.heap.size := by omega); (try have l2 : w.heap.size + 1 + 1 < w1.heap.size := by omega)))
          go_ret
          exact ⟨ret_iv HE.out.symm, (by repeat (first | with_reducible exact Gr.refl _ | with_reducible assumption | with_reducible refine Gr.alloc ?_ _ | with_reducible refine Gr.drewN ?_ _ | with_reducible refine Gr.drew ?_ | with_reducible refine Gr.setCell ?_ (by first | (dsimp only; omega) | (simp only [World.size_alloc]; omega) | (with_reducible refine Gr.size ?_; (repeat (first | with_reducible exact Gr.refl _ | with_reducible assumption | with_reducible refine Gr.alloc ?_ _ | with_reducible refine Gr.drewN ?_ _ | with_reducible refine Gr.drew ?_ | with_reducible refine Gr.trans ?_ (by with_reducible assumption))); done)) _ | with_reducible refine Gr.trans ?_ (by with_reducible assumption)))⟩
        · have hl6 : 6 < p.ho.length := by omega
          clear hl
          go_enter Try.func14, Try.ntmps14
          go_wp2_with (first | (go_at_call 13; refine (validName_any _ _ (by omega)).mono ?_; rintro e w1 ⟨rfl, rfl⟩) | (go_at_call 27; refine (validBase_any _ _ _ _ _ _).mono ?_; rintro e w1 ⟨rfl, g1⟩; obtain ⟨X1, Y1, c1, f1⟩ := g1.use; have z1 := g1.size; (try simp only [World.size_alloc, World.size_setCell, World.heap_drewN, Nat.add_one_le_iff] at z1); (try have l0 : w.heap.size < w1.heap.size := by omega); (try have l1 : w.heap.size + 1 < w1.heap.size := by omega); (try have l2 : w.heap.size + 1 + 1 < w1.heap.size := by omega)))
          go_ret
          exact ⟨ret_iv HE.out.symm, (by repeat (first | with_reducible exact Gr.refl _ | with_reducible assumption | with_reducible refine Gr.alloc ?_ _ | with_reducible refine Gr.drewN ?_ _ | with_reducible refine Gr.drew ?_ | with_reducible refine Gr.setCell ?_ (by first | (dsimp only; omega) | (simp only [World.size_alloc]; omega) | (with_reducible refine Gr.size ?_; (repeat (first | with_reducible exact Gr.refl _ | with_reducible assumption | with_reducible refine Gr.alloc ?_ _ | with_reducible refine Gr.drewN ?_ _ | with_reducible refine Gr.drew ?_ | with_reducible refine Gr.trans ?_ (by with_reducible assumption))); done)) _ | with_reducible refine Gr.trans ?_ (by with_reducible assumption)))⟩
end Go.Proofs.Ytefjgfglommefaa
set_option linter.unusedVariables false
set_option linter.unusedSimpArgs false
namespace Go.Proofs.Ytefjgfglommefaa
set_option linter.unusedVariables false
set_option linter.unusedSimpArgs false
open Go Go.ChangeShapes Go.WideShapes Go.ChangeAt Go.RowKit Go.Deep

set_option maxRecDepth 100000 in
set_option maxHeartbeats 1000000 in
theorem extent_any (p : Pa) (A B : Option Addr) (c d : Nat) (n : Int) (w : World) (hF : SlF w A c p.fl) (h0 : 0 ≤ n) (h1 : n ≤ p.fl.length) :
    Calls Try.prog 73 #[pav p A c B d, iv n] w fun e w' => e = .returned (.tuple #[iv (extW p n), iv (extH p n)]) ∧ Gr w w' := by
  by_cases hn : n = 0
  · subst hn
    rw [show extW p 0 = p.wd from rfl, show extH p 0 = p.ht from rfl]
    clear h0 h1 hF
    go_enter Try.func73, Try.ntmps73
    go_upto_region 2 with fail
    have GC := @GrW.cell
    refine wp_region_grw _ (by kernel_rfl) (by kernel_rfl) (Gr.refl _) ?_
    repeat (go_big_quiet_step ((first | fail)))
    refine wpQuiet_nil ?_
    intro wq hwq
    obtain ⟨gq, hwq'⟩ := hwq
    subst hwq'
    clear GC
    have gq1 := gq.gr
    generalize gq.w = wq at gq1 ⊢
    obtain ⟨Xq, Yq, cq, fq⟩ := gq1.use
    have sq := gq1.size
    (try simp only [World.size_alloc, World.size_setCell, World.heap_drewN] at sq)
    go_wp2
    go_ret2
    exact ⟨rfl, (by repeat (first | with_reducible exact Gr.refl _ | with_reducible assumption | with_reducible refine Gr.alloc ?_ _ | with_reducible refine Gr.drewN ?_ _ | with_reducible refine Gr.drew ?_ | with_reducible refine Gr.setCell ?_ (by first | (dsimp only; omega) | (simp only [World.size_alloc]; omega) | (with_reducible refine Gr.size ?_; (repeat (first | with_reducible exact Gr.refl _ | with_reducible assumption | with_reducible refine Gr.alloc ?_ _ | with_reducible refine Gr.drewN ?_ _ | with_reducible refine Gr.drew ?_ | with_reducible refine Gr.trans ?_ (by with_reducible assumption))); done)) _ | with_reducible refine Gr.trans ?_ (by with_reducible assumption)))⟩
  · obtain ⟨k, rfl⟩ : ∃ k : Nat, n = (k : Int) + 1 := ⟨(n - 1).toNat, by omega⟩
    obtain ⟨f, hf⟩ : ∃ f, p.fl[k]? = some f := ⟨_, List.getElem?_eq_getElem (by omega)⟩
    have e1 : extW p (k + 1) = f.wd := by unfold extW; rw [if_neg hn, show ((k : Int) + 1 - 1).toNat = k by omega, hf]; rfl
    have e2 : extH p (k + 1) = f.ln := by unfold extH; rw [if_neg hn, show ((k : Int) + 1 - 1).toNat = k by omega, hf]; rfl
    rw [e1, e2]
    have hlen := hF.len
    have hkl : k < p.fl.length := by omega
    obtain ⟨b, off, rfl, x0, x1, x2, x3, x4, x5, x6⟩ := hF.rd.fl hf
    have hb : b < w.heap.size := cell_lt (by rw [x0]; rfl)
    have W1 : IntKind.i64.wrap ((k : Int) + 1 - 1) = k := by rw [IntWalk.i64_in _ (by omega)]; omega
    have W2 : IntKind.i64.wrap (k : Int) = k := IntWalk.i64_in _ (by omega)
    have hi0 : (0 : Int) ≤ (k : Int) := by omega
    have hi1 : (k : Int) < (p.fl.length : Int) := by omega
    have hn2 : ((k : Int) + 1 == 0) = false := by simpa using hn
    clear h0 h1 hF hf e1 e2 hn
    go_enter Try.func73, Try.ntmps73
    go_upto_region 3 with fail
    have GC := @GrW.cell
    refine wp_region_grw _ (by kernel_rfl) (by kernel_rfl) (Gr.refl _) ?_
    repeat (go_big_quiet_step ((first | fail)))
    refine wpQuiet_nil ?_
    intro wq hwq
    obtain ⟨gq, hwq'⟩ := hwq
    subst hwq'
    clear GC
    have gq1 := gq.gr
    generalize gq.w = wq at gq1 ⊢
    obtain ⟨Xq, Yq, cq, fq⟩ := gq1.use
    have sq := gq1.size
    (try simp only [World.size_alloc, World.size_setCell, World.heap_drewN] at sq)
    go_wp2
    go_ret2
    exact ⟨rfl, (by repeat (first | with_reducible exact Gr.refl _ | with_reducible assumption | with_reducible refine Gr.alloc ?_ _ | with_reducible refine Gr.drewN ?_ _ | with_reducible refine Gr.drew ?_ | with_reducible refine Gr.setCell ?_ (by first | (dsimp only; omega) | (simp only [World.size_alloc]; omega) | (with_reducible refine Gr.size ?_; (repeat (first | with_reducible exact Gr.refl _ | with_reducible assumption | with_reducible refine Gr.alloc ?_ _ | with_reducible refine Gr.drewN ?_ _ | with_reducible refine Gr.drew ?_ | with_reducible refine Gr.trans ?_ (by with_reducible assumption))); done)) _ | with_reducible refine Gr.trans ?_ (by with_reducible assumption)))⟩
theorem side_any (p : Pa) (A B : Option Addr) (c d : Nat) (n s : Int) (w : World) (hF : SlF w A c p.fl) (h0 : 0 ≤ n) (h1 : n ≤ p.fl.length) :
    Calls Try.prog 96 #[pav p A c B d, iv n, iv s] w fun e w' => e = .returned (iv (sidL p n s)) ∧ Gr w w' := by
  have HX := hide (fun (w' : World) (g : Gr w w') => extent_any p A B c d n w' (hF.gr g) h0 h1)
  clear hF h0 h1
  by_cases hs : s = 0 ∨ s = 2
  · have HE := hide (show sidL p n s = extH p n by unfold sidL; rw [if_pos hs])
    go_enter Try.func96, Try.ntmps96
    go_wp2_with fail
    refine (HX.out _ (by repeat (first | with_reducible exact Gr.refl _ | with_reducible assumption | with_reducible refine Gr.alloc ?_ _ | with_reducible refine Gr.drewN ?_ _ | with_reducible refine Gr.drew ?_ | with_reducible refine Gr.setCell ?_ (by first | (dsimp only; omega) | (simp only [World.size_alloc]; omega) | (with_reducible refine Gr.size ?_; (repeat (first | with_reducible exact Gr.refl _ | with_reducible assumption | with_reducible refine Gr.alloc ?_ _ | with_reducible refine Gr.drewN ?_ _ | with_reducible refine Gr.drew ?_ | with_reducible refine Gr.trans ?_ (by with_reducible assumption))); done)) _ | with_reducible refine Gr.trans ?_ (by with_reducible assumption)))).mono ?_
    rintro e w2 ⟨rfl, g2⟩
    go_wp2_with fail
    all_goals first
      | (go_ret
         exact ⟨ret_iv HE.out.symm, (by repeat (first | with_reducible exact Gr.refl _ | with_reducible assumption | with_reducible refine Gr.alloc ?_ _ | with_reducible refine Gr.drewN ?_ _ | with_reducible refine Gr.drew ?_ | with_reducible refine Gr.setCell ?_ (by first | (dsimp only; omega) | (simp only [World.size_alloc]; omega) | (with_reducible refine Gr.size ?_; (repeat (first | with_reducible exact Gr.refl _ | with_reducible assumption | with_reducible refine Gr.alloc ?_ _ | with_reducible refine Gr.drewN ?_ _ | with_reducible refine Gr.drew ?_ | with_reducible refine Gr.trans ?_ (by with_reducible assumption))); done)) _ | with_reducible refine Gr.trans ?_ (by with_reducible assumption)))⟩)
      | (exfalso
         simp at *
         omega)
  · have HE := hide (show sidL p n s = extW p n by unfold sidL; rw [if_neg hs])
    have hs0 : (s == 0) = false := by simp; omega
    have hs2 : (s == 2) = false := by simp; omega
    go_enter Try.func96, Try.ntmps96
    go_wp2_with fail
    refine (HX.out _ (by repeat (first | with_reducible exact Gr.refl _ | with_reducible assumption | with_reducible refine Gr.alloc ?_ _ | with_reducible refine Gr.drewN ?_ _ | with_reducible refine Gr.drew ?_ | with_reducible refine Gr.setCell ?_ (by first | (dsimp only; omega) | (simp only [World.size_alloc]; omega) | (with_reducible refine Gr.size ?_; (repeat (first | with_reducible exact Gr.refl _ | with_reducible assumption | with_reducible refine Gr.alloc ?_ _ | with_reducible refine Gr.drewN ?_ _ | with_reducible refine Gr.drew ?_ | with_reducible refine Gr.trans ?_ (by with_reducible assumption))); done)) _ | with_reducible refine Gr.trans ?_ (by with_reducible assumption)))).mono ?_
    rintro e w2 ⟨rfl, g2⟩
    go_wp2_with fail
    go_ret
    exact ⟨ret_iv HE.out.symm, (by repeat (first | with_reducible exact Gr.refl _ | with_reducible assumption | with_reducible refine Gr.alloc ?_ _ | with_reducible refine Gr.drewN ?_ _ | with_reducible refine Gr.drew ?_ | with_reducible refine Gr.setCell ?_ (by first | (dsimp only; omega) | (simp only [World.size_alloc]; omega) | (with_reducible refine Gr.size ?_; (repeat (first | with_reducible exact Gr.refl _ | with_reducible assumption | with_reducible refine Gr.alloc ?_ _ | with_reducible refine Gr.drewN ?_ _ | with_reducible refine Gr.drew ?_ | with_reducible refine Gr.trans ?_ (by with_reducible assumption))); done)) _ | with_reducible refine Gr.trans ?_ (by with_reducible assumption)))⟩
end Go.Proofs.Ytefjgfglommefaa
set_option linter.unusedVariables false
set_option linter.unusedSimpArgs false
namespace Go.Proofs.Ytefjgfglommefaa
set_option linter.unusedVariables false
set_option linter.unusedSimpArgs false
open Go Go.ChangeShapes Go.WideShapes Go.ChangeAt Go.RowKit Go.Deep

theorem flSm_of {p : Pa} (h : FlOk p p.fl.length) : ∀ g ∈ p.fl, FlSm g := by
  intro g hg
  obtain ⟨i, hi⟩ := List.mem_iff_getElem?.1 hg
  obtain ⟨_, _, _, a, _, b⟩ := h.fl i g (List.getElem?_eq_some_iff.1 hi).1 hi
  exact ⟨a, b⟩
theorem flA_at {p : Pa} {k : Nat} {f : Fl} (h : p.fl[k]? = some f) : flA p k = flE p k f := by
  unfold flA
  rw [h]
theorem slC_of {w : World} {base : Nat} {A : Option Addr} {d : Nat} {xs : List Fc} (h : OwnL w base 44 11 fcL (.slice A xs.length d) xs) (hl : xs.length ≤ 1000) : SlC w A d xs := by
  obtain ⟨-, h1, h2, h3⟩ := OwnL.rdC h
  exact ⟨h1, h2, by unfold maxLen at h3; omega, hl⟩
set_option maxRecDepth 100000 in
set_option maxHeartbeats 4000000 in
theorem validate_late (p : Pa) (A B : Option Addr) (c d : Nat) (w : World) (hP : PaW w p A c B d) (h : (nameB p.nm.toList && nameB p.mt.toList) = true) (hb : basB p = true) (hl : ¬ (5 < p.fl.length ∨ 6 < p.ho.length)) :
    Calls Try.prog 14 #[pav p A c B d] w fun e w' => e = .returned (iv (valE p)) ∧ Gr w w' := by
  have hn := hP.nm
  have hm := hP.mt
  have HP := hide hP
  have HE := hide (valE_rest h hb hl)
  have HB := hide hb
  have hl5 : p.fl.length ≤ 5 := by omega
  have hl6 : p.ho.length ≤ 6 := by omega
  simp only [Bool.and_eq_true] at h
  obtain ⟨h1, h2⟩ := h
  clear hP hl
  go_enter Try.func14, Try.ntmps14
  go_upto_region 8 with (first | (go_at_call 13; refine (validName_any _ _ (by omega)).mono ?_; rintro e w1 ⟨rfl, rfl⟩) | (go_at_call 27; refine (validBase_any _ _ _ _ _ _).mono ?_; rintro e w1 ⟨rfl, g1⟩; obtain ⟨X1, Y1, c1, f1⟩ := g1.use; have z1 := g1.size; (try simp only [World.size_alloc, World.size_setCell, World.heap_drewN, Nat.add_one_le_iff] at z1); (try have l0 : w.heap.size < w1.heap.size := by omega); (try have l1 : w.heap.size + 1 < w1.heap.size := by omega); (try have l2 : w.heap.size + 1 + 1 < w1.heap.size := by omega)))
  have g01 : Gr (w.alloc (.cells #[.string p.nm, .string p.mt, iv p.ga, iv p.gr, iv p.wd, iv p.ht, .slice A p.fl.length c, .slice B p.ho.length d] 25)) w1 := (by repeat (first | with_reducible exact Gr.refl _ | with_reducible assumption | with_reducible refine Gr.alloc ?_ _ | with_reducible refine Gr.drewN ?_ _ | with_reducible refine Gr.drew ?_ | with_reducible refine Gr.setCell ?_ (by first | (dsimp only; omega) | (simp only [World.size_alloc]; omega) | (with_reducible refine Gr.size ?_; (repeat (first | with_reducible exact Gr.refl _ | with_reducible assumption | with_reducible refine Gr.alloc ?_ _ | with_reducible refine Gr.drewN ?_ _ | with_reducible refine Gr.drew ?_ | with_reducible refine Gr.trans ?_ (by with_reducible assumption))); done)) _ | with_reducible refine Gr.trans ?_ (by with_reducible assumption)))
  go_wp2
  clear c1 f1 g1
  obtain ⟨wS, rfl⟩ : ∃ wS, wS = w1 := ⟨_, rfl⟩
  go_loopw [34] (fun i wr => ∃ k : Nat, k ≤ p.fl.length ∧ i = iv k ∧ Gr (w.alloc (.cells #[.string p.nm, .string p.mt, iv p.ga, iv p.gr, iv p.wd, iv p.ht, .slice A p.fl.length c, .slice B p.ho.length d] 25)) wr ∧ Hid (FlOk p k) ∧ Hid (∀ j, j < k → flA p j = 0)) (fun i _ => p.fl.length - (intOf i).toNat)
  case atStart => exact ⟨0, by omega, rfl, g01, FlOk.zero HB.out, by intro j hj; omega⟩
  case round =>
    obtain ⟨k, hk, rfl, g, HOK, HZ⟩ := hrel
    clear g01
    have gW : Gr w wr := (by repeat (first | with_reducible exact Gr.refl _ | with_reducible assumption | with_reducible refine Gr.alloc ?_ _ | with_reducible refine Gr.drewN ?_ _ | with_reducible refine Gr.drew ?_ | with_reducible refine Gr.setCell ?_ (by first | (dsimp only; omega) | (simp only [World.size_alloc]; omega) | (with_reducible refine Gr.size ?_; (repeat (first | with_reducible exact Gr.refl _ | with_reducible assumption | with_reducible refine Gr.alloc ?_ _ | with_reducible refine Gr.drewN ?_ _ | with_reducible refine Gr.drew ?_ | with_reducible refine Gr.trans ?_ (by with_reducible assumption))); done)) _ | with_reducible refine Gr.trans ?_ (by with_reducible assumption)))
    obtain ⟨Xr, Yr, cr, fr⟩ := g.use
    have zr := g.size
    simp only [World.size_alloc] at zr
    have l0 : w.heap.size < wr.heap.size := by omega
    by_cases hkl : k < p.fl.length
    · obtain ⟨f, hf⟩ : ∃ f, p.fl[k]? = some f := ⟨_, List.getElem?_eq_getElem hkl⟩
      have HC := hide (checkFlange_any p A B c d k f wr (HP.out.fl.gr gW) hf HOK.out)
      have HF := hide hf
      by_cases h0 : flE p k f = 0
      · have HO' := hide (HOK.out.succ hf h0)
        have HZ' := hide (show ∀ j, j < k + 1 → flA p j = 0 by
          intro j hj
          rcases Nat.lt_or_ge j k with h | h
          · exact HZ.out j h
          · obtain rfl : j = k := by omega
            rw [flA_at HF.out, h0])
        rw [h0] at HC
        clear hf
        go_wp2_with fail
        refine HC.out.mono ?_
        rintro e w2 ⟨rfl, g2⟩
        go_wp2_with fail
        go_roundw
        case rel => exact ⟨k + 1, by omega, by go_num, (by repeat (first | with_reducible exact Gr.refl _ | with_reducible assumption | with_reducible refine Gr.alloc ?_ _ | with_reducible refine Gr.drewN ?_ _ | with_reducible refine Gr.drew ?_ | with_reducible refine Gr.setCell ?_ (by first | (dsimp only; omega) | (simp only [World.size_alloc]; omega) | (with_reducible refine Gr.size ?_; (repeat (first | with_reducible exact Gr.refl _ | with_reducible assumption | with_reducible refine Gr.alloc ?_ _ | with_reducible refine Gr.drewN ?_ _ | with_reducible refine Gr.drew ?_ | with_reducible refine Gr.trans ?_ (by with_reducible assumption))); done)) _ | with_reducible refine Gr.trans ?_ (by with_reducible assumption))), HO', HZ'⟩
        case measure => simp only [intOf]; omega
      · have HE3 := hide (show valE p = flE p k f by
          have := firE_at (e := flA p) (k := k) (fun j hj => HZ.out j hj) (by rw [flA_at HF.out]; exact h0) hkl
          rw [HE.out, this, flA_at HF.out, if_pos h0])
        have h0' : (flE p k f != 0) = true := by simpa using h0
        clear hf
        generalize flE p k f = x at *
        go_wp2_with fail
        refine HC.out.mono ?_
        rintro e w2 ⟨rfl, g2⟩
        go_wp2_with fail
        go_ret
        exact ⟨ret_iv HE3.out.symm, (by repeat (first | with_reducible exact Gr.refl _ | with_reducible assumption | with_reducible refine Gr.alloc ?_ _ | with_reducible refine Gr.drewN ?_ _ | with_reducible refine Gr.drew ?_ | with_reducible refine Gr.setCell ?_ (by first | (dsimp only; omega) | (simp only [World.size_alloc]; omega) | (with_reducible refine Gr.size ?_; (repeat (first | with_reducible exact Gr.refl _ | with_reducible assumption | with_reducible refine Gr.alloc ?_ _ | with_reducible refine Gr.drewN ?_ _ | with_reducible refine Gr.drew ?_ | with_reducible refine Gr.trans ?_ (by with_reducible assumption))); done)) _ | with_reducible refine Gr.trans ?_ (by with_reducible assumption)))⟩
    · obtain rfl : k = p.fl.length := by omega
      have ok := HOK.out
      have HE2 := hide (show valE p = if anyB ovF p.fl then 7 else if !(p.ho.all (hoB p)) then 1 else if anyB touB p.ho then 7 else if anyB clC (facs flC p.wd p.ht p.fl allT p.fl.length) then 6 else 0 by
        rw [HE.out, firE_none (fun j hj => HZ.out j hj)]; rfl)
      have HAF := hide (fun (w' : World) (g : Gr w w') => anyF_any A c p.fl w' (HP.out.fl.gr g) (flSm_of ok))
      have HVH := hide (fun (w' : World) (g : Gr w w') => validHoles_any p A B c d w' (HP.out.fl.gr g) (HP.out.ho.gr g) ok)
      have HAH := hide (fun (w' : World) (g : Gr w w') => anyH_any B d p.ho w' (HP.out.ho.gr g))
      have HFC := hide (fun (w' : World) (g : Gr w w') => faces_any p A B c d (2 ^ p.fl.length - 1) w' (HP.out.fl.gr g) hl5 (by have : 2 ^ p.fl.length ≤ 2 ^ 5 := Nat.pow_le_pow_right (by omega) hl5; omega) ok.fit)
      clear ok HE HZ HOK hb
      cases e1 : anyB ovF p.fl with
      | true =>
        have HE3 := hide (show valE p = 7 by rw [HE2.out, e1]; rfl)
        rw [e1] at HAF
        clear e1 HE2
        go_wp2_with fail
        refine (HAF.out _ gW).mono ?_
        rintro e w2 ⟨rfl, g2⟩
        have q2 := g2.size
        obtain ⟨X2, Y2, c2, f2⟩ := g2.use
        go_wp2_with fail
        go_ret
        exact ⟨ret_iv HE3.out.symm, (by repeat (first | with_reducible exact Gr.refl _ | with_reducible assumption | with_reducible refine Gr.alloc ?_ _ | with_reducible refine Gr.drewN ?_ _ | with_reducible refine Gr.drew ?_ | with_reducible refine Gr.setCell ?_ (by first | (dsimp only; omega) | (simp only [World.size_alloc]; omega) | (with_reducible refine Gr.size ?_; (repeat (first | with_reducible exact Gr.refl _ | with_reducible assumption | with_reducible refine Gr.alloc ?_ _ | with_reducible refine Gr.drewN ?_ _ | with_reducible refine Gr.drew ?_ | with_reducible refine Gr.trans ?_ (by with_reducible assumption))); done)) _ | with_reducible refine Gr.trans ?_ (by with_reducible assumption)))⟩
      | false =>
        rw [e1] at HAF HE2
        cases e2 : p.ho.all (hoB p) with
        | false =>
          have HE3 := hide (show valE p = 1 by rw [HE2.out, e2]; rfl)
          rw [e2] at HVH
          clear e1 e2 HE2
          go_wp2_with fail
          refine (HAF.out _ gW).mono ?_
          rintro e w2 ⟨rfl, g2⟩
          have q2 := g2.size
          obtain ⟨X2, Y2, c2, f2⟩ := g2.use
          have m2 : w.heap.size < w2.heap.size := by omega
          go_wp2_with fail
          refine (HVH.out _ (gW.trans g2)).mono ?_
          rintro e w3 ⟨rfl, g3⟩
          have q3 := g3.size
          obtain ⟨X3, Y3, c3, f3⟩ := g3.use
          go_wp2_with fail
          go_ret
          exact ⟨ret_iv HE3.out.symm, (by repeat (first | with_reducible exact Gr.refl _ | with_reducible assumption | with_reducible refine Gr.alloc ?_ _ | with_reducible refine Gr.drewN ?_ _ | with_reducible refine Gr.drew ?_ | with_reducible refine Gr.setCell ?_ (by first | (dsimp only; omega) | (simp only [World.size_alloc]; omega) | (with_reducible refine Gr.size ?_; (repeat (first | with_reducible exact Gr.refl _ | with_reducible assumption | with_reducible refine Gr.alloc ?_ _ | with_reducible refine Gr.drewN ?_ _ | with_reducible refine Gr.drew ?_ | with_reducible refine Gr.trans ?_ (by with_reducible assumption))); done)) _ | with_reducible refine Gr.trans ?_ (by with_reducible assumption)))⟩
        | true =>
          rw [e2] at HVH HE2
          cases e3 : anyB touB p.ho with
          | true =>
            have HE3 := hide (show valE p = 7 by rw [HE2.out, e3]; rfl)
            rw [e3] at HAH
            clear e1 e2 e3 HE2
            go_wp2_with fail
            refine (HAF.out _ gW).mono ?_
            rintro e w2 ⟨rfl, g2⟩
            have q2 := g2.size
            obtain ⟨X2, Y2, c2, f2⟩ := g2.use
            have m2 : w.heap.size < w2.heap.size := by omega
            go_wp2_with fail
            refine (HVH.out _ (gW.trans g2)).mono ?_
            rintro e w3 ⟨rfl, g3⟩
            have q3 := g3.size
            obtain ⟨X3, Y3, c3, f3⟩ := g3.use
            have m3 : w.heap.size < w3.heap.size := by omega
            go_wp2_with fail
            refine (HAH.out _ ((gW.trans g2).trans g3)).mono ?_
            rintro e w4 ⟨rfl, g4⟩
            have q4 := g4.size
            obtain ⟨X4, Y4, c4, f4⟩ := g4.use
            go_wp2_with fail
            go_ret
            exact ⟨ret_iv HE3.out.symm, (by repeat (first | with_reducible exact Gr.refl _ | with_reducible assumption | with_reducible refine Gr.alloc ?_ _ | with_reducible refine Gr.drewN ?_ _ | with_reducible refine Gr.drew ?_ | with_reducible refine Gr.setCell ?_ (by first | (dsimp only; omega) | (simp only [World.size_alloc]; omega) | (with_reducible refine Gr.size ?_; (repeat (first | with_reducible exact Gr.refl _ | with_reducible assumption | with_reducible refine Gr.alloc ?_ _ | with_reducible refine Gr.drewN ?_ _ | with_reducible refine Gr.drew ?_ | with_reducible refine Gr.trans ?_ (by with_reducible assumption))); done)) _ | with_reducible refine Gr.trans ?_ (by with_reducible assumption)))⟩
          | false =>
            rw [e3] at HAH HE2
            clear e1 e2 e3
            go_wp2_with fail
            refine (HAF.out _ gW).mono ?_
            rintro e w2 ⟨rfl, g2⟩
            have q2 := g2.size
            obtain ⟨X2, Y2, c2, f2⟩ := g2.use
            have m2 : w.heap.size < w2.heap.size := by omega
            go_wp2_with fail
            refine (HVH.out _ (gW.trans g2)).mono ?_
            rintro e w3 ⟨rfl, g3⟩
            have q3 := g3.size
            obtain ⟨X3, Y3, c3, f3⟩ := g3.use
            have m3 : w.heap.size < w3.heap.size := by omega
            go_wp2_with fail
            refine (HAH.out _ ((gW.trans g2).trans g3)).mono ?_
            rintro e w4 ⟨rfl, g4⟩
            have q4 := g4.size
            obtain ⟨X4, Y4, c4, f4⟩ := g4.use
            have m4 : w.heap.size < w4.heap.size := by omega
            have gW4 : Gr w w4 := ((gW.trans g2).trans g3).trans g4
            have hlen : (facs flC p.wd p.ht p.fl (fun i => (2 ^ p.fl.length - 1).testBit i) p.fl.length).length = p.fl.length + 1 := facs_len (Nat.le_refl _)
            have HAC := hide (fun (A6 : Option Addr) (d6 : Nat) (w' : World) (hs : SlC w' A6 d6 (facs flC p.wd p.ht p.fl allT p.fl.length)) => anyC_any A6 d6 (facs flC p.wd p.ht p.fl allT p.fl.length) w' hs)
            rw [facs_full] at hlen
            simp only [facs_full] at HFC
            generalize facs flC p.wd p.ht p.fl allT p.fl.length = FS at *
            have HFM := hide (fun w' => fullMask_any p A B c d w' hl5)
            generalize 2 ^ p.fl.length - 1 = M at *
            have HLEN := hide hlen
            clear hlen
            clear HP HB hn hm
            cases e4 : anyB clC FS with
            | true =>
              have HE3 := hide (show valE p = 6 by rw [HE2.out, e4]; rfl)
              rw [e4] at HAC
              clear e4 HE2
              go_upto_region 20 with fail
              go_region_law (first
                | (go_simp; go_at_call 36; refine (HFM.out _).mono ?_; rintro e w5 ⟨rfl, g5⟩; (have m5 : w.heap.size < w5.heap.size := Nat.lt_of_lt_of_le m4 (Gr.size (by repeat (first | with_reducible exact Gr.refl _ | with_reducible assumption | with_reducible refine Gr.alloc ?_ _ | with_reducible refine Gr.drewN ?_ _ | with_reducible refine Gr.drew ?_ | with_reducible refine Gr.setCell ?_ (by first | (dsimp only; omega) | (simp only [World.size_alloc]; omega) | (with_reducible refine Gr.size ?_; (repeat (first | with_reducible exact Gr.refl _ | with_reducible assumption | with_reducible refine Gr.alloc ?_ _ | with_reducible refine Gr.drewN ?_ _ | with_reducible refine Gr.drew ?_ | with_reducible refine Gr.trans ?_ (by with_reducible assumption))); done)) _ | with_reducible refine Gr.trans ?_ (by with_reducible assumption))))); obtain ⟨X5, Y5, c5, f5⟩ := g5.use)
                | (go_simp; go_at_call 35; refine (HFC.out _ (gW4.trans (by repeat (first | with_reducible exact Gr.refl _ | with_reducible assumption | with_reducible refine Gr.alloc ?_ _ | with_reducible refine Gr.drewN ?_ _ | with_reducible refine Gr.drew ?_ | with_reducible refine Gr.setCell ?_ (by first | (dsimp only; omega) | (simp only [World.size_alloc]; omega) | (with_reducible refine Gr.size ?_; (repeat (first | with_reducible exact Gr.refl _ | with_reducible assumption | with_reducible refine Gr.alloc ?_ _ | with_reducible refine Gr.drewN ?_ _ | with_reducible refine Gr.drew ?_ | with_reducible refine Gr.trans ?_ (by with_reducible assumption))); done)) _ | with_reducible refine Gr.trans ?_ (by with_reducible assumption))))).mono ?_; rintro e w6 ⟨v6, rfl, ho6, g6⟩; obtain ⟨A6, d6, rfl⟩ := ho6.slice; (have hsl := slC_of ho6 (by rw [HLEN.out]; omega)); (have HSL := hide hsl); clear hsl ho6; (have m6 : w.heap.size < w6.heap.size := Nat.lt_of_lt_of_le m4 (Gr.size (by repeat (first | with_reducible exact Gr.refl _ | with_reducible assumption | with_reducible refine Gr.alloc ?_ _ | with_reducible refine Gr.drewN ?_ _ | with_reducible refine Gr.drew ?_ | with_reducible refine Gr.setCell ?_ (by first | (dsimp only; omega) | (simp only [World.size_alloc]; omega) | (with_reducible refine Gr.size ?_; (repeat (first | with_reducible exact Gr.refl _ | with_reducible assumption | with_reducible refine Gr.alloc ?_ _ | with_reducible refine Gr.drewN ?_ _ | with_reducible refine Gr.drew ?_ | with_reducible refine Gr.trans ?_ (by with_reducible assumption))); done)) _ | with_reducible refine Gr.trans ?_ (by with_reducible assumption))))); obtain ⟨X6, Y6, c6, f6⟩ := g6.use)
                | (go_simp; go_at_call 34; refine (HAC.out A6 d6 _ (HSL.out.gr (by repeat (first | with_reducible exact Gr.refl _ | with_reducible assumption | with_reducible refine Gr.alloc ?_ _ | with_reducible refine Gr.drewN ?_ _ | with_reducible refine Gr.drew ?_ | with_reducible refine Gr.setCell ?_ (by first | (dsimp only; omega) | (simp only [World.size_alloc]; omega) | (with_reducible refine Gr.size ?_; (repeat (first | with_reducible exact Gr.refl _ | with_reducible assumption | with_reducible refine Gr.alloc ?_ _ | with_reducible refine Gr.drewN ?_ _ | with_reducible refine Gr.drew ?_ | with_reducible refine Gr.trans ?_ (by with_reducible assumption))); done)) _ | with_reducible refine Gr.trans ?_ (by with_reducible assumption))))).mono ?_; rintro e w7 ⟨rfl, g7⟩; obtain ⟨X7, Y7, c7, f7⟩ := g7.use))
              all_goals
                go_wp2
                go_ret
                exact ⟨ret_iv HE3.out.symm, (by repeat (first | with_reducible exact Gr.refl _ | with_reducible assumption | with_reducible refine Gr.alloc ?_ _ | with_reducible refine Gr.drewN ?_ _ | with_reducible refine Gr.drew ?_ | with_reducible refine Gr.setCell ?_ (by first | (dsimp only; omega) | (simp only [World.size_alloc]; omega) | (with_reducible refine Gr.size ?_; (repeat (first | with_reducible exact Gr.refl _ | with_reducible assumption | with_reducible refine Gr.alloc ?_ _ | with_reducible refine Gr.drewN ?_ _ | with_reducible refine Gr.drew ?_ | with_reducible refine Gr.trans ?_ (by with_reducible assumption))); done)) _ | with_reducible refine Gr.trans ?_ (by with_reducible assumption)))⟩
            | false =>
              have HE3 := hide (show valE p = 0 by rw [HE2.out, e4]; rfl)
              rw [e4] at HAC
              clear e4 HE2
              go_upto_region 20 with fail
              go_region_law (first
                | (go_simp; go_at_call 36; refine (HFM.out _).mono ?_; rintro e w5 ⟨rfl, g5⟩; (have m5 : w.heap.size < w5.heap.size := Nat.lt_of_lt_of_le m4 (Gr.size (by repeat (first | with_reducible exact Gr.refl _ | with_reducible assumption | with_reducible refine Gr.alloc ?_ _ | with_reducible refine Gr.drewN ?_ _ | with_reducible refine Gr.drew ?_ | with_reducible refine Gr.setCell ?_ (by first | (dsimp only; omega) | (simp only [World.size_alloc]; omega) | (with_reducible refine Gr.size ?_; (repeat (first | with_reducible exact Gr.refl _ | with_reducible assumption | with_reducible refine Gr.alloc ?_ _ | with_reducible refine Gr.drewN ?_ _ | with_reducible refine Gr.drew ?_ | with_reducible refine Gr.trans ?_ (by with_reducible assumption))); done)) _ | with_reducible refine Gr.trans ?_ (by with_reducible assumption))))); obtain ⟨X5, Y5, c5, f5⟩ := g5.use)
                | (go_simp; go_at_call 35; refine (HFC.out _ (gW4.trans (by repeat (first | with_reducible exact Gr.refl _ | with_reducible assumption | with_reducible refine Gr.alloc ?_ _ | with_reducible refine Gr.drewN ?_ _ | with_reducible refine Gr.drew ?_ | with_reducible refine Gr.setCell ?_ (by first | (dsimp only; omega) | (simp only [World.size_alloc]; omega) | (with_reducible refine Gr.size ?_; (repeat (first | with_reducible exact Gr.refl _ | with_reducible assumption | with_reducible refine Gr.alloc ?_ _ | with_reducible refine Gr.drewN ?_ _ | with_reducible refine Gr.drew ?_ | with_reducible refine Gr.trans ?_ (by with_reducible assumption))); done)) _ | with_reducible refine Gr.trans ?_ (by with_reducible assumption))))).mono ?_; rintro e w6 ⟨v6, rfl, ho6, g6⟩; obtain ⟨A6, d6, rfl⟩ := ho6.slice; (have hsl := slC_of ho6 (by rw [HLEN.out]; omega)); (have HSL := hide hsl); clear hsl ho6; (have m6 : w.heap.size < w6.heap.size := Nat.lt_of_lt_of_le m4 (Gr.size (by repeat (first | with_reducible exact Gr.refl _ | with_reducible assumption | with_reducible refine Gr.alloc ?_ _ | with_reducible refine Gr.drewN ?_ _ | with_reducible refine Gr.drew ?_ | with_reducible refine Gr.setCell ?_ (by first | (dsimp only; omega) | (simp only [World.size_alloc]; omega) | (with_reducible refine Gr.size ?_; (repeat (first | with_reducible exact Gr.refl _ | with_reducible assumption | with_reducible refine Gr.alloc ?_ _ | with_reducible refine Gr.drewN ?_ _ | with_reducible refine Gr.drew ?_ | with_reducible refine Gr.trans ?_ (by with_reducible assumption))); done)) _ | with_reducible refine Gr.trans ?_ (by with_reducible assumption))))); obtain ⟨X6, Y6, c6, f6⟩ := g6.use)
                | (go_simp; go_at_call 34; refine (HAC.out A6 d6 _ (HSL.out.gr (by repeat (first | with_reducible exact Gr.refl _ | with_reducible assumption | with_reducible refine Gr.alloc ?_ _ | with_reducible refine Gr.drewN ?_ _ | with_reducible refine Gr.drew ?_ | with_reducible refine Gr.setCell ?_ (by first | (dsimp only; omega) | (simp only [World.size_alloc]; omega) | (with_reducible refine Gr.size ?_; (repeat (first | with_reducible exact Gr.refl _ | with_reducible assumption | with_reducible refine Gr.alloc ?_ _ | with_reducible refine Gr.drewN ?_ _ | with_reducible refine Gr.drew ?_ | with_reducible refine Gr.trans ?_ (by with_reducible assumption))); done)) _ | with_reducible refine Gr.trans ?_ (by with_reducible assumption))))).mono ?_; rintro e w7 ⟨rfl, g7⟩; obtain ⟨X7, Y7, c7, f7⟩ := g7.use))
              all_goals
                go_wp2
                go_ret
                exact ⟨ret_iv HE3.out.symm, (by repeat (first | with_reducible exact Gr.refl _ | with_reducible assumption | with_reducible refine Gr.alloc ?_ _ | with_reducible refine Gr.drewN ?_ _ | with_reducible refine Gr.drew ?_ | with_reducible refine Gr.setCell ?_ (by first | (dsimp only; omega) | (simp only [World.size_alloc]; omega) | (with_reducible refine Gr.size ?_; (repeat (first | with_reducible exact Gr.refl _ | with_reducible assumption | with_reducible refine Gr.alloc ?_ _ | with_reducible refine Gr.drewN ?_ _ | with_reducible refine Gr.drew ?_ | with_reducible refine Gr.trans ?_ (by with_reducible assumption))); done)) _ | with_reducible refine Gr.trans ?_ (by with_reducible assumption)))⟩
end Go.Proofs.Ytefjgfglommefaa
