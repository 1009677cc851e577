/-
  Parts: whether two of a list of holes touch, in the code.
  Parts: whether all holes are right, in the code; the face of a flange.
  Parts: whether two of a list of flanges overlap, in the code.
  Parts: the code's Validate.
  Parts: the size of a face and the error of a flange, in the reference.
  Parts: the error of a flange, in the reference.
  Parts: small functions of the reference: the rectangle of a hole, the start of a side, the full mask.
  Parts: the code's Validate behind the limits.
  Parts: the errors of the flanges, in the reference.
  Parts: the errors of the holes, in the reference.
  Blocks that the call has made: stores into them.
  Parts: the faces of a part, in the reference.
  The reference's Clash; PartClashes: the walk.
  Parts: the reference's Validate.
  Parts: the reference's Validate behind the limits.
-/
import Derived.Test.YtjnfodbniohkhaaGreatVal4
import Derived.Test.YtjnfodbniohkhaaGreatVal7
import Derived.Test.YtjnfodbniohkhaaGreatVal10
import Derived.Test.YtjnfodbniohkhaaGreatMix2
import Derived.Test.YtjnfodbniohkhaaGreatClash8
set_option linter.unusedVariables false
set_option linter.unusedSimpArgs false
namespace Go.Proofs.YtjnfodbniohkhaaGreat
set_option linter.unusedVariables false
set_option linter.unusedSimpArgs false
open Go Go.ChangeShapes Go.WideShapes Go.ChangeAt Go.RowKit Go.Deep

/-- a slice of holes as an argument has it -/
structure SlH (w : World) (A : Option Addr) (c : Nat) (l : List Ho) : Prop where
  rd : RdH w A l
  cap : l.length ≤ c
  capB : c ≤ 9223372036854775807
  len : l.length ≤ 1000
theorem SlH.gr {w w' : World} {A : Option Addr} {c : Nat} {l : List Ho} (h : SlH w A c l) (g : Gr w w') : SlH w' A c l := ⟨h.rd.gr g, h.cap, h.capB, h.len⟩
set_option maxRecDepth 100000 in
set_option maxHeartbeats 4000000 in
theorem anyH_any (A : Option Addr) (c : Nat) (l : List Ho) (w : World) (hF : SlH w A c l) :
    Calls Tryz.prog 93 #[.slice A l.length c, .func (.func 94) #[] #[]] w fun e w' => e = .returned (.bool (anyB touB l)) ∧ Gr w w' := by
  have hlen := hF.len
  have hcap := hF.cap
  have hcapB := hF.capB
  have HF := hide hF
  clear hF
  go_enter Tryz.func93, Tryz.ntmps93
  go_wp2
  go_loopw [11] (fun i wr => ∃ i' : Nat, i' ≤ l.length ∧ i = iv i' ∧ Gr w wr ∧ Hid (∀ i, i < i' → ∀ k a b, k < i → l[k]? = some a → l[i]? = some b → touB a b = false)) (fun i _ => l.length - (intOf i).toNat)
  case atStart => exact ⟨0, by omega, rfl, Gr.refl _, by intro i hi; omega⟩
  case round =>
    obtain ⟨i, hi, rfl, g, HI⟩ := hrel
    obtain ⟨wo, rfl⟩ : ∃ wo, wo = wr := ⟨_, rfl⟩
    by_cases hlt : i < l.length
    · obtain ⟨f, hf⟩ : ∃ f, l[i]? = some f := ⟨_, List.getElem?_eq_getElem hlt⟩
      obtain ⟨b, off, hA, x0, x1, x2, x3, x4, x5⟩ := (HF.out.gr g).rd.ho hf
      subst hA
      have hb : b < wo.heap.size := cell_lt (by rw [x0]; rfl)
      go_wp2
      have gB := g
      go_loopw [20] (fun k wk => ∃ k' : Nat, k' ≤ i ∧ k = iv k' ∧ Gr (wo.alloc (.cells #[iv f.fa, iv f.kd, iv f.x, iv f.y, iv f.w, iv f.h] 59)) wk ∧ Hid (∀ k a, k < k' → l[k]? = some a → touB a f = false)) (fun k _ => i - (intOf k).toNat)
      case atStart => exact ⟨0, by omega, rfl, Gr.refl _, by intro k a hk; omega⟩
      case round =>
        obtain ⟨k, hk, rfl, gk, HK⟩ := hrel
        obtain ⟨Xr, Yr, cr, fr⟩ := gk.use
        have zr := gk.size
        simp only [World.size_alloc] at zr
        have l0 : wo.heap.size < wr.heap.size := by omega
        have hbk : b < wr.heap.size := by omega
        by_cases hki : k < i
        · obtain ⟨a, ha⟩ : ∃ a, l[k]? = some a := ⟨_, List.getElem?_eq_getElem (by omega)⟩
          obtain ⟨b', off', hA', y0, y1, y2, y3, y4, y5⟩ := (HF.out.gr g).rd.ho ha
          obtain ⟨rfl, rfl⟩ : b = b' ∧ off = off' := by simpa using hA'
          clear hA'
          have HV := hide (fun w => holesTouch_any a f w)
          cases hv : touB a f with
          | true =>
            have HB := hide (anyB_yes hki ha hf hv)
            rw [hv] at HV
            go_wp2_with (go_at_call 94; refine (HV.out _).mono ?_; rintro e w1 ⟨rfl, g1⟩; obtain ⟨X1, Y1, c1, f1⟩ := g1.use)
            go_ret
            exact ⟨ret_bool HB.out.symm, (by repeat (first | with_reducible exact Gr.refl _ | with_reducible assumption | with_reducible refine Gr.alloc ?_ _ | with_reducible refine Gr.drewN ?_ _ | with_reducible refine Gr.drew ?_ | with_reducible refine Gr.setCell ?_ (by first | (dsimp only; omega) | (simp only [World.size_alloc]; omega) | (with_reducible refine Gr.size ?_; (repeat (first | with_reducible exact Gr.refl _ | with_reducible assumption | with_reducible refine Gr.alloc ?_ _ | with_reducible refine Gr.drewN ?_ _ | with_reducible refine Gr.drew ?_ | with_reducible refine Gr.trans ?_ (by with_reducible assumption))); done)) _ | with_reducible refine Gr.trans ?_ (by with_reducible assumption)))⟩
          | false =>
            have HK' := hide (show ∀ j x, j < k + 1 → l[j]? = some x → touB x f = false by
              intro j x hj hx
              rcases Nat.lt_or_ge j k with h | h
              · exact HK.out j x h hx
              · obtain rfl : j = k := by omega
                rw [ha] at hx
                obtain rfl := Option.some.inj hx
                exact hv)
            rw [hv] at HV
            go_wp2_with (go_at_call 94; refine (HV.out _).mono ?_; rintro e w1 ⟨rfl, g1⟩; obtain ⟨X1, Y1, c1, f1⟩ := g1.use)
            go_roundw
            case rel => exact ⟨k + 1, by omega, by go_num, (by repeat (first | with_reducible exact Gr.refl _ | with_reducible assumption | with_reducible refine Gr.alloc ?_ _ | with_reducible refine Gr.drewN ?_ _ | with_reducible refine Gr.drew ?_ | with_reducible refine Gr.setCell ?_ (by first | (dsimp only; omega) | (simp only [World.size_alloc]; omega) | (with_reducible refine Gr.size ?_; (repeat (first | with_reducible exact Gr.refl _ | with_reducible assumption | with_reducible refine Gr.alloc ?_ _ | with_reducible refine Gr.drewN ?_ _ | with_reducible refine Gr.drew ?_ | with_reducible refine Gr.trans ?_ (by with_reducible assumption))); done)) _ | with_reducible refine Gr.trans ?_ (by with_reducible assumption))), HK'⟩
            case measure => simp only [intOf]; omega
        · obtain rfl : k = i := by omega
          have HI' := hide (show ∀ j, j < k + 1 → ∀ m a b, m < j → l[m]? = some a → l[j]? = some b → touB a b = false by
            intro j hj m a b hm hx hy
            rcases Nat.lt_or_ge j k with h | h
            · exact HI.out j h m a b hm hx hy
            · obtain rfl : j = k := by omega
              rw [hf] at hy
              obtain rfl := Option.some.inj hy
              exact HK.out m a hm hx)
          go_wp2
          go_roundw
          case rel => exact ⟨k + 1, by omega, by go_num, (by repeat (first | with_reducible exact Gr.refl _ | with_reducible assumption | with_reducible refine Gr.alloc ?_ _ | with_reducible refine Gr.drewN ?_ _ | with_reducible refine Gr.drew ?_ | with_reducible refine Gr.setCell ?_ (by first | (dsimp only; omega) | (simp only [World.size_alloc]; omega) | (with_reducible refine Gr.size ?_; (repeat (first | with_reducible exact Gr.refl _ | with_reducible assumption | with_reducible refine Gr.alloc ?_ _ | with_reducible refine Gr.drewN ?_ _ | with_reducible refine Gr.drew ?_ | with_reducible refine Gr.trans ?_ (by with_reducible assumption))); done)) _ | with_reducible refine Gr.trans ?_ (by with_reducible assumption))), HI'⟩
          case measure => simp only [intOf]; omega
    · obtain rfl : i = l.length := by omega
      have HB := hide (anyB_no HI.out)
      go_wp2
      go_ret
      exact ⟨ret_bool HB.out.symm, (by repeat (first | with_reducible exact Gr.refl _ | with_reducible assumption | with_reducible refine Gr.alloc ?_ _ | with_reducible refine Gr.drewN ?_ _ | with_reducible refine Gr.drew ?_ | with_reducible refine Gr.setCell ?_ (by first | (dsimp only; omega) | (simp only [World.size_alloc]; omega) | (with_reducible refine Gr.size ?_; (repeat (first | with_reducible exact Gr.refl _ | with_reducible assumption | with_reducible refine Gr.alloc ?_ _ | with_reducible refine Gr.drewN ?_ _ | with_reducible refine Gr.drew ?_ | with_reducible refine Gr.trans ?_ (by with_reducible assumption))); done)) _ | with_reducible refine Gr.trans ?_ (by with_reducible assumption)))⟩
end Go.Proofs.YtjnfodbniohkhaaGreat
set_option linter.unusedVariables false
set_option linter.unusedSimpArgs false
namespace Go.Proofs.YtjnfodbniohkhaaGreat
set_option linter.unusedVariables false
set_option linter.unusedSimpArgs false
open Go Go.ChangeShapes Go.WideShapes Go.ChangeAt Go.RowKit Go.Deep

theorem all_stop {α : Type} {f : α → Bool} {l : List α} {i : Nat} {x : α} (hx : l[i]? = some x) (h : f x = false) : l.all f = false := by
  rw [← Bool.not_eq_true, List.all_eq_true]
  intro k
  have := k x (List.mem_of_getElem? hx)
  rw [h] at this
  cases this
theorem all_end {α : Type} {f : α → Bool} {l : List α} (h : ∀ i x, i < l.length → l[i]? = some x → f x = true) : l.all f = true := by
  rw [List.all_eq_true]
  intro x hx
  obtain ⟨i, hi⟩ := List.mem_iff_getElem?.1 hx
  exact h i x (List.getElem?_eq_some_iff.1 hi).1 hi
set_option maxRecDepth 100000 in
set_option maxHeartbeats 4000000 in
theorem validHoles_any (p : Pa) (A B : Option Addr) (c d : Nat) (w : World) (hF : SlF w A c p.fl) (hH : SlH w B d p.ho) (ok : FlOk p p.fl.length) :
    Calls Tryz.prog 92 #[pav p A c B d] w fun e w' => e = .returned (.bool (p.ho.all (hoB p))) ∧ Gr w w' := by
  have hlen := hH.len
  have HF := hide hF
  have HH := hide hH
  have HOK := hide ok
  clear hF hH ok
  go_enter Tryz.func92, Tryz.ntmps92
  go_wp2
  go_loopw [10] (fun i wr => ∃ i' : Nat, i' ≤ p.ho.length ∧ i = iv i' ∧ Gr (w.alloc (.cells #[.string p.nm, .string p.mt, iv p.ga, iv p.gr, iv p.wd, iv p.ht, .slice A p.fl.length c, .slice B p.ho.length d] 25)) wr ∧ Hid (∀ j x, j < i' → p.ho[j]? = some x → hoB p x = true)) (fun i _ => p.ho.length - (intOf i).toNat)
  case atStart => exact ⟨0, by omega, rfl, Gr.refl _, by intro j x hj; omega⟩
  case round =>
    obtain ⟨i, hi, rfl, g, HI⟩ := hrel
    have gW : Gr w wr := (by repeat (first | with_reducible exact Gr.refl _ | with_reducible assumption | with_reducible refine Gr.alloc ?_ _ | with_reducible refine Gr.drewN ?_ _ | with_reducible refine Gr.drew ?_ | with_reducible refine Gr.setCell ?_ (by first | (dsimp only; omega) | (simp only [World.size_alloc]; omega) | (with_reducible refine Gr.size ?_; (repeat (first | with_reducible exact Gr.refl _ | with_reducible assumption | with_reducible refine Gr.alloc ?_ _ | with_reducible refine Gr.drewN ?_ _ | with_reducible refine Gr.drew ?_ | with_reducible refine Gr.trans ?_ (by with_reducible assumption))); done)) _ | with_reducible refine Gr.trans ?_ (by with_reducible assumption)))
    obtain ⟨Xr, Yr, cr, fr⟩ := g.use
    have zr := g.size
    simp only [World.size_alloc] at zr
    have l0 : w.heap.size < wr.heap.size := by omega
    by_cases hlt : i < p.ho.length
    · obtain ⟨f, hf⟩ : ∃ f, p.ho[i]? = some f := ⟨_, List.getElem?_eq_getElem hlt⟩
      obtain ⟨b, off, rfl, x0, x1, x2, x3, x4, x5⟩ := HH.out.rd.ho hf
      have hb : b < w.heap.size := cell_lt (by rw [x0]; rfl)
      have hbr : b < wr.heap.size := by omega
      have HS := hide (fun (w' : World) (g : Gr (wr.alloc (.cells #[iv f.fa, iv f.kd, iv f.x, iv f.y, iv f.w, iv f.h] 59)) w') (u1 : 0 ≤ f.fa) (u2 : f.fa ≤ p.fl.length) => size_any p A (some ⟨b, off, none⟩) c d f.fa w' (HF.out.gr (gW.trans ((Gr.alloc (Gr.refl _) _).trans g))) u1 u2)
      cases hT : wiB f.fa 0 p.fl.length with
      | false =>
        have HE := hide (all_stop (f := hoB p) hf (by unfold hoB; rw [hT]; rfl))
        go_wp2_with (first | (go_at_call 126; refine (hasFace_any _ _ _ _ _ _ _).mono ?_; rintro e w1 ⟨rfl, g1⟩; obtain ⟨X1, Y1, c1, f1⟩ := g1.use; have z1 := g1.size; (try simp only [World.size_alloc, World.size_setCell, World.heap_drewN, Nat.add_one_le_iff] at z1); (try have l0 : w.heap.size < w1.heap.size := by omega); (try have l1 : w.heap.size + 1 < w1.heap.size := by omega); (try have l2 : w.heap.size + 1 + 1 < w1.heap.size := by omega)))
        go_ret
        exact ⟨ret_bool HE.out.symm, (by repeat (first | with_reducible exact Gr.refl _ | with_reducible assumption | with_reducible refine Gr.alloc ?_ _ | with_reducible refine Gr.drewN ?_ _ | with_reducible refine Gr.drew ?_ | with_reducible refine Gr.setCell ?_ (by first | (dsimp only; omega) | (simp only [World.size_alloc]; omega) | (with_reducible refine Gr.size ?_; (repeat (first | with_reducible exact Gr.refl _ | with_reducible assumption | with_reducible refine Gr.alloc ?_ _ | with_reducible refine Gr.drewN ?_ _ | with_reducible refine Gr.drew ?_ | with_reducible refine Gr.trans ?_ (by with_reducible assumption))); done)) _ | with_reducible refine Gr.trans ?_ (by with_reducible assumption)))⟩
      | true =>
        obtain ⟨u1, u2⟩ := wiB_iff.1 hT
        obtain ⟨hw, hh⟩ := ext_le HOK.out u1 u2 (Nat.le_refl _)
        by_cases hk : f.kd = 1 ∨ f.kd = 2
        · cases h1 : wbB f.x f.w (extW p f.fa) with
          | false =>
            have HE := hide (all_stop (f := hoB p) hf (by unfold hoB; rw [h1]; simp))
            generalize extW p f.fa = ew at *
            generalize extH p f.fa = eh at *
            go_wp2_with (first | (go_at_call 126; refine (hasFace_any _ _ _ _ _ _ _).mono ?_; rintro e w1 ⟨rfl, g1⟩; obtain ⟨X1, Y1, c1, f1⟩ := g1.use; have z1 := g1.size; (try simp only [World.size_alloc, World.size_setCell, World.heap_drewN, Nat.add_one_le_iff] at z1); (try have l0 : w.heap.size < w1.heap.size := by omega); (try have l1 : w.heap.size + 1 < w1.heap.size := by omega); (try have l2 : w.heap.size + 1 + 1 < w1.heap.size := by omega)) | (go_at_call 124; refine (HS.out _ (by with_reducible assumption) u1 u2).mono ?_; rintro e w1 ⟨rfl, g1⟩; obtain ⟨X1, Y1, c1, f1⟩ := g1.use; have z1 := g1.size; (try simp only [World.size_alloc, World.size_setCell, World.heap_drewN, Nat.add_one_le_iff] at z1); (try have l0 : w.heap.size < w1.heap.size := by omega); (try have l1 : w.heap.size + 1 < w1.heap.size := by omega); (try have l2 : w.heap.size + 1 + 1 < w1.heap.size := by omega)) | (go_at_call 127; refine (withinBorder_any _ _ _ _ (by assumption)).mono ?_; rintro e w1 ⟨rfl, rfl⟩))
            all_goals first
              | (go_ret
                 exact ⟨ret_bool HE.out.symm, (by repeat (first | with_reducible exact Gr.refl _ | with_reducible assumption | with_reducible refine Gr.alloc ?_ _ | with_reducible refine Gr.drewN ?_ _ | with_reducible refine Gr.drew ?_ | with_reducible refine Gr.setCell ?_ (by first | (dsimp only; omega) | (simp only [World.size_alloc]; omega) | (with_reducible refine Gr.size ?_; (repeat (first | with_reducible exact Gr.refl _ | with_reducible assumption | with_reducible refine Gr.alloc ?_ _ | with_reducible refine Gr.drewN ?_ _ | with_reducible refine Gr.drew ?_ | with_reducible refine Gr.trans ?_ (by with_reducible assumption))); done)) _ | with_reducible refine Gr.trans ?_ (by with_reducible assumption)))⟩)
              | (exfalso
                 simp only [bne_iff_ne, ne_eq, bne_eq_false_iff_eq, beq_iff_eq, beq_eq_false_iff_ne] at *
                 omega)
          | true =>
            cases h2 : wbB f.y f.h (extH p f.fa) with
            | false =>
              have HE := hide (all_stop (f := hoB p) hf (by unfold hoB; rw [h2]; simp))
              generalize extW p f.fa = ew at *
              generalize extH p f.fa = eh at *
              go_wp2_with (first | (go_at_call 126; refine (hasFace_any _ _ _ _ _ _ _).mono ?_; rintro e w1 ⟨rfl, g1⟩; obtain ⟨X1, Y1, c1, f1⟩ := g1.use; have z1 := g1.size; (try simp only [World.size_alloc, World.size_setCell, World.heap_drewN, Nat.add_one_le_iff] at z1); (try have l0 : w.heap.size < w1.heap.size := by omega); (try have l1 : w.heap.size + 1 < w1.heap.size := by omega); (try have l2 : w.heap.size + 1 + 1 < w1.heap.size := by omega)) | (go_at_call 124; refine (HS.out _ (by with_reducible assumption) u1 u2).mono ?_; rintro e w1 ⟨rfl, g1⟩; obtain ⟨X1, Y1, c1, f1⟩ := g1.use; have z1 := g1.size; (try simp only [World.size_alloc, World.size_setCell, World.heap_drewN, Nat.add_one_le_iff] at z1); (try have l0 : w.heap.size < w1.heap.size := by omega); (try have l1 : w.heap.size + 1 < w1.heap.size := by omega); (try have l2 : w.heap.size + 1 + 1 < w1.heap.size := by omega)) | (go_at_call 127; refine (withinBorder_any _ _ _ _ (by assumption)).mono ?_; rintro e w1 ⟨rfl, rfl⟩))
              all_goals first
                | (go_ret
                   exact ⟨ret_bool HE.out.symm, (by repeat (first | with_reducible exact Gr.refl _ | with_reducible assumption | with_reducible refine Gr.alloc ?_ _ | with_reducible refine Gr.drewN ?_ _ | with_reducible refine Gr.drew ?_ | with_reducible refine Gr.setCell ?_ (by first | (dsimp only; omega) | (simp only [World.size_alloc]; omega) | (with_reducible refine Gr.size ?_; (repeat (first | with_reducible exact Gr.refl _ | with_reducible assumption | with_reducible refine Gr.alloc ?_ _ | with_reducible refine Gr.drewN ?_ _ | with_reducible refine Gr.drew ?_ | with_reducible refine Gr.trans ?_ (by with_reducible assumption))); done)) _ | with_reducible refine Gr.trans ?_ (by with_reducible assumption)))⟩)
                | (exfalso
                   simp only [bne_iff_ne, ne_eq, bne_eq_false_iff_eq, beq_iff_eq, beq_eq_false_iff_ne] at *
                   omega)
            | true =>
              have HI' := hide (show ∀ j x, j < i + 1 → p.ho[j]? = some x → hoB p x = true by
                intro j x hj hx
                rcases Nat.lt_or_ge j i with h | h
                · exact HI.out j x h hx
                · obtain rfl : j = i := by omega
                  rw [hf] at hx
                  obtain rfl := Option.some.inj hx
                  unfold hoB
                  rw [hT, h1, h2]
                  simp only [Bool.true_and, Bool.and_true]
                  simpa using hk)
              generalize extW p f.fa = ew at *
              generalize extH p f.fa = eh at *
              go_wp2_with (first | (go_at_call 126; refine (hasFace_any _ _ _ _ _ _ _).mono ?_; rintro e w1 ⟨rfl, g1⟩; obtain ⟨X1, Y1, c1, f1⟩ := g1.use; have z1 := g1.size; (try simp only [World.size_alloc, World.size_setCell, World.heap_drewN, Nat.add_one_le_iff] at z1); (try have l0 : w.heap.size < w1.heap.size := by omega); (try have l1 : w.heap.size + 1 < w1.heap.size := by omega); (try have l2 : w.heap.size + 1 + 1 < w1.heap.size := by omega)) | (go_at_call 124; refine (HS.out _ (by with_reducible assumption) u1 u2).mono ?_; rintro e w1 ⟨rfl, g1⟩; obtain ⟨X1, Y1, c1, f1⟩ := g1.use; have z1 := g1.size; (try simp only [World.size_alloc, World.size_setCell, World.heap_drewN, Nat.add_one_le_iff] at z1); (try have l0 : w.heap.size < w1.heap.size := by omega); (try have l1 : w.heap.size + 1 < w1.heap.size := by omega); (try have l2 : w.heap.size + 1 + 1 < w1.heap.size := by omega)) | (go_at_call 127; refine (withinBorder_any _ _ _ _ (by assumption)).mono ?_; rintro e w1 ⟨rfl, rfl⟩))
              all_goals first
                | (go_roundw
                   case rel => exact ⟨i + 1, by omega, by go_num, (by repeat (first | with_reducible exact Gr.refl _ | with_reducible assumption | with_reducible refine Gr.alloc ?_ _ | with_reducible refine Gr.drewN ?_ _ | with_reducible refine Gr.drew ?_ | with_reducible refine Gr.setCell ?_ (by first | (dsimp only; omega) | (simp only [World.size_alloc]; omega) | (with_reducible refine Gr.size ?_; (repeat (first | with_reducible exact Gr.refl _ | with_reducible assumption | with_reducible refine Gr.alloc ?_ _ | with_reducible refine Gr.drewN ?_ _ | with_reducible refine Gr.drew ?_ | with_reducible refine Gr.trans ?_ (by with_reducible assumption))); done)) _ | with_reducible refine Gr.trans ?_ (by with_reducible assumption))), HI'⟩
                   case measure => simp only [intOf]; omega)
                | (exfalso
                   simp only [bne_iff_ne, ne_eq, bne_eq_false_iff_eq, beq_iff_eq, beq_eq_false_iff_ne] at *
                   omega)
        · have HE := hide (all_stop (f := hoB p) hf (by unfold hoB; rw [show (decide (f.kd = 1) || decide (f.kd = 2)) = false by simpa using hk]; simp))
          go_wp2_with (first | (go_at_call 126; refine (hasFace_any _ _ _ _ _ _ _).mono ?_; rintro e w1 ⟨rfl, g1⟩; obtain ⟨X1, Y1, c1, f1⟩ := g1.use; have z1 := g1.size; (try simp only [World.size_alloc, World.size_setCell, World.heap_drewN, Nat.add_one_le_iff] at z1); (try have l0 : w.heap.size < w1.heap.size := by omega); (try have l1 : w.heap.size + 1 < w1.heap.size := by omega); (try have l2 : w.heap.size + 1 + 1 < w1.heap.size := by omega)))
          all_goals first
            | (go_ret
               exact ⟨ret_bool HE.out.symm, (by repeat (first | with_reducible exact Gr.refl _ | with_reducible assumption | with_reducible refine Gr.alloc ?_ _ | with_reducible refine Gr.drewN ?_ _ | with_reducible refine Gr.drew ?_ | with_reducible refine Gr.setCell ?_ (by first | (dsimp only; omega) | (simp only [World.size_alloc]; omega) | (with_reducible refine Gr.size ?_; (repeat (first | with_reducible exact Gr.refl _ | with_reducible assumption | with_reducible refine Gr.alloc ?_ _ | with_reducible refine Gr.drewN ?_ _ | with_reducible refine Gr.drew ?_ | with_reducible refine Gr.trans ?_ (by with_reducible assumption))); done)) _ | with_reducible refine Gr.trans ?_ (by with_reducible assumption)))⟩)
            | (exfalso
               simp only [bne_iff_ne, ne_eq, bne_eq_false_iff_eq, beq_iff_eq, beq_eq_false_iff_ne] at *
               omega)
    · obtain rfl : i = p.ho.length := by omega
      have HE := hide (all_end (f := hoB p) (fun j x hj hx => HI.out j x hj hx))
      go_wp2
      go_ret
      exact ⟨ret_bool HE.out.symm, (by repeat (first | with_reducible exact Gr.refl _ | with_reducible assumption | with_reducible refine Gr.alloc ?_ _ | with_reducible refine Gr.drewN ?_ _ | with_reducible refine Gr.drew ?_ | with_reducible refine Gr.setCell ?_ (by first | (dsimp only; omega) | (simp only [World.size_alloc]; omega) | (with_reducible refine Gr.size ?_; (repeat (first | with_reducible exact Gr.refl _ | with_reducible assumption | with_reducible refine Gr.alloc ?_ _ | with_reducible refine Gr.drewN ?_ _ | with_reducible refine Gr.drew ?_ | with_reducible refine Gr.trans ?_ (by with_reducible assumption))); done)) _ | with_reducible refine Gr.trans ?_ (by with_reducible assumption)))⟩
end Go.Proofs.YtjnfodbniohkhaaGreat
set_option linter.unusedVariables false
set_option linter.unusedSimpArgs false
namespace Go.Proofs.YtjnfodbniohkhaaGreat
set_option linter.unusedVariables false
set_option linter.unusedSimpArgs false
open Go Go.ChangeShapes Go.WideShapes Go.ChangeAt Go.RowKit Go.Deep

/-- flanges whose sums do not wrap -/
def FlSm (g : Fl) : Prop := (1 ≤ g.wd ∧ g.wd ≤ 150) ∧ 0 ≤ g.o ∧ g.o ≤ 150
set_option maxRecDepth 100000 in
set_option maxHeartbeats 4000000 in
theorem anyF_any (A : Option Addr) (c : Nat) (l : List Fl) (w : World) (hF : SlF w A c l) (hs : ∀ g ∈ l, FlSm g) :
    Calls Tryz.prog 90 #[.slice A l.length c, .func (.func 91) #[] #[]] w fun e w' => e = .returned (.bool (anyB ovF l)) ∧ Gr w w' := by
  have hlen := hF.len
  have hcap := hF.cap
  have hcapB := hF.capB
  have HF := hide hF
  clear hF
  go_enter Tryz.func90, Tryz.ntmps90
  go_wp2
  go_loopw [11] (fun i wr => ∃ i' : Nat, i' ≤ l.length ∧ i = iv i' ∧ Gr w wr ∧ Hid (∀ i, i < i' → ∀ k a b, k < i → l[k]? = some a → l[i]? = some b → ovF a b = false)) (fun i _ => l.length - (intOf i).toNat)
  case atStart => exact ⟨0, by omega, rfl, Gr.refl _, by intro i hi; omega⟩
  case round =>
    obtain ⟨i, hi, rfl, g, HI⟩ := hrel
    obtain ⟨wo, rfl⟩ : ∃ wo, wo = wr := ⟨_, rfl⟩
    by_cases hlt : i < l.length
    · obtain ⟨f, hf⟩ : ∃ f, l[i]? = some f := ⟨_, List.getElem?_eq_getElem hlt⟩
      obtain ⟨b, off, hA, x0, x1, x2, x3, x4, x5, x6⟩ := (HF.out.gr g).rd.fl hf
      subst hA
      have hb : b < wo.heap.size := cell_lt (by rw [x0]; rfl)
      go_wp2
      have gB := g
      go_loopw [20] (fun k wk => ∃ k' : Nat, k' ≤ i ∧ k = iv k' ∧ Gr (wo.alloc (.cells #[.string f.nm, iv f.pa, iv f.sd, iv f.o, iv f.wd, iv f.ln, iv f.an] 49)) wk ∧ Hid (∀ k a, k < k' → l[k]? = some a → ovF a f = false)) (fun k _ => i - (intOf k).toNat)
      case atStart => exact ⟨0, by omega, rfl, Gr.refl _, by intro k a hk; omega⟩
      case round =>
        obtain ⟨k, hk, rfl, gk, HK⟩ := hrel
        obtain ⟨Xr, Yr, cr, fr⟩ := gk.use
        have zr := gk.size
        simp only [World.size_alloc] at zr
        have l0 : wo.heap.size < wr.heap.size := by omega
        have hbk : b < wr.heap.size := by omega
        by_cases hki : k < i
        · obtain ⟨a, ha⟩ : ∃ a, l[k]? = some a := ⟨_, List.getElem?_eq_getElem (by omega)⟩
          obtain ⟨b', off', hA', y0, y1, y2, y3, y4, y5, y6⟩ := (HF.out.gr g).rd.fl ha
          obtain ⟨rfl, rfl⟩ : b = b' ∧ off = off' := by simpa using hA'
          clear hA'
          have HV := hide (fun w => flangesOverlap_any a f w (hs a (List.mem_of_getElem? ha)).1 (hs a (List.mem_of_getElem? ha)).2 (hs f (List.mem_of_getElem? hf)).1 (hs f (List.mem_of_getElem? hf)).2)
          cases hv : ovF a f with
          | true =>
            have HB := hide (anyB_yes hki ha hf hv)
            rw [hv] at HV
            go_wp2_with (go_at_call 91; refine (HV.out _).mono ?_; rintro e w1 ⟨rfl, g1⟩; obtain ⟨X1, Y1, c1, f1⟩ := g1.use)
            go_ret
            exact ⟨ret_bool HB.out.symm, (by repeat (first | with_reducible exact Gr.refl _ | with_reducible assumption | with_reducible refine Gr.alloc ?_ _ | with_reducible refine Gr.drewN ?_ _ | with_reducible refine Gr.drew ?_ | with_reducible refine Gr.setCell ?_ (by first | (dsimp only; omega) | (simp only [World.size_alloc]; omega) | (with_reducible refine Gr.size ?_; (repeat (first | with_reducible exact Gr.refl _ | with_reducible assumption | with_reducible refine Gr.alloc ?_ _ | with_reducible refine Gr.drewN ?_ _ | with_reducible refine Gr.drew ?_ | with_reducible refine Gr.trans ?_ (by with_reducible assumption))); done)) _ | with_reducible refine Gr.trans ?_ (by with_reducible assumption)))⟩
          | false =>
            have HK' := hide (show ∀ j x, j < k + 1 → l[j]? = some x → ovF x f = false by
              intro j x hj hx
              rcases Nat.lt_or_ge j k with h | h
              · exact HK.out j x h hx
              · obtain rfl : j = k := by omega
                rw [ha] at hx
                obtain rfl := Option.some.inj hx
                exact hv)
            rw [hv] at HV
            go_wp2_with (go_at_call 91; refine (HV.out _).mono ?_; rintro e w1 ⟨rfl, g1⟩; obtain ⟨X1, Y1, c1, f1⟩ := g1.use)
            go_roundw
            case rel => exact ⟨k + 1, by omega, by go_num, (by repeat (first | with_reducible exact Gr.refl _ | with_reducible assumption | with_reducible refine Gr.alloc ?_ _ | with_reducible refine Gr.drewN ?_ _ | with_reducible refine Gr.drew ?_ | with_reducible refine Gr.setCell ?_ (by first | (dsimp only; omega) | (simp only [World.size_alloc]; omega) | (with_reducible refine Gr.size ?_; (repeat (first | with_reducible exact Gr.refl _ | with_reducible assumption | with_reducible refine Gr.alloc ?_ _ | with_reducible refine Gr.drewN ?_ _ | with_reducible refine Gr.drew ?_ | with_reducible refine Gr.trans ?_ (by with_reducible assumption))); done)) _ | with_reducible refine Gr.trans ?_ (by with_reducible assumption))), HK'⟩
            case measure => simp only [intOf]; omega
        · obtain rfl : k = i := by omega
          have HI' := hide (show ∀ j, j < k + 1 → ∀ m a b, m < j → l[m]? = some a → l[j]? = some b → ovF a b = false by
            intro j hj m a b hm hx hy
            rcases Nat.lt_or_ge j k with h | h
            · exact HI.out j h m a b hm hx hy
            · obtain rfl : j = k := by omega
              rw [hf] at hy
              obtain rfl := Option.some.inj hy
              exact HK.out m a hm hx)
          go_wp2
          go_roundw
          case rel => exact ⟨k + 1, by omega, by go_num, (by repeat (first | with_reducible exact Gr.refl _ | with_reducible assumption | with_reducible refine Gr.alloc ?_ _ | with_reducible refine Gr.drewN ?_ _ | with_reducible refine Gr.drew ?_ | with_reducible refine Gr.setCell ?_ (by first | (dsimp only; omega) | (simp only [World.size_alloc]; omega) | (with_reducible refine Gr.size ?_; (repeat (first | with_reducible exact Gr.refl _ | with_reducible assumption | with_reducible refine Gr.alloc ?_ _ | with_reducible refine Gr.drewN ?_ _ | with_reducible refine Gr.drew ?_ | with_reducible refine Gr.trans ?_ (by with_reducible assumption))); done)) _ | with_reducible refine Gr.trans ?_ (by with_reducible assumption))), HI'⟩
          case measure => simp only [intOf]; omega
    · obtain rfl : i = l.length := by omega
      have HB := hide (anyB_no HI.out)
      go_wp2
      go_ret
      exact ⟨ret_bool HB.out.symm, (by repeat (first | with_reducible exact Gr.refl _ | with_reducible assumption | with_reducible refine Gr.alloc ?_ _ | with_reducible refine Gr.drewN ?_ _ | with_reducible refine Gr.drew ?_ | with_reducible refine Gr.setCell ?_ (by first | (dsimp only; omega) | (simp only [World.size_alloc]; omega) | (with_reducible refine Gr.size ?_; (repeat (first | with_reducible exact Gr.refl _ | with_reducible assumption | with_reducible refine Gr.alloc ?_ _ | with_reducible refine Gr.drewN ?_ _ | with_reducible refine Gr.drew ?_ | with_reducible refine Gr.trans ?_ (by with_reducible assumption))); done)) _ | with_reducible refine Gr.trans ?_ (by with_reducible assumption)))⟩
end Go.Proofs.YtjnfodbniohkhaaGreat
set_option linter.unusedVariables false
set_option linter.unusedSimpArgs false
namespace Go.Proofs.YtjnfodbniohkhaaGreat
set_option linter.unusedVariables false
set_option linter.unusedSimpArgs false
open Go Go.ChangeShapes Go.WideShapes Go.ChangeAt Go.RowKit Go.Deep

theorem facs_congr {F : Fc → Fl → Bool → Fc} {w h : Int} {l : List Fl} {m m' : Nat → Bool} : ∀ {k : Nat}, (∀ i, i < k → m i = m' i) → facs F w h l m k = facs F w h l m' k
  | 0, _ => rfl
  | k + 1, hm => by
    unfold facs
    rw [facs_congr (k := k) (fun i hi => hm i (by omega)), hm k (by omega)]
theorem full_bit {n i : Nat} (h : i < n) : (2 ^ n - 1).testBit i = true := by
  rw [Nat.testBit_two_pow_sub_one]
  simpa using h
theorem facs_full (p : Pa) : facs flC p.wd p.ht p.fl (fun i => (2 ^ p.fl.length - 1).testBit i) p.fl.length = facs flC p.wd p.ht p.fl allT p.fl.length :=
  facs_congr fun i hi => full_bit hi
theorem full_val (n : Nat) (h : n ≤ 5) : wrap64 (wrap64 ((2 : Int) ^ n) - 1) = ((2 ^ n - 1 : Nat) : Int) := by
  rcases (by omega : n = 0 ∨ n = 1 ∨ n = 2 ∨ n = 3 ∨ n = 4 ∨ n = 5) with rfl | rfl | rfl | rfl | rfl | rfl <;> decide +kernel
theorem fullMask_any (p : Pa) (A B : Option Addr) (c d : Nat) (w : World) (h : p.fl.length ≤ 5) :
    Calls Tryz.prog 97 #[pav p A c B d] w fun e w' => e = .returned (iv ((2 ^ p.fl.length - 1 : Nat) : Int)) ∧ Gr w w' := by
  have HV := hide (full_val p.fl.length h)
  go_enter Tryz.func97, Tryz.ntmps97
  go_wp2
  go_ret
  exact ⟨ret_iv HV.out, (by repeat (first | with_reducible exact Gr.refl _ | with_reducible assumption | with_reducible refine Gr.alloc ?_ _ | with_reducible refine Gr.drewN ?_ _ | with_reducible refine Gr.drew ?_ | with_reducible refine Gr.setCell ?_ (by first | (dsimp only; omega) | (simp only [World.size_alloc]; omega) | (with_reducible refine Gr.size ?_; (repeat (first | with_reducible exact Gr.refl _ | with_reducible assumption | with_reducible refine Gr.alloc ?_ _ | with_reducible refine Gr.drewN ?_ _ | with_reducible refine Gr.drew ?_ | with_reducible refine Gr.trans ?_ (by with_reducible assumption))); done)) _ | with_reducible refine Gr.trans ?_ (by with_reducible assumption)))⟩
/-- what an argument that is a part gives the walks -/
structure PaW (w : World) (p : Pa) (A : Option Addr) (c : Nat) (B : Option Addr) (d : Nat) : Prop where
  fl : SlF w A c p.fl
  ho : SlH w B d p.ho
  nm : p.nm.size ≤ 1000
  mt : p.mt.size ≤ 1000
theorem PaW.gr {w w' : World} {p : Pa} {A : Option Addr} {c : Nat} {B : Option Addr} {d : Nat} (h : PaW w p A c B d) (g : Gr w w') : PaW w' p A c B d := ⟨h.fl.gr g, h.ho.gr g, h.nm, h.mt⟩
theorem valE_names {p : Pa} (h : (nameB p.nm.toList && nameB p.mt.toList) = false) : valE p = 2 := by
  unfold valE
  rw [h]
  rfl
theorem valE_base {p : Pa} (h : (nameB p.nm.toList && nameB p.mt.toList) = true) (hb : basB p = false) : valE p = 1 := by
  unfold valE
  rw [h, hb]
  rfl
theorem valE_large {p : Pa} (h : (nameB p.nm.toList && nameB p.mt.toList) = true) (hb : basB p = true) (hl : 5 < p.fl.length ∨ 6 < p.ho.length) : valE p = 4 := by
  unfold valE
  rw [h, hb]
  simp [hl]
/-- behind the limits -/
theorem valE_rest {p : Pa} (h : (nameB p.nm.toList && nameB p.mt.toList) = true) (hb : basB p = true) (hl : ¬ (5 < p.fl.length ∨ 6 < p.ho.length)) :
    valE p = if firE (flA p) p.fl.length ≠ 0 then firE (flA p) p.fl.length else if anyB ovF p.fl then 7 else if !(p.ho.all (hoB p)) then 1 else if anyB touB p.ho then 7 else if anyB clC (facs flC p.wd p.ht p.fl allT p.fl.length) then 6 else 0 := by
  unfold valE
  rw [h, hb]
  simp only [Bool.not_true, Bool.false_eq_true, if_false, hl]
set_option maxRecDepth 100000 in
set_option maxHeartbeats 4000000 in
theorem validate_early (p : Pa) (A B : Option Addr) (c d : Nat) (w : World) (hP : PaW w p A c B d) (h : (nameB p.nm.toList && nameB p.mt.toList) = false ∨ basB p = false ∨ 5 < p.fl.length ∨ 6 < p.ho.length) :
    Calls Tryz.prog 73 #[pav p A c B d] w fun e w' => e = .returned (iv (valE p)) ∧ Gr w w' := by
  have hn := hP.nm
  have hm := hP.mt
  have HP := hide hP
  clear hP
  cases h1 : nameB p.nm.toList with
  | false =>
    have HE := hide (valE_names (p := p) (by rw [h1]; rfl))
    go_enter Tryz.func73, Tryz.ntmps73
    go_wp2_with (first | (go_at_call 62; refine (validName_any _ _ (by omega)).mono ?_; rintro e w1 ⟨rfl, rfl⟩))
    go_ret
    exact ⟨ret_iv HE.out.symm, (by repeat (first | with_reducible exact Gr.refl _ | with_reducible assumption | with_reducible refine Gr.alloc ?_ _ | with_reducible refine Gr.drewN ?_ _ | with_reducible refine Gr.drew ?_ | with_reducible refine Gr.setCell ?_ (by first | (dsimp only; omega) | (simp only [World.size_alloc]; omega) | (with_reducible refine Gr.size ?_; (repeat (first | with_reducible exact Gr.refl _ | with_reducible assumption | with_reducible refine Gr.alloc ?_ _ | with_reducible refine Gr.drewN ?_ _ | with_reducible refine Gr.drew ?_ | with_reducible refine Gr.trans ?_ (by with_reducible assumption))); done)) _ | with_reducible refine Gr.trans ?_ (by with_reducible assumption)))⟩
  | true =>
    cases h2 : nameB p.mt.toList with
    | false =>
      have HE := hide (valE_names (p := p) (by rw [h1, h2]; rfl))
      go_enter Tryz.func73, Tryz.ntmps73
      go_wp2_with (first | (go_at_call 62; refine (validName_any _ _ (by omega)).mono ?_; rintro e w1 ⟨rfl, rfl⟩))
      go_ret
      exact ⟨ret_iv HE.out.symm, (by repeat (first | with_reducible exact Gr.refl _ | with_reducible assumption | with_reducible refine Gr.alloc ?_ _ | with_reducible refine Gr.drewN ?_ _ | with_reducible refine Gr.drew ?_ | with_reducible refine Gr.setCell ?_ (by first | (dsimp only; omega) | (simp only [World.size_alloc]; omega) | (with_reducible refine Gr.size ?_; (repeat (first | with_reducible exact Gr.refl _ | with_reducible assumption | with_reducible refine Gr.alloc ?_ _ | with_reducible refine Gr.drewN ?_ _ | with_reducible refine Gr.drew ?_ | with_reducible refine Gr.trans ?_ (by with_reducible assumption))); done)) _ | with_reducible refine Gr.trans ?_ (by with_reducible assumption)))⟩
    | true =>
      cases h3 : basB p with
      | false =>
        have HE := hide (valE_base (p := p) (by rw [h1, h2]; rfl) h3)
        go_enter Tryz.func73, Tryz.ntmps73
        go_wp2_with (first | (go_at_call 62; refine (validName_any _ _ (by omega)).mono ?_; rintro e w1 ⟨rfl, rfl⟩) | (go_at_call 88; refine (validBase_any _ _ _ _ _ _).mono ?_; rintro e w1 ⟨rfl, g1⟩; obtain ⟨X1, Y1, c1, f1⟩ := g1.use; have z1 := g1.size; (try simp only [World.size_alloc, World.size_setCell, World.heap_drewN, Nat.add_one_le_iff] at z1); (try have l0 : w.heap.size < w1.heap.size := by omega); (try have l1 : w.heap.size + 1 < w1.heap.size := by omega); (try have l2 : w.heap.size + 1 + 1 < w1.heap.size := by omega)))
        go_ret
        exact ⟨ret_iv HE.out.symm, (by repeat (first | with_reducible exact Gr.refl _ | with_reducible assumption | with_reducible refine Gr.alloc ?_ _ | with_reducible refine Gr.drewN ?_ _ | with_reducible refine Gr.drew ?_ | with_reducible refine Gr.setCell ?_ (by first | (dsimp only; omega) | (simp only [World.size_alloc]; omega) | (with_reducible refine Gr.size ?_; (repeat (first | with_reducible exact Gr.refl _ | with_reducible assumption | with_reducible refine Gr.alloc ?_ _ | with_reducible refine Gr.drewN ?_ _ | with_reducible refine Gr.drew ?_ | with_reducible refine Gr.trans ?_ (by with_reducible assumption))); done)) _ | with_reducible refine Gr.trans ?_ (by with_reducible assumption)))⟩
      | true =>
        have hl : 5 < p.fl.length ∨ 6 < p.ho.length := by
          rcases h with h | h | h
          · rw [h1, h2] at h; cases h
          · rw [h3] at h; cases h
          · exact h
        have HE := hide (valE_large (p := p) (by rw [h1, h2]; rfl) h3 hl)
        clear h
        by_cases hl5 : 5 < p.fl.length
        · clear hl
          go_enter Tryz.func73, Tryz.ntmps73
          go_wp2_with (first | (go_at_call 62; refine (validName_any _ _ (by omega)).mono ?_; rintro e w1 ⟨rfl, rfl⟩) | (go_at_call 88; refine (validBase_any _ _ _ _ _ _).mono ?_; rintro e w1 ⟨rfl, g1⟩; obtain ⟨X1, Y1, c1, f1⟩ := g1.use; have z1 := g1.size; (try simp only [World.size_alloc, World.size_setCell, World.heap_drewN, Nat.add_one_le_iff] at z1); (try have l0 : w.heap.size < w1.heap.size := by omega); (try have l1 : w.heap.size + 1 < w1.heap.size := by omega); (try have l2 : w.heap.size + 1 + 1 < w1.heap.size := by omega)))
          go_ret
          exact ⟨ret_iv HE.out.symm, (by repeat (first | with_reducible exact Gr.refl _ | with_reducible assumption | with_reducible refine Gr.alloc ?_ _ | with_reducible refine Gr.drewN ?_ _ | with_reducible refine Gr.drew ?_ | with_reducible refine Gr.setCell ?_ (by first | (dsimp only; omega) | (simp only [World.size_alloc]; omega) | (with_reducible refine Gr.size ?_; (repeat (first | with_reducible exact Gr.refl _ | with_reducible assumption | with_reducible refine Gr.alloc ?_ _ | with_reducible refine Gr.drewN ?_ _ | with_reducible refine Gr.drew ?_ | with_reducible refine Gr.trans ?_ (by with_reducible assumption))); done)) _ | with_reducible refine Gr.trans ?_ (by with_reducible assumption)))⟩
        · have hl6 : 6 < p.ho.length := by omega
          clear hl
          go_enter Tryz.func73, Tryz.ntmps73
          go_wp2_with (first | (go_at_call 62; refine (validName_any _ _ (by omega)).mono ?_; rintro e w1 ⟨rfl, rfl⟩) | (go_at_call 88; refine (validBase_any _ _ _ _ _ _).mono ?_; rintro e w1 ⟨rfl, g1⟩; obtain ⟨X1, Y1, c1, f1⟩ := g1.use; have z1 := g1.size; (try simp only [World.size_alloc, World.size_setCell, World.heap_drewN, Nat.add_one_le_iff] at z1); (try have l0 : w.heap.size < w1.heap.size := by omega); (try have l1 : w.heap.size + 1 < w1.heap.size := by omega); (try have l2 : w.heap.size + 1 + 1 < w1.heap.size := by omega)))
          go_ret
          exact ⟨ret_iv HE.out.symm, (by repeat (first | with_reducible exact Gr.refl _ | with_reducible assumption | with_reducible refine Gr.alloc ?_ _ | with_reducible refine Gr.drewN ?_ _ | with_reducible refine Gr.drew ?_ | with_reducible refine Gr.setCell ?_ (by first | (dsimp only; omega) | (simp only [World.size_alloc]; omega) | (with_reducible refine Gr.size ?_; (repeat (first | with_reducible exact Gr.refl _ | with_reducible assumption | with_reducible refine Gr.alloc ?_ _ | with_reducible refine Gr.drewN ?_ _ | with_reducible refine Gr.drew ?_ | with_reducible refine Gr.trans ?_ (by with_reducible assumption))); done)) _ | with_reducible refine Gr.trans ?_ (by with_reducible assumption)))⟩
end Go.Proofs.YtjnfodbniohkhaaGreat
set_option linter.unusedVariables false
set_option linter.unusedSimpArgs false
namespace Go.Proofs.YtjnfodbniohkhaaGreat
set_option linter.unusedVariables false
set_option linter.unusedSimpArgs false
open Go Go.ChangeShapes Go.WideShapes Go.ChangeAt Go.RowKit Go.Deep

end Go.Proofs.YtjnfodbniohkhaaGreat
set_option linter.unusedVariables false
set_option linter.unusedSimpArgs false
namespace Go.Proofs.YtjnfodbniohkhaaGreat
set_option linter.unusedVariables false
set_option linter.unusedSimpArgs false
open Go Go.ChangeShapes Go.WideShapes Go.ChangeAt Go.RowKit Go.Deep

theorem good_iff {f : Fl} {k : Nat} : (wiB f.pa 0 k && sidB f && angB f.an && lenB f.wd && lenB f.ln) = true ↔ (wiB f.pa 0 k = true ∧ wiB f.sd 0 3 = true ∧ (f.sd = 1 → f.pa = 0) ∧ (f.an = 90 ∨ f.an = -90 ∨ f.an = 180 ∨ f.an = -180) ∧ wiB f.wd 1 150 = true ∧ wiB f.ln 1 150 = true) := by
  unfold sidB angB lenB
  simp only [Bool.and_eq_true, Bool.or_eq_true, Bool.not_eq_true', decide_eq_true_eq, decide_eq_false_iff_not]
  grind
end Go.Proofs.YtjnfodbniohkhaaGreat
set_option linter.unusedVariables false
set_option linter.unusedSimpArgs false
namespace Go.Proofs.YtjnfodbniohkhaaGreat
set_option linter.unusedVariables false
set_option linter.unusedSimpArgs false
open Go Go.ChangeShapes Go.WideShapes Go.ChangeAt Go.RowKit Go.Deep

abbrev p2 (a b : Int) : Value := .agg #[iv a, iv b]
end Go.Proofs.YtjnfodbniohkhaaGreat
set_option linter.unusedVariables false
set_option linter.unusedSimpArgs false
namespace Go.Proofs.YtjnfodbniohkhaaGreat
set_option linter.unusedVariables false
set_option linter.unusedSimpArgs false
open Go Go.ChangeShapes Go.WideShapes Go.ChangeAt Go.RowKit Go.Deep

theorem flSm_of {p : Pa} (h : FlOk p p.fl.length) : ∀ g ∈ p.fl, FlSm g := by
  intro g hg
  obtain ⟨i, hi⟩ := List.mem_iff_getElem?.1 hg
  obtain ⟨_, _, _, a, _, b⟩ := h.fl i g (List.getElem?_eq_some_iff.1 hi).1 hi
  exact ⟨a, b⟩
theorem flA_at {p : Pa} {k : Nat} {f : Fl} (h : p.fl[k]? = some f) : flA p k = flE p k f := by
  unfold flA
  rw [h]
theorem slC_of {w : World} {base : Nat} {A : Option Addr} {d : Nat} {xs : List Fc} (h : OwnL w base 147 11 fcL (.slice A xs.length d) xs) (hl : xs.length ≤ 1000) : SlC w A d xs := by
  obtain ⟨-, h1, h2, h3⟩ := OwnL.rdC h
  exact ⟨h1, h2, by unfold maxLen at h3; omega, hl⟩
set_option maxRecDepth 100000 in
set_option maxHeartbeats 4000000 in
theorem validate_late (p : Pa) (A B : Option Addr) (c d : Nat) (w : World) (hP : PaW w p A c B d) (h : (nameB p.nm.toList && nameB p.mt.toList) = true) (hb : basB p = true) (hl : ¬ (5 < p.fl.length ∨ 6 < p.ho.length)) :
    Calls Tryz.prog 73 #[pav p A c B d] w fun e w' => e = .returned (iv (valE p)) ∧ Gr w w' := by
  have hn := hP.nm
  have hm := hP.mt
  have HP := hide hP
  have HE := hide (valE_rest h hb hl)
  have HB := hide hb
  have hl5 : p.fl.length ≤ 5 := by omega
  have hl6 : p.ho.length ≤ 6 := by omega
  simp only [Bool.and_eq_true] at h
  obtain ⟨h1, h2⟩ := h
  clear hP hl
  go_enter Tryz.func73, Tryz.ntmps73
  go_upto_region 8 with (first | (go_at_call 62; refine (validName_any _ _ (by omega)).mono ?_; rintro e w1 ⟨rfl, rfl⟩) | (go_at_call 88; refine (validBase_any _ _ _ _ _ _).mono ?_; rintro e w1 ⟨rfl, g1⟩; obtain ⟨X1, Y1, c1, f1⟩ := g1.use; have z1 := g1.size; (try simp only [World.size_alloc, World.size_setCell, World.heap_drewN, Nat.add_one_le_iff] at z1); (try have l0 : w.heap.size < w1.heap.size := by omega); (try have l1 : w.heap.size + 1 < w1.heap.size := by omega); (try have l2 : w.heap.size + 1 + 1 < w1.heap.size := by omega)))
  have g01 : Gr (w.alloc (.cells #[.string p.nm, .string p.mt, iv p.ga, iv p.gr, iv p.wd, iv p.ht, .slice A p.fl.length c, .slice B p.ho.length d] 25)) w1 := (by repeat (first | with_reducible exact Gr.refl _ | with_reducible assumption | with_reducible refine Gr.alloc ?_ _ | with_reducible refine Gr.drewN ?_ _ | with_reducible refine Gr.drew ?_ | with_reducible refine Gr.setCell ?_ (by first | (dsimp only; omega) | (simp only [World.size_alloc]; omega) | (with_reducible refine Gr.size ?_; (repeat (first | with_reducible exact Gr.refl _ | with_reducible assumption | with_reducible refine Gr.alloc ?_ _ | with_reducible refine Gr.drewN ?_ _ | with_reducible refine Gr.drew ?_ | with_reducible refine Gr.trans ?_ (by with_reducible assumption))); done)) _ | with_reducible refine Gr.trans ?_ (by with_reducible assumption)))
  go_wp2
  clear c1 f1 g1
  obtain ⟨wS, rfl⟩ : ∃ wS, wS = w1 := ⟨_, rfl⟩
  go_loopw [34] (fun i wr => ∃ k : Nat, k ≤ p.fl.length ∧ i = iv k ∧ Gr (w.alloc (.cells #[.string p.nm, .string p.mt, iv p.ga, iv p.gr, iv p.wd, iv p.ht, .slice A p.fl.length c, .slice B p.ho.length d] 25)) wr ∧ Hid (FlOk p k) ∧ Hid (∀ j, j < k → flA p j = 0)) (fun i _ => p.fl.length - (intOf i).toNat)
  case atStart => exact ⟨0, by omega, rfl, g01, FlOk.zero HB.out, by intro j hj; omega⟩
  case round =>
    obtain ⟨k, hk, rfl, g, HOK, HZ⟩ := hrel
    clear g01
    have gW : Gr w wr := (by repeat (first | with_reducible exact Gr.refl _ | with_reducible assumption | with_reducible refine Gr.alloc ?_ _ | with_reducible refine Gr.drewN ?_ _ | with_reducible refine Gr.drew ?_ | with_reducible refine Gr.setCell ?_ (by first | (dsimp only; omega) | (simp only [World.size_alloc]; omega) | (with_reducible refine Gr.size ?_; (repeat (first | with_reducible exact Gr.refl _ | with_reducible assumption | with_reducible refine Gr.alloc ?_ _ | with_reducible refine Gr.drewN ?_ _ | with_reducible refine Gr.drew ?_ | with_reducible refine Gr.trans ?_ (by with_reducible assumption))); done)) _ | with_reducible refine Gr.trans ?_ (by with_reducible assumption)))
    obtain ⟨Xr, Yr, cr, fr⟩ := g.use
    have zr := g.size
    simp only [World.size_alloc] at zr
    have l0 : w.heap.size < wr.heap.size := by omega
    by_cases hkl : k < p.fl.length
    · obtain ⟨f, hf⟩ : ∃ f, p.fl[k]? = some f := ⟨_, List.getElem?_eq_getElem hkl⟩
      have HC := hide (checkFlange_any p A B c d k f wr (HP.out.fl.gr gW) hf HOK.out)
      have HF := hide hf
      by_cases h0 : flE p k f = 0
      · have HO' := hide (HOK.out.succ hf h0)
        have HZ' := hide (show ∀ j, j < k + 1 → flA p j = 0 by
          intro j hj
          rcases Nat.lt_or_ge j k with h | h
          · exact HZ.out j h
          · obtain rfl : j = k := by omega
            rw [flA_at HF.out, h0])
        rw [h0] at HC
        clear hf
        go_wp2_with fail
        refine HC.out.mono ?_
        rintro e w2 ⟨rfl, g2⟩
        go_wp2_with fail
        go_roundw
        case rel => exact ⟨k + 1, by omega, by go_num, (by repeat (first | with_reducible exact Gr.refl _ | with_reducible assumption | with_reducible refine Gr.alloc ?_ _ | with_reducible refine Gr.drewN ?_ _ | with_reducible refine Gr.drew ?_ | with_reducible refine Gr.setCell ?_ (by first | (dsimp only; omega) | (simp only [World.size_alloc]; omega) | (with_reducible refine Gr.size ?_; (repeat (first | with_reducible exact Gr.refl _ | with_reducible assumption | with_reducible refine Gr.alloc ?_ _ | with_reducible refine Gr.drewN ?_ _ | with_reducible refine Gr.drew ?_ | with_reducible refine Gr.trans ?_ (by with_reducible assumption))); done)) _ | with_reducible refine Gr.trans ?_ (by with_reducible assumption))), HO', HZ'⟩
        case measure => simp only [intOf]; omega
      · have HE3 := hide (show valE p = flE p k f by
          have := firE_at (e := flA p) (k := k) (fun j hj => HZ.out j hj) (by rw [flA_at HF.out]; exact h0) hkl
          rw [HE.out, this, flA_at HF.out, if_pos h0])
        have h0' : (flE p k f != 0) = true := by simpa using h0
        clear hf
        generalize flE p k f = x at *
        go_wp2_with fail
        refine HC.out.mono ?_
        rintro e w2 ⟨rfl, g2⟩
        go_wp2_with fail
        go_ret
        exact ⟨ret_iv HE3.out.symm, (by repeat (first | with_reducible exact Gr.refl _ | with_reducible assumption | with_reducible refine Gr.alloc ?_ _ | with_reducible refine Gr.drewN ?_ _ | with_reducible refine Gr.drew ?_ | with_reducible refine Gr.setCell ?_ (by first | (dsimp only; omega) | (simp only [World.size_alloc]; omega) | (with_reducible refine Gr.size ?_; (repeat (first | with_reducible exact Gr.refl _ | with_reducible assumption | with_reducible refine Gr.alloc ?_ _ | with_reducible refine Gr.drewN ?_ _ | with_reducible refine Gr.drew ?_ | with_reducible refine Gr.trans ?_ (by with_reducible assumption))); done)) _ | with_reducible refine Gr.trans ?_ (by with_reducible assumption)))⟩
    · obtain rfl : k = p.fl.length := by omega
      have ok := HOK.out
      have HE2 := hide (show valE p = if anyB ovF p.fl then 7 else if !(p.ho.all (hoB p)) then 1 else if anyB touB p.ho then 7 else if anyB clC (facs flC p.wd p.ht p.fl allT p.fl.length) then 6 else 0 by
        rw [HE.out, firE_none (fun j hj => HZ.out j hj)]; rfl)
      have HAF := hide (fun (w' : World) (g : Gr w w') => anyF_any A c p.fl w' (HP.out.fl.gr g) (flSm_of ok))
      have HVH := hide (fun (w' : World) (g : Gr w w') => validHoles_any p A B c d w' (HP.out.fl.gr g) (HP.out.ho.gr g) ok)
      have HAH := hide (fun (w' : World) (g : Gr w w') => anyH_any B d p.ho w' (HP.out.ho.gr g))
      have HFC := hide (fun (w' : World) (g : Gr w w') => faces_any p A B c d (2 ^ p.fl.length - 1) w' (HP.out.fl.gr g) hl5 (by have : 2 ^ p.fl.length ≤ 2 ^ 5 := Nat.pow_le_pow_right (by omega) hl5; omega) ok.fit)
      clear ok HE HZ HOK hb
      cases e1 : anyB ovF p.fl with
      | true =>
        have HE3 := hide (show valE p = 7 by rw [HE2.out, e1]; rfl)
        rw [e1] at HAF
        clear e1 HE2
        go_wp2_with fail
        refine (HAF.out _ gW).mono ?_
        rintro e w2 ⟨rfl, g2⟩
        have q2 := g2.size
        obtain ⟨X2, Y2, c2, f2⟩ := g2.use
        go_wp2_with fail
        go_ret
        exact ⟨ret_iv HE3.out.symm, (by repeat (first | with_reducible exact Gr.refl _ | with_reducible assumption | with_reducible refine Gr.alloc ?_ _ | with_reducible refine Gr.drewN ?_ _ | with_reducible refine Gr.drew ?_ | with_reducible refine Gr.setCell ?_ (by first | (dsimp only; omega) | (simp only [World.size_alloc]; omega) | (with_reducible refine Gr.size ?_; (repeat (first | with_reducible exact Gr.refl _ | with_reducible assumption | with_reducible refine Gr.alloc ?_ _ | with_reducible refine Gr.drewN ?_ _ | with_reducible refine Gr.drew ?_ | with_reducible refine Gr.trans ?_ (by with_reducible assumption))); done)) _ | with_reducible refine Gr.trans ?_ (by with_reducible assumption)))⟩
      | false =>
        rw [e1] at HAF HE2
        cases e2 : p.ho.all (hoB p) with
        | false =>
          have HE3 := hide (show valE p = 1 by rw [HE2.out, e2]; rfl)
          rw [e2] at HVH
          clear e1 e2 HE2
          go_wp2_with fail
          refine (HAF.out _ gW).mono ?_
          rintro e w2 ⟨rfl, g2⟩
          have q2 := g2.size
          obtain ⟨X2, Y2, c2, f2⟩ := g2.use
          have m2 : w.heap.size < w2.heap.size := by omega
          go_wp2_with fail
          refine (HVH.out _ (gW.trans g2)).mono ?_
          rintro e w3 ⟨rfl, g3⟩
          have q3 := g3.size
          obtain ⟨X3, Y3, c3, f3⟩ := g3.use
          go_wp2_with fail
          go_ret
          exact ⟨ret_iv HE3.out.symm, (by repeat (first | with_reducible exact Gr.refl _ | with_reducible assumption | with_reducible refine Gr.alloc ?_ _ | with_reducible refine Gr.drewN ?_ _ | with_reducible refine Gr.drew ?_ | with_reducible refine Gr.setCell ?_ (by first | (dsimp only; omega) | (simp only [World.size_alloc]; omega) | (with_reducible refine Gr.size ?_; (repeat (first | with_reducible exact Gr.refl _ | with_reducible assumption | with_reducible refine Gr.alloc ?_ _ | with_reducible refine Gr.drewN ?_ _ | with_reducible refine Gr.drew ?_ | with_reducible refine Gr.trans ?_ (by with_reducible assumption))); done)) _ | with_reducible refine Gr.trans ?_ (by with_reducible assumption)))⟩
        | true =>
          rw [e2] at HVH HE2
          cases e3 : anyB touB p.ho with
          | true =>
            have HE3 := hide (show valE p = 7 by rw [HE2.out, e3]; rfl)
            rw [e3] at HAH
            clear e1 e2 e3 HE2
            go_wp2_with fail
            refine (HAF.out _ gW).mono ?_
            rintro e w2 ⟨rfl, g2⟩
            have q2 := g2.size
            obtain ⟨X2, Y2, c2, f2⟩ := g2.use
            have m2 : w.heap.size < w2.heap.size := by omega
            go_wp2_with fail
            refine (HVH.out _ (gW.trans g2)).mono ?_
            rintro e w3 ⟨rfl, g3⟩
            have q3 := g3.size
            obtain ⟨X3, Y3, c3, f3⟩ := g3.use
            have m3 : w.heap.size < w3.heap.size := by omega
            go_wp2_with fail
            refine (HAH.out _ ((gW.trans g2).trans g3)).mono ?_
            rintro e w4 ⟨rfl, g4⟩
            have q4 := g4.size
            obtain ⟨X4, Y4, c4, f4⟩ := g4.use
            go_wp2_with fail
            go_ret
            exact ⟨ret_iv HE3.out.symm, (by repeat (first | with_reducible exact Gr.refl _ | with_reducible assumption | with_reducible refine Gr.alloc ?_ _ | with_reducible refine Gr.drewN ?_ _ | with_reducible refine Gr.drew ?_ | with_reducible refine Gr.setCell ?_ (by first | (dsimp only; omega) | (simp only [World.size_alloc]; omega) | (with_reducible refine Gr.size ?_; (repeat (first | with_reducible exact Gr.refl _ | with_reducible assumption | with_reducible refine Gr.alloc ?_ _ | with_reducible refine Gr.drewN ?_ _ | with_reducible refine Gr.drew ?_ | with_reducible refine Gr.trans ?_ (by with_reducible assumption))); done)) _ | with_reducible refine Gr.trans ?_ (by with_reducible assumption)))⟩
          | false =>
            rw [e3] at HAH HE2
            clear e1 e2 e3
            go_wp2_with fail
            refine (HAF.out _ gW).mono ?_
            rintro e w2 ⟨rfl, g2⟩
            have q2 := g2.size
            obtain ⟨X2, Y2, c2, f2⟩ := g2.use
            have m2 : w.heap.size < w2.heap.size := by omega
            go_wp2_with fail
            refine (HVH.out _ (gW.trans g2)).mono ?_
            rintro e w3 ⟨rfl, g3⟩
            have q3 := g3.size
            obtain ⟨X3, Y3, c3, f3⟩ := g3.use
            have m3 : w.heap.size < w3.heap.size := by omega
            go_wp2_with fail
            refine (HAH.out _ ((gW.trans g2).trans g3)).mono ?_
            rintro e w4 ⟨rfl, g4⟩
            have q4 := g4.size
            obtain ⟨X4, Y4, c4, f4⟩ := g4.use
            have m4 : w.heap.size < w4.heap.size := by omega
            have gW4 : Gr w w4 := ((gW.trans g2).trans g3).trans g4
            have hlen : (facs flC p.wd p.ht p.fl (fun i => (2 ^ p.fl.length - 1).testBit i) p.fl.length).length = p.fl.length + 1 := facs_len (Nat.le_refl _)
            have HAC := hide (fun (A6 : Option Addr) (d6 : Nat) (w' : World) (hs : SlC w' A6 d6 (facs flC p.wd p.ht p.fl allT p.fl.length)) => anyC_any A6 d6 (facs flC p.wd p.ht p.fl allT p.fl.length) w' hs)
            rw [facs_full] at hlen
            simp only [facs_full] at HFC
            generalize facs flC p.wd p.ht p.fl allT p.fl.length = FS at *
            have HFM := hide (fun w' => fullMask_any p A B c d w' hl5)
            generalize 2 ^ p.fl.length - 1 = M at *
            have HLEN := hide hlen
            clear hlen
            clear HP HB hn hm
            cases e4 : anyB clC FS with
            | true =>
              have HE3 := hide (show valE p = 6 by rw [HE2.out, e4]; rfl)
              rw [e4] at HAC
              clear e4 HE2
              go_upto_region 20 with fail
              go_region_law (first
                | (go_simp; go_at_call 97; refine (HFM.out _).mono ?_; rintro e w5 ⟨rfl, g5⟩; (have m5 : w.heap.size < w5.heap.size := Nat.lt_of_lt_of_le m4 (Gr.size (by repeat (first | with_reducible exact Gr.refl _ | with_reducible assumption | with_reducible refine Gr.alloc ?_ _ | with_reducible refine Gr.drewN ?_ _ | with_reducible refine Gr.drew ?_ | with_reducible refine Gr.setCell ?_ (by first | (dsimp only; omega) | (simp only [World.size_alloc]; omega) | (with_reducible refine Gr.size ?_; (repeat (first | with_reducible exact Gr.refl _ | with_reducible assumption | with_reducible refine Gr.alloc ?_ _ | with_reducible refine Gr.drewN ?_ _ | with_reducible refine Gr.drew ?_ | with_reducible refine Gr.trans ?_ (by with_reducible assumption))); done)) _ | with_reducible refine Gr.trans ?_ (by with_reducible assumption))))); obtain ⟨X5, Y5, c5, f5⟩ := g5.use)
                | (go_simp; go_at_call 96; refine (HFC.out _ (gW4.trans (by repeat (first | with_reducible exact Gr.refl _ | with_reducible assumption | with_reducible refine Gr.alloc ?_ _ | with_reducible refine Gr.drewN ?_ _ | with_reducible refine Gr.drew ?_ | with_reducible refine Gr.setCell ?_ (by first | (dsimp only; omega) | (simp only [World.size_alloc]; omega) | (with_reducible refine Gr.size ?_; (repeat (first | with_reducible exact Gr.refl _ | with_reducible assumption | with_reducible refine Gr.alloc ?_ _ | with_reducible refine Gr.drewN ?_ _ | with_reducible refine Gr.drew ?_ | with_reducible refine Gr.trans ?_ (by with_reducible assumption))); done)) _ | with_reducible refine Gr.trans ?_ (by with_reducible assumption))))).mono ?_; rintro e w6 ⟨v6, rfl, ho6, g6⟩; obtain ⟨A6, d6, rfl⟩ := ho6.slice; (have hsl := slC_of ho6 (by rw [HLEN.out]; omega)); (have HSL := hide hsl); clear hsl ho6; (have m6 : w.heap.size < w6.heap.size := Nat.lt_of_lt_of_le m4 (Gr.size (by repeat (first | with_reducible exact Gr.refl _ | with_reducible assumption | with_reducible refine Gr.alloc ?_ _ | with_reducible refine Gr.drewN ?_ _ | with_reducible refine Gr.drew ?_ | with_reducible refine Gr.setCell ?_ (by first | (dsimp only; omega) | (simp only [World.size_alloc]; omega) | (with_reducible refine Gr.size ?_; (repeat (first | with_reducible exact Gr.refl _ | with_reducible assumption | with_reducible refine Gr.alloc ?_ _ | with_reducible refine Gr.drewN ?_ _ | with_reducible refine Gr.drew ?_ | with_reducible refine Gr.trans ?_ (by with_reducible assumption))); done)) _ | with_reducible refine Gr.trans ?_ (by with_reducible assumption))))); obtain ⟨X6, Y6, c6, f6⟩ := g6.use)
                | (go_simp; go_at_call 95; refine (HAC.out A6 d6 _ (HSL.out.gr (by repeat (first | with_reducible exact Gr.refl _ | with_reducible assumption | with_reducible refine Gr.alloc ?_ _ | with_reducible refine Gr.drewN ?_ _ | with_reducible refine Gr.drew ?_ | with_reducible refine Gr.setCell ?_ (by first | (dsimp only; omega) | (simp only [World.size_alloc]; omega) | (with_reducible refine Gr.size ?_; (repeat (first | with_reducible exact Gr.refl _ | with_reducible assumption | with_reducible refine Gr.alloc ?_ _ | with_reducible refine Gr.drewN ?_ _ | with_reducible refine Gr.drew ?_ | with_reducible refine Gr.trans ?_ (by with_reducible assumption))); done)) _ | with_reducible refine Gr.trans ?_ (by with_reducible assumption))))).mono ?_; rintro e w7 ⟨rfl, g7⟩; obtain ⟨X7, Y7, c7, f7⟩ := g7.use))
              all_goals
                go_wp2
                go_ret
                exact ⟨ret_iv HE3.out.symm, (by repeat (first | with_reducible exact Gr.refl _ | with_reducible assumption | with_reducible refine Gr.alloc ?_ _ | with_reducible refine Gr.drewN ?_ _ | with_reducible refine Gr.drew ?_ | with_reducible refine Gr.setCell ?_ (by first | (dsimp only; omega) | (simp only [World.size_alloc]; omega) | (with_reducible refine Gr.size ?_; (repeat (first | with_reducible exact Gr.refl _ | with_reducible assumption | with_reducible refine Gr.alloc ?_ _ | with_reducible refine Gr.drewN ?_ _ | with_reducible refine Gr.drew ?_ | with_reducible refine Gr.trans ?_ (by with_reducible assumption))); done)) _ | with_reducible refine Gr.trans ?_ (by with_reducible assumption)))⟩
            | false =>
              have HE3 := hide (show valE p = 0 by rw [HE2.out, e4]; rfl)
              rw [e4] at HAC
              clear e4 HE2
              go_upto_region 20 with fail
              go_region_law (first
                | (go_simp; go_at_call 97; refine (HFM.out _).mono ?_; rintro e w5 ⟨rfl, g5⟩; (have m5 : w.heap.size < w5.heap.size := Nat.lt_of_lt_of_le m4 (Gr.size (by repeat (first | with_reducible exact Gr.refl _ | with_reducible assumption | with_reducible refine Gr.alloc ?_ _ | with_reducible refine Gr.drewN ?_ _ | with_reducible refine Gr.drew ?_ | with_reducible refine Gr.setCell ?_ (by first | (dsimp only; omega) | (simp only [World.size_alloc]; omega) | (with_reducible refine Gr.size ?_; (repeat (first | with_reducible exact Gr.refl _ | with_reducible assumption | with_reducible refine Gr.alloc ?_ _ | with_reducible refine Gr.drewN ?_ _ | with_reducible refine Gr.drew ?_ | with_reducible refine Gr.trans ?_ (by with_reducible assumption))); done)) _ | with_reducible refine Gr.trans ?_ (by with_reducible assumption))))); obtain ⟨X5, Y5, c5, f5⟩ := g5.use)
                | (go_simp; go_at_call 96; refine (HFC.out _ (gW4.trans (by repeat (first | with_reducible exact Gr.refl _ | with_reducible assumption | with_reducible refine Gr.alloc ?_ _ | with_reducible refine Gr.drewN ?_ _ | with_reducible refine Gr.drew ?_ | with_reducible refine Gr.setCell ?_ (by first | (dsimp only; omega) | (simp only [World.size_alloc]; omega) | (with_reducible refine Gr.size ?_; (repeat (first | with_reducible exact Gr.refl _ | with_reducible assumption | with_reducible refine Gr.alloc ?_ _ | with_reducible refine Gr.drewN ?_ _ | with_reducible refine Gr.drew ?_ | with_reducible refine Gr.trans ?_ (by with_reducible assumption))); done)) _ | with_reducible refine Gr.trans ?_ (by with_reducible assumption))))).mono ?_; rintro e w6 ⟨v6, rfl, ho6, g6⟩; obtain ⟨A6, d6, rfl⟩ := ho6.slice; (have hsl := slC_of ho6 (by rw [HLEN.out]; omega)); (have HSL := hide hsl); clear hsl ho6; (have m6 : w.heap.size < w6.heap.size := Nat.lt_of_lt_of_le m4 (Gr.size (by repeat (first | with_reducible exact Gr.refl _ | with_reducible assumption | with_reducible refine Gr.alloc ?_ _ | with_reducible refine Gr.drewN ?_ _ | with_reducible refine Gr.drew ?_ | with_reducible refine Gr.setCell ?_ (by first | (dsimp only; omega) | (simp only [World.size_alloc]; omega) | (with_reducible refine Gr.size ?_; (repeat (first | with_reducible exact Gr.refl _ | with_reducible assumption | with_reducible refine Gr.alloc ?_ _ | with_reducible refine Gr.drewN ?_ _ | with_reducible refine Gr.drew ?_ | with_reducible refine Gr.trans ?_ (by with_reducible assumption))); done)) _ | with_reducible refine Gr.trans ?_ (by with_reducible assumption))))); obtain ⟨X6, Y6, c6, f6⟩ := g6.use)
                | (go_simp; go_at_call 95; refine (HAC.out A6 d6 _ (HSL.out.gr (by repeat (first | with_reducible exact Gr.refl _ | with_reducible assumption | with_reducible refine Gr.alloc ?_ _ | with_reducible refine Gr.drewN ?_ _ | with_reducible refine Gr.drew ?_ | with_reducible refine Gr.setCell ?_ (by first | (dsimp only; omega) | (simp only [World.size_alloc]; omega) | (with_reducible refine Gr.size ?_; (repeat (first | with_reducible exact Gr.refl _ | with_reducible assumption | with_reducible refine Gr.alloc ?_ _ | with_reducible refine Gr.drewN ?_ _ | with_reducible refine Gr.drew ?_ | with_reducible refine Gr.trans ?_ (by with_reducible assumption))); done)) _ | with_reducible refine Gr.trans ?_ (by with_reducible assumption))))).mono ?_; rintro e w7 ⟨rfl, g7⟩; obtain ⟨X7, Y7, c7, f7⟩ := g7.use))
              all_goals
                go_wp2
                go_ret
                exact ⟨ret_iv HE3.out.symm, (by repeat (first | with_reducible exact Gr.refl _ | with_reducible assumption | with_reducible refine Gr.alloc ?_ _ | with_reducible refine Gr.drewN ?_ _ | with_reducible refine Gr.drew ?_ | with_reducible refine Gr.setCell ?_ (by first | (dsimp only; omega) | (simp only [World.size_alloc]; omega) | (with_reducible refine Gr.size ?_; (repeat (first | with_reducible exact Gr.refl _ | with_reducible assumption | with_reducible refine Gr.alloc ?_ _ | with_reducible refine Gr.drewN ?_ _ | with_reducible refine Gr.drew ?_ | with_reducible refine Gr.trans ?_ (by with_reducible assumption))); done)) _ | with_reducible refine Gr.trans ?_ (by with_reducible assumption)))⟩
end Go.Proofs.YtjnfodbniohkhaaGreat
set_option linter.unusedVariables false
set_option linter.unusedSimpArgs false
namespace Go.Proofs.YtjnfodbniohkhaaGreat
set_option linter.unusedVariables false
set_option linter.unusedSimpArgs false
open Go Go.ChangeShapes Go.WideShapes Go.ChangeAt Go.RowKit Go.Deep

/-- what the reference's flangesError returns -/
noncomputable def flsE (p : Pa) : Int := if firE (flA p) p.fl.length ≠ 0 then firE (flA p) p.fl.length else if anyB ovF p.fl then 7 else 0
theorem ov_way {a f : Fl} (h : ovF a f = true) : (f.pa == a.pa) = true ∧ (f.sd == a.sd) = true ∧ decide (f.o < a.o + a.wd) = true ∧ decide (a.o < f.o + f.wd) = true := by
  unfold ovF at h
  simp at h ⊢
  omega
theorem ov_ways {a f : Fl} (h : ovF a f = false) : (f.pa == a.pa) = false ∨ ((f.pa == a.pa) = true ∧ (f.sd == a.sd) = false) ∨ ((f.pa == a.pa) = true ∧ (f.sd == a.sd) = true ∧ decide (f.o < a.o + a.wd) = false) ∨ ((f.pa == a.pa) = true ∧ (f.sd == a.sd) = true ∧ decide (f.o < a.o + a.wd) = true ∧ decide (a.o < f.o + f.wd) = false) := by
  unfold ovF at h
  simp at h ⊢
  omega
end Go.Proofs.YtjnfodbniohkhaaGreat
set_option linter.unusedVariables false
set_option linter.unusedSimpArgs false
namespace Go.Proofs.YtjnfodbniohkhaaGreat
set_option linter.unusedVariables false
set_option linter.unusedSimpArgs false
open Go Go.ChangeShapes Go.WideShapes Go.ChangeAt Go.RowKit Go.Deep

/-- what the reference's holesError returns -/
noncomputable def hosE (p : Pa) : Int := if !(p.ho.all (hoB p)) then 1 else if anyB touB p.ho then 7 else 0
theorem gaV_comm (a b c d : Int) : R.gaV a b c d = R.gaV c d a b := by
  unfold R.gaV
  split <;> split <;> omega
theorem diV_comm (x y u h a b c d : Int) : R.diV x y u h a b c d = R.diV a b c d x y u h := by
  unfold R.diV
  rw [Bool.and_comm, gaV_comm x, gaV_comm y]
theorem fa_yes {x y : Int} {q : Bool} (h : (x == y && q) = true) : (y == x) = true ∧ q = true := by
  rw [Bool.and_eq_true, beq_iff_eq] at h
  exact ⟨by rw [beq_iff_eq]; exact h.1.symm, h.2⟩
theorem fa_no {x y : Int} {q : Bool} (h : (x == y && q) = false) : (y == x) = false ∨ ((y == x) = true ∧ q = false) := by
  by_cases e : y = x
  · subst e
    rw [beq_self_eq_true, Bool.true_and] at h
    exact .inr ⟨beq_self_eq_true _, h⟩
  · exact .inl (beq_eq_false_iff_ne.2 e)
theorem hosE_one {p : Pa} (h : p.ho.all (hoB p) = false) : hosE p = 1 := by
  unfold hosE
  rw [h]
  rfl
theorem hosE_seven {p : Pa} (h : p.ho.all (hoB p) = true) (k : anyB touB p.ho = true) : hosE p = 7 := by
  unfold hosE
  rw [h, k]
  rfl
theorem hosE_ok {p : Pa} (h : p.ho.all (hoB p) = true) (k : anyB touB p.ho = false) : hosE p = 0 := by
  unfold hosE
  rw [h, k]
  rfl
theorem hoB_one {p : Pa} {f : Ho} (h : wiB f.fa 0 p.fl.length = true) (hk : f.kd = 1 ∨ f.kd = 2) : hoB p f = (wbB f.x f.w (extW p f.fa) && wbB f.y f.h (extH p f.fa)) := by
  unfold hoB
  rw [h, show (decide (f.kd = 1) || decide (f.kd = 2)) = true by simpa using hk]
  rfl
theorem wbB_iff {s n e : Int} : wbB s n e = true ↔ (1 ≤ n ∧ n ≤ e) ∧ 1 ≤ s ∧ s ≤ e - 1 - n := by
  unfold wbB
  rw [Bool.and_eq_true, wiB_iff, wiB_iff]
end Go.Proofs.YtjnfodbniohkhaaGreat
set_option linter.unusedVariables false
set_option linter.unusedSimpArgs false
namespace Go.Proofs.YtjnfodbniohkhaaGreat
set_option linter.unusedVariables false
set_option linter.unusedSimpArgs false
open Go Go.ChangeShapes Go.WideShapes Go.ChangeAt Go.RowKit Go.Deep

theorem Made.other1 {w : World} {C : Nat} {z : Array Value} (h : Made w C z) {B i : Nat} (v : Value) (hne : C ≠ B) : Made (w.setCell ⟨B, i, none⟩ v) C z := by
  obtain ⟨h0, h1, h2⟩ := h
  refine ⟨by simpa using h0, fun o => ?_, fun o => ?_⟩
  · have := h1 o
    simp [go_sem, hne, this]
  · have := h2 o
    simp [go_sem, hne, this]
/-- three numbers stored at a block -/
def set3 (w : World) (B : Nat) (x y z : Int) : World := ((w.setCell ⟨B, 0, none⟩ (iv x)).setCell ⟨B, 1, none⟩ (iv y)).setCell ⟨B, 2, none⟩ (iv z)
def set2 (w : World) (B : Nat) (x y : Int) : World := (w.setCell ⟨B, 0, none⟩ (iv x)).setCell ⟨B, 1, none⟩ (iv y)
theorem Made.other3 {w : World} {C : Nat} {a : Array Value} (h : Made w C a) {B : Nat} (x y z : Int) (hne : C ≠ B) : Made (set3 w B x y z) C a :=
  ((h.other1 _ hne).other1 _ hne).other1 _ hne
theorem Made.other2 {w : World} {C : Nat} {a : Array Value} (h : Made w C a) {B : Nat} (x y : Int) (hne : C ≠ B) : Made (set2 w B x y) C a :=
  (h.other1 _ hne).other1 _ hne
theorem Made.set3 {w : World} {B : Nat} {a b c : Value} (h : Made w B #[a, b, c]) (x y z : Int) : Made (Go.Proofs.YtjnfodbniohkhaaGreat.set3 w B x y z) B #[iv x, iv y, iv z] := by
  obtain ⟨h0, h1, h2⟩ := h
  unfold Go.Proofs.YtjnfodbniohkhaaGreat.set3
  refine ⟨by simpa using h0, fun o => ?_, fun o => ?_⟩
  · have e0 := h1 0
    have e1 := h1 1
    have e2 := h1 2
    have eo := h1 o
    simp at e0 e1 e2
    rcases (by omega : o = 0 ∨ o = 1 ∨ o = 2 ∨ 3 ≤ o) with rfl | rfl | rfl | ho
    · simp [go_sem, e0, e1, e2]
    · simp [go_sem, e0, e1, e2]
    · simp [go_sem, e0, e1, e2]
    · rw [Array.getElem?_eq_none (by simpa using ho)] at eo
      rw [Array.getElem?_eq_none (by simpa using ho)]
      have n0 : ¬ o = 0 := by omega
      have n1 : ¬ o = 1 := by omega
      have n2 : ¬ o = 2 := by omega
      simp [go_sem, e0, e1, e2, eo, n0, n1, n2]
  · have := h2 o
    simp [go_sem, this]
theorem Made.set2 {w : World} {B : Nat} {a b : Value} (h : Made w B #[a, b]) (x y : Int) : Made (Go.Proofs.YtjnfodbniohkhaaGreat.set2 w B x y) B #[iv x, iv y] := by
  obtain ⟨h0, h1, h2⟩ := h
  unfold Go.Proofs.YtjnfodbniohkhaaGreat.set2
  refine ⟨by simpa using h0, fun o => ?_, fun o => ?_⟩
  · have e0 := h1 0
    have e1 := h1 1
    have eo := h1 o
    simp at e0 e1
    rcases (by omega : o = 0 ∨ o = 1 ∨ 2 ≤ o) with rfl | rfl | ho
    · simp [go_sem, e0, e1]
    · simp [go_sem, e0, e1]
    · rw [Array.getElem?_eq_none (by simpa using ho)] at eo
      rw [Array.getElem?_eq_none (by simpa using ho)]
      have n0 : ¬ o = 0 := by omega
      have n1 : ¬ o = 1 := by omega
      simp [go_sem, e0, e1, eo, n0, n1]
  · have := h2 o
    simp [go_sem, this]
theorem gr_set3 {w0 w : World} {B : Nat} (x y z : Int) (g : Gr w0 w) (h : w0.heap.size ≤ B) : Gr w0 (set3 w B x y z) := by
  unfold set3
  exact Gr.setCell (Gr.setCell (Gr.setCell g (by dsimp only; omega) _) (by dsimp only; omega) _) (by dsimp only; omega) _
theorem gr_set2 {w0 w : World} {B : Nat} (x y : Int) (g : Gr w0 w) (h : w0.heap.size ≤ B) : Gr w0 (set2 w B x y) := by
  unfold set2
  exact Gr.setCell (Gr.setCell g (by dsimp only; omega) _) (by dsimp only; omega) _
theorem size_set3 (w : World) (B : Nat) (x y z : Int) : (set3 w B x y z).heap.size = w.heap.size := by
  unfold set3
  simp only [World.size_setCell]
theorem size_set2 (w : World) (B : Nat) (x y : Int) : (set2 w B x y).heap.size = w.heap.size := by
  unfold set2
  simp only [World.size_setCell]
end Go.Proofs.YtjnfodbniohkhaaGreat
set_option linter.unusedVariables false
set_option linter.unusedSimpArgs false
namespace Go.Proofs.YtjnfodbniohkhaaGreat
set_option linter.unusedVariables false
set_option linter.unusedSimpArgs false
open Go Go.ChangeShapes Go.WideShapes Go.ChangeAt Go.RowKit Go.Deep

theorem shr_all : ∀ (m : Fin 64) (k : Fin 6), (bits BinOp.and IntKind.i64 (((m.val : Nat) : Int) / 2 ^ k.val) 1 == 1) = m.val.testBit k.val := by decide +kernel
theorem shr_bit (m k : Nat) (hm : m < 64) (hk : k < 6) : (bits BinOp.and IntKind.i64 ((m : Int) / 2 ^ k) 1 == 1) = m.testBit k := shr_all ⟨m, hm⟩ ⟨k, hk⟩
theorem al_zero (k b : Int) : al 0 k b = wrap64 (wrap64 (k * b)) := by
  unfold al
  rw [Int.zero_add]
end Go.Proofs.YtjnfodbniohkhaaGreat
set_option linter.unusedVariables false
set_option linter.unusedSimpArgs false
namespace Go.Proofs.YtjnfodbniohkhaaGreat
set_option linter.unusedVariables false
set_option linter.unusedSimpArgs false
open Go Go.ChangeShapes Go.WideShapes Go.ChangeAt Go.RowKit Go.Deep

/-- the document's tests, apart -/
def tsA (lo hi fr tt : Int) : Bool := (lo == hi) && !(decide (fr < lo) && decide (lo < tt)) || (fr == tt) && !(decide (lo < fr) && decide (fr < hi))
def tsB (lo hi fr tt : Int) : Bool := decide (lo < hi) && decide (fr < tt) && (decide (hi ≤ fr) || decide (tt ≤ lo))
theorem tst_ab {lo hi fr tt : Int} : tst lo hi fr tt = (!tsA lo hi fr tt && !tsB lo hi fr tt) := rfl
theorem tst_iff {lo hi fr tt : Int} : tst lo hi fr tt = true ↔ (lo = hi → fr < lo ∧ lo < tt) ∧ (fr = tt → lo < fr ∧ fr < hi) ∧ ¬ (lo < hi ∧ fr < tt ∧ (hi ≤ fr ∨ tt ≤ lo)) := by
  unfold tst
  simp
  omega
theorem tst_at0 {x y z : Bool} (h : x = false) : (x && y && z) = false := by rw [h]; rfl
theorem tst_at1 {x y z : Bool} (h : y = false) : (x && y && z) = false := by rw [h]; simp
theorem tst_at2 {x y z : Bool} (h : z = false) : (x && y && z) = false := by rw [h]; simp
end Go.Proofs.YtjnfodbniohkhaaGreat
set_option linter.unusedVariables false
set_option linter.unusedSimpArgs false
namespace Go.Proofs.YtjnfodbniohkhaaGreat
set_option linter.unusedVariables false
set_option linter.unusedSimpArgs false
open Go Go.ChangeShapes Go.WideShapes Go.ChangeAt Go.RowKit Go.Deep

theorem nb_tr {b : Bool} (h : (!b) = false) : b = true := by simpa using h
theorem basB_parts {p : Pa} : basB p = true ↔ wiB p.ga 1 60 = true ∧ wiB p.gr 0 2 = true ∧ wiB p.wd 1 150 = true ∧ wiB p.ht 1 150 = true := by
  unfold basB lenB
  simp only [Bool.and_eq_true, and_assoc]
theorem fls_zero {p : Pa} (h : flsE p = 0) : firE (flA p) p.fl.length = 0 ∧ anyB ovF p.fl = false := by
  unfold flsE at h
  split at h
  · rename_i h1
    exact absurd h h1
  · rename_i h1
    split at h
    · cases h
    · rename_i h2
      exact ⟨by simpa using h1, by simpa using h2⟩
theorem hos_zero {p : Pa} (h : hosE p = 0) : p.ho.all (hoB p) = true ∧ anyB touB p.ho = false := by
  unfold hosE at h
  split at h
  · cases h
  · rename_i h1
    split at h
    · cases h
    · rename_i h2
      exact ⟨by simpa using h1, by simpa using h2⟩
theorem valE_fls {p : Pa} (h : (nameB p.nm.toList && nameB p.mt.toList) = true) (hb : basB p = true) (hl : ¬ (5 < p.fl.length ∨ 6 < p.ho.length)) (k : ¬ flsE p = 0) : valE p = flsE p := by
  rw [valE_rest h hb hl]
  unfold flsE at *
  split at k
  · rename_i h1
    rw [if_pos h1, if_pos h1]
  · rename_i h1
    rw [if_neg h1, if_neg h1]
    split at k
    · rename_i h2
      rw [if_pos h2, if_pos h2]
    · exact absurd rfl k
theorem valE_hos {p : Pa} (h : (nameB p.nm.toList && nameB p.mt.toList) = true) (hb : basB p = true) (hl : ¬ (5 < p.fl.length ∨ 6 < p.ho.length)) (k : flsE p = 0) (m : ¬ hosE p = 0) : valE p = hosE p := by
  obtain ⟨k1, k2⟩ := fls_zero k
  rw [valE_rest h hb hl, k1, k2]
  unfold hosE at *
  simp only [ne_eq, not_true_eq_false, if_false, Bool.false_eq_true] at *
  split at m
  · rename_i h1
    rw [if_pos h1, if_pos h1]
  · rename_i h1
    rw [if_neg h1, if_neg h1]
    split at m
    · rename_i h2
      rw [if_pos h2, if_pos h2]
    · exact absurd rfl m
theorem valE_clash {p : Pa} (h : (nameB p.nm.toList && nameB p.mt.toList) = true) (hb : basB p = true) (hl : ¬ (5 < p.fl.length ∨ 6 < p.ho.length)) (k : flsE p = 0) (m : hosE p = 0) :
    valE p = if anyB clC (facs flC p.wd p.ht p.fl allT p.fl.length) then 6 else 0 := by
  obtain ⟨k1, k2⟩ := fls_zero k
  obtain ⟨m1, m2⟩ := hos_zero m
  rw [valE_rest h hb hl, k1, k2, m1, m2]
  rfl
theorem facs_fullR (p : Pa) (ok : Fit p.fl) : facs flR p.wd p.ht p.fl (fun i => (2 ^ p.fl.length - 1).testBit i) p.fl.length = facs flC p.wd p.ht p.fl allT p.fl.length := by
  rw [← (facs_eq ok p.fl.length (Nat.le_refl _)).1]
  exact facs_congr fun i hi => full_bit hi
end Go.Proofs.YtjnfodbniohkhaaGreat
set_option linter.unusedVariables false
set_option linter.unusedSimpArgs false
namespace Go.Proofs.YtjnfodbniohkhaaGreat
set_option linter.unusedVariables false
set_option linter.unusedSimpArgs false
open Go Go.ChangeShapes Go.WideShapes Go.ChangeAt Go.RowKit Go.Deep

theorem Validate_any (p : Pa) (A B : Option Addr) (c d : Nat) (w : World) (hP : PaW w p A c B d) :
    Calls Tryz.prog 73 #[pav p A c B d] w fun e w' => e = .returned (iv (valE p)) ∧ Gr w w' := by
  by_cases h : (nameB p.nm.toList && nameB p.mt.toList) = true
  · by_cases hb : basB p = true
    · by_cases hl : 5 < p.fl.length ∨ 6 < p.ho.length
      · exact validate_early p A B c d w hP (.inr (.inr hl))
      · exact validate_late p A B c d w hP h hb hl
    · exact validate_early p A B c d w hP (.inr (.inl (by simpa using hb)))
  · exact validate_early p A B c d w hP (.inl (by simpa using h))
end Go.Proofs.YtjnfodbniohkhaaGreat
