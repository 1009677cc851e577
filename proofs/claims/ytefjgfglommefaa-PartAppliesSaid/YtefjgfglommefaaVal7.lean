/-
  Parts: whether two of a list of faces cross each other, in the code.
-/
import Derived.Test.YtefjgfglommefaaVal4
set_option linter.unusedVariables false
set_option linter.unusedSimpArgs false
namespace Go.Proofs.Ytefjgfglommefaa
set_option linter.unusedVariables false
set_option linter.unusedSimpArgs false
open Go Go.ChangeShapes Go.WideShapes Go.ChangeAt Go.RowKit Go.Deep

abbrev fcL (f : Fc) : List Value := [iv f.ox, iv f.oy, iv f.oz, iv f.ux, iv f.uy, iv f.uz, iv f.vx, iv f.vy, iv f.vz, iv f.w, iv f.h]
abbrev RdC (w : World) (A : Option Addr) (l : List Fc) : Prop := RdL w 11 fcL A l
theorem RdL.fc {w : World} {A : Option Addr} {l : List Fc} (h : RdL w 11 fcL A l) {i : Nat} {f : Fc} (hi : l[i]? = some f) : ∃ b off, A = some ⟨b, off, none⟩ ∧ w.cell? ⟨b, off + i * 11, none⟩ = some (iv f.ox) ∧ w.cell? ⟨b, off + i * 11 + 1, none⟩ = some (iv f.oy) ∧ w.cell? ⟨b, off + i * 11 + 2, none⟩ = some (iv f.oz) ∧ w.cell? ⟨b, off + i * 11 + 3, none⟩ = some (iv f.ux) ∧ w.cell? ⟨b, off + i * 11 + 4, none⟩ = some (iv f.uy) ∧ w.cell? ⟨b, off + i * 11 + 5, none⟩ = some (iv f.uz) ∧ w.cell? ⟨b, off + i * 11 + 6, none⟩ = some (iv f.vx) ∧ w.cell? ⟨b, off + i * 11 + 7, none⟩ = some (iv f.vy) ∧ w.cell? ⟨b, off + i * 11 + 8, none⟩ = some (iv f.vz) ∧ w.cell? ⟨b, off + i * 11 + 9, none⟩ = some (iv f.w) ∧ w.cell? ⟨b, off + i * 11 + 10, none⟩ = some (iv f.h) := by
  obtain ⟨b, off, e, h0, h1, h2, h3, h4, h5, h6, h7, h8, h9, h10, _⟩ := h i f hi
  exact ⟨b, off, e, h0, h1, h2, h3, h4, h5, h6, h7, h8, h9, h10⟩
/-- a slice of faces -/
structure SlC (w : World) (A : Option Addr) (c : Nat) (l : List Fc) : Prop where
  rd : RdC w A l
  cap : l.length ≤ c
  capB : c ≤ 9223372036854775807
  len : l.length ≤ 1000
theorem SlC.gr {w w' : World} {A : Option Addr} {c : Nat} {l : List Fc} (h : SlC w A c l) (g : Gr w w') : SlC w' A c l := ⟨h.rd.gr g, h.cap, h.capB, h.len⟩
set_option maxRecDepth 100000 in
set_option maxHeartbeats 4000000 in
theorem anyC_any (A : Option Addr) (c : Nat) (l : List Fc) (w : World) (hF : SlC w A c l) :
    Calls Try.prog 34 #[.slice A l.length c, .func (.func 37) #[] #[]] w fun e w' => e = .returned (.bool (anyB clC l)) ∧ Gr w w' := by
  have hlen := hF.len
  have hcap := hF.cap
  have hcapB := hF.capB
  have HF := hide hF
  clear hF
  go_enter Try.func34, Try.ntmps34
  go_wp2
  go_loopw [11] (fun i wr => ∃ i' : Nat, i' ≤ l.length ∧ i = iv i' ∧ Gr w wr ∧ Hid (∀ i, i < i' → ∀ k a b, k < i → l[k]? = some a → l[i]? = some b → clC a b = false)) (fun i _ => l.length - (intOf i).toNat)
  case atStart => exact ⟨0, by omega, rfl, Gr.refl _, by intro i hi; omega⟩
  case round =>
    obtain ⟨i, hi, rfl, g, HI⟩ := hrel
    obtain ⟨wo, rfl⟩ : ∃ wo, wo = wr := ⟨_, rfl⟩
    by_cases hlt : i < l.length
    · obtain ⟨f, hf⟩ : ∃ f, l[i]? = some f := ⟨_, List.getElem?_eq_getElem hlt⟩
      obtain ⟨b, off, hA, x0, x1, x2, x3, x4, x5, x6, x7, x8, x9, x10⟩ := (HF.out.gr g).rd.fc hf
      subst hA
      have hb : b < wo.heap.size := cell_lt (by rw [x0]; rfl)
      go_wp2
      have gB := g
      go_loopw [20] (fun k wk => ∃ k' : Nat, k' ≤ i ∧ k = iv k' ∧ Gr (wo.alloc (.cells #[iv f.ox, iv f.oy, iv f.oz, iv f.ux, iv f.uy, iv f.uz, iv f.vx, iv f.vy, iv f.vz, iv f.w, iv f.h] 44)) wk ∧ Hid (∀ k a, k < k' → l[k]? = some a → clC a f = false)) (fun k _ => i - (intOf k).toNat)
      case atStart => exact ⟨0, by omega, rfl, Gr.refl _, by intro k a hk; omega⟩
      case round =>
        obtain ⟨k, hk, rfl, gk, HK⟩ := hrel
        obtain ⟨Xr, Yr, cr, fr⟩ := gk.use
        have zr := gk.size
        simp only [World.size_alloc] at zr
        have l0 : wo.heap.size < wr.heap.size := by omega
        have hbk : b < wr.heap.size := by omega
        by_cases hki : k < i
        · obtain ⟨a, ha⟩ : ∃ a, l[k]? = some a := ⟨_, List.getElem?_eq_getElem (by omega)⟩
          obtain ⟨b', off', hA', y0, y1, y2, y3, y4, y5, y6, y7, y8, y9, y10⟩ := (HF.out.gr g).rd.fc ha
          obtain ⟨rfl, rfl⟩ : b = b' ∧ off = off' := by simpa using hA'
          clear hA'
          have HV := hide (fun w => clash_any a f w)
          cases hv : clC a f with
          | true =>
            have HB := hide (anyB_yes hki ha hf hv)
            rw [hv] at HV
            go_wp2_with (go_at_call 37; refine (HV.out _).mono ?_; rintro e w1 ⟨rfl, g1⟩; obtain ⟨X1, Y1, c1, f1⟩ := g1.use)
            go_ret
            exact ⟨ret_bool HB.out.symm, (by repeat (first | with_reducible exact Gr.refl _ | with_reducible assumption | with_reducible refine Gr.alloc ?_ _ | with_reducible refine Gr.drewN ?_ _ | with_reducible refine Gr.drew ?_ | with_reducible refine Gr.setCell ?_ (by first | (dsimp only; omega) | (simp only [World.size_alloc]; omega) | (with_reducible refine Gr.size ?_; (repeat (first | with_reducible exact Gr.refl _ | with_reducible assumption | with_reducible refine Gr.alloc ?_ _ | with_reducible refine Gr.drewN ?_ _ | with_reducible refine Gr.drew ?_ | with_reducible refine Gr.trans ?_ (by with_reducible assumption))); done)) _ | with_reducible refine Gr.trans ?_ (by with_reducible assumption)))⟩
          | false =>
            have HK' := hide (show ∀ j x, j < k + 1 → l[j]? = some x → clC x f = false by
              intro j x hj hx
              rcases Nat.lt_or_ge j k with h | h
              · exact HK.out j x h hx
              · obtain rfl : j = k := by omega
                rw [ha] at hx
                obtain rfl := Option.some.inj hx
                exact hv)
            rw [hv] at HV
            go_wp2_with (go_at_call 37; refine (HV.out _).mono ?_; rintro e w1 ⟨rfl, g1⟩; obtain ⟨X1, Y1, c1, f1⟩ := g1.use)
            go_roundw
            case rel => exact ⟨k + 1, by omega, by go_num, (by repeat (first | with_reducible exact Gr.refl _ | with_reducible assumption | with_reducible refine Gr.alloc ?_ _ | with_reducible refine Gr.drewN ?_ _ | with_reducible refine Gr.drew ?_ | with_reducible refine Gr.setCell ?_ (by first | (dsimp only; omega) | (simp only [World.size_alloc]; omega) | (with_reducible refine Gr.size ?_; (repeat (first | with_reducible exact Gr.refl _ | with_reducible assumption | with_reducible refine Gr.alloc ?_ _ | with_reducible refine Gr.drewN ?_ _ | with_reducible refine Gr.drew ?_ | with_reducible refine Gr.trans ?_ (by with_reducible assumption))); done)) _ | with_reducible refine Gr.trans ?_ (by with_reducible assumption))), HK'⟩
            case measure => simp only [intOf]; omega
        · obtain rfl : k = i := by omega
          have HI' := hide (show ∀ j, j < k + 1 → ∀ m a b, m < j → l[m]? = some a → l[j]? = some b → clC a b = false by
            intro j hj m a b hm hx hy
            rcases Nat.lt_or_ge j k with h | h
            · exact HI.out j h m a b hm hx hy
            · obtain rfl : j = k := by omega
              rw [hf] at hy
              obtain rfl := Option.some.inj hy
              exact HK.out m a hm hx)
          go_wp2
          go_roundw
          case rel => exact ⟨k + 1, by omega, by go_num, (by repeat (first | with_reducible exact Gr.refl _ | with_reducible assumption | with_reducible refine Gr.alloc ?_ _ | with_reducible refine Gr.drewN ?_ _ | with_reducible refine Gr.drew ?_ | with_reducible refine Gr.setCell ?_ (by first | (dsimp only; omega) | (simp only [World.size_alloc]; omega) | (with_reducible refine Gr.size ?_; (repeat (first | with_reducible exact Gr.refl _ | with_reducible assumption | with_reducible refine Gr.alloc ?_ _ | with_reducible refine Gr.drewN ?_ _ | with_reducible refine Gr.drew ?_ | with_reducible refine Gr.trans ?_ (by with_reducible assumption))); done)) _ | with_reducible refine Gr.trans ?_ (by with_reducible assumption))), HI'⟩
          case measure => simp only [intOf]; omega
    · obtain rfl : i = l.length := by omega
      have HB := hide (anyB_no HI.out)
      go_wp2
      go_ret
      exact ⟨ret_bool HB.out.symm, (by repeat (first | with_reducible exact Gr.refl _ | with_reducible assumption | with_reducible refine Gr.alloc ?_ _ | with_reducible refine Gr.drewN ?_ _ | with_reducible refine Gr.drew ?_ | with_reducible refine Gr.setCell ?_ (by first | (dsimp only; omega) | (simp only [World.size_alloc]; omega) | (with_reducible refine Gr.size ?_; (repeat (first | with_reducible exact Gr.refl _ | with_reducible assumption | with_reducible refine Gr.alloc ?_ _ | with_reducible refine Gr.drewN ?_ _ | with_reducible refine Gr.drew ?_ | with_reducible refine Gr.trans ?_ (by with_reducible assumption))); done)) _ | with_reducible refine Gr.trans ?_ (by with_reducible assumption)))⟩
end Go.Proofs.Ytefjgfglommefaa
