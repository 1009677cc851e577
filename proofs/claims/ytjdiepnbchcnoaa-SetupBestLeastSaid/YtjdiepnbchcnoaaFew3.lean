/-
  The reference's Least; the union of sets.
-/
import Derived.Test.YtjdiepnbchcnoaaFew2
import Derived.Test.YtjdiepnbchcnoaaSb7
set_option linter.unusedVariables false
set_option linter.unusedSimpArgs false
namespace Go.Proofs.Ytjdiepnbchcnoaa
set_option linter.unusedVariables false
set_option linter.unusedSimpArgs false
open Go Go.ChangeShapes Go.WideShapes Go.ChangeAt Go.RowKit Go.Deep

set_option maxHeartbeats 1000000 in
theorem rLeast_any (A : Option Addr) (c : Nat) (ns : List Nd) (s : Int) (w : World) (hl : SlN w A c ns) :
    Calls Try.prog 9 #[.slice A ns.length c, iv s] w fun e w' => e = .returned (ierr (leN ns s) (chE ns s)) ∧ Gr w w' := by
  have n1 := hl.cap
  have n2 := hl.capB
  have HV := hide (rCheck0_any A c ns s w hl)
  by_cases h0 : chE ns s = 0
  · obtain ⟨h2, h3⟩ := chE_ok h0
    obtain ⟨b4, b5⟩ := wiB_iff.1 h3
    obtain ⟨q, rfl⟩ : ∃ q : Nat, s = q := ⟨s.toNat, by omega⟩
    obtain ⟨hln, hB⟩ := vaE_ok h2
    have HE := hide (show leN ns (q : Int) = LS.outl q (mks ns) 0 by unfold leN; rw [if_pos h0]; rfl)
    have HF := hide (fun (w' : World) (g : Gr w w') => fewest_any A c ns q w' (hl.gr g) hB hln (by omega) (by omega))
    rw [HE.out]
    rw [h0] at HV ⊢
    clear h0 h2 h3 hl
    go_enter Try.func9, Try.ntmps9
    go_wp2_with (first | (go_at_call 22; refine (HV.out).mono ?_; rintro e w1 ⟨rfl, g1⟩; obtain ⟨X1, Y1, c1, f1⟩ := g1.use) | (go_at_call 23; refine (HF.out _ (by repeat (first | with_reducible exact Gr.refl _ | with_reducible assumption | with_reducible refine Gr.alloc ?_ _ | with_reducible refine Gr.drewN ?_ _ | with_reducible refine Gr.drew ?_ | with_reducible refine Gr.setCell ?_ (by first | (dsimp only; omega) | (simp only [World.size_alloc]; omega) | (with_reducible refine Gr.size ?_; (repeat (first | with_reducible exact Gr.refl _ | with_reducible assumption | with_reducible refine Gr.alloc ?_ _ | with_reducible refine Gr.drewN ?_ _ | with_reducible refine Gr.drew ?_ | with_reducible refine Gr.trans ?_ (by with_reducible assumption))); done)) _ | with_reducible refine Gr.trans ?_ (by with_reducible assumption)))).mono ?_; rintro e w1 ⟨rfl, g1⟩; obtain ⟨X1, Y1, c1, f1⟩ := g1.use))
    go_ret2
    exact ⟨rfl, (by repeat (first | with_reducible exact Gr.refl _ | with_reducible assumption | with_reducible refine Gr.alloc ?_ _ | with_reducible refine Gr.drewN ?_ _ | with_reducible refine Gr.drew ?_ | with_reducible refine Gr.setCell ?_ (by first | (dsimp only; omega) | (simp only [World.size_alloc]; omega) | (with_reducible refine Gr.size ?_; (repeat (first | with_reducible exact Gr.refl _ | with_reducible assumption | with_reducible refine Gr.alloc ?_ _ | with_reducible refine Gr.drewN ?_ _ | with_reducible refine Gr.drew ?_ | with_reducible refine Gr.trans ?_ (by with_reducible assumption))); done)) _ | with_reducible refine Gr.trans ?_ (by with_reducible assumption)))⟩
  · have HE := hide (show leN ns s = 0 by unfold leN; rw [if_neg h0])
    have h1 : (chE ns s != 0) = true := by simpa using h0
    rw [HE.out]
    generalize chE ns s = e0 at *
    clear h0 hl
    go_enter Try.func9, Try.ntmps9
    go_wp2_with (first | (go_at_call 22; refine (HV.out).mono ?_; rintro e w1 ⟨rfl, g1⟩; obtain ⟨X1, Y1, c1, f1⟩ := g1.use))
    go_ret2
    exact ⟨rfl, (by repeat (first | with_reducible exact Gr.refl _ | with_reducible assumption | with_reducible refine Gr.alloc ?_ _ | with_reducible refine Gr.drewN ?_ _ | with_reducible refine Gr.drew ?_ | with_reducible refine Gr.setCell ?_ (by first | (dsimp only; omega) | (simp only [World.size_alloc]; omega) | (with_reducible refine Gr.size ?_; (repeat (first | with_reducible exact Gr.refl _ | with_reducible assumption | with_reducible refine Gr.alloc ?_ _ | with_reducible refine Gr.drewN ?_ _ | with_reducible refine Gr.drew ?_ | with_reducible refine Gr.trans ?_ (by with_reducible assumption))); done)) _ | with_reducible refine Gr.trans ?_ (by with_reducible assumption)))⟩
/-- all sets of a list -/
def orL (l : List Nat) : Nat := l.foldl (· ||| ·) 0
theorem orL_at {l : List Nat} {k x : Nat} (h : l[k]? = some x) : orL (l.take (k + 1)) = orL (l.take k) ||| x := by
  unfold orL
  rw [take_at h, List.foldl_append]
  rfl
theorem orL_lt {l : List Nat} (h : ∀ n ∈ l, n < 512) : ∀ k, orL (l.take k) < 512
  | 0 => by simp [orL]
  | k + 1 => by
    by_cases hk : k < l.length
    · obtain ⟨x, hx⟩ : ∃ x, l[k]? = some x := ⟨_, List.getElem?_eq_getElem hk⟩
      rw [orL_at hx]
      exact Nat.or_lt_two_pow (n := 9) (orL_lt h k) (h x (List.mem_of_getElem? hx))
    · have := orL_lt h k
      rw [List.take_of_length_le (by omega)] at this ⊢
      exact this
set_option maxHeartbeats 1000000 in
theorem union_any (A : Option Addr) (c : Nat) (l : List Nat) (w : World) (hl : SlU w A c l) (hlt : ∀ n ∈ l, n < 512) :
    Calls Try.prog 24 #[.slice A l.length c] w fun e w' => e = .returned (uv (orL l)) ∧ w = w' := by
  have n1 := hl.cap
  have n2 := hl.capB
  have HL := hide hl
  have HT := hide hlt
  clear hl hlt
  go_enter Try.func24, Try.ntmps24
  go_wp2
  go_loop [3, 8] (fun a i => ∃ k : Nat, k ≤ l.length ∧ i = iv k ∧ a = uv (orL (l.take k))) (fun _ i => l.length - (intOf i).toNat)
  case atStart => exact ⟨0, by omega, rfl, rfl⟩
  case round =>
    obtain ⟨k, hk, rfl, rfl⟩ := hrel
    by_cases hkl : k < l.length
    · obtain ⟨x, hx⟩ : ∃ z, l[k]? = some z := ⟨_, List.getElem?_eq_getElem hkl⟩
      obtain ⟨b, o, rfl, x0⟩ := HL.out.rd.uv_ hx
      have HA := hide (orL_at hx)
      have h1 := orL_lt HT.out k
      have h2 := HT.out x (List.mem_of_getElem? hx)
      have W1 := u_or (m := orL (l.take k)) (n := x) (by omega) (by omega)
      have hk0 : (0 : Int) ≤ (k : Int) := by omega
      have hk1 : (k : Int) < (l.length : Int) := by omega
      clear hx
      generalize orL (l.take k) = M at *
      go_wp2
      go_round
      case rel => exact ⟨k + 1, by omega, by go_num, by rw [HA.out]⟩
      case measure => simp only [intOf]; omega
    · obtain rfl : k = l.length := by omega
      rw [List.take_length]
      go_wp2
      go_ret
      exact ⟨rfl, rfl⟩
end Go.Proofs.Ytjdiepnbchcnoaa
