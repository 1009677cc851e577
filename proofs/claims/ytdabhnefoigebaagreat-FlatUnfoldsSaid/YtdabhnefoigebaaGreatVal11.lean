/-
  Parts: the code's Validate.
-/
import Derived.Test.YtdabhnefoigebaaGreatVal10
import Derived.Test.YtdabhnefoigebaaGreatVal8
import Derived.Test.YtdabhnefoigebaaGreatVal5
set_option linter.unusedVariables false
set_option linter.unusedSimpArgs false
namespace Go.Proofs.YtdabhnefoigebaaGreat
set_option linter.unusedVariables false
set_option linter.unusedSimpArgs false
open Go Go.ChangeShapes Go.WideShapes Go.ChangeAt Go.RowKit Go.Deep

theorem facs_congr {F : Fc → Fl → Bool → Fc} {w h : Int} {l : List Fl} {m m' : Nat → Bool} : ∀ {k : Nat}, (∀ i, i < k → m i = m' i) → facs F w h l m k = facs F w h l m' k
  | 0, _ => rfl
  | k + 1, hm => by
    unfold facs
    rw [facs_congr (k := k) (fun i hi => hm i (by omega)), hm k (by omega)]
theorem full_bit {n i : Nat} (h : i < n) : (2 ^ n - 1).testBit i = true := by
  rw [Nat.testBit_two_pow_sub_one]
  simpa using h
theorem facs_full (p : Pa) : facs flC p.wd p.ht p.fl (fun i => (2 ^ p.fl.length - 1).testBit i) p.fl.length = facs flC p.wd p.ht p.fl allT p.fl.length :=
  facs_congr fun i hi => full_bit hi
theorem full_val (n : Nat) (h : n ≤ 5) : wrap64 (wrap64 ((2 : Int) ^ n) - 1) = ((2 ^ n - 1 : Nat) : Int) := by
  rcases (by omega : n = 0 ∨ n = 1 ∨ n = 2 ∨ n = 3 ∨ n = 4 ∨ n = 5) with rfl | rfl | rfl | rfl | rfl | rfl <;> decide +kernel
theorem fullMask_any (p : Pa) (A B : Option Addr) (c d : Nat) (w : World) (h : p.fl.length ≤ 5) :
    Calls Tryz.prog 66 #[pav p A c B d] w fun e w' => e = .returned (iv ((2 ^ p.fl.length - 1 : Nat) : Int)) ∧ Gr w w' := by
  have HV := hide (full_val p.fl.length h)
  go_enter Tryz.func66, Tryz.ntmps66
  go_wp2
  go_ret
  exact ⟨ret_iv HV.out, (by repeat (first | with_reducible exact Gr.refl _ | with_reducible assumption | with_reducible refine Gr.alloc ?_ _ | with_reducible refine Gr.drewN ?_ _ | with_reducible refine Gr.drew ?_ | with_reducible refine Gr.setCell ?_ (by first | (dsimp only; omega) | (simp only [World.size_alloc]; omega) | (with_reducible refine Gr.size ?_; (repeat (first | with_reducible exact Gr.refl _ | with_reducible assumption | with_reducible refine Gr.alloc ?_ _ | with_reducible refine Gr.drewN ?_ _ | with_reducible refine Gr.drew ?_ | with_reducible refine Gr.trans ?_ (by with_reducible assumption))); done)) _ | with_reducible refine Gr.trans ?_ (by with_reducible assumption)))⟩
/-- what an argument that is a part gives the walks -/
structure PaW (w : World) (p : Pa) (A : Option Addr) (c : Nat) (B : Option Addr) (d : Nat) : Prop where
  fl : SlF w A c p.fl
  ho : SlH w B d p.ho
  nm : p.nm.size ≤ 1000
  mt : p.mt.size ≤ 1000
theorem PaW.gr {w w' : World} {p : Pa} {A : Option Addr} {c : Nat} {B : Option Addr} {d : Nat} (h : PaW w p A c B d) (g : Gr w w') : PaW w' p A c B d := ⟨h.fl.gr g, h.ho.gr g, h.nm, h.mt⟩
theorem valE_names {p : Pa} (h : (nameB p.nm.toList && nameB p.mt.toList) = false) : valE p = 2 := by
  unfold valE
  rw [h]
  rfl
theorem valE_base {p : Pa} (h : (nameB p.nm.toList && nameB p.mt.toList) = true) (hb : basB p = false) : valE p = 1 := by
  unfold valE
  rw [h, hb]
  rfl
theorem valE_large {p : Pa} (h : (nameB p.nm.toList && nameB p.mt.toList) = true) (hb : basB p = true) (hl : 5 < p.fl.length ∨ 6 < p.ho.length) : valE p = 4 := by
  unfold valE
  rw [h, hb]
  simp [hl]
/-- behind the limits -/
theorem valE_rest {p : Pa} (h : (nameB p.nm.toList && nameB p.mt.toList) = true) (hb : basB p = true) (hl : ¬ (5 < p.fl.length ∨ 6 < p.ho.length)) :
    valE p = if firE (flA p) p.fl.length ≠ 0 then firE (flA p) p.fl.length else if anyB ovF p.fl then 7 else if !(p.ho.all (hoB p)) then 1 else if anyB touB p.ho then 7 else if anyB clC (facs flC p.wd p.ht p.fl allT p.fl.length) then 6 else 0 := by
  unfold valE
  rw [h, hb]
  simp only [Bool.not_true, Bool.false_eq_true, if_false, hl]
set_option maxRecDepth 100000 in
set_option maxHeartbeats 4000000 in
theorem validate_early (p : Pa) (A B : Option Addr) (c d : Nat) (w : World) (hP : PaW w p A c B d) (h : (nameB p.nm.toList && nameB p.mt.toList) = false ∨ basB p = false ∨ 5 < p.fl.length ∨ 6 < p.ho.length) :
    Calls Tryz.prog 31 #[pav p A c B d] w fun e w' => e = .returned (iv (valE p)) ∧ Gr w w' := by
  have hn := hP.nm
  have hm := hP.mt
  have HP := hide hP
  clear hP
  cases h1 : nameB p.nm.toList with
  | false =>
    have HE := hide (valE_names (p := p) (by rw [h1]; rfl))
    go_enter Tryz.func31, Tryz.ntmps31
    go_wp2_with (first | (go_at_call 56; refine (validName_any _ _ (by omega)).mono ?_; rintro e w1 ⟨rfl, rfl⟩))
    go_ret
    exact ⟨ret_iv HE.out.symm, (by repeat (first | with_reducible exact Gr.refl _ | with_reducible assumption | with_reducible refine Gr.alloc ?_ _ | with_reducible refine Gr.drewN ?_ _ | with_reducible refine Gr.drew ?_ | with_reducible refine Gr.setCell ?_ (by first | (dsimp only; omega) | (simp only [World.size_alloc]; omega) | (with_reducible refine Gr.size ?_; (repeat (first | with_reducible exact Gr.refl _ | with_reducible assumption | with_reducible refine Gr.alloc ?_ _ | with_reducible refine Gr.drewN ?_ _ | with_reducible refine Gr.drew ?_ | with_reducible refine Gr.trans ?_ (by with_reducible assumption))); done)) _ | with_reducible refine Gr.trans ?_ (by with_reducible assumption)))⟩
  | true =>
    cases h2 : nameB p.mt.toList with
    | false =>
      have HE := hide (valE_names (p := p) (by rw [h1, h2]; rfl))
      go_enter Tryz.func31, Tryz.ntmps31
      go_wp2_with (first | (go_at_call 56; refine (validName_any _ _ (by omega)).mono ?_; rintro e w1 ⟨rfl, rfl⟩))
      go_ret
      exact ⟨ret_iv HE.out.symm, (by repeat (first | with_reducible exact Gr.refl _ | with_reducible assumption | with_reducible refine Gr.alloc ?_ _ | with_reducible refine Gr.drewN ?_ _ | with_reducible refine Gr.drew ?_ | with_reducible refine Gr.setCell ?_ (by first | (dsimp only; omega) | (simp only [World.size_alloc]; omega) | (with_reducible refine Gr.size ?_; (repeat (first | with_reducible exact Gr.refl _ | with_reducible assumption | with_reducible refine Gr.alloc ?_ _ | with_reducible refine Gr.drewN ?_ _ | with_reducible refine Gr.drew ?_ | with_reducible refine Gr.trans ?_ (by with_reducible assumption))); done)) _ | with_reducible refine Gr.trans ?_ (by with_reducible assumption)))⟩
    | true =>
      cases h3 : basB p with
      | false =>
        have HE := hide (valE_base (p := p) (by rw [h1, h2]; rfl) h3)
        go_enter Tryz.func31, Tryz.ntmps31
        go_wp2_with (first | (go_at_call 56; refine (validName_any _ _ (by omega)).mono ?_; rintro e w1 ⟨rfl, rfl⟩) | (go_at_call 57; refine (validBase_any _ _ _ _ _ _).mono ?_; rintro e w1 ⟨rfl, g1⟩; obtain ⟨X1, Y1, c1, f1⟩ := g1.use; have z1 := g1.size; (try simp only [World.size_alloc, World.size_setCell, World.heap_drewN, Nat.add_one_le_iff] at z1); (try have l0 : w.heap.size < w1.heap.size := by omega); (try have l1 : w.heap.size + 1 < w1.heap.size := by omega); (try have l2 : w.heap.size + 1 + 1 < w1.heap.size := by omega)))
        go_ret
        exact ⟨ret_iv HE.out.symm, (by repeat (first | with_reducible exact Gr.refl _ | with_reducible assumption | with_reducible refine Gr.alloc ?_ _ | with_reducible refine Gr.drewN ?_ _ | with_reducible refine Gr.drew ?_ | with_reducible refine Gr.setCell ?_ (by first | (dsimp only; omega) | (simp only [World.size_alloc]; omega) | (with_reducible refine Gr.size ?_; (repeat (first | with_reducible exact Gr.refl _ | with_reducible assumption | with_reducible refine Gr.alloc ?_ _ | with_reducible refine Gr.drewN ?_ _ | with_reducible refine Gr.drew ?_ | with_reducible refine Gr.trans ?_ (by with_reducible assumption))); done)) _ | with_reducible refine Gr.trans ?_ (by with_reducible assumption)))⟩
      | true =>
        have hl : 5 < p.fl.length ∨ 6 < p.ho.length := by
          rcases h with h | h | h
          · rw [h1, h2] at h; cases h
          · rw [h3] at h; cases h
          · exact h
        have HE := hide (valE_large (p := p) (by rw [h1, h2]; rfl) h3 hl)
        clear h
        by_cases hl5 : 5 < p.fl.length
        · clear hl
          go_enter Tryz.func31, Tryz.ntmps31
          go_wp2_with (first | (go_at_call 56; refine (validName_any _ _ (by omega)).mono ?_; rintro e w1 ⟨rfl, rfl⟩) | (go_at_call 57; refine (validBase_any _ _ _ _ _ _).mono ?_; rintro e w1 ⟨rfl, g1⟩; obtain ⟨X1, Y1, c1, f1⟩ := g1.use; have z1 := g1.size; (try simp only [World.size_alloc, World.size_setCell, World.heap_drewN, Nat.add_one_le_iff] at z1); (try have l0 : w.heap.size < w1.heap.size := by omega); (try have l1 : w.heap.size + 1 < w1.heap.size := by omega); (try have l2 : w.heap.size + 1 + 1 < w1.heap.size := by omega)))
          go_ret
          exact ⟨ret_iv HE.out.symm, (by repeat (first | with_reducible exact Gr.refl _ | with_reducible assumption | with_reducible refine Gr.alloc ?_ _ | with_reducible refine Gr.drewN ?_ _ | with_reducible refine Gr.drew ?_ | with_reducible refine Gr.setCell ?_ (by first | (dsimp only; omega) | (simp only [World.size_alloc]; omega) | (with_reducible refine Gr.size ?_; (repeat (first | with_reducible exact Gr.refl _ | with_reducible assumption | with_reducible refine Gr.alloc ?_ _ | with_reducible refine Gr.drewN ?_ _ | with_reducible refine Gr.drew ?_ | with_reducible refine Gr.trans ?_ (by with_reducible assumption))); done)) _ | with_reducible refine Gr.trans ?_ (by with_reducible assumption)))⟩
        · have hl6 : 6 < p.ho.length := by omega
          clear hl
          go_enter Tryz.func31, Tryz.ntmps31
          go_wp2_with (first | (go_at_call 56; refine (validName_any _ _ (by omega)).mono ?_; rintro e w1 ⟨rfl, rfl⟩) | (go_at_call 57; refine (validBase_any _ _ _ _ _ _).mono ?_; rintro e w1 ⟨rfl, g1⟩; obtain ⟨X1, Y1, c1, f1⟩ := g1.use; have z1 := g1.size; (try simp only [World.size_alloc, World.size_setCell, World.heap_drewN, Nat.add_one_le_iff] at z1); (try have l0 : w.heap.size < w1.heap.size := by omega); (try have l1 : w.heap.size + 1 < w1.heap.size := by omega); (try have l2 : w.heap.size + 1 + 1 < w1.heap.size := by omega)))
          go_ret
          exact ⟨ret_iv HE.out.symm, (by repeat (first | with_reducible exact Gr.refl _ | with_reducible assumption | with_reducible refine Gr.alloc ?_ _ | with_reducible refine Gr.drewN ?_ _ | with_reducible refine Gr.drew ?_ | with_reducible refine Gr.setCell ?_ (by first | (dsimp only; omega) | (simp only [World.size_alloc]; omega) | (with_reducible refine Gr.size ?_; (repeat (first | with_reducible exact Gr.refl _ | with_reducible assumption | with_reducible refine Gr.alloc ?_ _ | with_reducible refine Gr.drewN ?_ _ | with_reducible refine Gr.drew ?_ | with_reducible refine Gr.trans ?_ (by with_reducible assumption))); done)) _ | with_reducible refine Gr.trans ?_ (by with_reducible assumption)))⟩
end Go.Proofs.YtdabhnefoigebaaGreat
