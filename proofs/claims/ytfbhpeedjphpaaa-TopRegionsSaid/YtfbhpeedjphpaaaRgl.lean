/-
  Regions: the outline, plainly and in the code: at, side, spans.
-/
import Derived.Test.YtfbhpeedjphpaaaRgg
set_option linter.unusedVariables false
set_option linter.unusedSimpArgs false
namespace Go.Proofs.Ytfbhpeedjphpaaa
set_option linter.unusedVariables false
set_option linter.unusedSimpArgs false
open Go Go.ChangeShapes Go.WideShapes Go.ChangeAt Go.RowKit Go.Deep

namespace RG
/-- the side of the interior -/
def sdV (b a : Bool) : Int := if b = a then 0 else if a then 1 else -1
def atV (c : Nat → Nat → Bool) (i j : Int) : Bool := if 0 ≤ i ∧ 0 ≤ j then c i.toNat j.toNat else false
abbrev Sp := Int × Int
abbrev spL (s : Sp) : List Value := [iv s.1, iv s.2]
theorem elSp : ElT Try.prog 59 65 2 16 := elT_of (.agg #[iv 0, iv 0]) (by kernel_rfl) (by kernel_rfl) (by kernel_rfl)
theorem one_sp (s : Sp) : ∀ u ∈ spL s, u.oneCell' = true := by
  intro u hu
  simp at hu
  rcases hu with rfl | rfl <;> rfl
/-- the longest parts of a line behind k steps, and the side of the last step -/
def spU (O : List Sp) (last now p q : Int) : List Sp := if now = 0 then O else if now = last then O.dropLast ++ [((O.getLast?.getD (0, 0)).1, q)] else O ++ [(p, q)]
def spS (X : List Int) (sd : Nat → Int) : Nat → List Sp × Int
  | 0 => ([], 0)
  | i + 1 => (spU (spS X sd i).1 (spS X sd i).2 (sd i) (X[i]?.getD 0) (X[i + 1]?.getD 0), sd i)
theorem spS_ne (X : List Int) (sd : Nat → Int) : ∀ k, (spS X sd k).2 ≠ 0 → (spS X sd k).1 ≠ []
  | 0, h => absurd rfl h
  | k + 1, h => by
    have h' : sd k ≠ 0 := h
    show spU _ _ (sd k) _ _ ≠ []
    unfold spU
    rw [if_neg h']
    split <;> simp
theorem spS_len (X : List Int) (sd : Nat → Int) : ∀ k, (spS X sd k).1.length ≤ k
  | 0 => by simp [spS]
  | k + 1 => by
    have ih := spS_len X sd k
    have hn := spS_ne X sd k
    show (spU _ _ (sd k) _ _).length ≤ k + 1
    unfold spU
    split
    · omega
    · split
      · rename_i h1 h2
        have h3 := List.length_pos_iff.2 (hn (by rw [← h2]; exact h1))
        simp
        omega
      · simp
        omega
theorem spS_congr {X : List Int} {f g : Nat → Int} : ∀ {k : Nat}, (∀ i, i < k → f i = g i) → spS X f k = spS X g k
  | 0, _ => rfl
  | k + 1, h => by
    show (spU (spS X f k).1 (spS X f k).2 (f k) _ _, f k) = (spU (spS X g k).1 (spS X g k).2 (g k) _ _, g k)
    rw [spS_congr (k := k) fun i hi => h i (by omega), h k (by omega)]
theorem side_any (b a : Bool) (w : World) : Calls Try.prog 27 #[.bool b, .bool a] w fun e w' => e = .returned (iv (sdV b a)) ∧ Gr w w' := by
  cases b <;> cases a
  all_goals
    go_enter Try.func27, Try.ntmps27
    go_wp2
    go_ret
    exact ⟨rfl, Gr.refl _⟩
set_option maxHeartbeats 2000000 in
set_option maxRecDepth 100000 in
theorem at_any (X Y : List Int) (A B F : Option Addr) (a b f lo hi : Nat) (rb : Nat → Nat) (c : Nat → Nat → Bool) (i j : Int) (w : World) (hG : GrM w lo hi X Y A B F a b f rb c) (hi' : i < X.length) (hj' : j < Y.length) :
    Calls Try.prog 28 #[grv X Y A B F a b f, iv i, iv j] w fun e w' => e = .returned (.bool (atV c i j)) ∧ Gr w w' := by
  have n1 := hG.n1
  have n2 := hG.n2
  have k5 := hG.cf
  have k6 := hG.cfB
  by_cases h0 : 0 ≤ i
  · by_cases h1 : 0 ≤ j
    · obtain ⟨p, rfl⟩ : ∃ p : Nat, i = p := ⟨i.toNat, by omega⟩
      obtain ⟨q, rfl⟩ : ∃ q : Nat, j = q := ⟨j.toNat, by omega⟩
      have HE := hide (show atV c p q = c p q from (if_pos ⟨h0, h1⟩).trans (by simp))
      obtain ⟨bF, hF, cf⟩ := hG.rows p (by omega)
      obtain ⟨cc, -⟩ := hG.cell p q (by omega) (by omega)
      have l1 : bF < w.heap.size := cell_lt (by rw [cf]; rfl)
      have l2 : rb p < w.heap.size := cell_lt (by rw [cc]; rfl)
      subst hF
      clear hG
      go_enter Try.func28, Try.ntmps28
      go_wp2
      go_ret
      exact ⟨ret_bool HE.out.symm, (by repeat (first | with_reducible exact Gr.refl _ | with_reducible assumption | with_reducible refine Gr.alloc ?_ _ | with_reducible refine Gr.drewN ?_ _ | with_reducible refine Gr.drew ?_ | with_reducible refine Gr.setCell ?_ (by first | (dsimp only; omega) | (simp only [World.size_alloc]; omega) | (with_reducible refine Gr.size ?_; (repeat (first | with_reducible exact Gr.refl _ | with_reducible assumption | with_reducible refine Gr.alloc ?_ _ | with_reducible refine Gr.drewN ?_ _ | with_reducible refine Gr.drew ?_ | with_reducible refine Gr.trans ?_ (by with_reducible assumption))); done)) _ | with_reducible refine Gr.trans ?_ (by with_reducible assumption)))⟩
    · have HE := hide (show atV c i j = false from if_neg (by omega))
      have h1' : decide (0 ≤ j) = false := by simpa using h1
      clear hG
      go_enter Try.func28, Try.ntmps28
      go_wp2
      go_ret
      exact ⟨ret_bool HE.out.symm, (by repeat (first | with_reducible exact Gr.refl _ | with_reducible assumption | with_reducible refine Gr.alloc ?_ _ | with_reducible refine Gr.drewN ?_ _ | with_reducible refine Gr.drew ?_ | with_reducible refine Gr.setCell ?_ (by first | (dsimp only; omega) | (simp only [World.size_alloc]; omega) | (with_reducible refine Gr.size ?_; (repeat (first | with_reducible exact Gr.refl _ | with_reducible assumption | with_reducible refine Gr.alloc ?_ _ | with_reducible refine Gr.drewN ?_ _ | with_reducible refine Gr.drew ?_ | with_reducible refine Gr.trans ?_ (by with_reducible assumption))); done)) _ | with_reducible refine Gr.trans ?_ (by with_reducible assumption)))⟩
  · have HE := hide (show atV c i j = false from if_neg (by omega))
    have h0' : decide (0 ≤ i) = false := by simpa using h0
    clear hG
    go_enter Try.func28, Try.ntmps28
    go_wp2
    go_ret
    exact ⟨ret_bool HE.out.symm, (by repeat (first | with_reducible exact Gr.refl _ | with_reducible assumption | with_reducible refine Gr.alloc ?_ _ | with_reducible refine Gr.drewN ?_ _ | with_reducible refine Gr.drew ?_ | with_reducible refine Gr.setCell ?_ (by first | (dsimp only; omega) | (simp only [World.size_alloc]; omega) | (with_reducible refine Gr.size ?_; (repeat (first | with_reducible exact Gr.refl _ | with_reducible assumption | with_reducible refine Gr.alloc ?_ _ | with_reducible refine Gr.drewN ?_ _ | with_reducible refine Gr.drew ?_ | with_reducible refine Gr.trans ?_ (by with_reducible assumption))); done)) _ | with_reducible refine Gr.trans ?_ (by with_reducible assumption)))⟩
set_option maxHeartbeats 2000000 in
set_option maxRecDepth 100000 in
theorem closH_any (X Y : List Int) (A B F : Option Addr) (a b f lo hi : Nat) (rb : Nat → Nat) (c : Nat → Nat → Bool) (i j S J : Nat) (w : World) (hG : GrM w lo hi X Y A B F a b f rb c) (hi' : i < X.length) (hj' : j < Y.length)
    (hS : Made w S #[.slice A X.length a, .slice B Y.length b, .slice F X.length f]) (hJ : w.cell? ⟨J, 0, none⟩ = some (iv j)) :
    Calls Try.prog 26 #[iv i, .pointer (some ⟨S, 0, none⟩), .pointer (some ⟨J, 0, none⟩)] w fun e w' => e = .returned (iv (sdV (atV c i ((j : Int) - 1)) (atV c i j))) ∧ Gr w w' := by
  have n2 := hG.n2
  have HAT := hide (fun (w' : World) (p q : Int) (g : Gr w w') (hp : p < X.length) (hq : q < Y.length) => at_any X Y A B F a b f lo hi rb c p q w' (hG.gr g) hp hq)
  obtain ⟨p0, p1, p2, -, -, -⟩ := made3 hS
  have s1 : IntKind.i64.wrap ((j : Int) - 1) = (j : Int) - 1 := IntWalk.i64_in _ (by omega)
  have h1 : (i : Int) < (X.length : Int) := by omega
  have h2 : (j : Int) < (Y.length : Int) := by omega
  clear hG hS
  go_enter Try.func26, Try.ntmps26
  go_wp2
  have GC := @GrW.cell
  refine wp_region_grw _ (by kernel_rfl) (by kernel_rfl) (Gr.refl _) ?_
  repeat (go_big_quiet_step ((first | (go_at_call 28; exact quiet_grw (HAT.out _ _ _ (GrW.gr _) (by omega) (by omega))) | (go_at_call 27; exact quiet_grw (side_any _ _ _)))))
  refine wpQuiet_nil ?_
  intro wq hwq
  obtain ⟨gq, hwq'⟩ := hwq
  subst hwq'
  clear GC
  have gq1 := gq.gr
  generalize gq.w = wq at gq1 ⊢
  obtain ⟨Xq, Yq, cq, fq⟩ := gq1.use
  have sq := gq1.size
  (try simp only [World.size_alloc, World.size_setCell, World.heap_drewN] at sq)
  go_wp2
  go_ret
  exact ⟨rfl, (by repeat (first | with_reducible exact Gr.refl _ | with_reducible assumption | with_reducible refine Gr.alloc ?_ _ | with_reducible refine Gr.drewN ?_ _ | with_reducible refine Gr.drew ?_ | with_reducible refine Gr.setCell ?_ (by first | (dsimp only; omega) | (simp only [World.size_alloc]; omega) | (with_reducible refine Gr.size ?_; (repeat (first | with_reducible exact Gr.refl _ | with_reducible assumption | with_reducible refine Gr.alloc ?_ _ | with_reducible refine Gr.drewN ?_ _ | with_reducible refine Gr.drew ?_ | with_reducible refine Gr.trans ?_ (by with_reducible assumption))); done)) _ | with_reducible refine Gr.trans ?_ (by with_reducible assumption)))⟩
set_option maxHeartbeats 2000000 in
set_option maxRecDepth 100000 in
theorem closV_any (X Y : List Int) (A B F : Option Addr) (a b f lo hi : Nat) (rb : Nat → Nat) (c : Nat → Nat → Bool) (i j S J : Nat) (w : World) (hG : GrM w lo hi X Y A B F a b f rb c) (hi' : i < X.length) (hj' : j < Y.length)
    (hS : Made w S #[.slice A X.length a, .slice B Y.length b, .slice F X.length f]) (hJ : w.cell? ⟨J, 0, none⟩ = some (iv i)) :
    Calls Try.prog 29 #[iv j, .pointer (some ⟨S, 0, none⟩), .pointer (some ⟨J, 0, none⟩)] w fun e w' => e = .returned (iv (sdV (atV c ((i : Int) - 1) j) (atV c i j))) ∧ Gr w w' := by
  have n2 := hG.n1
  have HAT := hide (fun (w' : World) (p q : Int) (g : Gr w w') (hp : p < X.length) (hq : q < Y.length) => at_any X Y A B F a b f lo hi rb c p q w' (hG.gr g) hp hq)
  obtain ⟨p0, p1, p2, -, -, -⟩ := made3 hS
  have s1 : IntKind.i64.wrap ((i : Int) - 1) = (i : Int) - 1 := IntWalk.i64_in _ (by omega)
  have h1 : (i : Int) < (X.length : Int) := by omega
  have h2 : (j : Int) < (Y.length : Int) := by omega
  clear hG hS
  go_enter Try.func29, Try.ntmps29
  go_wp2
  have GC := @GrW.cell
  refine wp_region_grw _ (by kernel_rfl) (by kernel_rfl) (Gr.refl _) ?_
  repeat (go_big_quiet_step ((first | (go_at_call 28; exact quiet_grw (HAT.out _ _ _ (GrW.gr _) (by omega) (by omega))) | (go_at_call 27; exact quiet_grw (side_any _ _ _)))))
  refine wpQuiet_nil ?_
  intro wq hwq
  obtain ⟨gq, hwq'⟩ := hwq
  subst hwq'
  clear GC
  have gq1 := gq.gr
  generalize gq.w = wq at gq1 ⊢
  obtain ⟨Xq, Yq, cq, fq⟩ := gq1.use
  have sq := gq1.size
  (try simp only [World.size_alloc, World.size_setCell, World.heap_drewN] at sq)
  go_wp2
  go_ret
  exact ⟨rfl, (by repeat (first | with_reducible exact Gr.refl _ | with_reducible assumption | with_reducible refine Gr.alloc ?_ _ | with_reducible refine Gr.drewN ?_ _ | with_reducible refine Gr.drew ?_ | with_reducible refine Gr.setCell ?_ (by first | (dsimp only; omega) | (simp only [World.size_alloc]; omega) | (with_reducible refine Gr.size ?_; (repeat (first | with_reducible exact Gr.refl _ | with_reducible assumption | with_reducible refine Gr.alloc ?_ _ | with_reducible refine Gr.drewN ?_ _ | with_reducible refine Gr.drew ?_ | with_reducible refine Gr.trans ?_ (by with_reducible assumption))); done)) _ | with_reducible refine Gr.trans ?_ (by with_reducible assumption)))⟩
end RG
end Go.Proofs.Ytfbhpeedjphpaaa
