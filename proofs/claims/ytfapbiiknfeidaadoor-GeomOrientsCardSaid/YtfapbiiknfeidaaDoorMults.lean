/-
  GeomMultiplies and GeomOrients: the walks.
-/
import Derived.Test.YtfapbiiknfeidaaDoorLaid
import Derived.Test.YtfapbiiknfeidaaDoorGeo4
namespace Go.Proofs.YtfapbiiknfeidaaDoor
set_option linter.unusedVariables false
set_option linter.unusedSimpArgs false
open Go Go.ChangeShapes Go.WideShapes Go.ChangeAt Go.RowKit Go.Deep

theorem muE_ok {a b c d : Int} (h : muE a b c d = 0) : muB a b c d = true := by
  unfold muE errIf at h
  split at h
  · assumption
  · omega
theorem rinB_mono {a b l m : Int} (h : rinB a b l = true) (hm : l ≤ m) : rinB a b m = true := by
  simp only [rinB, inB, Bool.and_eq_true, decide_eq_true_eq] at *
  omega
theorem mul_sign (a b c d : Int) (h : muE a b c d = 0) : srE (muA a b c d) (muC a b c d) = 0 ∧ srV (muA a b c d) (muC a b c d) = srV a b * srV c d := by
  have hb := muE_ok h
  have h12 := hb
  simp only [muB, Bool.and_eq_true] at h12
  obtain ⟨a1, a2⟩ := lims_of h12.1
  obtain ⟨c1, c2⟩ := lims_of h12.2
  have p1 := Lim.mul a1 c1
  have p2 := Lim.mul a2 c2
  have p3 := Lim.mul a1 c2
  have p4 := Lim.mul a2 c1
  have big : rinB (a * c + 3 * (b * d)) (a * d + b * c) 268435456 = true := by
    simp only [rinB, inB, Bool.and_eq_true, decide_eq_true_eq]
    unfold Lim at *
    omega
  simp only [muA, muC, hb, if_true]
  refine ⟨by simp [srE, errIf, big], ?_⟩
  simp only [srV, big, rinB_mono h12.1 (show (4096 : Int) ≤ 268435456 by omega), rinB_mono h12.2 (show (4096 : Int) ≤ 268435456 by omega), if_true]
  exact M.sgn_mul a b c d
theorem srV_range (a b : Int) : -1 ≤ srV a b ∧ srV a b ≤ 1 := by
  unfold srV
  split
  · have := M.sgn_range a b; omega
  · omega
set_option maxHeartbeats 1000000 in
theorem multiplies_walk (a b c d : Int) (w : World) (ht : Tab w) :
    Calls Tryd.prog 4 #[rt a b, rt c d] w fun x w' => x = .returned (.bool true) ∧ Gr w w' := by
  obtain ⟨r1, r2⟩ := srV_range a b
  obtain ⟨r3, r4⟩ := srV_range c d
  obtain ⟨q1, q2⟩ := Lim.mul (l := 1) (m := 1) (a := srV a b) (b := srV c d) ⟨by omega, by omega⟩ ⟨by omega, by omega⟩
  have HT := hide ht
  clear ht
  by_cases h : muE a b c d = 0
  · obtain ⟨e1, e2⟩ := mul_sign a b c d h
    have H1 := hide h
    have E1 := hide e1
    have E2 := hide e2
    clear h e1 e2
    go_enter Tryd.func4, Tryd.ntmps4
    go_wp2_with (first | (go_at_call 15; refine (SignRoot_any _ _ _).mono ?_; rintro e w1 ⟨rfl, g1⟩; obtain ⟨X1, Y1, c1, f1⟩ := g1.use; have z1 := g1.size; (try simp only [World.size_alloc, World.size_setCell, World.heap_drewN, Nat.add_one_le_iff] at z1); (try have l0 : w.heap.size < w1.heap.size := by omega); (try have l1 : w.heap.size + 1 < w1.heap.size := by omega); (try have l2 : w.heap.size + 1 + 1 < w1.heap.size := by omega)) | (go_at_call 20; refine (Multiply_any _ _ _ _ _).mono ?_; rintro e w1 ⟨rfl, g1⟩; obtain ⟨X1, Y1, c1, f1⟩ := g1.use; have z1 := g1.size; (try simp only [World.size_alloc, World.size_setCell, World.heap_drewN, Nat.add_one_le_iff] at z1); (try have l0 : w.heap.size < w1.heap.size := by omega); (try have l1 : w.heap.size + 1 < w1.heap.size := by omega); (try have l2 : w.heap.size + 1 + 1 < w1.heap.size := by omega)) | (go_at_call 21; refine (rMultiply_any _ _ _ _ _).mono ?_; rintro e w1 ⟨rfl, g1⟩; obtain ⟨X1, Y1, c1, f1⟩ := g1.use; have z1 := g1.size; (try simp only [World.size_alloc, World.size_setCell, World.heap_drewN, Nat.add_one_le_iff] at z1); (try have l0 : w.heap.size < w1.heap.size := by omega); (try have l1 : w.heap.size + 1 < w1.heap.size := by omega); (try have l2 : w.heap.size + 1 + 1 < w1.heap.size := by omega)) | (go_at_call 19; refine (known_any _ (HT.out.gr (by repeat (first | with_reducible exact Gr.refl _ | with_reducible assumption | with_reducible refine Gr.alloc ?_ _ | with_reducible refine Gr.drewN ?_ _ | with_reducible refine Gr.drew ?_ | with_reducible refine Gr.setCell ?_ (by first | (dsimp only; omega) | (simp only [World.size_alloc]; omega) | (with_reducible refine Gr.size ?_; (repeat (first | with_reducible exact Gr.refl _ | with_reducible assumption | with_reducible refine Gr.alloc ?_ _ | with_reducible refine Gr.drewN ?_ _ | with_reducible refine Gr.drew ?_ | with_reducible refine Gr.trans ?_ (by with_reducible assumption))); done)) _ | with_reducible refine Gr.trans ?_ (by with_reducible assumption))))).mono ?_; rintro e w1 ⟨rfl, g1⟩; obtain ⟨X1, Y1, c1, f1⟩ := g1.use; have z1 := g1.size; (try simp only [World.size_alloc, World.size_setCell, World.heap_drewN, Nat.add_one_le_iff] at z1); (try have l0 : w.heap.size < w1.heap.size := by omega); (try have l1 : w.heap.size + 1 < w1.heap.size := by omega); (try have l2 : w.heap.size + 1 + 1 < w1.heap.size := by omega)))
    all_goals first
      | (exfalso; have h1 := E1.out; have h2 := E2.out; have h3 := H1.out; first | omega | contradiction)
      | (go_ret; exact ⟨by first | rfl | simp [*], (by repeat (first | with_reducible exact Gr.refl _ | with_reducible assumption | with_reducible refine Gr.alloc ?_ _ | with_reducible refine Gr.drewN ?_ _ | with_reducible refine Gr.drew ?_ | with_reducible refine Gr.setCell ?_ (by first | (dsimp only; omega) | (simp only [World.size_alloc]; omega) | (with_reducible refine Gr.size ?_; (repeat (first | with_reducible exact Gr.refl _ | with_reducible assumption | with_reducible refine Gr.alloc ?_ _ | with_reducible refine Gr.drewN ?_ _ | with_reducible refine Gr.drew ?_ | with_reducible refine Gr.trans ?_ (by with_reducible assumption))); done)) _ | with_reducible refine Gr.trans ?_ (by with_reducible assumption)))⟩)
  · go_enter Tryd.func4, Tryd.ntmps4
    go_wp2_with (first | (go_at_call 15; refine (SignRoot_any _ _ _).mono ?_; rintro e w1 ⟨rfl, g1⟩; obtain ⟨X1, Y1, c1, f1⟩ := g1.use; have z1 := g1.size; (try simp only [World.size_alloc, World.size_setCell, World.heap_drewN, Nat.add_one_le_iff] at z1); (try have l0 : w.heap.size < w1.heap.size := by omega); (try have l1 : w.heap.size + 1 < w1.heap.size := by omega); (try have l2 : w.heap.size + 1 + 1 < w1.heap.size := by omega)) | (go_at_call 20; refine (Multiply_any _ _ _ _ _).mono ?_; rintro e w1 ⟨rfl, g1⟩; obtain ⟨X1, Y1, c1, f1⟩ := g1.use; have z1 := g1.size; (try simp only [World.size_alloc, World.size_setCell, World.heap_drewN, Nat.add_one_le_iff] at z1); (try have l0 : w.heap.size < w1.heap.size := by omega); (try have l1 : w.heap.size + 1 < w1.heap.size := by omega); (try have l2 : w.heap.size + 1 + 1 < w1.heap.size := by omega)) | (go_at_call 21; refine (rMultiply_any _ _ _ _ _).mono ?_; rintro e w1 ⟨rfl, g1⟩; obtain ⟨X1, Y1, c1, f1⟩ := g1.use; have z1 := g1.size; (try simp only [World.size_alloc, World.size_setCell, World.heap_drewN, Nat.add_one_le_iff] at z1); (try have l0 : w.heap.size < w1.heap.size := by omega); (try have l1 : w.heap.size + 1 < w1.heap.size := by omega); (try have l2 : w.heap.size + 1 + 1 < w1.heap.size := by omega)) | (go_at_call 19; refine (known_any _ (HT.out.gr (by repeat (first | with_reducible exact Gr.refl _ | with_reducible assumption | with_reducible refine Gr.alloc ?_ _ | with_reducible refine Gr.drewN ?_ _ | with_reducible refine Gr.drew ?_ | with_reducible refine Gr.setCell ?_ (by first | (dsimp only; omega) | (simp only [World.size_alloc]; omega) | (with_reducible refine Gr.size ?_; (repeat (first | with_reducible exact Gr.refl _ | with_reducible assumption | with_reducible refine Gr.alloc ?_ _ | with_reducible refine Gr.drewN ?_ _ | with_reducible refine Gr.drew ?_ | with_reducible refine Gr.trans ?_ (by with_reducible assumption))); done)) _ | with_reducible refine Gr.trans ?_ (by with_reducible assumption))))).mono ?_; rintro e w1 ⟨rfl, g1⟩; obtain ⟨X1, Y1, c1, f1⟩ := g1.use; have z1 := g1.size; (try simp only [World.size_alloc, World.size_setCell, World.heap_drewN, Nat.add_one_le_iff] at z1); (try have l0 : w.heap.size < w1.heap.size := by omega); (try have l1 : w.heap.size + 1 < w1.heap.size := by omega); (try have l2 : w.heap.size + 1 + 1 < w1.heap.size := by omega)))
    all_goals first
      | (exfalso; first | omega | contradiction)
      | (go_ret; exact ⟨by first | rfl | simp [*], (by repeat (first | with_reducible exact Gr.refl _ | with_reducible assumption | with_reducible refine Gr.alloc ?_ _ | with_reducible refine Gr.drewN ?_ _ | with_reducible refine Gr.drew ?_ | with_reducible refine Gr.setCell ?_ (by first | (dsimp only; omega) | (simp only [World.size_alloc]; omega) | (with_reducible refine Gr.size ?_; (repeat (first | with_reducible exact Gr.refl _ | with_reducible assumption | with_reducible refine Gr.alloc ?_ _ | with_reducible refine Gr.drewN ?_ _ | with_reducible refine Gr.drew ?_ | with_reducible refine Gr.trans ?_ (by with_reducible assumption))); done)) _ | with_reducible refine Gr.trans ?_ (by with_reducible assumption)))⟩)
theorem orA_swap (a b c d e f g h i j k l : Int) : orA e f g h a b c d i j k l = - orA a b c d e f g h i j k l ∧ orB e f g h a b c d i j k l = - orB a b c d e f g h i j k l := by
  unfold orA orB
  constructor <;> grind
theorem orA_turn (a b c d e f g h i j k l : Int) : orA e f g h i j k l a b c d = orA a b c d e f g h i j k l ∧ orB e f g h i j k l a b c d = orB a b c d e f g h i j k l := by
  unfold orA orB
  constructor <;> grind
theorem or_swap (a b c d e f g h i j k l : Int) : orV e f g h a b c d i j k l = - orV a b c d e f g h i j k l ∧ orE e f g h a b c d i j k l = orE a b c d e f g h i j k l := by
  have ok : orOk e f g h a b c d i j k l = orOk a b c d e f g h i j k l := by unfold orOk; cases pinB a b c d <;> cases pinB e f g h <;> rfl
  obtain ⟨h1, h2⟩ := orA_swap a b c d e f g h i j k l
  refine ⟨?_, by unfold orE; rw [ok]⟩
  unfold orV
  rw [ok, h1, h2, M.sgn_neg]
  split <;> rfl
theorem or_turn (a b c d e f g h i j k l : Int) : orV e f g h i j k l a b c d = orV a b c d e f g h i j k l ∧ orE e f g h i j k l a b c d = orE a b c d e f g h i j k l := by
  have ok : orOk e f g h i j k l a b c d = orOk a b c d e f g h i j k l := by unfold orOk; cases pinB a b c d <;> cases pinB e f g h <;> cases pinB i j k l <;> rfl
  obtain ⟨h1, h2⟩ := orA_turn a b c d e f g h i j k l
  refine ⟨?_, by unfold orE; rw [ok]⟩
  unfold orV
  rw [ok, h1, h2]
theorem orV_range (a b c d e f g h i j k l : Int) : -1 ≤ orV a b c d e f g h i j k l ∧ orV a b c d e f g h i j k l ≤ 1 := by
  unfold orV
  split
  · have := M.sgn_range (orA a b c d e f g h i j k l) (orB a b c d e f g h i j k l); omega
  · omega
set_option maxHeartbeats 1000000 in
theorem orients_walk (a b c d e f g h i j k l : Int) (w : World) (ht : Tab w) :
    Calls Tryd.prog 6 #[pt a b c d, pt e f g h, pt i j k l] w fun x w' => x = .returned (.bool true) ∧ Gr w w' := by
  obtain ⟨s1, s2⟩ := or_swap a b c d e f g h i j k l
  obtain ⟨t1, t2⟩ := or_turn a b c d e f g h i j k l
  obtain ⟨r1, r2⟩ := orV_range a b c d e f g h i j k l
  have HT := hide ht
  have S1 := hide s1
  have S2 := hide s2
  have T1 := hide t1
  have T2 := hide t2
  clear s1 s2 t1 t2 ht
  go_enter Tryd.func6, Tryd.ntmps6
  go_wp2_with (first | (go_at_call 24; refine (Orient_any _ _ _ _ _ _ _ _ _ _ _ _ _).mono ?_; rintro e w1 ⟨rfl, g1⟩; obtain ⟨X1, Y1, c1, f1⟩ := g1.use) | (go_at_call 25; refine (rOrient_any _ _ _ _ _ _ _ _ _ _ _ _ _).mono ?_; rintro e w1 ⟨rfl, g1⟩; obtain ⟨X1, Y1, c1, f1⟩ := g1.use) | (go_at_call 19; refine (known_any _ (HT.out.gr (by repeat (first | with_reducible exact Gr.refl _ | with_reducible assumption | with_reducible refine Gr.alloc ?_ _ | with_reducible refine Gr.drewN ?_ _ | with_reducible refine Gr.drew ?_ | with_reducible refine Gr.setCell ?_ (by first | (dsimp only; omega) | (simp only [World.size_alloc]; omega) | (with_reducible refine Gr.size ?_; (repeat (first | with_reducible exact Gr.refl _ | with_reducible assumption | with_reducible refine Gr.alloc ?_ _ | with_reducible refine Gr.drewN ?_ _ | with_reducible refine Gr.drew ?_ | with_reducible refine Gr.trans ?_ (by with_reducible assumption))); done)) _ | with_reducible refine Gr.trans ?_ (by with_reducible assumption))))).mono ?_; rintro e w1 ⟨rfl, g1⟩; obtain ⟨X1, Y1, c1, f1⟩ := g1.use))
  all_goals first
    | (exfalso; have h1 := S1.out; have h2 := S2.out; have h3 := T1.out; have h4 := T2.out; first | omega | contradiction)
    | (go_ret; exact ⟨by first | rfl | simp [*], (by repeat (first | with_reducible exact Gr.refl _ | with_reducible assumption | with_reducible refine Gr.alloc ?_ _ | with_reducible refine Gr.drewN ?_ _ | with_reducible refine Gr.drew ?_ | with_reducible refine Gr.setCell ?_ (by first | (dsimp only; omega) | (simp only [World.size_alloc]; omega) | (with_reducible refine Gr.size ?_; (repeat (first | with_reducible exact Gr.refl _ | with_reducible assumption | with_reducible refine Gr.alloc ?_ _ | with_reducible refine Gr.drewN ?_ _ | with_reducible refine Gr.drew ?_ | with_reducible refine Gr.trans ?_ (by with_reducible assumption))); done)) _ | with_reducible refine Gr.trans ?_ (by with_reducible assumption)))⟩)
end Go.Proofs.YtfapbiiknfeidaaDoor
