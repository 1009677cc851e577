/-
  FlatApart: the law's own functions edge and within at a line that lies so.
  Flat patterns: the heights of the reference; the law of heights.
  FlatApart: the law.
  FlatApart, proved: for every part and bend table, the faces of the pattern that Unfold returns do not overlap, each hole lies strictly inside of a face, and each bend line is a side of its flange. No condition.
-/
import Derived.Test.YtjnfodbniohkhaaGreatMY
import Derived.Test.YtjnfodbniohkhaaGreatSet
set_option linter.unusedVariables false
set_option linter.unusedSimpArgs false
namespace Go.Proofs.YtjnfodbniohkhaaGreat
set_option linter.unusedVariables false
set_option linter.unusedSimpArgs false
open Go Go.ChangeShapes Go.WideShapes Go.ChangeAt Go.RowKit Go.Deep

set_option maxHeartbeats 2000000 in
theorem edge_yes (s : Sg) (r : RG.Rc) (w : World) (hr : RcB r) (h : edP s r) : Calls Tryz.prog 11 #[sgv s, rcv r] w fun e w' => e = .returned (.bool true) ∧ Gr w w' := by
  have h1 := hr.x
  have h2 := hr.y
  have h3 := hr.w
  have h4 := hr.h
  clear hr
  obtain ⟨a, b, c, d⟩ := s
  obtain ⟨x, y, u, v⟩ := r
  unfold edP at h
  simp only at h h1 h2 h3 h4
  have U1 : IntKind.i64.wrap (x + u) = x + u := IntWalk.i64_in _ (by omega)
  have U2 : IntKind.i64.wrap (y + v) = y + v := IntWalk.i64_in _ (by omega)
  have N1 : (y + v == y) = false := by simp; omega
  have N2 : (x + u == x) = false := by simp; omega
  rcases h with ⟨rfl, rfl, rfl, rfl | rfl⟩ | ⟨hne, rfl, rfl, rfl, rfl | rfl⟩
  · go_enter Tryz.func11, Tryz.ntmps11
    go_wp2
    go_ret
    exact ⟨rfl, (by repeat (first | with_reducible exact Gr.refl _ | with_reducible assumption | with_reducible refine Gr.alloc ?_ _ | with_reducible refine Gr.drewN ?_ _ | with_reducible refine Gr.drew ?_ | with_reducible refine Gr.setCell ?_ (by first | (dsimp only; omega) | (simp only [World.size_alloc]; omega) | (with_reducible refine Gr.size ?_; (repeat (first | with_reducible exact Gr.refl _ | with_reducible assumption | with_reducible refine Gr.alloc ?_ _ | with_reducible refine Gr.drewN ?_ _ | with_reducible refine Gr.drew ?_ | with_reducible refine Gr.trans ?_ (by with_reducible assumption))); done)) _ | with_reducible refine Gr.trans ?_ (by with_reducible assumption)))⟩
  · go_enter Tryz.func11, Tryz.ntmps11
    go_wp2
    go_ret
    exact ⟨rfl, (by repeat (first | with_reducible exact Gr.refl _ | with_reducible assumption | with_reducible refine Gr.alloc ?_ _ | with_reducible refine Gr.drewN ?_ _ | with_reducible refine Gr.drew ?_ | with_reducible refine Gr.setCell ?_ (by first | (dsimp only; omega) | (simp only [World.size_alloc]; omega) | (with_reducible refine Gr.size ?_; (repeat (first | with_reducible exact Gr.refl _ | with_reducible assumption | with_reducible refine Gr.alloc ?_ _ | with_reducible refine Gr.drewN ?_ _ | with_reducible refine Gr.drew ?_ | with_reducible refine Gr.trans ?_ (by with_reducible assumption))); done)) _ | with_reducible refine Gr.trans ?_ (by with_reducible assumption)))⟩
  · have N3 : (b == b + v) = false := by simp; omega
    clear hne
    go_enter Tryz.func11, Tryz.ntmps11
    go_wp2
    go_ret
    exact ⟨rfl, (by repeat (first | with_reducible exact Gr.refl _ | with_reducible assumption | with_reducible refine Gr.alloc ?_ _ | with_reducible refine Gr.drewN ?_ _ | with_reducible refine Gr.drew ?_ | with_reducible refine Gr.setCell ?_ (by first | (dsimp only; omega) | (simp only [World.size_alloc]; omega) | (with_reducible refine Gr.size ?_; (repeat (first | with_reducible exact Gr.refl _ | with_reducible assumption | with_reducible refine Gr.alloc ?_ _ | with_reducible refine Gr.drewN ?_ _ | with_reducible refine Gr.drew ?_ | with_reducible refine Gr.trans ?_ (by with_reducible assumption))); done)) _ | with_reducible refine Gr.trans ?_ (by with_reducible assumption)))⟩
  · have N3 : (b == b + v) = false := by simp; omega
    clear hne
    go_enter Tryz.func11, Tryz.ntmps11
    go_wp2
    go_ret
    exact ⟨rfl, (by repeat (first | with_reducible exact Gr.refl _ | with_reducible assumption | with_reducible refine Gr.alloc ?_ _ | with_reducible refine Gr.drewN ?_ _ | with_reducible refine Gr.drew ?_ | with_reducible refine Gr.setCell ?_ (by first | (dsimp only; omega) | (simp only [World.size_alloc]; omega) | (with_reducible refine Gr.size ?_; (repeat (first | with_reducible exact Gr.refl _ | with_reducible assumption | with_reducible refine Gr.alloc ?_ _ | with_reducible refine Gr.drewN ?_ _ | with_reducible refine Gr.drew ?_ | with_reducible refine Gr.trans ?_ (by with_reducible assumption))); done)) _ | with_reducible refine Gr.trans ?_ (by with_reducible assumption)))⟩
set_option maxHeartbeats 2000000 in
theorem within_yes (s : Sg) (r : RG.Rc) (w : World) (hr : RcB r) (h : wiP s r) : Calls Tryz.prog 12 #[sgv s, rcv r] w fun e w' => e = .returned (.bool true) ∧ Gr w w' := by
  have h1 := hr.x
  have h2 := hr.y
  have h3 := hr.w
  have h4 := hr.h
  clear hr
  obtain ⟨a, b, c, d⟩ := s
  obtain ⟨x, y, u, v⟩ := r
  unfold wiP at h
  simp only at h h1 h2 h3 h4
  have U1 : IntKind.i64.wrap (x + u) = x + u := IntWalk.i64_in _ (by omega)
  have U2 : IntKind.i64.wrap (y + v) = y + v := IntWalk.i64_in _ (by omega)
  have N1 : (y + v == y) = false := by simp; omega
  have N2 : (x + u == x) = false := by simp; omega
  rcases h with ⟨rfl, ha, hc, rfl | rfl⟩ | ⟨hne, rfl, hb, hd, rfl | rfl⟩
  · have K1 : decide (x ≤ a) = true := by simpa using ha
    have K2 : decide (c ≤ x + u) = true := by simpa using hc
    go_enter Tryz.func12, Tryz.ntmps12
    go_wp2
    go_ret
    exact ⟨rfl, (by repeat (first | with_reducible exact Gr.refl _ | with_reducible assumption | with_reducible refine Gr.alloc ?_ _ | with_reducible refine Gr.drewN ?_ _ | with_reducible refine Gr.drew ?_ | with_reducible refine Gr.setCell ?_ (by first | (dsimp only; omega) | (simp only [World.size_alloc]; omega) | (with_reducible refine Gr.size ?_; (repeat (first | with_reducible exact Gr.refl _ | with_reducible assumption | with_reducible refine Gr.alloc ?_ _ | with_reducible refine Gr.drewN ?_ _ | with_reducible refine Gr.drew ?_ | with_reducible refine Gr.trans ?_ (by with_reducible assumption))); done)) _ | with_reducible refine Gr.trans ?_ (by with_reducible assumption)))⟩
  · have K1 : decide (x ≤ a) = true := by simpa using ha
    have K2 : decide (c ≤ x + u) = true := by simpa using hc
    go_enter Tryz.func12, Tryz.ntmps12
    go_wp2
    go_ret
    exact ⟨rfl, (by repeat (first | with_reducible exact Gr.refl _ | with_reducible assumption | with_reducible refine Gr.alloc ?_ _ | with_reducible refine Gr.drewN ?_ _ | with_reducible refine Gr.drew ?_ | with_reducible refine Gr.setCell ?_ (by first | (dsimp only; omega) | (simp only [World.size_alloc]; omega) | (with_reducible refine Gr.size ?_; (repeat (first | with_reducible exact Gr.refl _ | with_reducible assumption | with_reducible refine Gr.alloc ?_ _ | with_reducible refine Gr.drewN ?_ _ | with_reducible refine Gr.drew ?_ | with_reducible refine Gr.trans ?_ (by with_reducible assumption))); done)) _ | with_reducible refine Gr.trans ?_ (by with_reducible assumption)))⟩
  · have N3 : (b == d) = false := by simpa using hne
    have K1 : decide (y ≤ b) = true := by simpa using hb
    have K2 : decide (d ≤ y + v) = true := by simpa using hd
    clear hne
    go_enter Tryz.func12, Tryz.ntmps12
    go_wp2
    go_ret
    exact ⟨rfl, (by repeat (first | with_reducible exact Gr.refl _ | with_reducible assumption | with_reducible refine Gr.alloc ?_ _ | with_reducible refine Gr.drewN ?_ _ | with_reducible refine Gr.drew ?_ | with_reducible refine Gr.setCell ?_ (by first | (dsimp only; omega) | (simp only [World.size_alloc]; omega) | (with_reducible refine Gr.size ?_; (repeat (first | with_reducible exact Gr.refl _ | with_reducible assumption | with_reducible refine Gr.alloc ?_ _ | with_reducible refine Gr.drewN ?_ _ | with_reducible refine Gr.drew ?_ | with_reducible refine Gr.trans ?_ (by with_reducible assumption))); done)) _ | with_reducible refine Gr.trans ?_ (by with_reducible assumption)))⟩
  · have N3 : (b == d) = false := by simpa using hne
    have K1 : decide (y ≤ b) = true := by simpa using hb
    have K2 : decide (d ≤ y + v) = true := by simpa using hd
    clear hne
    go_enter Tryz.func12, Tryz.ntmps12
    go_wp2
    go_ret
    exact ⟨rfl, (by repeat (first | with_reducible exact Gr.refl _ | with_reducible assumption | with_reducible refine Gr.alloc ?_ _ | with_reducible refine Gr.drewN ?_ _ | with_reducible refine Gr.drew ?_ | with_reducible refine Gr.setCell ?_ (by first | (dsimp only; omega) | (simp only [World.size_alloc]; omega) | (with_reducible refine Gr.size ?_; (repeat (first | with_reducible exact Gr.refl _ | with_reducible assumption | with_reducible refine Gr.alloc ?_ _ | with_reducible refine Gr.drewN ?_ _ | with_reducible refine Gr.drew ?_ | with_reducible refine Gr.trans ?_ (by with_reducible assumption))); done)) _ | with_reducible refine Gr.trans ?_ (by with_reducible assumption)))⟩
end Go.Proofs.YtjnfodbniohkhaaGreat
set_option linter.unusedVariables false
set_option linter.unusedSimpArgs false
namespace Go.Proofs.YtjnfodbniohkhaaGreat
set_option linter.unusedVariables false
set_option linter.unusedSimpArgs false
open Go Go.ChangeShapes Go.WideShapes Go.ChangeAt Go.RowKit Go.Deep

theorem plE_sh {p : Pa} {t : Tb} (h : dlE p t = 0) (k : shB (plsA p t) = true) : plE p t = 8 := by
  unfold plE
  rw [if_neg (by simpa using h), if_pos k]
theorem plE_ns {p : Pa} {t : Tb} (h : dlE p t = 0) (k : shB (plsA p t) = false) : plE p t = 0 := by
  unfold plE
  rw [if_neg (by simpa using h), k]
  rfl
theorem hgL_len {p : Pa} {t : Tb} (h : p.fl.length ≤ 900) : (hgL p t).length ≤ 1000 := by
  by_cases k : plE p t = 0
  · rw [hgL_ok k, List.length_map, plsA_len]
    omega
  · rw [hgL_no k]
    decide
theorem ext_at {p : Pa} {j : Nat} {f : Fl} (h : p.fl[j]? = some f) : extH p ((j : Int) + 1) = f.ln := by
  unfold extH
  rw [if_neg (by omega), show ((j : Int) + 1 - 1).toNat = j by omega, h]
  rfl
theorem siz_ok {p : Pa} {k : Nat} (h : valE p = 0) (hk : k ≤ p.fl.length) : ∃ x, sizV p k = (x, extH p k, 0) := by
  refine ⟨extW p k, ?_⟩
  unfold sizV
  rw [if_neg (by simpa using h), if_pos]
  rw [wiB_iff]
  omega
end Go.Proofs.YtjnfodbniohkhaaGreat
set_option linter.unusedVariables false
set_option linter.unusedSimpArgs false
namespace Go.Proofs.YtjnfodbniohkhaaGreat
set_option linter.unusedVariables false
set_option linter.unusedSimpArgs false
open Go Go.ChangeShapes Go.WideShapes Go.ChangeAt Go.RowKit Go.Deep

theorem sum_take {l : List RG.Rc} {k : Nat} {r : RG.Rc} (h : l[k]? = some r) : RG.sumA (l.take (k + 1)) = RG.sumA (l.take k) + r.w * r.h := by
  rw [List.take_add_one, h]; simp [RG.sumA]
/-- a hole lies inside of one of the first faces -/
def anyH (l : List RG.Rc) (z : RG.Rc) (k : Nat) : Bool := (l.take k).any fun r => R.isB (z.x - 1) (z.y - 1) (z.w + 2) (z.h + 2) r.x r.y r.w r.h
theorem anyH_succ {l : List RG.Rc} {z : RG.Rc} {k : Nat} {r : RG.Rc} (h : l[k]? = some r) : anyH l z (k + 1) = (anyH l z k || R.isB (z.x - 1) (z.y - 1) (z.w + 2) (z.h + 2) r.x r.y r.w r.h) := by
  unfold anyH
  rw [List.take_add_one, h]
  simp [List.any_append]
theorem anyH_yes {l : List RG.Rc} {z : RG.Rc} {k n : Nat} {r : RG.Rc} (h : l[k]? = some r) (hn : l.length = n) (hb : R.isB (z.x - 1) (z.y - 1) (z.w + 2) (z.h + 2) r.x r.y r.w r.h = true) : anyH l z n = true := by
  unfold anyH
  rw [List.take_of_length_le (by omega), List.any_eq_true]
  exact ⟨r, List.mem_of_getElem? h, hb⟩
set_option maxRecDepth 100000 in
set_option maxHeartbeats 16000000 in
theorem apart_walk (p : Pa) (t : Tb) (A B C : Option Addr) (c d q : Nat) (w : World) (hX : PaX w p A c B d) (hR : RdE w C t.en) (hs : t.mt.size ≤ maxLen) (hc : t.en.length ≤ q ∧ q ≤ maxLen) :
    Calls Tryz.prog 3 #[pav p A c B d, tbv t C q] w fun x w' => x = .returned (.bool true) ∧ Gr w w' := by
  unfold maxLen at hs hc
  have HBG := hide (fun (w' : World) (g : Gr w w') => big_any p A B c d w' (hX.gr g))
  have HW := hide (fun w' => wide_any t C q w' (by omega) (by omega))
  cases hb : bgB p with
  | true =>
    rw [hb] at HBG
    clear hb hX
    go_enter Tryz.func3, Tryz.ntmps3
    go_wp2_with fail
    refine (HBG.out _ (by repeat (first | with_reducible exact Gr.refl _ | with_reducible assumption | with_reducible refine Gr.alloc ?_ _ | with_reducible refine Gr.drewN ?_ _ | with_reducible refine Gr.drew ?_ | with_reducible refine Gr.setCell ?_ (by first | (dsimp only; omega) | (simp only [World.size_alloc]; omega) | (with_reducible refine Gr.size ?_; (repeat (first | with_reducible exact Gr.refl _ | with_reducible assumption | with_reducible refine Gr.alloc ?_ _ | with_reducible refine Gr.drewN ?_ _ | with_reducible refine Gr.drew ?_ | with_reducible refine Gr.trans ?_ (by with_reducible assumption))); done)) _ | with_reducible refine Gr.trans ?_ (by with_reducible assumption)))).mono ?_
    rintro e w1 ⟨rfl, g1⟩
    go_wp2_with (first | (go_at_call 7; refine (known3_any _).mono ?_; rintro e w1 ⟨rfl, g1⟩; obtain ⟨X1, Y1, c1, f1⟩ := g1.use; have z1 := g1.size; (try simp only [World.size_alloc, World.size_setCell, World.heap_drewN, Nat.add_one_le_iff] at z1); (try have l0 : w.heap.size < w1.heap.size := by omega); (try have l1 : w.heap.size + 1 < w1.heap.size := by omega); (try have l2 : w.heap.size + 1 + 1 < w1.heap.size := by omega)))
    go_ret
    exact ⟨rfl, (by repeat (first | with_reducible exact Gr.refl _ | with_reducible assumption | with_reducible refine Gr.alloc ?_ _ | with_reducible refine Gr.drewN ?_ _ | with_reducible refine Gr.drew ?_ | with_reducible refine Gr.setCell ?_ (by first | (dsimp only; omega) | (simp only [World.size_alloc]; omega) | (with_reducible refine Gr.size ?_; (repeat (first | with_reducible exact Gr.refl _ | with_reducible assumption | with_reducible refine Gr.alloc ?_ _ | with_reducible refine Gr.drewN ?_ _ | with_reducible refine Gr.drew ?_ | with_reducible refine Gr.trans ?_ (by with_reducible assumption))); done)) _ | with_reducible refine Gr.trans ?_ (by with_reducible assumption)))⟩
  | false =>
    have hP := hX.small hb
    rw [hb] at HBG
    cases hwd : wdB t with
    | true =>
      rw [hwd] at HW
      clear hb hX hwd hP hR
      go_enter Tryz.func3, Tryz.ntmps3
      go_wp2_with fail
      refine (HBG.out _ (by repeat (first | with_reducible exact Gr.refl _ | with_reducible assumption | with_reducible refine Gr.alloc ?_ _ | with_reducible refine Gr.drewN ?_ _ | with_reducible refine Gr.drew ?_ | with_reducible refine Gr.setCell ?_ (by first | (dsimp only; omega) | (simp only [World.size_alloc]; omega) | (with_reducible refine Gr.size ?_; (repeat (first | with_reducible exact Gr.refl _ | with_reducible assumption | with_reducible refine Gr.alloc ?_ _ | with_reducible refine Gr.drewN ?_ _ | with_reducible refine Gr.drew ?_ | with_reducible refine Gr.trans ?_ (by with_reducible assumption))); done)) _ | with_reducible refine Gr.trans ?_ (by with_reducible assumption)))).mono ?_
      rintro e w1 ⟨rfl, g1⟩
      obtain ⟨X1, Y1, c1, f1⟩ := g1.use
      have z1 := g1.size
      simp only [World.size_alloc] at z1
      have l1 : w.heap.size + 1 < w1.heap.size := by omega
      have l0 : w.heap.size < w1.heap.size := by omega
      go_wp2_with fail
      refine (HW.out _).mono ?_
      rintro e w2 ⟨rfl, g2⟩
      go_wp2_with (first | (go_at_call 7; refine (known3_any _).mono ?_; rintro e w1 ⟨rfl, g1⟩; obtain ⟨X1, Y1, c1, f1⟩ := g1.use; have z1 := g1.size; (try simp only [World.size_alloc, World.size_setCell, World.heap_drewN, Nat.add_one_le_iff] at z1); (try have l0 : w.heap.size < w1.heap.size := by omega); (try have l1 : w.heap.size + 1 < w1.heap.size := by omega); (try have l2 : w.heap.size + 1 + 1 < w1.heap.size := by omega)))
      go_ret
      exact ⟨rfl, (by repeat (first | with_reducible exact Gr.refl _ | with_reducible assumption | with_reducible refine Gr.alloc ?_ _ | with_reducible refine Gr.drewN ?_ _ | with_reducible refine Gr.drew ?_ | with_reducible refine Gr.setCell ?_ (by first | (dsimp only; omega) | (simp only [World.size_alloc]; omega) | (with_reducible refine Gr.size ?_; (repeat (first | with_reducible exact Gr.refl _ | with_reducible assumption | with_reducible refine Gr.alloc ?_ _ | with_reducible refine Gr.drewN ?_ _ | with_reducible refine Gr.drew ?_ | with_reducible refine Gr.trans ?_ (by with_reducible assumption))); done)) _ | with_reducible refine Gr.trans ?_ (by with_reducible assumption)))⟩
    | false =>
      have hsm : t.mt.size ≤ 1000 ∧ t.en.length ≤ 1000 := by
        unfold wdB at hwd
        simp only [Bool.or_eq_false_iff, decide_eq_false_iff_not] at hwd
        omega
      rw [hwd] at HW
      have hE : SlE w C q t.en := ⟨hR, by omega, by omega, hsm.2⟩
      have HU1 := hide (fun (w' : World) (g : Gr w w') => Unfold_any p t A B C c d q w' (hP.gr g) (hE.gr g) hsm.1)
      have HP := hide hP
      by_cases h0 : unE p t = 0
      case neg =>
        obtain ⟨e1, e2, e3, e4, -⟩ := flO_nil h0 w
        rw [e1, e2, e3, e4] at HU1
        have hne : (unE p t != 0) = true := by simpa using h0
        generalize unE p t = er at *
        clear hb hX hwd hR hE hP hsm e1 e2 e3 e4 h0
        go_enter Tryz.func3, Tryz.ntmps3
        go_wp2_with fail
        refine (HBG.out _ (by repeat (first | with_reducible exact Gr.refl _ | with_reducible assumption | with_reducible refine Gr.alloc ?_ _ | with_reducible refine Gr.drewN ?_ _ | with_reducible refine Gr.drew ?_ | with_reducible refine Gr.setCell ?_ (by first | (dsimp only; omega) | (simp only [World.size_alloc]; omega) | (with_reducible refine Gr.size ?_; (repeat (first | with_reducible exact Gr.refl _ | with_reducible assumption | with_reducible refine Gr.alloc ?_ _ | with_reducible refine Gr.drewN ?_ _ | with_reducible refine Gr.drew ?_ | with_reducible refine Gr.trans ?_ (by with_reducible assumption))); done)) _ | with_reducible refine Gr.trans ?_ (by with_reducible assumption)))).mono ?_
        rintro e w1 ⟨rfl, g1⟩
        obtain ⟨X1, Y1, c1, f1⟩ := g1.use
        have z1 := g1.size
        simp only [World.size_alloc] at z1
        have l1 : w.heap.size + 1 < w1.heap.size := by omega
        have l0 : w.heap.size < w1.heap.size := by omega
        have gw1 : Gr w w1 := (by repeat (first | with_reducible exact Gr.refl _ | with_reducible assumption | with_reducible refine Gr.alloc ?_ _ | with_reducible refine Gr.drewN ?_ _ | with_reducible refine Gr.drew ?_ | with_reducible refine Gr.setCell ?_ (by first | (dsimp only; omega) | (simp only [World.size_alloc]; omega) | (with_reducible refine Gr.size ?_; (repeat (first | with_reducible exact Gr.refl _ | with_reducible assumption | with_reducible refine Gr.alloc ?_ _ | with_reducible refine Gr.drewN ?_ _ | with_reducible refine Gr.drew ?_ | with_reducible refine Gr.trans ?_ (by with_reducible assumption))); done)) _ | with_reducible refine Gr.trans ?_ (by with_reducible assumption)))
        go_wp2_with fail
        refine (HW.out _).mono ?_
        rintro e w2 ⟨rfl, g2⟩
        obtain ⟨X2, Y2, c2, f2⟩ := g2.use
        have z2 := g2.size
        have m1 : w.heap.size + 1 < w2.heap.size := by omega
        have m0 : w.heap.size < w2.heap.size := by omega
        have gw2 : Gr w w2 := gw1.trans g2
        go_wp2_with fail
        refine (HU1.out _ gw2).mono ?_
        rintro e w3 ⟨A1, d1, A2, d2, A3, d3, A4, d4, rfl, o3, g3⟩
        have gw3 : Gr w w3 := gw2.trans g3
        clear o3
        go_wp2_with (first | (go_at_call 7; refine (known3_any _).mono ?_; rintro e w1 ⟨rfl, g1⟩; obtain ⟨X1, Y1, c1, f1⟩ := g1.use; have z1 := g1.size; (try simp only [World.size_alloc, World.size_setCell, World.heap_drewN, Nat.add_one_le_iff] at z1); (try have l0 : w.heap.size < w1.heap.size := by omega); (try have l1 : w.heap.size + 1 < w1.heap.size := by omega); (try have l2 : w.heap.size + 1 + 1 < w1.heap.size := by omega)))
        go_ret
        exact ⟨rfl, (by repeat (first | with_reducible exact Gr.refl _ | with_reducible assumption | with_reducible refine Gr.alloc ?_ _ | with_reducible refine Gr.drewN ?_ _ | with_reducible refine Gr.drew ?_ | with_reducible refine Gr.setCell ?_ (by first | (dsimp only; omega) | (simp only [World.size_alloc]; omega) | (with_reducible refine Gr.size ?_; (repeat (first | with_reducible exact Gr.refl _ | with_reducible assumption | with_reducible refine Gr.alloc ?_ _ | with_reducible refine Gr.drewN ?_ _ | with_reducible refine Gr.drew ?_ | with_reducible refine Gr.trans ?_ (by with_reducible assumption))); done)) _ | with_reducible refine Gr.trans ?_ (by with_reducible assumption)))⟩
      case pos =>
        obtain ⟨ln1, ln2, ln3⟩ := ur_len h0
        obtain ⟨sx1, sx2, sx3⟩ := ur_six h0
        have HRC := hide (ur_rc h0)
        have HIN := hide (ur_in h0)
        have HOV := hide (fun (i k : Nat) (hk : k < i) (r s : RG.Rc) (h1 : (urL p t)[k]? = some r) (h2 : (urL p t)[i]? = some s) => ur_ov h0 hk h1 h2)
        have HBN := hide (fun (i : Nat) (f : Fl) (hf : p.fl[i]? = some f) => bn_of h0 hf)
        have HHO := hide (fun (z : RG.Rc) (hz : z ∈ ucL p t ++ ufL p t) => ho_in h0 hz)
        have HAR := hide (fun (w' : World) (A1 : Option Addr) (d1 : Nat) (h : SlRq w' A1 d1 (urL p t)) => RG.Area_any A1 d1 (urL p t) w' (slr_of h))
        rw [ur_ar h0, ur_ce h0, ln1] at HAR
        have HSB := hide (fun n => RG.sumA_bd HIN.out n)
        have HST := hide (fun (k : Nat) (r : RG.Rc) (h : (urL p t)[k]? = some r) => sum_take h)
        have HSA := hide (show RG.sumA ((urL p t).take (p.fl.length + 1)) = RG.sumA (urL p t) by rw [List.take_of_length_le (by omega)])
        have HBO := hide (fun (w' : World) (A2 A3 : Option Addr) (d2 d3 : Nat) (h2 : SlRq w' A2 d2 (ucL p t)) (h3 : SlRq w' A3 d3 (ufL p t)) => RG.both_any A2 d2 (ucL p t) A3 d3 (ufL p t) w' (slr_of h2) (slr_of h3) (by omega) (by omega))
        have HFO : Hid (∀ (w' : World) (A1 : Option Addr) (d1 : Nat) (A2 : Option Addr) (d2 : Nat) (A3 : Option Addr) (d3 : Nat) (A4 : Option Addr) (d4 : Nat), FlO w' p t A1 d1 A2 d2 A3 d3 A4 d4 → SlRq w' A1 d1 (urL p t) ∧ SlRq w' A2 d2 (ucL p t) ∧ SlRq w' A3 d3 (ufL p t) ∧ SlBn w' A4 d4 (ubL p t)) := hide (fun w' A1 d1 A2 d2 A3 d3 A4 d4 h => ⟨h.r, h.c, h.f, h.b⟩)
        have HU2 : Hid (∀ (w' : World) (g : Gr w w'), Calls Tryz.prog 8 #[pav p A c B d, tbv t C q] w' fun e w'' => ∃ A1 d1 A2 d2 A3 d3 A4 d4, e = .returned (sle (fl4 A1 (p.fl.length + 1) d1 A2 (ucL p t).length d2 A3 (ufL p t).length d3 A4 p.fl.length d4) 0) ∧ (SlRq w'' A1 d1 (urL p t) ∧ SlRq w'' A2 d2 (ucL p t) ∧ SlRq w'' A3 d3 (ufL p t) ∧ SlBn w'' A4 d4 (ubL p t)) ∧ Gr w' w'') := hide (by
          intro w' g
          have := HU1.out w' g
          rw [ln1, ln2, h0] at this
          refine this.mono ?_
          rintro e w'' ⟨A1, d1, A2, d2, A3, d3, A4, d4, rfl, o, g'⟩
          exact ⟨A1, d1, A2, d2, A3, d3, A4, d4, rfl, HFO.out _ _ _ _ _ _ _ _ _ o, g'⟩)
        have hlC : ((((ucL p t).length : Nat) : Int) + (((ufL p t).length : Nat) : Int) != ((p.ho.length : Nat) : Int)) = false := by
          rw [bne_eq_false_iff_eq]; omega
        have HFL := hide (fun (i : Nat) (hi : i < p.fl.length) => (show ∃ f, p.fl[i]? = some f from ⟨_, List.getElem?_eq_getElem hi⟩))
        have hcl : (ucL p t ++ ufL p t).length = (ucL p t).length + (ufL p t).length := List.length_append
        have hcl6 : (ucL p t).length + (ufL p t).length ≤ 6 := by omega
        rw [hcl] at HBO
        have HLR := hide ln1
        clear HU1 HFO hb hX hwd hR hE hP hsm h0 ln1 ln2 ln3 hcl
        generalize urL p t = RL at *
        generalize ubL p t = BL at *
        generalize ucL p t = CL at *
        generalize ufL p t = FL at *
        --MAIN
        go_enter Tryz.func3, Tryz.ntmps3
        go_wp2_with fail
        refine (HBG.out _ (by repeat (first | with_reducible exact Gr.refl _ | with_reducible assumption | with_reducible refine Gr.alloc ?_ _ | with_reducible refine Gr.drewN ?_ _ | with_reducible refine Gr.drew ?_ | with_reducible refine Gr.setCell ?_ (by first | (dsimp only; omega) | (simp only [World.size_alloc]; omega) | (with_reducible refine Gr.size ?_; (repeat (first | with_reducible exact Gr.refl _ | with_reducible assumption | with_reducible refine Gr.alloc ?_ _ | with_reducible refine Gr.drewN ?_ _ | with_reducible refine Gr.drew ?_ | with_reducible refine Gr.trans ?_ (by with_reducible assumption))); done)) _ | with_reducible refine Gr.trans ?_ (by with_reducible assumption)))).mono ?_
        rintro e w1 ⟨rfl, g1⟩
        obtain ⟨X1, Y1, c1, f1⟩ := g1.use
        have z1 := g1.size
        simp only [World.size_alloc] at z1
        have l1 : w.heap.size + 1 < w1.heap.size := by omega
        have l0 : w.heap.size < w1.heap.size := by omega
        have gw1 : Gr w w1 := (by repeat (first | with_reducible exact Gr.refl _ | with_reducible assumption | with_reducible refine Gr.alloc ?_ _ | with_reducible refine Gr.drewN ?_ _ | with_reducible refine Gr.drew ?_ | with_reducible refine Gr.setCell ?_ (by first | (dsimp only; omega) | (simp only [World.size_alloc]; omega) | (with_reducible refine Gr.size ?_; (repeat (first | with_reducible exact Gr.refl _ | with_reducible assumption | with_reducible refine Gr.alloc ?_ _ | with_reducible refine Gr.drewN ?_ _ | with_reducible refine Gr.drew ?_ | with_reducible refine Gr.trans ?_ (by with_reducible assumption))); done)) _ | with_reducible refine Gr.trans ?_ (by with_reducible assumption)))
        go_wp2_with fail
        refine (HW.out _).mono ?_
        rintro e w2 ⟨rfl, g2⟩
        obtain ⟨X2, Y2, c2, f2⟩ := g2.use
        have z2 := g2.size
        have m1 : w.heap.size + 1 < w2.heap.size := by omega
        have m0 : w.heap.size < w2.heap.size := by omega
        have gw2 : Gr w w2 := gw1.trans g2
        go_wp2_with fail
        refine (HU2.out _ gw2).mono ?_
        rintro e w3 ⟨A1, d1, A2, d2, A3, d3, A4, d4, rfl, ⟨o1, o2, o3, o4⟩, g3⟩
        have z3 := g3.size
        have gw3 : Gr w w3 := gw2.trans g3
        have O1 := hide o1
        have O2 := hide o2
        have O3 := hide o3
        have O4 := hide o4
        clear o1 o2 o3 o4 HBG HW HU2
        have q0 : w.heap.size < w3.heap.size := by omega
        have p6 : w3.cell? ⟨w.heap.size, 6, none⟩ = some (.slice A p.fl.length c) := by rw [(g2.trans g3).cell _ _ l0, c1]; simp [go_sem]
        have p7 : w3.cell? ⟨w.heap.size, 7, none⟩ = some (.slice B p.ho.length d) := by rw [(g2.trans g3).cell _ _ l0, c1]; simp [go_sem]
        have P6 := hide p6
        clear X1 Y1 c1 f1 X2 Y2 c2 f2
        have hn30 : (p.fl.length : Int) ≤ 5 := by omega
        have gz : Gr w3 (w3.alloc (.cells #[.slice A1 (p.fl.length + 1) d1, .slice A2 CL.length d2, .slice A3 FL.length d3, .slice A4 p.fl.length d4] 35)) := Gr.alloc (Gr.refl _) _
        go_wp2_with fail
        --LOOP1
        go_loopw [7, 8] (fun sv iv' wr => ∃ n : Nat, n ≤ p.fl.length + 1 ∧ iv' = iv n ∧ sv = iv (RG.sumA (RL.take n)) ∧ Gr (w3.alloc (.cells #[.slice A1 (p.fl.length + 1) d1, .slice A2 CL.length d2, .slice A3 FL.length d3, .slice A4 p.fl.length d4] 35)) wr) (fun _ i _ => p.fl.length + 1 - (intOf i).toNat)
        case atStart => exact ⟨0, by omega, rfl, rfl, Gr.refl _⟩
        case round =>
          obtain ⟨n, hn, rfl, rfl, g⟩ := hrel
          obtain ⟨s3, b0, b1, b2, b3⟩ := RG.box4 g
          have gw : Gr w3 wr := gz.trans g
          have gW : Gr w wr := gw3.trans gw
          have u0 : w.heap.size < wr.heap.size := by omega
          clear p6 p7
          by_cases hnl : n < p.fl.length + 1
          · as_aux_lemma =>
            obtain ⟨r, hr⟩ : ∃ r, RL[n]? = some r := ⟨_, List.getElem?_eq_getElem (by have := HLR.out; omega)⟩
            obtain ⟨bl, o, rfl, c0, c1, c2, c3⟩ := (O1.out.gr gw).at_ hr
            have hi := HIN.out r (List.mem_of_getElem? hr)
            have HIR := hide hi
            have a1 := hi.w; have a2 := hi.h; have a3 := hi.x; have a4 := hi.y; have a5 := hi.x'; have a6 := hi.y'
            have bd := HSB.out n
            have v1 : 0 ≤ r.w * r.h := Int.mul_nonneg (by omega) (by omega)
            have v2 : r.w * r.h ≤ 2097152 * 2097152 := Int.mul_le_mul (by omega) (by omega) (by omega) (by omega)
            have HNX := hide (HST.out n r hr)
            have hn0 : (0 : Int) ≤ (n : Int) := by omega
            have hn1 : (n : Int) < (p.fl.length : Int) + 1 := by omega
            have s1 : IntKind.i64.wrap (r.w * r.h) = r.w * r.h := IntWalk.i64_in _ (by omega)
            have s2 : IntKind.i64.wrap (RG.sumA (RL.take n) + r.w * r.h) = RG.sumA (RL.take n) + r.w * r.h := IntWalk.i64_in _ (by omega)
            have s4 : IntKind.i64.wrap ((n : Int) + 1) = (n : Int) + 1 := IntWalk.i64_in _ (by omega)
            obtain ⟨tt, ht⟩ : ∃ tt, RG.sumA (RL.take n) = tt := ⟨_, rfl⟩
            rw [ht] at HNX s2 bd
            rw [ht]
            have HR := hide hr
            have hbl : bl < wr.heap.size := cell_lt (by rw [c0]; rfl)
            clear ht hi hr
            go_wp2
            have GC := @GrW.cell
            refine wp_region_grw _ (by kernel_rfl) (by kernel_rfl) (Gr.refl _) ?_
            repeat (go_big_quiet_step ((first | fail)))
            refine wpQuiet_nil ?_
            intro wq hwq
            obtain ⟨gq, hwq'⟩ := hwq
            subst hwq'
            clear GC
            have gq1 := gq.gr
            generalize gq.w = wq at gq1 ⊢
            obtain ⟨Xq, Yq, cq, fq⟩ := gq1.use
            have sq := gq1.size
            (try simp only [World.size_alloc, World.size_setCell, World.heap_drewN] at sq)
            go_wp2
            have gwq : Gr w3 wq := gw.trans gq1
            have HGQ := hide (gz.trans (g.trans gq1))
            have gzq := g.trans gq1
            clear c0 c1 c2 c3
            go_loopw [9] (fun ov wr => ∃ o' : Nat, o' ≤ n ∧ ov = iv o' ∧ Gr (w3.alloc (.cells #[.slice (some ⟨bl, o, none⟩) (p.fl.length + 1) d1, .slice A2 CL.length d2, .slice A3 FL.length d3, .slice A4 p.fl.length d4] 35)) wr) (fun i _ => n - (intOf i).toNat)
            case atStart => exact ⟨0, by omega, rfl, (by repeat (first | with_reducible exact Gr.refl _ | with_reducible assumption | with_reducible refine Gr.alloc ?_ _ | with_reducible refine Gr.drewN ?_ _ | with_reducible refine Gr.drew ?_ | with_reducible refine Gr.setCell ?_ (by first | (dsimp only; omega) | (simp only [World.size_alloc]; omega) | (with_reducible refine Gr.size ?_; (repeat (first | with_reducible exact Gr.refl _ | with_reducible assumption | with_reducible refine Gr.alloc ?_ _ | with_reducible refine Gr.drewN ?_ _ | with_reducible refine Gr.drew ?_ | with_reducible refine Gr.trans ?_ (by with_reducible assumption))); done)) _ | with_reducible refine Gr.trans ?_ (by with_reducible assumption)))⟩
            case round =>
              clear g b0 b1 b2 b3 gw gW u0 gq1 cq fq sq gwq gzq hbl s3
              obtain ⟨o', ho, rfl, g⟩ := hrel
              obtain ⟨s3, b0, b1, b2, b3⟩ := RG.box4 g
              have gw : Gr w3 wr := gz.trans g
              by_cases hol : o' < n
              · obtain ⟨u, hu⟩ : ∃ u, RL[o']? = some u := ⟨_, List.getElem?_eq_getElem (by have := HLR.out; omega)⟩
                obtain ⟨_, _, eqA, e0, e1, e2, e3⟩ := (O1.out.gr gw).at_ hu
                cases eqA
                obtain ⟨_, _, eqA, c0, c1, c2, c3⟩ := (O1.out.gr gw).at_ HR.out
                cases eqA
                have hbl : bl < wr.heap.size := cell_lt (by rw [c0]; rfl)
                have HU := hide (HIN.out u (List.mem_of_getElem? hu))
                have HOV2 := hide (fun w' => RG.Overlap_any r u w' HIR.out HU.out)
                rw [HOV.out n o' hol u r hu HR.out] at HOV2
                have ho0 : (0 : Int) ≤ (o' : Int) := by omega
                have ho1 : (o' : Int) < (n : Int) := by omega
                have ho2 : (o' : Int) < (p.fl.length : Int) + 1 := by omega
                clear hu
                go_wp2
                have GC := @GrW.cell
                refine wp_region_grw _ (by kernel_rfl) (by kernel_rfl) (Gr.refl _) ?_
                repeat (go_big_quiet_step ((first | (go_at_call 9; exact quiet_grw (HOV2.out _)))))
                refine wpQuiet_nil ?_
                intro wq hwq
                obtain ⟨gq, hwq'⟩ := hwq
                subst hwq'
                clear GC
                have gq1 := gq.gr
                generalize gq.w = wq at gq1 ⊢
                obtain ⟨Xq, Yq, cq, fq⟩ := gq1.use
                have sq := gq1.size
                (try simp only [World.size_alloc, World.size_setCell, World.heap_drewN] at sq)
                go_wp2
                go_roundw
                case rel => exact ⟨o' + 1, by omega, by go_num, (by repeat (first | with_reducible exact Gr.refl _ | with_reducible assumption | with_reducible refine Gr.alloc ?_ _ | with_reducible refine Gr.drewN ?_ _ | with_reducible refine Gr.drew ?_ | with_reducible refine Gr.setCell ?_ (by first | (dsimp only; omega) | (simp only [World.size_alloc]; omega) | (with_reducible refine Gr.size ?_; (repeat (first | with_reducible exact Gr.refl _ | with_reducible assumption | with_reducible refine Gr.alloc ?_ _ | with_reducible refine Gr.drewN ?_ _ | with_reducible refine Gr.drew ?_ | with_reducible refine Gr.trans ?_ (by with_reducible assumption))); done)) _ | with_reducible refine Gr.trans ?_ (by with_reducible assumption)))⟩
                case measure => simp only [intOf]; omega
              · obtain rfl : o' = n := by omega
                go_wp2
                go_roundw
                case rel => exact ⟨o' + 1, by omega, by go_num, by rw [HNX.out], (by repeat (first | with_reducible exact Gr.refl _ | with_reducible assumption | with_reducible refine Gr.alloc ?_ _ | with_reducible refine Gr.drewN ?_ _ | with_reducible refine Gr.drew ?_ | with_reducible refine Gr.setCell ?_ (by first | (dsimp only; omega) | (simp only [World.size_alloc]; omega) | (with_reducible refine Gr.size ?_; (repeat (first | with_reducible exact Gr.refl _ | with_reducible assumption | with_reducible refine Gr.alloc ?_ _ | with_reducible refine Gr.drewN ?_ _ | with_reducible refine Gr.drew ?_ | with_reducible refine Gr.trans ?_ (by with_reducible assumption))); done)) _ | with_reducible refine Gr.trans ?_ (by with_reducible assumption)))⟩
                case measure => simp only [intOf]; omega
          · as_aux_lemma =>
            obtain rfl : n = p.fl.length + 1 := by omega
            rw [HSA.out]
            have hn1 : ¬ ((p.fl.length : Int) + 1 < (p.fl.length : Int) + 1) := by omega
            have HA1 := hide (HAR.out _ A1 d1 (O1.out.gr gw))
            generalize RG.sumA RL = SS at *
            have hSS : (SS == SS) = true := by simp
            clear HOV HSB HST HSA HAR
            go_wp2_with fail
            refine HA1.out.mono ?_
            rintro e w5 ⟨rfl, g5⟩
            have g45 := g.trans g5
            clear HA1 b0 b1 b2 b3 gW u0 s3
            obtain ⟨s5, b0, b1, b2, b3⟩ := RG.box4 g45
            go_wp2_with fail
            clear b0 b1 b2 b3
            --LOOP3
            go_loopw [12] (fun iv' wr => ∃ n : Nat, n ≤ p.fl.length ∧ iv' = iv n ∧ Gr (w3.alloc (.cells #[.slice A1 (p.fl.length + 1) d1, .slice A2 CL.length d2, .slice A3 FL.length d3, .slice A4 p.fl.length d4] 35)) wr) (fun i _ => p.fl.length - (intOf i).toNat)
            case atStart => exact ⟨0, by omega, rfl, g45⟩
            case round =>
              clear g gw g5 g45
              obtain ⟨n, hn, rfl, g⟩ := hrel
              obtain ⟨s6, b0, b1, b2, b3⟩ := RG.box4 g
              have gw : Gr w3 wr := gz.trans g
              have gW : Gr w wr := gw3.trans gw
              have u0 : w.heap.size < wr.heap.size := by omega
              have b6 := (gw.cell _ _ q0).trans P6.out
              by_cases hnl : n < p.fl.length
              · as_aux_lemma =>
                obtain ⟨f, hf⟩ := HFL.out n hnl
                obtain ⟨b, r, s, hb, hr, hs, hbf, hbp, ⟨hp0, hp1⟩, hrb, hsb, hline, ⟨hw1, hw2⟩, hed, hwi⟩ := HBN.out n f hf
                obtain ⟨m, hm⟩ : ∃ m : Nat, f.pa = (m : Int) := ⟨f.pa.toNat, by omega⟩
                rw [hm, Int.toNat_natCast] at hs
                obtain ⟨bf, bp, ⟨la, lb, lc, ld⟩, ba, bd⟩ := b
                simp only at hbf hbp hline hed hwi
                rw [hm] at hbp
                subst hbf hbp
                obtain ⟨bfl, ofl, hA, x0, x1, x2, x3, x4, x5, x6⟩ := HP.out.fl.rd.fl hf
                have hbfl : bfl < w.heap.size := cell_lt (by rw [x0]; rfl)
                have y4 := (gW.cell _ _ hbfl).trans x4
                obtain ⟨bb, ob, hB4, v0, v1', v2', v3, v4, v5, v6, v7⟩ := (O4.out.gr gw).at_ hb
                obtain ⟨bl, o, hA1, c0, c1, c2, c3⟩ := (O1.out.gr gw).at_ hr
                obtain ⟨_, _, hA2, e0, e1, e2, e3⟩ := (O1.out.gr gw).at_ hs
                have hbl : bl < wr.heap.size := cell_lt (by rw [c0]; rfl)
                have hbb : bb < wr.heap.size := cell_lt (by rw [v0]; rfl)
                have hbf2 : bfl < wr.heap.size := by omega
                simp only [hA1, hA, hB4] at b0 b1 b2 b3 b6 hA2 g ⊢
                cases hA2
                have HED := hide (fun w' => edge_yes ⟨la, lb, lc, ld⟩ r w' hrb hed)
                have HWI := hide (fun w' => within_yes ⟨la, lb, lc, ld⟩ s w' hsb hwi)
                have hx1 := hrb.x; have hy1 := hrb.y; have hw1' := hrb.w; have hh1 := hrb.h
                have hbd : (-1000000 ≤ la ∧ la ≤ 1000000) ∧ (-1000000 ≤ lb ∧ lb ≤ 1000000) ∧ (-1000000 ≤ lc ∧ lc ≤ 1000000) ∧ -1000000 ≤ ld ∧ ld ≤ 1000000 := by
                  unfold edP at hed
                  simp only at hed
                  omega
                obtain ⟨⟨q1, q2⟩, ⟨q3, q4⟩, ⟨q5, q6⟩, q7, q8⟩ := hbd
                have s1 : IntKind.i64.wrap (lc - la) = lc - la := IntWalk.i64_in _ (by omega)
                have s2 : IntKind.i64.wrap (lc - la + ld) = lc - la + ld := IntWalk.i64_in _ (by omega)
                have s3' : IntKind.i64.wrap (lc - la + ld - lb) = lc - la + ld - lb := IntWalk.i64_in _ (by omega)
                have s4' : IntKind.i64.wrap (f.wd * 720) = f.wd * 720 := IntWalk.i64_in _ (by omega)
                have s5' : IntKind.i64.wrap ((n : Int) + 1) = (n : Int) + 1 := IntWalk.i64_in _ (by omega)
                have T1 : ((n : Int) != (n : Int)) = false := by simp
                have T2 : (lc - la + ld - lb != f.wd * 720) = false := by rw [bne_eq_false_iff_eq]; exact hline
                have T3 : decide ((m : Int) < 0) = false := by simp only [decide_eq_false_iff_not]; omega
                have T4 : decide ((n : Int) < (m : Int)) = false := by simp only [decide_eq_false_iff_not]; omega
                have T4' : decide (n < m) = false := by simp only [decide_eq_false_iff_not]; omega
                have hn0 : (0 : Int) ≤ (n : Int) := by omega
                have hn1 : (n : Int) < (p.fl.length : Int) := by omega
                have hn2 : (n : Int) + 1 < (p.fl.length : Int) + 1 := by omega
                have hn3 : ((n : Int) + 1).toNat = n + 1 := by omega
                have hn4 : (0 : Int) ≤ (n : Int) + 1 := by omega
                have hm0 : (0 : Int) ≤ (m : Int) := by omega
                have hm1 : (m : Int) < (p.fl.length : Int) + 1 := by omega
                clear hline hed hwi hrb hsb hb hr hs hf hm hp1 hp0 x0 x1 x2 x3 x4 x5 x6 q1 q2 q3 q4 q5 q6 q7 q8
                go_upto_region 22 with fail
                go_region
                all_goals
                  go_wp2_with fail
                  have GC := @GrW.cell
                  refine wp_region_grw _ (by kernel_rfl) (by kernel_rfl) (Gr.refl _) ?_
                  repeat (go_big_quiet_step ((first | (go_at_call 11; exact quiet_grw (HED.out _)) | (go_at_call 12; exact quiet_grw (HWI.out _)))))
                  refine wpQuiet_nil ?_
                  intro wq hwq
                  obtain ⟨gq, hwq'⟩ := hwq
                  subst hwq'
                  clear GC
                  have gq1 := gq.gr
                  generalize gq.w = wq at gq1 ⊢
                  obtain ⟨Xq, Yq, cq, fq⟩ := gq1.use
                  have sq := gq1.size
                  (try simp only [World.size_alloc, World.size_setCell, World.heap_drewN] at sq)
                  go_wp2
                  go_roundw
                  case rel => exact ⟨n + 1, by omega, by go_num, g.trans (by repeat (first | with_reducible exact Gr.refl _ | with_reducible assumption | with_reducible refine Gr.alloc ?_ _ | with_reducible refine Gr.drewN ?_ _ | with_reducible refine Gr.drew ?_ | with_reducible refine Gr.setCell ?_ (by first | (dsimp only; omega) | (simp only [World.size_alloc]; omega) | (with_reducible refine Gr.size ?_; (repeat (first | with_reducible exact Gr.refl _ | with_reducible assumption | with_reducible refine Gr.alloc ?_ _ | with_reducible refine Gr.drewN ?_ _ | with_reducible refine Gr.drew ?_ | with_reducible refine Gr.trans ?_ (by with_reducible assumption))); done)) _ | with_reducible refine Gr.trans ?_ (by with_reducible assumption)))⟩
                  case measure => simp only [intOf]; omega
              · as_aux_lemma =>
                obtain rfl : n = p.fl.length := by omega
                have hn1 : ¬ ((p.fl.length : Int) < (p.fl.length : Int)) := by omega
                have HB2 := hide (HBO.out _ A2 A3 d2 d3 (O2.out.gr gw) (O3.out.gr gw))
                clear HBN HBO
                go_wp2_with fail
                refine HB2.out.mono ?_
                rintro e w7 ⟨D, qq, rfl, hD, g7⟩
                have HD := hide hD
                have g47 := g.trans g7
                have nD := hD.cap
                have nD2 := hD.capB
                rw [List.length_append] at nD
                clear hD HB2 b0 b1 b2 b3 b6 g7 u0 gw gW
                go_wp2_with fail
                --LOOP4
                go_loopw [17] (fun iv' wr => ∃ n : Nat, n ≤ CL.length + FL.length ∧ iv' = iv n ∧ Gr w7 wr) (fun i _ => CL.length + FL.length - (intOf i).toNat)
                case atStart => exact ⟨0, by omega, rfl, Gr.refl _⟩
                case round =>
                  clear g
                  obtain ⟨n, hn, rfl, g⟩ := hrel
                  have g7o := g
                  have g4 := g47.trans g
                  obtain ⟨s7, b0, b1, b2, b3⟩ := RG.box4 g4
                  have gw : Gr w3 wr := gz.trans g4
                  have s5' : IntKind.i64.wrap ((n : Int) + 1) = (n : Int) + 1 := IntWalk.i64_in _ (by omega)
                  by_cases hnl : n < CL.length + FL.length
                  · as_aux_lemma =>
                    obtain ⟨z, hz⟩ : ∃ z, (CL ++ FL)[n]? = some z := ⟨_, List.getElem?_eq_getElem (by rw [List.length_append]; exact hnl)⟩
                    have HZ := hide hz
                    obtain ⟨k0, r0, hk0, hr0, hin, nw, nh⟩ := HHO.out z (List.mem_of_getElem? hz)
                    have HYE := hide (anyH_yes hk0 HLR.out (is_in hr0 hin nw nh))
                    have hx0 := hr0.x; have hy0 := hr0.y; have hw0 := hr0.w; have hh0 := hr0.h
                    obtain ⟨i1, i2, i3, i4⟩ := hin
                    have t1 : IntKind.i64.wrap (z.x - 1) = z.x - 1 := IntWalk.i64_in _ (by omega)
                    have t2 : IntKind.i64.wrap (z.y - 1) = z.y - 1 := IntWalk.i64_in _ (by omega)
                    have t3 : IntKind.i64.wrap (z.w + 2) = z.w + 2 := IntWalk.i64_in _ (by omega)
                    have t4 : IntKind.i64.wrap (z.h + 2) = z.h + 2 := IntWalk.i64_in _ (by omega)
                    have hn0 : (0 : Int) ≤ (n : Int) := by omega
                    have hn1 : (n : Int) < (CL.length : Int) + (FL.length : Int) := by omega
                    clear hz hk0 hr0 i1 i2 i3 i4 hx0 hy0 hw0 hh0 nw nh
                    go_wp2_with fail
                    obtain ⟨wo, rfl⟩ : ∃ wo : World, wo = wr := ⟨_, rfl⟩
                    --LOOP5
                    go_loopw [18, 19] (fun bv ov wr => ∃ o' : Nat, o' ≤ p.fl.length + 1 ∧ ov = iv o' ∧ bv = .bool (anyH RL z o') ∧ Gr wo wr) (fun _ i _ => p.fl.length + 1 - (intOf i).toNat)
                    case atStart => exact ⟨0, by omega, rfl, rfl, Gr.refl _⟩
                    case round =>
                      obtain ⟨o', ho, rfl, rfl, g⟩ := hrel
                      have gw2 : Gr w3 wr := gw.trans g
                      have c0 := (g.cell _ _ s7).trans b0
                      have s8 : w3.heap.size < wr.heap.size := Nat.lt_of_lt_of_le s7 g.size
                      by_cases hol : o' < p.fl.length + 1
                      · obtain ⟨u, hu⟩ : ∃ u, RL[o']? = some u := ⟨_, List.getElem?_eq_getElem (by have := HLR.out; omega)⟩
                        obtain ⟨bz, oz, hDz, z0, z1, z2, z3⟩ := (HD.out.gr (g7o.trans g)).at_ HZ.out
                        obtain ⟨bl, o, hA1, e0, e1, e2, e3⟩ := (O1.out.gr gw2).at_ hu
                        have hbl : bl < wr.heap.size := cell_lt (by rw [e0]; rfl)
                        have hbz : bz < wr.heap.size := cell_lt (by rw [z0]; rfl)
                        simp only [hA1, hDz] at c0 ⊢
                        have HI := hide (fun w' => R.Inside_any (z.x - 1) (z.y - 1) (z.w + 2) (z.h + 2) u.x u.y u.w u.h w')
                        have HAX := hide (anyH_succ (z := z) hu)
                        obtain ⟨bb, hbb⟩ : ∃ bb, R.isB (z.x - 1) (z.y - 1) (z.w + 2) (z.h + 2) u.x u.y u.w u.h = bb := ⟨_, rfl⟩
                        rw [hbb] at HI HAX
                        obtain ⟨ax, hax⟩ : ∃ ax, anyH RL z o' = ax := ⟨_, rfl⟩
                        rw [hax] at HAX ⊢
                        have ho0 : (0 : Int) ≤ (o' : Int) := by omega
                        have ho1 : (o' : Int) < (p.fl.length : Int) + 1 := by omega
                        clear hbb hax hu
                        cases ax
                        · go_wp2_with fail
                          have GC := @GrW.cell
                          refine wp_region_grw _ (by kernel_rfl) (by kernel_rfl) (Gr.refl _) ?_
                          repeat (go_big_quiet_step ((first | (go_at_call 14; exact quiet_grw (HI.out _)))))
                          refine wpQuiet_nil ?_
                          intro wq hwq
                          obtain ⟨gq, hwq'⟩ := hwq
                          subst hwq'
                          clear GC
                          have gq1 := gq.gr
                          generalize gq.w = wq at gq1 ⊢
                          obtain ⟨Xq, Yq, cq, fq⟩ := gq1.use
                          have sq := gq1.size
                          (try simp only [World.size_alloc, World.size_setCell, World.heap_drewN] at sq)
                          go_wp2
                          go_roundw
                          case rel => exact ⟨o' + 1, by omega, by go_num, by rw [HAX.out]; rfl, g.trans (by repeat (first | with_reducible exact Gr.refl _ | with_reducible assumption | with_reducible refine Gr.alloc ?_ _ | with_reducible refine Gr.drewN ?_ _ | with_reducible refine Gr.drew ?_ | with_reducible refine Gr.setCell ?_ (by first | (dsimp only; omega) | (simp only [World.size_alloc]; omega) | (with_reducible refine Gr.size ?_; (repeat (first | with_reducible exact Gr.refl _ | with_reducible assumption | with_reducible refine Gr.alloc ?_ _ | with_reducible refine Gr.drewN ?_ _ | with_reducible refine Gr.drew ?_ | with_reducible refine Gr.trans ?_ (by with_reducible assumption))); done)) _ | with_reducible refine Gr.trans ?_ (by with_reducible assumption)))⟩
                          case measure => simp only [intOf]; omega
                        · go_wp2_with fail
                          have GC := @GrW.cell
                          refine wp_region_grw _ (by kernel_rfl) (by kernel_rfl) (Gr.refl _) ?_
                          repeat (go_big_quiet_step ((first | (go_at_call 14; exact quiet_grw (HI.out _)))))
                          refine wpQuiet_nil ?_
                          intro wq hwq
                          obtain ⟨gq, hwq'⟩ := hwq
                          subst hwq'
                          clear GC
                          have gq1 := gq.gr
                          generalize gq.w = wq at gq1 ⊢
                          obtain ⟨Xq, Yq, cq, fq⟩ := gq1.use
                          have sq := gq1.size
                          (try simp only [World.size_alloc, World.size_setCell, World.heap_drewN] at sq)
                          go_wp2
                          go_roundw
                          case rel => exact ⟨o' + 1, by omega, by go_num, by rw [HAX.out]; rfl, g.trans (by repeat (first | with_reducible exact Gr.refl _ | with_reducible assumption | with_reducible refine Gr.alloc ?_ _ | with_reducible refine Gr.drewN ?_ _ | with_reducible refine Gr.drew ?_ | with_reducible refine Gr.setCell ?_ (by first | (dsimp only; omega) | (simp only [World.size_alloc]; omega) | (with_reducible refine Gr.size ?_; (repeat (first | with_reducible exact Gr.refl _ | with_reducible assumption | with_reducible refine Gr.alloc ?_ _ | with_reducible refine Gr.drewN ?_ _ | with_reducible refine Gr.drew ?_ | with_reducible refine Gr.trans ?_ (by with_reducible assumption))); done)) _ | with_reducible refine Gr.trans ?_ (by with_reducible assumption)))⟩
                          case measure => simp only [intOf]; omega
                      · obtain rfl : o' = p.fl.length + 1 := by omega
                        rw [HYE.out]
                        go_wp2
                        go_roundw
                        case rel => exact ⟨n + 1, by omega, by go_num, g7o.trans g⟩
                        case measure => simp only [intOf]; omega
                  · obtain rfl : n = CL.length + FL.length := by omega
                    have hn1 : ¬ ((CL.length : Int) + (FL.length : Int) < (CL.length : Int) + (FL.length : Int)) := by omega
                    go_wp2_with (first | (go_at_call 7; refine (known3_any _).mono ?_; rintro e w1 ⟨rfl, g1⟩; obtain ⟨X1, Y1, c1, f1⟩ := g1.use; have z1 := g1.size; (try simp only [World.size_alloc, World.size_setCell, World.heap_drewN, Nat.add_one_le_iff] at z1); (try have l0 : w.heap.size < w1.heap.size := by omega); (try have l1 : w.heap.size + 1 < w1.heap.size := by omega); (try have l2 : w.heap.size + 1 + 1 < w1.heap.size := by omega)))
                    go_ret
                    exact ⟨rfl, (gw3.trans gw).trans (by repeat (first | with_reducible exact Gr.refl _ | with_reducible assumption | with_reducible refine Gr.alloc ?_ _ | with_reducible refine Gr.drewN ?_ _ | with_reducible refine Gr.drew ?_ | with_reducible refine Gr.setCell ?_ (by first | (dsimp only; omega) | (simp only [World.size_alloc]; omega) | (with_reducible refine Gr.size ?_; (repeat (first | with_reducible exact Gr.refl _ | with_reducible assumption | with_reducible refine Gr.alloc ?_ _ | with_reducible refine Gr.drewN ?_ _ | with_reducible refine Gr.drew ?_ | with_reducible refine Gr.trans ?_ (by with_reducible assumption))); done)) _ | with_reducible refine Gr.trans ?_ (by with_reducible assumption)))⟩
end Go.Proofs.YtjnfodbniohkhaaGreat
set_option linter.unusedVariables false
set_option linter.unusedSimpArgs false
namespace Go.Proofs.YtjnfodbniohkhaaGreat
set_option linter.unusedVariables false
set_option linter.unusedSimpArgs false
open Go Go.ChangeShapes Go.WideShapes Go.ChangeAt Go.RowKit Go.Deep


set_option maxRecDepth 100000 in
theorem flatApart_spec : LawSpec Rows.flatApartSpec 2 := ⟨rfl, fun H ds h => by
  match ds, h with
  | [_, _], _ => rfl⟩
set_option maxRecDepth 100000 in
theorem flatApart_lifted (os : Os) (started : os.Started) (H : Type) (enc : TypeId × Value → H) :
    ReturnsInHanded {} Tryz.checked os 3 .any (Rows.flatApartSpec.pre6 enc Tryz.prog Tryz.f3 Rows.flatApartRow.domain false) (Rows.flatApartSpec.post enc Tryz.prog Tryz.f3 false true false false) := by
  refine returnsInHanded_of_change_sized (C := Tryz.checked) own started (by kernel_rfl) Tryz.func3
    (ChangeSpec.witness6 (enc := enc) (C := Tryz.checked) false ⟨#[], #[.agg #[.string ⟨#[]⟩, .string ⟨#[]⟩, .int .i64 0, .int .i64 0, .int .i64 0, .int .i64 0, .slice none 0 0, .slice none 0 0], .agg #[.string ⟨#[]⟩, .int .i64 0, .int .i64 0, .slice none 0 0]], []⟩ 8 (by kernel_rfl) (by kernel_rfl) (by kernel_rfl) (by kernel_rfl)) ?_
  intro W base args ds gs before hval0 hW _ hreach0 _
  have hreach : (DataW.weightsEach Tryz.prog (Tryz.f3.params.toList ++ Rows.flatApartSpec.plain.varTypes Tryz.prog) (ds ++ gs)).all (· ≤ reachBytes) = true := hreach0
  clear hreach0
  refine law_step (n := 2) flatApart_spec (by kernel_rfl) laidOut Tryz.underlying4 (by kernel_rfl) (by kernel_rfl) hW ?_
  have hval : ∀ (j : Nat) t v, Tryz.f3.params[j]? = some t → args[j]? = some v → Value.okWide Tryz.prog W .any base t v := hval0
  have hlt0 : ∀ x ∈ before, x.block < W.heap.size := fun x hx => hW.lt x hx
  obtain ⟨p, q, hA0, hV, rfl, hfz, hnd⟩ := hW
  have hA : DataW.TrodAll enc Tryz.prog W 0 (fun _ => true) true Tryz.f3.params.toList args.toList ds p := hA0
  rw [Tryz.params3] at hA hval
  obtain ⟨v0, vs0, d0, ds0, p0, q0, hargs, rfl, rfl, h0, r0⟩ := trodAll_cons hA
  obtain ⟨v1, vs1, d1, ds1, p1, q1, rfl, rfl, rfl, h1, r1⟩ := trodAll_cons r0
  obtain ⟨rfl, rfl, rfl⟩ := trodAll_nil r1
  obtain rfl : args = #[v0, v1] := by cases args; simp_all
  obtain ⟨p0, A0, c0, B0, e0, rfl, rF0, rH0, i0, n0, m0⟩ := open_part (hval 0 _ _ rfl rfl) h0
  obtain ⟨t0, C0, q0, rfl, r0', hs0, he0, hc0⟩ := open_tab (hval 1 _ _ rfl rfl) h1
  exact apart_walk p0 t0 A0 B0 C0 c0 e0 q0 W ⟨rF0, rH0, i0, n0, m0⟩ r0' hs0 hc0
theorem flatApart_holds : Rows.FlatApartSaid :=
  OpenClaim.holds_of_wide 3 Tryz.f3 rfl rfl rfl rfl rfl rfl rfl ⟨rfl, rfl, rfl, rfl, rfl⟩ rfl rfl rfl rfl rfl (by kernel_rfl) Tryz.func3 (by kernel_rfl)
    (of_decide_eq_true (by kernel_rfl)) (by unfold Func.isWrapper; rw [if_neg (of_decide_eq_false (by kernel_rfl))]; exact ⟨rfl, rfl⟩)
    (fun os started H enc _ => flatApart_lifted os started H enc)

end Go.Proofs.YtjnfodbniohkhaaGreat
