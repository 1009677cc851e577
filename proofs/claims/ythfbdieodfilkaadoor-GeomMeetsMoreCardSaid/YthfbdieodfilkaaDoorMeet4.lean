/-
  GeomMeetsMore: the walk.
-/
import Derived.Test.YthfbdieodfilkaaDoorMeet3
import Derived.Deep.RegionLaw
namespace Go.Proofs.YthfbdieodfilkaaDoor
set_option linter.unusedVariables false
set_option linter.unusedSimpArgs false
open Go Go.ChangeShapes Go.WideShapes Go.ChangeAt Go.RowKit Go.Deep

theorem addr_add' {b o n : Nat} : ((⟨b, o, none⟩ : Addr).add n) = ⟨b, o + n, none⟩ := by
  unfold Addr.add
  split
  · rename_i h; simp [h]
  · rfl
theorem copy_at (A : Option Addr) (c : Nat) (xs : List Pt) (w : World) (base : Nat) (hb : base ≤ w.heap.size) (hx : Rd w A xs) (lx : xs.length ≤ 1000000) :
    Calls Tryd.prog 13 #[.slice A xs.length c] w fun e w' => ∃ v, e = .returned v ∧ Own w' base v xs ∧ Gr w w' :=
  (copyPoints_any A c xs w hx lx).mono fun e w' ⟨v, he, ho, g⟩ => by
    refine ⟨v, he, ⟨ho.1, ho.2.imp id ?_⟩, g⟩
    rintro ⟨k, cap, cur, e, hb', h⟩
    exact ⟨k, cap, cur, e, Nat.le_trans hb hb', h⟩
theorem own_more {w : World} {base g cap : Nat} {xs : List Pt} {p : Pt} (h : w.ownsRow base 33 4 (.slice (some ⟨g, 0, none⟩) (xs.length + 1) cap) (xs.length + 1) (flat xs ++ cellsOfPt p)) : Rd w (some ⟨g, 0, none⟩) (xs ++ [p]) := by
  have h' : Own w base (.slice (some ⟨g, 0, none⟩) (xs ++ [p]).length cap) (xs ++ [p]) := by
    unfold Own
    rw [flat_snoc, List.length_append]
    exact h
  exact (Own.rd h').2
theorem rd_one (w : World) (a b c d : Int) : Rd (w.alloc (.cells #[iv a, iv b, iv c, iv d] 33)) (some ⟨w.heap.size, 0, none⟩) [(a, b, c, d)] := by
  intro i p hp
  match i with
  | 0 =>
    simp at hp
    subst hp
    exact ⟨w.heap.size, 0, rfl, by simp [go_sem], by simp [go_sem], by simp [go_sem], by simp [go_sem]⟩
  | i + 1 => simp at hp
theorem new4_gr {a b : World} (p : Pt) (g : Gr (a.alloc (.cells #[iv p.1, iv p.2.1, iv p.2.2.1, iv p.2.2.2] 33)) b) : ∀ j u, (cellsOfPt p)[j]? = some u → b.cell? ((⟨a.heap.size, 0, none⟩ : Addr).add j) = some u := by
  intro j u hu
  have h := cells_new4 a p j u hu
  rw [addr_add'] at h ⊢
  rw [g.cell _ _ (cell_lt (by rw [h]; rfl))]
  exact h
set_option maxHeartbeats 4000000 in
set_option maxRecDepth 100000 in
theorem more_yes (A B : Option Addr) (c d : Nat) (xs ys : List Pt) (p : Pt) (x : Bool) (w : World) (ht : Tab w) (hx : Rd w A xs) (hy : Rd w B ys) (h0 : MeetsRes xs ys x 0) :
    Calls Tryd.prog 6 #[.slice A xs.length c, .slice B ys.length d, pv p] w fun x w' => x = .returned (.bool true) ∧ Gr w w' := by
  obtain ⟨i0, hi0, hz0, hz1, hz2⟩ := info_parts infoPt
  obtain ⟨h1, h2, _⟩ := h0.zero
  obtain ⟨a1, a2, a3⟩ := ckP_zero h1
  obtain ⟨b1, b2, b3⟩ := ckP_zero h2
  clear a3 b3
  have hdl : decide (60 < xs.length) = false := by simp; omega
  have hdl2 : decide (60 < ys.length) = false := by simp; omega
  obtain ⟨bk, k1, hb⟩ := MeetsRes.ex ys xs
  obtain ⟨mo, k2, hm⟩ := MeetsRes.ex (xs ++ [p]) ys
  obtain ⟨on, k3, hn⟩ := MeetsRes.ex [p] ys
  have HX := hide hx
  have HY := hide hy
  have HT := hide ht
  have H0 := hide h0
  have HB := hide hb
  have HM := hide hm
  have HN := hide hn
  have hcon : ∀ w', Gr w w' → Calls Tryd.prog 14 #[.slice A xs.length c] w' fun e w'' => ∃ A1 c1 hs, e = .returned (.tuple #[.slice A1 hs.length c1, iv 0]) ∧ Rd w'' A1 hs ∧ hs.length ≤ 1000000 ∧ Gr w' w'' ∧ MeetsRes hs ys x 0 := fun w' gw =>
    (Hull_any A c xs w' (HX.out.gr gw) (by omega)).mono fun e w'' ⟨v, hs, he, ho, g, hr⟩ => by
      obtain ⟨A1, c1, rfl⟩ := ho.slice
      refine ⟨A1, c1, hs, by rw [he, h1], (Own.rd ho).2, ?_, g, more_hull H0.out hr⟩
      have := (hr.again h1).2.2.2
      omega
  have HCON := hide hcon
  clear hcon hx hy ht h0 hb hm hn h1 h2
  obtain ⟨pa, pb, pc, pd⟩ := p
  go_enter Tryd.func6, Tryd.ntmps6
  go_wp2_with (go_at_call 11; refine (long_any _ _ _ _).mono ?_; rintro e w1 ⟨rfl, rfl⟩)
  refine (Meets_at H0.out A B c d _ (HX.out.gr (by repeat (first | with_reducible exact Gr.refl _ | with_reducible assumption | with_reducible refine Gr.alloc ?_ _ | with_reducible refine Gr.drewN ?_ _ | with_reducible refine Gr.drew ?_ | with_reducible refine Gr.setCell ?_ (by first | (dsimp only; omega) | (simp only [World.size_alloc]; omega) | (with_reducible refine Gr.size ?_; (repeat (first | with_reducible exact Gr.refl _ | with_reducible assumption | with_reducible refine Gr.alloc ?_ _ | with_reducible refine Gr.drewN ?_ _ | with_reducible refine Gr.drew ?_ | with_reducible refine Gr.trans ?_ (by with_reducible assumption))); done)) _ | with_reducible refine Gr.trans ?_ (by with_reducible assumption)))) (HY.out.gr (by repeat (first | with_reducible exact Gr.refl _ | with_reducible assumption | with_reducible refine Gr.alloc ?_ _ | with_reducible refine Gr.drewN ?_ _ | with_reducible refine Gr.drew ?_ | with_reducible refine Gr.setCell ?_ (by first | (dsimp only; omega) | (simp only [World.size_alloc]; omega) | (with_reducible refine Gr.size ?_; (repeat (first | with_reducible exact Gr.refl _ | with_reducible assumption | with_reducible refine Gr.alloc ?_ _ | with_reducible refine Gr.drewN ?_ _ | with_reducible refine Gr.drew ?_ | with_reducible refine Gr.trans ?_ (by with_reducible assumption))); done)) _ | with_reducible refine Gr.trans ?_ (by with_reducible assumption)))) (by omega) (by omega)).mono ?_
  rintro e w1 ⟨rfl, g1⟩
  go_wp2_with fail
  refine (HCON.out _ (by repeat (first | with_reducible exact Gr.refl _ | with_reducible assumption | with_reducible refine Gr.alloc ?_ _ | with_reducible refine Gr.drewN ?_ _ | with_reducible refine Gr.drew ?_ | with_reducible refine Gr.setCell ?_ (by first | (dsimp only; omega) | (simp only [World.size_alloc]; omega) | (with_reducible refine Gr.size ?_; (repeat (first | with_reducible exact Gr.refl _ | with_reducible assumption | with_reducible refine Gr.alloc ?_ _ | with_reducible refine Gr.drewN ?_ _ | with_reducible refine Gr.drew ?_ | with_reducible refine Gr.trans ?_ (by with_reducible assumption))); done)) _ | with_reducible refine Gr.trans ?_ (by with_reducible assumption)))).mono ?_
  rintro e w2 ⟨A1, c1, hs, rfl, hrh, hlh, g2, h3⟩
  have HRH := hide hrh
  have H3 := hide h3
  clear hrh h3
  go_wp2_with fail
  refine (Meets_at H3.out A1 B c1 d _ (HRH.out.gr (by repeat (first | with_reducible exact Gr.refl _ | with_reducible assumption | with_reducible refine Gr.alloc ?_ _ | with_reducible refine Gr.drewN ?_ _ | with_reducible refine Gr.drew ?_ | with_reducible refine Gr.setCell ?_ (by first | (dsimp only; omega) | (simp only [World.size_alloc]; omega) | (with_reducible refine Gr.size ?_; (repeat (first | with_reducible exact Gr.refl _ | with_reducible assumption | with_reducible refine Gr.alloc ?_ _ | with_reducible refine Gr.drewN ?_ _ | with_reducible refine Gr.drew ?_ | with_reducible refine Gr.trans ?_ (by with_reducible assumption))); done)) _ | with_reducible refine Gr.trans ?_ (by with_reducible assumption)))) (HY.out.gr (by repeat (first | with_reducible exact Gr.refl _ | with_reducible assumption | with_reducible refine Gr.alloc ?_ _ | with_reducible refine Gr.drewN ?_ _ | with_reducible refine Gr.drew ?_ | with_reducible refine Gr.setCell ?_ (by first | (dsimp only; omega) | (simp only [World.size_alloc]; omega) | (with_reducible refine Gr.size ?_; (repeat (first | with_reducible exact Gr.refl _ | with_reducible assumption | with_reducible refine Gr.alloc ?_ _ | with_reducible refine Gr.drewN ?_ _ | with_reducible refine Gr.drew ?_ | with_reducible refine Gr.trans ?_ (by with_reducible assumption))); done)) _ | with_reducible refine Gr.trans ?_ (by with_reducible assumption)))) hlh (by omega)).mono ?_
  rintro e w3 ⟨rfl, g3⟩
  have hxx : (x != x) = false := by simp
  go_wp2_with fail
  refine (Meets_at HB.out B A d c _ (HY.out.gr (by repeat (first | with_reducible exact Gr.refl _ | with_reducible assumption | with_reducible refine Gr.alloc ?_ _ | with_reducible refine Gr.drewN ?_ _ | with_reducible refine Gr.drew ?_ | with_reducible refine Gr.setCell ?_ (by first | (dsimp only; omega) | (simp only [World.size_alloc]; omega) | (with_reducible refine Gr.size ?_; (repeat (first | with_reducible exact Gr.refl _ | with_reducible assumption | with_reducible refine Gr.alloc ?_ _ | with_reducible refine Gr.drewN ?_ _ | with_reducible refine Gr.drew ?_ | with_reducible refine Gr.trans ?_ (by with_reducible assumption))); done)) _ | with_reducible refine Gr.trans ?_ (by with_reducible assumption)))) (HX.out.gr (by repeat (first | with_reducible exact Gr.refl _ | with_reducible assumption | with_reducible refine Gr.alloc ?_ _ | with_reducible refine Gr.drewN ?_ _ | with_reducible refine Gr.drew ?_ | with_reducible refine Gr.setCell ?_ (by first | (dsimp only; omega) | (simp only [World.size_alloc]; omega) | (with_reducible refine Gr.size ?_; (repeat (first | with_reducible exact Gr.refl _ | with_reducible assumption | with_reducible refine Gr.alloc ?_ _ | with_reducible refine Gr.drewN ?_ _ | with_reducible refine Gr.drew ?_ | with_reducible refine Gr.trans ?_ (by with_reducible assumption))); done)) _ | with_reducible refine Gr.trans ?_ (by with_reducible assumption)))) (by omega) (by omega)).mono ?_
  rintro e w4 ⟨rfl, g4⟩
  have g04 : Gr (w.alloc (.cells #[iv pa, iv pb, iv pc, iv pd] 33)) w4 := (by repeat (first | with_reducible exact Gr.refl _ | with_reducible assumption | with_reducible refine Gr.alloc ?_ _ | with_reducible refine Gr.drewN ?_ _ | with_reducible refine Gr.drew ?_ | with_reducible refine Gr.setCell ?_ (by first | (dsimp only; omega) | (simp only [World.size_alloc]; omega) | (with_reducible refine Gr.size ?_; (repeat (first | with_reducible exact Gr.refl _ | with_reducible assumption | with_reducible refine Gr.alloc ?_ _ | with_reducible refine Gr.drewN ?_ _ | with_reducible refine Gr.drew ?_ | with_reducible refine Gr.trans ?_ (by with_reducible assumption))); done)) _ | with_reducible refine Gr.trans ?_ (by with_reducible assumption)))
  obtain ⟨X4, Y4, c4, f4⟩ := g04.use
  have z4 := g04.size
  simp only [World.size_alloc] at z4
  have l4 : w.heap.size < w4.heap.size := by omega
  have gw4 : Gr w w4 := (Gr.alloc (Gr.refl w) _).trans g04
  have d0 : w4.cell? ⟨w.heap.size, 0, none⟩ = some (iv pa) := by rw [c4]; simp [go_sem]
  have d1 : w4.cell? ⟨w.heap.size, 1, none⟩ = some (iv pb) := by rw [c4]; simp [go_sem]
  have d2 : w4.cell? ⟨w.heap.size, 2, none⟩ = some (iv pc) := by rw [c4]; simp [go_sem]
  have d3 : w4.cell? ⟨w.heap.size, 3, none⟩ = some (iv pd) := by rw [c4]; simp [go_sem]
  clear c4 f4 z4 g04 g1 g2 g3 g4
  have C2 : Hid (∀ u ∈ cellsOfPt (pa, pb, pc, pd), u.oneCell' = true) := by intro u hu; simp at hu; rcases hu with rfl | rfl | rfl | rfl <;> rfl
  have C3 : Hid (xs.length + 1 ≤ maxLen) := by unfold Hid maxLen; omega
  have C4 : Hid ((xs.length + 1) * 32 ≤ 140737488355328) := by unfold Hid; omega
  have hmc : ∀ g cap w', Rd w' (some ⟨g, 0, none⟩) (xs ++ [(pa, pb, pc, pd)]) → Gr w w' → Calls Tryd.prog 18 #[.slice (some ⟨g, 0, none⟩) (xs.length + 1) cap, .slice B ys.length d] w' fun e w'' => e = .returned (.tuple #[.bool mo, iv k2]) ∧ Gr w' w'' := fun g cap w' hr gw => by
    have := Meets_at HM.out (some ⟨g, 0, none⟩) B cap d w' hr (HY.out.gr gw) (by simp; omega) (by omega)
    rw [List.length_append] at this
    exact this
  have hnc : ∀ wz, Gr w wz → Calls Tryd.prog 18 #[.slice (some ⟨wz.heap.size, 0, none⟩) 1 1, .slice B ys.length d] (wz.alloc (.cells #[iv pa, iv pb, iv pc, iv pd] 33)) fun e w'' => e = .returned (.tuple #[.bool on, iv k3]) ∧ Gr (wz.alloc (.cells #[iv pa, iv pb, iv pc, iv pd] 33)) w'' := fun wz gw =>
    Meets_at HN.out (some ⟨wz.heap.size, 0, none⟩) B 1 d _ (rd_one wz pa pb pc pd) (HY.out.gr (gw.alloc _)) (by simp) (by omega)
  have HMC := hide hmc
  have HNC := hide hnc
  have key2 : k2 = 0 → x = true → mo = true := fun e => by have := HM.out; rw [e] at this; exact more_of H0.out this (fun q hq => List.mem_append_left _ hq)
  have key3 : k3 = 0 → on = true → xs.length < 24 → mo = true := fun e e' hl => by have := HN.out; rw [e, e'] at this; exact more_one H0.out this hl HM.out
  have HK2 := hide key2
  have HK3 := hide key3
  clear hmc hnc key2 key3
  have key : ∀ k bk, MeetsRes ys xs bk k → k = 0 → bk = x := fun k bk h e => by subst e; exact more_back H0.out h
  have HKEY := hide (key k1 bk HB.out)
  clear key
  by_cases ek : k1 = 0
  all_goals
    first
    | (obtain rfl : x = bk := (HKEY.out ek).symm
       subst ek)
    | (have ekb : (k1 == 0) = false := by simp [ek])
    go_upto_region 13 with fail
    go_region_held3 (fun w' => Gr (w4) w' ∧ ∀ ii oo, ii < (w4).heap.size → w'.cell? ⟨ii, oo, none⟩ = (w4).cell? ⟨ii, oo, none⟩) ((refine And.intro ?_ (Gr.cell ?_) <;> ((repeat (first | with_reducible exact Gr.refl _ | with_reducible assumption | with_reducible refine Gr.alloc ?_ _ | with_reducible refine Gr.drewN ?_ _ | with_reducible refine Gr.drew ?_ | with_reducible refine Gr.setCell ?_ (by first | (dsimp only; omega) | (simp only [World.size_alloc]; omega) | (with_reducible refine Gr.size ?_; (repeat (first | with_reducible exact Gr.refl _ | with_reducible assumption | with_reducible refine Gr.alloc ?_ _ | with_reducible refine Gr.drewN ?_ _ | with_reducible refine Gr.drew ?_ | with_reducible refine Gr.trans ?_ (by with_reducible assumption))); done)) _ | with_reducible refine Gr.trans ?_ (by with_reducible assumption))); done)))
      (first
        | (refine step_append_lies _ (by rfl) _ _ _ (by rfl) w4.heap.size 33 i0 _ 4 32 Tryd.underlying22 hi0 hz0 hz1 hz2 rfl (by omega) v5 xs.length (flat xs) (by rfl) (by first | exact HO.out | exact World.ownsRow.alloc HO.out _ | exact World.ownsRow.drew HO.out | exact World.ownsRow.alloc (World.ownsRow.drew HO.out) _) _ 1 1 (cellsOfPt (pa, pb, pc, pd)) (by rfl) (by rfl) (by first | exact cells_new4 _ (pa, pb, pc, pd) | exact new4_gr (pa, pb, pc, pd) (by repeat (first | with_reducible exact Gr.refl _ | with_reducible assumption | with_reducible refine Gr.alloc ?_ _ | with_reducible refine Gr.drewN ?_ _ | with_reducible refine Gr.drew ?_ | with_reducible refine Gr.setCell ?_ (by first | (dsimp only; omega) | (simp only [World.size_alloc]; omega) | (with_reducible refine Gr.size ?_; (repeat (first | with_reducible exact Gr.refl _ | with_reducible assumption | with_reducible refine Gr.alloc ?_ _ | with_reducible refine Gr.drewN ?_ _ | with_reducible refine Gr.drew ?_ | with_reducible refine Gr.trans ?_ (by with_reducible assumption))); done)) _ | with_reducible refine Gr.trans ?_ (by with_reducible assumption)))) C2.out (by omega) C3.out C4.out (Gr.size (by repeat (first | with_reducible exact Gr.refl _ | with_reducible assumption | with_reducible refine Gr.alloc ?_ _ | with_reducible refine Gr.drewN ?_ _ | with_reducible refine Gr.drew ?_ | with_reducible refine Gr.setCell ?_ (by first | (dsimp only; omega) | (simp only [World.size_alloc]; omega) | (with_reducible refine Gr.size ?_; (repeat (first | with_reducible exact Gr.refl _ | with_reducible assumption | with_reducible refine Gr.alloc ?_ _ | with_reducible refine Gr.drewN ?_ _ | with_reducible refine Gr.drew ?_ | with_reducible refine Gr.trans ?_ (by with_reducible assumption))); done)) _ | with_reducible refine Gr.trans ?_ (by with_reducible assumption)))) _ rfl ?_; intro gg cap1 w6 hown6 hgrow hat hlt; (have HR6 := hide (own_more hown6)); (have HGR := hide hgrow); have gg6 : Gr w4 w6 := Gr.grown (by repeat (first | with_reducible exact Gr.refl _ | with_reducible assumption | with_reducible refine Gr.alloc ?_ _ | with_reducible refine Gr.drewN ?_ _ | with_reducible refine Gr.drew ?_ | with_reducible refine Gr.setCell ?_ (by first | (dsimp only; omega) | (simp only [World.size_alloc]; omega) | (with_reducible refine Gr.size ?_; (repeat (first | with_reducible exact Gr.refl _ | with_reducible assumption | with_reducible refine Gr.alloc ?_ _ | with_reducible refine Gr.drewN ?_ _ | with_reducible refine Gr.drew ?_ | with_reducible refine Gr.trans ?_ (by with_reducible assumption))); done)) _ | with_reducible refine Gr.trans ?_ (by with_reducible assumption))) hgrow (fun k hk => (World.ownsRow.lt HO.out k hk).1); clear hown6 hgrow hat)
        | (go_at_call 13; refine (copy_at A c xs _ w4.heap.size (Gr.size (by repeat (first | with_reducible exact Gr.refl _ | with_reducible assumption | with_reducible refine Gr.alloc ?_ _ | with_reducible refine Gr.drewN ?_ _ | with_reducible refine Gr.drew ?_ | with_reducible refine Gr.setCell ?_ (by first | (dsimp only; omega) | (simp only [World.size_alloc]; omega) | (with_reducible refine Gr.size ?_; (repeat (first | with_reducible exact Gr.refl _ | with_reducible assumption | with_reducible refine Gr.alloc ?_ _ | with_reducible refine Gr.drewN ?_ _ | with_reducible refine Gr.drew ?_ | with_reducible refine Gr.trans ?_ (by with_reducible assumption))); done)) _ | with_reducible refine Gr.trans ?_ (by with_reducible assumption)))) (HX.out.gr (by repeat (first | with_reducible exact Gr.refl _ | with_reducible assumption | with_reducible refine Gr.alloc ?_ _ | with_reducible refine Gr.drewN ?_ _ | with_reducible refine Gr.drew ?_ | with_reducible refine Gr.setCell ?_ (by first | (dsimp only; omega) | (simp only [World.size_alloc]; omega) | (with_reducible refine Gr.size ?_; (repeat (first | with_reducible exact Gr.refl _ | with_reducible assumption | with_reducible refine Gr.alloc ?_ _ | with_reducible refine Gr.drewN ?_ _ | with_reducible refine Gr.drew ?_ | with_reducible refine Gr.trans ?_ (by with_reducible assumption))); done)) _ | with_reducible refine Gr.trans ?_ (by with_reducible assumption)))) (by omega)).mono ?_; rintro e w5 ⟨v5, rfl, ho, g5⟩; (have HO := hide ho); clear ho; (have z5 := g5.size); (try simp only [World.size_alloc, World.heap_drewN] at z5); obtain ⟨X5, Y5, c5, f5⟩ := g5.use)
        | (go_at_call 18; refine (HMC.out _ _ _ HR6.out (by repeat (first | with_reducible exact Gr.refl _ | with_reducible assumption | with_reducible refine Gr.alloc ?_ _ | with_reducible refine Gr.drewN ?_ _ | with_reducible refine Gr.drew ?_ | with_reducible refine Gr.setCell ?_ (by first | (dsimp only; omega) | (simp only [World.size_alloc]; omega) | (with_reducible refine Gr.size ?_; (repeat (first | with_reducible exact Gr.refl _ | with_reducible assumption | with_reducible refine Gr.alloc ?_ _ | with_reducible refine Gr.drewN ?_ _ | with_reducible refine Gr.drew ?_ | with_reducible refine Gr.trans ?_ (by with_reducible assumption))); done)) _ | with_reducible refine Gr.trans ?_ (by with_reducible assumption)))).mono ?_; rintro e w7 ⟨rfl, g7⟩; obtain ⟨X7, Y7, c7, f7⟩ := g7.use))
    all_goals
      rename_i hHeld
      clear hHeld
      have G7 : Gr w4 w7 := gg6.trans g7
      have e0 := (G7.cell _ 0 l4).trans d0
      have e1 := (G7.cell _ 1 l4).trans d1
      have e2 := (G7.cell _ 2 l4).trans d2
      have e3 := (G7.cell _ 3 l4).trans d3
      have l7 : w.heap.size < w7.heap.size := Nat.lt_of_lt_of_le l4 G7.size
      have gw7 : Gr w w7 := gw4.trans G7
      clear c7 f7 c5 f5 d0 d1 d2 d3 g7 gg6 G7 g5 hlt HGR HR6 HO z5 gw4 l4
      have fin : k3 ≠ 0 ∨ (k3 = 0 ∧ on = false) ∨ (k3 = 0 ∧ on = true ∧ mo = true) ∨ (k3 = 0 ∧ on = true ∧ 24 ≤ xs.length) := by
        by_cases n3 : k3 = 0
        · cases ho : on
          · exact .inr (.inl ⟨n3, rfl⟩)
          · by_cases hl : xs.length < 24
            · exact .inr (.inr (.inl ⟨n3, rfl, HK3.out n3 ho hl⟩))
            · exact .inr (.inr (.inr ⟨n3, rfl, by omega⟩))
        · exact .inl n3
      have go2 : k2 ≠ 0 ∨ (k2 = 0 ∧ x = false) ∨ (k2 = 0 ∧ x = true ∧ mo = true) := by
        by_cases n2 : k2 = 0
        · cases hx : x
          · exact .inr (.inl ⟨n2, rfl⟩)
          · exact .inr (.inr ⟨n2, rfl, HK2.out n2 hx⟩)
        · exact .inl n2
      clear HK2 HK3 HM HN HMC HB H0 H3 HKEY HCON hi0 hz0 hz1 hz2 hxx
      rcases go2 with n2 | ⟨rfl, rfl⟩ | ⟨rfl, rfl, rfl⟩
      all_goals
        (try have ek2 : (k2 == 0) = false := by simp [n2])
        go_wp2_with fail
        refine (HNC.out _ gw7).mono ?_
        rintro e w8 ⟨rfl, g8⟩
        have gw8 : Gr w w8 := (gw7.alloc _).trans g8
        rcases fin with n3 | ⟨rfl, rfl⟩ | ⟨rfl, rfl, h5⟩ | ⟨rfl, rfl, h5⟩
        all_goals
          (try have ek3 : (k3 != 0) = true := by simp [n3])
          (try subst h5)
          (try have h5' : (24 : Int) ≤ (xs.length : Int) := by omega)
          go_wp2_with (go_at_call 12; refine (known_any _ (HT.out.gr (by repeat (first | with_reducible exact Gr.refl _ | with_reducible assumption | with_reducible refine Gr.alloc ?_ _ | with_reducible refine Gr.drewN ?_ _ | with_reducible refine Gr.drew ?_ | with_reducible refine Gr.setCell ?_ (by first | (dsimp only; omega) | (simp only [World.size_alloc]; omega) | (with_reducible refine Gr.size ?_; (repeat (first | with_reducible exact Gr.refl _ | with_reducible assumption | with_reducible refine Gr.alloc ?_ _ | with_reducible refine Gr.drewN ?_ _ | with_reducible refine Gr.drew ?_ | with_reducible refine Gr.trans ?_ (by with_reducible assumption))); done)) _ | with_reducible refine Gr.trans ?_ (by with_reducible assumption))))).mono ?_; rintro e w1 ⟨rfl, g1⟩; obtain ⟨X1, Y1, c1, f1⟩ := g1.use; have z1 := g1.size; (try simp only [World.size_alloc, World.size_setCell, World.heap_drewN, Nat.add_one_le_iff] at z1); (try have l0 : w.heap.size < w1.heap.size := by omega); (try have l1 : w.heap.size + 1 < w1.heap.size := by omega); (try have l2 : w.heap.size + 1 + 1 < w1.heap.size := by omega))
          all_goals
            go_ret
            exact ⟨rfl, (by repeat (first | with_reducible exact Gr.refl _ | with_reducible assumption | with_reducible refine Gr.alloc ?_ _ | with_reducible refine Gr.drewN ?_ _ | with_reducible refine Gr.drew ?_ | with_reducible refine Gr.setCell ?_ (by first | (dsimp only; omega) | (simp only [World.size_alloc]; omega) | (with_reducible refine Gr.size ?_; (repeat (first | with_reducible exact Gr.refl _ | with_reducible assumption | with_reducible refine Gr.alloc ?_ _ | with_reducible refine Gr.drewN ?_ _ | with_reducible refine Gr.drew ?_ | with_reducible refine Gr.trans ?_ (by with_reducible assumption))); done)) _ | with_reducible refine Gr.trans ?_ (by with_reducible assumption)))⟩
end Go.Proofs.YthfbdieodfilkaaDoor
