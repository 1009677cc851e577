/-
  The reference's Hull; GeomHulls: the walk.
-/
import Derived.Test.YtegehdidfmcflaaDoorWrap3
set_option linter.unusedVariables false
set_option linter.unusedSimpArgs false
namespace Go.Proofs.YtegehdidfmcflaaDoor
set_option linter.unusedVariables false
set_option linter.unusedSimpArgs false
open Go Go.ChangeShapes Go.WideShapes Go.ChangeAt Go.RowKit Go.Deep

def anyBad (xs : List Pt) : Bool := xs.any fun p => !pB p
theorem ckP_bad {xs : List Pt} (h : badLen xs.length = true) : ckP xs = 1 := by
  unfold ckP ckE
  simp [h]
theorem ckP_any {xs : List Pt} (h : badLen xs.length = false) (k : anyBad xs = true) : ckP xs = 4 := by
  unfold anyBad at k
  unfold ckP ckE
  simp only [List.any_cons, List.any_nil, Bool.or_false]
  rw [h, k]
  rfl
theorem ckP_ok {xs : List Pt} (h : badLen xs.length = false) (k : anyBad xs = false) : ckP xs = 0 := by
  unfold anyBad at k
  unfold ckP ckE
  simp only [List.any_cons, List.any_nil, Bool.or_false]
  rw [h, k]
  rfl
theorem rpointsIn_any (A : Option Addr) (n c : Nat) (w : World) (hn : n ≤ 1000000) :
    Calls Tryd.prog 17 #[.slice A n c] w fun e w' => e = .returned (iv (if badLen n then 1 else 0)) ∧ Gr w w' := by
  by_cases h0 : n = 0
  · subst h0
    rw [show badLen 0 = true from rfl]
    go_enter Tryd.func17, Tryd.ntmps17
    go_wp2
    go_ret
    exact ⟨rfl, (by repeat (first | with_reducible exact Gr.refl _ | with_reducible assumption | with_reducible refine Gr.alloc ?_ _ | with_reducible refine Gr.drewN ?_ _ | with_reducible refine Gr.drew ?_ | with_reducible refine Gr.setCell ?_ (by first | (dsimp only; omega) | (simp only [World.size_alloc]; omega) | (with_reducible refine Gr.size ?_; (repeat (first | with_reducible exact Gr.refl _ | with_reducible assumption | with_reducible refine Gr.alloc ?_ _ | with_reducible refine Gr.drewN ?_ _ | with_reducible refine Gr.drew ?_ | with_reducible refine Gr.trans ?_ (by with_reducible assumption))); done)) _ | with_reducible refine Gr.trans ?_ (by with_reducible assumption)))⟩
  · have hz : ((n : Int) == 0) = false := by rw [beq_eq_false_iff_ne]; omega
    by_cases h1 : 24 < n
    · rw [show badLen n = true by unfold badLen; simp; omega]
      have h2 : (24 : Int) < (n : Int) := by omega
      go_enter Tryd.func17, Tryd.ntmps17
      go_wp2
      go_ret
      exact ⟨rfl, (by repeat (first | with_reducible exact Gr.refl _ | with_reducible assumption | with_reducible refine Gr.alloc ?_ _ | with_reducible refine Gr.drewN ?_ _ | with_reducible refine Gr.drew ?_ | with_reducible refine Gr.setCell ?_ (by first | (dsimp only; omega) | (simp only [World.size_alloc]; omega) | (with_reducible refine Gr.size ?_; (repeat (first | with_reducible exact Gr.refl _ | with_reducible assumption | with_reducible refine Gr.alloc ?_ _ | with_reducible refine Gr.drewN ?_ _ | with_reducible refine Gr.drew ?_ | with_reducible refine Gr.trans ?_ (by with_reducible assumption))); done)) _ | with_reducible refine Gr.trans ?_ (by with_reducible assumption)))⟩
    · rw [show badLen n = false by unfold badLen; simp; omega]
      have h2 : ¬ (24 : Int) < (n : Int) := by omega
      go_enter Tryd.func17, Tryd.ntmps17
      go_wp2
      go_ret
      exact ⟨rfl, (by repeat (first | with_reducible exact Gr.refl _ | with_reducible assumption | with_reducible refine Gr.alloc ?_ _ | with_reducible refine Gr.drewN ?_ _ | with_reducible refine Gr.drew ?_ | with_reducible refine Gr.setCell ?_ (by first | (dsimp only; omega) | (simp only [World.size_alloc]; omega) | (with_reducible refine Gr.size ?_; (repeat (first | with_reducible exact Gr.refl _ | with_reducible assumption | with_reducible refine Gr.alloc ?_ _ | with_reducible refine Gr.drewN ?_ _ | with_reducible refine Gr.drew ?_ | with_reducible refine Gr.trans ?_ (by with_reducible assumption))); done)) _ | with_reducible refine Gr.trans ?_ (by with_reducible assumption)))⟩
set_option maxHeartbeats 2000000 in
set_option maxRecDepth 100000 in
theorem rallSmall_any (A : Option Addr) (c : Nat) (xs : List Pt) (w : World) (hx : Rd w A xs) (lx : xs.length ≤ 1000000) :
    Calls Tryd.prog 18 #[.slice A xs.length c] w fun e w' => e = .returned (.bool (!(anyBad xs))) ∧ Gr w w' := by
  have HX := hide hx
  clear hx
  go_enter Tryd.func18, Tryd.ntmps18
  go_wp2
  go_loopw [3] (fun i wr => ∃ k : Nat, k ≤ xs.length ∧ i = iv k ∧ Gr w wr ∧ Hid (∀ i p, i < k → xs[i]? = some p → pB p = true)) (fun i _ => xs.length - (intOf i).toNat)
  case atStart => exact ⟨0, by omega, rfl, Gr.refl _, hide (fun i p hi => absurd hi (Nat.not_lt_zero i))⟩
  case round =>
    obtain ⟨k, hk, rfl, g, HS⟩ := hrel
    by_cases hkl : k < xs.length
    · obtain ⟨p, hp⟩ : ∃ p, xs[k]? = some p := ⟨_, List.getElem?_eq_getElem hkl⟩
      obtain ⟨b, off, rfl, x0, x1, x2, x3⟩ := (HX.out.gr g) k p hp
      have hb : b < wr.heap.size := cell_lt (by rw [x0]; rfl)
      have hk0 : (0 : Int) ≤ (k : Int) := by omega
      have hk1 : (k : Int) < (xs.length : Int) := by omega
      have HPT := hide hp
      have HC := hide (fun w' => rpointIn_any p.1 p.2.1 p.2.2.1 p.2.2.2 w')
      rw [show pinB p.1 p.2.1 p.2.2.1 p.2.2.2 = pB p from rfl] at HC
      clear hp
      cases hv : pB p with
      | true =>
        have HS' := hide (show ∀ i q, i < k + 1 → xs[i]? = some q → pB q = true by
          intro i q hi hq
          rcases Nat.lt_or_ge i k with h | h
          · exact HS.out i q h hq
          · obtain rfl : i = k := by omega
            rw [HPT.out] at hq
            obtain rfl := Option.some.inj hq
            exact hv)
        rw [hv] at HC
        clear hv
        go_wp2_with (first | (go_at_call 31; refine (HC.out _).mono ?_; rintro e w1 ⟨rfl, g1⟩; obtain ⟨X1, Y1, c1, f1⟩ := g1.use))
        go_roundw
        case rel => exact ⟨k + 1, by omega, by go_num, (by repeat (first | with_reducible exact Gr.refl _ | with_reducible assumption | with_reducible refine Gr.alloc ?_ _ | with_reducible refine Gr.drewN ?_ _ | with_reducible refine Gr.drew ?_ | with_reducible refine Gr.setCell ?_ (by first | (dsimp only; omega) | (simp only [World.size_alloc]; omega) | (with_reducible refine Gr.size ?_; (repeat (first | with_reducible exact Gr.refl _ | with_reducible assumption | with_reducible refine Gr.alloc ?_ _ | with_reducible refine Gr.drewN ?_ _ | with_reducible refine Gr.drew ?_ | with_reducible refine Gr.trans ?_ (by with_reducible assumption))); done)) _ | with_reducible refine Gr.trans ?_ (by with_reducible assumption))), HS'⟩
        case measure => simp only [intOf]; omega
      | false =>
        have HE := hide (show (!(anyBad xs)) = false by
          unfold anyBad
          rw [any_of (fun p => !pB p) xs k p HPT.out (by simp [hv])]
          rfl)
        rw [hv] at HC
        clear hv
        go_wp2_with (first | (go_at_call 31; refine (HC.out _).mono ?_; rintro e w1 ⟨rfl, g1⟩; obtain ⟨X1, Y1, c1, f1⟩ := g1.use))
        go_ret
        exact ⟨ret_bool HE.out.symm, (by repeat (first | with_reducible exact Gr.refl _ | with_reducible assumption | with_reducible refine Gr.alloc ?_ _ | with_reducible refine Gr.drewN ?_ _ | with_reducible refine Gr.drew ?_ | with_reducible refine Gr.setCell ?_ (by first | (dsimp only; omega) | (simp only [World.size_alloc]; omega) | (with_reducible refine Gr.size ?_; (repeat (first | with_reducible exact Gr.refl _ | with_reducible assumption | with_reducible refine Gr.alloc ?_ _ | with_reducible refine Gr.drewN ?_ _ | with_reducible refine Gr.drew ?_ | with_reducible refine Gr.trans ?_ (by with_reducible assumption))); done)) _ | with_reducible refine Gr.trans ?_ (by with_reducible assumption)))⟩
    · obtain rfl : k = xs.length := by omega
      have HE := hide (show (!(anyBad xs)) = true by
        unfold anyBad
        rw [show (xs.any fun p => !pB p) = false by
          rw [List.any_eq_false]
          intro p hp
          obtain ⟨i, hi⟩ := List.mem_iff_getElem?.1 hp
          simp [HS.out i p (List.getElem?_eq_some_iff.1 hi).1 hi]]
        rfl)
      go_wp2
      go_ret
      exact ⟨ret_bool HE.out.symm, (by repeat (first | with_reducible exact Gr.refl _ | with_reducible assumption | with_reducible refine Gr.alloc ?_ _ | with_reducible refine Gr.drewN ?_ _ | with_reducible refine Gr.drew ?_ | with_reducible refine Gr.setCell ?_ (by first | (dsimp only; omega) | (simp only [World.size_alloc]; omega) | (with_reducible refine Gr.size ?_; (repeat (first | with_reducible exact Gr.refl _ | with_reducible assumption | with_reducible refine Gr.alloc ?_ _ | with_reducible refine Gr.drewN ?_ _ | with_reducible refine Gr.drew ?_ | with_reducible refine Gr.trans ?_ (by with_reducible assumption))); done)) _ | with_reducible refine Gr.trans ?_ (by with_reducible assumption)))⟩
set_option maxHeartbeats 2000000 in
set_option maxRecDepth 100000 in
theorem rHull_any (A : Option Addr) (c : Nat) (xs : List Pt) (w : World) (hx : Rd w A xs) (lx : xs.length ≤ 1000000) :
    Calls Tryd.prog 9 #[.slice A xs.length c] w fun e w' => ∃ v ys, e = .returned (.tuple #[v, iv (ckP xs)]) ∧ Own w' w.heap.size v ys ∧ Gr w w' ∧ HullRes xs ys := by
  have HPI := hide (fun w' => rpointsIn_any A xs.length c w' lx)
  have HAS := hide (fun (w' : World) (g : Gr w w') => rallSmall_any A c xs w' (hx.gr g) lx)
  cases hb : badLen xs.length with
  | true =>
    have hE := ckP_bad hb
    have HR := hide (show HullRes xs [] from .inl ⟨by rw [hE]; decide, rfl⟩)
    rw [hE]
    rw [hb] at HPI
    clear hb hE hx
    go_enter Tryd.func9, Tryd.ntmps9
    go_wp2_with fail
    refine (HPI.out _).mono ?_
    rintro e w1 ⟨rfl, g1⟩
    go_wp2
    go_ret2
    exact ⟨.slice none 0 0, [], rfl, World.ownsRow_nil _ _ _ _, (by repeat (first | with_reducible exact Gr.refl _ | with_reducible assumption | with_reducible refine Gr.alloc ?_ _ | with_reducible refine Gr.drewN ?_ _ | with_reducible refine Gr.drew ?_ | with_reducible refine Gr.setCell ?_ (by first | (dsimp only; omega) | (simp only [World.size_alloc]; omega) | (with_reducible refine Gr.size ?_; (repeat (first | with_reducible exact Gr.refl _ | with_reducible assumption | with_reducible refine Gr.alloc ?_ _ | with_reducible refine Gr.drewN ?_ _ | with_reducible refine Gr.drew ?_ | with_reducible refine Gr.trans ?_ (by with_reducible assumption))); done)) _ | with_reducible refine Gr.trans ?_ (by with_reducible assumption))), HR.out⟩
  | false =>
    cases hs : anyBad xs with
    | true =>
      have hE := ckP_any hb hs
      have HR := hide (show HullRes xs [] from .inl ⟨by rw [hE]; decide, rfl⟩)
      rw [hE]
      rw [hb] at HPI
      rw [hs] at HAS
      clear hb hE hx hs
      go_enter Tryd.func9, Tryd.ntmps9
      go_wp2_with fail
      refine (HPI.out _).mono ?_
      rintro e w1 ⟨rfl, g1⟩
      go_wp2_with fail
      refine (HAS.out _ g1).mono ?_
      rintro e w2 ⟨rfl, g2⟩
      go_wp2
      go_ret2
      exact ⟨.slice none 0 0, [], rfl, World.ownsRow_nil _ _ _ _, (by repeat (first | with_reducible exact Gr.refl _ | with_reducible assumption | with_reducible refine Gr.alloc ?_ _ | with_reducible refine Gr.drewN ?_ _ | with_reducible refine Gr.drew ?_ | with_reducible refine Gr.setCell ?_ (by first | (dsimp only; omega) | (simp only [World.size_alloc]; omega) | (with_reducible refine Gr.size ?_; (repeat (first | with_reducible exact Gr.refl _ | with_reducible assumption | with_reducible refine Gr.alloc ?_ _ | with_reducible refine Gr.drewN ?_ _ | with_reducible refine Gr.drew ?_ | with_reducible refine Gr.trans ?_ (by with_reducible assumption))); done)) _ | with_reducible refine Gr.trans ?_ (by with_reducible assumption))), HR.out⟩
    | false =>
      have hE := ckP_ok hb hs
      obtain ⟨h1, h2, h3⟩ := ckP_zero hE
      obtain ⟨a, t, r⟩ := run_pts (ckP_ne hE)
      have HR := hide (show HullRes xs (a :: t) from .inr ⟨hE, a, t, rfl, r⟩)
      have HW := hide (fun (w' : World) (g : Gr w w') => wrap_any A c xs w' a t (hx.gr g) (fun p hp => pIn_of (h3 p hp)) h1 (by omega) r)
      rw [hE]
      rw [hb] at HPI
      rw [hs] at HAS
      clear hb hE hx hs h3 r
      go_enter Tryd.func9, Tryd.ntmps9
      go_wp2_with fail
      refine (HPI.out _).mono ?_
      rintro e w1 ⟨rfl, g1⟩
      go_wp2_with fail
      refine (HAS.out _ g1).mono ?_
      rintro e w2 ⟨rfl, g2⟩
      go_wp2_with fail
      refine (HW.out _ (g1.trans g2)).mono ?_
      rintro e w3 ⟨v, rfl, ho, g3⟩
      have HO := hide ho
      have gs := (g1.trans g2).size
      clear ho
      go_wp2
      go_ret2
      refine ⟨v, a :: t, rfl, ⟨HO.out.1, HO.out.2.imp id ?_⟩, (g1.trans g2).trans g3, HR.out⟩
      rintro ⟨k, cap, cur, e, hb', h⟩
      exact ⟨k, cap, cur, e, Nat.le_trans gs hb', h⟩
theorem HullRes.len {xs ys : List Pt} (h : HullRes xs ys) : ys.length ≤ xs.length := by
  rcases h with ⟨_, rfl⟩ | ⟨_, a, t, rfl, r⟩
  · simp
  · have := r.length
    simp only [List.length_map] at this
    simpa using this
set_option maxHeartbeats 4000000 in
set_option maxRecDepth 100000 in
theorem hulls_walk (A : Option Addr) (c : Nat) (xs : List Pt) (w : World) (ht : Tab w) (hx : Rd w A xs) :
    Calls Tryd.prog 3 #[.slice A xs.length c] w fun x w' => x = .returned (.bool true) ∧ Gr w w' := by
  have HT := hide ht
  have HX := hide hx
  clear ht hx
  by_cases hlo : 60 < xs.length
  · have hdl : decide (60 < xs.length) = true := by simpa using hlo
    go_enter Tryd.func3, Tryd.ntmps3
    go_wp2_with (first | (go_at_call 5; refine (long_any _ _ _ _).mono ?_; rintro e w1 ⟨rfl, rfl⟩) | (go_at_call 6; refine (known_any _ (HT.out.gr (by repeat (first | with_reducible exact Gr.refl _ | with_reducible assumption | with_reducible refine Gr.alloc ?_ _ | with_reducible refine Gr.drewN ?_ _ | with_reducible refine Gr.drew ?_ | with_reducible refine Gr.setCell ?_ (by first | (dsimp only; omega) | (simp only [World.size_alloc]; omega) | (with_reducible refine Gr.size ?_; (repeat (first | with_reducible exact Gr.refl _ | with_reducible assumption | with_reducible refine Gr.alloc ?_ _ | with_reducible refine Gr.drewN ?_ _ | with_reducible refine Gr.drew ?_ | with_reducible refine Gr.trans ?_ (by with_reducible assumption))); done)) _ | with_reducible refine Gr.trans ?_ (by with_reducible assumption))))).mono ?_; rintro e w1 ⟨rfl, g1⟩; obtain ⟨X1, Y1, c1, f1⟩ := g1.use; have z1 := g1.size; (try simp only [World.size_alloc, World.size_setCell, World.heap_drewN, Nat.add_one_le_iff] at z1); (try have l0 : w.heap.size < w1.heap.size := by omega); (try have l1 : w.heap.size + 1 < w1.heap.size := by omega); (try have l2 : w.heap.size + 1 + 1 < w1.heap.size := by omega)))
    go_ret
    exact ⟨rfl, (by repeat (first | with_reducible exact Gr.refl _ | with_reducible assumption | with_reducible refine Gr.alloc ?_ _ | with_reducible refine Gr.drewN ?_ _ | with_reducible refine Gr.drew ?_ | with_reducible refine Gr.setCell ?_ (by first | (dsimp only; omega) | (simp only [World.size_alloc]; omega) | (with_reducible refine Gr.size ?_; (repeat (first | with_reducible exact Gr.refl _ | with_reducible assumption | with_reducible refine Gr.alloc ?_ _ | with_reducible refine Gr.drewN ?_ _ | with_reducible refine Gr.drew ?_ | with_reducible refine Gr.trans ?_ (by with_reducible assumption))); done)) _ | with_reducible refine Gr.trans ?_ (by with_reducible assumption)))⟩
  · have hdl : decide (60 < xs.length) = false := by simpa using hlo
    have lx : xs.length ≤ 1000000 := by omega
    go_enter Tryd.func3, Tryd.ntmps3
    go_wp2_with (go_at_call 5; refine (long_any _ _ _ _).mono ?_; rintro e w1 ⟨rfl, rfl⟩)
    refine (copyPoints_any A c xs _ (HX.out.gr (by repeat (first | with_reducible exact Gr.refl _ | with_reducible assumption | with_reducible refine Gr.alloc ?_ _ | with_reducible refine Gr.drewN ?_ _ | with_reducible refine Gr.drew ?_ | with_reducible refine Gr.setCell ?_ (by first | (dsimp only; omega) | (simp only [World.size_alloc]; omega) | (with_reducible refine Gr.size ?_; (repeat (first | with_reducible exact Gr.refl _ | with_reducible assumption | with_reducible refine Gr.alloc ?_ _ | with_reducible refine Gr.drewN ?_ _ | with_reducible refine Gr.drew ?_ | with_reducible refine Gr.trans ?_ (by with_reducible assumption))); done)) _ | with_reducible refine Gr.trans ?_ (by with_reducible assumption)))) lx).mono ?_
    rintro e w1 ⟨v1, rfl, o1, g1⟩
    obtain ⟨A1, c1, rfl⟩ := o1.slice
    have HO1 := hide (Own.rd o1).2
    have gw1 : Gr w w1 := (by repeat (first | with_reducible exact Gr.refl _ | with_reducible assumption | with_reducible refine Gr.alloc ?_ _ | with_reducible refine Gr.drewN ?_ _ | with_reducible refine Gr.drew ?_ | with_reducible refine Gr.setCell ?_ (by first | (dsimp only; omega) | (simp only [World.size_alloc]; omega) | (with_reducible refine Gr.size ?_; (repeat (first | with_reducible exact Gr.refl _ | with_reducible assumption | with_reducible refine Gr.alloc ?_ _ | with_reducible refine Gr.drewN ?_ _ | with_reducible refine Gr.drew ?_ | with_reducible refine Gr.trans ?_ (by with_reducible assumption))); done)) _ | with_reducible refine Gr.trans ?_ (by with_reducible assumption)))
    clear o1
    go_wp2_with fail
    refine (Hull_any A1 c1 xs _ (HO1.out.gr (by repeat (first | with_reducible exact Gr.refl _ | with_reducible assumption | with_reducible refine Gr.alloc ?_ _ | with_reducible refine Gr.drewN ?_ _ | with_reducible refine Gr.drew ?_ | with_reducible refine Gr.setCell ?_ (by first | (dsimp only; omega) | (simp only [World.size_alloc]; omega) | (with_reducible refine Gr.size ?_; (repeat (first | with_reducible exact Gr.refl _ | with_reducible assumption | with_reducible refine Gr.alloc ?_ _ | with_reducible refine Gr.drewN ?_ _ | with_reducible refine Gr.drew ?_ | with_reducible refine Gr.trans ?_ (by with_reducible assumption))); done)) _ | with_reducible refine Gr.trans ?_ (by with_reducible assumption)))) lx).mono ?_
    rintro e w2 ⟨v2, ys, rfl, o2, g2, r2⟩
    obtain ⟨A2, c2, rfl⟩ := o2.slice
    have HO2 := hide o2
    have gw2 : Gr w w2 := (by repeat (first | with_reducible exact Gr.refl _ | with_reducible assumption | with_reducible refine Gr.alloc ?_ _ | with_reducible refine Gr.drewN ?_ _ | with_reducible refine Gr.drew ?_ | with_reducible refine Gr.setCell ?_ (by first | (dsimp only; omega) | (simp only [World.size_alloc]; omega) | (with_reducible refine Gr.size ?_; (repeat (first | with_reducible exact Gr.refl _ | with_reducible assumption | with_reducible refine Gr.alloc ?_ _ | with_reducible refine Gr.drewN ?_ _ | with_reducible refine Gr.drew ?_ | with_reducible refine Gr.trans ?_ (by with_reducible assumption))); done)) _ | with_reducible refine Gr.trans ?_ (by with_reducible assumption)))
    have HR2 := hide r2
    clear o2 r2
    go_wp2_with fail
    refine (rHull_any A c xs _ (HX.out.gr (by repeat (first | with_reducible exact Gr.refl _ | with_reducible assumption | with_reducible refine Gr.alloc ?_ _ | with_reducible refine Gr.drewN ?_ _ | with_reducible refine Gr.drew ?_ | with_reducible refine Gr.setCell ?_ (by first | (dsimp only; omega) | (simp only [World.size_alloc]; omega) | (with_reducible refine Gr.size ?_; (repeat (first | with_reducible exact Gr.refl _ | with_reducible assumption | with_reducible refine Gr.alloc ?_ _ | with_reducible refine Gr.drewN ?_ _ | with_reducible refine Gr.drew ?_ | with_reducible refine Gr.trans ?_ (by with_reducible assumption))); done)) _ | with_reducible refine Gr.trans ?_ (by with_reducible assumption)))) lx).mono ?_
    rintro e w3 ⟨v3, zs, rfl, o3, g3, r3⟩
    obtain rfl := HR2.out.uniq r3
    obtain ⟨A3, c3, rfl⟩ := o3.slice
    have HO3 := hide (Own.rd o3).2
    have gw3 : Gr w w3 := (by repeat (first | with_reducible exact Gr.refl _ | with_reducible assumption | with_reducible refine Gr.alloc ?_ _ | with_reducible refine Gr.drewN ?_ _ | with_reducible refine Gr.drew ?_ | with_reducible refine Gr.setCell ?_ (by first | (dsimp only; omega) | (simp only [World.size_alloc]; omega) | (with_reducible refine Gr.size ?_; (repeat (first | with_reducible exact Gr.refl _ | with_reducible assumption | with_reducible refine Gr.alloc ?_ _ | with_reducible refine Gr.drewN ?_ _ | with_reducible refine Gr.drew ?_ | with_reducible refine Gr.trans ?_ (by with_reducible assumption))); done)) _ | with_reducible refine Gr.trans ?_ (by with_reducible assumption)))
    clear o3 r3
    have hly : ys.length ≤ 1000000 := Nat.le_trans HR2.out.len lx
    have HS1 := hide (samePoints_any A2 A3 c2 c3 ys ys w3 (Own.rd (HO2.out.gr g3)).2 HO3.out hly)
    rw [show sameB ys ys = true by simp [sameB]] at HS1
    go_wp2_with fail
    refine HS1.out.mono ?_
    rintro e w4 ⟨rfl, g4⟩
    have gB : Gr w1 w4 := (g2.trans g3).trans g4
    have HO4 := hide (HO2.out.gr (g3.trans g4))
    go_wp2_with fail
    go_loopw [9] (fun i wr => ∃ (k : Nat) (zs : List Pt), k ≤ ys.length ∧ i = iv k ∧ zs.length = ys.length ∧ Gr w1 wr ∧ Hid (Own wr w1.heap.size (.slice A2 ys.length c2) zs)) (fun i _ => ys.length - (intOf i).toNat)
    case atStart => exact ⟨0, ys, by omega, rfl, rfl, gB, HO4.out⟩
    case round =>
      obtain ⟨k, zs, hk, rfl, hzl, g, HZ⟩ := hrel
      by_cases hkl : k < ys.length
      · obtain ⟨b, cap, hv, hoa, _, _⟩ := HZ.out.form (by omega)
        injection hv with e1 e2 e3
        subst e1 e3
        obtain ⟨z, hz⟩ : ∃ z, zs[k]? = some z := ⟨_, List.getElem?_eq_getElem (by omega)⟩
        obtain ⟨y0, y1, y2, y3, f0, f1, f2, f3⟩ := hoa.cells k z hz
        have hbl := hoa.lt
        have hk0 : (0 : Int) ≤ (k : Int) := by omega
        have hk1 : (k : Int) < (ys.length : Int) := by omega
        have HN := hide (hoa.stored k (0, 0, 0, 0) (by omega))
        have HZL := hide hzl
        obtain ⟨hb1, hb2⟩ := hbl
        clear hoa HZ hz hzl
        go_wp2
        go_roundw
        case rel => exact ⟨k + 1, zs.set k (0, 0, 0, 0), by omega, by go_num, by rw [List.length_set]; exact HZL.out, by repeat (first | exact g | (refine Gr.setCell ?_ (by dsimp only; omega) _)), by have := HN.out.own; rwa [List.length_set, HZL.out] at this⟩
        case measure => simp only [intOf]; omega
      · obtain rfl : k = ys.length := by omega
        have HS2 := hide (samePoints_any A1 _ c1 c xs xs wr (HO1.out.gr g) (HX.out.gr (gw1.trans g)) lx)
        rw [show sameB xs xs = true by simp [sameB]] at HS2
        have gW : Gr w wr := gw1.trans g
        go_wp2_with fail
        refine HS2.out.mono ?_
        rintro e w6 ⟨rfl, g6⟩
        go_wp2_with (first | (go_at_call 6; refine (known_any _ (HT.out.gr (by repeat (first | with_reducible exact Gr.refl _ | with_reducible assumption | with_reducible refine Gr.alloc ?_ _ | with_reducible refine Gr.drewN ?_ _ | with_reducible refine Gr.drew ?_ | with_reducible refine Gr.setCell ?_ (by first | (dsimp only; omega) | (simp only [World.size_alloc]; omega) | (with_reducible refine Gr.size ?_; (repeat (first | with_reducible exact Gr.refl _ | with_reducible assumption | with_reducible refine Gr.alloc ?_ _ | with_reducible refine Gr.drewN ?_ _ | with_reducible refine Gr.drew ?_ | with_reducible refine Gr.trans ?_ (by with_reducible assumption))); done)) _ | with_reducible refine Gr.trans ?_ (by with_reducible assumption))))).mono ?_; rintro e w1 ⟨rfl, g1⟩; obtain ⟨X1, Y1, c1, f1⟩ := g1.use; have z1 := g1.size; (try simp only [World.size_alloc, World.size_setCell, World.heap_drewN, Nat.add_one_le_iff] at z1); (try have l0 : w.heap.size < w1.heap.size := by omega); (try have l1 : w.heap.size + 1 < w1.heap.size := by omega); (try have l2 : w.heap.size + 1 + 1 < w1.heap.size := by omega)))
        go_ret
        exact ⟨rfl, (by repeat (first | with_reducible exact Gr.refl _ | with_reducible assumption | with_reducible refine Gr.alloc ?_ _ | with_reducible refine Gr.drewN ?_ _ | with_reducible refine Gr.drew ?_ | with_reducible refine Gr.setCell ?_ (by first | (dsimp only; omega) | (simp only [World.size_alloc]; omega) | (with_reducible refine Gr.size ?_; (repeat (first | with_reducible exact Gr.refl _ | with_reducible assumption | with_reducible refine Gr.alloc ?_ _ | with_reducible refine Gr.drewN ?_ _ | with_reducible refine Gr.drew ?_ | with_reducible refine Gr.trans ?_ (by with_reducible assumption))); done)) _ | with_reducible refine Gr.trans ?_ (by with_reducible assumption)))⟩
end Go.Proofs.YtegehdidfmcflaaDoor
