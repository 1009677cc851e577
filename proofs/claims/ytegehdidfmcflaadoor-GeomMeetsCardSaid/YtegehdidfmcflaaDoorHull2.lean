/-
  Hull: the hull of points, or an error.
-/
import Derived.Test.YtegehdidfmcflaaDoorHull
import Derived.Test.YtegehdidfmcflaaDoorCheck
namespace Go.Proofs.YtegehdidfmcflaaDoor
set_option linter.unusedVariables false
set_option linter.unusedSimpArgs false
open Go Go.ChangeShapes Go.WideShapes Go.ChangeAt Go.RowKit Go.Deep

/-- the error of one list -/
def ckP (xs : List Pt) : Int := ckE [(none, xs, 0)]
theorem ckE_one (A : Option Addr) (xs : List Pt) (c : Nat) : ckE [(A, xs, c)] = ckP xs := rfl
theorem pIn_of {p : Pt} (h : pB p = true) : PIn p := by
  unfold pB pinB at h
  simp only [Bool.and_eq_true] at h
  obtain ⟨h1, h2⟩ := h
  obtain ⟨a, b⟩ := lims_of h1
  obtain ⟨c, d⟩ := lims_of h2
  exact ⟨a.mono (by omega), b.mono (by omega), c.mono (by omega), d.mono (by omega)⟩
theorem ckP_zero {xs : List Pt} (h : ckP xs = 0) : 0 < xs.length ∧ xs.length ≤ 24 ∧ ∀ p ∈ xs, pB p = true := by
  unfold ckP ckE at h
  simp only [List.any_cons, List.any_nil, Bool.or_false] at h
  split at h
  · omega
  · rename_i h1
    split at h
    · omega
    · rename_i h2
      simp only [badLen, Bool.or_eq_true, decide_eq_true_eq] at h1
      refine ⟨by omega, by omega, fun p hp => ?_⟩
      refine Classical.byContradiction fun c => h2 (List.any_eq_true.2 ⟨p, hp, ?_⟩)
      simpa using c
/-- what Hull gives -/
def HullRes (xs ys : List Pt) : Prop := (ckP xs ≠ 0 ∧ ys = []) ∨ (ckP xs = 0 ∧ ∃ a t, ys = a :: t ∧ G.Run (xs.map vOf) (vOf a) (t.map vOf))
theorem HullRes.uniq {xs ys zs : List Pt} (h : HullRes xs ys) (k : HullRes xs zs) : ys = zs := by
  rcases h with ⟨h, rfl⟩ | ⟨h, a, t, rfl, r⟩ <;> rcases k with ⟨k, rfl⟩ | ⟨k, b, s, rfl, q⟩
  · rfl
  · exact absurd k h
  · exact absurd h k
  · obtain ⟨e1, e2⟩ := r.uniq q
    rw [vOf_inj e1]
    congr 1
    exact (List.map_inj_right (fun _ _ => vOf_inj)).1 e2
set_option maxHeartbeats 1000000 in
theorem Hull_any (A : Option Addr) (c : Nat) (xs : List Pt) (w : World) (hx : Rd w A xs) (lx : xs.length ≤ 1000000) :
    Calls Tryd.prog 8 #[.slice A xs.length c] w fun e w' => ∃ v ys, e = .returned (.tuple #[v, iv (ckP xs)]) ∧ Own w' w.heap.size v ys ∧ Gr w w' ∧ HullRes xs ys := by
  have hrd : RdL (w.alloc (.cells #[.slice A xs.length c] 22)) (some ⟨w.heap.size, 0, none⟩) [(A, xs, c)] := by
    intro i l hl
    match i with
    | 0 =>
      simp at hl
      subst hl
      exact ⟨⟨w.heap.size, 0, rfl, by simp [go_sem]⟩, hx.gr (Gr.alloc (Gr.refl w) _), lx⟩
    | i + 1 => simp at hl
  have hcon := checkPoints_any (some ⟨w.heap.size, 0, none⟩) 1 [(A, xs, c)] _ hrd (by simp)
  rw [ckE_one] at hcon
  have HX := hide hx
  clear hx hrd
  by_cases hz : ckP xs = 0
  · obtain ⟨h1, h2, h3⟩ := ckP_zero hz
    have HP : Hid (∀ p ∈ xs, PIn p) := fun p hp => pIn_of (h3 p hp)
    have HZ := hide hz
    rw [hz] at hcon
    clear h3 hz
    go_enter Tryd.func8, Tryd.ntmps8
    go_wp2_with (first
      | (go_at_call 15; refine hcon.mono ?_; rintro e w1 ⟨rfl, g1⟩)
      | (go_at_call 16; refine (hull_any _ _ _ _ (HX.out.gr (by repeat (first | with_reducible exact Gr.refl _ | with_reducible assumption | with_reducible refine Gr.alloc ?_ _ | with_reducible refine Gr.drewN ?_ _ | with_reducible refine Gr.drew ?_ | with_reducible refine Gr.setCell ?_ (by first | (dsimp only; omega) | (simp only [World.size_alloc]; omega) | (with_reducible refine Gr.size ?_; (repeat (first | with_reducible exact Gr.refl _ | with_reducible assumption | with_reducible refine Gr.alloc ?_ _ | with_reducible refine Gr.drewN ?_ _ | with_reducible refine Gr.drew ?_ | with_reducible refine Gr.trans ?_ (by with_reducible assumption))); done)) _ | with_reducible refine Gr.trans ?_ (by with_reducible assumption)))) HP.out h1 (by omega)).mono ?_; rintro e w2 ⟨v, ys, rfl, ho, g2, hr⟩; (have HO := hide ho); (have HR := hide hr); clear ho hr))
    refine bodyPost_ret (v := .tuple #[v, iv 0]) (by simp [results, Tryd.results8, go_sem]) rfl ⟨_, _, by rw [HZ.out], ?_, (by repeat (first | with_reducible exact Gr.refl _ | with_reducible assumption | with_reducible refine Gr.alloc ?_ _ | with_reducible refine Gr.drewN ?_ _ | with_reducible refine Gr.drew ?_ | with_reducible refine Gr.setCell ?_ (by first | (dsimp only; omega) | (simp only [World.size_alloc]; omega) | (with_reducible refine Gr.size ?_; (repeat (first | with_reducible exact Gr.refl _ | with_reducible assumption | with_reducible refine Gr.alloc ?_ _ | with_reducible refine Gr.drewN ?_ _ | with_reducible refine Gr.drew ?_ | with_reducible refine Gr.trans ?_ (by with_reducible assumption))); done)) _ | with_reducible refine Gr.trans ?_ (by with_reducible assumption))), .inr ⟨HZ.out, HR.out⟩⟩
    have hs := g1.size
    obtain ⟨q1, q2⟩ := HO.out
    refine ⟨q1, q2.imp id ?_⟩
    rintro ⟨k, cap, cur, e, hb, h⟩
    refine ⟨k, cap, cur, e, ?_, h⟩
    simp at hs
    omega
  · have HZ := hide hz
    have hzb : (ckP xs != 0) = true := by simp [hz]
    generalize hk : ckP xs = z at *
    have HK := hide hk
    clear hk hz
    go_enter Tryd.func8, Tryd.ntmps8
    go_wp2_with (go_at_call 15; refine hcon.mono ?_; rintro e w1 ⟨rfl, g1⟩)
    refine bodyPost_ret (v := .tuple #[.slice none 0 0, iv z]) (by simp [results, Tryd.results8, go_sem]) rfl ⟨_, [], rfl, World.ownsRow_nil _ _ _ _, (by repeat (first | with_reducible exact Gr.refl _ | with_reducible assumption | with_reducible refine Gr.alloc ?_ _ | with_reducible refine Gr.drewN ?_ _ | with_reducible refine Gr.drew ?_ | with_reducible refine Gr.setCell ?_ (by first | (dsimp only; omega) | (simp only [World.size_alloc]; omega) | (with_reducible refine Gr.size ?_; (repeat (first | with_reducible exact Gr.refl _ | with_reducible assumption | with_reducible refine Gr.alloc ?_ _ | with_reducible refine Gr.drewN ?_ _ | with_reducible refine Gr.drew ?_ | with_reducible refine Gr.trans ?_ (by with_reducible assumption))); done)) _ | with_reducible refine Gr.trans ?_ (by with_reducible assumption))), .inl ⟨by rw [HK.out]; exact HZ.out, rfl⟩⟩
end Go.Proofs.YtegehdidfmcflaaDoor
