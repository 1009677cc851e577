/-
  Meets: whether two hulls meet.
-/
import Derived.Test.YtegehdidfmcflaaDoorMeet1
namespace Go.Proofs.YtegehdidfmcflaaDoor
set_option linter.unusedVariables false
set_option linter.unusedSimpArgs false
open Go Go.ChangeShapes Go.WideShapes Go.ChangeAt Go.RowKit Go.Deep

theorem nlB_iff {p q : Pt} {zs : List Pt} : nlB p q zs = true ↔ ∀ y ∈ zs.map vOf, G.sg3 (G.O (vOf p) (vOf q) y) ≤ 0 := by
  unfold nlB
  rw [List.all_eq_true]
  constructor
  · intro h y hy
    obtain ⟨x, hx, rfl⟩ := List.mem_map.1 hy
    have := h x hx
    rw [decide_eq_true_eq, orP_eq] at this
    exact this
  · intro h x hx
    rw [decide_eq_true_eq, orP_eq]
    exact h _ (List.mem_map_of_mem hx)
/-- what the code's test says of the corners of a hull -/
theorem sep_iff {l : List G.V} {a : Pt} {t zs : List Pt} (r : G.Run l (vOf a) (t.map vOf)) : sepB (a :: t) zs = true ↔ G.Sep ((a :: t).map vOf) (zs.map vOf) := by
  have rs := r.self
  unfold sepB G.Sep
  rw [List.any_eq_true]
  have at_ : ∀ {i : Nat} {p : Pt}, (a :: t)[i]? = some p → (vOf a :: t.map vOf)[i]? = some (vOf p) := fun {i p} h => by
    rw [← List.map_cons, List.getElem?_map, h]; rfl
  have len : (vOf a :: t.map vOf).length = (a :: t).length := by simp
  constructor
  · rintro ⟨i, hi, h⟩
    unfold sideB at h
    split at h
    · rename_i p q hp hq
      simp only [Bool.and_eq_true, Bool.not_eq_true', decide_eq_false_iff_not] at h
      have ht : t.map vOf ≠ [] := by
        intro e
        simp at e
        subst e
        have h0 : i = 0 := by have := List.mem_range.1 hi; simpa using this
        subst h0
        simp at hp hq
        exact h.1 (hq.symm.trans hp)
      refine ⟨vOf p, vOf q, List.mem_map_of_mem (List.mem_of_getElem? hp), ?_, nlB_iff.1 h.2⟩
      exact next_E rs ht (at_ hp) (by rw [len]; exact at_ hq)
    · simp at h
  · rintro ⟨x, n, hx, e, hn⟩
    obtain ⟨p, hp, rfl⟩ := List.mem_map.1 hx
    obtain ⟨i, hi⟩ := List.mem_iff_getElem?.1 hp
    have hil : i < (a :: t).length := (List.getElem?_eq_some_iff.1 hi).1
    obtain ⟨q, hq⟩ : ∃ q, (a :: t)[(i + 1) % (a :: t).length]? = some q := ⟨_, List.getElem?_eq_getElem (Nat.mod_lt _ (by simp))⟩
    have ht : t.map vOf ≠ [] := by
      intro k
      simp at k
      subst k
      obtain ⟨h1, h2, _⟩ := e
      simp at hp h1
      subst hp
      exact h2 h1.symm
    have e2 := next_E rs ht (at_ hi) (by rw [len]; exact at_ hq)
    have en : n = vOf q := e.uniq e2
    subst en
    refine ⟨i, List.mem_range.2 hil, ?_⟩
    unfold sideB
    rw [hi, hq]
    simp only [Bool.and_eq_true, Bool.not_eq_true', decide_eq_false_iff_not]
    exact ⟨fun k => e.2.1 (by rw [k]), nlB_iff.2 hn⟩
/-- the error of two lists -/
def ckP2 (xs ys : List Pt) : Int := ckE [(none, xs, 0), (none, ys, 0)]
theorem ckE_two (A B : Option Addr) (xs ys : List Pt) (c d : Nat) : ckE [(A, xs, c), (B, ys, d)] = ckP2 xs ys := rfl
theorem ckP2_zero {xs ys : List Pt} : ckP2 xs ys = 0 ↔ ckP xs = 0 ∧ ckP ys = 0 := by
  unfold ckP2 ckP ckE
  simp only [List.any_cons, List.any_nil, Bool.or_false]
  cases badLen xs.length <;> cases badLen ys.length <;> cases (xs.any fun p => !pB p) <;> cases (ys.any fun p => !pB p) <;> simp
/-- what Meets gives -/
def MeetsRes (xs ys : List Pt) (b : Bool) (e : Int) : Prop :=
  (ckP2 xs ys ≠ 0 ∧ e = ckP2 xs ys ∧ b = false) ∨
  (ckP2 xs ys = 0 ∧ ∃ a t u s, G.Run (xs.map vOf) (vOf a) (t.map vOf) ∧ G.Run (ys.map vOf) (vOf u) (s.map vOf) ∧
    ((s.length < 2 ∧ e = 6 ∧ b = false) ∨ (2 ≤ s.length ∧ e = 0 ∧ (b = true ↔ G.Meet ((a :: t).map vOf) ((u :: s).map vOf)))))
set_option maxHeartbeats 2000000 in
theorem Meets_any (A B : Option Addr) (c d : Nat) (xs ys : List Pt) (w : World) (hx : Rd w A xs) (hy : Rd w B ys) (lx : xs.length ≤ 1000000) (ly : ys.length ≤ 1000000) :
    Calls Tryd.prog 11 #[.slice A xs.length c, .slice B ys.length d] w fun e w' => ∃ b r, e = .returned (.tuple #[.bool b, iv r]) ∧ Gr w w' ∧ MeetsRes xs ys b r := by
  have hrd : ∀ {w'}, Gr (w.alloc (.cells #[.slice A xs.length c, .slice B ys.length d] 22)) w' → RdL w' (some ⟨w.heap.size, 0, none⟩) [(A, xs, c), (B, ys, d)] := by
    intro w' g
    refine RdL.gr ?_ g
    intro i l hl
    match i with
    | 0 =>
      simp at hl
      subst hl
      exact ⟨⟨w.heap.size, 0, rfl, by simp [go_sem]⟩, hx.gr (Gr.alloc (Gr.refl w) _), lx⟩
    | 1 =>
      simp at hl
      subst hl
      exact ⟨⟨w.heap.size, 0, rfl, by simp [go_sem]⟩, hy.gr (Gr.alloc (Gr.refl w) _), ly⟩
    | i + 2 => simp at hl
  have hcon := checkPoints_any (some ⟨w.heap.size, 0, none⟩) 2 [(A, xs, c), (B, ys, d)] _ (hrd (Gr.refl _)) (by simp)
  rw [ckE_two] at hcon
  have HX := hide hx
  have HY := hide hy
  clear hx hy hrd
  by_cases hz : ckP2 xs ys = 0
  · obtain ⟨h1, h2⟩ := ckP2_zero.1 hz
    obtain ⟨a1, a2, a3⟩ := ckP_zero h1
    obtain ⟨b1, b2, b3⟩ := ckP_zero h2
    have HPX : Hid (∀ p ∈ xs, PIn p) := fun p hp => pIn_of (a3 p hp)
    have HPY : Hid (∀ p ∈ ys, PIn p) := fun p hp => pIn_of (b3 p hp)
    have HZ := hide hz
    rw [hz] at hcon
    clear a3 b3 hz h1 h2
    have hcx : ∀ w', Gr w w' → Calls Tryd.prog 16 #[.slice A xs.length c] w' fun e w'' => ∃ A1 c1 a t, e = .returned (.slice A1 (a :: t).length c1) ∧ Rd w'' A1 (a :: t) ∧ Gr w' w'' ∧ G.Run (xs.map vOf) (vOf a) (t.map vOf) := fun w' g =>
      (hull_any A c xs w' (HX.out.gr g) HPX.out a1 (by omega)).mono fun e w'' ⟨v, zs, he, ho, g2, a, t, hzs, r⟩ => by
        subst hzs
        obtain ⟨A1, c1, rfl⟩ := ho.slice
        exact ⟨A1, c1, a, t, he, (Own.rd ho).2, g2, r⟩
    have hcy : ∀ w', Gr w w' → Calls Tryd.prog 16 #[.slice B ys.length d] w' fun e w'' => ∃ A1 c1 a t, e = .returned (.slice A1 (a :: t).length c1) ∧ Rd w'' A1 (a :: t) ∧ Gr w' w'' ∧ G.Run (ys.map vOf) (vOf a) (t.map vOf) := fun w' g =>
      (hull_any B d ys w' (HY.out.gr g) HPY.out b1 (by omega)).mono fun e w'' ⟨v, zs, he, ho, g2, a, t, hzs, r⟩ => by
        subst hzs
        obtain ⟨A1, c1, rfl⟩ := ho.slice
        exact ⟨A1, c1, a, t, he, (Own.rd ho).2, g2, r⟩
    have HCX := hide hcx
    have HCY := hide hcy
    clear hcx hcy
    go_enter Tryd.func11, Tryd.ntmps11
    go_wp2_with (go_at_call 15; refine hcon.mono ?_; rintro e w1 ⟨rfl, g1⟩)
    refine (HCX.out _ (by repeat (first | with_reducible exact Gr.refl _ | with_reducible assumption | with_reducible refine Gr.alloc ?_ _ | with_reducible refine Gr.drewN ?_ _ | with_reducible refine Gr.drew ?_ | with_reducible refine Gr.setCell ?_ (by first | (dsimp only; omega) | (simp only [World.size_alloc]; omega) | (with_reducible refine Gr.size ?_; (repeat (first | with_reducible exact Gr.refl _ | with_reducible assumption | with_reducible refine Gr.alloc ?_ _ | with_reducible refine Gr.drewN ?_ _ | with_reducible refine Gr.drew ?_ | with_reducible refine Gr.trans ?_ (by with_reducible assumption))); done)) _ | with_reducible refine Gr.trans ?_ (by with_reducible assumption)))).mono ?_
    rintro e w2 ⟨A1, c1, a, t, rfl, hr1, g2, r1⟩
    have HR1 := hide hr1
    have HN1 := hide r1
    clear hr1 r1
    have hl1 : (a :: t).length ≤ 24 := by have := HN1.out.length; simp at this; simp; omega
    have hm1 : ∀ p ∈ a :: t, PIn p := fun p hp => HPX.out p (HullRes.mem (xs := xs) (ys := a :: t) (.inr ⟨(ckP2_zero.1 HZ.out).1, a, t, rfl, HN1.out⟩) p hp)
    have HM1 := hide hm1
    clear hm1
    generalize hys1 : a :: t = us at *
    have HU := hide hys1
    clear hys1
    go_wp2_with fail
    refine (HCY.out _ (by repeat (first | with_reducible exact Gr.refl _ | with_reducible assumption | with_reducible refine Gr.alloc ?_ _ | with_reducible refine Gr.drewN ?_ _ | with_reducible refine Gr.drew ?_ | with_reducible refine Gr.setCell ?_ (by first | (dsimp only; omega) | (simp only [World.size_alloc]; omega) | (with_reducible refine Gr.size ?_; (repeat (first | with_reducible exact Gr.refl _ | with_reducible assumption | with_reducible refine Gr.alloc ?_ _ | with_reducible refine Gr.drewN ?_ _ | with_reducible refine Gr.drew ?_ | with_reducible refine Gr.trans ?_ (by with_reducible assumption))); done)) _ | with_reducible refine Gr.trans ?_ (by with_reducible assumption)))).mono ?_
    rintro e w3 ⟨A2, c2, u, s, rfl, hr2, g3, r2⟩
    have HR2 := hide hr2
    have HN2 := hide r2
    clear hr2 r2
    have hl2 : (u :: s).length ≤ 24 := by have := HN2.out.length; simp at this; simp; omega
    have hm2 : ∀ p ∈ u :: s, PIn p := fun p hp => HPY.out p (HullRes.mem (xs := ys) (ys := u :: s) (.inr ⟨(ckP2_zero.1 HZ.out).2, u, s, rfl, HN2.out⟩) p hp)
    have HM2 := hide hm2
    clear hm2
    have hsl : (u :: s).length = s.length + 1 := by simp
    have HSL := hide hsl
    clear hsl
    generalize hvs1 : u :: s = vs at *
    have HV := hide hvs1
    clear hvs1
    by_cases h3 : vs.length < 3
    · have hres : MeetsRes xs ys false 6 := .inr ⟨HZ.out, a, t, u, s, HN1.out, HN2.out, .inl ⟨by have := HSL.out; omega, rfl, rfl⟩⟩
      have HRES := hide hres
      clear hres
      go_wp2
      go_ret2
      exact ⟨_, _, rfl, (by repeat (first | with_reducible exact Gr.refl _ | with_reducible assumption | with_reducible refine Gr.alloc ?_ _ | with_reducible refine Gr.drewN ?_ _ | with_reducible refine Gr.drew ?_ | with_reducible refine Gr.setCell ?_ (by first | (dsimp only; omega) | (simp only [World.size_alloc]; omega) | (with_reducible refine Gr.size ?_; (repeat (first | with_reducible exact Gr.refl _ | with_reducible assumption | with_reducible refine Gr.alloc ?_ _ | with_reducible refine Gr.drewN ?_ _ | with_reducible refine Gr.drew ?_ | with_reducible refine Gr.trans ?_ (by with_reducible assumption))); done)) _ | with_reducible refine Gr.trans ?_ (by with_reducible assumption))), HRES.out⟩
    · have hk1 : ∀ w', Gr w3 w' → Calls Tryd.prog 20 #[.slice A2 vs.length c2, .slice A1 us.length c1] w' fun e w'' => e = .returned (.bool (sepB vs us)) ∧ Gr w' w'' := fun w' g =>
        separates_any A2 A1 c2 c1 vs us w' (HR2.out.gr g) (HR1.out.gr (g3.trans g)) HM2.out HM1.out (by omega) (by omega)
      have hk2 : ∀ w', Gr w3 w' → Calls Tryd.prog 20 #[.slice A1 us.length c1, .slice A2 vs.length c2] w' fun e w'' => e = .returned (.bool (sepB us vs)) ∧ Gr w' w'' := fun w' g =>
        separates_any A1 A2 c1 c2 us vs w' (HR1.out.gr (g3.trans g)) (HR2.out.gr g) HM1.out HM2.out (by omega) (by omega)
      have HK1 := hide hk1
      have HK2 := hide hk2
      clear hk1 hk2
      have i1 : sepB vs us = true ↔ G.Sep (vs.map vOf) (us.map vOf) := by
        have := sep_iff (zs := us) HN2.out
        rwa [HV.out] at this
      have i2 : sepB us vs = true ↔ G.Sep (us.map vOf) (vs.map vOf) := by
        have := sep_iff (zs := vs) HN1.out
        rwa [HU.out] at this
      have hres : MeetsRes xs ys (!sepB vs us && !sepB us vs) 0 := .inr ⟨HZ.out, a, t, u, s, HN1.out, HN2.out, .inr ⟨by have := HSL.out; omega, rfl, by
        rw [HU.out, HV.out]
        unfold G.Meet
        rw [← i1, ← i2]
        simp only [Bool.and_eq_true, Bool.not_eq_true']
        cases sepB vs us <;> cases sepB us vs <;> simp⟩⟩
      have HRES := hide hres
      clear hres i1 i2
      by_cases s1 : sepB vs us = true
      · go_wp2_with (go_at_call 20; refine (HK1.out _ (by repeat (first | with_reducible exact Gr.refl _ | with_reducible assumption | with_reducible refine Gr.alloc ?_ _ | with_reducible refine Gr.drewN ?_ _ | with_reducible refine Gr.drew ?_ | with_reducible refine Gr.setCell ?_ (by first | (dsimp only; omega) | (simp only [World.size_alloc]; omega) | (with_reducible refine Gr.size ?_; (repeat (first | with_reducible exact Gr.refl _ | with_reducible assumption | with_reducible refine Gr.alloc ?_ _ | with_reducible refine Gr.drewN ?_ _ | with_reducible refine Gr.drew ?_ | with_reducible refine Gr.trans ?_ (by with_reducible assumption))); done)) _ | with_reducible refine Gr.trans ?_ (by with_reducible assumption)))).mono ?_; rintro e w4 ⟨rfl, g4⟩)
        go_ret2
        refine ⟨_, _, rfl, (by repeat (first | with_reducible exact Gr.refl _ | with_reducible assumption | with_reducible refine Gr.alloc ?_ _ | with_reducible refine Gr.drewN ?_ _ | with_reducible refine Gr.drew ?_ | with_reducible refine Gr.setCell ?_ (by first | (dsimp only; omega) | (simp only [World.size_alloc]; omega) | (with_reducible refine Gr.size ?_; (repeat (first | with_reducible exact Gr.refl _ | with_reducible assumption | with_reducible refine Gr.alloc ?_ _ | with_reducible refine Gr.drewN ?_ _ | with_reducible refine Gr.drew ?_ | with_reducible refine Gr.trans ?_ (by with_reducible assumption))); done)) _ | with_reducible refine Gr.trans ?_ (by with_reducible assumption))), ?_⟩
        have := HRES.out
        rw [s1] at this
        simpa using this
      · have s1' : sepB vs us = false := by simpa using s1
        clear s1
        go_wp2_with fail
        refine (HK1.out _ (Gr.refl _)).mono ?_
        rintro e w4 ⟨rfl, g4⟩
        go_wp2_with fail
        refine (HK2.out _ (by repeat (first | with_reducible exact Gr.refl _ | with_reducible assumption | with_reducible refine Gr.alloc ?_ _ | with_reducible refine Gr.drewN ?_ _ | with_reducible refine Gr.drew ?_ | with_reducible refine Gr.setCell ?_ (by first | (dsimp only; omega) | (simp only [World.size_alloc]; omega) | (with_reducible refine Gr.size ?_; (repeat (first | with_reducible exact Gr.refl _ | with_reducible assumption | with_reducible refine Gr.alloc ?_ _ | with_reducible refine Gr.drewN ?_ _ | with_reducible refine Gr.drew ?_ | with_reducible refine Gr.trans ?_ (by with_reducible assumption))); done)) _ | with_reducible refine Gr.trans ?_ (by with_reducible assumption)))).mono ?_
        rintro e w5 ⟨rfl, g5⟩
        go_wp2
        go_ret2
        refine ⟨_, _, rfl, (by repeat (first | with_reducible exact Gr.refl _ | with_reducible assumption | with_reducible refine Gr.alloc ?_ _ | with_reducible refine Gr.drewN ?_ _ | with_reducible refine Gr.drew ?_ | with_reducible refine Gr.setCell ?_ (by first | (dsimp only; omega) | (simp only [World.size_alloc]; omega) | (with_reducible refine Gr.size ?_; (repeat (first | with_reducible exact Gr.refl _ | with_reducible assumption | with_reducible refine Gr.alloc ?_ _ | with_reducible refine Gr.drewN ?_ _ | with_reducible refine Gr.drew ?_ | with_reducible refine Gr.trans ?_ (by with_reducible assumption))); done)) _ | with_reducible refine Gr.trans ?_ (by with_reducible assumption))), ?_⟩
        have := HRES.out
        rw [s1'] at this
        simpa using this
  · have HZ := hide hz
    have hzb : (ckP2 xs ys != 0) = true := by simp [hz]
    have hres : MeetsRes xs ys false (ckP2 xs ys) := .inl ⟨hz, rfl, rfl⟩
    have HRES := hide hres
    clear hres
    generalize ckP2 xs ys = z at *
    clear hz
    go_enter Tryd.func11, Tryd.ntmps11
    go_wp2_with (go_at_call 15; refine hcon.mono ?_; rintro e w1 ⟨rfl, g1⟩)
    go_ret2
    exact ⟨_, _, rfl, (by repeat (first | with_reducible exact Gr.refl _ | with_reducible assumption | with_reducible refine Gr.alloc ?_ _ | with_reducible refine Gr.drewN ?_ _ | with_reducible refine Gr.drew ?_ | with_reducible refine Gr.setCell ?_ (by first | (dsimp only; omega) | (simp only [World.size_alloc]; omega) | (with_reducible refine Gr.size ?_; (repeat (first | with_reducible exact Gr.refl _ | with_reducible assumption | with_reducible refine Gr.alloc ?_ _ | with_reducible refine Gr.drewN ?_ _ | with_reducible refine Gr.drew ?_ | with_reducible refine Gr.trans ?_ (by with_reducible assumption))); done)) _ | with_reducible refine Gr.trans ?_ (by with_reducible assumption))), HRES.out⟩
end Go.Proofs.YtegehdidfmcflaaDoor
