/-
  Parts: the exported Faces of both sides.
-/
import Derived.Test.YtpmomgfepkegnaaLawV
set_option linter.unusedVariables false
set_option linter.unusedSimpArgs false
namespace Go.Proofs.Ytpmomgfepkegnaa
set_option linter.unusedVariables false
set_option linter.unusedSimpArgs false
open Go Go.ChangeShapes Go.WideShapes Go.ChangeAt Go.RowKit Go.Deep

/-- what a valid part has -/
structure Good (p : Pa) : Prop where
  base : basB p = true
  nfl : p.fl.length ≤ 5
  nho : p.ho.length ≤ 6
  fl : FlOk p p.fl.length
  ho : p.ho.all (hoB p) = true
  no : anyB clC (facs flC p.wd p.ht p.fl allT p.fl.length) = false
theorem good_of {p : Pa} (h : valE p = 0) : Good p := by
  by_cases h1 : (nameB p.nm.toList && nameB p.mt.toList) = true
  · by_cases h2 : basB p = true
    · by_cases h3 : 5 < p.fl.length ∨ 6 < p.ho.length
      · rw [valE_large h1 h2 h3] at h
        cases h
      · rw [valE_rest h1 h2 h3] at h
        split at h
        · rename_i h4
          exact absurd h h4
        rename_i h4
        split at h
        · cases h
        split at h
        · cases h
        rename_i h5
        split at h
        · cases h
        split at h
        · cases h
        rename_i h6
        exact ⟨h2, by omega, by omega, FlOk.all h2 (by simpa using h4), by simpa using h5, by simpa using h6⟩
    · rw [valE_base h1 (by simpa using h2)] at h
      cases h
  · rw [valE_names (by simpa using h1)] at h
    cases h
/-- the greatest mask of a part -/
def fuM (p : Pa) : Int := ((2 ^ p.fl.length - 1 : Nat) : Int)
theorem fuM_lt {p : Pa} (h : p.fl.length ≤ 5) {m : Int} (hm : wiB m 0 (fuM p) = true) : ∃ k : Nat, m = k ∧ k < 64 := by
  rw [wiB_iff] at hm
  unfold fuM at hm
  have : 2 ^ p.fl.length ≤ 2 ^ 5 := Nat.pow_le_pow_right (by omega) h
  exact ⟨m.toNat, by omega, by omega⟩
/-- the error of a part and a mask -/
noncomputable def facE (p : Pa) (m : Int) : Int := if valE p ≠ 0 then valE p else if wiB m 0 (fuM p) then 0 else 1
/-- the faces of a part; none where there is an error -/
noncomputable def facL (p : Pa) (m : Int) : List Fc := if facE p m = 0 then facs flC p.wd p.ht p.fl (fun i => m.toNat.testBit i) p.fl.length else []
theorem facE_bad {p : Pa} {m : Int} (h : ¬ valE p = 0) : facE p m = valE p := by
  unfold facE
  rw [if_pos h]
theorem facE_arg {p : Pa} {m : Int} (h : valE p = 0) (k : wiB m 0 (fuM p) = false) : facE p m = 1 := by
  unfold facE
  rw [if_neg (by simpa using h), k]
  rfl
theorem facE_ok {p : Pa} {m : Int} (h : valE p = 0) (k : wiB m 0 (fuM p) = true) : facE p m = 0 := by
  unfold facE
  rw [if_neg (by simpa using h), k]
  rfl
theorem facL_none {p : Pa} {m : Int} (h : ¬ facE p m = 0) : facL p m = [] := by
  unfold facL
  rw [if_neg h]
theorem facL_some {p : Pa} {m : Int} (h : facE p m = 0) : facL p m = facs flC p.wd p.ht p.fl (fun i => m.toNat.testBit i) p.fl.length := by
  unfold facL
  rw [if_pos h]
theorem facE_zero {p : Pa} {m : Int} (h : facE p m = 0) : valE p = 0 ∧ wiB m 0 (fuM p) = true := by
  unfold facE at h
  split at h
  · rename_i h1
    exact absurd h h1
  · rename_i h1
    split at h
    · rename_i h2
      exact ⟨by simpa using h1, h2⟩
    · cases h
theorem facL_len {p : Pa} {m : Int} : (facL p m).length ≤ 6 := by
  by_cases h : facE p m = 0
  · rw [facL_some h, facs_len (Nat.le_refl _)]
    have := (good_of (facE_zero h).1).nfl
    omega
  · rw [facL_none h]
    simp
abbrev sle (v : Value) (e : Int) : Value := .tuple #[v, iv e]
theorem ret_sle {v : Value} {a b : Int} (h : a = b) : Ending.returned (sle v a) = .returned (sle v b) := by rw [h]
set_option maxRecDepth 100000 in
set_option maxHeartbeats 4000000 in
theorem Faces_any (p : Pa) (A B : Option Addr) (c d : Nat) (m : Int) (w : World) (hP : PaW w p A c B d) :
    Calls Try.prog 21 #[pav p A c B d, iv m] w fun e w' => ∃ v, e = .returned (sle v (facE p m)) ∧ OwnL w' w.heap.size 48 11 fcL v (facL p m) ∧ Gr w w' := by
  have HV := hide (fun (w' : World) (g : Gr w w') => Validate_any p A B c d w' (hP.gr g))
  by_cases h0 : valE p = 0
  · have G := good_of h0
    have HM := hide (fun w' => fullMask_any p A B c d w' G.nfl)
    rw [show ((2 ^ p.fl.length - 1 : Nat) : Int) = fuM p from rfl] at HM
    rw [h0] at HV
    cases hm : wiB m 0 (fuM p) with
    | true =>
      have hE := facE_ok h0 hm
      obtain ⟨k, rfl, hk⟩ := fuM_lt G.nfl hm
      have HL := hide (facL_some hE)
      rw [hE]
      have HF := hide (fun (w' : World) (g : Gr w w') => faces_any p A B c d k w' (hP.fl.gr g) G.nfl hk G.fl.fit)
      rw [show ((k : Nat) : Int).toNat = k from rfl] at HL
      generalize facs flC p.wd p.ht p.fl (fun i => k.testBit i) p.fl.length = FS at *
      have HT := hide hm
      generalize fuM p = M at *
      clear hE h0 G hP HT
      go_enter Try.func21, Try.ntmps21
      go_wp2_with fail
      refine (HV.out _ (by repeat (first | with_reducible exact Gr.refl _ | with_reducible assumption | with_reducible refine Gr.alloc ?_ _ | with_reducible refine Gr.drewN ?_ _ | with_reducible refine Gr.drew ?_ | with_reducible refine Gr.setCell ?_ (by first | (dsimp only; omega) | (simp only [World.size_alloc]; omega) | (with_reducible refine Gr.size ?_; (repeat (first | with_reducible exact Gr.refl _ | with_reducible assumption | with_reducible refine Gr.alloc ?_ _ | with_reducible refine Gr.drewN ?_ _ | with_reducible refine Gr.drew ?_ | with_reducible refine Gr.trans ?_ (by with_reducible assumption))); done)) _ | with_reducible refine Gr.trans ?_ (by with_reducible assumption)))).mono ?_
      rintro e w1 ⟨rfl, g1⟩
      obtain ⟨X1, Y1, c1, f1⟩ := g1.use
      have z1 := g1.size
      simp only [World.size_alloc] at z1
      have l1 : w.heap.size < w1.heap.size := by omega
      have gw1 : Gr w w1 := (by repeat (first | with_reducible exact Gr.refl _ | with_reducible assumption | with_reducible refine Gr.alloc ?_ _ | with_reducible refine Gr.drewN ?_ _ | with_reducible refine Gr.drew ?_ | with_reducible refine Gr.setCell ?_ (by first | (dsimp only; omega) | (simp only [World.size_alloc]; omega) | (with_reducible refine Gr.size ?_; (repeat (first | with_reducible exact Gr.refl _ | with_reducible assumption | with_reducible refine Gr.alloc ?_ _ | with_reducible refine Gr.drewN ?_ _ | with_reducible refine Gr.drew ?_ | with_reducible refine Gr.trans ?_ (by with_reducible assumption))); done)) _ | with_reducible refine Gr.trans ?_ (by with_reducible assumption)))
      go_wp2_with fail
      refine (HM.out _).mono ?_
      rintro e w2 ⟨rfl, g2⟩
      obtain ⟨X2, Y2, c2, f2⟩ := g2.use
      have z2 := g2.size
      have l2 : w.heap.size < w2.heap.size := by omega
      have gw2 : Gr w w2 := gw1.trans g2
      go_wp2_with (first | (go_at_call 73; refine (pwithin_any _ _ _ _).mono ?_; rintro e w1 ⟨rfl, rfl⟩))
      refine (HF.out _ gw2).mono ?_
      rintro e w3 ⟨v3, rfl, o3, g3⟩
      obtain ⟨A3, d3, rfl⟩ := o3.slice
      have HO := hide (o3.weak (lo := w.heap.size) gw2.size)
      clear o3
      go_wp2_with fail
      go_ret2
      exact ⟨.slice A3 FS.length d3, rfl, by rw [HL.out]; exact HO.out, (by repeat (first | with_reducible exact Gr.refl _ | with_reducible assumption | with_reducible refine Gr.alloc ?_ _ | with_reducible refine Gr.drewN ?_ _ | with_reducible refine Gr.drew ?_ | with_reducible refine Gr.setCell ?_ (by first | (dsimp only; omega) | (simp only [World.size_alloc]; omega) | (with_reducible refine Gr.size ?_; (repeat (first | with_reducible exact Gr.refl _ | with_reducible assumption | with_reducible refine Gr.alloc ?_ _ | with_reducible refine Gr.drewN ?_ _ | with_reducible refine Gr.drew ?_ | with_reducible refine Gr.trans ?_ (by with_reducible assumption))); done)) _ | with_reducible refine Gr.trans ?_ (by with_reducible assumption)))⟩
    | false =>
      have hE := facE_arg h0 hm
      have HL := hide (facL_none (p := p) (m := m) (by rw [hE]; decide))
      rw [hE]
      generalize fuM p = M at *
      clear hE h0 G hP
      go_enter Try.func21, Try.ntmps21
      go_wp2_with fail
      refine (HV.out _ (by repeat (first | with_reducible exact Gr.refl _ | with_reducible assumption | with_reducible refine Gr.alloc ?_ _ | with_reducible refine Gr.drewN ?_ _ | with_reducible refine Gr.drew ?_ | with_reducible refine Gr.setCell ?_ (by first | (dsimp only; omega) | (simp only [World.size_alloc]; omega) | (with_reducible refine Gr.size ?_; (repeat (first | with_reducible exact Gr.refl _ | with_reducible assumption | with_reducible refine Gr.alloc ?_ _ | with_reducible refine Gr.drewN ?_ _ | with_reducible refine Gr.drew ?_ | with_reducible refine Gr.trans ?_ (by with_reducible assumption))); done)) _ | with_reducible refine Gr.trans ?_ (by with_reducible assumption)))).mono ?_
      rintro e w1 ⟨rfl, g1⟩
      obtain ⟨X1, Y1, c1, f1⟩ := g1.use
      have z1 := g1.size
      simp only [World.size_alloc] at z1
      have l1 : w.heap.size < w1.heap.size := by omega
      have gw1 : Gr w w1 := (by repeat (first | with_reducible exact Gr.refl _ | with_reducible assumption | with_reducible refine Gr.alloc ?_ _ | with_reducible refine Gr.drewN ?_ _ | with_reducible refine Gr.drew ?_ | with_reducible refine Gr.setCell ?_ (by first | (dsimp only; omega) | (simp only [World.size_alloc]; omega) | (with_reducible refine Gr.size ?_; (repeat (first | with_reducible exact Gr.refl _ | with_reducible assumption | with_reducible refine Gr.alloc ?_ _ | with_reducible refine Gr.drewN ?_ _ | with_reducible refine Gr.drew ?_ | with_reducible refine Gr.trans ?_ (by with_reducible assumption))); done)) _ | with_reducible refine Gr.trans ?_ (by with_reducible assumption)))
      go_wp2_with fail
      refine (HM.out _).mono ?_
      rintro e w2 ⟨rfl, g2⟩
      go_wp2_with (first | (go_at_call 73; refine (pwithin_any _ _ _ _).mono ?_; rintro e w1 ⟨rfl, rfl⟩))
      go_ret2
      exact ⟨.slice none 0 0, rfl, by rw [HL.out]; exact own_nil _ _ _ _ _, (by repeat (first | with_reducible exact Gr.refl _ | with_reducible assumption | with_reducible refine Gr.alloc ?_ _ | with_reducible refine Gr.drewN ?_ _ | with_reducible refine Gr.drew ?_ | with_reducible refine Gr.setCell ?_ (by first | (dsimp only; omega) | (simp only [World.size_alloc]; omega) | (with_reducible refine Gr.size ?_; (repeat (first | with_reducible exact Gr.refl _ | with_reducible assumption | with_reducible refine Gr.alloc ?_ _ | with_reducible refine Gr.drewN ?_ _ | with_reducible refine Gr.drew ?_ | with_reducible refine Gr.trans ?_ (by with_reducible assumption))); done)) _ | with_reducible refine Gr.trans ?_ (by with_reducible assumption)))⟩
  · have hE := facE_bad (m := m) h0
    have HL := hide (facL_none (p := p) (m := m) (by rw [hE]; exact h0))
    rw [hE]
    have h0' : (valE p != 0) = true := by simpa using h0
    generalize valE p = x at *
    clear hE h0 hP
    go_enter Try.func21, Try.ntmps21
    go_wp2_with fail
    refine (HV.out _ (by repeat (first | with_reducible exact Gr.refl _ | with_reducible assumption | with_reducible refine Gr.alloc ?_ _ | with_reducible refine Gr.drewN ?_ _ | with_reducible refine Gr.drew ?_ | with_reducible refine Gr.setCell ?_ (by first | (dsimp only; omega) | (simp only [World.size_alloc]; omega) | (with_reducible refine Gr.size ?_; (repeat (first | with_reducible exact Gr.refl _ | with_reducible assumption | with_reducible refine Gr.alloc ?_ _ | with_reducible refine Gr.drewN ?_ _ | with_reducible refine Gr.drew ?_ | with_reducible refine Gr.trans ?_ (by with_reducible assumption))); done)) _ | with_reducible refine Gr.trans ?_ (by with_reducible assumption)))).mono ?_
    rintro e w1 ⟨rfl, g1⟩
    go_wp2_with fail
    go_ret2
    exact ⟨.slice none 0 0, rfl, by rw [HL.out]; exact own_nil _ _ _ _ _, (by repeat (first | with_reducible exact Gr.refl _ | with_reducible assumption | with_reducible refine Gr.alloc ?_ _ | with_reducible refine Gr.drewN ?_ _ | with_reducible refine Gr.drew ?_ | with_reducible refine Gr.setCell ?_ (by first | (dsimp only; omega) | (simp only [World.size_alloc]; omega) | (with_reducible refine Gr.size ?_; (repeat (first | with_reducible exact Gr.refl _ | with_reducible assumption | with_reducible refine Gr.alloc ?_ _ | with_reducible refine Gr.drewN ?_ _ | with_reducible refine Gr.drew ?_ | with_reducible refine Gr.trans ?_ (by with_reducible assumption))); done)) _ | with_reducible refine Gr.trans ?_ (by with_reducible assumption)))⟩
end Go.Proofs.Ytpmomgfepkegnaa
