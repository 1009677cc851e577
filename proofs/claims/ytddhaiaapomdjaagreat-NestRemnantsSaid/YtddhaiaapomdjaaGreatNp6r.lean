/-
  Nests: the error of a piece, of the code.
-/
import Derived.Test.YtddhaiaapomdjaaGreatNp4r
set_option linter.unusedVariables false
set_option linter.unusedSimpArgs false
namespace Go.Proofs.YtddhaiaapomdjaaGreat
set_option linter.unusedVariables false
set_option linter.unusedSimpArgs false
open Go Go.ChangeShapes Go.WideShapes Go.ChangeAt Go.RowKit Go.Deep

namespace RG
/-- a piece, and where its lists lie -/
structure Pc where
  nm : ByteArray
  mt : ByteArray
  ga : Int
  gr : Int
  rA : Option Addr
  rc : Nat
  r : List Rc
  cA : Option Addr
  cc : Nat
  c : List Rc
  fA : Option Addr
  fc : Nat
  f : List Rc
abbrev pcvv (nm mt : ByteArray) (ga gr : Int) (a b c : Value) : Value := .agg #[.string nm, .string mt, iv ga, iv gr, a, b, c]
abbrev Pc.v (p : Pc) : Value := pcvv p.nm p.mt p.ga p.gr (.slice p.rA p.r.length p.rc) (.slice p.cA p.c.length p.cc) (.slice p.fA p.f.length p.fc)
structure PcW (w : World) (p : Pc) : Prop where
  r : SlR w p.rA p.rc p.r
  c : SlR w p.cA p.cc p.c
  f : SlR w p.fA p.fc p.f
  n1 : p.nm.size ≤ 9223372036854775807
  n2 : p.mt.size ≤ 9223372036854775807
theorem PcW.gr {w w' : World} {p : Pc} (h : PcW w p) (g : Gr w w') : PcW w' p := ⟨h.r.gr g, h.c.gr g, h.f.gr g, h.n1, h.n2⟩
/-- whether what is reached is all, for a given answer -/
def CoB (l : List Rc) (b : Bool) : Prop := b = true ↔ Con (nbL l) l.length
theorem coB_ex (l : List Rc) : ∃ b, CoB l b := by
  rcases Classical.em (Con (nbL l) l.length) with h | h
  · exact ⟨true, ⟨fun _ => h, fun _ => rfl⟩⟩
  · exact ⟨false, ⟨nofun, fun e => absurd e h⟩⟩
/-- the error of a piece; b: it is connected -/
def vpE (p : Pc) (b : Bool) : Int :=
  if (nameB p.nm.toList && nameB p.mt.toList) = true then
    if knB p.ga p.gr = true then
      if 12 < p.r.length ∨ 12 < p.c.length ∨ 12 < p.f.length then 4 else
      if p.r.length = 0 then 1 else
      if (vaB p.r && (vaB p.c && vaB p.f)) = true then
        if boB p.r = true then
          if apB ovQ p.r = true then 7 else
          if b = true then
            if hoFB p.r p.c p.f = true then
              if apB toR (p.c ++ p.f) = true then 7 else 0
            else 13
          else 6
        else 1
      else 1
    else 1
  else 2
theorem slRR_3n {w : World} {A B C : Option Addr} {c d q : Nat} {l m n : List Rc} (t : TypeId) (h : SlR w A c l) (k : SlR w B d m) (j : SlR w C q n) : SlRR (w.alloc (.cells #[.slice A l.length c, .slice B m.length d, .slice C n.length q] t)) (some ⟨w.heap.size, 0, none⟩) 3 [⟨A, c, l⟩, ⟨B, d, m⟩, ⟨C, q, n⟩] := by
  refine ⟨?_, ?_, by simp, by omega⟩
  · intro i x hi
    match i with
    | 0 =>
      simp only [List.getElem?_cons_zero, Option.some.injEq] at hi
      subst hi
      exact ⟨w.heap.size, 0, rfl, by simp [go_sem], trivial⟩
    | 1 =>
      simp only [List.getElem?_cons_succ, List.getElem?_cons_zero, Option.some.injEq] at hi
      subst hi
      exact ⟨w.heap.size, 0, rfl, by simp [go_sem], trivial⟩
    | 2 =>
      simp only [List.getElem?_cons_succ, List.getElem?_cons_zero, Option.some.injEq] at hi
      subst hi
      exact ⟨w.heap.size, 0, rfl, by simp [go_sem], trivial⟩
    | i + 3 => simp at hi
  · intro x hx
    simp only [List.mem_cons, List.not_mem_nil, or_false] at hx
    rcases hx with rfl | rfl | rfl
    · exact h.gr (Gr.alloc (Gr.refl _) _)
    · exact k.gr (Gr.alloc (Gr.refl _) _)
    · exact j.gr (Gr.alloc (Gr.refl _) _)
theorem nle0 {n : Nat} (h : ¬ n = 0) : ((n : Int) == 0) = false := by simp; omega
theorem is0 {n : Nat} (h : n = 0) : ((n : Int) == 0) = true := by simp; omega
set_option maxHeartbeats 4000000 in
set_option maxRecDepth 100000 in
theorem vp_1 (nm mt : ByteArray) (ga gr : Int) (rA : Option Addr) (rc : Nat) (r : List Rc) (cA : Option Addr) (cc : Nat) (c : List Rc) (fA : Option Addr) (fc : Nat) (f : List Rc) (b : Bool) (w : World) (hp : PcW w ⟨nm, mt, ga, gr, rA, rc, r, cA, cc, c, fA, fc, f⟩) (hb : CoB r b) (h1 : nameB nm.toList = false) :
    Calls Tryz.prog 25 #[pcvv nm mt ga gr (.slice rA r.length rc) (.slice cA c.length cc) (.slice fA f.length fc)] w fun e w' => e = .returned (iv (2)) ∧ Gr w w' := by
  have m1 := hp.n1
  have m2 := hp.n2
  have n1 := hp.r.cap
  have n2 := hp.r.capB
  have n3 := hp.c.cap
  have n4 := hp.c.capB
  have n5 := hp.f.cap
  have n6 := hp.f.capB
  have HP := hide hp
  have HBB := hide hb
  dsimp only at m1 m2 n1 n2 n3 n4 n5 n6
  clear hp hb
  go_enter Tryz.func25, Tryz.ntmps25
  go_wp2_with (first | (go_at_call 58; refine (validName_any _ _ (by omega)).mono ?_; rintro e w1 ⟨rfl, rfl⟩))
  go_ret
  exact ⟨rfl, (by with_reducible repeat (first | exact Gr.refl _ | assumption | refine Gr.alloc ?_ _ | refine Gr.drewN ?_ _ | refine Gr.drew ?_ | refine Gr.setCell ?_ (by first | (dsimp only; omega) | (simp only [World.size_alloc]; omega) | (refine Gr.size ?_; (repeat (first | exact Gr.refl _ | assumption | refine Gr.alloc ?_ _ | refine Gr.drewN ?_ _ | refine Gr.drew ?_ | refine Gr.trans ?_ (by assumption))); done)) _ | refine Gr.trans ?_ (by assumption)))⟩
set_option maxHeartbeats 4000000 in
set_option maxRecDepth 100000 in
theorem vp_2 (nm mt : ByteArray) (ga gr : Int) (rA : Option Addr) (rc : Nat) (r : List Rc) (cA : Option Addr) (cc : Nat) (c : List Rc) (fA : Option Addr) (fc : Nat) (f : List Rc) (b : Bool) (w : World) (hp : PcW w ⟨nm, mt, ga, gr, rA, rc, r, cA, cc, c, fA, fc, f⟩) (hb : CoB r b) (h1 : nameB nm.toList = true) (h2 : nameB mt.toList = false) :
    Calls Tryz.prog 25 #[pcvv nm mt ga gr (.slice rA r.length rc) (.slice cA c.length cc) (.slice fA f.length fc)] w fun e w' => e = .returned (iv (2)) ∧ Gr w w' := by
  have m1 := hp.n1
  have m2 := hp.n2
  have n1 := hp.r.cap
  have n2 := hp.r.capB
  have n3 := hp.c.cap
  have n4 := hp.c.capB
  have n5 := hp.f.cap
  have n6 := hp.f.capB
  have HP := hide hp
  have HBB := hide hb
  dsimp only at m1 m2 n1 n2 n3 n4 n5 n6
  clear hp hb
  go_enter Tryz.func25, Tryz.ntmps25
  go_wp2_with (first | (go_at_call 58; refine (validName_any _ _ (by omega)).mono ?_; rintro e w1 ⟨rfl, rfl⟩))
  go_ret
  exact ⟨rfl, (by with_reducible repeat (first | exact Gr.refl _ | assumption | refine Gr.alloc ?_ _ | refine Gr.drewN ?_ _ | refine Gr.drew ?_ | refine Gr.setCell ?_ (by first | (dsimp only; omega) | (simp only [World.size_alloc]; omega) | (refine Gr.size ?_; (repeat (first | exact Gr.refl _ | assumption | refine Gr.alloc ?_ _ | refine Gr.drewN ?_ _ | refine Gr.drew ?_ | refine Gr.trans ?_ (by assumption))); done)) _ | refine Gr.trans ?_ (by assumption)))⟩
set_option maxHeartbeats 4000000 in
set_option maxRecDepth 100000 in
theorem vp_3 (nm mt : ByteArray) (ga gr : Int) (rA : Option Addr) (rc : Nat) (r : List Rc) (cA : Option Addr) (cc : Nat) (c : List Rc) (fA : Option Addr) (fc : Nat) (f : List Rc) (b : Bool) (w : World) (hp : PcW w ⟨nm, mt, ga, gr, rA, rc, r, cA, cc, c, fA, fc, f⟩) (hb : CoB r b) (h1 : nameB nm.toList = true) (h2 : nameB mt.toList = true) (h3 : knB ga gr = false) :
    Calls Tryz.prog 25 #[pcvv nm mt ga gr (.slice rA r.length rc) (.slice cA c.length cc) (.slice fA f.length fc)] w fun e w' => e = .returned (iv (1)) ∧ Gr w w' := by
  have m1 := hp.n1
  have m2 := hp.n2
  have n1 := hp.r.cap
  have n2 := hp.r.capB
  have n3 := hp.c.cap
  have n4 := hp.c.capB
  have n5 := hp.f.cap
  have n6 := hp.f.capB
  have HP := hide hp
  have HBB := hide hb
  dsimp only at m1 m2 n1 n2 n3 n4 n5 n6
  clear hp hb
  go_enter Tryz.func25, Tryz.ntmps25
  go_wp2_with (first | (go_at_call 58; refine (validName_any _ _ (by omega)).mono ?_; rintro e w1 ⟨rfl, rfl⟩) | (go_at_call 59; refine (validKind_any _ _ _).mono ?_; rintro e w1 ⟨rfl, rfl⟩))
  go_ret
  exact ⟨rfl, (by with_reducible repeat (first | exact Gr.refl _ | assumption | refine Gr.alloc ?_ _ | refine Gr.drewN ?_ _ | refine Gr.drew ?_ | refine Gr.setCell ?_ (by first | (dsimp only; omega) | (simp only [World.size_alloc]; omega) | (refine Gr.size ?_; (repeat (first | exact Gr.refl _ | assumption | refine Gr.alloc ?_ _ | refine Gr.drewN ?_ _ | refine Gr.drew ?_ | refine Gr.trans ?_ (by assumption))); done)) _ | refine Gr.trans ?_ (by assumption)))⟩
set_option maxHeartbeats 4000000 in
set_option maxRecDepth 100000 in
theorem vp_4 (nm mt : ByteArray) (ga gr : Int) (rA : Option Addr) (rc : Nat) (r : List Rc) (cA : Option Addr) (cc : Nat) (c : List Rc) (fA : Option Addr) (fc : Nat) (f : List Rc) (b : Bool) (w : World) (hp : PcW w ⟨nm, mt, ga, gr, rA, rc, r, cA, cc, c, fA, fc, f⟩) (hb : CoB r b) (h1 : nameB nm.toList = true) (h2 : nameB mt.toList = true) (h3 : knB ga gr = true) (h4 : 12 < r.length) :
    Calls Tryz.prog 25 #[pcvv nm mt ga gr (.slice rA r.length rc) (.slice cA c.length cc) (.slice fA f.length fc)] w fun e w' => e = .returned (iv (4)) ∧ Gr w w' := by
  have m1 := hp.n1
  have m2 := hp.n2
  have n1 := hp.r.cap
  have n2 := hp.r.capB
  have n3 := hp.c.cap
  have n4 := hp.c.capB
  have n5 := hp.f.cap
  have n6 := hp.f.capB
  have HP := hide hp
  have HBB := hide hb
  dsimp only at m1 m2 n1 n2 n3 n4 n5 n6
  clear hp hb
  have i4 : (12 : Int) < (r.length : Int) := by omega
  clear h4
  go_enter Tryz.func25, Tryz.ntmps25
  go_wp2_with (first | (go_at_call 58; refine (validName_any _ _ (by omega)).mono ?_; rintro e w1 ⟨rfl, rfl⟩) | (go_at_call 59; refine (validKind_any _ _ _).mono ?_; rintro e w1 ⟨rfl, rfl⟩))
  go_ret
  exact ⟨rfl, (by with_reducible repeat (first | exact Gr.refl _ | assumption | refine Gr.alloc ?_ _ | refine Gr.drewN ?_ _ | refine Gr.drew ?_ | refine Gr.setCell ?_ (by first | (dsimp only; omega) | (simp only [World.size_alloc]; omega) | (refine Gr.size ?_; (repeat (first | exact Gr.refl _ | assumption | refine Gr.alloc ?_ _ | refine Gr.drewN ?_ _ | refine Gr.drew ?_ | refine Gr.trans ?_ (by assumption))); done)) _ | refine Gr.trans ?_ (by assumption)))⟩
set_option maxHeartbeats 4000000 in
set_option maxRecDepth 100000 in
theorem vp_5 (nm mt : ByteArray) (ga gr : Int) (rA : Option Addr) (rc : Nat) (r : List Rc) (cA : Option Addr) (cc : Nat) (c : List Rc) (fA : Option Addr) (fc : Nat) (f : List Rc) (b : Bool) (w : World) (hp : PcW w ⟨nm, mt, ga, gr, rA, rc, r, cA, cc, c, fA, fc, f⟩) (hb : CoB r b) (h1 : nameB nm.toList = true) (h2 : nameB mt.toList = true) (h3 : knB ga gr = true) (h4 : ¬ 12 < r.length) (h5 : 12 < c.length) :
    Calls Tryz.prog 25 #[pcvv nm mt ga gr (.slice rA r.length rc) (.slice cA c.length cc) (.slice fA f.length fc)] w fun e w' => e = .returned (iv (4)) ∧ Gr w w' := by
  have m1 := hp.n1
  have m2 := hp.n2
  have n1 := hp.r.cap
  have n2 := hp.r.capB
  have n3 := hp.c.cap
  have n4 := hp.c.capB
  have n5 := hp.f.cap
  have n6 := hp.f.capB
  have HP := hide hp
  have HBB := hide hb
  dsimp only at m1 m2 n1 n2 n3 n4 n5 n6
  clear hp hb
  have i4 : ¬ (12 : Int) < (r.length : Int) := by omega
  have i5 : (12 : Int) < (c.length : Int) := by omega
  clear h4 h5
  go_enter Tryz.func25, Tryz.ntmps25
  go_wp2_with (first | (go_at_call 58; refine (validName_any _ _ (by omega)).mono ?_; rintro e w1 ⟨rfl, rfl⟩) | (go_at_call 59; refine (validKind_any _ _ _).mono ?_; rintro e w1 ⟨rfl, rfl⟩))
  go_ret
  exact ⟨rfl, (by with_reducible repeat (first | exact Gr.refl _ | assumption | refine Gr.alloc ?_ _ | refine Gr.drewN ?_ _ | refine Gr.drew ?_ | refine Gr.setCell ?_ (by first | (dsimp only; omega) | (simp only [World.size_alloc]; omega) | (refine Gr.size ?_; (repeat (first | exact Gr.refl _ | assumption | refine Gr.alloc ?_ _ | refine Gr.drewN ?_ _ | refine Gr.drew ?_ | refine Gr.trans ?_ (by assumption))); done)) _ | refine Gr.trans ?_ (by assumption)))⟩
set_option maxHeartbeats 4000000 in
set_option maxRecDepth 100000 in
theorem vp_6 (nm mt : ByteArray) (ga gr : Int) (rA : Option Addr) (rc : Nat) (r : List Rc) (cA : Option Addr) (cc : Nat) (c : List Rc) (fA : Option Addr) (fc : Nat) (f : List Rc) (b : Bool) (w : World) (hp : PcW w ⟨nm, mt, ga, gr, rA, rc, r, cA, cc, c, fA, fc, f⟩) (hb : CoB r b) (h1 : nameB nm.toList = true) (h2 : nameB mt.toList = true) (h3 : knB ga gr = true) (h4 : ¬ 12 < r.length) (h5 : ¬ 12 < c.length) (h6 : 12 < f.length) :
    Calls Tryz.prog 25 #[pcvv nm mt ga gr (.slice rA r.length rc) (.slice cA c.length cc) (.slice fA f.length fc)] w fun e w' => e = .returned (iv (4)) ∧ Gr w w' := by
  have m1 := hp.n1
  have m2 := hp.n2
  have n1 := hp.r.cap
  have n2 := hp.r.capB
  have n3 := hp.c.cap
  have n4 := hp.c.capB
  have n5 := hp.f.cap
  have n6 := hp.f.capB
  have HP := hide hp
  have HBB := hide hb
  dsimp only at m1 m2 n1 n2 n3 n4 n5 n6
  clear hp hb
  have i4 : ¬ (12 : Int) < (r.length : Int) := by omega
  have i5 : ¬ (12 : Int) < (c.length : Int) := by omega
  have i6 : (12 : Int) < (f.length : Int) := by omega
  clear h4 h5 h6
  go_enter Tryz.func25, Tryz.ntmps25
  go_wp2_with (first | (go_at_call 58; refine (validName_any _ _ (by omega)).mono ?_; rintro e w1 ⟨rfl, rfl⟩) | (go_at_call 59; refine (validKind_any _ _ _).mono ?_; rintro e w1 ⟨rfl, rfl⟩))
  go_ret
  exact ⟨rfl, (by with_reducible repeat (first | exact Gr.refl _ | assumption | refine Gr.alloc ?_ _ | refine Gr.drewN ?_ _ | refine Gr.drew ?_ | refine Gr.setCell ?_ (by first | (dsimp only; omega) | (simp only [World.size_alloc]; omega) | (refine Gr.size ?_; (repeat (first | exact Gr.refl _ | assumption | refine Gr.alloc ?_ _ | refine Gr.drewN ?_ _ | refine Gr.drew ?_ | refine Gr.trans ?_ (by assumption))); done)) _ | refine Gr.trans ?_ (by assumption)))⟩
set_option maxHeartbeats 4000000 in
set_option maxRecDepth 100000 in
theorem vp_7 (nm mt : ByteArray) (ga gr : Int) (rA : Option Addr) (rc : Nat) (r : List Rc) (cA : Option Addr) (cc : Nat) (c : List Rc) (fA : Option Addr) (fc : Nat) (f : List Rc) (b : Bool) (w : World) (hp : PcW w ⟨nm, mt, ga, gr, rA, rc, r, cA, cc, c, fA, fc, f⟩) (hb : CoB r b) (h1 : nameB nm.toList = true) (h2 : nameB mt.toList = true) (h3 : knB ga gr = true) (h4 : ¬ 12 < r.length) (h5 : ¬ 12 < c.length) (h6 : ¬ 12 < f.length) (h7 : r.length = 0) :
    Calls Tryz.prog 25 #[pcvv nm mt ga gr (.slice rA r.length rc) (.slice cA c.length cc) (.slice fA f.length fc)] w fun e w' => e = .returned (iv (1)) ∧ Gr w w' := by
  have m1 := hp.n1
  have m2 := hp.n2
  have n1 := hp.r.cap
  have n2 := hp.r.capB
  have n3 := hp.c.cap
  have n4 := hp.c.capB
  have n5 := hp.f.cap
  have n6 := hp.f.capB
  have HP := hide hp
  have HBB := hide hb
  dsimp only at m1 m2 n1 n2 n3 n4 n5 n6
  clear hp hb
  have i4 : ¬ (12 : Int) < (r.length : Int) := by omega
  have i5 : ¬ (12 : Int) < (c.length : Int) := by omega
  have i6 : ¬ (12 : Int) < (f.length : Int) := by omega
  have i7 := is0 h7
  clear h4 h5 h6 h7
  go_enter Tryz.func25, Tryz.ntmps25
  go_wp2_with (first | (go_at_call 58; refine (validName_any _ _ (by omega)).mono ?_; rintro e w1 ⟨rfl, rfl⟩) | (go_at_call 59; refine (validKind_any _ _ _).mono ?_; rintro e w1 ⟨rfl, rfl⟩))
  go_ret
  exact ⟨rfl, (by with_reducible repeat (first | exact Gr.refl _ | assumption | refine Gr.alloc ?_ _ | refine Gr.drewN ?_ _ | refine Gr.drew ?_ | refine Gr.setCell ?_ (by first | (dsimp only; omega) | (simp only [World.size_alloc]; omega) | (refine Gr.size ?_; (repeat (first | exact Gr.refl _ | assumption | refine Gr.alloc ?_ _ | refine Gr.drewN ?_ _ | refine Gr.drew ?_ | refine Gr.trans ?_ (by assumption))); done)) _ | refine Gr.trans ?_ (by assumption)))⟩
set_option maxHeartbeats 4000000 in
set_option maxRecDepth 100000 in
theorem vp_8 (nm mt : ByteArray) (ga gr : Int) (rA : Option Addr) (rc : Nat) (r : List Rc) (cA : Option Addr) (cc : Nat) (c : List Rc) (fA : Option Addr) (fc : Nat) (f : List Rc) (b : Bool) (w : World) (hp : PcW w ⟨nm, mt, ga, gr, rA, rc, r, cA, cc, c, fA, fc, f⟩) (hb : CoB r b) (h1 : nameB nm.toList = true) (h2 : nameB mt.toList = true) (h3 : knB ga gr = true) (h4 : ¬ 12 < r.length) (h5 : ¬ 12 < c.length) (h6 : ¬ 12 < f.length) (h7 : ¬ r.length = 0) (hv : (vaB r && (vaB c && vaB f)) = false) :
    Calls Tryz.prog 25 #[pcvv nm mt ga gr (.slice rA r.length rc) (.slice cA c.length cc) (.slice fA f.length fc)] w fun e w' => e = .returned (iv (1)) ∧ Gr w w' := by
  have m1 := hp.n1
  have m2 := hp.n2
  have n1 := hp.r.cap
  have n2 := hp.r.capB
  have n3 := hp.c.cap
  have n4 := hp.c.capB
  have n5 := hp.f.cap
  have n6 := hp.f.capB
  have HP := hide hp
  have HBB := hide hb
  dsimp only at m1 m2 n1 n2 n3 n4 n5 n6
  clear hp hb
  have i4 : ¬ (12 : Int) < (r.length : Int) := by omega
  have i5 : ¬ (12 : Int) < (c.length : Int) := by omega
  have i6 : ¬ (12 : Int) < (f.length : Int) := by omega
  have i7 := nle0 h7
  have hr0 : 0 < r.length := by omega
  have HR0 := hide hr0
  clear hr0
  have g0 : Gr w (w.alloc (.cells #[.string nm, .string mt, iv ga, iv gr, .slice rA r.length rc, .slice cA c.length cc, .slice fA f.length fc] 27)) := Gr.alloc (Gr.refl _) _
  have HR3 := slRR_3n 22 (HP.out.gr g0).r (HP.out.gr g0).c (HP.out.gr g0).f
  rw [World.size_alloc] at HR3
  have HVR := hide (validRects_any _ 3 _ _ HR3)
  rw [show vasB [⟨rA, rc, r⟩, ⟨cA, cc, c⟩, ⟨fA, fc, f⟩] = (vaB r && (vaB c && vaB f)) by simp [vasB], show ([⟨rA, rc, r⟩, ⟨cA, cc, c⟩, ⟨fA, fc, f⟩] : List RS).length = 3 from rfl, hv] at HVR
  clear HR3 g0
  clear h4 h5 h6 h7
  clear hv
  go_enter Tryz.func25, Tryz.ntmps25
  go_wp2_with (first | (go_at_call 58; refine (validName_any _ _ (by omega)).mono ?_; rintro e w1 ⟨rfl, rfl⟩) | (go_at_call 59; refine (validKind_any _ _ _).mono ?_; rintro e w1 ⟨rfl, rfl⟩) | (go_at_call 61; refine (HVR.out).mono ?_; rintro e w1 ⟨rfl, g1⟩; obtain ⟨X1, Y1, c1, f1⟩ := g1.use; have z1 := g1.size; (try simp only [World.size_alloc, World.size_setCell, World.heap_drewN, Nat.add_one_le_iff] at z1); (try have l0 : w.heap.size < w1.heap.size := by omega); (try have l1 : w.heap.size + 1 < w1.heap.size := by omega); (try have l2 : w.heap.size + 1 + 1 < w1.heap.size := by omega)))
  go_ret
  exact ⟨rfl, (by with_reducible repeat (first | exact Gr.refl _ | assumption | refine Gr.alloc ?_ _ | refine Gr.drewN ?_ _ | refine Gr.drew ?_ | refine Gr.setCell ?_ (by first | (dsimp only; omega) | (simp only [World.size_alloc]; omega) | (refine Gr.size ?_; (repeat (first | exact Gr.refl _ | assumption | refine Gr.alloc ?_ _ | refine Gr.drewN ?_ _ | refine Gr.drew ?_ | refine Gr.trans ?_ (by assumption))); done)) _ | refine Gr.trans ?_ (by assumption)))⟩
set_option maxHeartbeats 4000000 in
set_option maxRecDepth 100000 in
theorem vp_9 (nm mt : ByteArray) (ga gr : Int) (rA : Option Addr) (rc : Nat) (r : List Rc) (cA : Option Addr) (cc : Nat) (c : List Rc) (fA : Option Addr) (fc : Nat) (f : List Rc) (b : Bool) (w : World) (hp : PcW w ⟨nm, mt, ga, gr, rA, rc, r, cA, cc, c, fA, fc, f⟩) (hb : CoB r b) (h1 : nameB nm.toList = true) (h2 : nameB mt.toList = true) (h3 : knB ga gr = true) (h4 : ¬ 12 < r.length) (h5 : ¬ 12 < c.length) (h6 : ¬ 12 < f.length) (h7 : ¬ r.length = 0) (hv : (vaB r && (vaB c && vaB f)) = true) (h9 : boB r = false) :
    Calls Tryz.prog 25 #[pcvv nm mt ga gr (.slice rA r.length rc) (.slice cA c.length cc) (.slice fA f.length fc)] w fun e w' => e = .returned (iv (1)) ∧ Gr w w' := by
  have m1 := hp.n1
  have m2 := hp.n2
  have n1 := hp.r.cap
  have n2 := hp.r.capB
  have n3 := hp.c.cap
  have n4 := hp.c.capB
  have n5 := hp.f.cap
  have n6 := hp.f.capB
  have HP := hide hp
  have HBB := hide hb
  dsimp only at m1 m2 n1 n2 n3 n4 n5 n6
  clear hp hb
  have i4 : ¬ (12 : Int) < (r.length : Int) := by omega
  have i5 : ¬ (12 : Int) < (c.length : Int) := by omega
  have i6 : ¬ (12 : Int) < (f.length : Int) := by omega
  have i7 := nle0 h7
  have hr0 : 0 < r.length := by omega
  have HR0 := hide hr0
  clear hr0
  have g0 : Gr w (w.alloc (.cells #[.string nm, .string mt, iv ga, iv gr, .slice rA r.length rc, .slice cA c.length cc, .slice fA f.length fc] 27)) := Gr.alloc (Gr.refl _) _
  have HR3 := slRR_3n 22 (HP.out.gr g0).r (HP.out.gr g0).c (HP.out.gr g0).f
  rw [World.size_alloc] at HR3
  have HVR := hide (validRects_any _ 3 _ _ HR3)
  rw [show vasB [⟨rA, rc, r⟩, ⟨cA, cc, c⟩, ⟨fA, fc, f⟩] = (vaB r && (vaB c && vaB f)) by simp [vasB], show ([⟨rA, rc, r⟩, ⟨cA, cc, c⟩, ⟨fA, fc, f⟩] : List RS).length = 3 from rfl, hv] at HVR
  clear HR3 g0
  have HBO := hide (fun (w' : World) (g : Gr w w') => beginsAtOrigin_any rA rc r w' (HP.out.gr g).r HR0.out)
  rw [h9] at HBO
  clear h4 h5 h6 h7
  clear hv h9
  go_enter Tryz.func25, Tryz.ntmps25
  go_wp2_with (first | (go_at_call 58; refine (validName_any _ _ (by omega)).mono ?_; rintro e w1 ⟨rfl, rfl⟩) | (go_at_call 59; refine (validKind_any _ _ _).mono ?_; rintro e w1 ⟨rfl, rfl⟩) | (go_at_call 61; refine (HVR.out).mono ?_; rintro e w1 ⟨rfl, g1⟩; obtain ⟨X1, Y1, c1, f1⟩ := g1.use; have z1 := g1.size; (try simp only [World.size_alloc, World.size_setCell, World.heap_drewN, Nat.add_one_le_iff] at z1); (try have l0 : w.heap.size < w1.heap.size := by omega); (try have l1 : w.heap.size + 1 < w1.heap.size := by omega); (try have l2 : w.heap.size + 1 + 1 < w1.heap.size := by omega)) | (go_at_call 62; refine (HBO.out _ (by with_reducible repeat (first | exact Gr.refl _ | assumption | refine Gr.alloc ?_ _ | refine Gr.drewN ?_ _ | refine Gr.drew ?_ | refine Gr.setCell ?_ (by first | (dsimp only; omega) | (simp only [World.size_alloc]; omega) | (refine Gr.size ?_; (repeat (first | exact Gr.refl _ | assumption | refine Gr.alloc ?_ _ | refine Gr.drewN ?_ _ | refine Gr.drew ?_ | refine Gr.trans ?_ (by assumption))); done)) _ | refine Gr.trans ?_ (by assumption)))).mono ?_; rintro e w1 ⟨rfl, g1⟩; obtain ⟨X1, Y1, c1, f1⟩ := g1.use; have z1 := g1.size; (try simp only [World.size_alloc, World.size_setCell, World.heap_drewN, Nat.add_one_le_iff] at z1); (try have l0 : w.heap.size < w1.heap.size := by omega); (try have l1 : w.heap.size + 1 < w1.heap.size := by omega); (try have l2 : w.heap.size + 1 + 1 < w1.heap.size := by omega)))
  go_ret
  exact ⟨rfl, (by with_reducible repeat (first | exact Gr.refl _ | assumption | refine Gr.alloc ?_ _ | refine Gr.drewN ?_ _ | refine Gr.drew ?_ | refine Gr.setCell ?_ (by first | (dsimp only; omega) | (simp only [World.size_alloc]; omega) | (refine Gr.size ?_; (repeat (first | exact Gr.refl _ | assumption | refine Gr.alloc ?_ _ | refine Gr.drewN ?_ _ | refine Gr.drew ?_ | refine Gr.trans ?_ (by assumption))); done)) _ | refine Gr.trans ?_ (by assumption)))⟩
set_option maxHeartbeats 4000000 in
set_option maxRecDepth 100000 in
theorem vp_10 (nm mt : ByteArray) (ga gr : Int) (rA : Option Addr) (rc : Nat) (r : List Rc) (cA : Option Addr) (cc : Nat) (c : List Rc) (fA : Option Addr) (fc : Nat) (f : List Rc) (b : Bool) (w : World) (hp : PcW w ⟨nm, mt, ga, gr, rA, rc, r, cA, cc, c, fA, fc, f⟩) (hb : CoB r b) (h1 : nameB nm.toList = true) (h2 : nameB mt.toList = true) (h3 : knB ga gr = true) (h4 : ¬ 12 < r.length) (h5 : ¬ 12 < c.length) (h6 : ¬ 12 < f.length) (h7 : ¬ r.length = 0) (hv : (vaB r && (vaB c && vaB f)) = true) (h9 : boB r = true) (h10 : apB ovQ r = true) :
    Calls Tryz.prog 25 #[pcvv nm mt ga gr (.slice rA r.length rc) (.slice cA c.length cc) (.slice fA f.length fc)] w fun e w' => e = .returned (iv (7)) ∧ Gr w w' := by
  have m1 := hp.n1
  have m2 := hp.n2
  have n1 := hp.r.cap
  have n2 := hp.r.capB
  have n3 := hp.c.cap
  have n4 := hp.c.capB
  have n5 := hp.f.cap
  have n6 := hp.f.capB
  have HP := hide hp
  have HBB := hide hb
  dsimp only at m1 m2 n1 n2 n3 n4 n5 n6
  clear hp hb
  have i4 : ¬ (12 : Int) < (r.length : Int) := by omega
  have i5 : ¬ (12 : Int) < (c.length : Int) := by omega
  have i6 : ¬ (12 : Int) < (f.length : Int) := by omega
  have i7 := nle0 h7
  have hr0 : 0 < r.length := by omega
  have HR0 := hide hr0
  clear hr0
  have g0 : Gr w (w.alloc (.cells #[.string nm, .string mt, iv ga, iv gr, .slice rA r.length rc, .slice cA c.length cc, .slice fA f.length fc] 27)) := Gr.alloc (Gr.refl _) _
  have HR3 := slRR_3n 22 (HP.out.gr g0).r (HP.out.gr g0).c (HP.out.gr g0).f
  rw [World.size_alloc] at HR3
  have HVR := hide (validRects_any _ 3 _ _ HR3)
  rw [show vasB [⟨rA, rc, r⟩, ⟨cA, cc, c⟩, ⟨fA, fc, f⟩] = (vaB r && (vaB c && vaB f)) by simp [vasB], show ([⟨rA, rc, r⟩, ⟨cA, cc, c⟩, ⟨fA, fc, f⟩] : List RS).length = 3 from rfl, hv] at HVR
  clear HR3 g0
  have HBO := hide (fun (w' : World) (g : Gr w w') => beginsAtOrigin_any rA rc r w' (HP.out.gr g).r HR0.out)
  rw [h9] at HBO
  have HAP := hide (fun (w' : World) (g : Gr w w') => anyPairO_any rA rc r w' (HP.out.gr g).r)
  rw [h10] at HAP
  clear h4 h5 h6 h7
  clear hv h9 h10
  go_enter Tryz.func25, Tryz.ntmps25
  go_wp2_with (first | (go_at_call 58; refine (validName_any _ _ (by omega)).mono ?_; rintro e w1 ⟨rfl, rfl⟩) | (go_at_call 59; refine (validKind_any _ _ _).mono ?_; rintro e w1 ⟨rfl, rfl⟩) | (go_at_call 61; refine (HVR.out).mono ?_; rintro e w1 ⟨rfl, g1⟩; obtain ⟨X1, Y1, c1, f1⟩ := g1.use; have z1 := g1.size; (try simp only [World.size_alloc, World.size_setCell, World.heap_drewN, Nat.add_one_le_iff] at z1); (try have l0 : w.heap.size < w1.heap.size := by omega); (try have l1 : w.heap.size + 1 < w1.heap.size := by omega); (try have l2 : w.heap.size + 1 + 1 < w1.heap.size := by omega)) | (go_at_call 62; refine (HBO.out _ (by with_reducible repeat (first | exact Gr.refl _ | assumption | refine Gr.alloc ?_ _ | refine Gr.drewN ?_ _ | refine Gr.drew ?_ | refine Gr.setCell ?_ (by first | (dsimp only; omega) | (simp only [World.size_alloc]; omega) | (refine Gr.size ?_; (repeat (first | exact Gr.refl _ | assumption | refine Gr.alloc ?_ _ | refine Gr.drewN ?_ _ | refine Gr.drew ?_ | refine Gr.trans ?_ (by assumption))); done)) _ | refine Gr.trans ?_ (by assumption)))).mono ?_; rintro e w1 ⟨rfl, g1⟩; obtain ⟨X1, Y1, c1, f1⟩ := g1.use; have z1 := g1.size; (try simp only [World.size_alloc, World.size_setCell, World.heap_drewN, Nat.add_one_le_iff] at z1); (try have l0 : w.heap.size < w1.heap.size := by omega); (try have l1 : w.heap.size + 1 < w1.heap.size := by omega); (try have l2 : w.heap.size + 1 + 1 < w1.heap.size := by omega)) | (go_at_call 45; refine (HAP.out _ (by with_reducible repeat (first | exact Gr.refl _ | assumption | refine Gr.alloc ?_ _ | refine Gr.drewN ?_ _ | refine Gr.drew ?_ | refine Gr.setCell ?_ (by first | (dsimp only; omega) | (simp only [World.size_alloc]; omega) | (refine Gr.size ?_; (repeat (first | exact Gr.refl _ | assumption | refine Gr.alloc ?_ _ | refine Gr.drewN ?_ _ | refine Gr.drew ?_ | refine Gr.trans ?_ (by assumption))); done)) _ | refine Gr.trans ?_ (by assumption)))).mono ?_; rintro e w1 ⟨rfl, g1⟩; obtain ⟨X1, Y1, c1, f1⟩ := g1.use; have z1 := g1.size; (try simp only [World.size_alloc, World.size_setCell, World.heap_drewN, Nat.add_one_le_iff] at z1); (try have l0 : w.heap.size < w1.heap.size := by omega); (try have l1 : w.heap.size + 1 < w1.heap.size := by omega); (try have l2 : w.heap.size + 1 + 1 < w1.heap.size := by omega)))
  go_ret
  exact ⟨rfl, (by with_reducible repeat (first | exact Gr.refl _ | assumption | refine Gr.alloc ?_ _ | refine Gr.drewN ?_ _ | refine Gr.drew ?_ | refine Gr.setCell ?_ (by first | (dsimp only; omega) | (simp only [World.size_alloc]; omega) | (refine Gr.size ?_; (repeat (first | exact Gr.refl _ | assumption | refine Gr.alloc ?_ _ | refine Gr.drewN ?_ _ | refine Gr.drew ?_ | refine Gr.trans ?_ (by assumption))); done)) _ | refine Gr.trans ?_ (by assumption)))⟩
set_option maxHeartbeats 4000000 in
set_option maxRecDepth 100000 in
theorem vp_11 (nm mt : ByteArray) (ga gr : Int) (rA : Option Addr) (rc : Nat) (r : List Rc) (cA : Option Addr) (cc : Nat) (c : List Rc) (fA : Option Addr) (fc : Nat) (f : List Rc) (b : Bool) (w : World) (hp : PcW w ⟨nm, mt, ga, gr, rA, rc, r, cA, cc, c, fA, fc, f⟩) (hb : CoB r b) (h1 : nameB nm.toList = true) (h2 : nameB mt.toList = true) (h3 : knB ga gr = true) (h4 : ¬ 12 < r.length) (h5 : ¬ 12 < c.length) (h6 : ¬ 12 < f.length) (h7 : ¬ r.length = 0) (hv : (vaB r && (vaB c && vaB f)) = true) (h9 : boB r = true) (h10 : apB ovQ r = false) (h11 : b = false) :
    Calls Tryz.prog 25 #[pcvv nm mt ga gr (.slice rA r.length rc) (.slice cA c.length cc) (.slice fA f.length fc)] w fun e w' => e = .returned (iv (6)) ∧ Gr w w' := by
  have m1 := hp.n1
  have m2 := hp.n2
  have n1 := hp.r.cap
  have n2 := hp.r.capB
  have n3 := hp.c.cap
  have n4 := hp.c.capB
  have n5 := hp.f.cap
  have n6 := hp.f.capB
  have HP := hide hp
  have HBB := hide hb
  dsimp only at m1 m2 n1 n2 n3 n4 n5 n6
  clear hp hb
  have i4 : ¬ (12 : Int) < (r.length : Int) := by omega
  have i5 : ¬ (12 : Int) < (c.length : Int) := by omega
  have i6 : ¬ (12 : Int) < (f.length : Int) := by omega
  have i7 := nle0 h7
  have hr0 : 0 < r.length := by omega
  have HR0 := hide hr0
  clear hr0
  have g0 : Gr w (w.alloc (.cells #[.string nm, .string mt, iv ga, iv gr, .slice rA r.length rc, .slice cA c.length cc, .slice fA f.length fc] 27)) := Gr.alloc (Gr.refl _) _
  have HR3 := slRR_3n 22 (HP.out.gr g0).r (HP.out.gr g0).c (HP.out.gr g0).f
  rw [World.size_alloc] at HR3
  have HVR := hide (validRects_any _ 3 _ _ HR3)
  rw [show vasB [⟨rA, rc, r⟩, ⟨cA, cc, c⟩, ⟨fA, fc, f⟩] = (vaB r && (vaB c && vaB f)) by simp [vasB], show ([⟨rA, rc, r⟩, ⟨cA, cc, c⟩, ⟨fA, fc, f⟩] : List RS).length = 3 from rfl, hv] at HVR
  clear HR3 g0
  have HBO := hide (fun (w' : World) (g : Gr w w') => beginsAtOrigin_any rA rc r w' (HP.out.gr g).r HR0.out)
  rw [h9] at HBO
  have HAP := hide (fun (w' : World) (g : Gr w w') => anyPairO_any rA rc r w' (HP.out.gr g).r)
  rw [h10] at HAP
  have hvr : ∀ s ∈ r, vrR s = true := by
    have h := hv
    simp only [Bool.and_eq_true] at h
    exact List.all_eq_true.1 h.1
  have HVV := hide hvr
  clear hvr
  have HIC := hide (fun (w' : World) (g : Gr w w') => isConnected_any rA rc r b w' (HP.out.gr g).r HR0.out (by omega) HVV.out HBB.out)
  rw [h11] at HIC
  clear h4 h5 h6 h7
  clear hv h9 h10 h11
  go_enter Tryz.func25, Tryz.ntmps25
  go_wp2_with (first | (go_at_call 58; refine (validName_any _ _ (by omega)).mono ?_; rintro e w1 ⟨rfl, rfl⟩) | (go_at_call 59; refine (validKind_any _ _ _).mono ?_; rintro e w1 ⟨rfl, rfl⟩) | (go_at_call 61; refine (HVR.out).mono ?_; rintro e w1 ⟨rfl, g1⟩; obtain ⟨X1, Y1, c1, f1⟩ := g1.use; have z1 := g1.size; (try simp only [World.size_alloc, World.size_setCell, World.heap_drewN, Nat.add_one_le_iff] at z1); (try have l0 : w.heap.size < w1.heap.size := by omega); (try have l1 : w.heap.size + 1 < w1.heap.size := by omega); (try have l2 : w.heap.size + 1 + 1 < w1.heap.size := by omega)) | (go_at_call 62; refine (HBO.out _ (by with_reducible repeat (first | exact Gr.refl _ | assumption | refine Gr.alloc ?_ _ | refine Gr.drewN ?_ _ | refine Gr.drew ?_ | refine Gr.setCell ?_ (by first | (dsimp only; omega) | (simp only [World.size_alloc]; omega) | (refine Gr.size ?_; (repeat (first | exact Gr.refl _ | assumption | refine Gr.alloc ?_ _ | refine Gr.drewN ?_ _ | refine Gr.drew ?_ | refine Gr.trans ?_ (by assumption))); done)) _ | refine Gr.trans ?_ (by assumption)))).mono ?_; rintro e w1 ⟨rfl, g1⟩; obtain ⟨X1, Y1, c1, f1⟩ := g1.use; have z1 := g1.size; (try simp only [World.size_alloc, World.size_setCell, World.heap_drewN, Nat.add_one_le_iff] at z1); (try have l0 : w.heap.size < w1.heap.size := by omega); (try have l1 : w.heap.size + 1 < w1.heap.size := by omega); (try have l2 : w.heap.size + 1 + 1 < w1.heap.size := by omega)) | (go_at_call 45; refine (HAP.out _ (by with_reducible repeat (first | exact Gr.refl _ | assumption | refine Gr.alloc ?_ _ | refine Gr.drewN ?_ _ | refine Gr.drew ?_ | refine Gr.setCell ?_ (by first | (dsimp only; omega) | (simp only [World.size_alloc]; omega) | (refine Gr.size ?_; (repeat (first | exact Gr.refl _ | assumption | refine Gr.alloc ?_ _ | refine Gr.drewN ?_ _ | refine Gr.drew ?_ | refine Gr.trans ?_ (by assumption))); done)) _ | refine Gr.trans ?_ (by assumption)))).mono ?_; rintro e w1 ⟨rfl, g1⟩; obtain ⟨X1, Y1, c1, f1⟩ := g1.use; have z1 := g1.size; (try simp only [World.size_alloc, World.size_setCell, World.heap_drewN, Nat.add_one_le_iff] at z1); (try have l0 : w.heap.size < w1.heap.size := by omega); (try have l1 : w.heap.size + 1 < w1.heap.size := by omega); (try have l2 : w.heap.size + 1 + 1 < w1.heap.size := by omega)) | (go_at_call 63; refine (HIC.out _ (by with_reducible repeat (first | exact Gr.refl _ | assumption | refine Gr.alloc ?_ _ | refine Gr.drewN ?_ _ | refine Gr.drew ?_ | refine Gr.setCell ?_ (by first | (dsimp only; omega) | (simp only [World.size_alloc]; omega) | (refine Gr.size ?_; (repeat (first | exact Gr.refl _ | assumption | refine Gr.alloc ?_ _ | refine Gr.drewN ?_ _ | refine Gr.drew ?_ | refine Gr.trans ?_ (by assumption))); done)) _ | refine Gr.trans ?_ (by assumption)))).mono ?_; rintro e w1 ⟨rfl, g1⟩; obtain ⟨X1, Y1, c1, f1⟩ := g1.use; have z1 := g1.size; (try simp only [World.size_alloc, World.size_setCell, World.heap_drewN, Nat.add_one_le_iff] at z1); (try have l0 : w.heap.size < w1.heap.size := by omega); (try have l1 : w.heap.size + 1 < w1.heap.size := by omega); (try have l2 : w.heap.size + 1 + 1 < w1.heap.size := by omega)))
  go_ret
  exact ⟨rfl, (by with_reducible repeat (first | exact Gr.refl _ | assumption | refine Gr.alloc ?_ _ | refine Gr.drewN ?_ _ | refine Gr.drew ?_ | refine Gr.setCell ?_ (by first | (dsimp only; omega) | (simp only [World.size_alloc]; omega) | (refine Gr.size ?_; (repeat (first | exact Gr.refl _ | assumption | refine Gr.alloc ?_ _ | refine Gr.drewN ?_ _ | refine Gr.drew ?_ | refine Gr.trans ?_ (by assumption))); done)) _ | refine Gr.trans ?_ (by assumption)))⟩
set_option maxHeartbeats 4000000 in
set_option maxRecDepth 100000 in
theorem vp_12 (nm mt : ByteArray) (ga gr : Int) (rA : Option Addr) (rc : Nat) (r : List Rc) (cA : Option Addr) (cc : Nat) (c : List Rc) (fA : Option Addr) (fc : Nat) (f : List Rc) (b : Bool) (w : World) (hp : PcW w ⟨nm, mt, ga, gr, rA, rc, r, cA, cc, c, fA, fc, f⟩) (hb : CoB r b) (h1 : nameB nm.toList = true) (h2 : nameB mt.toList = true) (h3 : knB ga gr = true) (h4 : ¬ 12 < r.length) (h5 : ¬ 12 < c.length) (h6 : ¬ 12 < f.length) (h7 : ¬ r.length = 0) (hv : (vaB r && (vaB c && vaB f)) = true) (h9 : boB r = true) (h10 : apB ovQ r = false) (h11 : b = true) (h12 : hoFB r c f = false) :
    Calls Tryz.prog 25 #[pcvv nm mt ga gr (.slice rA r.length rc) (.slice cA c.length cc) (.slice fA f.length fc)] w fun e w' => e = .returned (iv (13)) ∧ Gr w w' := by
  have m1 := hp.n1
  have m2 := hp.n2
  have n1 := hp.r.cap
  have n2 := hp.r.capB
  have n3 := hp.c.cap
  have n4 := hp.c.capB
  have n5 := hp.f.cap
  have n6 := hp.f.capB
  have HP := hide hp
  have HBB := hide hb
  dsimp only at m1 m2 n1 n2 n3 n4 n5 n6
  clear hp hb
  have i4 : ¬ (12 : Int) < (r.length : Int) := by omega
  have i5 : ¬ (12 : Int) < (c.length : Int) := by omega
  have i6 : ¬ (12 : Int) < (f.length : Int) := by omega
  have i7 := nle0 h7
  have hr0 : 0 < r.length := by omega
  have HR0 := hide hr0
  clear hr0
  have g0 : Gr w (w.alloc (.cells #[.string nm, .string mt, iv ga, iv gr, .slice rA r.length rc, .slice cA c.length cc, .slice fA f.length fc] 27)) := Gr.alloc (Gr.refl _) _
  have HR3 := slRR_3n 22 (HP.out.gr g0).r (HP.out.gr g0).c (HP.out.gr g0).f
  rw [World.size_alloc] at HR3
  have HVR := hide (validRects_any _ 3 _ _ HR3)
  rw [show vasB [⟨rA, rc, r⟩, ⟨cA, cc, c⟩, ⟨fA, fc, f⟩] = (vaB r && (vaB c && vaB f)) by simp [vasB], show ([⟨rA, rc, r⟩, ⟨cA, cc, c⟩, ⟨fA, fc, f⟩] : List RS).length = 3 from rfl, hv] at HVR
  clear HR3 g0
  have HBO := hide (fun (w' : World) (g : Gr w w') => beginsAtOrigin_any rA rc r w' (HP.out.gr g).r HR0.out)
  rw [h9] at HBO
  have HAP := hide (fun (w' : World) (g : Gr w w') => anyPairO_any rA rc r w' (HP.out.gr g).r)
  rw [h10] at HAP
  have hvr : ∀ s ∈ r, vrR s = true := by
    have h := hv
    simp only [Bool.and_eq_true] at h
    exact List.all_eq_true.1 h.1
  have HVV := hide hvr
  clear hvr
  have HIC := hide (fun (w' : World) (g : Gr w w') => isConnected_any rA rc r b w' (HP.out.gr g).r HR0.out (by omega) HVV.out HBB.out)
  rw [h11] at HIC
  have HHF := hide (fun (w' : World) (g : Gr w w') => holesFit_any nm mt ga gr rA rc r cA cc c fA fc f w' (HP.out.gr g).r (HP.out.gr g).c (HP.out.gr g).f HVV.out)
  rw [h12] at HHF
  clear h4 h5 h6 h7
  clear hv h9 h10 h11 h12
  go_enter Tryz.func25, Tryz.ntmps25
  go_wp2_with (first | (go_at_call 58; refine (validName_any _ _ (by omega)).mono ?_; rintro e w1 ⟨rfl, rfl⟩) | (go_at_call 59; refine (validKind_any _ _ _).mono ?_; rintro e w1 ⟨rfl, rfl⟩) | (go_at_call 61; refine (HVR.out).mono ?_; rintro e w1 ⟨rfl, g1⟩; obtain ⟨X1, Y1, c1, f1⟩ := g1.use; have z1 := g1.size; (try simp only [World.size_alloc, World.size_setCell, World.heap_drewN, Nat.add_one_le_iff] at z1); (try have l0 : w.heap.size < w1.heap.size := by omega); (try have l1 : w.heap.size + 1 < w1.heap.size := by omega); (try have l2 : w.heap.size + 1 + 1 < w1.heap.size := by omega)) | (go_at_call 62; refine (HBO.out _ (by with_reducible repeat (first | exact Gr.refl _ | assumption | refine Gr.alloc ?_ _ | refine Gr.drewN ?_ _ | refine Gr.drew ?_ | refine Gr.setCell ?_ (by first | (dsimp only; omega) | (simp only [World.size_alloc]; omega) | (refine Gr.size ?_; (repeat (first | exact Gr.refl _ | assumption | refine Gr.alloc ?_ _ | refine Gr.drewN ?_ _ | refine Gr.drew ?_ | refine Gr.trans ?_ (by assumption))); done)) _ | refine Gr.trans ?_ (by assumption)))).mono ?_; rintro e w1 ⟨rfl, g1⟩; obtain ⟨X1, Y1, c1, f1⟩ := g1.use; have z1 := g1.size; (try simp only [World.size_alloc, World.size_setCell, World.heap_drewN, Nat.add_one_le_iff] at z1); (try have l0 : w.heap.size < w1.heap.size := by omega); (try have l1 : w.heap.size + 1 < w1.heap.size := by omega); (try have l2 : w.heap.size + 1 + 1 < w1.heap.size := by omega)) | (go_at_call 45; refine (HAP.out _ (by with_reducible repeat (first | exact Gr.refl _ | assumption | refine Gr.alloc ?_ _ | refine Gr.drewN ?_ _ | refine Gr.drew ?_ | refine Gr.setCell ?_ (by first | (dsimp only; omega) | (simp only [World.size_alloc]; omega) | (refine Gr.size ?_; (repeat (first | exact Gr.refl _ | assumption | refine Gr.alloc ?_ _ | refine Gr.drewN ?_ _ | refine Gr.drew ?_ | refine Gr.trans ?_ (by assumption))); done)) _ | refine Gr.trans ?_ (by assumption)))).mono ?_; rintro e w1 ⟨rfl, g1⟩; obtain ⟨X1, Y1, c1, f1⟩ := g1.use; have z1 := g1.size; (try simp only [World.size_alloc, World.size_setCell, World.heap_drewN, Nat.add_one_le_iff] at z1); (try have l0 : w.heap.size < w1.heap.size := by omega); (try have l1 : w.heap.size + 1 < w1.heap.size := by omega); (try have l2 : w.heap.size + 1 + 1 < w1.heap.size := by omega)) | (go_at_call 63; refine (HIC.out _ (by with_reducible repeat (first | exact Gr.refl _ | assumption | refine Gr.alloc ?_ _ | refine Gr.drewN ?_ _ | refine Gr.drew ?_ | refine Gr.setCell ?_ (by first | (dsimp only; omega) | (simp only [World.size_alloc]; omega) | (refine Gr.size ?_; (repeat (first | exact Gr.refl _ | assumption | refine Gr.alloc ?_ _ | refine Gr.drewN ?_ _ | refine Gr.drew ?_ | refine Gr.trans ?_ (by assumption))); done)) _ | refine Gr.trans ?_ (by assumption)))).mono ?_; rintro e w1 ⟨rfl, g1⟩; obtain ⟨X1, Y1, c1, f1⟩ := g1.use; have z1 := g1.size; (try simp only [World.size_alloc, World.size_setCell, World.heap_drewN, Nat.add_one_le_iff] at z1); (try have l0 : w.heap.size < w1.heap.size := by omega); (try have l1 : w.heap.size + 1 < w1.heap.size := by omega); (try have l2 : w.heap.size + 1 + 1 < w1.heap.size := by omega)) | (go_at_call 64; refine (HHF.out _ (by with_reducible repeat (first | exact Gr.refl _ | assumption | refine Gr.alloc ?_ _ | refine Gr.drewN ?_ _ | refine Gr.drew ?_ | refine Gr.setCell ?_ (by first | (dsimp only; omega) | (simp only [World.size_alloc]; omega) | (refine Gr.size ?_; (repeat (first | exact Gr.refl _ | assumption | refine Gr.alloc ?_ _ | refine Gr.drewN ?_ _ | refine Gr.drew ?_ | refine Gr.trans ?_ (by assumption))); done)) _ | refine Gr.trans ?_ (by assumption)))).mono ?_; rintro e w1 ⟨rfl, g1⟩; obtain ⟨X1, Y1, c1, f1⟩ := g1.use; have z1 := g1.size; (try simp only [World.size_alloc, World.size_setCell, World.heap_drewN, Nat.add_one_le_iff] at z1); (try have l0 : w.heap.size < w1.heap.size := by omega); (try have l1 : w.heap.size + 1 < w1.heap.size := by omega); (try have l2 : w.heap.size + 1 + 1 < w1.heap.size := by omega)))
  go_ret
  exact ⟨rfl, (by with_reducible repeat (first | exact Gr.refl _ | assumption | refine Gr.alloc ?_ _ | refine Gr.drewN ?_ _ | refine Gr.drew ?_ | refine Gr.setCell ?_ (by first | (dsimp only; omega) | (simp only [World.size_alloc]; omega) | (refine Gr.size ?_; (repeat (first | exact Gr.refl _ | assumption | refine Gr.alloc ?_ _ | refine Gr.drewN ?_ _ | refine Gr.drew ?_ | refine Gr.trans ?_ (by assumption))); done)) _ | refine Gr.trans ?_ (by assumption)))⟩
set_option maxHeartbeats 4000000 in
set_option maxRecDepth 100000 in
theorem vp_13 (nm mt : ByteArray) (ga gr : Int) (rA : Option Addr) (rc : Nat) (r : List Rc) (cA : Option Addr) (cc : Nat) (c : List Rc) (fA : Option Addr) (fc : Nat) (f : List Rc) (b : Bool) (w : World) (hp : PcW w ⟨nm, mt, ga, gr, rA, rc, r, cA, cc, c, fA, fc, f⟩) (hb : CoB r b) (h1 : nameB nm.toList = true) (h2 : nameB mt.toList = true) (h3 : knB ga gr = true) (h4 : ¬ 12 < r.length) (h5 : ¬ 12 < c.length) (h6 : ¬ 12 < f.length) (h7 : ¬ r.length = 0) (hv : (vaB r && (vaB c && vaB f)) = true) (h9 : boB r = true) (h10 : apB ovQ r = false) (h11 : b = true) (h12 : hoFB r c f = true) (h13 : apB toR (c ++ f) = true) :
    Calls Tryz.prog 25 #[pcvv nm mt ga gr (.slice rA r.length rc) (.slice cA c.length cc) (.slice fA f.length fc)] w fun e w' => e = .returned (iv (7)) ∧ Gr w w' := by
  have m1 := hp.n1
  have m2 := hp.n2
  have n1 := hp.r.cap
  have n2 := hp.r.capB
  have n3 := hp.c.cap
  have n4 := hp.c.capB
  have n5 := hp.f.cap
  have n6 := hp.f.capB
  have HP := hide hp
  have HBB := hide hb
  dsimp only at m1 m2 n1 n2 n3 n4 n5 n6
  clear hp hb
  have i4 : ¬ (12 : Int) < (r.length : Int) := by omega
  have i5 : ¬ (12 : Int) < (c.length : Int) := by omega
  have i6 : ¬ (12 : Int) < (f.length : Int) := by omega
  have i7 := nle0 h7
  have hr0 : 0 < r.length := by omega
  have HR0 := hide hr0
  clear hr0
  have g0 : Gr w (w.alloc (.cells #[.string nm, .string mt, iv ga, iv gr, .slice rA r.length rc, .slice cA c.length cc, .slice fA f.length fc] 27)) := Gr.alloc (Gr.refl _) _
  have HR3 := slRR_3n 22 (HP.out.gr g0).r (HP.out.gr g0).c (HP.out.gr g0).f
  rw [World.size_alloc] at HR3
  have HVR := hide (validRects_any _ 3 _ _ HR3)
  rw [show vasB [⟨rA, rc, r⟩, ⟨cA, cc, c⟩, ⟨fA, fc, f⟩] = (vaB r && (vaB c && vaB f)) by simp [vasB], show ([⟨rA, rc, r⟩, ⟨cA, cc, c⟩, ⟨fA, fc, f⟩] : List RS).length = 3 from rfl, hv] at HVR
  clear HR3 g0
  have HBO := hide (fun (w' : World) (g : Gr w w') => beginsAtOrigin_any rA rc r w' (HP.out.gr g).r HR0.out)
  rw [h9] at HBO
  have HAP := hide (fun (w' : World) (g : Gr w w') => anyPairO_any rA rc r w' (HP.out.gr g).r)
  rw [h10] at HAP
  have hvr : ∀ s ∈ r, vrR s = true := by
    have h := hv
    simp only [Bool.and_eq_true] at h
    exact List.all_eq_true.1 h.1
  have HVV := hide hvr
  clear hvr
  have HIC := hide (fun (w' : World) (g : Gr w w') => isConnected_any rA rc r b w' (HP.out.gr g).r HR0.out (by omega) HVV.out HBB.out)
  rw [h11] at HIC
  have HHF := hide (fun (w' : World) (g : Gr w w') => holesFit_any nm mt ga gr rA rc r cA cc c fA fc f w' (HP.out.gr g).r (HP.out.gr g).c (HP.out.gr g).f HVV.out)
  rw [h12] at HHF
  have HJ := hide (fun (w' : World) (g : Gr w w') => join_any cA cc c fA fc f w' (HP.out.gr g).c (HP.out.gr g).f (by omega) (by omega))
  obtain ⟨L, hL⟩ : ∃ L, c ++ f = L := ⟨_, rfl⟩
  rw [hL] at HJ h13
  have HT := hide (fun (A : Option Addr) (q : Nat) (w' : World) (h : SlR w' A q L) => anyPairT_any A q L w' h)
  rw [h13] at HT
  clear hL
  clear h4 h5 h6 h7
  clear hv h9 h10 h11 h12 h13
  go_enter Tryz.func25, Tryz.ntmps25
  go_upto_region 9 with (first | (go_at_call 58; refine (validName_any _ _ (by omega)).mono ?_; rintro e w1 ⟨rfl, rfl⟩) | (go_at_call 59; refine (validKind_any _ _ _).mono ?_; rintro e w1 ⟨rfl, rfl⟩) | (go_at_call 61; refine (HVR.out).mono ?_; rintro e w1 ⟨rfl, g1⟩; obtain ⟨X1, Y1, c1, f1⟩ := g1.use; have z1 := g1.size; (try simp only [World.size_alloc, World.size_setCell, World.heap_drewN, Nat.add_one_le_iff] at z1); (try have l0 : w.heap.size < w1.heap.size := by omega); (try have l1 : w.heap.size + 1 < w1.heap.size := by omega); (try have l2 : w.heap.size + 1 + 1 < w1.heap.size := by omega)) | (go_at_call 62; refine (HBO.out _ (by with_reducible repeat (first | exact Gr.refl _ | assumption | refine Gr.alloc ?_ _ | refine Gr.drewN ?_ _ | refine Gr.drew ?_ | refine Gr.setCell ?_ (by first | (dsimp only; omega) | (simp only [World.size_alloc]; omega) | (refine Gr.size ?_; (repeat (first | exact Gr.refl _ | assumption | refine Gr.alloc ?_ _ | refine Gr.drewN ?_ _ | refine Gr.drew ?_ | refine Gr.trans ?_ (by assumption))); done)) _ | refine Gr.trans ?_ (by assumption)))).mono ?_; rintro e w1 ⟨rfl, g1⟩; obtain ⟨X1, Y1, c1, f1⟩ := g1.use; have z1 := g1.size; (try simp only [World.size_alloc, World.size_setCell, World.heap_drewN, Nat.add_one_le_iff] at z1); (try have l0 : w.heap.size < w1.heap.size := by omega); (try have l1 : w.heap.size + 1 < w1.heap.size := by omega); (try have l2 : w.heap.size + 1 + 1 < w1.heap.size := by omega)))
  go_upto_region 11 with (first | (go_at_call 45; refine (HAP.out _ (by with_reducible repeat (first | exact Gr.refl _ | assumption | refine Gr.alloc ?_ _ | refine Gr.drewN ?_ _ | refine Gr.drew ?_ | refine Gr.setCell ?_ (by first | (dsimp only; omega) | (simp only [World.size_alloc]; omega) | (refine Gr.size ?_; (repeat (first | exact Gr.refl _ | assumption | refine Gr.alloc ?_ _ | refine Gr.drewN ?_ _ | refine Gr.drew ?_ | refine Gr.trans ?_ (by assumption))); done)) _ | refine Gr.trans ?_ (by assumption)))).mono ?_; rintro e w1 ⟨rfl, g1⟩; obtain ⟨X1, Y1, c1, f1⟩ := g1.use; have z1 := g1.size; (try simp only [World.size_alloc, World.size_setCell, World.heap_drewN, Nat.add_one_le_iff] at z1); (try have l0 : w.heap.size < w1.heap.size := by omega); (try have l1 : w.heap.size + 1 < w1.heap.size := by omega); (try have l2 : w.heap.size + 1 + 1 < w1.heap.size := by omega)))
  go_upto_region 13 with (first | (go_at_call 63; refine (HIC.out _ (by with_reducible repeat (first | exact Gr.refl _ | assumption | refine Gr.alloc ?_ _ | refine Gr.drewN ?_ _ | refine Gr.drew ?_ | refine Gr.setCell ?_ (by first | (dsimp only; omega) | (simp only [World.size_alloc]; omega) | (refine Gr.size ?_; (repeat (first | exact Gr.refl _ | assumption | refine Gr.alloc ?_ _ | refine Gr.drewN ?_ _ | refine Gr.drew ?_ | refine Gr.trans ?_ (by assumption))); done)) _ | refine Gr.trans ?_ (by assumption)))).mono ?_; rintro e w1 ⟨rfl, g1⟩; obtain ⟨X1, Y1, c1, f1⟩ := g1.use; have z1 := g1.size; (try simp only [World.size_alloc, World.size_setCell, World.heap_drewN, Nat.add_one_le_iff] at z1); (try have l0 : w.heap.size < w1.heap.size := by omega); (try have l1 : w.heap.size + 1 < w1.heap.size := by omega); (try have l2 : w.heap.size + 1 + 1 < w1.heap.size := by omega)))
  go_upto_region 15 with (first | (go_at_call 64; refine (HHF.out _ (by with_reducible repeat (first | exact Gr.refl _ | assumption | refine Gr.alloc ?_ _ | refine Gr.drewN ?_ _ | refine Gr.drew ?_ | refine Gr.setCell ?_ (by first | (dsimp only; omega) | (simp only [World.size_alloc]; omega) | (refine Gr.size ?_; (repeat (first | exact Gr.refl _ | assumption | refine Gr.alloc ?_ _ | refine Gr.drewN ?_ _ | refine Gr.drew ?_ | refine Gr.trans ?_ (by assumption))); done)) _ | refine Gr.trans ?_ (by assumption)))).mono ?_; rintro e w1 ⟨rfl, g1⟩; obtain ⟨X1, Y1, c1, f1⟩ := g1.use; have z1 := g1.size; (try simp only [World.size_alloc, World.size_setCell, World.heap_drewN, Nat.add_one_le_iff] at z1); (try have l0 : w.heap.size < w1.heap.size := by omega); (try have l1 : w.heap.size + 1 < w1.heap.size := by omega); (try have l2 : w.heap.size + 1 + 1 < w1.heap.size := by omega)))
  go_wp2_with fail
  refine (HJ.out _ (by with_reducible repeat (first | exact Gr.refl _ | assumption | refine Gr.alloc ?_ _ | refine Gr.drewN ?_ _ | refine Gr.drew ?_ | refine Gr.setCell ?_ (by first | (dsimp only; omega) | (simp only [World.size_alloc]; omega) | (refine Gr.size ?_; (repeat (first | exact Gr.refl _ | assumption | refine Gr.alloc ?_ _ | refine Gr.drewN ?_ _ | refine Gr.drew ?_ | refine Gr.trans ?_ (by assumption))); done)) _ | refine Gr.trans ?_ (by assumption)))).mono ?_
  rintro e w7 ⟨D7, rfl, hs7, g7⟩
  have HS7 := hide hs7
  clear hs7
  obtain ⟨X7, Y7, c7, f7⟩ := g7.use
  go_wp2_with fail
  refine (HT.out _ _ _ HS7.out).mono ?_
  rintro e w8 ⟨rfl, g8⟩
  go_wp2
  go_ret
  exact ⟨rfl, (by with_reducible repeat (first | exact Gr.refl _ | assumption | refine Gr.alloc ?_ _ | refine Gr.drewN ?_ _ | refine Gr.drew ?_ | refine Gr.setCell ?_ (by first | (dsimp only; omega) | (simp only [World.size_alloc]; omega) | (refine Gr.size ?_; (repeat (first | exact Gr.refl _ | assumption | refine Gr.alloc ?_ _ | refine Gr.drewN ?_ _ | refine Gr.drew ?_ | refine Gr.trans ?_ (by assumption))); done)) _ | refine Gr.trans ?_ (by assumption)))⟩
set_option maxHeartbeats 4000000 in
set_option maxRecDepth 100000 in
theorem vp_14 (nm mt : ByteArray) (ga gr : Int) (rA : Option Addr) (rc : Nat) (r : List Rc) (cA : Option Addr) (cc : Nat) (c : List Rc) (fA : Option Addr) (fc : Nat) (f : List Rc) (b : Bool) (w : World) (hp : PcW w ⟨nm, mt, ga, gr, rA, rc, r, cA, cc, c, fA, fc, f⟩) (hb : CoB r b) (h1 : nameB nm.toList = true) (h2 : nameB mt.toList = true) (h3 : knB ga gr = true) (h4 : ¬ 12 < r.length) (h5 : ¬ 12 < c.length) (h6 : ¬ 12 < f.length) (h7 : ¬ r.length = 0) (hv : (vaB r && (vaB c && vaB f)) = true) (h9 : boB r = true) (h10 : apB ovQ r = false) (h11 : b = true) (h12 : hoFB r c f = true) (h13 : apB toR (c ++ f) = false) :
    Calls Tryz.prog 25 #[pcvv nm mt ga gr (.slice rA r.length rc) (.slice cA c.length cc) (.slice fA f.length fc)] w fun e w' => e = .returned (iv (0)) ∧ Gr w w' := by
  have m1 := hp.n1
  have m2 := hp.n2
  have n1 := hp.r.cap
  have n2 := hp.r.capB
  have n3 := hp.c.cap
  have n4 := hp.c.capB
  have n5 := hp.f.cap
  have n6 := hp.f.capB
  have HP := hide hp
  have HBB := hide hb
  dsimp only at m1 m2 n1 n2 n3 n4 n5 n6
  clear hp hb
  have i4 : ¬ (12 : Int) < (r.length : Int) := by omega
  have i5 : ¬ (12 : Int) < (c.length : Int) := by omega
  have i6 : ¬ (12 : Int) < (f.length : Int) := by omega
  have i7 := nle0 h7
  have hr0 : 0 < r.length := by omega
  have HR0 := hide hr0
  clear hr0
  have g0 : Gr w (w.alloc (.cells #[.string nm, .string mt, iv ga, iv gr, .slice rA r.length rc, .slice cA c.length cc, .slice fA f.length fc] 27)) := Gr.alloc (Gr.refl _) _
  have HR3 := slRR_3n 22 (HP.out.gr g0).r (HP.out.gr g0).c (HP.out.gr g0).f
  rw [World.size_alloc] at HR3
  have HVR := hide (validRects_any _ 3 _ _ HR3)
  rw [show vasB [⟨rA, rc, r⟩, ⟨cA, cc, c⟩, ⟨fA, fc, f⟩] = (vaB r && (vaB c && vaB f)) by simp [vasB], show ([⟨rA, rc, r⟩, ⟨cA, cc, c⟩, ⟨fA, fc, f⟩] : List RS).length = 3 from rfl, hv] at HVR
  clear HR3 g0
  have HBO := hide (fun (w' : World) (g : Gr w w') => beginsAtOrigin_any rA rc r w' (HP.out.gr g).r HR0.out)
  rw [h9] at HBO
  have HAP := hide (fun (w' : World) (g : Gr w w') => anyPairO_any rA rc r w' (HP.out.gr g).r)
  rw [h10] at HAP
  have hvr : ∀ s ∈ r, vrR s = true := by
    have h := hv
    simp only [Bool.and_eq_true] at h
    exact List.all_eq_true.1 h.1
  have HVV := hide hvr
  clear hvr
  have HIC := hide (fun (w' : World) (g : Gr w w') => isConnected_any rA rc r b w' (HP.out.gr g).r HR0.out (by omega) HVV.out HBB.out)
  rw [h11] at HIC
  have HHF := hide (fun (w' : World) (g : Gr w w') => holesFit_any nm mt ga gr rA rc r cA cc c fA fc f w' (HP.out.gr g).r (HP.out.gr g).c (HP.out.gr g).f HVV.out)
  rw [h12] at HHF
  have HJ := hide (fun (w' : World) (g : Gr w w') => join_any cA cc c fA fc f w' (HP.out.gr g).c (HP.out.gr g).f (by omega) (by omega))
  obtain ⟨L, hL⟩ : ∃ L, c ++ f = L := ⟨_, rfl⟩
  rw [hL] at HJ h13
  have HT := hide (fun (A : Option Addr) (q : Nat) (w' : World) (h : SlR w' A q L) => anyPairT_any A q L w' h)
  rw [h13] at HT
  clear hL
  clear h4 h5 h6 h7
  clear hv h9 h10 h11 h12 h13
  go_enter Tryz.func25, Tryz.ntmps25
  go_upto_region 9 with (first | (go_at_call 58; refine (validName_any _ _ (by omega)).mono ?_; rintro e w1 ⟨rfl, rfl⟩) | (go_at_call 59; refine (validKind_any _ _ _).mono ?_; rintro e w1 ⟨rfl, rfl⟩) | (go_at_call 61; refine (HVR.out).mono ?_; rintro e w1 ⟨rfl, g1⟩; obtain ⟨X1, Y1, c1, f1⟩ := g1.use; have z1 := g1.size; (try simp only [World.size_alloc, World.size_setCell, World.heap_drewN, Nat.add_one_le_iff] at z1); (try have l0 : w.heap.size < w1.heap.size := by omega); (try have l1 : w.heap.size + 1 < w1.heap.size := by omega); (try have l2 : w.heap.size + 1 + 1 < w1.heap.size := by omega)) | (go_at_call 62; refine (HBO.out _ (by with_reducible repeat (first | exact Gr.refl _ | assumption | refine Gr.alloc ?_ _ | refine Gr.drewN ?_ _ | refine Gr.drew ?_ | refine Gr.setCell ?_ (by first | (dsimp only; omega) | (simp only [World.size_alloc]; omega) | (refine Gr.size ?_; (repeat (first | exact Gr.refl _ | assumption | refine Gr.alloc ?_ _ | refine Gr.drewN ?_ _ | refine Gr.drew ?_ | refine Gr.trans ?_ (by assumption))); done)) _ | refine Gr.trans ?_ (by assumption)))).mono ?_; rintro e w1 ⟨rfl, g1⟩; obtain ⟨X1, Y1, c1, f1⟩ := g1.use; have z1 := g1.size; (try simp only [World.size_alloc, World.size_setCell, World.heap_drewN, Nat.add_one_le_iff] at z1); (try have l0 : w.heap.size < w1.heap.size := by omega); (try have l1 : w.heap.size + 1 < w1.heap.size := by omega); (try have l2 : w.heap.size + 1 + 1 < w1.heap.size := by omega)))
  go_upto_region 11 with (first | (go_at_call 45; refine (HAP.out _ (by with_reducible repeat (first | exact Gr.refl _ | assumption | refine Gr.alloc ?_ _ | refine Gr.drewN ?_ _ | refine Gr.drew ?_ | refine Gr.setCell ?_ (by first | (dsimp only; omega) | (simp only [World.size_alloc]; omega) | (refine Gr.size ?_; (repeat (first | exact Gr.refl _ | assumption | refine Gr.alloc ?_ _ | refine Gr.drewN ?_ _ | refine Gr.drew ?_ | refine Gr.trans ?_ (by assumption))); done)) _ | refine Gr.trans ?_ (by assumption)))).mono ?_; rintro e w1 ⟨rfl, g1⟩; obtain ⟨X1, Y1, c1, f1⟩ := g1.use; have z1 := g1.size; (try simp only [World.size_alloc, World.size_setCell, World.heap_drewN, Nat.add_one_le_iff] at z1); (try have l0 : w.heap.size < w1.heap.size := by omega); (try have l1 : w.heap.size + 1 < w1.heap.size := by omega); (try have l2 : w.heap.size + 1 + 1 < w1.heap.size := by omega)))
  go_upto_region 13 with (first | (go_at_call 63; refine (HIC.out _ (by with_reducible repeat (first | exact Gr.refl _ | assumption | refine Gr.alloc ?_ _ | refine Gr.drewN ?_ _ | refine Gr.drew ?_ | refine Gr.setCell ?_ (by first | (dsimp only; omega) | (simp only [World.size_alloc]; omega) | (refine Gr.size ?_; (repeat (first | exact Gr.refl _ | assumption | refine Gr.alloc ?_ _ | refine Gr.drewN ?_ _ | refine Gr.drew ?_ | refine Gr.trans ?_ (by assumption))); done)) _ | refine Gr.trans ?_ (by assumption)))).mono ?_; rintro e w1 ⟨rfl, g1⟩; obtain ⟨X1, Y1, c1, f1⟩ := g1.use; have z1 := g1.size; (try simp only [World.size_alloc, World.size_setCell, World.heap_drewN, Nat.add_one_le_iff] at z1); (try have l0 : w.heap.size < w1.heap.size := by omega); (try have l1 : w.heap.size + 1 < w1.heap.size := by omega); (try have l2 : w.heap.size + 1 + 1 < w1.heap.size := by omega)))
  go_upto_region 15 with (first | (go_at_call 64; refine (HHF.out _ (by with_reducible repeat (first | exact Gr.refl _ | assumption | refine Gr.alloc ?_ _ | refine Gr.drewN ?_ _ | refine Gr.drew ?_ | refine Gr.setCell ?_ (by first | (dsimp only; omega) | (simp only [World.size_alloc]; omega) | (refine Gr.size ?_; (repeat (first | exact Gr.refl _ | assumption | refine Gr.alloc ?_ _ | refine Gr.drewN ?_ _ | refine Gr.drew ?_ | refine Gr.trans ?_ (by assumption))); done)) _ | refine Gr.trans ?_ (by assumption)))).mono ?_; rintro e w1 ⟨rfl, g1⟩; obtain ⟨X1, Y1, c1, f1⟩ := g1.use; have z1 := g1.size; (try simp only [World.size_alloc, World.size_setCell, World.heap_drewN, Nat.add_one_le_iff] at z1); (try have l0 : w.heap.size < w1.heap.size := by omega); (try have l1 : w.heap.size + 1 < w1.heap.size := by omega); (try have l2 : w.heap.size + 1 + 1 < w1.heap.size := by omega)))
  go_wp2_with fail
  refine (HJ.out _ (by with_reducible repeat (first | exact Gr.refl _ | assumption | refine Gr.alloc ?_ _ | refine Gr.drewN ?_ _ | refine Gr.drew ?_ | refine Gr.setCell ?_ (by first | (dsimp only; omega) | (simp only [World.size_alloc]; omega) | (refine Gr.size ?_; (repeat (first | exact Gr.refl _ | assumption | refine Gr.alloc ?_ _ | refine Gr.drewN ?_ _ | refine Gr.drew ?_ | refine Gr.trans ?_ (by assumption))); done)) _ | refine Gr.trans ?_ (by assumption)))).mono ?_
  rintro e w7 ⟨D7, rfl, hs7, g7⟩
  have HS7 := hide hs7
  clear hs7
  obtain ⟨X7, Y7, c7, f7⟩ := g7.use
  go_wp2_with fail
  refine (HT.out _ _ _ HS7.out).mono ?_
  rintro e w8 ⟨rfl, g8⟩
  go_wp2
  go_ret
  exact ⟨rfl, (by with_reducible repeat (first | exact Gr.refl _ | assumption | refine Gr.alloc ?_ _ | refine Gr.drewN ?_ _ | refine Gr.drew ?_ | refine Gr.setCell ?_ (by first | (dsimp only; omega) | (simp only [World.size_alloc]; omega) | (refine Gr.size ?_; (repeat (first | exact Gr.refl _ | assumption | refine Gr.alloc ?_ _ | refine Gr.drewN ?_ _ | refine Gr.drew ?_ | refine Gr.trans ?_ (by assumption))); done)) _ | refine Gr.trans ?_ (by assumption)))⟩
theorem ValidatePiece_any (p : Pc) (b : Bool) (w : World) (hp : PcW w p) (hb : CoB p.r b) :
    Calls Tryz.prog 25 #[p.v] w fun e w' => e = .returned (iv (vpE p b)) ∧ Gr w w' := by
  obtain ⟨nm, mt, ga, gr, rA, rc, r, cA, cc, c, fA, fc, f⟩ := p
  unfold vpE
  dsimp only at hb ⊢
  cases h1 : nameB nm.toList with
  | false => simpa [h1] using vp_1 nm mt ga gr rA rc r cA cc c fA fc f b w hp hb h1
  | true =>
  cases h2 : nameB mt.toList with
  | false => simpa [h1, h2] using vp_2 nm mt ga gr rA rc r cA cc c fA fc f b w hp hb h1 h2
  | true =>
  rw [if_pos (by rfl)]
  cases h3 : knB ga gr with
  | false => exact vp_3 nm mt ga gr rA rc r cA cc c fA fc f b w hp hb h1 h2 h3
  | true =>
  rw [if_pos rfl]
  by_cases h4 : 12 < r.length
  · rw [if_pos (.inl h4)]
    exact vp_4 nm mt ga gr rA rc r cA cc c fA fc f b w hp hb h1 h2 h3 h4
  by_cases h5 : 12 < c.length
  · rw [if_pos (.inr (.inl h5))]
    exact vp_5 nm mt ga gr rA rc r cA cc c fA fc f b w hp hb h1 h2 h3 h4 h5
  by_cases h6 : 12 < f.length
  · rw [if_pos (.inr (.inr h6))]
    exact vp_6 nm mt ga gr rA rc r cA cc c fA fc f b w hp hb h1 h2 h3 h4 h5 h6
  rw [if_neg (by omega)]
  by_cases h7 : r.length = 0
  · rw [if_pos h7]
    exact vp_7 nm mt ga gr rA rc r cA cc c fA fc f b w hp hb h1 h2 h3 h4 h5 h6 h7
  rw [if_neg h7]
  cases hv : (vaB r && (vaB c && vaB f)) with
  | false => exact vp_8 nm mt ga gr rA rc r cA cc c fA fc f b w hp hb h1 h2 h3 h4 h5 h6 h7 hv
  | true =>
  rw [if_pos rfl]
  cases h9 : boB r with
  | false => exact vp_9 nm mt ga gr rA rc r cA cc c fA fc f b w hp hb h1 h2 h3 h4 h5 h6 h7 hv h9
  | true =>
  rw [if_pos rfl]
  cases h10 : apB ovQ r with
  | true => exact vp_10 nm mt ga gr rA rc r cA cc c fA fc f b w hp hb h1 h2 h3 h4 h5 h6 h7 hv h9 h10
  | false =>
  rw [if_neg (by decide)]
  cases h11 : b with
  | false => exact vp_11 nm mt ga gr rA rc r cA cc c fA fc f b w hp hb h1 h2 h3 h4 h5 h6 h7 hv h9 h10 h11
  | true =>
  rw [if_pos rfl]
  cases h12 : hoFB r c f with
  | false => exact vp_12 nm mt ga gr rA rc r cA cc c fA fc f b w hp hb h1 h2 h3 h4 h5 h6 h7 hv h9 h10 h11 h12
  | true =>
  rw [if_pos rfl]
  cases h13 : apB toR (c ++ f) with
  | true => exact vp_13 nm mt ga gr rA rc r cA cc c fA fc f b w hp hb h1 h2 h3 h4 h5 h6 h7 hv h9 h10 h11 h12 h13
  | false => exact vp_14 nm mt ga gr rA rc r cA cc c fA fc f b w hp hb h1 h2 h3 h4 h5 h6 h7 hv h9 h10 h11 h12 h13
end RG
end Go.Proofs.YtddhaiaapomdjaaGreat
