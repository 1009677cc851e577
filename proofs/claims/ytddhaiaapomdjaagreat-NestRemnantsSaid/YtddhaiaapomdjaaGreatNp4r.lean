/-
  Nests: holes of pieces; rectangles on a sheet; the error of a sheet.
-/
import Derived.Test.YtddhaiaapomdjaaGreatNp3r
import Derived.Test.YtddhaiaapomdjaaGreatName3r
set_option linter.unusedVariables false
set_option linter.unusedSimpArgs false
namespace Go.Proofs.YtddhaiaapomdjaaGreat
set_option linter.unusedVariables false
set_option linter.unusedSimpArgs false
open Go Go.ChangeShapes Go.WideShapes Go.ChangeAt Go.RowKit Go.Deep

namespace RG
theorem box7 {w w' : World} {a b c d e f h : Value} {t : TypeId} (g : Gr (w.alloc (.cells #[a, b, c, d, e, f, h] t)) w') : w.heap.size < w'.heap.size ∧ w'.cell? ⟨w.heap.size, 0, none⟩ = some a ∧ w'.cell? ⟨w.heap.size, 1, none⟩ = some b ∧ w'.cell? ⟨w.heap.size, 2, none⟩ = some c ∧ w'.cell? ⟨w.heap.size, 3, none⟩ = some d ∧ w'.cell? ⟨w.heap.size, 4, none⟩ = some e ∧ w'.cell? ⟨w.heap.size, 5, none⟩ = some f ∧ w'.cell? ⟨w.heap.size, 6, none⟩ = some h := by
  have hl : w.heap.size < (w.alloc (.cells #[a, b, c, d, e, f, h] t)).heap.size := by simp
  exact ⟨Nat.lt_of_lt_of_le hl g.size, (g.cell _ _ hl).trans (by simp [go_sem]), (g.cell _ _ hl).trans (by simp [go_sem]), (g.cell _ _ hl).trans (by simp [go_sem]), (g.cell _ _ hl).trans (by simp [go_sem]), (g.cell _ _ hl).trans (by simp [go_sem]), (g.cell _ _ hl).trans (by simp [go_sem]), (g.cell _ _ hl).trans (by simp [go_sem])⟩
/-- a hole that is cut, or one that is formed, lies in a face -/
def hcB (r : List Rc) (s : Rc) : Bool := !(s.w == 1) && (!(s.h == 1) && r.any (stB s))
def hoFB (r c f : List Rc) : Bool := c.all (hcB r) && f.all fun s => r.any (stB s)
theorem alls_yes {α : Type} {p : α → Bool} {l : List α} (h : ∀ (j : Nat) (r : α), j < l.length → l[j]? = some r → p r = true) : l.all p = true := by
  rw [List.all_eq_true]
  intro r hr
  obtain ⟨j, hj⟩ := List.mem_iff_getElem?.1 hr
  exact h j r (List.getElem?_eq_some_iff.1 hj).1 hj
theorem alls_no {α : Type} {p : α → Bool} {l : List α} {k : Nat} {r : α} (h : l[k]? = some r) (q : p r = false) : l.all p = false := by
  rw [List.all_eq_false]
  exact ⟨r, List.mem_of_getElem? h, by simp [q]⟩
theorem all_mor2 {α : Type} {p : α → Bool} {l : List α} {k : Nat} {r : α} (h : ∀ (j : Nat) (r : α), j < k → l[j]? = some r → p r = true) (hr : l[k]? = some r) (q : p r = true) : ∀ (j : Nat) (r : α), j < k + 1 → l[j]? = some r → p r = true := by
  intro j x hj hx
  rcases Nat.lt_or_ge j k with c | c
  · exact h j x c hx
  · obtain rfl : j = k := by omega
    rw [hr] at hx
    obtain rfl := Option.some.inj hx
    exact q
set_option maxHeartbeats 4000000 in
set_option maxRecDepth 100000 in
theorem holesFit_any (nm mt : ByteArray) (ga gr : Int) (rA : Option Addr) (rc : Nat) (r : List Rc) (cA : Option Addr) (cc : Nat) (c : List Rc) (fA : Option Addr) (fc : Nat) (f : List Rc) (w : World)
    (hr : SlR w rA rc r) (hc : SlR w cA cc c) (hf : SlR w fA fc f) (hv : ∀ s ∈ r, vrR s = true) :
    Calls Tryz.prog 64 #[.agg #[.string nm, .string mt, iv ga, iv gr, .slice rA r.length rc, .slice cA c.length cc, .slice fA f.length fc]] w fun e w' => e = .returned (.bool (hoFB r c f)) ∧ Gr w w' := by
  have n1 := hc.cap
  have n2 := hc.capB
  have n3 := hf.cap
  have n4 := hf.capB
  have HR := hide hr
  have HC := hide hc
  have HF := hide hf
  have HV := hide hv
  clear hr hc hf hv
  go_enter Tryz.func64, Tryz.ntmps64
  go_wp2
  have g0 : Gr w (w.alloc (.cells #[.string nm, .string mt, iv ga, iv gr, .slice rA r.length rc, .slice cA c.length cc, .slice fA f.length fc] 27)) := Gr.alloc (Gr.refl _) _
  have HB := hide (fun (w' : World) (g : Gr (w.alloc (.cells #[.string nm, .string mt, iv ga, iv gr, .slice rA r.length rc, .slice cA c.length cc, .slice fA f.length fc] 27)) w') => box7 g)
  generalize w.alloc (.cells #[.string nm, .string mt, iv ga, iv gr, .slice rA r.length rc, .slice cA c.length cc, .slice fA f.length fc] 27) = w1 at *
  go_loopw [10] (fun i wr => ∃ k : Nat, k ≤ c.length ∧ i = iv k ∧ Gr w1 wr ∧ Hid (∀ (j : Nat) (s : Rc), j < k → c[j]? = some s → hcB r s = true)) (fun i _ => c.length - (intOf i).toNat)
  case atStart => exact ⟨0, by omega, rfl, Gr.refl _, hide (fun j r h => absurd h (Nat.not_lt_zero j))⟩
  case round =>
    obtain ⟨k, hk, rfl, g, HS⟩ := hrel
    obtain ⟨hb, p0, p1, p2, p3, p4, p5, p6⟩ := HB.out wr g
    clear p0 p1 p2 p3
    by_cases hkl : k < c.length
    · obtain ⟨s, hs⟩ : ∃ s, c[k]? = some s := ⟨_, List.getElem?_eq_getElem hkl⟩
      obtain ⟨b, o, hA, x0, x1, x2, x3⟩ := (HC.out.gr (g0.trans g)).at_ hs
      subst hA
      have hbl : b < wr.heap.size := cell_lt (by rw [x0]; rfl)
      have HSS := hide hs
      have hk0 : (0 : Int) ≤ (k : Int) := by omega
      have hk1 : (k : Int) < (c.length : Int) := by omega
      have HI := hide (fun (w' : World) (g' : Gr w w') => show Calls Tryz.prog 103 #[RG.rc s.x s.y s.w s.h, .slice rA r.length rc] w' fun e w2 => e = .returned (.bool (r.any (stB s))) ∧ Gr w' w2 from isStrictlyInside_any s rA rc r w' (HR.out.gr g') HV.out)
      have gW : Gr w wr := g0.trans g
      clear hs
      cases q1 : (s.w == 1) with
      | true =>
        have HE := hide (show hoFB r c f = false by unfold hoFB; rw [alls_no HSS.out (by unfold hcB; rw [q1]; rfl)]; rfl)
        go_wp2
        go_ret
        exact ⟨ret_bool HE.out.symm, (by with_reducible repeat (first | exact Gr.refl _ | assumption | refine Gr.alloc ?_ _ | refine Gr.drewN ?_ _ | refine Gr.drew ?_ | refine Gr.setCell ?_ (by first | (dsimp only; omega) | (simp only [World.size_alloc]; omega) | (refine Gr.size ?_; (repeat (first | exact Gr.refl _ | assumption | refine Gr.alloc ?_ _ | refine Gr.drewN ?_ _ | refine Gr.drew ?_ | refine Gr.trans ?_ (by assumption))); done)) _ | refine Gr.trans ?_ (by assumption)))⟩
      | false =>
        cases q2 : (s.h == 1) with
        | true =>
          have HE := hide (show hoFB r c f = false by unfold hoFB; rw [alls_no HSS.out (by unfold hcB; rw [q1, q2]; rfl)]; rfl)
          go_wp2
          go_ret
          exact ⟨ret_bool HE.out.symm, (by with_reducible repeat (first | exact Gr.refl _ | assumption | refine Gr.alloc ?_ _ | refine Gr.drewN ?_ _ | refine Gr.drew ?_ | refine Gr.setCell ?_ (by first | (dsimp only; omega) | (simp only [World.size_alloc]; omega) | (refine Gr.size ?_; (repeat (first | exact Gr.refl _ | assumption | refine Gr.alloc ?_ _ | refine Gr.drewN ?_ _ | refine Gr.drew ?_ | refine Gr.trans ?_ (by assumption))); done)) _ | refine Gr.trans ?_ (by assumption)))⟩
        | false =>
          cases q3 : r.any (stB s) with
          | false =>
            have HE := hide (show hoFB r c f = false by unfold hoFB; rw [alls_no HSS.out (by unfold hcB; rw [q1, q2, q3]; rfl)]; rfl)
            rw [q3] at HI
            clear q3
            go_wp2_with (first | (go_at_call 103; refine (HI.out _ (gW.trans (by with_reducible repeat (first | exact Gr.refl _ | assumption | refine Gr.alloc ?_ _ | refine Gr.drewN ?_ _ | refine Gr.drew ?_ | refine Gr.setCell ?_ (by first | (dsimp only; omega) | (simp only [World.size_alloc]; omega) | (refine Gr.size ?_; (repeat (first | exact Gr.refl _ | assumption | refine Gr.alloc ?_ _ | refine Gr.drewN ?_ _ | refine Gr.drew ?_ | refine Gr.trans ?_ (by assumption))); done)) _ | refine Gr.trans ?_ (by assumption))))).mono ?_; rintro e w1 ⟨rfl, g1⟩; obtain ⟨X1, Y1, c1, f1⟩ := g1.use))
            go_ret
            exact ⟨ret_bool HE.out.symm, (by with_reducible repeat (first | exact Gr.refl _ | assumption | refine Gr.alloc ?_ _ | refine Gr.drewN ?_ _ | refine Gr.drew ?_ | refine Gr.setCell ?_ (by first | (dsimp only; omega) | (simp only [World.size_alloc]; omega) | (refine Gr.size ?_; (repeat (first | exact Gr.refl _ | assumption | refine Gr.alloc ?_ _ | refine Gr.drewN ?_ _ | refine Gr.drew ?_ | refine Gr.trans ?_ (by assumption))); done)) _ | refine Gr.trans ?_ (by assumption)))⟩
          | true =>
            have HS' := hide (all_mor2 HS.out HSS.out (by unfold hcB; rw [q1, q2, q3]; rfl))
            rw [q3] at HI
            clear q3
            go_wp2_with (first | (go_at_call 103; refine (HI.out _ (gW.trans (by with_reducible repeat (first | exact Gr.refl _ | assumption | refine Gr.alloc ?_ _ | refine Gr.drewN ?_ _ | refine Gr.drew ?_ | refine Gr.setCell ?_ (by first | (dsimp only; omega) | (simp only [World.size_alloc]; omega) | (refine Gr.size ?_; (repeat (first | exact Gr.refl _ | assumption | refine Gr.alloc ?_ _ | refine Gr.drewN ?_ _ | refine Gr.drew ?_ | refine Gr.trans ?_ (by assumption))); done)) _ | refine Gr.trans ?_ (by assumption))))).mono ?_; rintro e w1 ⟨rfl, g1⟩; obtain ⟨X1, Y1, c1, f1⟩ := g1.use))
            go_roundw
            case rel => exact ⟨k + 1, by omega, by go_num, (by with_reducible repeat (first | exact Gr.refl _ | assumption | refine Gr.alloc ?_ _ | refine Gr.drewN ?_ _ | refine Gr.drew ?_ | refine Gr.setCell ?_ (by first | (dsimp only; omega) | (simp only [World.size_alloc]; omega) | (refine Gr.size ?_; (repeat (first | exact Gr.refl _ | assumption | refine Gr.alloc ?_ _ | refine Gr.drewN ?_ _ | refine Gr.drew ?_ | refine Gr.trans ?_ (by assumption))); done)) _ | refine Gr.trans ?_ (by assumption))), HS'⟩
            case measure => simp only [intOf]; omega
    · obtain rfl : k = c.length := by omega
      have HCA := hide (show c.all (hcB r) = true from alls_yes (fun j s h => HS.out j s h))
      clear HS
      go_wp2
      have gW : Gr w wr := g0.trans g
      have HB2 := hide (fun (w' : World) (g' : Gr wr w') => HB.out w' (g.trans g'))
      obtain ⟨w2, hw2⟩ : ∃ w2, w2 = wr := ⟨_, rfl⟩
      rw [← hw2] at gW HB2 ⊢
      clear hw2 hb p4 p5 p6 g
      go_loopw [33] (fun i wx => ∃ k : Nat, k ≤ f.length ∧ i = iv k ∧ Gr w2 wx ∧ Hid (∀ (j : Nat) (s : Rc), j < k → f[j]? = some s → r.any (stB s) = true)) (fun i _ => f.length - (intOf i).toNat)
      case atStart => exact ⟨0, by omega, rfl, Gr.refl _, hide (fun j r h => absurd h (Nat.not_lt_zero j))⟩
      case round =>
        obtain ⟨k, hk, rfl, g, HS⟩ := hrel
        rename_i wr
        obtain ⟨hb, p0, p1, p2, p3, p4, p5, p6⟩ := HB2.out _ g
        clear p0 p1 p2 p3
        by_cases hkl : k < f.length
        · obtain ⟨s, hs⟩ : ∃ s, f[k]? = some s := ⟨_, List.getElem?_eq_getElem hkl⟩
          obtain ⟨b, o, hA, x0, x1, x2, x3⟩ := (HF.out.gr (gW.trans g)).at_ hs
          subst hA
          have hbl := cell_lt (show Option.isSome _ = true by rw [x0]; rfl)
          have HSS := hide hs
          have hk0 : (0 : Int) ≤ (k : Int) := by omega
          have hk1 : (k : Int) < (f.length : Int) := by omega
          have HI := hide (fun (w' : World) (g' : Gr w w') => show Calls Tryz.prog 103 #[RG.rc s.x s.y s.w s.h, .slice rA r.length rc] w' fun e w2 => e = .returned (.bool (r.any (stB s))) ∧ Gr w' w2 from isStrictlyInside_any s rA rc r w' (HR.out.gr g') HV.out)
          have gX := gW.trans g
          clear hs
          cases q3 : r.any (stB s) with
          | false =>
            have HE := hide (show hoFB r c f = false by unfold hoFB; rw [HCA.out, alls_no HSS.out q3]; rfl)
            rw [q3] at HI
            clear q3
            go_wp2_with (first | (go_at_call 103; refine (HI.out _ (gX.trans (by with_reducible repeat (first | exact Gr.refl _ | assumption | refine Gr.alloc ?_ _ | refine Gr.drewN ?_ _ | refine Gr.drew ?_ | refine Gr.setCell ?_ (by first | (dsimp only; omega) | (simp only [World.size_alloc]; omega) | (refine Gr.size ?_; (repeat (first | exact Gr.refl _ | assumption | refine Gr.alloc ?_ _ | refine Gr.drewN ?_ _ | refine Gr.drew ?_ | refine Gr.trans ?_ (by assumption))); done)) _ | refine Gr.trans ?_ (by assumption))))).mono ?_; rintro e w1 ⟨rfl, g1⟩; obtain ⟨X1, Y1, c1, f1⟩ := g1.use))
            go_ret
            exact ⟨ret_bool HE.out.symm, gX.trans (by with_reducible repeat (first | exact Gr.refl _ | assumption | refine Gr.alloc ?_ _ | refine Gr.drewN ?_ _ | refine Gr.drew ?_ | refine Gr.setCell ?_ (by first | (dsimp only; omega) | (simp only [World.size_alloc]; omega) | (refine Gr.size ?_; (repeat (first | exact Gr.refl _ | assumption | refine Gr.alloc ?_ _ | refine Gr.drewN ?_ _ | refine Gr.drew ?_ | refine Gr.trans ?_ (by assumption))); done)) _ | refine Gr.trans ?_ (by assumption)))⟩
          | true =>
            have HS' := hide (all_mor2 HS.out HSS.out q3)
            rw [q3] at HI
            clear q3
            go_wp2_with (first | (go_at_call 103; refine (HI.out _ (gX.trans (by with_reducible repeat (first | exact Gr.refl _ | assumption | refine Gr.alloc ?_ _ | refine Gr.drewN ?_ _ | refine Gr.drew ?_ | refine Gr.setCell ?_ (by first | (dsimp only; omega) | (simp only [World.size_alloc]; omega) | (refine Gr.size ?_; (repeat (first | exact Gr.refl _ | assumption | refine Gr.alloc ?_ _ | refine Gr.drewN ?_ _ | refine Gr.drew ?_ | refine Gr.trans ?_ (by assumption))); done)) _ | refine Gr.trans ?_ (by assumption))))).mono ?_; rintro e w1 ⟨rfl, g1⟩; obtain ⟨X1, Y1, c1, f1⟩ := g1.use))
            go_roundw
            case rel => exact ⟨k + 1, by omega, by go_num, (by with_reducible repeat (first | exact Gr.refl _ | assumption | refine Gr.alloc ?_ _ | refine Gr.drewN ?_ _ | refine Gr.drew ?_ | refine Gr.setCell ?_ (by first | (dsimp only; omega) | (simp only [World.size_alloc]; omega) | (refine Gr.size ?_; (repeat (first | exact Gr.refl _ | assumption | refine Gr.alloc ?_ _ | refine Gr.drewN ?_ _ | refine Gr.drew ?_ | refine Gr.trans ?_ (by assumption))); done)) _ | refine Gr.trans ?_ (by assumption))), HS'⟩
            case measure => simp only [intOf]; omega
        · obtain rfl : k = f.length := by omega
          have HE := hide (show hoFB r c f = true by unfold hoFB; rw [HCA.out, alls_yes (fun j s h => HS.out j s h)]; rfl)
          go_wp2
          go_ret
          exact ⟨ret_bool HE.out.symm, gW.trans (by with_reducible repeat (first | exact Gr.refl _ | assumption | refine Gr.alloc ?_ _ | refine Gr.drewN ?_ _ | refine Gr.drew ?_ | refine Gr.setCell ?_ (by first | (dsimp only; omega) | (simp only [World.size_alloc]; omega) | (refine Gr.size ?_; (repeat (first | exact Gr.refl _ | assumption | refine Gr.alloc ?_ _ | refine Gr.drewN ?_ _ | refine Gr.drew ?_ | refine Gr.trans ?_ (by assumption))); done)) _ | refine Gr.trans ?_ (by assumption)))⟩
/-- the error of rectangles on a sheet -/
def coE (l : List Rc) (wd ht : Int) : Int := if vaB l = true then (if aiB l ⟨0, 0, wd, ht⟩ = true then 0 else 13) else 1
set_option maxHeartbeats 2000000 in
set_option maxRecDepth 100000 in
theorem checkOnSheet_any (nm mt : ByteArray) (ga gr wd ht : Int) (c u : Value) (A : Option Addr) (d : Nat) (l : List Rc) (w : World) (hl : SlR w A d l) :
    Calls Tryz.prog 42 #[shv nm mt ga gr wd ht c u, .slice A l.length d] w fun e w' => e = .returned (iv (coE l wd ht)) ∧ Gr w w' := by
  have g0 : Gr w (w.alloc (.cells #[.string nm, .string mt, iv ga, iv gr, iv wd, iv ht, c, u] 24)) := Gr.alloc (Gr.refl _) _
  have HR := slRR_1 22 (hl.gr g0)
  rw [World.size_alloc] at HR
  have HV := hide (validRects_any _ 1 [⟨A, d, l⟩] _ HR)
  rw [show vasB [⟨A, d, l⟩] = vaB l by simp [vasB], show ([⟨A, d, l⟩] : List RS).length = 1 from rfl] at HV
  have HI := hide (fun (w' : World) (g : Gr w w') => allInside_any A d l ⟨0, 0, wd, ht⟩ w' (hl.gr g))
  have HW := hide (fun (w' : World) => whole_any nm mt ga gr wd ht c u w')
  have HQ := hide (show coE l wd ht = if vaB l = true then (if aiB l ⟨0, 0, wd, ht⟩ = true then 0 else 13) else 1 from rfl)
  clear hl HR g0
  cases hv : vaB l with
  | false =>
    rw [hv] at HV HQ
    clear hv
    go_enter Tryz.func42, Tryz.ntmps42
    go_wp2_with (first | (go_at_call 61; refine (HV.out).mono ?_; rintro e w1 ⟨rfl, g1⟩; obtain ⟨X1, Y1, c1, f1⟩ := g1.use))
    go_ret
    exact ⟨ret_iv (by rw [HQ.out]; rfl), (by with_reducible repeat (first | exact Gr.refl _ | assumption | refine Gr.alloc ?_ _ | refine Gr.drewN ?_ _ | refine Gr.drew ?_ | refine Gr.setCell ?_ (by first | (dsimp only; omega) | (simp only [World.size_alloc]; omega) | (refine Gr.size ?_; (repeat (first | exact Gr.refl _ | assumption | refine Gr.alloc ?_ _ | refine Gr.drewN ?_ _ | refine Gr.drew ?_ | refine Gr.trans ?_ (by assumption))); done)) _ | refine Gr.trans ?_ (by assumption)))⟩
  | true =>
    cases ha : aiB l ⟨0, 0, wd, ht⟩ with
    | false =>
      rw [hv] at HV HQ
      rw [ha] at HI HQ
      clear hv ha
      go_enter Tryz.func42, Tryz.ntmps42
      go_wp2_with (first | (go_at_call 61; refine (HV.out).mono ?_; rintro e w1 ⟨rfl, g1⟩; obtain ⟨X1, Y1, c1, f1⟩ := g1.use; have z1 := g1.size; (try simp only [World.size_alloc, World.size_setCell, World.heap_drewN, Nat.add_one_le_iff] at z1); (try have l0 : w.heap.size < w1.heap.size := by omega); (try have l1 : w.heap.size + 1 < w1.heap.size := by omega); (try have l2 : w.heap.size + 1 + 1 < w1.heap.size := by omega)) | (go_at_call 40; refine (HW.out _).mono ?_; rintro e w1 ⟨rfl, g1⟩; obtain ⟨X1, Y1, c1, f1⟩ := g1.use) | (go_at_call 89; refine (HI.out _ (by with_reducible repeat (first | exact Gr.refl _ | assumption | refine Gr.alloc ?_ _ | refine Gr.drewN ?_ _ | refine Gr.drew ?_ | refine Gr.setCell ?_ (by first | (dsimp only; omega) | (simp only [World.size_alloc]; omega) | (refine Gr.size ?_; (repeat (first | exact Gr.refl _ | assumption | refine Gr.alloc ?_ _ | refine Gr.drewN ?_ _ | refine Gr.drew ?_ | refine Gr.trans ?_ (by assumption))); done)) _ | refine Gr.trans ?_ (by assumption)))).mono ?_; rintro e w1 ⟨rfl, g1⟩; obtain ⟨X1, Y1, c1, f1⟩ := g1.use))
      go_ret
      exact ⟨ret_iv (by rw [HQ.out]; rfl), (by with_reducible repeat (first | exact Gr.refl _ | assumption | refine Gr.alloc ?_ _ | refine Gr.drewN ?_ _ | refine Gr.drew ?_ | refine Gr.setCell ?_ (by first | (dsimp only; omega) | (simp only [World.size_alloc]; omega) | (refine Gr.size ?_; (repeat (first | exact Gr.refl _ | assumption | refine Gr.alloc ?_ _ | refine Gr.drewN ?_ _ | refine Gr.drew ?_ | refine Gr.trans ?_ (by assumption))); done)) _ | refine Gr.trans ?_ (by assumption)))⟩
    | true =>
      rw [hv] at HV HQ
      rw [ha] at HI HQ
      clear hv ha
      go_enter Tryz.func42, Tryz.ntmps42
      go_wp2_with (first | (go_at_call 61; refine (HV.out).mono ?_; rintro e w1 ⟨rfl, g1⟩; obtain ⟨X1, Y1, c1, f1⟩ := g1.use; have z1 := g1.size; (try simp only [World.size_alloc, World.size_setCell, World.heap_drewN, Nat.add_one_le_iff] at z1); (try have l0 : w.heap.size < w1.heap.size := by omega); (try have l1 : w.heap.size + 1 < w1.heap.size := by omega); (try have l2 : w.heap.size + 1 + 1 < w1.heap.size := by omega)) | (go_at_call 40; refine (HW.out _).mono ?_; rintro e w1 ⟨rfl, g1⟩; obtain ⟨X1, Y1, c1, f1⟩ := g1.use) | (go_at_call 89; refine (HI.out _ (by with_reducible repeat (first | exact Gr.refl _ | assumption | refine Gr.alloc ?_ _ | refine Gr.drewN ?_ _ | refine Gr.drew ?_ | refine Gr.setCell ?_ (by first | (dsimp only; omega) | (simp only [World.size_alloc]; omega) | (refine Gr.size ?_; (repeat (first | exact Gr.refl _ | assumption | refine Gr.alloc ?_ _ | refine Gr.drewN ?_ _ | refine Gr.drew ?_ | refine Gr.trans ?_ (by assumption))); done)) _ | refine Gr.trans ?_ (by assumption)))).mono ?_; rintro e w1 ⟨rfl, g1⟩; obtain ⟨X1, Y1, c1, f1⟩ := g1.use))
      go_ret
      exact ⟨ret_iv (by rw [HQ.out]; rfl), (by with_reducible repeat (first | exact Gr.refl _ | assumption | refine Gr.alloc ?_ _ | refine Gr.drewN ?_ _ | refine Gr.drew ?_ | refine Gr.setCell ?_ (by first | (dsimp only; omega) | (simp only [World.size_alloc]; omega) | (refine Gr.size ?_; (repeat (first | exact Gr.refl _ | assumption | refine Gr.alloc ?_ _ | refine Gr.drewN ?_ _ | refine Gr.drew ?_ | refine Gr.trans ?_ (by assumption))); done)) _ | refine Gr.trans ?_ (by assumption)))⟩
end RG
end Go.Proofs.YtddhaiaapomdjaaGreat
