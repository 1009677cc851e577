/-
  Serves and Blocked, on both sides; the law of serving.
-/
import Derived.Test.YtfoihnhcodmhnaaSb10
set_option linter.unusedVariables false
set_option linter.unusedSimpArgs false
namespace Go.Proofs.Ytfoihnhcodmhnaa
set_option linter.unusedVariables false
set_option linter.unusedSimpArgs false
open Go Go.ChangeShapes Go.WideShapes Go.ChangeAt Go.RowKit Go.Deep

abbrev berr (a : Bool) (b : Int) : Value := .tuple #[.bool a, iv b]
theorem ret_be {a b : Bool} {c d : Int} (h : a = b) (k : c = d) : Ending.returned (berr a c) = .returned (berr b d) := by rw [h, k]
/-- the error of Serves, and what it says -/
def srE (ns : List Nd) (x : Wd) (l : List Int) : Int := if vaE ns ≠ 0 then vaE ns else if wnB x ns.length && stB l then 0 else 1
def srV (ns : List Nd) (x : Wd) (l : List Int) : Bool := if srE ns x l = 0 then svB (mks ns) x.fm.toNat x.tl.toNat (mk l) else false
def bkE (ns : List Nd) (s : Int) (x : Wd) : Int := if chE ns s ≠ 0 then chE ns s else if wnB x ns.length then 0 else 1
def bkV (ns : List Nd) (s : Int) (x : Wd) : Bool := if bkE ns s x = 0 then bkB (mks ns) s.toNat x.fm.toNat x.tl.toNat else false
set_option maxRecDepth 100000 in
set_option maxHeartbeats 1000000 in
theorem Serves_any (A B : Option Addr) (c d : Nat) (ns : List Nd) (x : Wd) (l : List Int) (w : World) (hl : SlN w A c ns) (hp : SlI w B d l) :
    Calls Try.prog 27 #[.slice A ns.length c, wdv x, .slice B l.length d] w fun e w' => e = .returned (berr (srV ns x l) (srE ns x l)) ∧ Gr w w' := by
  have HV := hide (fun (w' : World) (g : Gr w w') => sValidate_any A c ns w' (hl.gr g))
  by_cases h0 : vaE ns = 0
  · have HW := hide (fun w => validWindow_any x ns.length w)
    have HP := hide (fun (w' : World) (g : Gr w w') => isSetOfPairs_any B d l w' (hp.gr g))
    have hE : srE ns x l = if wnB x ns.length && stB l then 0 else 1 := by unfold srE; rw [if_neg (by simpa using h0)]
    cases hw : wnB x ns.length with
    | false =>
      have HE := hide (show srE ns x l = 1 by rw [hE, hw]; rfl)
      have HR := hide (show srV ns x l = false by unfold srV; rw [HE.out]; rfl)
      rw [h0] at HV
      rw [hw] at HW
      rw [HE.out, HR.out]
      clear h0 hw hE hl hp
      go_enter Try.func27, Try.ntmps27
      go_wp2_with (first | (go_at_call 18; refine (HV.out _ (by repeat (first | with_reducible exact Gr.refl _ | with_reducible assumption | with_reducible refine Gr.alloc ?_ _ | with_reducible refine Gr.drewN ?_ _ | with_reducible refine Gr.drew ?_ | with_reducible refine Gr.setCell ?_ (by first | (dsimp only; omega) | (simp only [World.size_alloc]; omega) | (with_reducible refine Gr.size ?_; (repeat (first | with_reducible exact Gr.refl _ | with_reducible assumption | with_reducible refine Gr.alloc ?_ _ | with_reducible refine Gr.drewN ?_ _ | with_reducible refine Gr.drew ?_ | with_reducible refine Gr.trans ?_ (by with_reducible assumption))); done)) _ | with_reducible refine Gr.trans ?_ (by with_reducible assumption)))).mono ?_; rintro e w1 ⟨rfl, rfl⟩) | (go_at_call 61; refine (HW.out _).mono ?_; rintro e w1 ⟨rfl, g1⟩; obtain ⟨X1, Y1, c1, f1⟩ := g1.use))
      go_ret2
      exact ⟨rfl, (by repeat (first | with_reducible exact Gr.refl _ | with_reducible assumption | with_reducible refine Gr.alloc ?_ _ | with_reducible refine Gr.drewN ?_ _ | with_reducible refine Gr.drew ?_ | with_reducible refine Gr.setCell ?_ (by first | (dsimp only; omega) | (simp only [World.size_alloc]; omega) | (with_reducible refine Gr.size ?_; (repeat (first | with_reducible exact Gr.refl _ | with_reducible assumption | with_reducible refine Gr.alloc ?_ _ | with_reducible refine Gr.drewN ?_ _ | with_reducible refine Gr.drew ?_ | with_reducible refine Gr.trans ?_ (by with_reducible assumption))); done)) _ | with_reducible refine Gr.trans ?_ (by with_reducible assumption)))⟩
    | true =>
      cases hs : stB l with
      | false =>
        have HE := hide (show srE ns x l = 1 by rw [hE, hw, hs]; rfl)
        have HR := hide (show srV ns x l = false by unfold srV; rw [HE.out]; rfl)
        rw [h0] at HV
        rw [hw] at HW
        rw [hs] at HP
        rw [HE.out, HR.out]
        clear h0 hw hs hE hl hp
        go_enter Try.func27, Try.ntmps27
        go_wp2_with (first | (go_at_call 18; refine (HV.out _ (by repeat (first | with_reducible exact Gr.refl _ | with_reducible assumption | with_reducible refine Gr.alloc ?_ _ | with_reducible refine Gr.drewN ?_ _ | with_reducible refine Gr.drew ?_ | with_reducible refine Gr.setCell ?_ (by first | (dsimp only; omega) | (simp only [World.size_alloc]; omega) | (with_reducible refine Gr.size ?_; (repeat (first | with_reducible exact Gr.refl _ | with_reducible assumption | with_reducible refine Gr.alloc ?_ _ | with_reducible refine Gr.drewN ?_ _ | with_reducible refine Gr.drew ?_ | with_reducible refine Gr.trans ?_ (by with_reducible assumption))); done)) _ | with_reducible refine Gr.trans ?_ (by with_reducible assumption)))).mono ?_; rintro e w1 ⟨rfl, rfl⟩) | (go_at_call 61; refine (HW.out _).mono ?_; rintro e w1 ⟨rfl, g1⟩; obtain ⟨X1, Y1, c1, f1⟩ := g1.use) | (go_at_call 50; refine (HP.out _ (by repeat (first | with_reducible exact Gr.refl _ | with_reducible assumption | with_reducible refine Gr.alloc ?_ _ | with_reducible refine Gr.drewN ?_ _ | with_reducible refine Gr.drew ?_ | with_reducible refine Gr.setCell ?_ (by first | (dsimp only; omega) | (simp only [World.size_alloc]; omega) | (with_reducible refine Gr.size ?_; (repeat (first | with_reducible exact Gr.refl _ | with_reducible assumption | with_reducible refine Gr.alloc ?_ _ | with_reducible refine Gr.drewN ?_ _ | with_reducible refine Gr.drew ?_ | with_reducible refine Gr.trans ?_ (by with_reducible assumption))); done)) _ | with_reducible refine Gr.trans ?_ (by with_reducible assumption)))).mono ?_; rintro e w1 ⟨rfl, rfl⟩))
        go_ret2
        exact ⟨rfl, (by repeat (first | with_reducible exact Gr.refl _ | with_reducible assumption | with_reducible refine Gr.alloc ?_ _ | with_reducible refine Gr.drewN ?_ _ | with_reducible refine Gr.drew ?_ | with_reducible refine Gr.setCell ?_ (by first | (dsimp only; omega) | (simp only [World.size_alloc]; omega) | (with_reducible refine Gr.size ?_; (repeat (first | with_reducible exact Gr.refl _ | with_reducible assumption | with_reducible refine Gr.alloc ?_ _ | with_reducible refine Gr.drewN ?_ _ | with_reducible refine Gr.drew ?_ | with_reducible refine Gr.trans ?_ (by with_reducible assumption))); done)) _ | with_reducible refine Gr.trans ?_ (by with_reducible assumption)))⟩
      | true =>
        have HE := hide (show srE ns x l = 0 by rw [hE, hw, hs]; rfl)
        have HR := hide (show srV ns x l = svB (mks ns) x.fm.toNat x.tl.toNat (mk l) by unfold srV; rw [HE.out]; rfl)
        obtain ⟨b1, b2, b3⟩ := wnB_iff.1 hw
        obtain ⟨fm, tl⟩ := x
        simp only at b1 b2 b3
        obtain ⟨f, rfl⟩ : ∃ f : Nat, fm = f := ⟨fm.toNat, by omega⟩
        obtain ⟨t, rfl⟩ : ∃ t : Nat, tl = t := ⟨tl.toNat, by omega⟩
        have hin := inR_of hs
        have hlen := (vaE_ok h0).1
        have hml := mks_lt (vaE_ok h0).2
        have HSO := hide (fun (w' : World) (g : Gr w w') => setOf_any B d l w' (hp.gr g) hin)
        have HSS := hide (fun (w' : World) (g : Gr w w') => setsOf_any A c ns w' (hl.gr g) h0)
        have HSV := hide (fun (A' : Option Addr) (d' : Nat) (w' : World) (h : SlU w' A' d' (mks ns)) => serves_any A' d' (mks ns) (mk l) f t w' h (mk_lt hin) hml (by omega) (by rw [mks_len]; omega) (by rw [mks_len]; omega))
        rw [h0] at HV
        rw [hw] at HW
        rw [hs] at HP
        rw [HE.out, HR.out]
        simp only [Int.toNat_natCast]
        clear h0 hw hs hE hl hp b1 b2 b3 hin hml HE HR
        generalize mks ns = ss at *
        generalize mk l = m at *
        go_enter Try.func27, Try.ntmps27
        go_upto_region 6 with (first | (go_at_call 18; refine (HV.out _ (by repeat (first | with_reducible exact Gr.refl _ | with_reducible assumption | with_reducible refine Gr.alloc ?_ _ | with_reducible refine Gr.drewN ?_ _ | with_reducible refine Gr.drew ?_ | with_reducible refine Gr.setCell ?_ (by first | (dsimp only; omega) | (simp only [World.size_alloc]; omega) | (with_reducible refine Gr.size ?_; (repeat (first | with_reducible exact Gr.refl _ | with_reducible assumption | with_reducible refine Gr.alloc ?_ _ | with_reducible refine Gr.drewN ?_ _ | with_reducible refine Gr.drew ?_ | with_reducible refine Gr.trans ?_ (by with_reducible assumption))); done)) _ | with_reducible refine Gr.trans ?_ (by with_reducible assumption)))).mono ?_; rintro e w1 ⟨rfl, rfl⟩) | (go_at_call 61; refine (HW.out _).mono ?_; rintro e w1 ⟨rfl, g1⟩; obtain ⟨X1, Y1, c1, f1⟩ := g1.use) | (go_at_call 50; refine (HP.out _ (by repeat (first | with_reducible exact Gr.refl _ | with_reducible assumption | with_reducible refine Gr.alloc ?_ _ | with_reducible refine Gr.drewN ?_ _ | with_reducible refine Gr.drew ?_ | with_reducible refine Gr.setCell ?_ (by first | (dsimp only; omega) | (simp only [World.size_alloc]; omega) | (with_reducible refine Gr.size ?_; (repeat (first | with_reducible exact Gr.refl _ | with_reducible assumption | with_reducible refine Gr.alloc ?_ _ | with_reducible refine Gr.drewN ?_ _ | with_reducible refine Gr.drew ?_ | with_reducible refine Gr.trans ?_ (by with_reducible assumption))); done)) _ | with_reducible refine Gr.trans ?_ (by with_reducible assumption)))).mono ?_; rintro e w1 ⟨rfl, rfl⟩))
        go_region_law (first
          | (go_simp; go_at_call 62; refine (HSO.out _ (by repeat (first | with_reducible exact Gr.refl _ | with_reducible assumption | with_reducible refine Gr.alloc ?_ _ | with_reducible refine Gr.drewN ?_ _ | with_reducible refine Gr.drew ?_ | with_reducible refine Gr.setCell ?_ (by first | (dsimp only; omega) | (simp only [World.size_alloc]; omega) | (with_reducible refine Gr.size ?_; (repeat (first | with_reducible exact Gr.refl _ | with_reducible assumption | with_reducible refine Gr.alloc ?_ _ | with_reducible refine Gr.drewN ?_ _ | with_reducible refine Gr.drew ?_ | with_reducible refine Gr.trans ?_ (by with_reducible assumption))); done)) _ | with_reducible refine Gr.trans ?_ (by with_reducible assumption)))).mono ?_; rintro e w5 ⟨rfl, rfl⟩)
          | (go_simp; go_at_call 55; refine (HSS.out _ (by repeat (first | with_reducible exact Gr.refl _ | with_reducible assumption | with_reducible refine Gr.alloc ?_ _ | with_reducible refine Gr.drewN ?_ _ | with_reducible refine Gr.drew ?_ | with_reducible refine Gr.setCell ?_ (by first | (dsimp only; omega) | (simp only [World.size_alloc]; omega) | (with_reducible refine Gr.size ?_; (repeat (first | with_reducible exact Gr.refl _ | with_reducible assumption | with_reducible refine Gr.alloc ?_ _ | with_reducible refine Gr.drewN ?_ _ | with_reducible refine Gr.drew ?_ | with_reducible refine Gr.trans ?_ (by with_reducible assumption))); done)) _ | with_reducible refine Gr.trans ?_ (by with_reducible assumption)))).mono ?_; rintro e w6 ⟨A6, d6, rfl, ho6, g6⟩; (have ho6' := hide (own_sub ho6)); clear ho6; obtain ⟨X6, Y6, c6, f6⟩ := g6.use)
          | (go_simp; go_at_call 63; refine (HSV.out _ _ _ (SlU.gr (Hid.out (by assumption)) (by repeat (first | with_reducible exact Gr.refl _ | with_reducible assumption | with_reducible refine Gr.alloc ?_ _ | with_reducible refine Gr.drewN ?_ _ | with_reducible refine Gr.drew ?_ | with_reducible refine Gr.setCell ?_ (by first | (dsimp only; omega) | (simp only [World.size_alloc]; omega) | (with_reducible refine Gr.size ?_; (repeat (first | with_reducible exact Gr.refl _ | with_reducible assumption | with_reducible refine Gr.alloc ?_ _ | with_reducible refine Gr.drewN ?_ _ | with_reducible refine Gr.drew ?_ | with_reducible refine Gr.trans ?_ (by with_reducible assumption))); done)) _ | with_reducible refine Gr.trans ?_ (by with_reducible assumption))))).mono ?_; rintro e w7 ⟨rfl, g7⟩))
        all_goals
          go_wp2
          go_ret2
          exact ⟨rfl, (by repeat (first | with_reducible exact Gr.refl _ | with_reducible assumption | with_reducible refine Gr.alloc ?_ _ | with_reducible refine Gr.drewN ?_ _ | with_reducible refine Gr.drew ?_ | with_reducible refine Gr.setCell ?_ (by first | (dsimp only; omega) | (simp only [World.size_alloc]; omega) | (with_reducible refine Gr.size ?_; (repeat (first | with_reducible exact Gr.refl _ | with_reducible assumption | with_reducible refine Gr.alloc ?_ _ | with_reducible refine Gr.drewN ?_ _ | with_reducible refine Gr.drew ?_ | with_reducible refine Gr.trans ?_ (by with_reducible assumption))); done)) _ | with_reducible refine Gr.trans ?_ (by with_reducible assumption)))⟩
  · have HE := hide (show srE ns x l = vaE ns by unfold srE; rw [if_pos h0])
    have HR := hide (show srV ns x l = false by unfold srV; rw [HE.out, if_neg h0])
    have h1 : (vaE ns != 0) = true := by simpa using h0
    rw [HE.out, HR.out]
    generalize vaE ns = e0 at *
    clear h0 hl hp
    go_enter Try.func27, Try.ntmps27
    go_wp2_with (first | (go_at_call 18; refine (HV.out _ (by repeat (first | with_reducible exact Gr.refl _ | with_reducible assumption | with_reducible refine Gr.alloc ?_ _ | with_reducible refine Gr.drewN ?_ _ | with_reducible refine Gr.drew ?_ | with_reducible refine Gr.setCell ?_ (by first | (dsimp only; omega) | (simp only [World.size_alloc]; omega) | (with_reducible refine Gr.size ?_; (repeat (first | with_reducible exact Gr.refl _ | with_reducible assumption | with_reducible refine Gr.alloc ?_ _ | with_reducible refine Gr.drewN ?_ _ | with_reducible refine Gr.drew ?_ | with_reducible refine Gr.trans ?_ (by with_reducible assumption))); done)) _ | with_reducible refine Gr.trans ?_ (by with_reducible assumption)))).mono ?_; rintro e w1 ⟨rfl, rfl⟩))
    go_ret2
    exact ⟨rfl, (by repeat (first | with_reducible exact Gr.refl _ | with_reducible assumption | with_reducible refine Gr.alloc ?_ _ | with_reducible refine Gr.drewN ?_ _ | with_reducible refine Gr.drew ?_ | with_reducible refine Gr.setCell ?_ (by first | (dsimp only; omega) | (simp only [World.size_alloc]; omega) | (with_reducible refine Gr.size ?_; (repeat (first | with_reducible exact Gr.refl _ | with_reducible assumption | with_reducible refine Gr.alloc ?_ _ | with_reducible refine Gr.drewN ?_ _ | with_reducible refine Gr.drew ?_ | with_reducible refine Gr.trans ?_ (by with_reducible assumption))); done)) _ | with_reducible refine Gr.trans ?_ (by with_reducible assumption)))⟩
set_option maxRecDepth 100000 in
set_option maxHeartbeats 2000000 in
theorem rServes_any (A B : Option Addr) (c d : Nat) (ns : List Nd) (x : Wd) (l : List Int) (w : World) (hl : SlN w A c ns) (hp : SlI w B d l) :
    Calls Try.prog 28 #[.slice A ns.length c, wdv x, .slice B l.length d] w fun e w' => e = .returned (berr (srV ns x l) (srE ns x l)) ∧ Gr w w' := by
  have HV := hide (fun (w' : World) (g : Gr w w') => rValidate_any A c ns w' (hl.gr g))
  by_cases h0 : vaE ns = 0
  · have hlen := (vaE_ok h0).1
    have HW := hide (fun w => windowIn_any A c x ns w (by omega))
    have HP := hide (fun (w' : World) (g : Gr w w') => isSet_any B d l w' (hp.gr g))
    have hE : srE ns x l = if wnB x ns.length && stB l then 0 else 1 := by unfold srE; rw [if_neg (by simpa using h0)]
    cases hw : wnB x ns.length with
    | false =>
      have HE := hide (show srE ns x l = 1 by rw [hE, hw]; rfl)
      have HR := hide (show srV ns x l = false by unfold srV; rw [HE.out]; rfl)
      rw [h0] at HV
      rw [hw] at HW
      rw [HE.out, HR.out]
      clear h0 hw hE hl hp
      go_enter Try.func28, Try.ntmps28
      go_wp2_with (first | (go_at_call 19; refine (HV.out _ (by repeat (first | with_reducible exact Gr.refl _ | with_reducible assumption | with_reducible refine Gr.alloc ?_ _ | with_reducible refine Gr.drewN ?_ _ | with_reducible refine Gr.drew ?_ | with_reducible refine Gr.setCell ?_ (by first | (dsimp only; omega) | (simp only [World.size_alloc]; omega) | (with_reducible refine Gr.size ?_; (repeat (first | with_reducible exact Gr.refl _ | with_reducible assumption | with_reducible refine Gr.alloc ?_ _ | with_reducible refine Gr.drewN ?_ _ | with_reducible refine Gr.drew ?_ | with_reducible refine Gr.trans ?_ (by with_reducible assumption))); done)) _ | with_reducible refine Gr.trans ?_ (by with_reducible assumption)))).mono ?_; rintro e w1 ⟨rfl, g1⟩; obtain ⟨X1, Y1, c1, f1⟩ := g1.use) | (go_at_call 64; refine (HW.out _).mono ?_; rintro e w1 ⟨rfl, g1⟩; obtain ⟨X1, Y1, c1, f1⟩ := g1.use))
      go_ret2
      exact ⟨rfl, (by repeat (first | with_reducible exact Gr.refl _ | with_reducible assumption | with_reducible refine Gr.alloc ?_ _ | with_reducible refine Gr.drewN ?_ _ | with_reducible refine Gr.drew ?_ | with_reducible refine Gr.setCell ?_ (by first | (dsimp only; omega) | (simp only [World.size_alloc]; omega) | (with_reducible refine Gr.size ?_; (repeat (first | with_reducible exact Gr.refl _ | with_reducible assumption | with_reducible refine Gr.alloc ?_ _ | with_reducible refine Gr.drewN ?_ _ | with_reducible refine Gr.drew ?_ | with_reducible refine Gr.trans ?_ (by with_reducible assumption))); done)) _ | with_reducible refine Gr.trans ?_ (by with_reducible assumption)))⟩
    | true =>
      cases hs : stB l with
      | false =>
        have HE := hide (show srE ns x l = 1 by rw [hE, hw, hs]; rfl)
        have HR := hide (show srV ns x l = false by unfold srV; rw [HE.out]; rfl)
        rw [h0] at HV
        rw [hw] at HW
        rw [hs] at HP
        rw [HE.out, HR.out]
        clear h0 hw hs hE hl hp
        go_enter Try.func28, Try.ntmps28
        go_wp2_with (first | (go_at_call 19; refine (HV.out _ (by repeat (first | with_reducible exact Gr.refl _ | with_reducible assumption | with_reducible refine Gr.alloc ?_ _ | with_reducible refine Gr.drewN ?_ _ | with_reducible refine Gr.drew ?_ | with_reducible refine Gr.setCell ?_ (by first | (dsimp only; omega) | (simp only [World.size_alloc]; omega) | (with_reducible refine Gr.size ?_; (repeat (first | with_reducible exact Gr.refl _ | with_reducible assumption | with_reducible refine Gr.alloc ?_ _ | with_reducible refine Gr.drewN ?_ _ | with_reducible refine Gr.drew ?_ | with_reducible refine Gr.trans ?_ (by with_reducible assumption))); done)) _ | with_reducible refine Gr.trans ?_ (by with_reducible assumption)))).mono ?_; rintro e w1 ⟨rfl, g1⟩; obtain ⟨X1, Y1, c1, f1⟩ := g1.use; have z1 := g1.size; (try simp only [World.size_alloc, World.size_setCell, World.heap_drewN, Nat.add_one_le_iff] at z1); (try have l0 : w.heap.size < w1.heap.size := by omega); (try have l1 : w.heap.size + 1 < w1.heap.size := by omega); (try have l2 : w.heap.size + 1 + 1 < w1.heap.size := by omega)) | (go_at_call 64; refine (HW.out _).mono ?_; rintro e w1 ⟨rfl, g1⟩; obtain ⟨X1, Y1, c1, f1⟩ := g1.use) | (go_at_call 51; refine (HP.out _ (by repeat (first | with_reducible exact Gr.refl _ | with_reducible assumption | with_reducible refine Gr.alloc ?_ _ | with_reducible refine Gr.drewN ?_ _ | with_reducible refine Gr.drew ?_ | with_reducible refine Gr.setCell ?_ (by first | (dsimp only; omega) | (simp only [World.size_alloc]; omega) | (with_reducible refine Gr.size ?_; (repeat (first | with_reducible exact Gr.refl _ | with_reducible assumption | with_reducible refine Gr.alloc ?_ _ | with_reducible refine Gr.drewN ?_ _ | with_reducible refine Gr.drew ?_ | with_reducible refine Gr.trans ?_ (by with_reducible assumption))); done)) _ | with_reducible refine Gr.trans ?_ (by with_reducible assumption)))).mono ?_; rintro e w1 ⟨rfl, g1⟩; obtain ⟨X1, Y1, c1, f1⟩ := g1.use))
        go_ret2
        exact ⟨rfl, (by repeat (first | with_reducible exact Gr.refl _ | with_reducible assumption | with_reducible refine Gr.alloc ?_ _ | with_reducible refine Gr.drewN ?_ _ | with_reducible refine Gr.drew ?_ | with_reducible refine Gr.setCell ?_ (by first | (dsimp only; omega) | (simp only [World.size_alloc]; omega) | (with_reducible refine Gr.size ?_; (repeat (first | with_reducible exact Gr.refl _ | with_reducible assumption | with_reducible refine Gr.alloc ?_ _ | with_reducible refine Gr.drewN ?_ _ | with_reducible refine Gr.drew ?_ | with_reducible refine Gr.trans ?_ (by with_reducible assumption))); done)) _ | with_reducible refine Gr.trans ?_ (by with_reducible assumption)))⟩
      | true =>
        have HE := hide (show srE ns x l = 0 by rw [hE, hw, hs]; rfl)
        have HR := hide (show srV ns x l = svB (mks ns) x.fm.toNat x.tl.toNat (mk l) by unfold srV; rw [HE.out]; rfl)
        obtain ⟨b1, b2, b3⟩ := wnB_iff.1 hw
        obtain ⟨fm, tl⟩ := x
        simp only at b1 b2 b3
        obtain ⟨f, rfl⟩ : ∃ f : Nat, fm = f := ⟨fm.toNat, by omega⟩
        obtain ⟨t, rfl⟩ : ∃ t : Nat, tl = t := ⟨tl.toNat, by omega⟩
        have hin := inR_of hs
        have hB := (vaE_ok h0).2
        have HSO := hide (fun (w' : World) (g : Gr w w') => bits_any B d l w' (hp.gr g) hin)
        have HSV := hide (fun (w' : World) (g : Gr w w') => rserves_any A c ns (mk l) f t w' (hl.gr g) hB (mk_lt hin) (by omega) (by omega) (by omega))
        rw [h0] at HV
        rw [hw] at HW
        rw [hs] at HP
        rw [HE.out, HR.out]
        simp only [Int.toNat_natCast]
        clear h0 hw hs hE hl hp b1 b2 b3 hin hB HE HR
        generalize mks ns = ss at *
        generalize mk l = m at *
        go_enter Try.func28, Try.ntmps28
        go_upto_region 6 with (first | (go_at_call 19; refine (HV.out _ (by repeat (first | with_reducible exact Gr.refl _ | with_reducible assumption | with_reducible refine Gr.alloc ?_ _ | with_reducible refine Gr.drewN ?_ _ | with_reducible refine Gr.drew ?_ | with_reducible refine Gr.setCell ?_ (by first | (dsimp only; omega) | (simp only [World.size_alloc]; omega) | (with_reducible refine Gr.size ?_; (repeat (first | with_reducible exact Gr.refl _ | with_reducible assumption | with_reducible refine Gr.alloc ?_ _ | with_reducible refine Gr.drewN ?_ _ | with_reducible refine Gr.drew ?_ | with_reducible refine Gr.trans ?_ (by with_reducible assumption))); done)) _ | with_reducible refine Gr.trans ?_ (by with_reducible assumption)))).mono ?_; rintro e w1 ⟨rfl, g1⟩; obtain ⟨X1, Y1, c1, f1⟩ := g1.use) | (go_at_call 64; refine (HW.out _).mono ?_; rintro e w1 ⟨rfl, g1⟩; obtain ⟨X1, Y1, c1, f1⟩ := g1.use) | (go_at_call 51; refine (HP.out _ (by repeat (first | with_reducible exact Gr.refl _ | with_reducible assumption | with_reducible refine Gr.alloc ?_ _ | with_reducible refine Gr.drewN ?_ _ | with_reducible refine Gr.drew ?_ | with_reducible refine Gr.setCell ?_ (by first | (dsimp only; omega) | (simp only [World.size_alloc]; omega) | (with_reducible refine Gr.size ?_; (repeat (first | with_reducible exact Gr.refl _ | with_reducible assumption | with_reducible refine Gr.alloc ?_ _ | with_reducible refine Gr.drewN ?_ _ | with_reducible refine Gr.drew ?_ | with_reducible refine Gr.trans ?_ (by with_reducible assumption))); done)) _ | with_reducible refine Gr.trans ?_ (by with_reducible assumption)))).mono ?_; rintro e w1 ⟨rfl, g1⟩; obtain ⟨X1, Y1, c1, f1⟩ := g1.use))
        have GC := @GrW.cell
        refine wp_region_grw _ (by kernel_rfl) (by kernel_rfl) (Gr.refl _) ?_
        repeat (go_big_quiet_step ((first | (go_at_call 65; exact quiet_grs (HSO.out _ (Gr.trans (by repeat (first | with_reducible exact Gr.refl _ | with_reducible assumption | with_reducible refine Gr.alloc ?_ _ | with_reducible refine Gr.drewN ?_ _ | with_reducible refine Gr.drew ?_ | with_reducible refine Gr.setCell ?_ (by first | (dsimp only; omega) | (simp only [World.size_alloc]; omega) | (with_reducible refine Gr.size ?_; (repeat (first | with_reducible exact Gr.refl _ | with_reducible assumption | with_reducible refine Gr.alloc ?_ _ | with_reducible refine Gr.drewN ?_ _ | with_reducible refine Gr.drew ?_ | with_reducible refine Gr.trans ?_ (by with_reducible assumption))); done)) _ | with_reducible refine Gr.trans ?_ (by with_reducible assumption))) (GrW.gr _)))) | (go_at_call 53; exact quiet_grs (HSV.out _ (Gr.trans (by repeat (first | with_reducible exact Gr.refl _ | with_reducible assumption | with_reducible refine Gr.alloc ?_ _ | with_reducible refine Gr.drewN ?_ _ | with_reducible refine Gr.drew ?_ | with_reducible refine Gr.setCell ?_ (by first | (dsimp only; omega) | (simp only [World.size_alloc]; omega) | (with_reducible refine Gr.size ?_; (repeat (first | with_reducible exact Gr.refl _ | with_reducible assumption | with_reducible refine Gr.alloc ?_ _ | with_reducible refine Gr.drewN ?_ _ | with_reducible refine Gr.drew ?_ | with_reducible refine Gr.trans ?_ (by with_reducible assumption))); done)) _ | with_reducible refine Gr.trans ?_ (by with_reducible assumption))) (GrW.gr _)))))))
        refine wpQuiet_nil ?_
        intro wq hwq
        obtain ⟨gq, hwq'⟩ := hwq
        subst hwq'
        clear GC
        have gq1 := gq.gr
        generalize gq.w = wq at gq1 ⊢
        obtain ⟨Xq, Yq, cq, fq⟩ := gq1.use
        have sq := gq1.size
        (try simp only [World.size_alloc, World.size_setCell, World.heap_drewN] at sq)
        go_wp2
        go_ret2
        exact ⟨rfl, (by repeat (first | with_reducible exact Gr.refl _ | with_reducible assumption | with_reducible refine Gr.alloc ?_ _ | with_reducible refine Gr.drewN ?_ _ | with_reducible refine Gr.drew ?_ | with_reducible refine Gr.setCell ?_ (by first | (dsimp only; omega) | (simp only [World.size_alloc]; omega) | (with_reducible refine Gr.size ?_; (repeat (first | with_reducible exact Gr.refl _ | with_reducible assumption | with_reducible refine Gr.alloc ?_ _ | with_reducible refine Gr.drewN ?_ _ | with_reducible refine Gr.drew ?_ | with_reducible refine Gr.trans ?_ (by with_reducible assumption))); done)) _ | with_reducible refine Gr.trans ?_ (by with_reducible assumption)))⟩
  · have HE := hide (show srE ns x l = vaE ns by unfold srE; rw [if_pos h0])
    have HR := hide (show srV ns x l = false by unfold srV; rw [HE.out, if_neg h0])
    have h1 : (vaE ns != 0) = true := by simpa using h0
    rw [HE.out, HR.out]
    generalize vaE ns = e0 at *
    clear h0 hl hp
    go_enter Try.func28, Try.ntmps28
    go_wp2_with (first | (go_at_call 19; refine (HV.out _ (by repeat (first | with_reducible exact Gr.refl _ | with_reducible assumption | with_reducible refine Gr.alloc ?_ _ | with_reducible refine Gr.drewN ?_ _ | with_reducible refine Gr.drew ?_ | with_reducible refine Gr.setCell ?_ (by first | (dsimp only; omega) | (simp only [World.size_alloc]; omega) | (with_reducible refine Gr.size ?_; (repeat (first | with_reducible exact Gr.refl _ | with_reducible assumption | with_reducible refine Gr.alloc ?_ _ | with_reducible refine Gr.drewN ?_ _ | with_reducible refine Gr.drew ?_ | with_reducible refine Gr.trans ?_ (by with_reducible assumption))); done)) _ | with_reducible refine Gr.trans ?_ (by with_reducible assumption)))).mono ?_; rintro e w1 ⟨rfl, g1⟩; obtain ⟨X1, Y1, c1, f1⟩ := g1.use))
    go_ret2
    exact ⟨rfl, (by repeat (first | with_reducible exact Gr.refl _ | with_reducible assumption | with_reducible refine Gr.alloc ?_ _ | with_reducible refine Gr.drewN ?_ _ | with_reducible refine Gr.drew ?_ | with_reducible refine Gr.setCell ?_ (by first | (dsimp only; omega) | (simp only [World.size_alloc]; omega) | (with_reducible refine Gr.size ?_; (repeat (first | with_reducible exact Gr.refl _ | with_reducible assumption | with_reducible refine Gr.alloc ?_ _ | with_reducible refine Gr.drewN ?_ _ | with_reducible refine Gr.drew ?_ | with_reducible refine Gr.trans ?_ (by with_reducible assumption))); done)) _ | with_reducible refine Gr.trans ?_ (by with_reducible assumption)))⟩
theorem bkE_bad {ns : List Nd} {s : Int} {x : Wd} (h : ¬ chE ns s = 0) : bkE ns s x = chE ns s := by unfold bkE; rw [if_pos h]
theorem bkE_good {ns : List Nd} {s : Int} {x : Wd} (h : chE ns s = 0) : bkE ns s x = if wnB x ns.length then 0 else 1 := by unfold bkE; rw [if_neg (by simpa using h)]
theorem bkV_no {ns : List Nd} {s : Int} {x : Wd} (h : ¬ bkE ns s x = 0) : bkV ns s x = false := by unfold bkV; rw [if_neg h]
theorem bkV_yes {ns : List Nd} {s : Int} {x : Wd} (h : bkE ns s x = 0) : bkV ns s x = bkB (mks ns) s.toNat x.fm.toNat x.tl.toNat := by unfold bkV; rw [if_pos h]
set_option maxRecDepth 100000 in
set_option maxHeartbeats 1000000 in
theorem Blocked_any (A : Option Addr) (c : Nat) (ns : List Nd) (s : Int) (x : Wd) (w : World) (hl : SlN w A c ns) :
    Calls Try.prog 29 #[.slice A ns.length c, iv s, wdv x] w fun e w' => e = .returned (berr (bkV ns s x) (bkE ns s x)) ∧ Gr w w' := by
  have HV := hide (fun (w' : World) (g : Gr w w') => scheck_any A c ns s w' (hl.gr g))
  by_cases h0 : chE ns s = 0
  · have HW := hide (fun w => validWindow_any x ns.length w)
    have hE := bkE_good (x := x) h0
    cases hw : wnB x ns.length with
    | false =>
      have HE := hide (show bkE ns s x = 1 by rw [hE, hw]; rfl)
      have HR := hide (bkV_no (ns := ns) (s := s) (x := x) (by rw [HE.out]; decide))
      rw [h0] at HV
      rw [hw] at HW
      rw [HE.out, HR.out]
      clear h0 hw hE hl
      go_enter Try.func29, Try.ntmps29
      go_wp2_with (first | (go_at_call 42; refine (HV.out _ (by repeat (first | with_reducible exact Gr.refl _ | with_reducible assumption | with_reducible refine Gr.alloc ?_ _ | with_reducible refine Gr.drewN ?_ _ | with_reducible refine Gr.drew ?_ | with_reducible refine Gr.setCell ?_ (by first | (dsimp only; omega) | (simp only [World.size_alloc]; omega) | (with_reducible refine Gr.size ?_; (repeat (first | with_reducible exact Gr.refl _ | with_reducible assumption | with_reducible refine Gr.alloc ?_ _ | with_reducible refine Gr.drewN ?_ _ | with_reducible refine Gr.drew ?_ | with_reducible refine Gr.trans ?_ (by with_reducible assumption))); done)) _ | with_reducible refine Gr.trans ?_ (by with_reducible assumption)))).mono ?_; rintro e w1 ⟨rfl, rfl⟩) | (go_at_call 61; refine (HW.out _).mono ?_; rintro e w1 ⟨rfl, g1⟩; obtain ⟨X1, Y1, c1, f1⟩ := g1.use))
      go_ret2
      exact ⟨rfl, (by repeat (first | with_reducible exact Gr.refl _ | with_reducible assumption | with_reducible refine Gr.alloc ?_ _ | with_reducible refine Gr.drewN ?_ _ | with_reducible refine Gr.drew ?_ | with_reducible refine Gr.setCell ?_ (by first | (dsimp only; omega) | (simp only [World.size_alloc]; omega) | (with_reducible refine Gr.size ?_; (repeat (first | with_reducible exact Gr.refl _ | with_reducible assumption | with_reducible refine Gr.alloc ?_ _ | with_reducible refine Gr.drewN ?_ _ | with_reducible refine Gr.drew ?_ | with_reducible refine Gr.trans ?_ (by with_reducible assumption))); done)) _ | with_reducible refine Gr.trans ?_ (by with_reducible assumption)))⟩
    | true =>
      have HE := hide (show bkE ns s x = 0 by rw [hE, hw]; rfl)
      have HR := hide (bkV_yes HE.out)
      obtain ⟨b1, b2, b3⟩ := wnB_iff.1 hw
      obtain ⟨h2, h3⟩ := chE_ok h0
      obtain ⟨b4, b5⟩ := wiB_iff.1 h3
      obtain ⟨fm, tl⟩ := x
      simp only at b1 b2 b3
      obtain ⟨f, rfl⟩ : ∃ f : Nat, fm = f := ⟨fm.toNat, by omega⟩
      obtain ⟨t, rfl⟩ : ∃ t : Nat, tl = t := ⟨tl.toNat, by omega⟩
      obtain ⟨q, rfl⟩ : ∃ q : Nat, s = q := ⟨s.toNat, by omega⟩
      have hlen := (vaE_ok h2).1
      have hml := mks_lt (vaE_ok h2).2
      have HSS := hide (fun (w' : World) (g : Gr w w') => setsOf_any A c ns w' (hl.gr g) h2)
      have HSV := hide (fun (A' : Option Addr) (d' : Nat) (w' : World) (h : SlU w' A' d' (mks ns)) => blocked_any A' d' (mks ns) q f t w' h hml (by omega) (by rw [mks_len]; omega) (by rw [mks_len]; omega))
      rw [h0] at HV
      rw [hw] at HW
      rw [HE.out, HR.out]
      simp only [Int.toNat_natCast]
      clear h0 hw hE hl b1 b2 b3 b4 b5 hml HE HR h2 h3
      generalize mks ns = ss at *
      go_enter Try.func29, Try.ntmps29
      go_upto_region 6 with (first | (go_at_call 42; refine (HV.out _ (by repeat (first | with_reducible exact Gr.refl _ | with_reducible assumption | with_reducible refine Gr.alloc ?_ _ | with_reducible refine Gr.drewN ?_ _ | with_reducible refine Gr.drew ?_ | with_reducible refine Gr.setCell ?_ (by first | (dsimp only; omega) | (simp only [World.size_alloc]; omega) | (with_reducible refine Gr.size ?_; (repeat (first | with_reducible exact Gr.refl _ | with_reducible assumption | with_reducible refine Gr.alloc ?_ _ | with_reducible refine Gr.drewN ?_ _ | with_reducible refine Gr.drew ?_ | with_reducible refine Gr.trans ?_ (by with_reducible assumption))); done)) _ | with_reducible refine Gr.trans ?_ (by with_reducible assumption)))).mono ?_; rintro e w1 ⟨rfl, rfl⟩) | (go_at_call 61; refine (HW.out _).mono ?_; rintro e w1 ⟨rfl, g1⟩; obtain ⟨X1, Y1, c1, f1⟩ := g1.use))
      go_region_law (first
        | (go_simp; go_at_call 55; refine (HSS.out _ (by repeat (first | with_reducible exact Gr.refl _ | with_reducible assumption | with_reducible refine Gr.alloc ?_ _ | with_reducible refine Gr.drewN ?_ _ | with_reducible refine Gr.drew ?_ | with_reducible refine Gr.setCell ?_ (by first | (dsimp only; omega) | (simp only [World.size_alloc]; omega) | (with_reducible refine Gr.size ?_; (repeat (first | with_reducible exact Gr.refl _ | with_reducible assumption | with_reducible refine Gr.alloc ?_ _ | with_reducible refine Gr.drewN ?_ _ | with_reducible refine Gr.drew ?_ | with_reducible refine Gr.trans ?_ (by with_reducible assumption))); done)) _ | with_reducible refine Gr.trans ?_ (by with_reducible assumption)))).mono ?_; rintro e w6 ⟨A6, d6, rfl, ho6, g6⟩; (have ho6' := hide (own_sub ho6)); clear ho6; obtain ⟨X6, Y6, c6, f6⟩ := g6.use)
        | (go_simp; go_at_call 66; refine (HSV.out _ _ _ (SlU.gr (Hid.out (by assumption)) (by repeat (first | with_reducible exact Gr.refl _ | with_reducible assumption | with_reducible refine Gr.alloc ?_ _ | with_reducible refine Gr.drewN ?_ _ | with_reducible refine Gr.drew ?_ | with_reducible refine Gr.setCell ?_ (by first | (dsimp only; omega) | (simp only [World.size_alloc]; omega) | (with_reducible refine Gr.size ?_; (repeat (first | with_reducible exact Gr.refl _ | with_reducible assumption | with_reducible refine Gr.alloc ?_ _ | with_reducible refine Gr.drewN ?_ _ | with_reducible refine Gr.drew ?_ | with_reducible refine Gr.trans ?_ (by with_reducible assumption))); done)) _ | with_reducible refine Gr.trans ?_ (by with_reducible assumption))))).mono ?_; rintro e w7 ⟨rfl, g7⟩))
      all_goals
        go_wp2
        go_ret2
        exact ⟨rfl, (by repeat (first | with_reducible exact Gr.refl _ | with_reducible assumption | with_reducible refine Gr.alloc ?_ _ | with_reducible refine Gr.drewN ?_ _ | with_reducible refine Gr.drew ?_ | with_reducible refine Gr.setCell ?_ (by first | (dsimp only; omega) | (simp only [World.size_alloc]; omega) | (with_reducible refine Gr.size ?_; (repeat (first | with_reducible exact Gr.refl _ | with_reducible assumption | with_reducible refine Gr.alloc ?_ _ | with_reducible refine Gr.drewN ?_ _ | with_reducible refine Gr.drew ?_ | with_reducible refine Gr.trans ?_ (by with_reducible assumption))); done)) _ | with_reducible refine Gr.trans ?_ (by with_reducible assumption)))⟩
  · have HE := hide (bkE_bad (x := x) h0)
    have HR := hide (bkV_no (ns := ns) (s := s) (x := x) (by rw [HE.out]; exact h0))
    have h1 : (chE ns s != 0) = true := by simpa using h0
    rw [HE.out, HR.out]
    generalize chE ns s = e0 at *
    clear h0 hl
    go_enter Try.func29, Try.ntmps29
    go_wp2_with (first | (go_at_call 42; refine (HV.out _ (by repeat (first | with_reducible exact Gr.refl _ | with_reducible assumption | with_reducible refine Gr.alloc ?_ _ | with_reducible refine Gr.drewN ?_ _ | with_reducible refine Gr.drew ?_ | with_reducible refine Gr.setCell ?_ (by first | (dsimp only; omega) | (simp only [World.size_alloc]; omega) | (with_reducible refine Gr.size ?_; (repeat (first | with_reducible exact Gr.refl _ | with_reducible assumption | with_reducible refine Gr.alloc ?_ _ | with_reducible refine Gr.drewN ?_ _ | with_reducible refine Gr.drew ?_ | with_reducible refine Gr.trans ?_ (by with_reducible assumption))); done)) _ | with_reducible refine Gr.trans ?_ (by with_reducible assumption)))).mono ?_; rintro e w1 ⟨rfl, rfl⟩))
    go_ret2
    exact ⟨rfl, (by repeat (first | with_reducible exact Gr.refl _ | with_reducible assumption | with_reducible refine Gr.alloc ?_ _ | with_reducible refine Gr.drewN ?_ _ | with_reducible refine Gr.drew ?_ | with_reducible refine Gr.setCell ?_ (by first | (dsimp only; omega) | (simp only [World.size_alloc]; omega) | (with_reducible refine Gr.size ?_; (repeat (first | with_reducible exact Gr.refl _ | with_reducible assumption | with_reducible refine Gr.alloc ?_ _ | with_reducible refine Gr.drewN ?_ _ | with_reducible refine Gr.drew ?_ | with_reducible refine Gr.trans ?_ (by with_reducible assumption))); done)) _ | with_reducible refine Gr.trans ?_ (by with_reducible assumption)))⟩
set_option maxRecDepth 100000 in
set_option maxHeartbeats 1000000 in
theorem rBlocked_any (A : Option Addr) (c : Nat) (ns : List Nd) (s : Int) (x : Wd) (w : World) (hl : SlN w A c ns) :
    Calls Try.prog 30 #[.slice A ns.length c, iv s, wdv x] w fun e w' => e = .returned (berr (bkV ns s x) (bkE ns s x)) ∧ Gr w w' := by
  have HV := hide (fun (w' : World) (g : Gr w w') => rCheck0_any A c ns s w' (hl.gr g))
  by_cases h0 : chE ns s = 0
  · obtain ⟨h2, h3⟩ := chE_ok h0
    have hlen := (vaE_ok h2).1
    have HW := hide (fun w => windowIn_any A c x ns w (by omega))
    have hE := bkE_good (x := x) h0
    cases hw : wnB x ns.length with
    | false =>
      have HE := hide (show bkE ns s x = 1 by rw [hE, hw]; rfl)
      have HR := hide (bkV_no (ns := ns) (s := s) (x := x) (by rw [HE.out]; decide))
      rw [h0] at HV
      rw [hw] at HW
      rw [HE.out, HR.out]
      clear h0 hw hE hl h2 h3
      go_enter Try.func30, Try.ntmps30
      go_wp2_with (first | (go_at_call 46; refine (HV.out _ (by repeat (first | with_reducible exact Gr.refl _ | with_reducible assumption | with_reducible refine Gr.alloc ?_ _ | with_reducible refine Gr.drewN ?_ _ | with_reducible refine Gr.drew ?_ | with_reducible refine Gr.setCell ?_ (by first | (dsimp only; omega) | (simp only [World.size_alloc]; omega) | (with_reducible refine Gr.size ?_; (repeat (first | with_reducible exact Gr.refl _ | with_reducible assumption | with_reducible refine Gr.alloc ?_ _ | with_reducible refine Gr.drewN ?_ _ | with_reducible refine Gr.drew ?_ | with_reducible refine Gr.trans ?_ (by with_reducible assumption))); done)) _ | with_reducible refine Gr.trans ?_ (by with_reducible assumption)))).mono ?_; rintro e w1 ⟨rfl, g1⟩; obtain ⟨X1, Y1, c1, f1⟩ := g1.use; have z1 := g1.size; (try simp only [World.size_alloc, World.size_setCell, World.heap_drewN, Nat.add_one_le_iff] at z1); (try have l0 : w.heap.size < w1.heap.size := by omega); (try have l1 : w.heap.size + 1 < w1.heap.size := by omega); (try have l2 : w.heap.size + 1 + 1 < w1.heap.size := by omega)) | (go_at_call 64; refine (HW.out _).mono ?_; rintro e w1 ⟨rfl, g1⟩; obtain ⟨X1, Y1, c1, f1⟩ := g1.use))
      go_ret2
      exact ⟨rfl, (by repeat (first | with_reducible exact Gr.refl _ | with_reducible assumption | with_reducible refine Gr.alloc ?_ _ | with_reducible refine Gr.drewN ?_ _ | with_reducible refine Gr.drew ?_ | with_reducible refine Gr.setCell ?_ (by first | (dsimp only; omega) | (simp only [World.size_alloc]; omega) | (with_reducible refine Gr.size ?_; (repeat (first | with_reducible exact Gr.refl _ | with_reducible assumption | with_reducible refine Gr.alloc ?_ _ | with_reducible refine Gr.drewN ?_ _ | with_reducible refine Gr.drew ?_ | with_reducible refine Gr.trans ?_ (by with_reducible assumption))); done)) _ | with_reducible refine Gr.trans ?_ (by with_reducible assumption)))⟩
    | true =>
      have HE := hide (show bkE ns s x = 0 by rw [hE, hw]; rfl)
      have HR := hide (bkV_yes HE.out)
      obtain ⟨b1, b2, b3⟩ := wnB_iff.1 hw
      obtain ⟨b4, b5⟩ := wiB_iff.1 h3
      obtain ⟨fm, tl⟩ := x
      simp only at b1 b2 b3
      obtain ⟨f, rfl⟩ : ∃ f : Nat, fm = f := ⟨fm.toNat, by omega⟩
      obtain ⟨t, rfl⟩ : ∃ t : Nat, tl = t := ⟨tl.toNat, by omega⟩
      obtain ⟨q, rfl⟩ : ∃ q : Nat, s = q := ⟨s.toNat, by omega⟩
      have hB := (vaE_ok h2).2
      have HSV := hide (fun (w' : World) (g : Gr w w') => rblocked_any A c ns q f t w' (hl.gr g) hB (by omega) (by omega) (by omega))
      rw [h0] at HV
      rw [hw] at HW
      rw [HE.out, HR.out]
      simp only [Int.toNat_natCast]
      clear h0 hw hE hl b1 b2 b3 b4 b5 HE HR h2 h3 hB
      generalize mks ns = ss at *
      go_enter Try.func30, Try.ntmps30
      go_wp2_with (first | (go_at_call 46; refine (HV.out _ (by repeat (first | with_reducible exact Gr.refl _ | with_reducible assumption | with_reducible refine Gr.alloc ?_ _ | with_reducible refine Gr.drewN ?_ _ | with_reducible refine Gr.drew ?_ | with_reducible refine Gr.setCell ?_ (by first | (dsimp only; omega) | (simp only [World.size_alloc]; omega) | (with_reducible refine Gr.size ?_; (repeat (first | with_reducible exact Gr.refl _ | with_reducible assumption | with_reducible refine Gr.alloc ?_ _ | with_reducible refine Gr.drewN ?_ _ | with_reducible refine Gr.drew ?_ | with_reducible refine Gr.trans ?_ (by with_reducible assumption))); done)) _ | with_reducible refine Gr.trans ?_ (by with_reducible assumption)))).mono ?_; rintro e w1 ⟨rfl, g1⟩; obtain ⟨X1, Y1, c1, f1⟩ := g1.use; have z1 := g1.size; (try simp only [World.size_alloc, World.size_setCell, World.heap_drewN, Nat.add_one_le_iff] at z1); (try have l0 : w.heap.size < w1.heap.size := by omega); (try have l1 : w.heap.size + 1 < w1.heap.size := by omega); (try have l2 : w.heap.size + 1 + 1 < w1.heap.size := by omega)) | (go_at_call 64; refine (HW.out _).mono ?_; rintro e w1 ⟨rfl, g1⟩; obtain ⟨X1, Y1, c1, f1⟩ := g1.use) | (go_at_call 67; refine (HSV.out _ (by repeat (first | with_reducible exact Gr.refl _ | with_reducible assumption | with_reducible refine Gr.alloc ?_ _ | with_reducible refine Gr.drewN ?_ _ | with_reducible refine Gr.drew ?_ | with_reducible refine Gr.setCell ?_ (by first | (dsimp only; omega) | (simp only [World.size_alloc]; omega) | (with_reducible refine Gr.size ?_; (repeat (first | with_reducible exact Gr.refl _ | with_reducible assumption | with_reducible refine Gr.alloc ?_ _ | with_reducible refine Gr.drewN ?_ _ | with_reducible refine Gr.drew ?_ | with_reducible refine Gr.trans ?_ (by with_reducible assumption))); done)) _ | with_reducible refine Gr.trans ?_ (by with_reducible assumption)))).mono ?_; rintro e w1 ⟨rfl, rfl⟩))
      go_ret2
      exact ⟨rfl, (by repeat (first | with_reducible exact Gr.refl _ | with_reducible assumption | with_reducible refine Gr.alloc ?_ _ | with_reducible refine Gr.drewN ?_ _ | with_reducible refine Gr.drew ?_ | with_reducible refine Gr.setCell ?_ (by first | (dsimp only; omega) | (simp only [World.size_alloc]; omega) | (with_reducible refine Gr.size ?_; (repeat (first | with_reducible exact Gr.refl _ | with_reducible assumption | with_reducible refine Gr.alloc ?_ _ | with_reducible refine Gr.drewN ?_ _ | with_reducible refine Gr.drew ?_ | with_reducible refine Gr.trans ?_ (by with_reducible assumption))); done)) _ | with_reducible refine Gr.trans ?_ (by with_reducible assumption)))⟩
  · have HE := hide (bkE_bad (x := x) h0)
    have HR := hide (bkV_no (ns := ns) (s := s) (x := x) (by rw [HE.out]; exact h0))
    have h1 : (chE ns s != 0) = true := by simpa using h0
    rw [HE.out, HR.out]
    generalize chE ns s = e0 at *
    clear h0 hl
    go_enter Try.func30, Try.ntmps30
    go_wp2_with (first | (go_at_call 46; refine (HV.out _ (by repeat (first | with_reducible exact Gr.refl _ | with_reducible assumption | with_reducible refine Gr.alloc ?_ _ | with_reducible refine Gr.drewN ?_ _ | with_reducible refine Gr.drew ?_ | with_reducible refine Gr.setCell ?_ (by first | (dsimp only; omega) | (simp only [World.size_alloc]; omega) | (with_reducible refine Gr.size ?_; (repeat (first | with_reducible exact Gr.refl _ | with_reducible assumption | with_reducible refine Gr.alloc ?_ _ | with_reducible refine Gr.drewN ?_ _ | with_reducible refine Gr.drew ?_ | with_reducible refine Gr.trans ?_ (by with_reducible assumption))); done)) _ | with_reducible refine Gr.trans ?_ (by with_reducible assumption)))).mono ?_; rintro e w1 ⟨rfl, g1⟩; obtain ⟨X1, Y1, c1, f1⟩ := g1.use))
    go_ret2
    exact ⟨rfl, (by repeat (first | with_reducible exact Gr.refl _ | with_reducible assumption | with_reducible refine Gr.alloc ?_ _ | with_reducible refine Gr.drewN ?_ _ | with_reducible refine Gr.drew ?_ | with_reducible refine Gr.setCell ?_ (by first | (dsimp only; omega) | (simp only [World.size_alloc]; omega) | (with_reducible refine Gr.size ?_; (repeat (first | with_reducible exact Gr.refl _ | with_reducible assumption | with_reducible refine Gr.alloc ?_ _ | with_reducible refine Gr.drewN ?_ _ | with_reducible refine Gr.drew ?_ | with_reducible refine Gr.trans ?_ (by with_reducible assumption))); done)) _ | with_reducible refine Gr.trans ?_ (by with_reducible assumption)))⟩
end Go.Proofs.Ytfoihnhcodmhnaa
