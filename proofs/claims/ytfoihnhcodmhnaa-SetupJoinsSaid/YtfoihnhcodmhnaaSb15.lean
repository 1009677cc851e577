/-
  What is mounted at a step, on both sides.
-/
import Derived.Test.YtfoihnhcodmhnaaSb14
set_option linter.unusedVariables false
set_option linter.unusedSimpArgs false
namespace Go.Proofs.Ytfoihnhcodmhnaa
set_option linter.unusedVariables false
set_option linter.unusedSimpArgs false
open Go Go.ChangeShapes Go.WideShapes Go.ChangeAt Go.RowKit Go.Deep

/-- what one change makes of the pair on station i -/
def moF (step i : Int) (a : Int) (x : Chg) : Int := if x.st ≤ step ∧ x.sn = i then x.pr else a
/-- the pair on station i at a step -/
def mo1 (l : List Chg) (step i : Int) : Int := l.foldl (moF step i) (-1)
def moL (s : Nat) (l : List Chg) (step : Int) : List Int := (List.range s).map fun i : Nat => mo1 l step (i : Int)
theorem moL_len (s : Nat) (l : List Chg) (step : Int) : (moL s l step).length = s := by simp [moL]
theorem moL_at {s i : Nat} {l : List Chg} {step : Int} (h : i < s) : (moL s l step)[i]? = some (mo1 l step i) := by
  unfold moL
  rw [List.getElem?_map, List.getElem?_range h]
  rfl
theorem mo1_at {l : List Chg} {k : Nat} {x : Chg} {step i : Int} (h : l[k]? = some x) : mo1 (l.take (k + 1)) step i = moF step i (mo1 (l.take k) step i) x := by
  unfold mo1
  rw [take_at h, List.foldl_append]
  rfl
/-- the error of Mounted, and what it gives -/
noncomputable def mtE (ns : List Nd) (s : Int) (l : List Chg) (step : Int) : Int := if chE ns s ≠ 0 then chE ns s else if orB ns.length s l then (if wiB step 0 ((ns.length : Int) - 1) then 0 else 1) else 12
noncomputable def mtL (ns : List Nd) (s : Int) (l : List Chg) (step : Int) : List Int := if mtE ns s l step = 0 then moL s.toNat l step else []
theorem mtE_bad {ns : List Nd} {s : Int} {l : List Chg} {step : Int} (h : ¬ chE ns s = 0) : mtE ns s l step = chE ns s := by unfold mtE; rw [if_pos h]
theorem mtE_ord {ns : List Nd} {s : Int} {l : List Chg} {step : Int} (h : chE ns s = 0) (k : orB ns.length s l = false) : mtE ns s l step = 12 := by unfold mtE; rw [if_neg (by simpa using h), k]; rfl
theorem mtE_in {ns : List Nd} {s : Int} {l : List Chg} {step : Int} (h : chE ns s = 0) (k : orB ns.length s l = true) : mtE ns s l step = if wiB step 0 ((ns.length : Int) - 1) then 0 else 1 := by unfold mtE; rw [if_neg (by simpa using h), k]; rfl
theorem mtL_no {ns : List Nd} {s : Int} {l : List Chg} {step : Int} (h : ¬ mtE ns s l step = 0) : mtL ns s l step = [] := by unfold mtL; rw [if_neg h]
theorem mtL_yes {ns : List Nd} {s : Int} {l : List Chg} {step : Int} (h : mtE ns s l step = 0) : mtL ns s l step = moL s.toNat l step := by unfold mtL; rw [if_pos h]
theorem okC_sn {n : Nat} {s : Int} {c : Chg} (h : okC n s c = true) : 0 ≤ c.sn ∧ c.sn ≤ s - 1 := by
  unfold okC at h
  simp only [Bool.and_eq_true, wiB_iff] at h
  exact h.2.1
theorem sli_nil (w : World) : SlI w none 0 [] := ⟨fun i x hx => by simp at hx, by simp, by decide⟩
theorem Blk.sli {w : World} {B n : Nat} {l : List Int} (h : Blk w B (fun i => iv (l.getD i 0)) n) (hn : l.length = n) (hm : n ≤ 1000) : SlI w (some ⟨B, 0, none⟩) n l := by
  refine ⟨fun i x hx => ⟨B, 0, rfl, ?_, trivial⟩, by omega, by omega⟩
  have hi := (List.getElem?_eq_some_iff.1 hx).1
  have := (h.2 i (by omega)).1
  rw [Nat.zero_add, Nat.mul_one, this]
  dsimp only
  rw [List.getD_eq_getElem?_getD, hx]
  rfl
theorem Blk.congr {w : World} {B n : Nat} {f g : Nat → Value} (h : Blk w B f n) (e : ∀ i, i < n → f i = g i) : Blk w B g n :=
  ⟨h.1, fun j hj => ⟨by rw [(h.2 j hj).1, e j hj], (h.2 j hj).2⟩⟩
theorem row_blk {w : World} {B n : Nat} {e : TypeId} {v : Value} (h : w.heap[B]? = some (.cells (List.replicate n v).toArray e (0, 0))) : Blk w B (fun _ => v) n := by
  refine ⟨(Array.getElem?_eq_some_iff.1 h).1, fun j hj => ⟨?_, ?_⟩⟩
  · rw [row_cells h, List.getElem?_replicate, if_pos hj]
  · simp [World.frozen?, h]
/-- the stations' block behind one more change -/
theorem mo_set {w : World} {B s k : Nat} {l : List Chg} {x : Chg} {step : Int} (h : Blk w B (fun i => iv (mo1 (l.take k) step (i : Int))) s) (hx : l[k]? = some x) (hst : x.st ≤ step) {j : Nat} (hj : x.sn = (j : Int)) (hjs : j < s) :
    Blk (w.setCell ⟨B, j, none⟩ (iv x.pr)) B (fun i => iv (mo1 (l.take (k + 1)) step (i : Int))) s := by
  refine (Blk.set h (iv x.pr) rfl hjs).congr fun i hi => ?_
  rw [mo1_at hx]
  unfold moF
  by_cases e : i = j
  · rw [if_pos e, if_pos ⟨hst, by omega⟩]
  · rw [if_neg e, if_neg (by omega)]
theorem mo_skip {w : World} {B s k : Nat} {l : List Chg} {x : Chg} {step : Int} (h : Blk w B (fun i => iv (mo1 (l.take k) step (i : Int))) s) (hx : l[k]? = some x) (hst : ¬ x.st ≤ step) :
    Blk w B (fun i => iv (mo1 (l.take (k + 1)) step (i : Int))) s := by
  refine h.congr fun i hi => ?_
  rw [mo1_at hx]
  unfold moF
  rw [if_neg (fun q => hst q.1)]
set_option maxRecDepth 100000 in
set_option maxHeartbeats 2000000 in
theorem Mounted_any (A B : Option Addr) (c d : Nat) (ns : List Nd) (s : Int) (l : List Chg) (step : Int) (w : World) (hl : SlN w A c ns) (hp : SlC w B d l) :
    Calls Try.prog 16 #[.slice A ns.length c, iv s, .slice B l.length d, iv step] w fun e w' => ∃ A' d', e = .returned (sle (.slice A' (mtL ns s l step).length d') (mtE ns s l step)) ∧ SlI w' A' d' (mtL ns s l step) ∧ Gr w w' := by
  have HV := hide (scheck_any A c ns s w hl)
  have n1 := hp.cap
  have n2 := hp.capB
  have HP := hide hp
  by_cases h0 : chE ns s = 0
  · obtain ⟨h2, h3⟩ := chE_ok h0
    obtain ⟨b4, b5⟩ := wiB_iff.1 h3
    have hlen := (vaE_ok h2).1
    have HIO := hide (inOrder_any B d l ns.length s w hp (by omega) ⟨b4, b5⟩)
    cases ho : orB ns.length s l with
    | false =>
      have HE := hide (mtE_ord (step := step) h0 ho)
      have HR := hide (mtL_no (ns := ns) (s := s) (l := l) (step := step) (by rw [HE.out]; decide))
      rw [h0] at HV
      rw [ho] at HIO
      rw [HE.out, HR.out]
      clear h0 ho hl hp h2 h3
      go_enter Try.func16, Try.ntmps16
      go_wp2_with (first | (go_at_call 42; refine (HV.out).mono ?_; rintro e w1 ⟨rfl, rfl⟩) | (go_at_call 43; refine (HIO.out).mono ?_; rintro e w1 ⟨rfl, g1⟩; obtain ⟨X1, Y1, c1, f1⟩ := g1.use))
      go_ret2
      exact ⟨none, 0, rfl, sli_nil _, (by repeat (first | with_reducible exact Gr.refl _ | with_reducible assumption | with_reducible refine Gr.alloc ?_ _ | with_reducible refine Gr.drewN ?_ _ | with_reducible refine Gr.drew ?_ | with_reducible refine Gr.setCell ?_ (by first | (dsimp only; omega) | (simp only [World.size_alloc]; omega) | (with_reducible refine Gr.size ?_; (repeat (first | with_reducible exact Gr.refl _ | with_reducible assumption | with_reducible refine Gr.alloc ?_ _ | with_reducible refine Gr.drewN ?_ _ | with_reducible refine Gr.drew ?_ | with_reducible refine Gr.trans ?_ (by with_reducible assumption))); done)) _ | with_reducible refine Gr.trans ?_ (by with_reducible assumption)))⟩
    | true =>
      have W1 : IntKind.i64.wrap ((ns.length : Int) - 1) = (ns.length : Int) - 1 := IntWalk.i64_in _ (by omega)
      cases hw : wiB step 0 ((ns.length : Int) - 1) with
      | false =>
        have HE := hide (show mtE ns s l step = 1 by rw [mtE_in h0 ho, hw]; rfl)
        have HR := hide (mtL_no (ns := ns) (s := s) (l := l) (step := step) (by rw [HE.out]; decide))
        rw [h0] at HV
        rw [ho] at HIO
        rw [HE.out, HR.out]
        clear h0 ho hl hp h2 h3
        go_enter Try.func16, Try.ntmps16
        go_wp2_with (first | (go_at_call 42; refine (HV.out).mono ?_; rintro e w1 ⟨rfl, rfl⟩) | (go_at_call 43; refine (HIO.out).mono ?_; rintro e w1 ⟨rfl, g1⟩; obtain ⟨X1, Y1, c1, f1⟩ := g1.use) | (go_at_call 44; refine (swithin_any _ _ _ _).mono ?_; rintro e w1 ⟨rfl, rfl⟩))
        go_ret2
        exact ⟨none, 0, rfl, sli_nil _, (by repeat (first | with_reducible exact Gr.refl _ | with_reducible assumption | with_reducible refine Gr.alloc ?_ _ | with_reducible refine Gr.drewN ?_ _ | with_reducible refine Gr.drew ?_ | with_reducible refine Gr.setCell ?_ (by first | (dsimp only; omega) | (simp only [World.size_alloc]; omega) | (with_reducible refine Gr.size ?_; (repeat (first | with_reducible exact Gr.refl _ | with_reducible assumption | with_reducible refine Gr.alloc ?_ _ | with_reducible refine Gr.drewN ?_ _ | with_reducible refine Gr.drew ?_ | with_reducible refine Gr.trans ?_ (by with_reducible assumption))); done)) _ | with_reducible refine Gr.trans ?_ (by with_reducible assumption)))⟩
      | true =>
        have HE := hide (show mtE ns s l step = 0 by rw [mtE_in h0 ho, hw]; rfl)
        have HR := hide (mtL_yes HE.out)
        have HOR := hide (orB_iff.1 ho)
        obtain ⟨q, rfl⟩ : ∃ q : Nat, s = q := ⟨s.toNat, by omega⟩
        have HEM := hide (fun w => empty_any q w (by omega) (by omega))
        rw [h0] at HV
        rw [ho] at HIO
        rw [HE.out, HR.out]
        simp only [Int.toNat_natCast]
        clear h0 ho hl hp h2 h3 HE HR
        go_enter Try.func16, Try.ntmps16
        go_wp2_with (first | (go_at_call 42; refine (HV.out).mono ?_; rintro e w1 ⟨rfl, rfl⟩) | (go_at_call 43; refine (HIO.out).mono ?_; rintro e w1 ⟨rfl, g1⟩; obtain ⟨X1, Y1, c1, f1⟩ := g1.use) | (go_at_call 44; refine (swithin_any _ _ _ _).mono ?_; rintro e w1 ⟨rfl, rfl⟩))
        refine (HEM.out _).mono ?_
        rintro e w2 ⟨G, rfl, hrow, hwG, g2⟩
        have gw2 : Gr w w2 := (by repeat (first | with_reducible exact Gr.refl _ | with_reducible assumption | with_reducible refine Gr.alloc ?_ _ | with_reducible refine Gr.drewN ?_ _ | with_reducible refine Gr.drew ?_ | with_reducible refine Gr.setCell ?_ (by first | (dsimp only; omega) | (simp only [World.size_alloc]; omega) | (with_reducible refine Gr.size ?_; (repeat (first | with_reducible exact Gr.refl _ | with_reducible assumption | with_reducible refine Gr.alloc ?_ _ | with_reducible refine Gr.drewN ?_ _ | with_reducible refine Gr.drew ?_ | with_reducible refine Gr.trans ?_ (by with_reducible assumption))); done)) _ | with_reducible refine Gr.trans ?_ (by with_reducible assumption)))
        have hGw : w.heap.size ≤ G := by have := g1.size; omega
        have HB := hide (show Blk w2 G (fun i => iv (mo1 (l.take 0) step (i : Int))) q from row_blk hrow)
        clear hrow
        go_wp2
        go_loopw [36] (fun i wr => ∃ k : Nat, k ≤ l.length ∧ i = iv k ∧ Gr w wr ∧ Hid (Blk wr G (fun i => iv (mo1 (l.take k) step (i : Int))) q)) (fun i _ => l.length - (intOf i).toNat)
        case atStart => exact ⟨0, by omega, rfl, gw2, HB⟩
        case round =>
          clear HB
          obtain ⟨k, hk, rfl, g, HB⟩ := hrel
          by_cases hkl : k < l.length
          · obtain ⟨x, hx⟩ : ∃ z, l[k]? = some z := ⟨_, List.getElem?_eq_getElem hkl⟩
            obtain ⟨b, o, rfl, x0, x1, x2⟩ := (HP.out.gr g).at_ hx
            have hb : b < wr.heap.size := cell_lt (by rw [x0]; rfl)
            have hG := HB.out.1
            have HX := hide hx
            have hk0 : (0 : Int) ≤ (k : Int) := by omega
            have hk1 : (k : Int) < (l.length : Int) := by omega
            obtain ⟨o1, o2⟩ := okC_sn (HOR.out k x hkl hx).1
            obtain ⟨j, hj⟩ : ∃ j : Nat, x.sn = j := ⟨x.sn.toNat, by omega⟩
            have hjq : j < q := by omega
            by_cases hst : x.st ≤ step
            · have hst' : decide (x.st ≤ step) = true := by simpa using hst
              have HB1 := hide (mo_set HB.out HX.out hst hj hjq)
              have y0 := (HB.out.2 j hjq).1
              have y1 := (HB.out.2 j hjq).2
              have j0 : (0 : Int) ≤ (j : Int) := by omega
              have j1 : (j : Int) < (q : Int) := by omega
              clear hx o1 o2 hst
              obtain ⟨st, sn, pr⟩ := x
              simp only at hj
              subst hj
              go_wp2
              go_roundw
              case rel => exact ⟨k + 1, by omega, by go_num, (by repeat (first | with_reducible exact Gr.refl _ | with_reducible assumption | with_reducible refine Gr.alloc ?_ _ | with_reducible refine Gr.drewN ?_ _ | with_reducible refine Gr.drew ?_ | with_reducible refine Gr.setCell ?_ (by first | (dsimp only; omega) | (simp only [World.size_alloc]; omega) | (with_reducible refine Gr.size ?_; (repeat (first | with_reducible exact Gr.refl _ | with_reducible assumption | with_reducible refine Gr.alloc ?_ _ | with_reducible refine Gr.drewN ?_ _ | with_reducible refine Gr.drew ?_ | with_reducible refine Gr.trans ?_ (by with_reducible assumption))); done)) _ | with_reducible refine Gr.trans ?_ (by with_reducible assumption))), hide (Blk.gr HB1.out (Gr.alloc (Gr.refl _) _))⟩
              case measure => simp only [intOf]; omega
            · have hst' : decide (x.st ≤ step) = false := by simpa using hst
              have HB1 := hide (mo_skip HB.out HX.out hst)
              clear hx o1 o2 hst hj
              go_wp2
              go_roundw
              case rel => exact ⟨k + 1, by omega, by go_num, (by repeat (first | with_reducible exact Gr.refl _ | with_reducible assumption | with_reducible refine Gr.alloc ?_ _ | with_reducible refine Gr.drewN ?_ _ | with_reducible refine Gr.drew ?_ | with_reducible refine Gr.setCell ?_ (by first | (dsimp only; omega) | (simp only [World.size_alloc]; omega) | (with_reducible refine Gr.size ?_; (repeat (first | with_reducible exact Gr.refl _ | with_reducible assumption | with_reducible refine Gr.alloc ?_ _ | with_reducible refine Gr.drewN ?_ _ | with_reducible refine Gr.drew ?_ | with_reducible refine Gr.trans ?_ (by with_reducible assumption))); done)) _ | with_reducible refine Gr.trans ?_ (by with_reducible assumption))), hide (Blk.gr HB1.out (by repeat (first | with_reducible exact Gr.refl _ | with_reducible assumption | with_reducible refine Gr.alloc ?_ _ | with_reducible refine Gr.drewN ?_ _ | with_reducible refine Gr.drew ?_ | with_reducible refine Gr.setCell ?_ (by first | (dsimp only; omega) | (simp only [World.size_alloc]; omega) | (with_reducible refine Gr.size ?_; (repeat (first | with_reducible exact Gr.refl _ | with_reducible assumption | with_reducible refine Gr.alloc ?_ _ | with_reducible refine Gr.drewN ?_ _ | with_reducible refine Gr.drew ?_ | with_reducible refine Gr.trans ?_ (by with_reducible assumption))); done)) _ | with_reducible refine Gr.trans ?_ (by with_reducible assumption))))⟩
              case measure => simp only [intOf]; omega
          · obtain rfl : k = l.length := by omega
            have HS := hide (Blk.sli (l := moL q l step) (n := q) (Blk.congr HB.out (fun i hi => by
              rw [List.take_length, List.getD_eq_getElem?_getD, moL_at hi]
              rfl)) (moL_len _ _ _) (by omega))
            have HM := hide (moL_len q l step)
            go_wp2
            go_ret2
            exact ⟨some ⟨G, 0, none⟩, q, by rw [HM.out]; rfl, HS.out, (by repeat (first | with_reducible exact Gr.refl _ | with_reducible assumption | with_reducible refine Gr.alloc ?_ _ | with_reducible refine Gr.drewN ?_ _ | with_reducible refine Gr.drew ?_ | with_reducible refine Gr.setCell ?_ (by first | (dsimp only; omega) | (simp only [World.size_alloc]; omega) | (with_reducible refine Gr.size ?_; (repeat (first | with_reducible exact Gr.refl _ | with_reducible assumption | with_reducible refine Gr.alloc ?_ _ | with_reducible refine Gr.drewN ?_ _ | with_reducible refine Gr.drew ?_ | with_reducible refine Gr.trans ?_ (by with_reducible assumption))); done)) _ | with_reducible refine Gr.trans ?_ (by with_reducible assumption)))⟩
  · have HE := hide (mtE_bad (l := l) (step := step) h0)
    have HR := hide (mtL_no (ns := ns) (s := s) (l := l) (step := step) (by rw [HE.out]; exact h0))
    have h1 : (chE ns s != 0) = true := by simpa using h0
    rw [HE.out, HR.out]
    generalize chE ns s = e0 at *
    clear h0 hl hp
    go_enter Try.func16, Try.ntmps16
    go_wp2_with (first | (go_at_call 42; refine (HV.out).mono ?_; rintro e w1 ⟨rfl, rfl⟩))
    go_ret2
    exact ⟨none, 0, rfl, sli_nil _, (by repeat (first | with_reducible exact Gr.refl _ | with_reducible assumption | with_reducible refine Gr.alloc ?_ _ | with_reducible refine Gr.drewN ?_ _ | with_reducible refine Gr.drew ?_ | with_reducible refine Gr.setCell ?_ (by first | (dsimp only; omega) | (simp only [World.size_alloc]; omega) | (with_reducible refine Gr.size ?_; (repeat (first | with_reducible exact Gr.refl _ | with_reducible assumption | with_reducible refine Gr.alloc ?_ _ | with_reducible refine Gr.drewN ?_ _ | with_reducible refine Gr.drew ?_ | with_reducible refine Gr.trans ?_ (by with_reducible assumption))); done)) _ | with_reducible refine Gr.trans ?_ (by with_reducible assumption)))⟩
end Go.Proofs.Ytfoihnhcodmhnaa
