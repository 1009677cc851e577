/-
  Parts, plain: the faces that move with a flange.
  Parts: the exported Moves of the code.
  Parts: the reference's Moves; the exported Moves of both sides.
  Parts: the exported Moves and Size of both sides; PartMoves: the walk.
  Parts: the reference's Size; lists of numbers compared; PartMoves: the walk.
-/
import Derived.Test.YtpmomgfepkegnaaFac1
set_option linter.unusedVariables false
set_option linter.unusedSimpArgs false
namespace Go.Proofs.Ytpmomgfepkegnaa
set_option linter.unusedVariables false
set_option linter.unusedSimpArgs false
open Go Go.ChangeShapes Go.WideShapes Go.ChangeAt Go.RowKit Go.Deep

/-- whether each of the first k + 1 faces moves with the flange fl -/
def mvs (l : List Fl) (fl : Nat) : Nat → List Bool
  | 0 => [false]
  | k + 1 => match l[k]? with
    | some f => mvs l fl k ++ [decide (k = fl) || (mvs l fl k)[f.pa.toNat]?.getD false]
    | none => mvs l fl k
theorem mvs_succ {l : List Fl} {fl k : Nat} {f : Fl} (h : l[k]? = some f) : mvs l fl (k + 1) = mvs l fl k ++ [decide (k = fl) || (mvs l fl k)[f.pa.toNat]?.getD false] := by
  rw [mvs, h]
theorem mvs_len {l : List Fl} {fl : Nat} : ∀ {k : Nat}, k ≤ l.length → (mvs l fl k).length = k + 1
  | 0, _ => rfl
  | k + 1, h => by
    rw [mvs_succ (List.getElem?_eq_getElem (by omega)), List.length_append, mvs_len (by omega)]
    rfl
theorem mvs_at {l : List Fl} {fl j : Nat} : ∀ {k : Nat}, j ≤ k → k ≤ l.length → (mvs l fl k)[j]? = (mvs l fl j)[j]?
  | 0, hj, _ => by
    obtain rfl : j = 0 := by omega
    rfl
  | k + 1, hj, hk => by
    rcases Nat.lt_or_ge j (k + 1) with h | h
    · rw [mvs_succ (List.getElem?_eq_getElem (by omega)), List.getElem?_append_left (by rw [mvs_len (by omega)]; omega)]
      exact mvs_at (by omega) (by omega)
    · obtain rfl : j = k + 1 := by omega
      rfl
/-- whether a face moves with the flange fl -/
def mvB (l : List Fl) (fl j : Nat) : Bool := (mvs l fl l.length)[j]?.getD false
theorem mvB_zero (l : List Fl) (fl : Nat) : mvB l fl 0 = false := by
  unfold mvB
  rw [mvs_at (Nat.zero_le _) (Nat.le_refl _)]
  rfl
theorem mvB_succ {l : List Fl} {fl k : Nat} {f : Fl} (h : l[k]? = some f) {q : Nat} (hq : f.pa = q) (hk : q ≤ k) : mvB l fl (k + 1) = (decide (k = fl) || mvB l fl q) := by
  have hkl := (List.getElem?_eq_some_iff.1 h).1
  unfold mvB
  rw [mvs_at (show k + 1 ≤ l.length by omega) (Nat.le_refl _), mvs_succ h, List.getElem?_append_right (by rw [mvs_len (by omega)]; omega), mvs_len (by omega)]
  simp only [Nat.sub_self, List.getElem?_cons_zero, Option.getD_some]
  rw [hq, show ((q : Nat) : Int).toNat = q from rfl, mvs_at hk (by omega), mvs_at (show q ≤ l.length by omega) (Nat.le_refl _)]
theorem mvB_low {l : List Fl} {fl : Nat} (ok : Fit l) : ∀ {j : Nat}, j ≤ fl → j ≤ l.length → mvB l fl j = false := by
  intro j
  induction j using Nat.strongRecOn with
  | ind j ih =>
    intro h1 h2
    cases j with
    | zero => exact mvB_zero l fl
    | succ k =>
      obtain ⟨f, hf⟩ : ∃ f, l[k]? = some f := ⟨_, List.getElem?_eq_getElem (by omega)⟩
      obtain ⟨t0, t1, -, -⟩ := ok k f hf
      rw [mvB_succ (q := f.pa.toNat) hf (by omega) (by omega), ih f.pa.toNat (by omega) (by omega) (by omega)]
      simp
      omega
theorem mvB_own {l : List Fl} {fl : Nat} (ok : Fit l) (h : fl < l.length) : mvB l fl (fl + 1) = true := by
  obtain ⟨f, hf⟩ : ∃ f, l[fl]? = some f := ⟨_, List.getElem?_eq_getElem h⟩
  obtain ⟨t0, t1, -, -⟩ := ok fl f hf
  rw [mvB_succ (q := f.pa.toNat) hf (by omega) (by omega)]
  simp
theorem mvB_up {l : List Fl} {fl k : Nat} (ok : Fit l) {f : Fl} (hf : l[k]? = some f) {q : Nat} (hq : f.pa = q) (h : ¬ k = fl) : mvB l fl (k + 1) = mvB l fl q := by
  obtain ⟨t0, t1, -, -⟩ := ok k f hf
  rw [mvB_succ hf hq (by omega), decide_eq_false h, Bool.false_or]
/-- those of the first k flanges' faces that move -/
def moL (l : List Fl) (fl : Nat) : Nat → List Int
  | 0 => []
  | k + 1 => if mvB l fl (k + 1) = true then moL l fl k ++ [(k : Int) + 1] else moL l fl k
theorem moL_len (l : List Fl) (fl : Nat) : ∀ k, (moL l fl k).length ≤ k
  | 0 => by simp [moL]
  | k + 1 => by
    have := moL_len l fl k
    unfold moL
    split
    · simp
      omega
    · omega
theorem moL_low {l : List Fl} {fl : Nat} (ok : Fit l) : ∀ {k : Nat}, k ≤ fl → k ≤ l.length → moL l fl k = []
  | 0, _, _ => rfl
  | k + 1, h1, h2 => by
    unfold moL
    rw [mvB_low ok h1 h2, moL_low ok (by omega) (by omega)]
    rfl
/-- a row of bools in a block of the call's own -/
def BF (w : World) (B : Nat) (g : Nat → Bool) (n : Nat) : Prop := B < w.heap.size ∧ ∀ j, j ≤ n → w.cell? ⟨B, j, none⟩ = some (.bool (g j)) ∧ w.frozen? ⟨B, j, none⟩ = false
theorem BF.gr {w w' : World} {B n : Nat} {f : Nat → Bool} (h : BF w B f n) (g : Gr w w') : BF w' B f n :=
  ⟨Nat.lt_of_lt_of_le h.1 g.size, fun j hj => ⟨(g.cell B j h.1).trans (h.2 j hj).1, (g.frozen B j h.1).trans (h.2 j hj).2⟩⟩
theorem BF.grown {w w' : World} {B lo n : Nat} {f : Nat → Bool} {row : Option Nat} (h : BF w B f n) (hg : w.grownBy w' row) (hr : ∀ k, row = some k → lo ≤ k) (hB : B < lo) : BF w' B f n := by
  have hne : some B ≠ row := fun e => by have := hr B e.symm; omega
  refine ⟨?_, fun j hj => ⟨(hg.cell_far ⟨B, j, none⟩ h.1 hne).trans (h.2 j hj).1, (hg.frozen_far ⟨B, j, none⟩ h.1 hne).trans (h.2 j hj).2⟩⟩
  have hb := hg.block B h.1 hne
  have h1 := h.1
  refine Nat.not_le.1 fun hle => ?_
  rw [Array.getElem?_eq_none hle, Array.getElem?_eq_getElem h1] at hb
  cases hb
theorem BF.set {w : World} {B n k : Nat} {f g : Nat → Bool} (h : BF w B f n) (b : Bool) (hk : k ≤ n) (e : ∀ j, j ≤ n → g j = if j = k then b else f j) : BF (w.setCell ⟨B, k, none⟩ (.bool b)) B g n := by
  refine ⟨by simpa using h.1, fun j hj => ?_⟩
  obtain ⟨c1, f1⟩ := h.2 j hj
  obtain ⟨c2, f2⟩ := h.2 k hk
  rw [e j hj]
  by_cases hjk : j = k
  · subst hjk
    rw [if_pos rfl]
    exact ⟨by simp [go_sem, c2], by simp [go_sem, f1]⟩
  · rw [if_neg hjk]
    exact ⟨by simp [go_sem, c1, c2, hjk], by simp [go_sem, f1]⟩
end Go.Proofs.Ytpmomgfepkegnaa
namespace Go.Proofs.Ytpmomgfepkegnaa
open Go Go.ChangeShapes Go.WideShapes Go.ChangeAt Go.RowKit Go.Deep

theorem hasFlange_any (p : Pa) (A B : Option Addr) (c d : Nat) (n : Int) (w : World) :
    Calls Try.prog 74 #[pav p A c B d, iv n] w fun e w' => e = .returned (.bool (wiB n 0 (p.fl.length - 1))) ∧ Gr w w' := by
  go_enter Try.func74, Try.ntmps74
  go_wp2
  all_goals
    go_ret
    exact ⟨ret_bool (by unfold wiB; simp [*] <;> omega), (by repeat (first | with_reducible exact Gr.refl _ | with_reducible assumption | with_reducible refine Gr.alloc ?_ _ | with_reducible refine Gr.drewN ?_ _ | with_reducible refine Gr.drew ?_ | with_reducible refine Gr.setCell ?_ (by first | (dsimp only; omega) | (simp only [World.size_alloc]; omega) | (with_reducible refine Gr.size ?_; (repeat (first | with_reducible exact Gr.refl _ | with_reducible assumption | with_reducible refine Gr.alloc ?_ _ | with_reducible refine Gr.drewN ?_ _ | with_reducible refine Gr.drew ?_ | with_reducible refine Gr.trans ?_ (by with_reducible assumption))); done)) _ | with_reducible refine Gr.trans ?_ (by with_reducible assumption)))⟩
/-- the error of a part and a flange -/
noncomputable def movE (p : Pa) (n : Int) : Int := if valE p ≠ 0 then valE p else if wiB n 0 (p.fl.length - 1) then 0 else 5
noncomputable def movL (p : Pa) (n : Int) : List Int := if movE p n = 0 then moL p.fl n.toNat p.fl.length else []
theorem movE_bad {p : Pa} {m : Int} (h : ¬ valE p = 0) : movE p m = valE p := by
  unfold movE
  rw [if_pos h]
theorem movE_none {p : Pa} {m : Int} (h : valE p = 0) (k : wiB m 0 (p.fl.length - 1) = false) : movE p m = 5 := by
  unfold movE
  rw [if_neg (by simpa using h), k]
  rfl
theorem movE_ok {p : Pa} {m : Int} (h : valE p = 0) (k : wiB m 0 (p.fl.length - 1) = true) : movE p m = 0 := by
  unfold movE
  rw [if_neg (by simpa using h), k]
  rfl
theorem movL_none {p : Pa} {m : Int} (h : ¬ movE p m = 0) : movL p m = [] := by
  unfold movL
  rw [if_neg h]
theorem movL_some {p : Pa} {m : Int} (h : movE p m = 0) : movL p m = moL p.fl m.toNat p.fl.length := by
  unfold movL
  rw [if_pos h]
abbrev inL (z : Int) : List Value := [iv z]
theorem infoIn : (Try.prog.info? 3).map (fun i => (i.zero, i.size, i.bytes)) = some (some (.int .i64 0), 1, 8) := by kernel_rfl
theorem infoBo : (Try.prog.info? 4).map (fun i => (i.zero, i.size, i.bytes)) = some (some (.bool false), 1, 1) := by kernel_rfl
theorem make_bools (n : Nat) (hn : n ≤ 1000) (w : World) : (Instr.makeSlice 107 (.int .i64 ((n : Int) + 1)) (.int .i64 ((n : Int) + 1))).run Try.prog w = .ok (.slice (some ⟨w.heap.size, 0, none⟩) (n + 1) (n + 1)) (w.alloc (.cells (madeCells #[.bool false] (n + 1)) 4)) := by
  obtain ⟨i0, hi0, hz0, hz1, hz2⟩ := info_parts infoBo
  have := run_makeSlice (P := Try.prog) w 107 4 i0 (.bool false) Try.underlying107 hi0 hz0 .i64 .i64 ((n : Int) + 1) ((n : Int) + 1) (by omega) (by omega) (by rw [hz1]; omega) (by rw [hz2]; omega) (by omega)
  rw [hz1, show ((n : Int) + 1).toNat = n + 1 by omega, Nat.mul_one] at this
  exact this
theorem made_bools (n : Nat) (w : World) : BF (w.alloc (.cells (madeCells #[.bool false] (n + 1)) 4)) w.heap.size (fun _ => false) n := by
  obtain ⟨h0, h1, h2⟩ := Made.new w (madeCells #[.bool false] (n + 1)) 4
  refine ⟨h0, fun j hj => ⟨?_, h2 j⟩⟩
  rw [h1 j]
  have hj' : j < n + 1 := by omega
  simp [madeCells, hj', Nat.mod_one]
theorem one_in (w : World) (z : Int) : ∀ j u, [iv z][j]? = some u → (w.alloc (.cells #[iv z] 3)).cell? ((⟨w.heap.size, 0, none⟩ : Addr).add j) = some u := by
  intro j u hu
  rw [addr_add, Nat.zero_add, (Made.new w #[iv z] 3).2.1 j]
  simpa using hu
theorem bf_step {l : List Fl} {fl k : Nat} {b : Bool} (h : mvB l fl (k + 1) = b) (j : Nat) : (decide (j ≤ k + 1) && mvB l fl j) = if j = k + 1 then b else (decide (j ≤ k) && mvB l fl j) := by
  by_cases hj : j = k + 1
  · subst hj
    rw [if_pos rfl, h]
    simp
  · rw [if_neg hj, show decide (j ≤ k + 1) = decide (j ≤ k) by
      rw [Bool.eq_iff_iff, decide_eq_true_eq, decide_eq_true_eq]
      omega]
set_option maxRecDepth 100000 in
set_option maxHeartbeats 4000000 in
theorem Moves_ok (p : Pa) (A B : Option Addr) (c d fl : Nat) (w : World) (hP : PaW w p A c B d) (h0 : valE p = 0) (hfl : fl < p.fl.length) :
    Calls Try.prog 24 #[pav p A c B d, iv fl] w fun e w' => ∃ v, e = .returned (sle v 0) ∧ OwnL w' w.heap.size 3 1 inL v (moL p.fl fl p.fl.length) ∧ Gr w w' := by
  obtain ⟨i0, hi0, hz0, hz1, hz2⟩ := info_parts infoIn
  have HV := hide (fun (w' : World) (g : Gr w w') => Validate_any p A B c d w' (hP.gr g))
  have G := good_of h0
  have nfl := G.nfl
  have HOK := hide G.fl.fit
  have HH := hide (fun w' => hasFlange_any p A B c d fl w')
  rw [show wiB (fl : Int) 0 (p.fl.length - 1) = true by rw [wiB_iff]; omega] at HH
  rw [h0] at HV
  have HP := hide hP
  clear hP G h0
  go_enter Try.func24, Try.ntmps24
  go_wp2_with fail
  refine (HV.out _ (by repeat (first | with_reducible exact Gr.refl _ | with_reducible assumption | with_reducible refine Gr.alloc ?_ _ | with_reducible refine Gr.drewN ?_ _ | with_reducible refine Gr.drew ?_ | with_reducible refine Gr.setCell ?_ (by first | (dsimp only; omega) | (simp only [World.size_alloc]; omega) | (with_reducible refine Gr.size ?_; (repeat (first | with_reducible exact Gr.refl _ | with_reducible assumption | with_reducible refine Gr.alloc ?_ _ | with_reducible refine Gr.drewN ?_ _ | with_reducible refine Gr.drew ?_ | with_reducible refine Gr.trans ?_ (by with_reducible assumption))); done)) _ | with_reducible refine Gr.trans ?_ (by with_reducible assumption)))).mono ?_
  rintro e w1 ⟨rfl, g1⟩
  obtain ⟨X1, Y1, c1, f1⟩ := g1.use
  have z1 := g1.size
  simp only [World.size_alloc] at z1
  have l1 : w.heap.size < w1.heap.size := by omega
  have gw1 : Gr w w1 := (by repeat (first | with_reducible exact Gr.refl _ | with_reducible assumption | with_reducible refine Gr.alloc ?_ _ | with_reducible refine Gr.drewN ?_ _ | with_reducible refine Gr.drew ?_ | with_reducible refine Gr.setCell ?_ (by first | (dsimp only; omega) | (simp only [World.size_alloc]; omega) | (with_reducible refine Gr.size ?_; (repeat (first | with_reducible exact Gr.refl _ | with_reducible assumption | with_reducible refine Gr.alloc ?_ _ | with_reducible refine Gr.drewN ?_ _ | with_reducible refine Gr.drew ?_ | with_reducible refine Gr.trans ?_ (by with_reducible assumption))); done)) _ | with_reducible refine Gr.trans ?_ (by with_reducible assumption)))
  go_wp2_with fail
  refine (HH.out _).mono ?_
  rintro e w2 ⟨rfl, g2⟩
  obtain ⟨X2, Y2, c2, f2⟩ := g2.use
  have z2 := g2.size
  have l2 : w.heap.size < w2.heap.size := by omega
  have gw2 : Gr w w2 := gw1.trans g2
  have HMK := make_bools p.fl.length (by omega)
  go_upto_region 8 with fail
  have hm := made_bools p.fl.length w2
  have gM := Gr.alloc (Gr.refl w2) (.cells (madeCells #[.bool false] (p.fl.length + 1)) 4)
  obtain ⟨bm, hbm⟩ : ∃ bm, bm = w2.heap.size := ⟨_, rfl⟩
  rw [← hbm] at hm ⊢
  have hp6 : (w2.alloc (.cells (madeCells #[.bool false] (p.fl.length + 1)) 4)).cell? ⟨w.heap.size, 6, none⟩ = some (.slice A p.fl.length c) := by simp [go_sem, *]
  have LBM := hide hbm
  have kbm : w.heap.size < bm := by omega
  have sbm : bm < (w2.alloc (.cells (madeCells #[.bool false] (p.fl.length + 1)) 4)).heap.size := hm.1
  have hw2 : w2.heap.size ≤ bm := by omega
  clear hbm c1 f1 c2 f2
  generalize w2.alloc (.cells (madeCells #[.bool false] (p.fl.length + 1)) 4) = wM at *
  clear HMK
  go_wp2
  clear hp6
  go_loopw [7, 28] (fun v i wr => ∃ (k : Nat) (A' : Option Addr) (d' : Nat), k ≤ p.fl.length ∧ i = iv k ∧ v = .slice A' (moL p.fl fl k).length d' ∧ Gr w2 wr ∧ Hid (OwnL wr (bm + 1) 3 1 inL (.slice A' (moL p.fl fl k).length d') (moL p.fl fl k)) ∧ Hid (BF wr bm (fun j => decide (j ≤ k) && mvB p.fl fl j) p.fl.length)) (fun _ i _ => p.fl.length - (intOf i).toNat)
  case atStart => exact ⟨0, none, 0, by omega, rfl, rfl, gM, own_nil _ _ _ _ _, by
    refine ⟨hm.1, fun j hj => ⟨?_, (hm.2 j hj).2⟩⟩
    rw [(hm.2 j hj).1]
    cases j with
    | zero => dsimp only; rw [mvB_zero]; rfl
    | succ j => simp⟩
  case round =>
    obtain ⟨k, A1, d1, hk, rfl, rfl, g, HO, HBF⟩ := hrel
    have gW : Gr w wr := gw2.trans g
    have sbr : bm < wr.heap.size := HBF.out.1
    have hml := moL_len p.fl fl k
    by_cases hkl : k < p.fl.length
    · obtain ⟨f, hf⟩ : ∃ f, p.fl[k]? = some f := ⟨_, List.getElem?_eq_getElem hkl⟩
      obtain ⟨b, off, rfl, x0, x1, x2, x3, x4, x5, x6⟩ := (HP.out.fl.gr gW).rd.fl hf
      have hb : b < wr.heap.size := cell_lt (by rw [x0]; rfl)
      obtain ⟨t0, t1, -, -⟩ := HOK.out k f hf
      obtain ⟨q, hq⟩ : ∃ q : Nat, f.pa = q := ⟨f.pa.toNat, by omega⟩
      have hqk : q ≤ k := by omega
      have HMV := hide (mvB_succ (fl := fl) hf hq hqk)
      obtain ⟨nm, pa, sd, fo, wd, ln, an⟩ := f
      simp only at hq x0 x1 x2 x3 x4 x5 x6
      subst hq
      have yq := (HBF.out.2 q (by omega)).1
      dsimp only at yq
      rw [show decide (q ≤ k) = true by simpa using hqk, Bool.true_and] at yq
      have yk := (HBF.out.2 (k + 1) (by omega)).1
      have fk := (HBF.out.2 (k + 1) (by omega)).2
      have hq0 : (0 : Int) ≤ (q : Int) := by omega
      have hq1 : (q : Int) < (p.fl.length : Int) + 1 := by omega
      have hk0 : (0 : Int) ≤ (k : Int) := by omega
      have hk1 : (k : Int) < (p.fl.length : Int) := by omega
      have hk2 : (k : Int) + 1 < (p.fl.length : Int) + 1 := by omega
      have nbm : bm ≠ wr.heap.size := by omega
      have nbm2 : wr.heap.size ≠ bm := by omega
      clear t0 t1 hf
      cases hkf : ((k : Int) == (fl : Int)) with
      | true =>
        have HMT := hide (show mvB p.fl fl (k + 1) = true by rw [HMV.out, show decide (k = fl) = true by simp at hkf ⊢; omega]; rfl)
        go_upto_region 12 with fail
        have HB1 := hide (BF.gr (BF.set (g := fun j => decide (j ≤ k + 1) && mvB p.fl fl j) HBF.out true (show k + 1 ≤ p.fl.length by omega) (fun j _ => bf_step HMT.out j)) (Gr.alloc (Gr.refl _) (.cells #[.string nm, iv (q : Int), iv sd, iv fo, iv wd, iv ln, iv an] 55)))
        have HO1 := hide (OwnL.gr (show OwnL (wr.setCell ⟨bm, k + 1, none⟩ (.bool true)) (bm + 1) 3 1 inL (.slice A1 (moL p.fl fl k).length d1) (moL p.fl fl k) from own_far HO.out (by dsimp only; omega) _) (Gr.alloc (Gr.refl _) (.cells #[.string nm, iv (q : Int), iv sd, iv fo, iv wd, iv ln, iv an] 55)))
        have g1 : Gr w2 ((wr.setCell ⟨bm, k + 1, none⟩ (.bool true)).alloc (.cells #[.string nm, iv (q : Int), iv sd, iv fo, iv wd, iv ln, iv an] 55)) := Gr.alloc (Gr.setCell g (by dsimp only; omega) _) _
        clear HBF HO x0 x1 x2 x3 x4 x5 x6 yq yk fk nbm nbm2
        generalize (wr.setCell ⟨bm, k + 1, none⟩ (.bool true)).alloc (.cells #[.string nm, iv (q : Int), iv sd, iv fo, iv wd, iv ln, iv an] 55) = v1 at *
        have y1 := (HB1.out.2 (k + 1) (by omega)).1
        dsimp only at y1
        rw [show decide (k + 1 ≤ k + 1) = true by simp, Bool.true_and, HMT.out] at y1
        have s1 : bm < v1.heap.size := HB1.out.1
        have HN := hide (show moL p.fl fl (k + 1) = moL p.fl fl k ++ [(k : Int) + 1] by rw [moL, if_pos HMT.out])
        have HOW := hide (show World.ownsRow v1 (bm + 1) 3 1 (.slice A1 (moL p.fl fl k).length d1) (moL p.fl fl k).length ((moL p.fl fl k).flatMap inL) from HO1.out)
        have FIN := hide (show ∀ (w8 : World) (gg cap1 : Nat), w8.ownsRow (bm + 1) 3 1 (.slice (some ⟨gg, 0, none⟩) ((moL p.fl fl k).length + 1) cap1) ((moL p.fl fl k).length + 1) ((moL p.fl fl k).flatMap inL ++ inL ((k : Int) + 1)) → ((moL p.fl fl k).length + 1 = (moL p.fl fl (k + 1)).length ∧ OwnL w8 (bm + 1) 3 1 inL (.slice (some ⟨gg, 0, none⟩) (moL p.fl fl (k + 1)).length cap1) (moL p.fl fl (k + 1))) by
          intro w8 gg cap1 h
          refine ⟨by rw [HN.out, List.length_append]; rfl, ?_⟩
          unfold OwnL
          rw [HN.out, fm_snoc, List.length_append]
          exact h)
        generalize hML : moL p.fl fl k = ML at *
        generalize hFL : ML.flatMap inL = FL at *
        generalize hNL : ML.length = NL at *
        have HNL := hide hNL
        clear hML hFL hNL HO1
        go_upto_region 13 with fail
        go_wp2_with (first | (refine wpList_append_lies _ (by rfl) _ _ _ (by rfl) (bm + 1) 3 i0 _ 1 8 Try.underlying37 hi0 hz0 hz1 hz2 rfl (by omega) _ NL FL (by rfl) (own_gr HOW.out (by repeat (first | with_reducible exact Gr.refl _ | with_reducible assumption | with_reducible refine Gr.alloc ?_ _ | with_reducible refine Gr.drewN ?_ _ | with_reducible refine Gr.drew ?_ | with_reducible refine Gr.setCell ?_ (by first | (dsimp only; omega) | (simp only [World.size_alloc]; omega) | (with_reducible refine Gr.size ?_; (repeat (first | with_reducible exact Gr.refl _ | with_reducible assumption | with_reducible refine Gr.alloc ?_ _ | with_reducible refine Gr.drewN ?_ _ | with_reducible refine Gr.drew ?_ | with_reducible refine Gr.trans ?_ (by with_reducible assumption))); done)) _ | with_reducible refine Gr.trans ?_ (by with_reducible assumption)))) _ 1 1 [iv ((k : Int) + 1)] (by rfl) (by rfl) (one_in _ _) (by intro u hu; simp at hu; subst hu; rfl) (by omega) (by unfold maxLen; omega) (by omega) (by simp only [World.size_alloc]; omega) _ rfl ?_; intro gg cap1 w8 hown8 hgrow hat hlt))
        obtain ⟨e8, o8⟩ := FIN.out w8 gg cap1 hown8
        have r8 := fun k hk => (World.ownsRow.lt HOW.out k hk).1
        have g8 := Gr.grown (show Gr w2 _ from g1.trans (by repeat (first | with_reducible exact Gr.refl _ | with_reducible assumption | with_reducible refine Gr.alloc ?_ _ | with_reducible refine Gr.drewN ?_ _ | with_reducible refine Gr.drew ?_ | with_reducible refine Gr.setCell ?_ (by first | (dsimp only; omega) | (simp only [World.size_alloc]; omega) | (with_reducible refine Gr.size ?_; (repeat (first | with_reducible exact Gr.refl _ | with_reducible assumption | with_reducible refine Gr.alloc ?_ _ | with_reducible refine Gr.drewN ?_ _ | with_reducible refine Gr.drew ?_ | with_reducible refine Gr.trans ?_ (by with_reducible assumption))); done)) _ | with_reducible refine Gr.trans ?_ (by with_reducible assumption)))) hgrow (fun k hk => by have := r8 k hk; omega)
        have b8 := BF.grown (lo := bm + 1) (BF.gr HB1.out (show Gr v1 _ from (by repeat (first | with_reducible exact Gr.refl _ | with_reducible assumption | with_reducible refine Gr.alloc ?_ _ | with_reducible refine Gr.drewN ?_ _ | with_reducible refine Gr.drew ?_ | with_reducible refine Gr.setCell ?_ (by first | (dsimp only; omega) | (simp only [World.size_alloc]; omega) | (with_reducible refine Gr.size ?_; (repeat (first | with_reducible exact Gr.refl _ | with_reducible assumption | with_reducible refine Gr.alloc ?_ _ | with_reducible refine Gr.drewN ?_ _ | with_reducible refine Gr.drew ?_ | with_reducible refine Gr.trans ?_ (by with_reducible assumption))); done)) _ | with_reducible refine Gr.trans ?_ (by with_reducible assumption))))) hgrow r8 (by omega)
        go_roundw
        case rel => exact ⟨k + 1, some ⟨gg, 0, none⟩, cap1, by omega, by go_num, by rw [e8], g8, o8, b8⟩
        case measure => simp only [intOf]; omega
      | false =>
        have HM2 := hide (show mvB p.fl fl (k + 1) = mvB p.fl fl q by rw [HMV.out, show decide (k = fl) = false by simp at hkf ⊢; omega]; rfl)
        cases hmq : mvB p.fl fl q with
        | true =>
          have HMT := hide (show mvB p.fl fl (k + 1) = true by rw [HM2.out, hmq])
          rw [hmq] at yq
          clear hmq
          go_upto_region 12 with fail
          have HB1 := hide (BF.gr (BF.set (g := fun j => decide (j ≤ k + 1) && mvB p.fl fl j) HBF.out true (show k + 1 ≤ p.fl.length by omega) (fun j _ => bf_step HMT.out j)) (Gr.alloc (Gr.refl _) (.cells #[.string nm, iv (q : Int), iv sd, iv fo, iv wd, iv ln, iv an] 55)))
          have HO1 := hide (OwnL.gr (show OwnL (wr.setCell ⟨bm, k + 1, none⟩ (.bool true)) (bm + 1) 3 1 inL (.slice A1 (moL p.fl fl k).length d1) (moL p.fl fl k) from own_far HO.out (by dsimp only; omega) _) (Gr.alloc (Gr.refl _) (.cells #[.string nm, iv (q : Int), iv sd, iv fo, iv wd, iv ln, iv an] 55)))
          have g1 : Gr w2 ((wr.setCell ⟨bm, k + 1, none⟩ (.bool true)).alloc (.cells #[.string nm, iv (q : Int), iv sd, iv fo, iv wd, iv ln, iv an] 55)) := Gr.alloc (Gr.setCell g (by dsimp only; omega) _) _
          clear HBF HO x0 x1 x2 x3 x4 x5 x6 yq yk fk nbm nbm2
          generalize (wr.setCell ⟨bm, k + 1, none⟩ (.bool true)).alloc (.cells #[.string nm, iv (q : Int), iv sd, iv fo, iv wd, iv ln, iv an] 55) = v1 at *
          have y1 := (HB1.out.2 (k + 1) (by omega)).1
          dsimp only at y1
          rw [show decide (k + 1 ≤ k + 1) = true by simp, Bool.true_and, HMT.out] at y1
          have s1 : bm < v1.heap.size := HB1.out.1
          have HN := hide (show moL p.fl fl (k + 1) = moL p.fl fl k ++ [(k : Int) + 1] by rw [moL, if_pos HMT.out])
          have HOW := hide (show World.ownsRow v1 (bm + 1) 3 1 (.slice A1 (moL p.fl fl k).length d1) (moL p.fl fl k).length ((moL p.fl fl k).flatMap inL) from HO1.out)
          have FIN := hide (show ∀ (w8 : World) (gg cap1 : Nat), w8.ownsRow (bm + 1) 3 1 (.slice (some ⟨gg, 0, none⟩) ((moL p.fl fl k).length + 1) cap1) ((moL p.fl fl k).length + 1) ((moL p.fl fl k).flatMap inL ++ inL ((k : Int) + 1)) → ((moL p.fl fl k).length + 1 = (moL p.fl fl (k + 1)).length ∧ OwnL w8 (bm + 1) 3 1 inL (.slice (some ⟨gg, 0, none⟩) (moL p.fl fl (k + 1)).length cap1) (moL p.fl fl (k + 1))) by
            intro w8 gg cap1 h
            refine ⟨by rw [HN.out, List.length_append]; rfl, ?_⟩
            unfold OwnL
            rw [HN.out, fm_snoc, List.length_append]
            exact h)
          generalize hML : moL p.fl fl k = ML at *
          generalize hFL : ML.flatMap inL = FL at *
          generalize hNL : ML.length = NL at *
          have HNL := hide hNL
          clear hML hFL hNL HO1
          go_upto_region 13 with fail
          go_wp2_with (first | (refine wpList_append_lies _ (by rfl) _ _ _ (by rfl) (bm + 1) 3 i0 _ 1 8 Try.underlying37 hi0 hz0 hz1 hz2 rfl (by omega) _ NL FL (by rfl) (own_gr HOW.out (by repeat (first | with_reducible exact Gr.refl _ | with_reducible assumption | with_reducible refine Gr.alloc ?_ _ | with_reducible refine Gr.drewN ?_ _ | with_reducible refine Gr.drew ?_ | with_reducible refine Gr.setCell ?_ (by first | (dsimp only; omega) | (simp only [World.size_alloc]; omega) | (with_reducible refine Gr.size ?_; (repeat (first | with_reducible exact Gr.refl _ | with_reducible assumption | with_reducible refine Gr.alloc ?_ _ | with_reducible refine Gr.drewN ?_ _ | with_reducible refine Gr.drew ?_ | with_reducible refine Gr.trans ?_ (by with_reducible assumption))); done)) _ | with_reducible refine Gr.trans ?_ (by with_reducible assumption)))) _ 1 1 [iv ((k : Int) + 1)] (by rfl) (by rfl) (one_in _ _) (by intro u hu; simp at hu; subst hu; rfl) (by omega) (by unfold maxLen; omega) (by omega) (by simp only [World.size_alloc]; omega) _ rfl ?_; intro gg cap1 w8 hown8 hgrow hat hlt))
          obtain ⟨e8, o8⟩ := FIN.out w8 gg cap1 hown8
          have r8 := fun k hk => (World.ownsRow.lt HOW.out k hk).1
          have g8 := Gr.grown (show Gr w2 _ from g1.trans (by repeat (first | with_reducible exact Gr.refl _ | with_reducible assumption | with_reducible refine Gr.alloc ?_ _ | with_reducible refine Gr.drewN ?_ _ | with_reducible refine Gr.drew ?_ | with_reducible refine Gr.setCell ?_ (by first | (dsimp only; omega) | (simp only [World.size_alloc]; omega) | (with_reducible refine Gr.size ?_; (repeat (first | with_reducible exact Gr.refl _ | with_reducible assumption | with_reducible refine Gr.alloc ?_ _ | with_reducible refine Gr.drewN ?_ _ | with_reducible refine Gr.drew ?_ | with_reducible refine Gr.trans ?_ (by with_reducible assumption))); done)) _ | with_reducible refine Gr.trans ?_ (by with_reducible assumption)))) hgrow (fun k hk => by have := r8 k hk; omega)
          have b8 := BF.grown (lo := bm + 1) (BF.gr HB1.out (show Gr v1 _ from (by repeat (first | with_reducible exact Gr.refl _ | with_reducible assumption | with_reducible refine Gr.alloc ?_ _ | with_reducible refine Gr.drewN ?_ _ | with_reducible refine Gr.drew ?_ | with_reducible refine Gr.setCell ?_ (by first | (dsimp only; omega) | (simp only [World.size_alloc]; omega) | (with_reducible refine Gr.size ?_; (repeat (first | with_reducible exact Gr.refl _ | with_reducible assumption | with_reducible refine Gr.alloc ?_ _ | with_reducible refine Gr.drewN ?_ _ | with_reducible refine Gr.drew ?_ | with_reducible refine Gr.trans ?_ (by with_reducible assumption))); done)) _ | with_reducible refine Gr.trans ?_ (by with_reducible assumption))))) hgrow r8 (by omega)
          go_roundw
          case rel => exact ⟨k + 1, some ⟨gg, 0, none⟩, cap1, by omega, by go_num, by rw [e8], g8, o8, b8⟩
          case measure => simp only [intOf]; omega
        | false =>
          have HMT := hide (show mvB p.fl fl (k + 1) = false by rw [HM2.out, hmq])
          rw [hmq] at yq
          clear hmq
          go_upto_region 12 with fail
          have HB1 := hide (BF.gr (BF.set (g := fun j => decide (j ≤ k + 1) && mvB p.fl fl j) HBF.out false (show k + 1 ≤ p.fl.length by omega) (fun j _ => bf_step HMT.out j)) (Gr.alloc (Gr.refl _) (.cells #[.string nm, iv (q : Int), iv sd, iv fo, iv wd, iv ln, iv an] 55)))
          have HO1 := hide (OwnL.gr (show OwnL (wr.setCell ⟨bm, k + 1, none⟩ (.bool false)) (bm + 1) 3 1 inL (.slice A1 (moL p.fl fl k).length d1) (moL p.fl fl k) from own_far HO.out (by dsimp only; omega) _) (Gr.alloc (Gr.refl _) (.cells #[.string nm, iv (q : Int), iv sd, iv fo, iv wd, iv ln, iv an] 55)))
          have g1 : Gr w2 ((wr.setCell ⟨bm, k + 1, none⟩ (.bool false)).alloc (.cells #[.string nm, iv (q : Int), iv sd, iv fo, iv wd, iv ln, iv an] 55)) := Gr.alloc (Gr.setCell g (by dsimp only; omega) _) _
          clear HBF HO x0 x1 x2 x3 x4 x5 x6 yq yk fk nbm nbm2
          generalize (wr.setCell ⟨bm, k + 1, none⟩ (.bool false)).alloc (.cells #[.string nm, iv (q : Int), iv sd, iv fo, iv wd, iv ln, iv an] 55) = v1 at *
          have y1 := (HB1.out.2 (k + 1) (by omega)).1
          dsimp only at y1
          rw [show decide (k + 1 ≤ k + 1) = true by simp, Bool.true_and, HMT.out] at y1
          have s1 : bm < v1.heap.size := HB1.out.1
          have HN := hide (show moL p.fl fl (k + 1) = moL p.fl fl k by rw [moL, if_neg (by rw [HMT.out]; decide)])
          go_wp2
          go_roundw
          case rel => exact ⟨k + 1, A1, d1, by omega, by go_num, by rw [HN.out], g1, by rw [HN.out]; exact HO1.out, HB1.out⟩
          case measure => simp only [intOf]; omega
    · obtain rfl : k = p.fl.length := by omega
      have HF := hide (HO.out.weak (show w.heap.size ≤ bm + 1 by omega))
      clear HO HBF
      go_wp2
      go_ret2
      exact ⟨_, rfl, HF.out, gW⟩
end Go.Proofs.Ytpmomgfepkegnaa
namespace Go.Proofs.Ytpmomgfepkegnaa
open Go Go.ChangeShapes Go.WideShapes Go.ChangeAt Go.RowKit Go.Deep

set_option maxRecDepth 100000 in
set_option maxHeartbeats 2000000 in
theorem below_any (p : Pa) (A B : Option Addr) (c d fl fc : Nat) (w : World) (hF : SlF w A c p.fl) (ok : Fit p.fl) (hfl : fl < p.fl.length) (hfc : fc ≤ p.fl.length) :
    Calls Try.prog 140 #[pav p A c B d, iv fc, iv ((fl : Int) + 1)] w fun e w' => e = .returned (.bool (mvB p.fl fl fc)) ∧ Gr w w' := by
  have hlen := hF.len
  have HF := hide hF
  have HOK := hide ok
  clear hF ok
  go_enter Try.func140, Try.ntmps140
  go_wp2
  go_loopw [1] (fun i wr => ∃ j : Nat, i = iv j ∧ j ≤ p.fl.length ∧ Gr (w.alloc (.cells #[.string p.nm, .string p.mt, iv p.ga, iv p.gr, iv p.wd, iv p.ht, .slice A p.fl.length c, .slice B p.ho.length d] 25)) wr ∧ Hid (mvB p.fl fl j = mvB p.fl fl fc)) (fun i _ => (intOf i).toNat)
  case atStart => exact ⟨fc, rfl, hfc, Gr.refl _, rfl⟩
  case round =>
    obtain ⟨j, rfl, hj, g, HM⟩ := hrel
    have gW : Gr w wr := (by repeat (first | with_reducible exact Gr.refl _ | with_reducible assumption | with_reducible refine Gr.alloc ?_ _ | with_reducible refine Gr.drewN ?_ _ | with_reducible refine Gr.drew ?_ | with_reducible refine Gr.setCell ?_ (by first | (dsimp only; omega) | (simp only [World.size_alloc]; omega) | (with_reducible refine Gr.size ?_; (repeat (first | with_reducible exact Gr.refl _ | with_reducible assumption | with_reducible refine Gr.alloc ?_ _ | with_reducible refine Gr.drewN ?_ _ | with_reducible refine Gr.drew ?_ | with_reducible refine Gr.trans ?_ (by with_reducible assumption))); done)) _ | with_reducible refine Gr.trans ?_ (by with_reducible assumption)))
    obtain ⟨Xr, Yr, cr, fr⟩ := g.use
    have zr := g.size
    simp only [World.size_alloc] at zr
    have l0 : w.heap.size < wr.heap.size := by omega
    by_cases hgt : fl + 1 < j
    · obtain ⟨k, rfl⟩ : ∃ k, j = k + 1 := ⟨j - 1, by omega⟩
      obtain ⟨f, hf⟩ : ∃ f, p.fl[k]? = some f := ⟨_, List.getElem?_eq_getElem (by omega)⟩
      obtain ⟨b, off, rfl, x0, x1, x2, x3, x4, x5, x6⟩ := HF.out.rd.fl hf
      have hb : b < w.heap.size := cell_lt (by rw [x0]; rfl)
      obtain ⟨t0, t1, -, -⟩ := HOK.out k f hf
      obtain ⟨q, hq⟩ : ∃ q : Nat, f.pa = q := ⟨f.pa.toNat, by omega⟩
      have HM' := hide (show mvB p.fl fl q = mvB p.fl fl fc by rw [← mvB_up HOK.out hf hq (by omega)]; exact HM.out)
      obtain ⟨nm, pa, sd, fo, wd, ln, an⟩ := f
      simp only at hq x0 x1 x2 x3 x4 x5 x6 t1
      subst hq
      clear hf t0
      go_wp2
      go_roundw
      case rel => exact ⟨q, rfl, by omega, (by repeat (first | with_reducible exact Gr.refl _ | with_reducible assumption | with_reducible refine Gr.alloc ?_ _ | with_reducible refine Gr.drewN ?_ _ | with_reducible refine Gr.drew ?_ | with_reducible refine Gr.setCell ?_ (by first | (dsimp only; omega) | (simp only [World.size_alloc]; omega) | (with_reducible refine Gr.size ?_; (repeat (first | with_reducible exact Gr.refl _ | with_reducible assumption | with_reducible refine Gr.alloc ?_ _ | with_reducible refine Gr.drewN ?_ _ | with_reducible refine Gr.drew ?_ | with_reducible refine Gr.trans ?_ (by with_reducible assumption))); done)) _ | with_reducible refine Gr.trans ?_ (by with_reducible assumption))), HM'⟩
      case measure => simp only [intOf]; omega
    · have HE := hide (show ((j : Int) == (fl : Int) + 1) = mvB p.fl fl fc by
        rw [← HM.out]
        by_cases h : j = fl + 1
        · subst h
          rw [mvB_own HOK.out hfl]
          simp
        · rw [mvB_low HOK.out (by omega) hj, beq_eq_false_iff_ne]
          omega)
      go_wp2
      go_ret
      exact ⟨ret_bool HE.out, (by repeat (first | with_reducible exact Gr.refl _ | with_reducible assumption | with_reducible refine Gr.alloc ?_ _ | with_reducible refine Gr.drewN ?_ _ | with_reducible refine Gr.drew ?_ | with_reducible refine Gr.setCell ?_ (by first | (dsimp only; omega) | (simp only [World.size_alloc]; omega) | (with_reducible refine Gr.size ?_; (repeat (first | with_reducible exact Gr.refl _ | with_reducible assumption | with_reducible refine Gr.alloc ?_ _ | with_reducible refine Gr.drewN ?_ _ | with_reducible refine Gr.drew ?_ | with_reducible refine Gr.trans ?_ (by with_reducible assumption))); done)) _ | with_reducible refine Gr.trans ?_ (by with_reducible assumption)))⟩
set_option maxRecDepth 100000 in
set_option maxHeartbeats 4000000 in
theorem Moving_any (p : Pa) (A B : Option Addr) (c d fl : Nat) (w : World) (hF : SlF w A c p.fl) (ok : Fit p.fl) (hfl : fl < p.fl.length) (h5 : p.fl.length ≤ 5) :
    Calls Try.prog 75 #[pav p A c B d, iv fl] w fun e w' => ∃ v, e = .returned v ∧ OwnL w' w.heap.size 3 1 inL v (moL p.fl fl p.fl.length) ∧ Gr w w' := by
  obtain ⟨i0, hi0, hz0, hz1, hz2⟩ := info_parts infoIn
  have HF := hide hF
  have HOK := hide ok
  clear hF ok
  go_enter Try.func75, Try.ntmps75
  go_wp2
  go_loopw [5, 6] (fun v i wr => ∃ (k : Nat) (A' : Option Addr) (d' : Nat), fl ≤ k ∧ k ≤ p.fl.length ∧ i = iv ((k : Int) + 1) ∧ v = .slice A' (moL p.fl fl k).length d' ∧ Gr (w.alloc (.cells #[.string p.nm, .string p.mt, iv p.ga, iv p.gr, iv p.wd, iv p.ht, .slice A p.fl.length c, .slice B p.ho.length d] 25)) wr ∧ Hid (OwnL wr (w.heap.size + 1) 3 1 inL (.slice A' (moL p.fl fl k).length d') (moL p.fl fl k))) (fun _ i _ => p.fl.length + 1 - (intOf i).toNat)
  case atStart => exact ⟨fl, none, 0, by omega, by omega, rfl, by rw [moL_low HOK.out (Nat.le_refl _) (by omega)]; rfl, Gr.refl _, by rw [moL_low HOK.out (Nat.le_refl _) (by omega)]; exact own_nil _ _ _ _ _⟩
  case round =>
    obtain ⟨k, A1, d1, hfk, hk, rfl, rfl, g, HO⟩ := hrel
    have gW : Gr w wr := (by repeat (first | with_reducible exact Gr.refl _ | with_reducible assumption | with_reducible refine Gr.alloc ?_ _ | with_reducible refine Gr.drewN ?_ _ | with_reducible refine Gr.drew ?_ | with_reducible refine Gr.setCell ?_ (by first | (dsimp only; omega) | (simp only [World.size_alloc]; omega) | (with_reducible refine Gr.size ?_; (repeat (first | with_reducible exact Gr.refl _ | with_reducible assumption | with_reducible refine Gr.alloc ?_ _ | with_reducible refine Gr.drewN ?_ _ | with_reducible refine Gr.drew ?_ | with_reducible refine Gr.trans ?_ (by with_reducible assumption))); done)) _ | with_reducible refine Gr.trans ?_ (by with_reducible assumption)))
    obtain ⟨Xr, Yr, cr, fr⟩ := g.use
    have zr := g.size
    simp only [World.size_alloc] at zr
    have l0 : w.heap.size < wr.heap.size := by omega
    have hml := moL_len p.fl fl k
    by_cases hkl : k < p.fl.length
    · have HBL := hide (below_any p A B c d fl (k + 1) wr (HF.out.gr gW) HOK.out hfl (by omega))
      rw [show ((k + 1 : Nat) : Int) = (k : Int) + 1 by omega] at HBL
      cases hmv : mvB p.fl fl (k + 1) with
      | true =>
        have HMT := hide hmv
        rw [hmv] at HBL
        clear hmv
        have HN := hide (show moL p.fl fl (k + 1) = moL p.fl fl k ++ [(k : Int) + 1] by rw [moL, if_pos HMT.out])
        go_wp2_with fail
        refine HBL.out.mono ?_
        rintro e w1 ⟨rfl, g1⟩
        have z1 := g1.size
        have g2 := g.trans g1
        have HOW := hide (own_gr (show World.ownsRow wr (w.heap.size + 1) 3 1 (.slice A1 (moL p.fl fl k).length d1) (moL p.fl fl k).length ((moL p.fl fl k).flatMap inL) from HO.out) g1)
        have FIN := hide (show ∀ (w8 : World) (gg cap1 : Nat), w8.ownsRow (w.heap.size + 1) 3 1 (.slice (some ⟨gg, 0, none⟩) ((moL p.fl fl k).length + 1) cap1) ((moL p.fl fl k).length + 1) ((moL p.fl fl k).flatMap inL ++ inL ((k : Int) + 1)) → ((moL p.fl fl k).length + 1 = (moL p.fl fl (k + 1)).length ∧ OwnL w8 (w.heap.size + 1) 3 1 inL (.slice (some ⟨gg, 0, none⟩) (moL p.fl fl (k + 1)).length cap1) (moL p.fl fl (k + 1))) by
          intro w8 gg cap1 h
          refine ⟨by rw [HN.out, List.length_append]; rfl, ?_⟩
          unfold OwnL
          rw [HN.out, fm_snoc, List.length_append]
          exact h)
        generalize hML : moL p.fl fl k = ML at *
        generalize hFL : ML.flatMap inL = FL at *
        generalize hNL : ML.length = NL at *
        clear hML hFL hNL HO
        go_wp2_with (first | (refine wpList_append_lies _ (by rfl) _ _ _ (by rfl) (w.heap.size + 1) 3 i0 _ 1 8 Try.underlying37 hi0 hz0 hz1 hz2 rfl (by omega) _ NL FL (by rfl) (own_gr HOW.out (by repeat (first | with_reducible exact Gr.refl _ | with_reducible assumption | with_reducible refine Gr.alloc ?_ _ | with_reducible refine Gr.drewN ?_ _ | with_reducible refine Gr.drew ?_ | with_reducible refine Gr.setCell ?_ (by first | (dsimp only; omega) | (simp only [World.size_alloc]; omega) | (with_reducible refine Gr.size ?_; (repeat (first | with_reducible exact Gr.refl _ | with_reducible assumption | with_reducible refine Gr.alloc ?_ _ | with_reducible refine Gr.drewN ?_ _ | with_reducible refine Gr.drew ?_ | with_reducible refine Gr.trans ?_ (by with_reducible assumption))); done)) _ | with_reducible refine Gr.trans ?_ (by with_reducible assumption)))) _ 1 1 [iv ((k : Int) + 1)] (by rfl) (by rfl) (one_in _ _) (by intro u hu; simp at hu; subst hu; rfl) (by omega) (by unfold maxLen; omega) (by omega) (by simp only [World.size_alloc]; omega) _ rfl ?_; intro gg cap1 w8 hown8 hgrow hat hlt))
        obtain ⟨e8, o8⟩ := FIN.out w8 gg cap1 hown8
        have g8 := Gr.grown (show Gr _ _ from g2.trans (by repeat (first | with_reducible exact Gr.refl _ | with_reducible assumption | with_reducible refine Gr.alloc ?_ _ | with_reducible refine Gr.drewN ?_ _ | with_reducible refine Gr.drew ?_ | with_reducible refine Gr.setCell ?_ (by first | (dsimp only; omega) | (simp only [World.size_alloc]; omega) | (with_reducible refine Gr.size ?_; (repeat (first | with_reducible exact Gr.refl _ | with_reducible assumption | with_reducible refine Gr.alloc ?_ _ | with_reducible refine Gr.drewN ?_ _ | with_reducible refine Gr.drew ?_ | with_reducible refine Gr.trans ?_ (by with_reducible assumption))); done)) _ | with_reducible refine Gr.trans ?_ (by with_reducible assumption)))) hgrow (fun k hk => by have := (World.ownsRow.lt HOW.out k hk).1; simp only [World.size_alloc]; omega)
        go_roundw
        case rel => exact ⟨k + 1, some ⟨gg, 0, none⟩, cap1, by omega, by omega, by go_num, by rw [e8], g8, o8⟩
        case measure => simp only [intOf]; omega
      | false =>
        have HMT := hide hmv
        rw [hmv] at HBL
        clear hmv
        have HN := hide (show moL p.fl fl (k + 1) = moL p.fl fl k by rw [moL, if_neg (by rw [HMT.out]; decide)])
        go_wp2_with fail
        refine HBL.out.mono ?_
        rintro e w1 ⟨rfl, g1⟩
        go_wp2_with fail
        go_roundw
        case rel => exact ⟨k + 1, A1, d1, by omega, by omega, by go_num, by rw [HN.out], g.trans g1, by rw [HN.out]; exact HO.out.gr g1⟩
        case measure => simp only [intOf]; omega
    · obtain rfl : k = p.fl.length := by omega
      have HR := hide (HO.out.weak (show w.heap.size ≤ w.heap.size + 1 by omega))
      clear HO
      go_wp2
      go_ret
      exact ⟨_, rfl, HR.out, gW⟩
end Go.Proofs.Ytpmomgfepkegnaa
namespace Go.Proofs.Ytpmomgfepkegnaa
open Go Go.ChangeShapes Go.WideShapes Go.ChangeAt Go.RowKit Go.Deep

theorem wi_nat {n : Nat} {m : Int} (h : wiB m 0 ((n : Int) - 1) = true) : ∃ k : Nat, m = k ∧ k < n := by
  rw [wiB_iff] at h
  exact ⟨m.toNat, by omega, by omega⟩
set_option maxRecDepth 100000 in
set_option maxHeartbeats 2000000 in
theorem Moves_any (p : Pa) (A B : Option Addr) (c d : Nat) (m : Int) (w : World) (hP : PaW w p A c B d) :
    Calls Try.prog 24 #[pav p A c B d, iv m] w fun e w' => ∃ v, e = .returned (sle v (movE p m)) ∧ OwnL w' w.heap.size 3 1 inL v (movL p m) ∧ Gr w w' := by
  have HV := hide (fun (w' : World) (g : Gr w w') => Validate_any p A B c d w' (hP.gr g))
  by_cases h0 : valE p = 0
  · cases hm : wiB m 0 (p.fl.length - 1) with
    | true =>
      have hE := movE_ok h0 hm
      rw [movL_some hE, hE]
      obtain ⟨k, rfl, hk⟩ := wi_nat hm
      exact Moves_ok p A B c d k w hP h0 hk
    | false =>
      have hE := movE_none h0 hm
      have HL := hide (movL_none (p := p) (m := m) (by rw [hE]; decide))
      rw [hE]
      have HH := hide (fun w' => hasFlange_any p A B c d m w')
      rw [hm] at HH
      rw [h0] at HV
      clear hE h0 hP hm
      go_enter Try.func24, Try.ntmps24
      go_wp2_with fail
      refine (HV.out _ (by repeat (first | with_reducible exact Gr.refl _ | with_reducible assumption | with_reducible refine Gr.alloc ?_ _ | with_reducible refine Gr.drewN ?_ _ | with_reducible refine Gr.drew ?_ | with_reducible refine Gr.setCell ?_ (by first | (dsimp only; omega) | (simp only [World.size_alloc]; omega) | (with_reducible refine Gr.size ?_; (repeat (first | with_reducible exact Gr.refl _ | with_reducible assumption | with_reducible refine Gr.alloc ?_ _ | with_reducible refine Gr.drewN ?_ _ | with_reducible refine Gr.drew ?_ | with_reducible refine Gr.trans ?_ (by with_reducible assumption))); done)) _ | with_reducible refine Gr.trans ?_ (by with_reducible assumption)))).mono ?_
      rintro e w1 ⟨rfl, g1⟩
      obtain ⟨X1, Y1, c1, f1⟩ := g1.use
      have z1 := g1.size
      simp only [World.size_alloc] at z1
      have l1 : w.heap.size < w1.heap.size := by omega
      have gw1 : Gr w w1 := (by repeat (first | with_reducible exact Gr.refl _ | with_reducible assumption | with_reducible refine Gr.alloc ?_ _ | with_reducible refine Gr.drewN ?_ _ | with_reducible refine Gr.drew ?_ | with_reducible refine Gr.setCell ?_ (by first | (dsimp only; omega) | (simp only [World.size_alloc]; omega) | (with_reducible refine Gr.size ?_; (repeat (first | with_reducible exact Gr.refl _ | with_reducible assumption | with_reducible refine Gr.alloc ?_ _ | with_reducible refine Gr.drewN ?_ _ | with_reducible refine Gr.drew ?_ | with_reducible refine Gr.trans ?_ (by with_reducible assumption))); done)) _ | with_reducible refine Gr.trans ?_ (by with_reducible assumption)))
      go_wp2_with fail
      refine (HH.out _).mono ?_
      rintro e w2 ⟨rfl, g2⟩
      go_wp2_with fail
      go_ret2
      exact ⟨.slice none 0 0, rfl, by rw [HL.out]; exact own_nil _ _ _ _ _, (by repeat (first | with_reducible exact Gr.refl _ | with_reducible assumption | with_reducible refine Gr.alloc ?_ _ | with_reducible refine Gr.drewN ?_ _ | with_reducible refine Gr.drew ?_ | with_reducible refine Gr.setCell ?_ (by first | (dsimp only; omega) | (simp only [World.size_alloc]; omega) | (with_reducible refine Gr.size ?_; (repeat (first | with_reducible exact Gr.refl _ | with_reducible assumption | with_reducible refine Gr.alloc ?_ _ | with_reducible refine Gr.drewN ?_ _ | with_reducible refine Gr.drew ?_ | with_reducible refine Gr.trans ?_ (by with_reducible assumption))); done)) _ | with_reducible refine Gr.trans ?_ (by with_reducible assumption)))⟩
  · have hE := movE_bad (m := m) h0
    have HL := hide (movL_none (p := p) (m := m) (by rw [hE]; exact h0))
    rw [hE]
    have h0' : (valE p != 0) = true := by simpa using h0
    generalize valE p = x at *
    clear hE h0 hP
    go_enter Try.func24, Try.ntmps24
    go_wp2_with fail
    refine (HV.out _ (by repeat (first | with_reducible exact Gr.refl _ | with_reducible assumption | with_reducible refine Gr.alloc ?_ _ | with_reducible refine Gr.drewN ?_ _ | with_reducible refine Gr.drew ?_ | with_reducible refine Gr.setCell ?_ (by first | (dsimp only; omega) | (simp only [World.size_alloc]; omega) | (with_reducible refine Gr.size ?_; (repeat (first | with_reducible exact Gr.refl _ | with_reducible assumption | with_reducible refine Gr.alloc ?_ _ | with_reducible refine Gr.drewN ?_ _ | with_reducible refine Gr.drew ?_ | with_reducible refine Gr.trans ?_ (by with_reducible assumption))); done)) _ | with_reducible refine Gr.trans ?_ (by with_reducible assumption)))).mono ?_
    rintro e w1 ⟨rfl, g1⟩
    go_wp2_with fail
    go_ret2
    exact ⟨.slice none 0 0, rfl, by rw [HL.out]; exact own_nil _ _ _ _ _, (by repeat (first | with_reducible exact Gr.refl _ | with_reducible assumption | with_reducible refine Gr.alloc ?_ _ | with_reducible refine Gr.drewN ?_ _ | with_reducible refine Gr.drew ?_ | with_reducible refine Gr.setCell ?_ (by first | (dsimp only; omega) | (simp only [World.size_alloc]; omega) | (with_reducible refine Gr.size ?_; (repeat (first | with_reducible exact Gr.refl _ | with_reducible assumption | with_reducible refine Gr.alloc ?_ _ | with_reducible refine Gr.drewN ?_ _ | with_reducible refine Gr.drew ?_ | with_reducible refine Gr.trans ?_ (by with_reducible assumption))); done)) _ | with_reducible refine Gr.trans ?_ (by with_reducible assumption)))⟩
set_option maxRecDepth 100000 in
set_option maxHeartbeats 2000000 in
theorem rMoves_any (p : Pa) (A B : Option Addr) (c d : Nat) (m : Int) (w : World) (hP : PaW w p A c B d) :
    Calls Try.prog 25 #[pav p A c B d, iv m] w fun e w' => ∃ v, e = .returned (sle v (movE p m)) ∧ OwnL w' w.heap.size 3 1 inL v (movL p m) ∧ Gr w w' := by
  have HV := hide (fun (w' : World) (g : Gr w w') => rValidate_any p A B c d w' (hP.gr g))
  have nl := hP.fl.len
  by_cases h0 : valE p = 0
  · have G := good_of h0
    rw [h0] at HV
    cases hm : wiB m 0 (p.fl.length - 1) with
    | true =>
      have hE := movE_ok h0 hm
      rw [movL_some hE, hE]
      obtain ⟨k, rfl, hk⟩ := wi_nat hm
      rw [show ((k : Nat) : Int).toNat = k from rfl]
      have HMV := hide (fun (w' : World) (g : Gr w w') => Moving_any p A B c d k w' (hP.fl.gr g) G.fl.fit hk G.nfl)
      generalize moL p.fl k p.fl.length = ML at *
      clear hE h0 hP G
      go_enter Try.func25, Try.ntmps25
      go_wp2_with fail
      refine (HV.out _ (by repeat (first | with_reducible exact Gr.refl _ | with_reducible assumption | with_reducible refine Gr.alloc ?_ _ | with_reducible refine Gr.drewN ?_ _ | with_reducible refine Gr.drew ?_ | with_reducible refine Gr.setCell ?_ (by first | (dsimp only; omega) | (simp only [World.size_alloc]; omega) | (with_reducible refine Gr.size ?_; (repeat (first | with_reducible exact Gr.refl _ | with_reducible assumption | with_reducible refine Gr.alloc ?_ _ | with_reducible refine Gr.drewN ?_ _ | with_reducible refine Gr.drew ?_ | with_reducible refine Gr.trans ?_ (by with_reducible assumption))); done)) _ | with_reducible refine Gr.trans ?_ (by with_reducible assumption)))).mono ?_
      rintro e w1 ⟨rfl, g1⟩
      obtain ⟨X1, Y1, c1, f1⟩ := g1.use
      have z1 := g1.size
      simp only [World.size_alloc] at z1
      have l1 : w.heap.size < w1.heap.size := by omega
      have gw1 : Gr w w1 := (by repeat (first | with_reducible exact Gr.refl _ | with_reducible assumption | with_reducible refine Gr.alloc ?_ _ | with_reducible refine Gr.drewN ?_ _ | with_reducible refine Gr.drew ?_ | with_reducible refine Gr.setCell ?_ (by first | (dsimp only; omega) | (simp only [World.size_alloc]; omega) | (with_reducible refine Gr.size ?_; (repeat (first | with_reducible exact Gr.refl _ | with_reducible assumption | with_reducible refine Gr.alloc ?_ _ | with_reducible refine Gr.drewN ?_ _ | with_reducible refine Gr.drew ?_ | with_reducible refine Gr.trans ?_ (by with_reducible assumption))); done)) _ | with_reducible refine Gr.trans ?_ (by with_reducible assumption)))
      go_wp2_with (first | (go_at_call 66; refine (rwithin_any _ _ _ _).mono ?_; rintro e w1 ⟨rfl, rfl⟩))
      refine (HMV.out _ gw1).mono ?_
      rintro e w3 ⟨v3, rfl, o3, g3⟩
      obtain ⟨A3, d3, rfl⟩ := o3.slice
      have HO := hide (o3.weak (lo := w.heap.size) gw1.size)
      clear o3
      go_wp2_with fail
      go_ret2
      exact ⟨.slice A3 ML.length d3, rfl, HO.out, (by repeat (first | with_reducible exact Gr.refl _ | with_reducible assumption | with_reducible refine Gr.alloc ?_ _ | with_reducible refine Gr.drewN ?_ _ | with_reducible refine Gr.drew ?_ | with_reducible refine Gr.setCell ?_ (by first | (dsimp only; omega) | (simp only [World.size_alloc]; omega) | (with_reducible refine Gr.size ?_; (repeat (first | with_reducible exact Gr.refl _ | with_reducible assumption | with_reducible refine Gr.alloc ?_ _ | with_reducible refine Gr.drewN ?_ _ | with_reducible refine Gr.drew ?_ | with_reducible refine Gr.trans ?_ (by with_reducible assumption))); done)) _ | with_reducible refine Gr.trans ?_ (by with_reducible assumption)))⟩
    | false =>
      have hE := movE_none h0 hm
      have HL := hide (movL_none (p := p) (m := m) (by rw [hE]; decide))
      rw [hE]
      clear hE h0 hP G
      go_enter Try.func25, Try.ntmps25
      go_wp2_with fail
      refine (HV.out _ (by repeat (first | with_reducible exact Gr.refl _ | with_reducible assumption | with_reducible refine Gr.alloc ?_ _ | with_reducible refine Gr.drewN ?_ _ | with_reducible refine Gr.drew ?_ | with_reducible refine Gr.setCell ?_ (by first | (dsimp only; omega) | (simp only [World.size_alloc]; omega) | (with_reducible refine Gr.size ?_; (repeat (first | with_reducible exact Gr.refl _ | with_reducible assumption | with_reducible refine Gr.alloc ?_ _ | with_reducible refine Gr.drewN ?_ _ | with_reducible refine Gr.drew ?_ | with_reducible refine Gr.trans ?_ (by with_reducible assumption))); done)) _ | with_reducible refine Gr.trans ?_ (by with_reducible assumption)))).mono ?_
      rintro e w1 ⟨rfl, g1⟩
      obtain ⟨X1, Y1, c1, f1⟩ := g1.use
      have z1 := g1.size
      simp only [World.size_alloc] at z1
      have l1 : w.heap.size < w1.heap.size := by omega
      have gw1 : Gr w w1 := (by repeat (first | with_reducible exact Gr.refl _ | with_reducible assumption | with_reducible refine Gr.alloc ?_ _ | with_reducible refine Gr.drewN ?_ _ | with_reducible refine Gr.drew ?_ | with_reducible refine Gr.setCell ?_ (by first | (dsimp only; omega) | (simp only [World.size_alloc]; omega) | (with_reducible refine Gr.size ?_; (repeat (first | with_reducible exact Gr.refl _ | with_reducible assumption | with_reducible refine Gr.alloc ?_ _ | with_reducible refine Gr.drewN ?_ _ | with_reducible refine Gr.drew ?_ | with_reducible refine Gr.trans ?_ (by with_reducible assumption))); done)) _ | with_reducible refine Gr.trans ?_ (by with_reducible assumption)))
      go_wp2_with (first | (go_at_call 66; refine (rwithin_any _ _ _ _).mono ?_; rintro e w1 ⟨rfl, rfl⟩))
      go_ret2
      exact ⟨.slice none 0 0, rfl, by rw [HL.out]; exact own_nil _ _ _ _ _, (by repeat (first | with_reducible exact Gr.refl _ | with_reducible assumption | with_reducible refine Gr.alloc ?_ _ | with_reducible refine Gr.drewN ?_ _ | with_reducible refine Gr.drew ?_ | with_reducible refine Gr.setCell ?_ (by first | (dsimp only; omega) | (simp only [World.size_alloc]; omega) | (with_reducible refine Gr.size ?_; (repeat (first | with_reducible exact Gr.refl _ | with_reducible assumption | with_reducible refine Gr.alloc ?_ _ | with_reducible refine Gr.drewN ?_ _ | with_reducible refine Gr.drew ?_ | with_reducible refine Gr.trans ?_ (by with_reducible assumption))); done)) _ | with_reducible refine Gr.trans ?_ (by with_reducible assumption)))⟩
  · have hE := movE_bad (m := m) h0
    have HL := hide (movL_none (p := p) (m := m) (by rw [hE]; exact h0))
    rw [hE]
    have h0' : (valE p != 0) = true := by simpa using h0
    generalize valE p = x at *
    clear hE h0 hP
    go_enter Try.func25, Try.ntmps25
    go_wp2_with fail
    refine (HV.out _ (by repeat (first | with_reducible exact Gr.refl _ | with_reducible assumption | with_reducible refine Gr.alloc ?_ _ | with_reducible refine Gr.drewN ?_ _ | with_reducible refine Gr.drew ?_ | with_reducible refine Gr.setCell ?_ (by first | (dsimp only; omega) | (simp only [World.size_alloc]; omega) | (with_reducible refine Gr.size ?_; (repeat (first | with_reducible exact Gr.refl _ | with_reducible assumption | with_reducible refine Gr.alloc ?_ _ | with_reducible refine Gr.drewN ?_ _ | with_reducible refine Gr.drew ?_ | with_reducible refine Gr.trans ?_ (by with_reducible assumption))); done)) _ | with_reducible refine Gr.trans ?_ (by with_reducible assumption)))).mono ?_
    rintro e w1 ⟨rfl, g1⟩
    go_wp2_with fail
    go_ret2
    exact ⟨.slice none 0 0, rfl, by rw [HL.out]; exact own_nil _ _ _ _ _, (by repeat (first | with_reducible exact Gr.refl _ | with_reducible assumption | with_reducible refine Gr.alloc ?_ _ | with_reducible refine Gr.drewN ?_ _ | with_reducible refine Gr.drew ?_ | with_reducible refine Gr.setCell ?_ (by first | (dsimp only; omega) | (simp only [World.size_alloc]; omega) | (with_reducible refine Gr.size ?_; (repeat (first | with_reducible exact Gr.refl _ | with_reducible assumption | with_reducible refine Gr.alloc ?_ _ | with_reducible refine Gr.drewN ?_ _ | with_reducible refine Gr.drew ?_ | with_reducible refine Gr.trans ?_ (by with_reducible assumption))); done)) _ | with_reducible refine Gr.trans ?_ (by with_reducible assumption)))⟩
/-- width, height and error of a face -/
noncomputable def sizV (p : Pa) (n : Int) : Int × Int × Int := if valE p ≠ 0 then (0, 0, valE p) else if wiB n 0 p.fl.length then (extW p n, extH p n, 0) else (0, 0, 5)
abbrev t3V (t : Int × Int × Int) : Value := .tuple #[iv t.1, iv t.2.1, iv t.2.2]
set_option maxRecDepth 100000 in
set_option maxHeartbeats 2000000 in
theorem Size_any (p : Pa) (A B : Option Addr) (c d : Nat) (n : Int) (w : World) (hP : PaW w p A c B d) :
    Calls Try.prog 26 #[pav p A c B d, iv n] w fun e w' => e = .returned (t3V (sizV p n)) ∧ Gr w w' := by
  have HV := hide (fun (w' : World) (g : Gr w w') => Validate_any p A B c d w' (hP.gr g))
  by_cases h0 : valE p = 0
  · rw [h0] at HV
    have HH := hide (fun w' => hasFace_any p A B c d n w')
    cases hm : wiB n 0 p.fl.length with
    | true =>
      rw [show sizV p n = (extW p n, extH p n, 0) by unfold sizV; rw [if_neg (by simpa using h0), hm]; rfl]
      obtain ⟨u1, u2⟩ := wiB_iff.1 hm
      have HS := hide (fun (w' : World) (g : Gr w w') => size_any p A B c d n w' (hP.fl.gr g) u1 u2)
      rw [hm] at HH
      generalize extW p n = ew at *
      generalize extH p n = eh at *
      clear h0 hP hm u1 u2
      go_enter Try.func26, Try.ntmps26
      go_wp2_with fail
      refine (HV.out _ (by repeat (first | with_reducible exact Gr.refl _ | with_reducible assumption | with_reducible refine Gr.alloc ?_ _ | with_reducible refine Gr.drewN ?_ _ | with_reducible refine Gr.drew ?_ | with_reducible refine Gr.setCell ?_ (by first | (dsimp only; omega) | (simp only [World.size_alloc]; omega) | (with_reducible refine Gr.size ?_; (repeat (first | with_reducible exact Gr.refl _ | with_reducible assumption | with_reducible refine Gr.alloc ?_ _ | with_reducible refine Gr.drewN ?_ _ | with_reducible refine Gr.drew ?_ | with_reducible refine Gr.trans ?_ (by with_reducible assumption))); done)) _ | with_reducible refine Gr.trans ?_ (by with_reducible assumption)))).mono ?_
      rintro e w1 ⟨rfl, g1⟩
      obtain ⟨X1, Y1, c1, f1⟩ := g1.use
      have z1 := g1.size
      simp only [World.size_alloc] at z1
      have l1 : w.heap.size < w1.heap.size := by omega
      have gw1 : Gr w w1 := (by repeat (first | with_reducible exact Gr.refl _ | with_reducible assumption | with_reducible refine Gr.alloc ?_ _ | with_reducible refine Gr.drewN ?_ _ | with_reducible refine Gr.drew ?_ | with_reducible refine Gr.setCell ?_ (by first | (dsimp only; omega) | (simp only [World.size_alloc]; omega) | (with_reducible refine Gr.size ?_; (repeat (first | with_reducible exact Gr.refl _ | with_reducible assumption | with_reducible refine Gr.alloc ?_ _ | with_reducible refine Gr.drewN ?_ _ | with_reducible refine Gr.drew ?_ | with_reducible refine Gr.trans ?_ (by with_reducible assumption))); done)) _ | with_reducible refine Gr.trans ?_ (by with_reducible assumption)))
      go_wp2_with fail
      refine (HH.out _).mono ?_
      rintro e w2 ⟨rfl, g2⟩
      obtain ⟨X2, Y2, c2, f2⟩ := g2.use
      have z2 := g2.size
      have l2 : w.heap.size < w2.heap.size := by omega
      have gw2 : Gr w w2 := gw1.trans g2
      go_wp2_with fail
      refine (HS.out _ gw2).mono ?_
      rintro e w3 ⟨rfl, g3⟩
      go_wp2_with fail
      refine bodyPost_ret (v := t3V (ew, eh, 0)) (by simp [results, Try.results26, go_sem]) rfl ⟨rfl, (by repeat (first | with_reducible exact Gr.refl _ | with_reducible assumption | with_reducible refine Gr.alloc ?_ _ | with_reducible refine Gr.drewN ?_ _ | with_reducible refine Gr.drew ?_ | with_reducible refine Gr.setCell ?_ (by first | (dsimp only; omega) | (simp only [World.size_alloc]; omega) | (with_reducible refine Gr.size ?_; (repeat (first | with_reducible exact Gr.refl _ | with_reducible assumption | with_reducible refine Gr.alloc ?_ _ | with_reducible refine Gr.drewN ?_ _ | with_reducible refine Gr.drew ?_ | with_reducible refine Gr.trans ?_ (by with_reducible assumption))); done)) _ | with_reducible refine Gr.trans ?_ (by with_reducible assumption)))⟩
    | false =>
      rw [show sizV p n = (0, 0, 5) by unfold sizV; rw [if_neg (by simpa using h0), hm]; rfl]
      rw [hm] at HH
      clear h0 hP hm
      go_enter Try.func26, Try.ntmps26
      go_wp2_with fail
      refine (HV.out _ (by repeat (first | with_reducible exact Gr.refl _ | with_reducible assumption | with_reducible refine Gr.alloc ?_ _ | with_reducible refine Gr.drewN ?_ _ | with_reducible refine Gr.drew ?_ | with_reducible refine Gr.setCell ?_ (by first | (dsimp only; omega) | (simp only [World.size_alloc]; omega) | (with_reducible refine Gr.size ?_; (repeat (first | with_reducible exact Gr.refl _ | with_reducible assumption | with_reducible refine Gr.alloc ?_ _ | with_reducible refine Gr.drewN ?_ _ | with_reducible refine Gr.drew ?_ | with_reducible refine Gr.trans ?_ (by with_reducible assumption))); done)) _ | with_reducible refine Gr.trans ?_ (by with_reducible assumption)))).mono ?_
      rintro e w1 ⟨rfl, g1⟩
      obtain ⟨X1, Y1, c1, f1⟩ := g1.use
      have z1 := g1.size
      simp only [World.size_alloc] at z1
      have l1 : w.heap.size < w1.heap.size := by omega
      have gw1 : Gr w w1 := (by repeat (first | with_reducible exact Gr.refl _ | with_reducible assumption | with_reducible refine Gr.alloc ?_ _ | with_reducible refine Gr.drewN ?_ _ | with_reducible refine Gr.drew ?_ | with_reducible refine Gr.setCell ?_ (by first | (dsimp only; omega) | (simp only [World.size_alloc]; omega) | (with_reducible refine Gr.size ?_; (repeat (first | with_reducible exact Gr.refl _ | with_reducible assumption | with_reducible refine Gr.alloc ?_ _ | with_reducible refine Gr.drewN ?_ _ | with_reducible refine Gr.drew ?_ | with_reducible refine Gr.trans ?_ (by with_reducible assumption))); done)) _ | with_reducible refine Gr.trans ?_ (by with_reducible assumption)))
      go_wp2_with fail
      refine (HH.out _).mono ?_
      rintro e w2 ⟨rfl, g2⟩
      go_wp2_with fail
      refine bodyPost_ret (v := t3V (0, 0, 5)) (by simp [results, Try.results26, go_sem]) rfl ⟨rfl, (by repeat (first | with_reducible exact Gr.refl _ | with_reducible assumption | with_reducible refine Gr.alloc ?_ _ | with_reducible refine Gr.drewN ?_ _ | with_reducible refine Gr.drew ?_ | with_reducible refine Gr.setCell ?_ (by first | (dsimp only; omega) | (simp only [World.size_alloc]; omega) | (with_reducible refine Gr.size ?_; (repeat (first | with_reducible exact Gr.refl _ | with_reducible assumption | with_reducible refine Gr.alloc ?_ _ | with_reducible refine Gr.drewN ?_ _ | with_reducible refine Gr.drew ?_ | with_reducible refine Gr.trans ?_ (by with_reducible assumption))); done)) _ | with_reducible refine Gr.trans ?_ (by with_reducible assumption)))⟩
  · rw [show sizV p n = (0, 0, valE p) by unfold sizV; rw [if_pos h0]]
    have h0' : (valE p != 0) = true := by simpa using h0
    generalize valE p = x at *
    clear h0 hP
    go_enter Try.func26, Try.ntmps26
    go_wp2_with fail
    refine (HV.out _ (by repeat (first | with_reducible exact Gr.refl _ | with_reducible assumption | with_reducible refine Gr.alloc ?_ _ | with_reducible refine Gr.drewN ?_ _ | with_reducible refine Gr.drew ?_ | with_reducible refine Gr.setCell ?_ (by first | (dsimp only; omega) | (simp only [World.size_alloc]; omega) | (with_reducible refine Gr.size ?_; (repeat (first | with_reducible exact Gr.refl _ | with_reducible assumption | with_reducible refine Gr.alloc ?_ _ | with_reducible refine Gr.drewN ?_ _ | with_reducible refine Gr.drew ?_ | with_reducible refine Gr.trans ?_ (by with_reducible assumption))); done)) _ | with_reducible refine Gr.trans ?_ (by with_reducible assumption)))).mono ?_
    rintro e w1 ⟨rfl, g1⟩
    go_wp2_with fail
    refine bodyPost_ret (v := t3V (0, 0, x)) (by simp [results, Try.results26, go_sem]) rfl ⟨rfl, (by repeat (first | with_reducible exact Gr.refl _ | with_reducible assumption | with_reducible refine Gr.alloc ?_ _ | with_reducible refine Gr.drewN ?_ _ | with_reducible refine Gr.drew ?_ | with_reducible refine Gr.setCell ?_ (by first | (dsimp only; omega) | (simp only [World.size_alloc]; omega) | (with_reducible refine Gr.size ?_; (repeat (first | with_reducible exact Gr.refl _ | with_reducible assumption | with_reducible refine Gr.alloc ?_ _ | with_reducible refine Gr.drewN ?_ _ | with_reducible refine Gr.drew ?_ | with_reducible refine Gr.trans ?_ (by with_reducible assumption))); done)) _ | with_reducible refine Gr.trans ?_ (by with_reducible assumption)))⟩
end Go.Proofs.Ytpmomgfepkegnaa
namespace Go.Proofs.Ytpmomgfepkegnaa
open Go Go.ChangeShapes Go.WideShapes Go.ChangeAt Go.RowKit Go.Deep

set_option maxRecDepth 100000 in
set_option maxHeartbeats 2000000 in
theorem rSize_any (p : Pa) (A B : Option Addr) (c d : Nat) (n : Int) (w : World) (hP : PaW w p A c B d) :
    Calls Try.prog 27 #[pav p A c B d, iv n] w fun e w' => e = .returned (t3V (sizV p n)) ∧ Gr w w' := by
  have HV := hide (fun (w' : World) (g : Gr w w') => rValidate_any p A B c d w' (hP.gr g))
  have nl := hP.fl.len
  by_cases h0 : valE p = 0
  · rw [h0] at HV
    cases hm : wiB n 0 p.fl.length with
    | true =>
      rw [show sizV p n = (extW p n, extH p n, 0) by unfold sizV; rw [if_neg (by simpa using h0), hm]; rfl]
      obtain ⟨u1, u2⟩ := wiB_iff.1 hm
      have HS := hide (fun (w' : World) (g : Gr w w') => extent_any p A B c d n w' (hP.fl.gr g) u1 u2)
      generalize extW p n = ew at *
      generalize extH p n = eh at *
      clear h0 hP u1 u2
      go_enter Try.func27, Try.ntmps27
      go_wp2_with fail
      refine (HV.out _ (by repeat (first | with_reducible exact Gr.refl _ | with_reducible assumption | with_reducible refine Gr.alloc ?_ _ | with_reducible refine Gr.drewN ?_ _ | with_reducible refine Gr.drew ?_ | with_reducible refine Gr.setCell ?_ (by first | (dsimp only; omega) | (simp only [World.size_alloc]; omega) | (with_reducible refine Gr.size ?_; (repeat (first | with_reducible exact Gr.refl _ | with_reducible assumption | with_reducible refine Gr.alloc ?_ _ | with_reducible refine Gr.drewN ?_ _ | with_reducible refine Gr.drew ?_ | with_reducible refine Gr.trans ?_ (by with_reducible assumption))); done)) _ | with_reducible refine Gr.trans ?_ (by with_reducible assumption)))).mono ?_
      rintro e w1 ⟨rfl, g1⟩
      obtain ⟨X1, Y1, c1, f1⟩ := g1.use
      have z1 := g1.size
      simp only [World.size_alloc] at z1
      have l1 : w.heap.size < w1.heap.size := by omega
      have gw1 : Gr w w1 := (by repeat (first | with_reducible exact Gr.refl _ | with_reducible assumption | with_reducible refine Gr.alloc ?_ _ | with_reducible refine Gr.drewN ?_ _ | with_reducible refine Gr.drew ?_ | with_reducible refine Gr.setCell ?_ (by first | (dsimp only; omega) | (simp only [World.size_alloc]; omega) | (with_reducible refine Gr.size ?_; (repeat (first | with_reducible exact Gr.refl _ | with_reducible assumption | with_reducible refine Gr.alloc ?_ _ | with_reducible refine Gr.drewN ?_ _ | with_reducible refine Gr.drew ?_ | with_reducible refine Gr.trans ?_ (by with_reducible assumption))); done)) _ | with_reducible refine Gr.trans ?_ (by with_reducible assumption)))
      go_wp2_with (first | (go_at_call 66; refine (rwithin_any _ _ _ _).mono ?_; rintro e w1 ⟨rfl, rfl⟩))
      refine (HS.out _ gw1).mono ?_
      rintro e w3 ⟨rfl, g3⟩
      go_wp2_with fail
      refine bodyPost_ret (v := t3V (ew, eh, 0)) (by simp [results, Try.results27, go_sem]) rfl ⟨rfl, (by repeat (first | with_reducible exact Gr.refl _ | with_reducible assumption | with_reducible refine Gr.alloc ?_ _ | with_reducible refine Gr.drewN ?_ _ | with_reducible refine Gr.drew ?_ | with_reducible refine Gr.setCell ?_ (by first | (dsimp only; omega) | (simp only [World.size_alloc]; omega) | (with_reducible refine Gr.size ?_; (repeat (first | with_reducible exact Gr.refl _ | with_reducible assumption | with_reducible refine Gr.alloc ?_ _ | with_reducible refine Gr.drewN ?_ _ | with_reducible refine Gr.drew ?_ | with_reducible refine Gr.trans ?_ (by with_reducible assumption))); done)) _ | with_reducible refine Gr.trans ?_ (by with_reducible assumption)))⟩
    | false =>
      rw [show sizV p n = (0, 0, 5) by unfold sizV; rw [if_neg (by simpa using h0), hm]; rfl]
      clear h0 hP
      go_enter Try.func27, Try.ntmps27
      go_wp2_with fail
      refine (HV.out _ (by repeat (first | with_reducible exact Gr.refl _ | with_reducible assumption | with_reducible refine Gr.alloc ?_ _ | with_reducible refine Gr.drewN ?_ _ | with_reducible refine Gr.drew ?_ | with_reducible refine Gr.setCell ?_ (by first | (dsimp only; omega) | (simp only [World.size_alloc]; omega) | (with_reducible refine Gr.size ?_; (repeat (first | with_reducible exact Gr.refl _ | with_reducible assumption | with_reducible refine Gr.alloc ?_ _ | with_reducible refine Gr.drewN ?_ _ | with_reducible refine Gr.drew ?_ | with_reducible refine Gr.trans ?_ (by with_reducible assumption))); done)) _ | with_reducible refine Gr.trans ?_ (by with_reducible assumption)))).mono ?_
      rintro e w1 ⟨rfl, g1⟩
      obtain ⟨X1, Y1, c1, f1⟩ := g1.use
      have z1 := g1.size
      simp only [World.size_alloc] at z1
      have l1 : w.heap.size < w1.heap.size := by omega
      have gw1 : Gr w w1 := (by repeat (first | with_reducible exact Gr.refl _ | with_reducible assumption | with_reducible refine Gr.alloc ?_ _ | with_reducible refine Gr.drewN ?_ _ | with_reducible refine Gr.drew ?_ | with_reducible refine Gr.setCell ?_ (by first | (dsimp only; omega) | (simp only [World.size_alloc]; omega) | (with_reducible refine Gr.size ?_; (repeat (first | with_reducible exact Gr.refl _ | with_reducible assumption | with_reducible refine Gr.alloc ?_ _ | with_reducible refine Gr.drewN ?_ _ | with_reducible refine Gr.drew ?_ | with_reducible refine Gr.trans ?_ (by with_reducible assumption))); done)) _ | with_reducible refine Gr.trans ?_ (by with_reducible assumption)))
      go_wp2_with (first | (go_at_call 66; refine (rwithin_any _ _ _ _).mono ?_; rintro e w1 ⟨rfl, rfl⟩))
      refine bodyPost_ret (v := t3V (0, 0, 5)) (by simp [results, Try.results27, go_sem]) rfl ⟨rfl, (by repeat (first | with_reducible exact Gr.refl _ | with_reducible assumption | with_reducible refine Gr.alloc ?_ _ | with_reducible refine Gr.drewN ?_ _ | with_reducible refine Gr.drew ?_ | with_reducible refine Gr.setCell ?_ (by first | (dsimp only; omega) | (simp only [World.size_alloc]; omega) | (with_reducible refine Gr.size ?_; (repeat (first | with_reducible exact Gr.refl _ | with_reducible assumption | with_reducible refine Gr.alloc ?_ _ | with_reducible refine Gr.drewN ?_ _ | with_reducible refine Gr.drew ?_ | with_reducible refine Gr.trans ?_ (by with_reducible assumption))); done)) _ | with_reducible refine Gr.trans ?_ (by with_reducible assumption)))⟩
  · rw [show sizV p n = (0, 0, valE p) by unfold sizV; rw [if_pos h0]]
    have h0' : (valE p != 0) = true := by simpa using h0
    generalize valE p = x at *
    clear h0 hP
    go_enter Try.func27, Try.ntmps27
    go_wp2_with fail
    refine (HV.out _ (by repeat (first | with_reducible exact Gr.refl _ | with_reducible assumption | with_reducible refine Gr.alloc ?_ _ | with_reducible refine Gr.drewN ?_ _ | with_reducible refine Gr.drew ?_ | with_reducible refine Gr.setCell ?_ (by first | (dsimp only; omega) | (simp only [World.size_alloc]; omega) | (with_reducible refine Gr.size ?_; (repeat (first | with_reducible exact Gr.refl _ | with_reducible assumption | with_reducible refine Gr.alloc ?_ _ | with_reducible refine Gr.drewN ?_ _ | with_reducible refine Gr.drew ?_ | with_reducible refine Gr.trans ?_ (by with_reducible assumption))); done)) _ | with_reducible refine Gr.trans ?_ (by with_reducible assumption)))).mono ?_
    rintro e w1 ⟨rfl, g1⟩
    go_wp2_with fail
    refine bodyPost_ret (v := t3V (0, 0, x)) (by simp [results, Try.results27, go_sem]) rfl ⟨rfl, (by repeat (first | with_reducible exact Gr.refl _ | with_reducible assumption | with_reducible refine Gr.alloc ?_ _ | with_reducible refine Gr.drewN ?_ _ | with_reducible refine Gr.drew ?_ | with_reducible refine Gr.setCell ?_ (by first | (dsimp only; omega) | (simp only [World.size_alloc]; omega) | (with_reducible refine Gr.size ?_; (repeat (first | with_reducible exact Gr.refl _ | with_reducible assumption | with_reducible refine Gr.alloc ?_ _ | with_reducible refine Gr.drewN ?_ _ | with_reducible refine Gr.drew ?_ | with_reducible refine Gr.trans ?_ (by with_reducible assumption))); done)) _ | with_reducible refine Gr.trans ?_ (by with_reducible assumption)))⟩
/-- a slice of numbers -/
structure SlI (w : World) (A : Option Addr) (c : Nat) (l : List Int) : Prop where
  rd : RdL w 1 inL A l
  cap : l.length ≤ c
  capB : c ≤ 9223372036854775807
  len : l.length ≤ 1000
theorem SlI.gr {w w' : World} {A : Option Addr} {c : Nat} {l : List Int} (h : SlI w A c l) (g : Gr w w') : SlI w' A c l := ⟨h.rd.gr g, h.cap, h.capB, h.len⟩
theorem slI_own {w : World} {base : Nat} {A : Option Addr} {n d : Nat} {xs : List Int} (h : OwnL w base 3 1 inL (.slice A n d) xs) (hl : xs.length ≤ 1000) : SlI w A d xs := by
  obtain ⟨h0, h1, h2, h3⟩ := OwnL.rd (c := inL) (fun _ => rfl) h
  exact ⟨h1, h2, by unfold maxLen at h3; omega, hl⟩
theorem RdL.int {w : World} {A : Option Addr} {l : List Int} (h : RdL w 1 inL A l) {i : Nat} {z : Int} (hi : l[i]? = some z) : ∃ b off, A = some ⟨b, off, none⟩ ∧ w.cell? ⟨b, off + i, none⟩ = some (iv z) := by
  obtain ⟨b, off, e, h0, _⟩ := h i z hi
  rw [Nat.mul_one] at h0
  exact ⟨b, off, e, h0⟩
set_option maxRecDepth 100000 in
set_option maxHeartbeats 2000000 in
theorem sameInts_any (A B : Option Addr) (c d : Nat) (l : List Int) (w : World) (hl : SlI w A c l) (hm : SlI w B d l) :
    Calls Try.prog 28 #[.slice A l.length c, .slice B l.length d] w fun e w' => e = .returned (.bool true) ∧ Gr w w' := by
  have n1 := hl.len
  have HLl := hide hl
  have HLm := hide hm
  clear hl hm
  go_enter Try.func28, Try.ntmps28
  go_wp2
  go_loopw [5] (fun i wr => ∃ k : Nat, k ≤ l.length ∧ i = iv k ∧ Gr w wr) (fun i _ => l.length - (intOf i).toNat)
  case atStart => exact ⟨0, by omega, rfl, Gr.refl _⟩
  case round =>
    obtain ⟨k, hk, rfl, g⟩ := hrel
    by_cases hkl : k < l.length
    · obtain ⟨a, ha⟩ : ∃ a, l[k]? = some a := ⟨_, List.getElem?_eq_getElem hkl⟩
      obtain ⟨p, o, rfl, x0⟩ := (HLl.out.gr g).rd.int ha
      obtain ⟨q, o', rfl, y0⟩ := (HLm.out.gr g).rd.int ha
      have hp : p < wr.heap.size := cell_lt (by rw [x0]; rfl)
      have hqw : q < wr.heap.size := cell_lt (by rw [y0]; rfl)
      have hk0 : (0 : Int) ≤ (k : Int) := by omega
      have hk1 : (k : Int) < (l.length : Int) := by omega
      clear ha
      go_upto_region 6 with fail
      have GC := @GrW.cell
      refine wp_region_grw _ (by kernel_rfl) (by kernel_rfl) (Gr.refl _) ?_
      repeat (go_big_quiet_step ((first | fail)))
      refine wpQuiet_nil ?_
      intro wq hwq
      obtain ⟨gq, hwq'⟩ := hwq
      subst hwq'
      clear GC
      have gq1 := gq.gr
      generalize gq.w = wq at gq1 ⊢
      obtain ⟨Xq, Yq, cq, fq⟩ := gq1.use
      have sq := gq1.size
      (try simp only [World.size_alloc, World.size_setCell, World.heap_drewN] at sq)
      go_wp2
      go_roundw
      case rel => exact ⟨k + 1, by omega, by go_num, (by repeat (first | with_reducible exact Gr.refl _ | with_reducible assumption | with_reducible refine Gr.alloc ?_ _ | with_reducible refine Gr.drewN ?_ _ | with_reducible refine Gr.drew ?_ | with_reducible refine Gr.setCell ?_ (by first | (dsimp only; omega) | (simp only [World.size_alloc]; omega) | (with_reducible refine Gr.size ?_; (repeat (first | with_reducible exact Gr.refl _ | with_reducible assumption | with_reducible refine Gr.alloc ?_ _ | with_reducible refine Gr.drewN ?_ _ | with_reducible refine Gr.drew ?_ | with_reducible refine Gr.trans ?_ (by with_reducible assumption))); done)) _ | with_reducible refine Gr.trans ?_ (by with_reducible assumption)))⟩
      case measure => simp only [intOf]; omega
    · obtain rfl : k = l.length := by omega
      go_wp2
      go_ret
      exact ⟨rfl, (by repeat (first | with_reducible exact Gr.refl _ | with_reducible assumption | with_reducible refine Gr.alloc ?_ _ | with_reducible refine Gr.drewN ?_ _ | with_reducible refine Gr.drew ?_ | with_reducible refine Gr.setCell ?_ (by first | (dsimp only; omega) | (simp only [World.size_alloc]; omega) | (with_reducible refine Gr.size ?_; (repeat (first | with_reducible exact Gr.refl _ | with_reducible assumption | with_reducible refine Gr.alloc ?_ _ | with_reducible refine Gr.drewN ?_ _ | with_reducible refine Gr.drew ?_ | with_reducible refine Gr.trans ?_ (by with_reducible assumption))); done)) _ | with_reducible refine Gr.trans ?_ (by with_reducible assumption)))⟩
theorem movL_len {p : Pa} {m : Int} (h : p.fl.length ≤ 1000) : (movL p m).length ≤ 1000 := by
  unfold movL
  split
  · have := moL_len p.fl m.toNat p.fl.length
    omega
  · simp
set_option maxRecDepth 100000 in
set_option maxHeartbeats 4000000 in
theorem moves_walk (p : Pa) (A B : Option Addr) (c d : Nat) (m n : Int) (w : World) (hX : PaX w p A c B d) :
    Calls Try.prog 5 #[pav p A c B d, iv m, iv n] w fun x w' => x = .returned (.bool true) ∧ Gr w w' := by
  have HBG := hide (fun (w' : World) (g : Gr w w') => big_any p A B c d w' (hX.gr g))
  cases hb : bgB p with
  | true =>
    rw [hb] at HBG
    clear hb hX
    go_enter Try.func5, Try.ntmps5
    go_wp2_with fail
    refine (HBG.out _ (by repeat (first | with_reducible exact Gr.refl _ | with_reducible assumption | with_reducible refine Gr.alloc ?_ _ | with_reducible refine Gr.drewN ?_ _ | with_reducible refine Gr.drew ?_ | with_reducible refine Gr.setCell ?_ (by first | (dsimp only; omega) | (simp only [World.size_alloc]; omega) | (with_reducible refine Gr.size ?_; (repeat (first | with_reducible exact Gr.refl _ | with_reducible assumption | with_reducible refine Gr.alloc ?_ _ | with_reducible refine Gr.drewN ?_ _ | with_reducible refine Gr.drew ?_ | with_reducible refine Gr.trans ?_ (by with_reducible assumption))); done)) _ | with_reducible refine Gr.trans ?_ (by with_reducible assumption)))).mono ?_
    rintro e w1 ⟨rfl, g1⟩
    go_wp2_with (first | (go_at_call 16; refine (known_any _).mono ?_; rintro e w1 ⟨rfl, g1⟩; obtain ⟨X1, Y1, c1, f1⟩ := g1.use; have z1 := g1.size; (try simp only [World.size_alloc, World.size_setCell, World.heap_drewN, Nat.add_one_le_iff] at z1); (try have l0 : w.heap.size < w1.heap.size := by omega); (try have l1 : w.heap.size + 1 < w1.heap.size := by omega); (try have l2 : w.heap.size + 1 + 1 < w1.heap.size := by omega)))
    go_ret
    exact ⟨rfl, (by repeat (first | with_reducible exact Gr.refl _ | with_reducible assumption | with_reducible refine Gr.alloc ?_ _ | with_reducible refine Gr.drewN ?_ _ | with_reducible refine Gr.drew ?_ | with_reducible refine Gr.setCell ?_ (by first | (dsimp only; omega) | (simp only [World.size_alloc]; omega) | (with_reducible refine Gr.size ?_; (repeat (first | with_reducible exact Gr.refl _ | with_reducible assumption | with_reducible refine Gr.alloc ?_ _ | with_reducible refine Gr.drewN ?_ _ | with_reducible refine Gr.drew ?_ | with_reducible refine Gr.trans ?_ (by with_reducible assumption))); done)) _ | with_reducible refine Gr.trans ?_ (by with_reducible assumption)))⟩
  | false =>
    have hP := hX.small hb
    rw [hb] at HBG
    have HF1 := hide (fun (w' : World) (g : Gr w w') => Moves_any p A B c d m w' (hP.gr g))
    have HF2 := hide (fun (w' : World) (g : Gr w w') => rMoves_any p A B c d m w' (hP.gr g))
    have HS1 := hide (fun (w' : World) (g : Gr w w') => Size_any p A B c d n w' (hP.gr g))
    have HS2 := hide (fun (w' : World) (g : Gr w w') => rSize_any p A B c d n w' (hP.gr g))
    have hlen := movL_len (p := p) (m := m) hP.fl.len
    generalize movL p m = ML at *
    generalize movE p m = E at *
    generalize sizV p n = sv at *
    obtain ⟨s1, s2, s3⟩ := sv
    clear hb hX hP
    go_enter Try.func5, Try.ntmps5
    go_wp2_with fail
    refine (HBG.out _ (by repeat (first | with_reducible exact Gr.refl _ | with_reducible assumption | with_reducible refine Gr.alloc ?_ _ | with_reducible refine Gr.drewN ?_ _ | with_reducible refine Gr.drew ?_ | with_reducible refine Gr.setCell ?_ (by first | (dsimp only; omega) | (simp only [World.size_alloc]; omega) | (with_reducible refine Gr.size ?_; (repeat (first | with_reducible exact Gr.refl _ | with_reducible assumption | with_reducible refine Gr.alloc ?_ _ | with_reducible refine Gr.drewN ?_ _ | with_reducible refine Gr.drew ?_ | with_reducible refine Gr.trans ?_ (by with_reducible assumption))); done)) _ | with_reducible refine Gr.trans ?_ (by with_reducible assumption)))).mono ?_
    rintro e w1 ⟨rfl, g1⟩
    obtain ⟨X1, Y1, c1, f1⟩ := g1.use
    have z1 := g1.size
    simp only [World.size_alloc] at z1
    have l1 : w.heap.size < w1.heap.size := by omega
    have gw1 : Gr w w1 := (by repeat (first | with_reducible exact Gr.refl _ | with_reducible assumption | with_reducible refine Gr.alloc ?_ _ | with_reducible refine Gr.drewN ?_ _ | with_reducible refine Gr.drew ?_ | with_reducible refine Gr.setCell ?_ (by first | (dsimp only; omega) | (simp only [World.size_alloc]; omega) | (with_reducible refine Gr.size ?_; (repeat (first | with_reducible exact Gr.refl _ | with_reducible assumption | with_reducible refine Gr.alloc ?_ _ | with_reducible refine Gr.drewN ?_ _ | with_reducible refine Gr.drew ?_ | with_reducible refine Gr.trans ?_ (by with_reducible assumption))); done)) _ | with_reducible refine Gr.trans ?_ (by with_reducible assumption)))
    go_wp2_with fail
    refine (HF1.out _ gw1).mono ?_
    rintro e w2 ⟨v2, rfl, o2, g2⟩
    obtain ⟨A2, d2, rfl⟩ := o2.slice
    have z2 := g2.size
    have l2 : w.heap.size < w2.heap.size := by omega
    have gw2 : Gr w w2 := gw1.trans g2
    obtain ⟨X2, Y2, c2, f2⟩ := g2.use
    have HI1 := hide (slI_own o2 hlen)
    clear o2
    go_wp2_with fail
    refine (HF2.out _ gw2).mono ?_
    rintro e w3 ⟨v3, rfl, o3, g3⟩
    obtain ⟨A3, d3, rfl⟩ := o3.slice
    have z3 := g3.size
    have l3 : w.heap.size < w3.heap.size := by omega
    have gw3 : Gr w w3 := gw2.trans g3
    obtain ⟨X3, Y3, c3, f3⟩ := g3.use
    have HI2 := hide (slI_own o3 hlen)
    clear o3
    go_wp2_with fail
    refine (HS1.out _ gw3).mono ?_
    rintro e w4 ⟨rfl, g4⟩
    have z4 := g4.size
    have l4 : w.heap.size < w4.heap.size := by omega
    have gw4 : Gr w w4 := gw3.trans g4
    obtain ⟨X4, Y4, c4, f4⟩ := g4.use
    go_wp2_with fail
    refine (HS2.out _ gw4).mono ?_
    rintro e w5 ⟨rfl, g5⟩
    have gw5 : Gr w w5 := gw4.trans g5
    have HSI := hide (sameInts_any A2 A3 d2 d3 ML w5 (HI1.out.gr ((g3.trans g4).trans g5)) (HI2.out.gr (g4.trans g5)))
    clear c1 f1 c2 f2 c3 f3 c4 f4
    go_wp2_with fail
    refine HSI.out.mono ?_
    rintro e w6 ⟨rfl, g6⟩
    go_wp2_with (first | (go_at_call 16; refine (known_any _).mono ?_; rintro e w1 ⟨rfl, g1⟩; obtain ⟨X1, Y1, c1, f1⟩ := g1.use))
    go_ret
    exact ⟨rfl, (by repeat (first | with_reducible exact Gr.refl _ | with_reducible assumption | with_reducible refine Gr.alloc ?_ _ | with_reducible refine Gr.drewN ?_ _ | with_reducible refine Gr.drew ?_ | with_reducible refine Gr.setCell ?_ (by first | (dsimp only; omega) | (simp only [World.size_alloc]; omega) | (with_reducible refine Gr.size ?_; (repeat (first | with_reducible exact Gr.refl _ | with_reducible assumption | with_reducible refine Gr.alloc ?_ _ | with_reducible refine Gr.drewN ?_ _ | with_reducible refine Gr.drew ?_ | with_reducible refine Gr.trans ?_ (by with_reducible assumption))); done)) _ | with_reducible refine Gr.trans ?_ (by with_reducible assumption)))⟩
end Go.Proofs.Ytpmomgfepkegnaa
