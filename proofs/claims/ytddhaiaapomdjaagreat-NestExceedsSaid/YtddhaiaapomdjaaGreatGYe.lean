/-
 Nests: lists of sheets and pieces with settings, placements: arguments opened.
 Nests: the area of a list of rectangles, of the reference.
 Nests: the grid of a list of rectangles, of the reference.
 Nests: the area of a list of rectangles, of the reference.
 Nests: what is free on a sheet, of the reference and of the code.
 Nests: what is free on a sheet, of the code.
 Nests: whether pieces have more area than is free, of the code and of the reference.
 Nests: whether pieces have more area than is free, of the reference; the law NestExceeds.
-/
import Derived.Test.YtddhaiaapomdjaaGreatGQe
import Derived.Test.YtddhaiaapomdjaaGreatGJe
import Derived.Test.YtddhaiaapomdjaaGreatGTe
import Derived.Test.YtddhaiaapomdjaaGreatGNe
import Derived.Test.YtddhaiaapomdjaaGreatGXe
import Derived.Test.YtddhaiaapomdjaaGreatGABe
import Derived.Test.YtddhaiaapomdjaaGreatGRe
set_option linter.unusedVariables false
set_option linter.unusedSimpArgs false
namespace Go.Proofs.YtddhaiaapomdjaaGreat
set_option linter.unusedVariables false
set_option linter.unusedSimpArgs false
open Go Go.ChangeShapes Go.WideShapes Go.ChangeAt Go.RowKit Go.Deep

namespace RG
abbrev jbv (A : Option Addr) (n c : Nat) (B : Option Addr) (m d : Nat) (t : St) : Value := .agg #[.slice A n c, .slice B m d, iv t.g, iv t.m, .bool t.c]
theorem c8Shs : Tryz.prog.cellsOf 39 = 1 := by kernel_rfl
theorem c8Pcs : Tryz.prog.cellsOf 40 = 1 := by kernel_rfl
theorem c8Job : Tryz.prog.cellsOf 42 = 5 := by kernel_rfl
section
variable {H : Type} {enc : TypeId × Value → H} {W : World}
theorem o8_shs {n : Nat} {cs : List Value} {x : DataW H × List MemPlace} (h : DataW.trod enc Tryz.prog W 0 (fun _ => true) true n 39 cs = some x) : ∃ (A : Option Addr) (c : Nat) (L : List ShT), cs = [.slice A L.length c] ∧ SlS W A c L := by
 obtain ⟨A, c, l, e, h1, h2, h3, h4⟩ := open_list (c := shL) (Ok := fun y : ShT => ShW W y) Tryz.underlying39 c6Sh (by decide) (fun {n cs x} hx => o6_sh hx) (fun _ => rfl) h
 exact ⟨A, c, l, e, h1, h2, h3, by unfold maxLen at h4; omega⟩
theorem o8_pcs {n : Nat} {cs : List Value} {x : DataW H × List MemPlace} (h : DataW.trod enc Tryz.prog W 0 (fun _ => true) true n 40 cs = some x) : ∃ (A : Option Addr) (c : Nat) (L : List Pc), cs = [.slice A L.length c] ∧ SlP W A c L := by
 obtain ⟨A, c, l, e, h1, h2, h3, h4⟩ := open_list (c := pcL) (Ok := fun y : Pc => PcW W y) Tryz.underlying40 c6Pc (by decide) (fun {n cs x} hx => o6_pc hx) (fun _ => rfl) h
 exact ⟨A, c, l, e, h1, h2, h3, by unfold maxLen at h4; omega⟩
set_option maxRecDepth 100000 in
theorem o8_places {base : Nat} {v : Value} {d : DataW H} {ps : List MemPlace} (hv : Value.okWide Tryz.prog W .any base 43 v) (hd : DataW.Trod enc Tryz.prog W 0 (fun _ => true) true 43 v d ps) :
  ∃ (A : Option Addr) (c : Nat) (l : List At6), v = .slice A l.length c ∧ SlA W A c l := by
 obtain ⟨A, len, cap, rfl⟩ := okWide_slice Tryz.underlying43 hv
 obtain ⟨fuel, h⟩ := hd
 obtain ⟨A', c, l, e, h1, h2, h3, h4⟩ := open_list (c := at6L) (Ok := fun _ : At6 => True) Tryz.underlying43 c6At (by decide) (fun {n cs x} hx => by
  obtain ⟨z, hz⟩ := o6_at hx
  exact ⟨z, hz, trivial⟩) (fun _ => rfl) h
 have e' : Value.slice A len cap = .slice A' l.length c := by simpa [Value.cells] using e
 exact ⟨A', c, l, e', h1, h3, by unfold maxLen at h4; omega⟩
set_option maxRecDepth 100000 in
theorem o8_job {base : Nat} {v : Value} {d : DataW H} {ps : List MemPlace} (hv : Value.okWide Tryz.prog W .any base 42 v) (hd : DataW.Trod enc Tryz.prog W 0 (fun _ => true) true 42 v d ps) :
  ∃ (A : Option Addr) (c : Nat) (S : List ShT) (B : Option Addr) (d : Nat) (Ps : List Pc) (t : St), v = jbv A S.length c B Ps.length d t ∧ SlS W A c S ∧ SlP W B d Ps := by
 obtain ⟨cs, rfl, _⟩ := okWide_struct Tryz.underlying42 hv
 obtain ⟨fuel, h⟩ := hd
 simp only [Value.cells] at h
 obtain ⟨xs, m, _, _, hl, hxl, hg⟩ := DataW.trod_struct Tryz.underlying42 h
 rw [c8Job] at hl
 have hxl : xs.length = 3 := hxl
 have el : ∀ i : Nat, i < 3 → xs[i]? = some (xs[i]?.getD (.nil, [])) := fun i hi => by rw [List.getElem?_eq_getElem (by omega)]; rfl
 have f0 := field_use hg 0 39 0 rfl
 have f1 := field_use hg 1 40 1 rfl
 have f2 := field_use hg 2 29 2 rfl
 rw [c8Shs, el 0 (by omega)] at f0
 rw [c8Pcs, el 1 (by omega)] at f1
 rw [c6Set, el 2 (by omega)] at f2
 obtain ⟨cl⟩ := cs
 simp only at hl f0 f1 f2
 match cl, hl with
 | [k0, k1, k2, k3, k4], _ =>
  obtain ⟨A, c, S, e0, hS⟩ := o8_shs f0
  obtain ⟨B, d, Ps, e1, hP⟩ := o8_pcs f1
  obtain ⟨t, e2⟩ := o6_set f2
  simp at e0 e1 e2
  subst e0 e1
  obtain ⟨rfl, rfl, rfl⟩ := e2
  exact ⟨A, c, S, B, d, Ps, t, rfl, hS, hP⟩
end
end RG
end Go.Proofs.YtddhaiaapomdjaaGreat
set_option linter.unusedVariables false
set_option linter.unusedSimpArgs false
namespace Go.Proofs.YtddhaiaapomdjaaGreat
set_option linter.unusedVariables false
set_option linter.unusedSimpArgs false
open Go Go.ChangeShapes Go.WideShapes Go.ChangeAt Go.RowKit Go.Deep

namespace RG
set_option maxHeartbeats 4000000 in
set_option maxRecDepth 100000 in
theorem covers6_any (A : Option Addr) (c : Nat) (l : List Rc) (x y : Int) (w : World) (hl : SlR w A c l) (hv : ∀ r ∈ l, InM 1048576 r) :
  Calls Tryz.prog 98 #[.slice A l.length c, iv x, iv y] w fun e w' => e = .returned (.bool (cov l x y)) ∧ Gr w w' := by
 have n1 := hl.cap
 have n2 := hl.capB
 have HL := hide hl
 have HV := hide hv
 clear hl hv
 go_enter Tryz.func98, Tryz.ntmps98
 go_wp2
 go_loopw [7] (fun i wr => ∃ k : Nat, k ≤ l.length ∧ i = iv k ∧ Gr w wr ∧ Hid (∀ (j : Nat) (s : Rc), j < k → l[j]? = some s → (!inR s x y) = true)) (fun i _ => l.length - (intOf i).toNat)
 case atStart => exact ⟨0, by omega, rfl, Gr.refl _, hide (fun j r h => absurd h (Nat.not_lt_zero j))⟩
 case round =>
  obtain ⟨k, hk, rfl, g, HS⟩ := hrel
  by_cases hkl : k < l.length
  ·obtain ⟨r, hr⟩ : ∃ r, l[k]? = some r := ⟨_, List.getElem?_eq_getElem hkl⟩
   obtain ⟨b, o, rfl, x0, x1, x2, x3⟩ := (HL.out.gr g).at_ hr
   have HR := hide hr
   have hb := HV.out r (List.mem_of_getElem? hr)
   have m1 := hb.w
   have m2 := hb.h
   have m3 := hb.x
   have m4 := hb.y
   have m5 := hb.x'
   have m6 := hb.y'
   have hk0 : (0 : Int) ≤ (k : Int) := by omega
   have hk1 : (k : Int) < (l.length : Int) := by omega
   have e1 : IntKind.i64.wrap (r.x + r.w) = r.x + r.w := IntWalk.i64_in _ (by omega)
   have e2 : IntKind.i64.wrap (r.y + r.h) = r.y + r.h := IntWalk.i64_in _ (by omega)
   clear hr hb
   have HIR := hide (@inR_iff r x y)
   have key : (decide (r.x ≤ x) = false) ∨ (decide (r.x ≤ x) = true ∧ decide (x < r.x + r.w) = false) ∨ (decide (r.x ≤ x) = true ∧ decide (x < r.x + r.w) = true ∧ decide (r.y ≤ y) = false) ∨ (decide (r.x ≤ x) = true ∧ decide (x < r.x + r.w) = true ∧ decide (r.y ≤ y) = true ∧ decide (y < r.y + r.h) = false) ∨ (decide (r.x ≤ x) = true ∧ decide (x < r.x + r.w) = true ∧ decide (r.y ≤ y) = true ∧ decide (y < r.y + r.h) = true) := by
    simp only [decide_eq_true_eq, decide_eq_false_iff_not]
    omega
   have HS' := hide (fun q => all_more (p := fun s => !inR s x y) HS.out HR.out q)
   have HE := hide (fun q => cov_true_at (x := x) (y := y) HR.out q)
   clear m1 m2 m3 m4 m5 m6
   rcases key with a1 | ⟨a1, a2⟩ | ⟨a1, a2, a3⟩ | ⟨a1, a2, a3, a4⟩ | ⟨a1, a2, a3, a4⟩
   ·have HS2 := hide (HS'.out (by simp only [Bool.not_eq_true', Bool.eq_false_iff]; intro k; have := HIR.out.1 k; simp only [decide_eq_false_iff_not] at a1; omega))
    clear HS' HE HIR
    go_wp2
    go_roundw
    case rel => exact ⟨k + 1, by omega, by go_num, (by with_reducible repeat (first | exact Gr.refl _ | assumption | refine Gr.alloc ?_ _ | refine Gr.drewN ?_ _ | refine Gr.drew ?_ | refine Gr.setCell ?_ (by first | (dsimp only; omega) | (simp only [World.size_alloc]; omega)) _ | refine Gr.trans ?_ (by assumption))), HS2⟩
    case measure => simp only [intOf]; omega
   ·have HS2 := hide (HS'.out (by simp only [Bool.not_eq_true', Bool.eq_false_iff]; intro k; have := HIR.out.1 k; simp only [decide_eq_false_iff_not] at a2; omega))
    clear HS' HE HIR
    go_wp2
    go_roundw
    case rel => exact ⟨k + 1, by omega, by go_num, (by with_reducible repeat (first | exact Gr.refl _ | assumption | refine Gr.alloc ?_ _ | refine Gr.drewN ?_ _ | refine Gr.drew ?_ | refine Gr.setCell ?_ (by first | (dsimp only; omega) | (simp only [World.size_alloc]; omega)) _ | refine Gr.trans ?_ (by assumption))), HS2⟩
    case measure => simp only [intOf]; omega
   ·have HS2 := hide (HS'.out (by simp only [Bool.not_eq_true', Bool.eq_false_iff]; intro k; have := HIR.out.1 k; simp only [decide_eq_false_iff_not] at a3; omega))
    clear HS' HE HIR
    go_wp2
    go_roundw
    case rel => exact ⟨k + 1, by omega, by go_num, (by with_reducible repeat (first | exact Gr.refl _ | assumption | refine Gr.alloc ?_ _ | refine Gr.drewN ?_ _ | refine Gr.drew ?_ | refine Gr.setCell ?_ (by first | (dsimp only; omega) | (simp only [World.size_alloc]; omega)) _ | refine Gr.trans ?_ (by assumption))), HS2⟩
    case measure => simp only [intOf]; omega
   ·have HS2 := hide (HS'.out (by simp only [Bool.not_eq_true', Bool.eq_false_iff]; intro k; have := HIR.out.1 k; simp only [decide_eq_false_iff_not] at a4; omega))
    clear HS' HE HIR
    go_wp2
    go_roundw
    case rel => exact ⟨k + 1, by omega, by go_num, (by with_reducible repeat (first | exact Gr.refl _ | assumption | refine Gr.alloc ?_ _ | refine Gr.drewN ?_ _ | refine Gr.drew ?_ | refine Gr.setCell ?_ (by first | (dsimp only; omega) | (simp only [World.size_alloc]; omega)) _ | refine Gr.trans ?_ (by assumption))), HS2⟩
    case measure => simp only [intOf]; omega
   ·have HE2 := hide (HE.out (HIR.out.2 (by simp only [decide_eq_true_eq] at a1 a2 a3 a4; omega)))
    clear HS' HE HIR
    go_wp2
    go_ret
    exact ⟨ret_bool HE2.out.symm, (by with_reducible repeat (first | exact Gr.refl _ | assumption | refine Gr.alloc ?_ _ | refine Gr.drewN ?_ _ | refine Gr.drew ?_ | refine Gr.setCell ?_ (by first | (dsimp only; omega) | (simp only [World.size_alloc]; omega)) _ | refine Gr.trans ?_ (by assumption)))⟩
  ·obtain rfl : k = l.length := by omega
   have HE := hide (cov_none HS.out)
   go_wp2
   go_ret
   exact ⟨ret_bool HE.out.symm, (by with_reducible repeat (first | exact Gr.refl _ | assumption | refine Gr.alloc ?_ _ | refine Gr.drewN ?_ _ | refine Gr.drew ?_ | refine Gr.setCell ?_ (by first | (dsimp only; omega) | (simp only [World.size_alloc]; omega)) _ | refine Gr.trans ?_ (by assumption)))⟩
end RG
end Go.Proofs.YtddhaiaapomdjaaGreat
set_option linter.unusedVariables false
set_option linter.unusedSimpArgs false
namespace Go.Proofs.YtddhaiaapomdjaaGreat
set_option linter.unusedVariables false
set_option linter.unusedSimpArgs false
open Go Go.ChangeShapes Go.WideShapes Go.ChangeAt Go.RowKit Go.Deep

namespace RG
theorem lnX_snoc6 {l : List Rc} {k : Nat} {r : Rc} (h : l[k]? = some r) : lnX (l.take (k + 1)) = ins (ins (lnX (l.take k)) r.x) (r.x + r.w) := by
 unfold lnX
 rw [take_at h, List.foldl_append]
 rfl
theorem lnY_snoc6 {l : List Rc} {k : Nat} {r : Rc} (h : l[k]? = some r) : lnY (l.take (k + 1)) = ins (ins (lnY (l.take k)) r.y) (r.y + r.h) := by
 unfold lnY
 rw [take_at h, List.foldl_append]
 rfl
theorem lnX_6 (l : List Rc) : Up (lnX l) ∧ (lnX l).length ≤ 2 * l.length := ⟨up_lnX l, len_lnX l⟩
theorem lnY_6 (l : List Rc) : Up (lnY l) ∧ (lnY l).length ≤ 2 * l.length := ⟨up_lnY l, len_lnY l⟩
theorem ins_two {w w' : World} {lo : Nat} {e : TypeId} {A1 A2 D : Option Addr} {n1 d1 n2 d2 : Nat} {X Y : List Int} (hX : OwnL w lo e 1 inL (.slice A1 n1 d1) X) (hY : OwnL w lo e 1 inL (.slice A2 n2 d2) Y) (hd : ∀ b, A1.map Addr.block = some b → A2.map Addr.block = some b → False) (h : InsR (A1.map Addr.block) w w' D) :
  OwnL w' lo e 1 inL (.slice A2 n2 d2) Y ∧ ∀ b, D.map Addr.block = some b → A2.map Addr.block = some b → False := by
 refine ⟨hY.kx h.kx (fun i hi e' => hd i e' ((own_map hY).1 hi)), fun b hb hb' => ?_⟩
 rcases h.fr b hb with c | c
 ·exact hd b c hb'
 ·have := (own_lo hY hb').2
  omega
set_option maxHeartbeats 16000000 in
set_option maxRecDepth 100000 in
theorem grid6_any (A : Option Addr) (c : Nat) (l : List Rc) (w : World) (hl : SlR w A c l) (hv : ∀ r ∈ l, InM 1048576 r) (hn : l.length ≤ 1000) :
  Calls Tryz.prog 97 #[.slice A l.length c] w fun e w' => ∃ (D1 D2 : Option Addr) (d1 d2 : Nat), e = .returned (.tuple #[.slice D1 (lnX l).length d1, .slice D2 (lnY l).length d2]) ∧ SlI w' D1 d1 (lnX l) ∧ SlI w' D2 d2 (lnY l) ∧ Gr w w' := by
 have m1 := hl.cap
 have m2 := hl.capB
 have HL := hide hl
 have HV := hide hv
 clear hl hv
 go_enter Tryz.func97, Tryz.ntmps97
 go_wp2
 go_loopw [4, 5, 6] (fun u v i wr => ∃ (k n1 n2 : Nat) (A1 A2 : Option Addr) (d1 d2 : Nat) (X Y : List Int), k ≤ l.length ∧ i = iv k ∧ u = .slice A1 n1 d1 ∧ v = .slice A2 n2 d2 ∧ Gr w wr ∧ Hid (OwnL wr w.heap.size 3 1 inL (.slice A1 n1 d1) X) ∧ Hid (OwnL wr w.heap.size 3 1 inL (.slice A2 n2 d2) Y) ∧ Hid (X = lnX (l.take k)) ∧ Hid (Y = lnY (l.take k)) ∧ Hid (∀ b, A1.map Addr.block = some b → A2.map Addr.block = some b → False)) (fun _ _ i _ => l.length - (intOf i).toNat)
 case atStart => exact ⟨0, 0, 0, none, none, 0, 0, [], [], by omega, rfl, rfl, rfl, Gr.refl _, hide (own_nil _ _ _ _ _), hide (own_nil _ _ _ _ _), hide rfl, hide rfl, hide nofun⟩
 case round =>
  obtain ⟨k, n1', n2', A1, A2, d1', d2', X, Y, hk, rfl, rfl, rfl, g, HX, HY, HEX, HEY, HDJ⟩ := hrel
  by_cases hkl : k < l.length
  ·obtain ⟨r, hr⟩ : ∃ r, l[k]? = some r := ⟨_, List.getElem?_eq_getElem hkl⟩
   obtain ⟨b1, o1, hA, _⟩ := (HL.out.gr g).at_ hr
   subst hA
   have HR := hide hr
   have hk0 : (0 : Int) ≤ (k : Int) := by omega
   have hk1 : (k : Int) < (l.length : Int) := by omega
   obtain ⟨u1, u2, u3, u4, u5, u6⟩ := HV.out r (List.mem_of_getElem? hr)
   have W1 : IntKind.i64.wrap (r.x + r.w) = r.x + r.w := IntWalk.i64_in _ (by omega)
   have W2 : IntKind.i64.wrap (r.y + r.h) = r.y + r.h := IntWalk.i64_in _ (by omega)
   have HU1 := hide (show Up X by rw [HEX.out]; exact (lnX_6 _).1)
   have HU2 := hide (show Up Y by rw [HEY.out]; exact (lnY_6 _).1)
   have HB1 := hide (show X.length ≤ 2000 by rw [HEX.out]; have := (lnX_6 (l.take k)).2; rw [List.length_take] at this; omega)
   have HB2 := hide (show Y.length ≤ 2000 by rw [HEY.out]; have := (lnY_6 (l.take k)).2; rw [List.length_take] at this; omega)
   have HN1 := hide (show X.length ≤ 100000 by have := HB1.out; omega)
   have HN2 := hide (show Y.length ≤ 100000 by have := HB2.out; omega)
   have HEX2 := hide (show ins (ins X r.x) (r.x + r.w) = lnX (l.take (k + 1)) by rw [lnX_snoc6 hr, HEX.out])
   have HEY2 := hide (show ins (ins Y r.y) (r.y + r.h) = lnY (l.take (k + 1)) by rw [lnY_snoc6 hr, HEY.out])
   clear hr HEX HEY u1 u2 u3 u4 u5 u6
   go_upto_region 5 with fail
   obtain ⟨b', o', hA, x0, x1, x2, x3⟩ := (HL.out.gr g).at_ HR.out
   cases hA
   have hbl : b1 < wr.heap.size := cell_lt (by rw [x0]; rfl)
   go_upto_region 6 with (go_at_call 138; refine (insert6_at (HX.out.gr (by with_reducible repeat (first | exact Gr.refl _ | assumption | refine Gr.alloc ?_ _ | refine Gr.drewN ?_ _ | refine Gr.drew ?_ | refine Gr.setCell ?_ (by first | (dsimp only; omega) | (simp only [World.size_alloc]; omega)) _ | refine Gr.trans ?_ (by assumption)))) (Nat.le_trans (Gr.size g) (Gr.size (show Gr wr _ from (by with_reducible repeat (first | exact Gr.refl _ | assumption | refine Gr.alloc ?_ _ | refine Gr.drewN ?_ _ | refine Gr.drew ?_ | refine Gr.setCell ?_ (by first | (dsimp only; omega) | (simp only [World.size_alloc]; omega)) _ | refine Gr.trans ?_ (by assumption)))))) HU1.out HN1.out).mono ?_; rintro e v1 ⟨D1, N1, e1, rfl, ho6, hi6⟩; (have HO1 := hide ho6); (have HI := hide hi6); clear ho6 hi6)
   have HST := hide (ins_two HX.out HY.out HDJ.out HI.out)
   have g1 : Gr w v1 := HI.out.toGr (fun i hi => (own_lo HX.out hi).1) g (Nat.le_refl _)
   have HP1 := hide HST.out.1
   have HD1 := hide HST.out.2
   clear HST HI x0 x1 x2 x3 hbl
   have HU1b := hide (up_ins HU1.out (n := r.x))
   have HN1b := hide (show (ins X r.x).length ≤ 100000 by have := len_ins X r.x; have := HB1.out; omega)
   go_upto_region 6 with fail
   obtain ⟨b', o', hA, x0, x1, x2, x3⟩ := (HL.out.gr g1).at_ HR.out
   cases hA
   have hbl : b1 < v1.heap.size := cell_lt (by rw [x0]; rfl)
   have GC := @GrW.cell
   refine wp_region_grw_pre 12 (by kernel_rfl) (by kernel_rfl) ?_
   simp only [List.take_succ_cons, List.take_zero]
   repeat (go_big_quiet_step (fail))
   refine wpQuiet_nil ?_
   intro wq hwq
   obtain ⟨gq, hwq'⟩ := hwq
   subst hwq'
   clear GC
   have gq1 := gq.gr
   generalize gq.w = wq at gq1 ⊢
   obtain ⟨Xq, Yq, cq, fq⟩ := gq1.use
   change wpAny _ .any _ _ 2 #[true, true, true, true, true, true, true, true, true, true, true, true, false, false] _ _
   refine wpAny_ready (rs := [12]) (by kernel_rfl) (by simp) ?_
   refine AllReady.cons rfl (fun K hK => ?_) AllReady.nil
   go_simp
   go_wp2_with (go_at_call 138; refine (insert6_at (HO1.out.gr (by with_reducible repeat (first | exact Gr.refl _ | assumption | refine Gr.alloc ?_ _ | refine Gr.drewN ?_ _ | refine Gr.drew ?_ | refine Gr.setCell ?_ (by first | (dsimp only; omega) | (simp only [World.size_alloc]; omega)) _ | refine Gr.trans ?_ (by assumption)))) (Nat.le_trans (Gr.size g1) (Gr.size (show Gr v1 _ from (by with_reducible repeat (first | exact Gr.refl _ | assumption | refine Gr.alloc ?_ _ | refine Gr.drewN ?_ _ | refine Gr.drew ?_ | refine Gr.setCell ?_ (by first | (dsimp only; omega) | (simp only [World.size_alloc]; omega)) _ | refine Gr.trans ?_ (by assumption)))))) HU1b.out HN1b.out).mono ?_; rintro e v2 ⟨D2, N2, e2, rfl, ho6, hi6⟩; (have HO2 := hide ho6); (have HI := hide hi6); clear ho6 hi6)
   (try (refine hK _ _ ?_; clear hK K))
   refine wpAny_ready (rs := [13]) (by kernel_rfl) (by simp) ?_
   refine AllReady.cons rfl (fun K hK => ?_) AllReady.nil
   go_simp
   refine hK _ _ ?_
   clear hK K
   refine wpAny_done (by kernel_rfl) ?_ _
   have HST := hide (ins_two (HO1.out.gr gq1) (HP1.out.gr gq1) HD1.out HI.out)
   have g2 : Gr w v2 := HI.out.toGr (fun i hi => (own_lo (HO1.out.gr gq1) hi).1) (g1.trans gq1) (Nat.le_refl _)
   clear cq fq Xq Yq gq1
   have HP2 := hide HST.out.1
   have HD2 := hide HST.out.2
   clear HST HI x0 x1 x2 x3 hbl
   have HDS := hide (fun (b : Nat) (h : A2.map Addr.block = some b) (h' : D2.map Addr.block = some b) => HD2.out b h' h)
   go_upto_region 7 with fail
   obtain ⟨b', o', hA, x0, x1, x2, x3⟩ := (HL.out.gr g2).at_ HR.out
   cases hA
   have hbl : b1 < v2.heap.size := cell_lt (by rw [x0]; rfl)
   go_upto_region 8 with (go_at_call 138; refine (insert6_at (HP2.out.gr (by with_reducible repeat (first | exact Gr.refl _ | assumption | refine Gr.alloc ?_ _ | refine Gr.drewN ?_ _ | refine Gr.drew ?_ | refine Gr.setCell ?_ (by first | (dsimp only; omega) | (simp only [World.size_alloc]; omega)) _ | refine Gr.trans ?_ (by assumption)))) (Nat.le_trans (Gr.size g2) (Gr.size (show Gr v2 _ from (by with_reducible repeat (first | exact Gr.refl _ | assumption | refine Gr.alloc ?_ _ | refine Gr.drewN ?_ _ | refine Gr.drew ?_ | refine Gr.setCell ?_ (by first | (dsimp only; omega) | (simp only [World.size_alloc]; omega)) _ | refine Gr.trans ?_ (by assumption)))))) HU2.out HN2.out).mono ?_; rintro e v3 ⟨D3, N3, e3, rfl, ho6, hi6⟩; (have HO3 := hide ho6); (have HI := hide hi6); clear ho6 hi6)
   have HST := hide (ins_two HP2.out HO2.out HDS.out HI.out)
   have g3 : Gr w v3 := HI.out.toGr (fun i hi => (own_lo HP2.out hi).1) g2 (Nat.le_refl _)
   have HP3 := hide HST.out.1
   have HD3 := hide HST.out.2
   clear HST HI x0 x1 x2 x3 hbl
   have HU2b := hide (up_ins HU2.out (n := r.y))
   have HN2b := hide (show (ins Y r.y).length ≤ 100000 by have := len_ins Y r.y; have := HB2.out; omega)
   go_upto_region 8 with fail
   obtain ⟨b', o', hA, x0, x1, x2, x3⟩ := (HL.out.gr g3).at_ HR.out
   cases hA
   have hbl : b1 < v3.heap.size := cell_lt (by rw [x0]; rfl)
   have GC := @GrW.cell
   refine wp_region_grw_pre 12 (by kernel_rfl) (by kernel_rfl) ?_
   simp only [List.take_succ_cons, List.take_zero]
   repeat (go_big_quiet_step (fail))
   refine wpQuiet_nil ?_
   intro wq hwq
   obtain ⟨gq, hwq'⟩ := hwq
   subst hwq'
   clear GC
   have gq1 := gq.gr
   generalize gq.w = wq at gq1 ⊢
   obtain ⟨Xq, Yq, cq, fq⟩ := gq1.use
   change wpAny _ .any _ _ 2 #[true, true, true, true, true, true, true, true, true, true, true, true, false, false] _ _
   refine wpAny_ready (rs := [12]) (by kernel_rfl) (by simp) ?_
   refine AllReady.cons rfl (fun K hK => ?_) AllReady.nil
   go_simp
   go_wp2_with (go_at_call 138; refine (insert6_at (HO3.out.gr (by with_reducible repeat (first | exact Gr.refl _ | assumption | refine Gr.alloc ?_ _ | refine Gr.drewN ?_ _ | refine Gr.drew ?_ | refine Gr.setCell ?_ (by first | (dsimp only; omega) | (simp only [World.size_alloc]; omega)) _ | refine Gr.trans ?_ (by assumption)))) (Nat.le_trans (Gr.size g3) (Gr.size (show Gr v3 _ from (by with_reducible repeat (first | exact Gr.refl _ | assumption | refine Gr.alloc ?_ _ | refine Gr.drewN ?_ _ | refine Gr.drew ?_ | refine Gr.setCell ?_ (by first | (dsimp only; omega) | (simp only [World.size_alloc]; omega)) _ | refine Gr.trans ?_ (by assumption)))))) HU2b.out HN2b.out).mono ?_; rintro e v4 ⟨D4, N4, e4, rfl, ho6, hi6⟩; (have HO4 := hide ho6); (have HI := hide hi6); clear ho6 hi6)
   (try (refine hK _ _ ?_; clear hK K))
   refine wpAny_ready (rs := [13]) (by kernel_rfl) (by simp) ?_
   refine AllReady.cons rfl (fun K hK => ?_) AllReady.nil
   go_simp
   refine hK _ _ ?_
   clear hK K
   refine wpAny_done (by kernel_rfl) ?_ _
   have HST := hide (ins_two (HO3.out.gr gq1) (HP3.out.gr gq1) HD3.out HI.out)
   have g4 : Gr w v4 := HI.out.toGr (fun i hi => (own_lo (HO3.out.gr gq1) hi).1) (g3.trans gq1) (Nat.le_refl _)
   clear cq fq Xq Yq gq1
   have HP4 := hide HST.out.1
   have HD4 := hide HST.out.2
   clear HST HI x0 x1 x2 x3 hbl
   go_wp2
   go_roundw
   case rel => exact ⟨k + 1, N2, N4, D2, D4, e2, e4, _, _, by omega, by go_num, rfl, rfl, g4, HP4, HO4, HEX2, HEY2, hide (fun b h h' => HD4.out b h' h)⟩
   case measure => simp only [intOf]; omega
  ·obtain rfl : k = l.length := by omega
   obtain rfl := own_n HX.out
   obtain rfl := own_n HY.out
   have HEX2 := hide (show X = lnX l by rw [HEX.out, List.take_length])
   have HEY2 := hide (show Y = lnY l by rw [HEY.out, List.take_length])
   have HSX := hide (show SlI wr A1 d1' (lnX l) from by rw [← HEX2.out]; exact own_sli HX.out)
   have HSY := hide (show SlI wr A2 d2' (lnY l) from by rw [← HEY2.out]; exact own_sli HY.out)
   clear HEX HEY HX HY
   go_wp2
   go_ret2
   exact ⟨A1, A2, d1', d2', by rw [← HEX2.out, ← HEY2.out]; rfl, HSX.out, HSY.out, g⟩
end RG
end Go.Proofs.YtddhaiaapomdjaaGreat
set_option linter.unusedVariables false
set_option linter.unusedSimpArgs false
namespace Go.Proofs.YtddhaiaapomdjaaGreat
set_option linter.unusedVariables false
set_option linter.unusedSimpArgs false
open Go Go.ChangeShapes Go.WideShapes Go.ChangeAt Go.RowKit Go.Deep

namespace RG
set_option maxHeartbeats 16000000 in
set_option maxRecDepth 100000 in
theorem area6_any (A : Option Addr) (c : Nat) (l : List Rc) (w : World) (hl : SlR w A c l) (hv : ∀ r ∈ l, InM 1048576 r) (hn : l.length ≤ 1000) :
  Calls Tryz.prog 57 #[.slice A l.length c] w fun e w' => e = .returned (iv (areaV l)) ∧ Gr w w' := by
 have HGD := hide (fun (w' : World) (g : Gr w w') => grid6_any A c l w' (hl.gr g) hv hn)
 have HCV := hide (fun (x y : Int) (w' : World) (g : Gr w w') => covers6_any A c l x y w' (hl.gr g) hv)
 have HXB := hide (len_lnX l)
 have HYB := hide (len_lnY l)
 have HE := hide (show areaV l = sumX (lnX l) (lnY l) (cel (lnX l) (lnY l) l) ((lnX l).length - 1) from rfl)
 have HCL := hide (fun (i j : Nat) (x y : Int) (hx : (lnX l)[i]? = some x) (hy : (lnY l)[j]? = some y) => show cel (lnX l) (lnY l) l i j = cov l x y by unfold cel; rw [hx, hy]; rfl)
 have n1 := hl.cap
 have n2 := hl.capB
 clear hl hv
 obtain ⟨CC, hCC⟩ : ∃ CC, cel (lnX l) (lnY l) l = CC := ⟨_, rfl⟩
 rw [hCC] at HE HCL
 generalize lnX l = X at *
 generalize lnY l = Y at *
 clear hCC
 go_enter Tryz.func57, Tryz.ntmps57
 go_wp2_with fail
 refine (HGD.out _ (Gr.refl _)).mono ?_
 rintro e w1 ⟨D1, D2, d1, d2, rfl, hx1, hy1, g1⟩
 have HX := hide hx1
 have HY := hide hy1
 have p1 := hx1.cap
 have p2 := hx1.capB
 have p3 := hy1.cap
 have p4 := hy1.capB
 have hXB : X.length ≤ 2000 := by have := HXB.out; omega
 have hYB : Y.length ≤ 2000 := by have := HYB.out; omega
 clear hx1 hy1 HGD HXB HYB
 go_wp2_with fail
 go_loopw [5, 6] (fun s i wr => ∃ k : Nat, k ≤ X.length - 1 ∧ i = iv k ∧ s = iv (sumX X Y CC k) ∧ Gr w1 wr) (fun _ i _ => X.length - (intOf i).toNat)
 case atStart => exact ⟨0, by omega, rfl, rfl, Gr.refl _⟩
 case round =>
  obtain ⟨k, hk, rfl, rfl, g2⟩ := hrel
  have W1 : IntKind.i64.wrap ((k : Int) + 1) = (k : Int) + 1 := IntWalk.i64_in _ (by omega)
  by_cases hkl : k + 1 < X.length
  ·have hk1 : decide ((k : Int) + 1 < (X.length : Int)) = true := decide_eq_true (by omega)
   obtain ⟨x, hx⟩ : ∃ x, X[k]? = some x := ⟨_, List.getElem?_eq_getElem (by omega)⟩
   obtain ⟨x', hx'⟩ : ∃ x, X[k + 1]? = some x := ⟨_, List.getElem?_eq_getElem (by omega)⟩
   have HXI := hide hx
   have HXI' := hide hx'
   have HSX := hide (show sumX X Y CC (k + 1) = sumY X Y CC k (sumX X Y CC k) (Y.length - 1) from rfl)
   generalize sumX X Y CC k = SX at *
   clear hx hx'
   go_wp2_with fail
   obtain ⟨w2, rfl⟩ : ∃ z, z = wr := ⟨_, rfl⟩
   go_loopw [5, 7] (fun s j wr => ∃ q : Nat, q ≤ Y.length - 1 ∧ j = iv q ∧ s = iv (sumY X Y CC k SX q) ∧ Gr w1 wr) (fun _ j _ => Y.length - (intOf j).toNat)
   case atStart => exact ⟨0, by omega, rfl, rfl, g2⟩
   case round =>
    obtain ⟨q, hq, rfl, rfl, g3⟩ := hrel
    have W2 : IntKind.i64.wrap ((q : Int) + 1) = (q : Int) + 1 := IntWalk.i64_in _ (by omega)
    by_cases hql : q + 1 < Y.length
    ·have hq1 : decide ((q : Int) + 1 < (Y.length : Int)) = true := decide_eq_true (by omega)
     obtain ⟨y, hy⟩ : ∃ y, Y[q]? = some y := ⟨_, List.getElem?_eq_getElem (by omega)⟩
     obtain ⟨y', hy'⟩ : ∃ y, Y[q + 1]? = some y := ⟨_, List.getElem?_eq_getElem (by omega)⟩
     obtain ⟨b1, o1, hD1, x0⟩ := (HX.out.gr g3).rd.in_ HXI.out
     obtain ⟨b1', o1', hD1', x1⟩ := (HX.out.gr g3).rd.in_ HXI'.out
     subst hD1
     cases hD1'
     obtain ⟨b2, o2, hD2, y0⟩ := (HY.out.gr g3).rd.in_ hy
     obtain ⟨b2', o2', hD2', y1⟩ := (HY.out.gr g3).rd.in_ hy'
     subst hD2
     cases hD2'
     have hb1 : b1 < wr.heap.size := cell_lt (by rw [x0]; rfl)
     have hb2 : b2 < wr.heap.size := cell_lt (by rw [y0]; rfl)
     have hk0 : (0 : Int) ≤ (k : Int) := by omega
     have hk2 : (k : Int) < (X.length : Int) := by omega
     have hk3 : (0 : Int) ≤ (k : Int) + 1 := by omega
     have hk4 : (k : Int) + 1 < (X.length : Int) := by omega
     have hq0 : (0 : Int) ≤ (q : Int) := by omega
     have hq2 : (q : Int) < (Y.length : Int) := by omega
     have hq3 : (0 : Int) ≤ (q : Int) + 1 := by omega
     have hq4 : (q : Int) + 1 < (Y.length : Int) := by omega
     have HC := hide (fun (w' : World) (g : Gr wr w') => HCV.out x y w' ((‹Gr w w1›.trans g3).trans g))
     rw [← HCL.out k q x y HXI.out hy] at HC
     have HSY := hide (show sumY X Y CC k SX (q + 1) = if CC k q then wrap64 (sumY X Y CC k SX q + wrap64 (wrap64 (x' - x) * wrap64 (y' - y))) else sumY X Y CC k SX q by rw [sumY, HXI.out, HXI'.out, hy, hy']; rfl)
     generalize sumY X Y CC k SX q = SY at *
     clear hy hy'
     go_upto_region 9 with fail
     have GC := @GrW.cell
     refine wp_region_grw _ (by kernel_rfl) (by kernel_rfl) (Gr.refl _) ?_
     repeat (go_big_quiet_step ((first | (go_at_call 98; exact quiet_grw (HC.out _ (GrW.gr _))))))
     refine wpQuiet_nil ?_
     intro wq hwq
     obtain ⟨gq, hwq'⟩ := hwq
     subst hwq'
     clear GC
     have gq1 := gq.gr
     generalize gq.w = wq at gq1 ⊢
     obtain ⟨Xq, Yq, cq, fq⟩ := gq1.use
     have sq := gq1.size
     (try simp only [World.size_alloc, World.size_setCell, World.heap_drewN] at sq)
     obtain ⟨w3, rfl⟩ : ∃ z, z = wq := ⟨_, rfl⟩
     have gq2 : Gr wr w3 := gq1
     have z0 := (gq2.cell _ _ hb1).trans x0
     have z1 := (gq2.cell _ _ hb1).trans x1
     have z2 := (gq2.cell _ _ hb2).trans y0
     have z3 := (gq2.cell _ _ hb2).trans y1
     have hb1' := Nat.lt_of_lt_of_le hb1 gq2.size
     have hb2' := Nat.lt_of_lt_of_le hb2 gq2.size
     have g4 : Gr w1 w3 := g3.trans gq2
     clear cq fq Xq Yq sq gq gq1 x0 x1 y0 y1 hb1 hb2 HC
     cases hcc : CC k q with
     | false =>
      have HSY2 := hide (show sumY X Y CC k SX (q + 1) = SY by rw [HSY.out, hcc]; rfl)
      clear HSY hcc
      go_wp2_with fail
      go_roundw
      case rel => exact ⟨q + 1, by omega, by go_num, by rw [HSY2.out], g4⟩
      case measure => simp only [intOf]; omega
     | true =>
      have HSY2 := hide (show sumY X Y CC k SX (q + 1) = wrap64 (SY + wrap64 (wrap64 (x' - x) * wrap64 (y' - y))) by rw [HSY.out, hcc]; rfl)
      clear HSY hcc
      go_upto_region 10 with fail
      have GC := @GrW.cell
      refine wp_region_grw _ (by kernel_rfl) (by kernel_rfl) (Gr.refl _) ?_
      repeat (go_big_quiet_step ((first | fail)))
      refine wpQuiet_nil ?_
      intro wq hwq
      obtain ⟨gq, hwq'⟩ := hwq
      subst hwq'
      clear GC
      have gq1 := gq.gr
      generalize gq.w = wq at gq1 ⊢
      obtain ⟨Xq, Yq, cq, fq⟩ := gq1.use
      have sq := gq1.size
      (try simp only [World.size_alloc, World.size_setCell, World.heap_drewN] at sq)
      go_wp2_with fail
      go_roundw
      case rel => exact ⟨q + 1, by omega, by go_num, by rw [HSY2.out], g4.trans gq1⟩
      case measure => simp only [intOf]; omega
    ·have hq1 : decide ((q : Int) + 1 < (Y.length : Int)) = false := decide_eq_false (by omega)
     obtain rfl : q = Y.length - 1 := by omega
     go_wp2_with fail
     go_roundw
     case rel => exact ⟨k + 1, by omega, by go_num, by rw [HSX.out], g3⟩
     case measure => simp only [intOf]; omega
  ·have hk1 : decide ((k : Int) + 1 < (X.length : Int)) = false := decide_eq_false (by omega)
   have hke : k = X.length - 1 := by omega
   have HF := hide (show areaV l = sumX X Y CC k by rw [HE.out, hke])
   clear hke
   go_wp2_with fail
   go_ret
   exact ⟨ret_iv HF.out.symm, (by with_reducible repeat (first | exact Gr.refl _ | assumption | refine Gr.alloc ?_ _ | refine Gr.drewN ?_ _ | refine Gr.drew ?_ | refine Gr.setCell ?_ (by first | (dsimp only; omega) | (simp only [World.size_alloc]; omega)) _ | refine Gr.trans ?_ (by assumption)))⟩
end RG
end Go.Proofs.YtddhaiaapomdjaaGreat
set_option linter.unusedVariables false
set_option linter.unusedSimpArgs false
namespace Go.Proofs.YtddhaiaapomdjaaGreat
set_option linter.unusedVariables false
set_option linter.unusedSimpArgs false
open Go Go.ChangeShapes Go.WideShapes Go.ChangeAt Go.RowKit Go.Deep

namespace RG
theorem ar_nn (M : Nat) (l : List Rc) : 0 ≤ ar M l := by
 rw [← s2_zero M]
 unfold ar
 refine s2_le fun x y => ?_
 unfold ib
 split <;> omega
theorem whole_in {s : ShT} (hS : ShG s) : InM 1048576 ⟨0, 0, s.wd, s.ht⟩ := by
 have hw := hS.wd
 have hh := hS.ht
 exact ⟨by dsimp only; omega, by dsimp only; omega, by dsimp only; omega, by dsimp only; omega, by dsimp only; omega, by dsimp only; omega⟩
theorem fr_bd {s : ShT} (h0 : vsE s = 0) : 0 ≤ ar 1048576 (s.cl ++ s.us) ∧ ar 1048576 (s.cl ++ s.us) ≤ s.wd * s.ht := by
 refine ⟨ar_nn _ _, ar_in_le (s := ⟨0, 0, s.wd, s.ht⟩) (whole_in (vsE_good h0)) fun r hr => ?_⟩
 have := vsE_in h0 r hr
 dsimp only
 omega
theorem wh_bd {s : ShT} (hS : ShG s) : 0 ≤ s.wd * s.ht ∧ s.wd * s.ht ≤ 1099511627776 := by
 obtain ⟨a1, a2⟩ := hS.wd
 obtain ⟨b1, b2⟩ := hS.ht
 exact ⟨Int.mul_nonneg (by omega) (by omega), Int.le_trans (Int.mul_le_mul a2 b2 (by omega) (by omega)) (by decide)⟩
set_option maxHeartbeats 16000000 in
set_option maxRecDepth 100000 in
theorem free6_any (s : ShT) (w : World) (hs : ShW w s) (h0 : vsE s = 0) :
  Calls Tryz.prog 41 #[s.v] w fun e w' => e = .returned (iv (frV s)) ∧ Gr w w' := by
 have hS := vsE_good h0
 have vI : ∀ r ∈ s.cl ++ s.us, InM 1048576 r := fun r hr => vrR_iff.1 (hS.v r hr)
 have hn := hS.n
 have HAR := hide (fun (D : Option Addr) (q : Nat) (w' : World) (h : SlR w' D q (s.cl ++ s.us)) => area6_any D q (s.cl ++ s.us) w' h vI (by omega))
 rw [areaV_eq vI] at HAR
 obtain ⟨f1, f2⟩ := fr_bd h0
 obtain ⟨f3, f4⟩ := wh_bd hS
 have HF := hide (show frV s = s.wd * s.ht - ar 1048576 (s.cl ++ s.us) from rfl)
 have W1 : IntKind.i64.wrap (s.wd * s.ht) = s.wd * s.ht := IntWalk.i64_in _ (by omega)
 have W2 : IntKind.i64.wrap (s.wd * s.ht - ar 1048576 (s.cl ++ s.us)) = frV s := IntWalk.i64_in _ (by omega)
 have HSC := hide hs.c
 have HSU := hide hs.u
 have n1 := hs.c.cap
 have n2 := hs.c.capB
 have n3 := hs.u.cap
 have n4 := hs.u.capB
 have hcl : s.cl.length + s.us.length ≤ 52 := by rw [← List.length_append]; exact hn
 generalize ar 1048576 (s.cl ++ s.us) = AV at *
 generalize frV s = FV at *
 obtain ⟨H, hH⟩ : ∃ H, s.cl ++ s.us = H := ⟨_, rfl⟩
 rw [hH] at HAR
 have HHC := hide hH
 have HHL := hide (show H.length = s.cl.length + s.us.length by rw [← hH, List.length_append])
 obtain ⟨nm, mt, ga, gr, wd, ht, cA, cc, cl, uA, uc, us⟩ := s
 dsimp only at HSC HSU n1 n2 n3 n4 hcl HHC HHL W1 W2
 clear hs h0 hS vI hn HF f1 f2 f3 f4 hH
 obtain ⟨WH, hWH⟩ : ∃ WH, wd * ht = WH := ⟨_, rfl⟩
 rw [hWH] at W2
 have W1' : IntKind.i64.wrap (wd * ht) = WH := by rw [W1, hWH]
 clear W1 hWH
 go_enter Tryz.func41, Tryz.ntmps41
 go_upto_region 1 with fail
 obtain ⟨w5, hw5⟩ : ∃ W, w.alloc (.cells #[.string nm, .string mt, iv ga, iv gr, iv wd, iv ht, .slice cA cl.length cc, .slice uA us.length uc] 24) = W := ⟨_, rfl⟩
 have HM := hide (show Made w5 w.heap.size #[.string nm, .string mt, iv ga, iv gr, iv wd, iv ht, .slice cA cl.length cc, .slice uA us.length uc] from by rw [← hw5]; exact Made.new _ _ _)
 have gw5 : Gr w w5 := by rw [← hw5]; exact Gr.alloc (Gr.refl _) _
 rw [hw5]
 clear hw5
 generalize w.heap.size = b1 at HM ⊢
 obtain ⟨l7, y0, _⟩ := HM.out
 have a3 := y0 4
 have a4 := y0 5
 have a5 := y0 6
 have a6 := y0 7
 clear y0
 have HOL := hide (fun (w' : World) (g' : Gr (w5.alloc (.cells #[] 70)) w') => (own_lit (c := rcL) (k := 4) w5 w5.heap.size 70 #[] [] (Nat.le_refl _) (fun _ => rfl) rfl (by decide)).gr g')
 have SC1 := hide (fun (w' : World) (g' : Gr w5 w') => HSC.out.gr (gw5.trans g'))
 have SC2 := hide (fun (w' : World) (g' : Gr w5 w') => HSU.out.gr (gw5.trans g'))
 go_region_held3 (fun w' => (w'.cell? ⟨b1, 4, none⟩ = some (iv wd) ∧ w'.cell? ⟨b1, 5, none⟩ = some (iv ht) ∧ w'.cell? ⟨b1, 6, none⟩ = some (.slice cA cl.length cc) ∧ w'.cell? ⟨b1, 7, none⟩ = some (.slice uA us.length uc)) ∧ b1 < w'.heap.size) (first | exact ⟨⟨a3, a4, a5, a6⟩, l7⟩ | exact ⟨⟨s3, s4, s5, s6⟩, s0⟩ | exact ⟨⟨t3, t4, t5, t6⟩, t0⟩ | exact ⟨⟨u3, u4, u5, u6⟩, u0⟩ | (refine ⟨⟨?_, ?_, ?_, ?_⟩, ?_⟩ <;> first | (simp [go_sem, *]; done) | (simp only [World.size_alloc, World.size_drew, World.heap_drewN]; omega)))
  (first
   | (refine step_app6 (by rfl) _ _ _ (by rfl) elRect w5.heap.size [] cl cl (by rfl) _ (by rfl) (HOL.out _ (by with_reducible repeat (first | exact Gr.refl _ | assumption | refine Gr.alloc ?_ _ | refine Gr.drewN ?_ _ | refine Gr.drew ?_ | refine Gr.setCell ?_ (by first | (dsimp only; omega) | (simp only [World.size_alloc]; omega)) _ | refine Gr.trans ?_ (by assumption)))) cA cc (by rfl) (SC1.out _ (by with_reducible repeat (first | exact Gr.refl _ | assumption | refine Gr.alloc ?_ _ | refine Gr.drewN ?_ _ | refine Gr.drew ?_ | refine Gr.setCell ?_ (by first | (dsimp only; omega) | (simp only [World.size_alloc]; omega)) _ | refine Gr.trans ?_ (by assumption)))) (by simp only [List.length_nil]; omega) (Gr.size (by with_reducible repeat (first | exact Gr.refl _ | assumption | refine Gr.alloc ?_ _ | refine Gr.drewN ?_ _ | refine Gr.drew ?_ | refine Gr.setCell ?_ (by first | (dsimp only; omega) | (simp only [World.size_alloc]; omega)) _ | refine Gr.trans ?_ (by assumption)))) ?_; intro D1' d1' w10 hO10 hg10; (have g10 : Gr w5 w10 := Gr.grown (show Gr w5 _ from (by with_reducible repeat (first | exact Gr.refl _ | assumption | refine Gr.alloc ?_ _ | refine Gr.drewN ?_ _ | refine Gr.drew ?_ | refine Gr.setCell ?_ (by first | (dsimp only; omega) | (simp only [World.size_alloc]; omega)) _ | refine Gr.trans ?_ (by assumption)))) hg10 (fun k hk => (OwnL.lt (HOL.out _ (Gr.refl _)) k hk).1)); (obtain ⟨s3, s0⟩ := c_far a3 l7 (by with_reducible repeat (first | exact Gr.refl _ | assumption | refine Gr.alloc ?_ _ | refine Gr.drewN ?_ _ | refine Gr.drew ?_ | refine Gr.setCell ?_ (by first | (dsimp only; omega) | (simp only [World.size_alloc]; omega)) _ | refine Gr.trans ?_ (by assumption))) hg10 (fun e => by have := (OwnL.lt (HOL.out _ (Gr.refl _)) b1 e.symm).1; omega)); (obtain ⟨s4, _⟩ := c_far a4 l7 (by with_reducible repeat (first | exact Gr.refl _ | assumption | refine Gr.alloc ?_ _ | refine Gr.drewN ?_ _ | refine Gr.drew ?_ | refine Gr.setCell ?_ (by first | (dsimp only; omega) | (simp only [World.size_alloc]; omega)) _ | refine Gr.trans ?_ (by assumption))) hg10 (fun e => by have := (OwnL.lt (HOL.out _ (Gr.refl _)) b1 e.symm).1; omega)); (obtain ⟨s5, _⟩ := c_far a5 l7 (by with_reducible repeat (first | exact Gr.refl _ | assumption | refine Gr.alloc ?_ _ | refine Gr.drewN ?_ _ | refine Gr.drew ?_ | refine Gr.setCell ?_ (by first | (dsimp only; omega) | (simp only [World.size_alloc]; omega)) _ | refine Gr.trans ?_ (by assumption))) hg10 (fun e => by have := (OwnL.lt (HOL.out _ (Gr.refl _)) b1 e.symm).1; omega)); (obtain ⟨s6, _⟩ := c_far a6 l7 (by with_reducible repeat (first | exact Gr.refl _ | assumption | refine Gr.alloc ?_ _ | refine Gr.drewN ?_ _ | refine Gr.drew ?_ | refine Gr.setCell ?_ (by first | (dsimp only; omega) | (simp only [World.size_alloc]; omega)) _ | refine Gr.trans ?_ (by assumption))) hg10 (fun e => by have := (OwnL.lt (HOL.out _ (Gr.refl _)) b1 e.symm).1; omega)))
   | (refine step_app6 (by rfl) _ _ _ (by rfl) elRect w5.heap.size cl us H HHC.out _ (by rfl) hO10 uA uc (by rfl) (SC2.out _ g10) (by omega) g10.size ?_; intro D2' d2' w11 hO11 hg11; (have g11 : Gr w5 w11 := Gr.grown g10 hg11 (fun k hk => (OwnL.lt hO10 k hk).1)); (have HSL := hide (own_slr hO11)); (obtain ⟨t3, t0⟩ := c_far s3 s0 (Gr.refl _) hg11 (fun e => by have := (OwnL.lt hO10 b1 e.symm).1; omega)); (obtain ⟨t4, _⟩ := c_far s4 s0 (Gr.refl _) hg11 (fun e => by have := (OwnL.lt hO10 b1 e.symm).1; omega)); (obtain ⟨t5, _⟩ := c_far s5 s0 (Gr.refl _) hg11 (fun e => by have := (OwnL.lt hO10 b1 e.symm).1; omega)); (obtain ⟨t6, _⟩ := c_far s6 s0 (Gr.refl _) hg11 (fun e => by have := (OwnL.lt hO10 b1 e.symm).1; omega)))
   | (go_at_call 57; refine (HAR.out D2' d2' _ (HSL.out.gr (by with_reducible repeat (first | exact Gr.refl _ | assumption | refine Gr.alloc ?_ _ | refine Gr.drewN ?_ _ | refine Gr.drew ?_ | refine Gr.setCell ?_ (by first | (dsimp only; omega) | (simp only [World.size_alloc]; omega)) _ | refine Gr.trans ?_ (by assumption))))).mono ?_; rintro e w12 ⟨rfl, g12⟩; (have g512 : Gr w5 w12 := g11.trans (by with_reducible repeat (first | exact Gr.refl _ | assumption | refine Gr.alloc ?_ _ | refine Gr.drewN ?_ _ | refine Gr.drew ?_ | refine Gr.setCell ?_ (by first | (dsimp only; omega) | (simp only [World.size_alloc]; omega)) _ | refine Gr.trans ?_ (by assumption)))); (have u3 := (g512.cell _ _ l7).trans a3); (have u4 := (g512.cell _ _ l7).trans a4); (have u5 := (g512.cell _ _ l7).trans a5); (have u6 := (g512.cell _ _ l7).trans a6); (have u0 := Nat.lt_of_lt_of_le l7 g512.size)))
 all_goals
  have gwf : Gr w w12 := gw5.trans g512
  go_wp2_with fail
  go_ret
  exact ⟨rfl, by first | exact gwf | exact gwf.trans (by with_reducible repeat (first | exact Gr.refl _ | assumption | refine Gr.alloc ?_ _ | refine Gr.drewN ?_ _ | refine Gr.drew ?_ | refine Gr.setCell ?_ (by first | (dsimp only; omega) | (simp only [World.size_alloc]; omega)) _ | refine Gr.trans ?_ (by assumption)))⟩
end RG
end Go.Proofs.YtddhaiaapomdjaaGreat
set_option linter.unusedVariables false
set_option linter.unusedSimpArgs false
namespace Go.Proofs.YtddhaiaapomdjaaGreat
set_option linter.unusedVariables false
set_option linter.unusedSimpArgs false
open Go Go.ChangeShapes Go.WideShapes Go.ChangeAt Go.RowKit Go.Deep

namespace RG
theorem vsE_len {s : ShT} (h : vsE s = 0) : s.cl.length ≤ 4 ∧ s.us.length ≤ 48 := by
 have h0 : stE s.nm s.mt s.ga s.gr = 0 := Classical.byContradiction fun k => by
  rw [vs_st k] at h
  exact k h
 rw [vs_go h0] at h
 split at h
 ·split at h
  ·exact absurd h (by decide)
  ·omega
 ·exact absurd h (by decide)
theorem slb_none (w : World) : SlB w none 0 [] := ⟨fun i x hx => by simp at hx, by simp, by omega⟩
theorem slr_new (w w' : World) (r : Rc) (t : TypeId) (g : Gr (w.alloc (.cells #[iv r.x, iv r.y, iv r.w, iv r.h] t)) w') : SlR w' (some ⟨w.heap.size, 0, none⟩) 1 [r] := by
 refine ⟨fun i x hx => ?_, by simp, by omega⟩
 cases i with
 | zero =>
  obtain rfl : r = x := by simpa using hx
  obtain ⟨_, h, _⟩ := (Made.new w #[iv r.x, iv r.y, iv r.w, iv r.h] t).gr g
  exact ⟨w.heap.size, 0, rfl, h 0, h 1, h 2, h 3, trivial⟩
 | succ i => simp at hx
theorem chE_two {a b : List Rc} (ha : ∀ r ∈ a, vrR r = true) (hb : ∀ r ∈ b, vrR r = true) (h1 : a.length ≤ 48) (h2 : b.length ≤ 48) : chE ⟨a, b, [], []⟩ = if a = [] then 1 else 0 := by
 unfold chE
 have hl : lmB ⟨a, b, [], []⟩ = true := by
  unfold lmB
  simp only [List.all_nil, Bool.and_true, Bool.and_eq_true, List.all_eq_true]
  exact ⟨ha, hb⟩
 by_cases h : a = []
 ·subst h
  rw [if_neg (by simp), if_pos rfl]
 ·have := List.length_pos_iff.2 h
  rw [if_pos ⟨⟨this, h1⟩, h2, by simp, hl⟩, if_neg h]
theorem sfV_two {a b : List Rc} (ha : ∀ r ∈ a, vrR r = true) (hb : ∀ r ∈ b, vrR r = true) (h1 : a.length ≤ 48) (h2 : b.length ≤ 48) : sfV ⟨a, b, [], []⟩ = ar 1048576 (a ++ b) - ar 1048576 b := by
 unfold sfV
 rw [chE_two ha hb h1 h2]
 have e := srf_diff 1048576 a b
 by_cases h : a = []
 ·subst h
  rw [if_pos rfl, if_neg (by decide), List.nil_append]
  omega
 ·rw [if_neg h, if_pos rfl]
  dsimp only
  omega
theorem fr_split {s : ShT} (h0 : vsE s = 0) : sfV ⟨[⟨0, 0, s.wd, s.ht⟩], s.us, [], []⟩ - sfV ⟨s.cl, s.us, [], []⟩ = frV s ∧ (0 ≤ sfV ⟨[⟨0, 0, s.wd, s.ht⟩], s.us, [], []⟩ ∧ sfV ⟨[⟨0, 0, s.wd, s.ht⟩], s.us, [], []⟩ ≤ 1099511627776) ∧ 0 ≤ sfV ⟨s.cl, s.us, [], []⟩ ∧ sfV ⟨s.cl, s.us, [], []⟩ ≤ 1099511627776 := by
 have hS := vsE_good h0
 obtain ⟨l1, l2⟩ := vsE_len h0
 have vc : ∀ r ∈ s.cl, vrR r = true := fun r hr => hS.v r (List.mem_append.2 (.inl hr))
 have vu : ∀ r ∈ s.us, vrR r = true := fun r hr => hS.v r (List.mem_append.2 (.inr hr))
 have hin := vsE_in h0
 have hW := whole_in hS
 have vw : ∀ r ∈ [(⟨0, 0, s.wd, s.ht⟩ : Rc)], vrR r = true := fun r hr => by
  obtain rfl : r = _ := by simpa using hr
  exact vrR_iff.2 hW
 rw [sfV_two vw vu (by simp) l2, sfV_two vc vu (by omega) l2]
 have e1 : ar 1048576 ([(⟨0, 0, s.wd, s.ht⟩ : Rc)] ++ s.us) = s.wd * s.ht := by
  have a1 := ar_in_le (M := 1048576) (l := [(⟨0, 0, s.wd, s.ht⟩ : Rc)] ++ s.us) hW (fun r hr => by
   dsimp only
   rcases List.mem_append.1 hr with q | q
   ·obtain rfl : r = _ := by simpa using q
    dsimp only
    omega
   ·have := hin r (List.mem_append.2 (.inr q))
    omega)
  have a2 := (ar_app_le 1048576 [(⟨0, 0, s.wd, s.ht⟩ : Rc)] s.us).1
  have a3 : ar 1048576 [(⟨0, 0, s.wd, s.ht⟩ : Rc)] = s.wd * s.ht := by
   have := ar_apart (M := 1048576) (l := [(⟨0, 0, s.wd, s.ht⟩ : Rc)]) (fun r hr => vrR_iff.1 (vw r hr)) (List.pairwise_singleton _ _)
   rw [this]
   simp [sumA]
  dsimp only at a1
  omega
 have h1 := fr_bd h0
 have h2 := wh_bd hS
 have h3 := ar_nn 1048576 s.us
 have h4 := (ar_app_le 1048576 s.cl s.us).2.1
 unfold frV
 rw [e1]
 omega
set_option maxHeartbeats 16000000 in
set_option maxRecDepth 100000 in
theorem Free_any (s : ShT) (w : World) (hs : ShW w s) (h0 : vsE s = 0) :
  Calls Tryz.prog 15 #[s.v] w fun e w' => e = .returned (.tuple #[iv (frV s), iv 0]) ∧ Gr w w' := by
 have HV := hide (fun (w' : World) (g : Gr w w') => ValidateSheet_any s w' (hs.gr g))
 rw [h0] at HV
 have HWH := hide (fun (w' : World) => whole_any s.nm s.mt s.ga s.gr s.wd s.ht (.slice s.cA s.cl.length s.cc) (.slice s.uA s.us.length s.uc) w')
 have HS1 := hide (fun (B : Nat) (w' : World) (g : Gr w w') (h : SlR w' (some ⟨B, 0, none⟩) 1 [⟨0, 0, s.wd, s.ht⟩]) => Surface_any (some ⟨B, 0, none⟩) s.uA none none 1 s.uc 0 0 ⟨[⟨0, 0, s.wd, s.ht⟩], s.us, [], []⟩ w' ⟨h, hs.u.gr g, slr_nil _, slb_none _⟩)
 have HS2 := hide (fun (w' : World) (g : Gr w w') => Surface_any s.cA s.uA none none s.cc s.uc 0 0 ⟨s.cl, s.us, [], []⟩ w' ⟨hs.c.gr g, hs.u.gr g, slr_nil _, slb_none _⟩)
 obtain ⟨f1, f2, f3⟩ := fr_split h0
 have W1 : IntKind.i64.wrap (sfV ⟨[⟨0, 0, s.wd, s.ht⟩], s.us, [], []⟩ - sfV ⟨s.cl, s.us, [], []⟩) = frV s := by rw [← f1]; exact IntWalk.i64_in _ (by omega)
 have n1 := hs.c.cap
 have n2 := hs.c.capB
 have n3 := hs.u.cap
 have n4 := hs.u.capB
 generalize sfV ⟨[⟨0, 0, s.wd, s.ht⟩], s.us, [], []⟩ = V1 at *
 generalize chE ⟨[⟨0, 0, s.wd, s.ht⟩], s.us, [], []⟩ = E1 at *
 generalize sfV ⟨s.cl, s.us, [], []⟩ = V2 at *
 generalize chE ⟨s.cl, s.us, [], []⟩ = E2 at *
 generalize frV s = FV at *
 obtain ⟨nm, mt, ga, gr, wd, ht, cA, cc, cl, uA, uc, us⟩ := s
 dsimp only at HWH HS1 HS2 n1 n2 n3 n4
 clear hs h0 f1 f2 f3
 go_enter Tryz.func15, Tryz.ntmps15
 go_upto_region 1 with fail
 obtain ⟨w0, hw0⟩ : ∃ W, w.alloc (.cells #[.string nm, .string mt, iv ga, iv gr, iv wd, iv ht, .slice cA cl.length cc, .slice uA us.length uc] 24) = W := ⟨_, rfl⟩
 have HM := hide (show Made w0 w.heap.size #[.string nm, .string mt, iv ga, iv gr, iv wd, iv ht, .slice cA cl.length cc, .slice uA us.length uc] from by rw [← hw0]; exact Made.new _ _ _)
 have gw0 : Gr w w0 := by rw [← hw0]; exact Gr.alloc (Gr.refl _) _
 rw [hw0]
 clear hw0
 generalize w.heap.size = b1 at HM ⊢
 obtain ⟨l1, y0, _⟩ := HM.out
 have a0 := y0 0
 have a1 := y0 1
 have a2 := y0 2
 have a3 := y0 3
 have a4 := y0 4
 have a5 := y0 5
 have a6 := y0 6
 have a7 := y0 7
 clear y0
 go_wp2_with fail
 refine (HV.out _ gw0).mono ?_
 rintro e w1 ⟨rfl, g1⟩
 clear l1 a0 a1 a2 a3 a4 a5 a6 a7
 obtain ⟨l1, y0, _⟩ := HM.out.gr g1
 have a0 := y0 0
 have a1 := y0 1
 have a2 := y0 2
 have a3 := y0 3
 have a4 := y0 4
 have a5 := y0 5
 have a6 := y0 6
 have a7 := y0 7
 clear y0
 have gw1 : Gr w w1 := gw0.trans g1
 go_upto_region 4 with fail
 go_region_held3 (fun w' => Gr (w1) w' ∧ ∀ ii oo, ii < (w1).heap.size → w'.cell? ⟨ii, oo, none⟩ = (w1).cell? ⟨ii, oo, none⟩) ((refine And.intro ?_ (Gr.cell ?_) <;> ((with_reducible repeat (first | exact Gr.refl _ | assumption | refine Gr.alloc ?_ _ | refine Gr.drewN ?_ _ | refine Gr.drew ?_ | refine Gr.setCell ?_ (by first | (dsimp only; omega) | (simp only [World.size_alloc]; omega)) _ | refine Gr.trans ?_ (by assumption))); done)))
  (first
   | (go_at_call 40; refine (HWH.out _).mono ?_; rintro e w2 ⟨rfl, g2⟩; obtain ⟨X2, Y2, c2, f2⟩ := g2.use)
   | (go_at_call 39; refine (HS1.out _ _ (gw1.trans (by with_reducible repeat (first | exact Gr.refl _ | assumption | refine Gr.alloc ?_ _ | refine Gr.drewN ?_ _ | refine Gr.drew ?_ | refine Gr.setCell ?_ (by first | (dsimp only; omega) | (simp only [World.size_alloc]; omega)) _ | refine Gr.trans ?_ (by assumption)))) (slr_new _ _ ⟨0, 0, wd, ht⟩ _ (by with_reducible repeat (first | exact Gr.refl _ | assumption | refine Gr.alloc ?_ _ | refine Gr.drewN ?_ _ | refine Gr.drew ?_ | refine Gr.setCell ?_ (by first | (dsimp only; omega) | (simp only [World.size_alloc]; omega)) _ | refine Gr.trans ?_ (by assumption))))).mono ?_; rintro e w3 ⟨rfl, g3⟩; obtain ⟨X3, Y3, c3, f3⟩ := g3.use))
 all_goals
  have g13 : Gr w1 w3 := (by with_reducible repeat (first | exact Gr.refl _ | assumption | refine Gr.alloc ?_ _ | refine Gr.drewN ?_ _ | refine Gr.drew ?_ | refine Gr.setCell ?_ (by first | (dsimp only; omega) | (simp only [World.size_alloc]; omega)) _ | refine Gr.trans ?_ (by assumption)))
  have gw3 : Gr w w3 := gw1.trans g13
  clear l1 a0 a1 a2 a3 a4 a5 a6 a7 c3 f3 X3 Y3 c2 f2 X2 Y2
  obtain ⟨l1, y0, _⟩ := HM.out.gr (g1.trans g13)
  have a6 := y0 6
  have a7 := y0 7
  clear y0
  go_wp2_with fail
  refine (HS2.out _ gw3).mono ?_
  rintro e w4 ⟨rfl, g4⟩
  go_wp2_with fail
  go_ret2
  exact ⟨rfl, gw3.trans g4⟩
end RG
end Go.Proofs.YtddhaiaapomdjaaGreat
set_option linter.unusedVariables false
set_option linter.unusedSimpArgs false
namespace Go.Proofs.YtddhaiaapomdjaaGreat
set_option linter.unusedVariables false
set_option linter.unusedSimpArgs false
open Go Go.ChangeShapes Go.WideShapes Go.ChangeAt Go.RowKit Go.Deep

namespace RG
def fsF (S : List ShT) (j : Nat) : Int := match S[j]? with | some s => frV s | none => 0
def psF (Ps : List Pc) (i : Nat) : Int := match Ps[i]? with | some p => sumA p.r | none => 0
theorem smF_bd {f : Nat → Int} {b : Int} : ∀ {n : Nat}, (∀ i, 0 ≤ f i ∧ f i ≤ b) → 0 ≤ smF f n ∧ smF f n ≤ n * b
 | 0, _ => ⟨Int.le_refl _, by simp [smF]⟩
 | n + 1, h => by
  obtain ⟨h1, h2⟩ := smF_bd (n := n) h
  obtain ⟨h3, h4⟩ := h n
  rw [smF]
  refine ⟨by omega, ?_⟩
  have : ((n + 1 : Nat) : Int) * b = n * b + b := by rw [Int.natCast_add, Int.add_mul]; simp
  omega
theorem sumA_bd : ∀ {l : List Rc}, (∀ r ∈ l, vrR r = true) → 0 ≤ sumA l ∧ sumA l ≤ l.length * 4398046511104
 | [], _ => by simp [sumA]
 | r :: l, h => by
  obtain ⟨h1, h2⟩ := sumA_bd (l := l) (fun q hq => h q (List.mem_cons_of_mem _ hq))
  obtain ⟨a1, a2, a3, a4, a5, a6⟩ := vrR_iff.1 (h r List.mem_cons_self)
  have e : sumA (r :: l) = r.w * r.h + sumA l := by simp [sumA]
  have b1 : 0 ≤ r.w * r.h := Int.mul_nonneg (by omega) (by omega)
  have b2 : r.w * r.h ≤ 4398046511104 := Int.le_trans (Int.mul_le_mul (show r.w ≤ 2097152 by omega) (show r.h ≤ 2097152 by omega) (by omega) (by omega)) (by decide)
  rw [e, List.length_cons]
  refine ⟨by omega, ?_⟩
  have : ((l.length + 1 : Nat) : Int) * 4398046511104 = l.length * 4398046511104 + 4398046511104 := by omega
  omega
theorem fs_bd {S : List ShT} (z : ∀ s ∈ S, vsE s = 0) (j : Nat) : 0 ≤ fsF S j ∧ fsF S j ≤ 1099511627776 := by
 unfold fsF
 cases h : S[j]? with
 | none => dsimp only; omega
 | some s =>
  have h0 := z s (List.mem_of_getElem? h)
  have h1 := fr_bd h0
  have h2 := wh_bd (vsE_good h0)
  dsimp only
  unfold frV
  omega
theorem ps_bd {Ps : List Pc} {bs : Pc → Bool} (z : ∀ p ∈ Ps, vpE p (bs p) = 0) (j : Nat) : 0 ≤ psF Ps j ∧ psF Ps j ≤ 52776558133248 := by
 unfold psF
 cases h : Ps[j]? with
 | none => dsimp only; omega
 | some p =>
  have hG := (vpE_good (z p (List.mem_of_getElem? h))).1
  have h1 := sumA_bd (vaB_iff.1 hG.vr)
  have h2 := hG.n1
  dsimp only
  omega
theorem pc_area {p : Pc} (h : PcG p) : areaV p.r = sumA p.r := by
 rw [areaV_eq (fun r hr => vrR_iff.1 (vaB_iff.1 h.vr r hr)), ar_apart (fun r hr => vrR_iff.1 (vaB_iff.1 h.vr r hr)) (apart_p h)]
theorem pc_arV {p : Pc} (h : PcG p) : arV p.r = sumA p.r ∧ ceL p.r = 0 := by
 have e : ceL p.r = 0 := ceL_ok (by have := h.n1; omega) (fun j r _ hr => vaB_iff.1 h.vr r (List.mem_of_getElem? hr))
 refine ⟨?_, e⟩
 unfold arV
 rw [if_pos e]
 exact pc_area h
theorem cl_good {S : List ShT} {Ps : List Pc} {bs : Pc → Bool} (h : clE S Ps bs = 0) : (S.length ≤ 4 ∧ Ps.length ≤ 8) ∧ (∀ s ∈ S, vsE s = 0) ∧ ∀ p ∈ Ps, vpE p (bs p) = 0 := by
 have h1 : ckE S Ps bs ⟨0, 0, false⟩ = 0 := by
  unfold ckE
  rw [if_neg (by rw [h]; decide), if_pos (by decide)]
 obtain ⟨a, b, c, _⟩ := ck_good h1
 exact ⟨a, b, c⟩
set_option maxHeartbeats 16000000 in
set_option maxRecDepth 100000 in
theorem Exceeds_any (A : Option Addr) (c : Nat) (S : List ShT) (B : Option Addr) (d : Nat) (Ps : List Pc) (bs : Pc → Bool) (w : World) (hS : SlS w A c S) (hP : SlP w B d Ps) (hb : CoBs Ps bs) (h0 : clE S Ps bs = 0) :
  Calls Tryz.prog 21 #[.slice A S.length c, .slice B Ps.length d] w fun e w' => e = .returned (.tuple #[.bool (decide (smF (fsF S) S.length - smF (psF Ps) Ps.length < 0)), iv 0]) ∧ Gr w w' := by
 obtain ⟨⟨z1, z2⟩, z3, z4⟩ := cl_good h0
 have HCK := hide (fun (w' : World) (g : Gr w w') => checkLists_any A c S B d Ps bs w' (hS.gr g) (hP.gr g) hb)
 rw [h0] at HCK
 have HFR := hide (fun (s : ShT) (hs : s ∈ S) (w' : World) (g : Gr w w') => Free_any s w' ((hS.el s hs).gr g) (z3 s hs))
 have HAR := hide (fun (p : Pc) (hp : p ∈ Ps) (w' : World) (g : Gr w w') => show Calls Tryz.prog 20 #[.slice p.rA p.r.length p.rc] w' fun e w'' => e = .returned (sle (iv (sumA p.r)) 0) ∧ Gr w' w'' from by
  have h := Area_any p.rA p.rc p.r w' ((hP.el p hp).r.gr g)
  obtain ⟨e1, e2⟩ := pc_arV (vpE_good (z4 p hp)).1
  rwa [e1, e2] at h)
 have HB1 := hide (fun k => smF_bd (n := k) (fs_bd z3))
 have HB2 := hide (fun k => smF_bd (n := k) (ps_bd z4))
 have HF1 := hide (fs_bd z3)
 have HF2 := hide (ps_bd z4)
 have HS := hide hS
 have HP := hide hP
 have n1 := hS.cap
 have n2 := hS.capB
 have n3 := hP.cap
 have n4 := hP.capB
 clear hS hP hb h0 z3 z4
 go_enter Tryz.func21, Tryz.ntmps21
 go_wp2_with fail
 refine (HCK.out _ (Gr.refl _)).mono ?_
 rintro e w1 ⟨rfl, g1⟩
 go_wp2_with fail
 go_loopw [7, 24] (fun a i wr => ∃ k : Nat, k ≤ S.length ∧ i = iv k ∧ a = iv (smF (fsF S) k) ∧ Gr w wr) (fun _ i _ => S.length - (intOf i).toNat)
 case atStart => exact ⟨0, by omega, rfl, rfl, g1⟩
 case round =>
  obtain ⟨k, hk, rfl, rfl, g⟩ := hrel
  by_cases hkl : k < S.length
  ·obtain ⟨s, hs⟩ : ∃ s, S[k]? = some s := ⟨_, List.getElem?_eq_getElem hkl⟩
   obtain ⟨b1, o1, hA, ⟨s0, s1, s2, s3, s4, s5, s6, s7⟩, _⟩ := (HS.out.gr g).at_ hs
   subst hA
   have hb1 : b1 < wr.heap.size := cell_lt (by rw [s0]; rfl)
   have HFK := hide (HFR.out s (List.mem_of_getElem? hs))
   have hk0 : (0 : Int) ≤ (k : Int) := by omega
   have hk1 : (k : Int) < (S.length : Int) := by omega
   have c1 := HB1.out k
   have c2 := HF1.out k
   have HSN := hide (show smF (fsF S) (k + 1) = smF (fsF S) k + fsF S k from rfl)
   have hfk : fsF S k = frV s := by unfold fsF; rw [hs]
   rw [hfk] at HSN c2
   have W1 : IntKind.i64.wrap (smF (fsF S) k + frV s) = smF (fsF S) k + frV s := IntWalk.i64_in _ (by omega)
   generalize smF (fsF S) k = V at *
   generalize frV s = F at *
   clear hs hfk c1 c2
   go_upto_region 8 with fail
   have HM9 := hide (Made.new wr #[.string s.nm, .string s.mt, iv s.ga, iv s.gr, iv s.wd, iv s.ht, .slice s.cA s.cl.length s.cc, .slice s.uA s.us.length s.uc] 24)
   have ga : Gr wr (wr.alloc (.cells #[.string s.nm, .string s.mt, iv s.ga, iv s.gr, iv s.wd, iv s.ht, .slice s.cA s.cl.length s.cc, .slice s.uA s.us.length s.uc] 24)) := Gr.alloc (Gr.refl _) _
   generalize wr.alloc (.cells #[.string s.nm, .string s.mt, iv s.ga, iv s.gr, iv s.wd, iv s.ht, .slice s.cA s.cl.length s.cc, .slice s.uA s.us.length s.uc] 24) = w2 at *
   generalize wr.heap.size = b9 at HM9 ⊢
   clear s0 s1 s2 s3 s4 s5 s6 s7
   obtain ⟨l9, y9, f9_⟩ := Made.gr HM9.out (Gr.refl w2)
   have a90 := y9 0
   have a91 := y9 1
   have a92 := y9 2
   have a93 := y9 3
   have a94 := y9 4
   have a95 := y9 5
   have a96 := y9 6
   have a97 := y9 7
   clear y9 f9_
   go_wp2_with fail
   refine (HFK.out _ (g.trans ga)).mono ?_
   rintro e w3 ⟨rfl, g3⟩
   go_wp2_with fail
   go_roundw
   case rel => exact ⟨k + 1, by omega, by go_num, by rw [HSN.out], (g.trans ga).trans g3⟩
   case measure => simp only [intOf]; omega
  ·obtain rfl : k = S.length := by omega
   have c3 := HB1.out S.length
   obtain ⟨FS, hFS⟩ : ∃ FS, smF (fsF S) S.length = FS := ⟨_, rfl⟩
   rw [hFS] at c3 ⊢
   have HFS := hide hFS
   clear hFS
   go_wp2_with fail
   go_loopw [7, 39] (fun a i wr => ∃ k : Nat, k ≤ Ps.length ∧ i = iv k ∧ a = iv (FS - smF (psF Ps) k) ∧ Gr w wr) (fun _ i _ => Ps.length - (intOf i).toNat)
   case atStart => exact ⟨0, by omega, rfl, by simp [smF], g⟩
   case round =>
    obtain ⟨k, hk, rfl, rfl, g2⟩ := hrel
    have c1 := HB2.out k
    by_cases hkl : k < Ps.length
    ·obtain ⟨p, hp⟩ : ∃ p, Ps[k]? = some p := ⟨_, List.getElem?_eq_getElem hkl⟩
     obtain ⟨b1, o1, hA, ⟨s0, s1, s2, s3, s4, s5, s6⟩, _⟩ := (HP.out.gr g2).at_ hp
     subst hA
     have hb1 : b1 < wr.heap.size := cell_lt (by rw [s0]; rfl)
     have HFK := hide (HAR.out p (List.mem_of_getElem? hp))
     have hk0 : (0 : Int) ≤ (k : Int) := by omega
     have hk1 : (k : Int) < (Ps.length : Int) := by omega
     have c2 := HF2.out k
     have HSN := hide (show smF (psF Ps) (k + 1) = smF (psF Ps) k + psF Ps k from rfl)
     have hfk : psF Ps k = sumA p.r := by unfold psF; rw [hp]
     rw [hfk] at HSN c2
     have W1 : IntKind.i64.wrap (FS - smF (psF Ps) k - sumA p.r) = FS - smF (psF Ps) k - sumA p.r := IntWalk.i64_in _ (by omega)
     have HSN2 := hide (show FS - smF (psF Ps) k - sumA p.r = FS - smF (psF Ps) (k + 1) by rw [HSN.out]; omega)
     obtain ⟨V, hV⟩ : ∃ V, FS - smF (psF Ps) k = V := ⟨_, rfl⟩
     rw [hV] at W1 HSN2 ⊢
     generalize sumA p.r = F at *
     clear hp hfk c1 c2 hV HSN
     go_upto_region 14 with fail
     have HM13 := hide (Made.new wr #[.string p.nm, .string p.mt, iv p.ga, iv p.gr, .slice p.rA p.r.length p.rc, .slice p.cA p.c.length p.cc, .slice p.fA p.f.length p.fc] 27)
     have ga : Gr wr (wr.alloc (.cells #[.string p.nm, .string p.mt, iv p.ga, iv p.gr, .slice p.rA p.r.length p.rc, .slice p.cA p.c.length p.cc, .slice p.fA p.f.length p.fc] 27)) := Gr.alloc (Gr.refl _) _
     generalize wr.alloc (.cells #[.string p.nm, .string p.mt, iv p.ga, iv p.gr, .slice p.rA p.r.length p.rc, .slice p.cA p.c.length p.cc, .slice p.fA p.f.length p.fc] 27) = w2 at *
     generalize wr.heap.size = b13 at HM13 ⊢
     clear s0 s1 s2 s3 s4 s5 s6
     obtain ⟨l13, y13, f13_⟩ := Made.gr HM13.out (Gr.refl w2)
     have a130 := y13 0
     have a131 := y13 1
     have a132 := y13 2
     have a133 := y13 3
     have a134 := y13 4
     have a135 := y13 5
     have a136 := y13 6
     clear y13 f13_
     go_wp2_with fail
     refine (HFK.out _ (g2.trans ga)).mono ?_
     rintro e w3 ⟨rfl, g3⟩
     go_wp2_with fail
     go_roundw
     case rel => exact ⟨k + 1, by omega, by go_num, by rw [HSN2.out], (g2.trans ga).trans g3⟩
     case measure => simp only [intOf]; omega
    ·obtain rfl : k = Ps.length := by omega
     obtain ⟨V, hV⟩ : ∃ V, FS - smF (psF Ps) Ps.length = V := ⟨_, rfl⟩
     rw [hV]
     have HV := hide hV
     clear hV c1
     go_wp2_with fail
     go_ret2
     exact ⟨by rw [HFS.out, HV.out]; rfl, g2⟩
end RG
end Go.Proofs.YtddhaiaapomdjaaGreat
set_option linter.unusedVariables false
set_option linter.unusedSimpArgs false
namespace Go.Proofs.YtddhaiaapomdjaaGreat
set_option linter.unusedVariables false
set_option linter.unusedSimpArgs false
open Go Go.ChangeShapes Go.WideShapes Go.ChangeAt Go.RowKit Go.Deep

namespace RG
set_option maxHeartbeats 16000000 in
set_option maxRecDepth 100000 in
theorem rExceeds_any (A : Option Addr) (c : Nat) (S : List ShT) (B : Option Addr) (d : Nat) (Ps : List Pc) (bs : Pc → Bool) (w : World) (hS : SlS w A c S) (hP : SlP w B d Ps) (hb : CoBs Ps bs) (h0 : clE S Ps bs = 0) :
  Calls Tryz.prog 22 #[.slice A S.length c, .slice B Ps.length d] w fun e w' => e = .returned (.tuple #[.bool (decide (smF (psF Ps) Ps.length - smF (fsF S) S.length > 0)), iv 0]) ∧ Gr w w' := by
 obtain ⟨⟨z1, z2⟩, z3, z4⟩ := cl_good h0
 have HCK := hide (fun (w' : World) (g : Gr w w') => given6_any A c S B d Ps bs w' (hS.gr g) (hP.gr g) hb)
 rw [h0] at HCK
 have HFR := hide (fun (s : ShT) (hs : s ∈ S) (w' : World) (g : Gr w w') => free6_any s w' ((hS.el s hs).gr g) (z3 s hs))
 have HAR := hide (fun (p : Pc) (hp : p ∈ Ps) (w' : World) (g : Gr w w') => show Calls Tryz.prog 57 #[.slice p.rA p.r.length p.rc] w' fun e w'' => e = .returned (iv (sumA p.r)) ∧ Gr w' w'' from by
  have hG := (vpE_good (z4 p hp)).1
  have h := area6_any p.rA p.rc p.r w' ((hP.el p hp).r.gr g) (fun r hr => vrR_iff.1 (vaB_iff.1 hG.vr r hr)) (by have := hG.n1; omega)
  rwa [pc_area hG] at h)
 have HB1 := hide (fun k => smF_bd (n := k) (fs_bd z3))
 have HB2 := hide (fun k => smF_bd (n := k) (ps_bd z4))
 have HF1 := hide (fs_bd z3)
 have HF2 := hide (ps_bd z4)
 have HS := hide hS
 have HP := hide hP
 have n1 := hS.cap
 have n2 := hS.capB
 have n3 := hP.cap
 have n4 := hP.capB
 clear hS hP hb h0 z3 z4
 go_enter Tryz.func22, Tryz.ntmps22
 go_wp2_with fail
 refine (HCK.out _ (Gr.refl _)).mono ?_
 rintro e w1 ⟨rfl, g1⟩
 go_wp2_with fail
 go_loopw [7, 8] (fun a i wr => ∃ k : Nat, k ≤ Ps.length ∧ i = iv k ∧ a = iv (smF (psF Ps) k) ∧ Gr w wr) (fun _ i _ => Ps.length - (intOf i).toNat)
 case atStart => exact ⟨0, by omega, rfl, rfl, g1⟩
 case round =>
  obtain ⟨k, hk, rfl, rfl, g⟩ := hrel
  by_cases hkl : k < Ps.length
  ·obtain ⟨p, hp⟩ : ∃ p, Ps[k]? = some p := ⟨_, List.getElem?_eq_getElem hkl⟩
   obtain ⟨b1, o1, hA, ⟨s0, s1, s2, s3, s4, s5, s6⟩, _⟩ := (HP.out.gr g).at_ hp
   subst hA
   have hb1 : b1 < wr.heap.size := cell_lt (by rw [s0]; rfl)
   have HFK := hide (HAR.out p (List.mem_of_getElem? hp))
   have hk0 : (0 : Int) ≤ (k : Int) := by omega
   have hk1 : (k : Int) < (Ps.length : Int) := by omega
   have c1 := HB2.out k
   have c2 := HF2.out k
   have HSN := hide (show smF (psF Ps) (k + 1) = smF (psF Ps) k + psF Ps k from rfl)
   have hfk : psF Ps k = sumA p.r := by unfold psF; rw [hp]
   rw [hfk] at HSN c2
   have W1 : IntKind.i64.wrap (smF (psF Ps) k + sumA p.r) = smF (psF Ps) k + sumA p.r := IntWalk.i64_in _ (by omega)
   generalize smF (psF Ps) k = V at *
   generalize sumA p.r = F at *
   clear hp hfk c1 c2
   go_wp2_with fail
   refine (HFK.out _ g).mono ?_
   rintro e w3 ⟨rfl, g3⟩
   go_wp2_with fail
   go_roundw
   case rel => exact ⟨k + 1, by omega, by go_num, by rw [HSN.out], g.trans g3⟩
   case measure => simp only [intOf]; omega
  ·obtain rfl : k = Ps.length := by omega
   have c3 := HB2.out Ps.length
   obtain ⟨PS, hPS⟩ : ∃ PS, smF (psF Ps) Ps.length = PS := ⟨_, rfl⟩
   rw [hPS] at c3 ⊢
   have HPS := hide hPS
   clear hPS
   go_wp2_with fail
   go_loopw [7, 9] (fun a i wr => ∃ k : Nat, k ≤ S.length ∧ i = iv k ∧ a = iv (PS - smF (fsF S) k) ∧ Gr w wr) (fun _ i _ => S.length - (intOf i).toNat)
   case atStart => exact ⟨0, by omega, rfl, by simp [smF], g⟩
   case round =>
    obtain ⟨k, hk, rfl, rfl, g2⟩ := hrel
    have c1 := HB1.out k
    by_cases hkl : k < S.length
    ·obtain ⟨s, hs⟩ : ∃ s, S[k]? = some s := ⟨_, List.getElem?_eq_getElem hkl⟩
     obtain ⟨b1, o1, hA, ⟨s0, s1, s2, s3, s4, s5, s6, s7⟩, _⟩ := (HS.out.gr g2).at_ hs
     subst hA
     have hb1 : b1 < wr.heap.size := cell_lt (by rw [s0]; rfl)
     have HFK := hide (HFR.out s (List.mem_of_getElem? hs))
     have hk0 : (0 : Int) ≤ (k : Int) := by omega
     have hk1 : (k : Int) < (S.length : Int) := by omega
     have c2 := HF1.out k
     have HSN := hide (show smF (fsF S) (k + 1) = smF (fsF S) k + fsF S k from rfl)
     have hfk : fsF S k = frV s := by unfold fsF; rw [hs]
     rw [hfk] at HSN c2
     have W1 : IntKind.i64.wrap (PS - smF (fsF S) k - frV s) = PS - smF (fsF S) k - frV s := IntWalk.i64_in _ (by omega)
     have HSN2 := hide (show PS - smF (fsF S) k - frV s = PS - smF (fsF S) (k + 1) by rw [HSN.out]; omega)
     obtain ⟨V, hV⟩ : ∃ V, PS - smF (fsF S) k = V := ⟨_, rfl⟩
     rw [hV] at W1 HSN2 ⊢
     generalize frV s = F at *
     clear hs hfk c1 c2 hV HSN
     go_wp2_with fail
     refine (HFK.out _ g2).mono ?_
     rintro e w3 ⟨rfl, g3⟩
     go_wp2_with fail
     go_roundw
     case rel => exact ⟨k + 1, by omega, by go_num, by rw [HSN2.out], g2.trans g3⟩
     case measure => simp only [intOf]; omega
    ·obtain rfl : k = S.length := by omega
     obtain ⟨V, hV⟩ : ∃ V, PS - smF (fsF S) S.length = V := ⟨_, rfl⟩
     rw [hV]
     have HV := hide hV
     clear hV c1
     go_wp2_with fail
     go_ret2
     exact ⟨by rw [HPS.out, HV.out]; rfl, g2⟩
set_option maxHeartbeats 4000000 in
set_option maxRecDepth 100000 in
theorem Exceeds_bad (A : Option Addr) (c : Nat) (S : List ShT) (B : Option Addr) (d : Nat) (Ps : List Pc) (bs : Pc → Bool) (w : World) (hS : SlS w A c S) (hP : SlP w B d Ps) (hb : CoBs Ps bs) (h0 : clE S Ps bs ≠ 0) :
  Calls Tryz.prog 21 #[.slice A S.length c, .slice B Ps.length d] w fun e w' => e = .returned (.tuple #[.bool false, iv (clE S Ps bs)]) ∧ Gr w w' := by
 have HCK := hide (checkLists_any A c S B d Ps bs w hS hP hb)
 generalize clE _ _ _ = E at *
 have h1 : (E != 0) = true := by simpa using h0
 clear hS hP hb h0
 go_enter Tryz.func21, Tryz.ntmps21
 go_wp2_with fail
 refine HCK.out.mono ?_
 rintro e w1 ⟨rfl, g1⟩
 go_wp2_with fail
 go_ret2
 exact ⟨rfl, g1⟩
set_option maxHeartbeats 4000000 in
set_option maxRecDepth 100000 in
theorem rExceeds_bad (A : Option Addr) (c : Nat) (S : List ShT) (B : Option Addr) (d : Nat) (Ps : List Pc) (bs : Pc → Bool) (w : World) (hS : SlS w A c S) (hP : SlP w B d Ps) (hb : CoBs Ps bs) (h0 : clE S Ps bs ≠ 0) :
  Calls Tryz.prog 22 #[.slice A S.length c, .slice B Ps.length d] w fun e w' => e = .returned (.tuple #[.bool false, iv (clE S Ps bs)]) ∧ Gr w w' := by
 have HCK := hide (given6_any A c S B d Ps bs w hS hP hb)
 generalize clE _ _ _ = E at *
 have h1 : (E != 0) = true := by simpa using h0
 clear hS hP hb h0
 go_enter Tryz.func22, Tryz.ntmps22
 go_wp2_with fail
 refine HCK.out.mono ?_
 rintro e w1 ⟨rfl, g1⟩
 go_wp2_with fail
 go_ret2
 exact ⟨rfl, g1⟩
set_option maxHeartbeats 8000000 in
set_option maxRecDepth 100000 in
theorem exceeds_same (A : Option Addr) (c n : Nat) (B : Option Addr) (d m : Nat) (t : St) (C : Option Addr) (k e5 : Nat) (a : Bool) (E K F : Int) (w : World) (hmd : m ≤ d) (hd : d ≤ 9223372036854775807)
  (HP : ∀ w', Gr w w' → Calls Tryz.prog 21 #[.slice A n c, .slice B m d] w' fun e w'' => e = .returned (.tuple #[.bool a, iv E]) ∧ Gr w' w'')
  (HR : ∀ w', Gr w w' → Calls Tryz.prog 22 #[.slice A n c, .slice B m d] w' fun e w'' => e = .returned (.tuple #[.bool a, iv E]) ∧ Gr w' w'')
  (HK : a = true → k = m → F ≠ 0 ∧ ∀ w', Gr w w' → Calls Tryz.prog 14 #[.slice A n c, .slice B m d, stvv t, .slice C k e5] w' fun e w'' => e = .returned (.tuple #[iv K, iv F]) ∧ Gr w' w'') :
  Calls Tryz.prog 6 #[jbv A n c B m d t, .slice C k e5] w fun e w' => e = .returned (.bool true) ∧ Gr w w' := by
 have H1 := hide HP
 have H2 := hide HR
 have H3 := hide HK
 obtain ⟨g, mm, cm⟩ := t
 clear HP HR HK
 go_enter Tryz.func6, Tryz.ntmps6
 go_upto_region 1 with fail
 have M2 := hide (Made.new w #[.slice A n c, .slice B m d, iv g, iv mm, .bool cm] 42)
 have g0 : Gr w (w.alloc (.cells #[.slice A n c, .slice B m d, iv g, iv mm, .bool cm] 42)) := Gr.alloc (Gr.refl _) _
 generalize w.alloc (.cells #[.slice A n c, .slice B m d, iv g, iv mm, .bool cm] 42) = w0 at *
 generalize w.heap.size = b2 at M2 ⊢
 obtain ⟨l2, y2, f2_⟩ := Made.gr M2.out (Gr.refl w0)
 have a20 := y2 0
 have a21 := y2 1
 have a22 := y2 2
 have a23 := y2 3
 have a24 := y2 4
 clear y2 f2_
 go_wp2_with fail
 refine (H1.out _ g0).mono ?_
 rintro e w1 ⟨rfl, g1⟩
 have gw1 := g0.trans g1
 clear l2 a20 a21 a22 a23 a24
 obtain ⟨l2, y2, f2_⟩ := Made.gr M2.out g1
 have a20 := y2 0
 have a21 := y2 1
 have a22 := y2 2
 have a23 := y2 3
 have a24 := y2 4
 clear y2 f2_
 go_wp2_with fail
 refine (H2.out _ gw1).mono ?_
 rintro e w2 ⟨rfl, g2⟩
 have gw2 := gw1.trans g2
 clear l2 a20 a21 a22 a23 a24
 obtain ⟨l2, y2, f2_⟩ := Made.gr M2.out (g1.trans g2)
 have a20 := y2 0
 have a21 := y2 1
 have a22 := y2 2
 have a23 := y2 3
 have a24 := y2 4
 clear y2 f2_
 cases a with
 | false =>
  go_wp2_with fail
  refine (known6_any _).mono ?_
  rintro e w3 ⟨rfl, g3⟩
  go_wp2
  go_ret
  exact ⟨rfl, gw2.trans g3⟩
 | true =>
  by_cases hkm : k = m
  ·subst hkm
   obtain ⟨hF, hK⟩ := H3.out rfl rfl
   have hF' : (F != 0) = true := by simpa using hF
   have HK := hide hK
   clear hK hF
   go_wp2_with fail
   refine (HK.out _ gw2).mono ?_
   rintro e w3 ⟨rfl, g3⟩
   go_wp2_with fail
   refine (known6_any _).mono ?_
   rintro e w4 ⟨rfl, g4⟩
   go_wp2
   go_ret
   exact ⟨rfl, (gw2.trans g3).trans g4⟩
  ·have hkm' : ((k : Int) != (m : Int)) = true := by
    have : (k : Int) ≠ (m : Int) := by omega
    simpa using this
   have hkm'' : ((k : Int) == (m : Int)) = false := by
    have : (k : Int) ≠ (m : Int) := by omega
    simpa using this
   clear hkm
   go_wp2_with fail
   refine (known6_any _).mono ?_
   rintro e w3 ⟨rfl, g3⟩
   go_wp2
   go_ret
   exact ⟨rfl, gw2.trans g3⟩
theorem exceeds_walk (A : Option Addr) (c : Nat) (S : List ShT) (B : Option Addr) (d : Nat) (Ps : List Pc) (t : St) (C : Option Addr) (e5 : Nat) (l : List At6) (w : World) (hS : SlS w A c S) (hP : SlP w B d Ps) (hA : SlA w C e5 l) :
  Calls Tryz.prog 6 #[jbv A S.length c B Ps.length d t, .slice C l.length e5] w fun e w' => e = .returned (.bool true) ∧ Gr w w' := by
 obtain ⟨bs, hbs⟩ := coBs_ex
 have hb : CoBs Ps bs := fun p _ => hbs p
 by_cases h0 : clE S Ps bs = 0
 ·obtain ⟨⟨z1, z2⟩, z3, z4⟩ := cl_good h0
  have e : decide (smF (psF Ps) Ps.length - smF (fsF S) S.length > 0) = decide (smF (fsF S) S.length - smF (psF Ps) Ps.length < 0) := by
   rw [decide_eq_decide]
   omega
  have HEX := fun (w' : World) (g : Gr w w') => Exceeds_any A c S B d Ps bs w' (hS.gr g) (hP.gr g) hb h0
  have HRX := fun (w' : World) (g : Gr w w') => rExceeds_any A c S B d Ps bs w' (hS.gr g) (hP.gr g) hb h0
  rw [e] at HRX
  by_cases hck : ckE S Ps bs t = 0
  ·obtain ⟨K, E, hK⟩ := ckA_ex l (oneE S Ps t)
   refine exceeds_same A c S.length B d Ps.length t C l.length e5 _ 0 _ E w hP.cap hP.capB HEX HRX (fun ha hl => ⟨fun hE => ?_, fun w' g => Check_good A c S B d Ps bs t C e5 l K E w' (hS.gr g) (hP.gr g) (hA.gr g) hb hck (by omega) hK⟩)
   subst hE
   have hlt := of_decide_eq_true ha
   have hall : ∀ m z, l[m]? = some z → oneE S Ps t (l.take m) z = 0 := fun m z hz => by
    rcases hK.stop with ⟨h1, _⟩ | ⟨_, _, _, h⟩
    ·exact hK.zero m z (by rw [h1]; exact (List.getElem?_eq_some_iff.1 hz).1) hz
    ·exact absurd rfl h
   have := all_free (bs := bs) z3 z4 (vtB_iff.1 (ck_good hck).2.2.2).2.1 hall hl
   have h2 : smF (psF Ps) Ps.length ≤ smF (fsF S) S.length := this
   omega
  ·exact exceeds_same A c S.length B d Ps.length t C l.length e5 _ 0 _ _ w hP.cap hP.capB HEX HRX (fun _ _ => ⟨hck, fun w' g => Check_bad A c S B d Ps bs t _ w' (hS.gr g) (hP.gr g) hb hck⟩)
 ·exact exceeds_same A c S.length B d Ps.length t C l.length e5 false _ 0 0 w hP.cap hP.capB (fun w' g => Exceeds_bad A c S B d Ps bs w' (hS.gr g) (hP.gr g) hb h0) (fun w' g => rExceeds_bad A c S B d Ps bs w' (hS.gr g) (hP.gr g) hb h0) (fun h => by cases h)
end RG
end Go.Proofs.YtddhaiaapomdjaaGreat
