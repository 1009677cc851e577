/-
  Nests, plain: the results of Nest exist, and the placements are right.
  Nests, plain: pieces that are placed right have no more area than is free.
  Nests, plain: right placements of all pieces have no more area than is free on the sheets.
  Nests: the area of a list of rectangles, of the reference.
  Nests: the grid of a list of rectangles, of the reference.
  Nests: the area of a list of rectangles, of the reference.
  Nests: what is free on a sheet, of the reference and of the code.
  Nests: what is free on a sheet, of the code.
  Nests: slices.Clone at rectangles; what is left when more is used, plain.
  Nests: what is left when more is used, of the code.
  Nests: what is left when more is used, of the reference.
  Nests: what is left when more is used, the law.
-/
import Derived.Test.YtddhaiaapomdjaaGreatGQr
import Derived.Test.YtddhaiaapomdjaaGreatGMr
import Derived.Test.YtddhaiaapomdjaaGreatGTr
import Derived.Test.YtddhaiaapomdjaaGreatGLr
import Derived.Test.YtddhaiaapomdjaaGreatGNr
import Derived.Test.YtddhaiaapomdjaaGreatRg3r
import Derived.Test.YtddhaiaapomdjaaGreatGRr
import Derived.Test.YtddhaiaapomdjaaGreatGJr
import Derived.Test.YtddhaiaapomdjaaGreatGABr
import Derived.Test.YtddhaiaapomdjaaGreatGCr
import Derived.Test.YtddhaiaapomdjaaGreatNs11r
import Derived.Test.YtddhaiaapomdjaaGreatGBr
set_option linter.unusedVariables false
set_option linter.unusedSimpArgs false
namespace Go.Proofs.YtddhaiaapomdjaaGreat
set_option linter.unusedVariables false
set_option linter.unusedSimpArgs false
open Go Go.ChangeShapes Go.WideShapes Go.ChangeAt Go.RowKit Go.Deep

namespace RG
end RG
end Go.Proofs.YtddhaiaapomdjaaGreat
set_option linter.unusedVariables false
set_option linter.unusedSimpArgs false
namespace Go.Proofs.YtddhaiaapomdjaaGreat
set_option linter.unusedVariables false
set_option linter.unusedSimpArgs false
open Go Go.ChangeShapes Go.WideShapes Go.ChangeAt Go.RowKit Go.Deep

namespace RG
theorem ovR_ovP {r s : Rc} : ovR r s = true ↔ ovP r s := by
  rw [ovR_iff]
  unfold ovP
  omega
theorem ovR_ovQ {r s : Rc} (hr : vrR r = true) (hs : vrR s = true) : ovR r s = ovQ r s := by
  rw [Bool.eq_iff_iff, ovR_ovP, ovQ_iff hr hs]
theorem pairs_of {f : Rc → Rc → Bool} : ∀ {l : List Rc}, (∀ (i j : Nat) (a b : Rc), i < j → l[i]? = some a → l[j]? = some b → f a b = false) → l.Pairwise fun a b => f a b = false
  | [], _ => List.Pairwise.nil
  | a :: l, h => List.pairwise_cons.2 ⟨fun b hb => by
      obtain ⟨j, hj, e⟩ := List.getElem_of_mem hb
      exact h 0 (j + 1) a b (by omega) rfl (by rw [← e]; exact List.getElem?_eq_getElem hj), pairs_of fun i j x y hij hx hy => h (i + 1) (j + 1) x y (by omega) hx hy⟩
theorem ovQ_comm' (a b : Rc) : ovQ a b = ovQ b a := by
  unfold ovQ
  exact ovB_comm ..
theorem apart_p {p : Pc} (h : PcG p) : Apart p.r := pairs_of fun i j a b hij ha hb => by
  have va := vaB_iff.1 h.vr a (List.mem_of_getElem? ha)
  have vb := vaB_iff.1 h.vr b (List.mem_of_getElem? hb)
  rw [ovR_ovQ va vb]
  exact ap_pair ovQ_comm' h.ap ha hb (by omega)
theorem apart_m {p : Pc} (h : PcG p) (z : At6) : Apart (mRl p z) := by
  have ha := apart_p h
  unfold Apart mRl tnL at *
  rw [List.map_map, List.pairwise_map]
  refine ha.imp fun {a b} hab => ?_
  cases e : ovR ((mvR z.x z.y ∘ tnR p.r z.t.toNat) a) ((mvR z.x z.y ∘ tnR p.r z.t.toNat) b) with
  | false => rfl
  | true =>
    have e1 : ovP (tnR p.r z.t.toNat a) (tnR p.r z.t.toNat b) := by
      have := ovR_ovP.1 e
      unfold ovP at this ⊢
      simp only [Function.comp, mvR] at this
      omega
    have := ovR_ovP.2 ((ov_tn p.r a b z.t.toNat).1 e1)
    rw [hab] at this
    cases this
/-- the free area of a sheet -/
def frV (s : ShT) : Int := s.wd * s.ht - ar 1048576 (s.cl ++ s.us)
theorem ar_add {M : Nat} {a b : List Rc} (h : ∀ r ∈ a, ∀ s ∈ b, ovR r s = false) : ar M (a ++ b) = ar M a + ar M b := by
  unfold ar
  rw [← s2_add]
  refine s2_congr fun x y _ _ _ _ => ?_
  rw [cov_app]
  cases h1 : cov a x y with
  | false => simp [ib]
  | true =>
    cases h2 : cov b x y with
    | false => simp [ib]
    | true =>
      obtain ⟨r, hr, e1⟩ := List.any_eq_true.1 h1
      obtain ⟨s, hs, e2⟩ := List.any_eq_true.1 h2
      have := h r hr s hs
      have q : ovR r s = true := by
        have k1 := inR_iff.1 e1
        have k2 := inR_iff.1 e2
        rw [ovR_iff]
        omega
      rw [q] at this
      cases this
theorem ar_in_le {M : Nat} {l : List Rc} {s : Rc} (hs : InM M s) (h : ∀ r ∈ l, s.x ≤ r.x ∧ r.x + r.w ≤ s.x + s.w ∧ s.y ≤ r.y ∧ r.y + r.h ≤ s.y + s.h) : ar M l ≤ s.w * s.h := by
  rw [← ar_rect hs]
  unfold ar
  refine s2_le fun x y => ib_le fun e => ?_
  obtain ⟨r, hr, e1⟩ := List.any_eq_true.1 e
  have k1 := inR_iff.1 e1
  have k2 := h r hr
  rw [inR_iff]
  omega
end RG
end Go.Proofs.YtddhaiaapomdjaaGreat
set_option linter.unusedVariables false
set_option linter.unusedSimpArgs false
namespace Go.Proofs.YtddhaiaapomdjaaGreat
set_option linter.unusedVariables false
set_option linter.unusedSimpArgs false
open Go Go.ChangeShapes Go.WideShapes Go.ChangeAt Go.RowKit Go.Deep

namespace RG
/-- what a placement that is right says -/
structure OneR (S : List ShT) (Ps : List Pc) (t : St) (L : List At6) (z : At6) (i j : Nat) (p : Pc) (s : ShT) : Prop where
  pi : z.pi = i
  sh : z.sh = j
  hp : Ps[i]? = some p
  hs : S[j]? = some s
  pu : puB p z = true
  nw : ∀ a ∈ L, ¬ a.pi = (i : Int)
  we : weB (mRl p z) s t.m = true
  cl : ∀ m ∈ takL Ps L (j : Int), npB (ucB t) (mRl p z) m = false
theorem npB_at {f : Rc → Rc → Bool} {l m : List Rc} (h : npB f l m = false) {r o : Rc} (hr : r ∈ l) (ho : o ∈ m) : f r o = false := by
  cases e : f r o with
  | false => rfl
  | true =>
    have : npB f l m = true := List.any_eq_true.2 ⟨r, hr, List.any_eq_true.2 ⟨o, ho, e⟩⟩
    rw [h] at this
    cases this
/-- what lies on a sheet lies well -/
structure OnS (s : ShT) (l : List Rc) : Prop where
  v : ∀ r ∈ l, vrR r = true
  ap : Apart l
  i : ∀ r ∈ l, 0 ≤ r.x ∧ r.x + r.w ≤ s.wd ∧ 0 ≤ r.y ∧ r.y + r.h ≤ s.ht
  o : ∀ r ∈ l, ∀ o ∈ s.cl ++ s.us, ovR r o = false
theorem OnS.app {s : ShT} {l m : List Rc} (h : OnS s l) (k : OnS s m) (hc : ∀ r ∈ m, ∀ o ∈ l, ovR r o = false) : OnS s (l ++ m) := by
  refine ⟨fun r hr => ?_, List.pairwise_append.2 ⟨h.ap, k.ap, fun a ha b hb => by rw [ovR_comm]; exact hc b hb a ha⟩, fun r hr => ?_, fun r hr => ?_⟩
  · rcases List.mem_append.1 hr with q | q
    · exact h.v r q
    · exact k.v r q
  · rcases List.mem_append.1 hr with q | q
    · exact h.i r q
    · exact k.i r q
  · rcases List.mem_append.1 hr with q | q
    · exact h.o r q
    · exact k.o r q
theorem OneR.on {S : List ShT} {Ps : List Pc} {bs : Pc → Bool} {t : St} {L : List At6} {z : At6} {i j : Nat} {p : Pc} {s : ShT} (h : OneR S Ps t L z i j p s) (z4 : vpE p (bs p) = 0) (hS : ShG s) (htm : 0 ≤ t.m) : OnS s (mRl p z) := by
  have hv : ∀ r ∈ mRl p z, vrR r = true := fun r hr => by
    obtain ⟨_, _, h3⟩ := puB_iff.1 h.pu
    rw [Bool.and_eq_true] at h3
    exact vaB_iff.1 h3.1 r hr
  have hw := h.we
  unfold weB at hw
  rw [Bool.and_eq_true, Bool.not_eq_true'] at hw
  refine ⟨hv, apart_m (vpE_good z4).1 z, fun r hr => ?_, fun r hr o ho => ?_⟩
  · have := (isR_iff _ _).1 (List.all_eq_true.1 hw.1 r hr)
    dsimp only at this
    omega
  · rw [ovR_ovQ (hv r hr) (hS.v o ho)]
    exact npB_at hw.2 hr ho
theorem vsE_in {s : ShT} (h : vsE s = 0) : ∀ o ∈ s.cl ++ s.us, 0 ≤ o.x ∧ o.x + o.w ≤ s.wd ∧ 0 ≤ o.y ∧ o.y + o.h ≤ s.ht := by
  have h0 : stE s.nm s.mt s.ga s.gr = 0 := Classical.byContradiction fun k => by
    rw [vs_st k] at h
    exact k h
  rw [vs_go h0] at h
  split at h
  · split at h
    · exact absurd h (by decide)
    · split at h
      · split at h
        · rename_i h4
          rw [Bool.and_eq_true] at h4
          intro o ho
          have hi : isR o ⟨0, 0, s.wd, s.ht⟩ = true := by
            rcases List.mem_append.1 ho with q | q
            · exact List.all_eq_true.1 h4.1 o q
            · exact List.all_eq_true.1 h4.2 o q
          have := (isR_iff _ _).1 hi
          dsimp only at this
          omega
        · exact absurd h (by decide)
      · exact absurd h (by decide)
  · exact absurd h (by decide)
end RG
end Go.Proofs.YtddhaiaapomdjaaGreat
set_option linter.unusedVariables false
set_option linter.unusedSimpArgs false
namespace Go.Proofs.YtddhaiaapomdjaaGreat
set_option linter.unusedVariables false
set_option linter.unusedSimpArgs false
open Go Go.ChangeShapes Go.WideShapes Go.ChangeAt Go.RowKit Go.Deep

namespace RG
set_option maxHeartbeats 4000000 in
set_option maxRecDepth 100000 in
theorem covers6_any (A : Option Addr) (c : Nat) (l : List Rc) (x y : Int) (w : World) (hl : SlR w A c l) (hv : ∀ r ∈ l, InM 1048576 r) :
    Calls Tryz.prog 98 #[.slice A l.length c, iv x, iv y] w fun e w' => e = .returned (.bool (cov l x y)) ∧ Gr w w' := by
  have n1 := hl.cap
  have n2 := hl.capB
  have HL := hide hl
  have HV := hide hv
  clear hl hv
  go_enter Tryz.func98, Tryz.ntmps98
  go_wp2
  go_loopw [7] (fun i wr => ∃ k : Nat, k ≤ l.length ∧ i = iv k ∧ Gr w wr ∧ Hid (∀ (j : Nat) (s : Rc), j < k → l[j]? = some s → (!inR s x y) = true)) (fun i _ => l.length - (intOf i).toNat)
  case atStart => exact ⟨0, by omega, rfl, Gr.refl _, hide (fun j r h => absurd h (Nat.not_lt_zero j))⟩
  case round =>
    obtain ⟨k, hk, rfl, g, HS⟩ := hrel
    by_cases hkl : k < l.length
    · obtain ⟨r, hr⟩ : ∃ r, l[k]? = some r := ⟨_, List.getElem?_eq_getElem hkl⟩
      obtain ⟨b, o, rfl, x0, x1, x2, x3⟩ := (HL.out.gr g).at_ hr
      have HR := hide hr
      have hb := HV.out r (List.mem_of_getElem? hr)
      have m1 := hb.w
      have m2 := hb.h
      have m3 := hb.x
      have m4 := hb.y
      have m5 := hb.x'
      have m6 := hb.y'
      have hk0 : (0 : Int) ≤ (k : Int) := by omega
      have hk1 : (k : Int) < (l.length : Int) := by omega
      have e1 : IntKind.i64.wrap (r.x + r.w) = r.x + r.w := IntWalk.i64_in _ (by omega)
      have e2 : IntKind.i64.wrap (r.y + r.h) = r.y + r.h := IntWalk.i64_in _ (by omega)
      clear hr hb
      have HIR := hide (@inR_iff r x y)
      have key : (decide (r.x ≤ x) = false) ∨ (decide (r.x ≤ x) = true ∧ decide (x < r.x + r.w) = false) ∨ (decide (r.x ≤ x) = true ∧ decide (x < r.x + r.w) = true ∧ decide (r.y ≤ y) = false) ∨ (decide (r.x ≤ x) = true ∧ decide (x < r.x + r.w) = true ∧ decide (r.y ≤ y) = true ∧ decide (y < r.y + r.h) = false) ∨ (decide (r.x ≤ x) = true ∧ decide (x < r.x + r.w) = true ∧ decide (r.y ≤ y) = true ∧ decide (y < r.y + r.h) = true) := by
        simp only [decide_eq_true_eq, decide_eq_false_iff_not]
        omega
      have HS' := hide (fun q => all_more (p := fun s => !inR s x y) HS.out HR.out q)
      have HE := hide (fun q => cov_true_at (x := x) (y := y) HR.out q)
      clear m1 m2 m3 m4 m5 m6
      rcases key with a1 | ⟨a1, a2⟩ | ⟨a1, a2, a3⟩ | ⟨a1, a2, a3, a4⟩ | ⟨a1, a2, a3, a4⟩
      · have HS2 := hide (HS'.out (by simp only [Bool.not_eq_true', Bool.eq_false_iff]; intro k; have := HIR.out.1 k; simp only [decide_eq_false_iff_not] at a1; omega))
        clear HS' HE HIR
        go_wp2
        go_roundw
        case rel => exact ⟨k + 1, by omega, by go_num, (by with_reducible repeat (first | exact Gr.refl _ | assumption | refine Gr.alloc ?_ _ | refine Gr.drewN ?_ _ | refine Gr.drew ?_ | refine Gr.setCell ?_ (by first | (dsimp only; omega) | (simp only [World.size_alloc]; omega) | (refine Gr.size ?_; (repeat (first | exact Gr.refl _ | assumption | refine Gr.alloc ?_ _ | refine Gr.drewN ?_ _ | refine Gr.drew ?_ | refine Gr.trans ?_ (by assumption))); done)) _ | refine Gr.trans ?_ (by assumption))), HS2⟩
        case measure => simp only [intOf]; omega
      · have HS2 := hide (HS'.out (by simp only [Bool.not_eq_true', Bool.eq_false_iff]; intro k; have := HIR.out.1 k; simp only [decide_eq_false_iff_not] at a2; omega))
        clear HS' HE HIR
        go_wp2
        go_roundw
        case rel => exact ⟨k + 1, by omega, by go_num, (by with_reducible repeat (first | exact Gr.refl _ | assumption | refine Gr.alloc ?_ _ | refine Gr.drewN ?_ _ | refine Gr.drew ?_ | refine Gr.setCell ?_ (by first | (dsimp only; omega) | (simp only [World.size_alloc]; omega) | (refine Gr.size ?_; (repeat (first | exact Gr.refl _ | assumption | refine Gr.alloc ?_ _ | refine Gr.drewN ?_ _ | refine Gr.drew ?_ | refine Gr.trans ?_ (by assumption))); done)) _ | refine Gr.trans ?_ (by assumption))), HS2⟩
        case measure => simp only [intOf]; omega
      · have HS2 := hide (HS'.out (by simp only [Bool.not_eq_true', Bool.eq_false_iff]; intro k; have := HIR.out.1 k; simp only [decide_eq_false_iff_not] at a3; omega))
        clear HS' HE HIR
        go_wp2
        go_roundw
        case rel => exact ⟨k + 1, by omega, by go_num, (by with_reducible repeat (first | exact Gr.refl _ | assumption | refine Gr.alloc ?_ _ | refine Gr.drewN ?_ _ | refine Gr.drew ?_ | refine Gr.setCell ?_ (by first | (dsimp only; omega) | (simp only [World.size_alloc]; omega) | (refine Gr.size ?_; (repeat (first | exact Gr.refl _ | assumption | refine Gr.alloc ?_ _ | refine Gr.drewN ?_ _ | refine Gr.drew ?_ | refine Gr.trans ?_ (by assumption))); done)) _ | refine Gr.trans ?_ (by assumption))), HS2⟩
        case measure => simp only [intOf]; omega
      · have HS2 := hide (HS'.out (by simp only [Bool.not_eq_true', Bool.eq_false_iff]; intro k; have := HIR.out.1 k; simp only [decide_eq_false_iff_not] at a4; omega))
        clear HS' HE HIR
        go_wp2
        go_roundw
        case rel => exact ⟨k + 1, by omega, by go_num, (by with_reducible repeat (first | exact Gr.refl _ | assumption | refine Gr.alloc ?_ _ | refine Gr.drewN ?_ _ | refine Gr.drew ?_ | refine Gr.setCell ?_ (by first | (dsimp only; omega) | (simp only [World.size_alloc]; omega) | (refine Gr.size ?_; (repeat (first | exact Gr.refl _ | assumption | refine Gr.alloc ?_ _ | refine Gr.drewN ?_ _ | refine Gr.drew ?_ | refine Gr.trans ?_ (by assumption))); done)) _ | refine Gr.trans ?_ (by assumption))), HS2⟩
        case measure => simp only [intOf]; omega
      · have HE2 := hide (HE.out (HIR.out.2 (by simp only [decide_eq_true_eq] at a1 a2 a3 a4; omega)))
        clear HS' HE HIR
        go_wp2
        go_ret
        exact ⟨ret_bool HE2.out.symm, (by with_reducible repeat (first | exact Gr.refl _ | assumption | refine Gr.alloc ?_ _ | refine Gr.drewN ?_ _ | refine Gr.drew ?_ | refine Gr.setCell ?_ (by first | (dsimp only; omega) | (simp only [World.size_alloc]; omega) | (refine Gr.size ?_; (repeat (first | exact Gr.refl _ | assumption | refine Gr.alloc ?_ _ | refine Gr.drewN ?_ _ | refine Gr.drew ?_ | refine Gr.trans ?_ (by assumption))); done)) _ | refine Gr.trans ?_ (by assumption)))⟩
    · obtain rfl : k = l.length := by omega
      have HE := hide (cov_none HS.out)
      go_wp2
      go_ret
      exact ⟨ret_bool HE.out.symm, (by with_reducible repeat (first | exact Gr.refl _ | assumption | refine Gr.alloc ?_ _ | refine Gr.drewN ?_ _ | refine Gr.drew ?_ | refine Gr.setCell ?_ (by first | (dsimp only; omega) | (simp only [World.size_alloc]; omega) | (refine Gr.size ?_; (repeat (first | exact Gr.refl _ | assumption | refine Gr.alloc ?_ _ | refine Gr.drewN ?_ _ | refine Gr.drew ?_ | refine Gr.trans ?_ (by assumption))); done)) _ | refine Gr.trans ?_ (by assumption)))⟩
end RG
end Go.Proofs.YtddhaiaapomdjaaGreat
set_option linter.unusedVariables false
set_option linter.unusedSimpArgs false
namespace Go.Proofs.YtddhaiaapomdjaaGreat
set_option linter.unusedVariables false
set_option linter.unusedSimpArgs false
open Go Go.ChangeShapes Go.WideShapes Go.ChangeAt Go.RowKit Go.Deep

namespace RG
theorem lnX_snoc6 {l : List Rc} {k : Nat} {r : Rc} (h : l[k]? = some r) : lnX (l.take (k + 1)) = ins (ins (lnX (l.take k)) r.x) (r.x + r.w) := by
  unfold lnX
  rw [take_at h, List.foldl_append]
  rfl
theorem lnY_snoc6 {l : List Rc} {k : Nat} {r : Rc} (h : l[k]? = some r) : lnY (l.take (k + 1)) = ins (ins (lnY (l.take k)) r.y) (r.y + r.h) := by
  unfold lnY
  rw [take_at h, List.foldl_append]
  rfl
theorem lnX_6 (l : List Rc) : Up (lnX l) ∧ (lnX l).length ≤ 2 * l.length := ⟨up_lnX l, len_lnX l⟩
theorem lnY_6 (l : List Rc) : Up (lnY l) ∧ (lnY l).length ≤ 2 * l.length := ⟨up_lnY l, len_lnY l⟩
theorem ins_two {w w' : World} {lo : Nat} {e : TypeId} {A1 A2 D : Option Addr} {n1 d1 n2 d2 : Nat} {X Y : List Int} (hX : OwnL w lo e 1 inL (.slice A1 n1 d1) X) (hY : OwnL w lo e 1 inL (.slice A2 n2 d2) Y) (hd : ∀ b, A1.map Addr.block = some b → A2.map Addr.block = some b → False) (h : InsR (A1.map Addr.block) w w' D) :
    OwnL w' lo e 1 inL (.slice A2 n2 d2) Y ∧ ∀ b, D.map Addr.block = some b → A2.map Addr.block = some b → False := by
  refine ⟨hY.kx h.kx (fun i hi e' => hd i e' ((own_map hY).1 hi)), fun b hb hb' => ?_⟩
  rcases h.fr b hb with c | c
  · exact hd b c hb'
  · have := (own_lo hY hb').2
    omega
set_option maxHeartbeats 16000000 in
set_option maxRecDepth 100000 in
theorem grid6_any (A : Option Addr) (c : Nat) (l : List Rc) (w : World) (hl : SlR w A c l) (hv : ∀ r ∈ l, InM 1048576 r) (hn : l.length ≤ 1000) :
    Calls Tryz.prog 97 #[.slice A l.length c] w fun e w' => ∃ (D1 D2 : Option Addr) (d1 d2 : Nat), e = .returned (.tuple #[.slice D1 (lnX l).length d1, .slice D2 (lnY l).length d2]) ∧ SlI w' D1 d1 (lnX l) ∧ SlI w' D2 d2 (lnY l) ∧ Gr w w' := by
  have m1 := hl.cap
  have m2 := hl.capB
  have HL := hide hl
  have HV := hide hv
  clear hl hv
  go_enter Tryz.func97, Tryz.ntmps97
  go_wp2
  go_loopw [4, 5, 6] (fun u v i wr => ∃ (k n1 n2 : Nat) (A1 A2 : Option Addr) (d1 d2 : Nat) (X Y : List Int), k ≤ l.length ∧ i = iv k ∧ u = .slice A1 n1 d1 ∧ v = .slice A2 n2 d2 ∧ Gr w wr ∧ Hid (OwnL wr w.heap.size 3 1 inL (.slice A1 n1 d1) X) ∧ Hid (OwnL wr w.heap.size 3 1 inL (.slice A2 n2 d2) Y) ∧ Hid (X = lnX (l.take k)) ∧ Hid (Y = lnY (l.take k)) ∧ Hid (∀ b, A1.map Addr.block = some b → A2.map Addr.block = some b → False)) (fun _ _ i _ => l.length - (intOf i).toNat)
  case atStart => exact ⟨0, 0, 0, none, none, 0, 0, [], [], by omega, rfl, rfl, rfl, Gr.refl _, hide (own_nil _ _ _ _ _), hide (own_nil _ _ _ _ _), hide rfl, hide rfl, hide nofun⟩
  case round =>
    obtain ⟨k, n1', n2', A1, A2, d1', d2', X, Y, hk, rfl, rfl, rfl, g, HX, HY, HEX, HEY, HDJ⟩ := hrel
    by_cases hkl : k < l.length
    · obtain ⟨r, hr⟩ : ∃ r, l[k]? = some r := ⟨_, List.getElem?_eq_getElem hkl⟩
      obtain ⟨b1, o1, hA, _⟩ := (HL.out.gr g).at_ hr
      subst hA
      have HR := hide hr
      have hk0 : (0 : Int) ≤ (k : Int) := by omega
      have hk1 : (k : Int) < (l.length : Int) := by omega
      obtain ⟨u1, u2, u3, u4, u5, u6⟩ := HV.out r (List.mem_of_getElem? hr)
      have W1 : IntKind.i64.wrap (r.x + r.w) = r.x + r.w := IntWalk.i64_in _ (by omega)
      have W2 : IntKind.i64.wrap (r.y + r.h) = r.y + r.h := IntWalk.i64_in _ (by omega)
      have HU1 := hide (show Up X by rw [HEX.out]; exact (lnX_6 _).1)
      have HU2 := hide (show Up Y by rw [HEY.out]; exact (lnY_6 _).1)
      have HB1 := hide (show X.length ≤ 2000 by rw [HEX.out]; have := (lnX_6 (l.take k)).2; rw [List.length_take] at this; omega)
      have HB2 := hide (show Y.length ≤ 2000 by rw [HEY.out]; have := (lnY_6 (l.take k)).2; rw [List.length_take] at this; omega)
      have HN1 := hide (show X.length ≤ 100000 by have := HB1.out; omega)
      have HN2 := hide (show Y.length ≤ 100000 by have := HB2.out; omega)
      have HEX2 := hide (show ins (ins X r.x) (r.x + r.w) = lnX (l.take (k + 1)) by rw [lnX_snoc6 hr, HEX.out])
      have HEY2 := hide (show ins (ins Y r.y) (r.y + r.h) = lnY (l.take (k + 1)) by rw [lnY_snoc6 hr, HEY.out])
      clear hr HEX HEY u1 u2 u3 u4 u5 u6
      go_upto_region 5 with fail
      obtain ⟨b', o', hA, x0, x1, x2, x3⟩ := (HL.out.gr g).at_ HR.out
      cases hA
      have hbl : b1 < wr.heap.size := cell_lt (by rw [x0]; rfl)
      go_upto_region 6 with (go_at_call 138; refine (insert6_at (HX.out.gr (by with_reducible repeat (first | exact Gr.refl _ | assumption | refine Gr.alloc ?_ _ | refine Gr.drewN ?_ _ | refine Gr.drew ?_ | refine Gr.setCell ?_ (by first | (dsimp only; omega) | (simp only [World.size_alloc]; omega) | (refine Gr.size ?_; (repeat (first | exact Gr.refl _ | assumption | refine Gr.alloc ?_ _ | refine Gr.drewN ?_ _ | refine Gr.drew ?_ | refine Gr.trans ?_ (by assumption))); done)) _ | refine Gr.trans ?_ (by assumption)))) (Nat.le_trans (Gr.size g) (Gr.size (show Gr wr _ from (by with_reducible repeat (first | exact Gr.refl _ | assumption | refine Gr.alloc ?_ _ | refine Gr.drewN ?_ _ | refine Gr.drew ?_ | refine Gr.setCell ?_ (by first | (dsimp only; omega) | (simp only [World.size_alloc]; omega) | (refine Gr.size ?_; (repeat (first | exact Gr.refl _ | assumption | refine Gr.alloc ?_ _ | refine Gr.drewN ?_ _ | refine Gr.drew ?_ | refine Gr.trans ?_ (by assumption))); done)) _ | refine Gr.trans ?_ (by assumption)))))) HU1.out HN1.out).mono ?_; rintro e v1 ⟨D1, N1, e1, rfl, ho6, hi6⟩; (have HO1 := hide ho6); (have HI := hide hi6); clear ho6 hi6)
      have HST := hide (ins_two HX.out HY.out HDJ.out HI.out)
      have g1 : Gr w v1 := HI.out.toGr (fun i hi => (own_lo HX.out hi).1) g (Nat.le_refl _)
      have HP1 := hide HST.out.1
      have HD1 := hide HST.out.2
      clear HST HI x0 x1 x2 x3 hbl
      have HU1b := hide (up_ins HU1.out (n := r.x))
      have HN1b := hide (show (ins X r.x).length ≤ 100000 by have := len_ins X r.x; have := HB1.out; omega)
      go_upto_region 6 with fail
      obtain ⟨b', o', hA, x0, x1, x2, x3⟩ := (HL.out.gr g1).at_ HR.out
      cases hA
      have hbl : b1 < v1.heap.size := cell_lt (by rw [x0]; rfl)
      have GC := @GrW.cell
      refine wp_region_grw_pre 12 (by kernel_rfl) (by kernel_rfl) ?_
      simp only [List.take_succ_cons, List.take_zero]
      repeat (go_big_quiet_step (fail))
      refine wpQuiet_nil ?_
      intro wq hwq
      obtain ⟨gq, hwq'⟩ := hwq
      subst hwq'
      clear GC
      have gq1 := gq.gr
      generalize gq.w = wq at gq1 ⊢
      obtain ⟨Xq, Yq, cq, fq⟩ := gq1.use
      change wpAny _ .any _ _ 2 #[true, true, true, true, true, true, true, true, true, true, true, true, false, false] _ _
      refine wpAny_ready (rs := [12]) (by kernel_rfl) (by simp) ?_
      refine AllReady.cons rfl (fun K hK => ?_) AllReady.nil
      go_simp
      go_wp2_with (go_at_call 138; refine (insert6_at (HO1.out.gr (by with_reducible repeat (first | exact Gr.refl _ | assumption | refine Gr.alloc ?_ _ | refine Gr.drewN ?_ _ | refine Gr.drew ?_ | refine Gr.setCell ?_ (by first | (dsimp only; omega) | (simp only [World.size_alloc]; omega) | (refine Gr.size ?_; (repeat (first | exact Gr.refl _ | assumption | refine Gr.alloc ?_ _ | refine Gr.drewN ?_ _ | refine Gr.drew ?_ | refine Gr.trans ?_ (by assumption))); done)) _ | refine Gr.trans ?_ (by assumption)))) (Nat.le_trans (Gr.size g1) (Gr.size (show Gr v1 _ from (by with_reducible repeat (first | exact Gr.refl _ | assumption | refine Gr.alloc ?_ _ | refine Gr.drewN ?_ _ | refine Gr.drew ?_ | refine Gr.setCell ?_ (by first | (dsimp only; omega) | (simp only [World.size_alloc]; omega) | (refine Gr.size ?_; (repeat (first | exact Gr.refl _ | assumption | refine Gr.alloc ?_ _ | refine Gr.drewN ?_ _ | refine Gr.drew ?_ | refine Gr.trans ?_ (by assumption))); done)) _ | refine Gr.trans ?_ (by assumption)))))) HU1b.out HN1b.out).mono ?_; rintro e v2 ⟨D2, N2, e2, rfl, ho6, hi6⟩; (have HO2 := hide ho6); (have HI := hide hi6); clear ho6 hi6)
      (try (refine hK _ _ ?_; clear hK K))
      refine wpAny_ready (rs := [13]) (by kernel_rfl) (by simp) ?_
      refine AllReady.cons rfl (fun K hK => ?_) AllReady.nil
      go_simp
      refine hK _ _ ?_
      clear hK K
      refine wpAny_done (by kernel_rfl) ?_ _
      have HST := hide (ins_two (HO1.out.gr gq1) (HP1.out.gr gq1) HD1.out HI.out)
      have g2 : Gr w v2 := HI.out.toGr (fun i hi => (own_lo (HO1.out.gr gq1) hi).1) (g1.trans gq1) (Nat.le_refl _)
      clear cq fq Xq Yq gq1
      have HP2 := hide HST.out.1
      have HD2 := hide HST.out.2
      clear HST HI x0 x1 x2 x3 hbl
      have HDS := hide (fun (b : Nat) (h : A2.map Addr.block = some b) (h' : D2.map Addr.block = some b) => HD2.out b h' h)
      go_upto_region 7 with fail
      obtain ⟨b', o', hA, x0, x1, x2, x3⟩ := (HL.out.gr g2).at_ HR.out
      cases hA
      have hbl : b1 < v2.heap.size := cell_lt (by rw [x0]; rfl)
      go_upto_region 8 with (go_at_call 138; refine (insert6_at (HP2.out.gr (by with_reducible repeat (first | exact Gr.refl _ | assumption | refine Gr.alloc ?_ _ | refine Gr.drewN ?_ _ | refine Gr.drew ?_ | refine Gr.setCell ?_ (by first | (dsimp only; omega) | (simp only [World.size_alloc]; omega) | (refine Gr.size ?_; (repeat (first | exact Gr.refl _ | assumption | refine Gr.alloc ?_ _ | refine Gr.drewN ?_ _ | refine Gr.drew ?_ | refine Gr.trans ?_ (by assumption))); done)) _ | refine Gr.trans ?_ (by assumption)))) (Nat.le_trans (Gr.size g2) (Gr.size (show Gr v2 _ from (by with_reducible repeat (first | exact Gr.refl _ | assumption | refine Gr.alloc ?_ _ | refine Gr.drewN ?_ _ | refine Gr.drew ?_ | refine Gr.setCell ?_ (by first | (dsimp only; omega) | (simp only [World.size_alloc]; omega) | (refine Gr.size ?_; (repeat (first | exact Gr.refl _ | assumption | refine Gr.alloc ?_ _ | refine Gr.drewN ?_ _ | refine Gr.drew ?_ | refine Gr.trans ?_ (by assumption))); done)) _ | refine Gr.trans ?_ (by assumption)))))) HU2.out HN2.out).mono ?_; rintro e v3 ⟨D3, N3, e3, rfl, ho6, hi6⟩; (have HO3 := hide ho6); (have HI := hide hi6); clear ho6 hi6)
      have HST := hide (ins_two HP2.out HO2.out HDS.out HI.out)
      have g3 : Gr w v3 := HI.out.toGr (fun i hi => (own_lo HP2.out hi).1) g2 (Nat.le_refl _)
      have HP3 := hide HST.out.1
      have HD3 := hide HST.out.2
      clear HST HI x0 x1 x2 x3 hbl
      have HU2b := hide (up_ins HU2.out (n := r.y))
      have HN2b := hide (show (ins Y r.y).length ≤ 100000 by have := len_ins Y r.y; have := HB2.out; omega)
      go_upto_region 8 with fail
      obtain ⟨b', o', hA, x0, x1, x2, x3⟩ := (HL.out.gr g3).at_ HR.out
      cases hA
      have hbl : b1 < v3.heap.size := cell_lt (by rw [x0]; rfl)
      have GC := @GrW.cell
      refine wp_region_grw_pre 12 (by kernel_rfl) (by kernel_rfl) ?_
      simp only [List.take_succ_cons, List.take_zero]
      repeat (go_big_quiet_step (fail))
      refine wpQuiet_nil ?_
      intro wq hwq
      obtain ⟨gq, hwq'⟩ := hwq
      subst hwq'
      clear GC
      have gq1 := gq.gr
      generalize gq.w = wq at gq1 ⊢
      obtain ⟨Xq, Yq, cq, fq⟩ := gq1.use
      change wpAny _ .any _ _ 2 #[true, true, true, true, true, true, true, true, true, true, true, true, false, false] _ _
      refine wpAny_ready (rs := [12]) (by kernel_rfl) (by simp) ?_
      refine AllReady.cons rfl (fun K hK => ?_) AllReady.nil
      go_simp
      go_wp2_with (go_at_call 138; refine (insert6_at (HO3.out.gr (by with_reducible repeat (first | exact Gr.refl _ | assumption | refine Gr.alloc ?_ _ | refine Gr.drewN ?_ _ | refine Gr.drew ?_ | refine Gr.setCell ?_ (by first | (dsimp only; omega) | (simp only [World.size_alloc]; omega) | (refine Gr.size ?_; (repeat (first | exact Gr.refl _ | assumption | refine Gr.alloc ?_ _ | refine Gr.drewN ?_ _ | refine Gr.drew ?_ | refine Gr.trans ?_ (by assumption))); done)) _ | refine Gr.trans ?_ (by assumption)))) (Nat.le_trans (Gr.size g3) (Gr.size (show Gr v3 _ from (by with_reducible repeat (first | exact Gr.refl _ | assumption | refine Gr.alloc ?_ _ | refine Gr.drewN ?_ _ | refine Gr.drew ?_ | refine Gr.setCell ?_ (by first | (dsimp only; omega) | (simp only [World.size_alloc]; omega) | (refine Gr.size ?_; (repeat (first | exact Gr.refl _ | assumption | refine Gr.alloc ?_ _ | refine Gr.drewN ?_ _ | refine Gr.drew ?_ | refine Gr.trans ?_ (by assumption))); done)) _ | refine Gr.trans ?_ (by assumption)))))) HU2b.out HN2b.out).mono ?_; rintro e v4 ⟨D4, N4, e4, rfl, ho6, hi6⟩; (have HO4 := hide ho6); (have HI := hide hi6); clear ho6 hi6)
      (try (refine hK _ _ ?_; clear hK K))
      refine wpAny_ready (rs := [13]) (by kernel_rfl) (by simp) ?_
      refine AllReady.cons rfl (fun K hK => ?_) AllReady.nil
      go_simp
      refine hK _ _ ?_
      clear hK K
      refine wpAny_done (by kernel_rfl) ?_ _
      have HST := hide (ins_two (HO3.out.gr gq1) (HP3.out.gr gq1) HD3.out HI.out)
      have g4 : Gr w v4 := HI.out.toGr (fun i hi => (own_lo (HO3.out.gr gq1) hi).1) (g3.trans gq1) (Nat.le_refl _)
      clear cq fq Xq Yq gq1
      have HP4 := hide HST.out.1
      have HD4 := hide HST.out.2
      clear HST HI x0 x1 x2 x3 hbl
      go_wp2
      go_roundw
      case rel => exact ⟨k + 1, N2, N4, D2, D4, e2, e4, _, _, by omega, by go_num, rfl, rfl, g4, HP4, HO4, HEX2, HEY2, hide (fun b h h' => HD4.out b h' h)⟩
      case measure => simp only [intOf]; omega
    · obtain rfl : k = l.length := by omega
      obtain rfl := own_n HX.out
      obtain rfl := own_n HY.out
      have HEX2 := hide (show X = lnX l by rw [HEX.out, List.take_length])
      have HEY2 := hide (show Y = lnY l by rw [HEY.out, List.take_length])
      have HSX := hide (show SlI wr A1 d1' (lnX l) from by rw [← HEX2.out]; exact own_sli HX.out)
      have HSY := hide (show SlI wr A2 d2' (lnY l) from by rw [← HEY2.out]; exact own_sli HY.out)
      clear HEX HEY HX HY
      go_wp2
      go_ret2
      exact ⟨A1, A2, d1', d2', by rw [← HEX2.out, ← HEY2.out]; rfl, HSX.out, HSY.out, g⟩
end RG
end Go.Proofs.YtddhaiaapomdjaaGreat
set_option linter.unusedVariables false
set_option linter.unusedSimpArgs false
namespace Go.Proofs.YtddhaiaapomdjaaGreat
set_option linter.unusedVariables false
set_option linter.unusedSimpArgs false
open Go Go.ChangeShapes Go.WideShapes Go.ChangeAt Go.RowKit Go.Deep

namespace RG
set_option maxHeartbeats 16000000 in
set_option maxRecDepth 100000 in
theorem area6_any (A : Option Addr) (c : Nat) (l : List Rc) (w : World) (hl : SlR w A c l) (hv : ∀ r ∈ l, InM 1048576 r) (hn : l.length ≤ 1000) :
    Calls Tryz.prog 57 #[.slice A l.length c] w fun e w' => e = .returned (iv (areaV l)) ∧ Gr w w' := by
  have HGD := hide (fun (w' : World) (g : Gr w w') => grid6_any A c l w' (hl.gr g) hv hn)
  have HCV := hide (fun (x y : Int) (w' : World) (g : Gr w w') => covers6_any A c l x y w' (hl.gr g) hv)
  have HXB := hide (len_lnX l)
  have HYB := hide (len_lnY l)
  have HE := hide (show areaV l = sumX (lnX l) (lnY l) (cel (lnX l) (lnY l) l) ((lnX l).length - 1) from rfl)
  have HCL := hide (fun (i j : Nat) (x y : Int) (hx : (lnX l)[i]? = some x) (hy : (lnY l)[j]? = some y) => show cel (lnX l) (lnY l) l i j = cov l x y by unfold cel; rw [hx, hy]; rfl)
  have n1 := hl.cap
  have n2 := hl.capB
  clear hl hv
  obtain ⟨CC, hCC⟩ : ∃ CC, cel (lnX l) (lnY l) l = CC := ⟨_, rfl⟩
  rw [hCC] at HE HCL
  generalize lnX l = X at *
  generalize lnY l = Y at *
  clear hCC
  go_enter Tryz.func57, Tryz.ntmps57
  go_wp2_with fail
  refine (HGD.out _ (Gr.refl _)).mono ?_
  rintro e w1 ⟨D1, D2, d1, d2, rfl, hx1, hy1, g1⟩
  have HX := hide hx1
  have HY := hide hy1
  have p1 := hx1.cap
  have p2 := hx1.capB
  have p3 := hy1.cap
  have p4 := hy1.capB
  have hXB : X.length ≤ 2000 := by have := HXB.out; omega
  have hYB : Y.length ≤ 2000 := by have := HYB.out; omega
  clear hx1 hy1 HGD HXB HYB
  go_wp2_with fail
  go_loopw [5, 6] (fun s i wr => ∃ k : Nat, k ≤ X.length - 1 ∧ i = iv k ∧ s = iv (sumX X Y CC k) ∧ Gr w1 wr) (fun _ i _ => X.length - (intOf i).toNat)
  case atStart => exact ⟨0, by omega, rfl, rfl, Gr.refl _⟩
  case round =>
    obtain ⟨k, hk, rfl, rfl, g2⟩ := hrel
    have W1 : IntKind.i64.wrap ((k : Int) + 1) = (k : Int) + 1 := IntWalk.i64_in _ (by omega)
    by_cases hkl : k + 1 < X.length
    · have hk1 : decide ((k : Int) + 1 < (X.length : Int)) = true := decide_eq_true (by omega)
      obtain ⟨x, hx⟩ : ∃ x, X[k]? = some x := ⟨_, List.getElem?_eq_getElem (by omega)⟩
      obtain ⟨x', hx'⟩ : ∃ x, X[k + 1]? = some x := ⟨_, List.getElem?_eq_getElem (by omega)⟩
      have HXI := hide hx
      have HXI' := hide hx'
      have HSX := hide (show sumX X Y CC (k + 1) = sumY X Y CC k (sumX X Y CC k) (Y.length - 1) from rfl)
      generalize sumX X Y CC k = SX at *
      clear hx hx'
      go_wp2_with fail
      obtain ⟨w2, rfl⟩ : ∃ z, z = wr := ⟨_, rfl⟩
      go_loopw [5, 7] (fun s j wr => ∃ q : Nat, q ≤ Y.length - 1 ∧ j = iv q ∧ s = iv (sumY X Y CC k SX q) ∧ Gr w1 wr) (fun _ j _ => Y.length - (intOf j).toNat)
      case atStart => exact ⟨0, by omega, rfl, rfl, g2⟩
      case round =>
        obtain ⟨q, hq, rfl, rfl, g3⟩ := hrel
        have W2 : IntKind.i64.wrap ((q : Int) + 1) = (q : Int) + 1 := IntWalk.i64_in _ (by omega)
        by_cases hql : q + 1 < Y.length
        · have hq1 : decide ((q : Int) + 1 < (Y.length : Int)) = true := decide_eq_true (by omega)
          obtain ⟨y, hy⟩ : ∃ y, Y[q]? = some y := ⟨_, List.getElem?_eq_getElem (by omega)⟩
          obtain ⟨y', hy'⟩ : ∃ y, Y[q + 1]? = some y := ⟨_, List.getElem?_eq_getElem (by omega)⟩
          obtain ⟨b1, o1, hD1, x0⟩ := (HX.out.gr g3).rd.in_ HXI.out
          obtain ⟨b1', o1', hD1', x1⟩ := (HX.out.gr g3).rd.in_ HXI'.out
          subst hD1
          cases hD1'
          obtain ⟨b2, o2, hD2, y0⟩ := (HY.out.gr g3).rd.in_ hy
          obtain ⟨b2', o2', hD2', y1⟩ := (HY.out.gr g3).rd.in_ hy'
          subst hD2
          cases hD2'
          have hb1 : b1 < wr.heap.size := cell_lt (by rw [x0]; rfl)
          have hb2 : b2 < wr.heap.size := cell_lt (by rw [y0]; rfl)
          have hk0 : (0 : Int) ≤ (k : Int) := by omega
          have hk2 : (k : Int) < (X.length : Int) := by omega
          have hk3 : (0 : Int) ≤ (k : Int) + 1 := by omega
          have hk4 : (k : Int) + 1 < (X.length : Int) := by omega
          have hq0 : (0 : Int) ≤ (q : Int) := by omega
          have hq2 : (q : Int) < (Y.length : Int) := by omega
          have hq3 : (0 : Int) ≤ (q : Int) + 1 := by omega
          have hq4 : (q : Int) + 1 < (Y.length : Int) := by omega
          have HC := hide (fun (w' : World) (g : Gr wr w') => HCV.out x y w' ((‹Gr w w1›.trans g3).trans g))
          rw [← HCL.out k q x y HXI.out hy] at HC
          have HSY := hide (show sumY X Y CC k SX (q + 1) = if CC k q then wrap64 (sumY X Y CC k SX q + wrap64 (wrap64 (x' - x) * wrap64 (y' - y))) else sumY X Y CC k SX q by rw [sumY, HXI.out, HXI'.out, hy, hy']; rfl)
          generalize sumY X Y CC k SX q = SY at *
          clear hy hy'
          go_upto_region 9 with fail
          have GC := @GrW.cell
          refine wp_region_grw _ (by kernel_rfl) (by kernel_rfl) (Gr.refl _) ?_
          repeat (go_big_quiet_step ((first | (go_at_call 98; exact quiet_grw (HC.out _ (GrW.gr _))))))
          refine wpQuiet_nil ?_
          intro wq hwq
          obtain ⟨gq, hwq'⟩ := hwq
          subst hwq'
          clear GC
          have gq1 := gq.gr
          generalize gq.w = wq at gq1 ⊢
          obtain ⟨Xq, Yq, cq, fq⟩ := gq1.use
          have sq := gq1.size
          (try simp only [World.size_alloc, World.size_setCell, World.heap_drewN] at sq)
          obtain ⟨w3, rfl⟩ : ∃ z, z = wq := ⟨_, rfl⟩
          have gq2 : Gr wr w3 := gq1
          have z0 := (gq2.cell _ _ hb1).trans x0
          have z1 := (gq2.cell _ _ hb1).trans x1
          have z2 := (gq2.cell _ _ hb2).trans y0
          have z3 := (gq2.cell _ _ hb2).trans y1
          have hb1' := Nat.lt_of_lt_of_le hb1 gq2.size
          have hb2' := Nat.lt_of_lt_of_le hb2 gq2.size
          have g4 : Gr w1 w3 := g3.trans gq2
          clear cq fq Xq Yq sq gq gq1 x0 x1 y0 y1 hb1 hb2 HC
          cases hcc : CC k q with
          | false =>
            have HSY2 := hide (show sumY X Y CC k SX (q + 1) = SY by rw [HSY.out, hcc]; rfl)
            clear HSY hcc
            go_wp2_with fail
            go_roundw
            case rel => exact ⟨q + 1, by omega, by go_num, by rw [HSY2.out], g4⟩
            case measure => simp only [intOf]; omega
          | true =>
            have HSY2 := hide (show sumY X Y CC k SX (q + 1) = wrap64 (SY + wrap64 (wrap64 (x' - x) * wrap64 (y' - y))) by rw [HSY.out, hcc]; rfl)
            clear HSY hcc
            go_upto_region 10 with fail
            have GC := @GrW.cell
            refine wp_region_grw _ (by kernel_rfl) (by kernel_rfl) (Gr.refl _) ?_
            repeat (go_big_quiet_step ((first | fail)))
            refine wpQuiet_nil ?_
            intro wq hwq
            obtain ⟨gq, hwq'⟩ := hwq
            subst hwq'
            clear GC
            have gq1 := gq.gr
            generalize gq.w = wq at gq1 ⊢
            obtain ⟨Xq, Yq, cq, fq⟩ := gq1.use
            have sq := gq1.size
            (try simp only [World.size_alloc, World.size_setCell, World.heap_drewN] at sq)
            go_wp2_with fail
            go_roundw
            case rel => exact ⟨q + 1, by omega, by go_num, by rw [HSY2.out], g4.trans gq1⟩
            case measure => simp only [intOf]; omega
        · have hq1 : decide ((q : Int) + 1 < (Y.length : Int)) = false := decide_eq_false (by omega)
          obtain rfl : q = Y.length - 1 := by omega
          go_wp2_with fail
          go_roundw
          case rel => exact ⟨k + 1, by omega, by go_num, by rw [HSX.out], g3⟩
          case measure => simp only [intOf]; omega
    · have hk1 : decide ((k : Int) + 1 < (X.length : Int)) = false := decide_eq_false (by omega)
      have hke : k = X.length - 1 := by omega
      have HF := hide (show areaV l = sumX X Y CC k by rw [HE.out, hke])
      clear hke
      go_wp2_with fail
      go_ret
      exact ⟨ret_iv HF.out.symm, (by with_reducible repeat (first | exact Gr.refl _ | assumption | refine Gr.alloc ?_ _ | refine Gr.drewN ?_ _ | refine Gr.drew ?_ | refine Gr.setCell ?_ (by first | (dsimp only; omega) | (simp only [World.size_alloc]; omega) | (refine Gr.size ?_; (repeat (first | exact Gr.refl _ | assumption | refine Gr.alloc ?_ _ | refine Gr.drewN ?_ _ | refine Gr.drew ?_ | refine Gr.trans ?_ (by assumption))); done)) _ | refine Gr.trans ?_ (by assumption)))⟩
end RG
end Go.Proofs.YtddhaiaapomdjaaGreat
set_option linter.unusedVariables false
set_option linter.unusedSimpArgs false
namespace Go.Proofs.YtddhaiaapomdjaaGreat
set_option linter.unusedVariables false
set_option linter.unusedSimpArgs false
open Go Go.ChangeShapes Go.WideShapes Go.ChangeAt Go.RowKit Go.Deep

namespace RG
theorem ar_nn (M : Nat) (l : List Rc) : 0 ≤ ar M l := by
  rw [← s2_zero M]
  unfold ar
  refine s2_le fun x y => ?_
  unfold ib
  split <;> omega
theorem whole_in {s : ShT} (hS : ShG s) : InM 1048576 ⟨0, 0, s.wd, s.ht⟩ := by
  have hw := hS.wd
  have hh := hS.ht
  exact ⟨by dsimp only; omega, by dsimp only; omega, by dsimp only; omega, by dsimp only; omega, by dsimp only; omega, by dsimp only; omega⟩
theorem fr_bd {s : ShT} (h0 : vsE s = 0) : 0 ≤ ar 1048576 (s.cl ++ s.us) ∧ ar 1048576 (s.cl ++ s.us) ≤ s.wd * s.ht := by
  refine ⟨ar_nn _ _, ar_in_le (s := ⟨0, 0, s.wd, s.ht⟩) (whole_in (vsE_good h0)) fun r hr => ?_⟩
  have := vsE_in h0 r hr
  dsimp only
  omega
theorem wh_bd {s : ShT} (hS : ShG s) : 0 ≤ s.wd * s.ht ∧ s.wd * s.ht ≤ 1099511627776 := by
  obtain ⟨a1, a2⟩ := hS.wd
  obtain ⟨b1, b2⟩ := hS.ht
  exact ⟨Int.mul_nonneg (by omega) (by omega), Int.le_trans (Int.mul_le_mul a2 b2 (by omega) (by omega)) (by decide)⟩
set_option maxHeartbeats 16000000 in
set_option maxRecDepth 100000 in
theorem free6_any (s : ShT) (w : World) (hs : ShW w s) (h0 : vsE s = 0) :
    Calls Tryz.prog 41 #[s.v] w fun e w' => e = .returned (iv (frV s)) ∧ Gr w w' := by
  have hS := vsE_good h0
  have vI : ∀ r ∈ s.cl ++ s.us, InM 1048576 r := fun r hr => vrR_iff.1 (hS.v r hr)
  have hn := hS.n
  have HAR := hide (fun (D : Option Addr) (q : Nat) (w' : World) (h : SlR w' D q (s.cl ++ s.us)) => area6_any D q (s.cl ++ s.us) w' h vI (by omega))
  rw [areaV_eq vI] at HAR
  obtain ⟨f1, f2⟩ := fr_bd h0
  obtain ⟨f3, f4⟩ := wh_bd hS
  have HF := hide (show frV s = s.wd * s.ht - ar 1048576 (s.cl ++ s.us) from rfl)
  have W1 : IntKind.i64.wrap (s.wd * s.ht) = s.wd * s.ht := IntWalk.i64_in _ (by omega)
  have W2 : IntKind.i64.wrap (s.wd * s.ht - ar 1048576 (s.cl ++ s.us)) = frV s := IntWalk.i64_in _ (by omega)
  have HSC := hide hs.c
  have HSU := hide hs.u
  have n1 := hs.c.cap
  have n2 := hs.c.capB
  have n3 := hs.u.cap
  have n4 := hs.u.capB
  have hcl : s.cl.length + s.us.length ≤ 52 := by rw [← List.length_append]; exact hn
  generalize ar 1048576 (s.cl ++ s.us) = AV at *
  generalize frV s = FV at *
  obtain ⟨H, hH⟩ : ∃ H, s.cl ++ s.us = H := ⟨_, rfl⟩
  rw [hH] at HAR
  have HHC := hide hH
  have HHL := hide (show H.length = s.cl.length + s.us.length by rw [← hH, List.length_append])
  obtain ⟨nm, mt, ga, gr, wd, ht, cA, cc, cl, uA, uc, us⟩ := s
  dsimp only at HSC HSU n1 n2 n3 n4 hcl HHC HHL W1 W2
  clear hs h0 hS vI hn HF f1 f2 f3 f4 hH
  obtain ⟨WH, hWH⟩ : ∃ WH, wd * ht = WH := ⟨_, rfl⟩
  rw [hWH] at W2
  have W1' : IntKind.i64.wrap (wd * ht) = WH := by rw [W1, hWH]
  clear W1 hWH
  go_enter Tryz.func41, Tryz.ntmps41
  go_upto_region 1 with fail
  obtain ⟨w5, hw5⟩ : ∃ W, w.alloc (.cells #[.string nm, .string mt, iv ga, iv gr, iv wd, iv ht, .slice cA cl.length cc, .slice uA us.length uc] 24) = W := ⟨_, rfl⟩
  have HM := hide (show Made w5 w.heap.size #[.string nm, .string mt, iv ga, iv gr, iv wd, iv ht, .slice cA cl.length cc, .slice uA us.length uc] from by rw [← hw5]; exact Made.new _ _ _)
  have gw5 : Gr w w5 := by rw [← hw5]; exact Gr.alloc (Gr.refl _) _
  rw [hw5]
  clear hw5
  generalize w.heap.size = b1 at HM ⊢
  obtain ⟨l7, y0, _⟩ := HM.out
  have a3 := y0 4
  have a4 := y0 5
  have a5 := y0 6
  have a6 := y0 7
  clear y0
  have HOL := hide (fun (w' : World) (g' : Gr (w5.alloc (.cells #[] 70)) w') => (own_lit (c := rcL) (k := 4) w5 w5.heap.size 70 #[] [] (Nat.le_refl _) (fun _ => rfl) rfl (by decide)).gr g')
  have SC1 := hide (fun (w' : World) (g' : Gr w5 w') => HSC.out.gr (gw5.trans g'))
  have SC2 := hide (fun (w' : World) (g' : Gr w5 w') => HSU.out.gr (gw5.trans g'))
  go_region_held3 (fun w' => (w'.cell? ⟨b1, 4, none⟩ = some (iv wd) ∧ w'.cell? ⟨b1, 5, none⟩ = some (iv ht) ∧ w'.cell? ⟨b1, 6, none⟩ = some (.slice cA cl.length cc) ∧ w'.cell? ⟨b1, 7, none⟩ = some (.slice uA us.length uc)) ∧ b1 < w'.heap.size) (first | exact ⟨⟨a3, a4, a5, a6⟩, l7⟩ | exact ⟨⟨s3, s4, s5, s6⟩, s0⟩ | exact ⟨⟨t3, t4, t5, t6⟩, t0⟩ | exact ⟨⟨u3, u4, u5, u6⟩, u0⟩ | (refine ⟨⟨?_, ?_, ?_, ?_⟩, ?_⟩ <;> first | (simp [go_sem, *]; done) | (simp only [World.size_alloc, World.size_drew, World.heap_drewN]; omega)))
    (first
      | (refine step_app6 (by rfl) _ _ _ (by rfl) elRect w5.heap.size [] cl cl (by rfl) _ (by rfl) (HOL.out _ (by with_reducible repeat (first | exact Gr.refl _ | assumption | refine Gr.alloc ?_ _ | refine Gr.drewN ?_ _ | refine Gr.drew ?_ | refine Gr.setCell ?_ (by first | (dsimp only; omega) | (simp only [World.size_alloc]; omega) | (refine Gr.size ?_; (repeat (first | exact Gr.refl _ | assumption | refine Gr.alloc ?_ _ | refine Gr.drewN ?_ _ | refine Gr.drew ?_ | refine Gr.trans ?_ (by assumption))); done)) _ | refine Gr.trans ?_ (by assumption)))) cA cc (by rfl) (SC1.out _ (by with_reducible repeat (first | exact Gr.refl _ | assumption | refine Gr.alloc ?_ _ | refine Gr.drewN ?_ _ | refine Gr.drew ?_ | refine Gr.setCell ?_ (by first | (dsimp only; omega) | (simp only [World.size_alloc]; omega) | (refine Gr.size ?_; (repeat (first | exact Gr.refl _ | assumption | refine Gr.alloc ?_ _ | refine Gr.drewN ?_ _ | refine Gr.drew ?_ | refine Gr.trans ?_ (by assumption))); done)) _ | refine Gr.trans ?_ (by assumption)))) (by simp only [List.length_nil]; omega) (Gr.size (by with_reducible repeat (first | exact Gr.refl _ | assumption | refine Gr.alloc ?_ _ | refine Gr.drewN ?_ _ | refine Gr.drew ?_ | refine Gr.setCell ?_ (by first | (dsimp only; omega) | (simp only [World.size_alloc]; omega) | (refine Gr.size ?_; (repeat (first | exact Gr.refl _ | assumption | refine Gr.alloc ?_ _ | refine Gr.drewN ?_ _ | refine Gr.drew ?_ | refine Gr.trans ?_ (by assumption))); done)) _ | refine Gr.trans ?_ (by assumption)))) ?_; intro D1' d1' w10 hO10 hg10; (have g10 : Gr w5 w10 := Gr.grown (show Gr w5 _ from (by with_reducible repeat (first | exact Gr.refl _ | assumption | refine Gr.alloc ?_ _ | refine Gr.drewN ?_ _ | refine Gr.drew ?_ | refine Gr.setCell ?_ (by first | (dsimp only; omega) | (simp only [World.size_alloc]; omega) | (refine Gr.size ?_; (repeat (first | exact Gr.refl _ | assumption | refine Gr.alloc ?_ _ | refine Gr.drewN ?_ _ | refine Gr.drew ?_ | refine Gr.trans ?_ (by assumption))); done)) _ | refine Gr.trans ?_ (by assumption)))) hg10 (fun k hk => (OwnL.lt (HOL.out _ (Gr.refl _)) k hk).1)); (obtain ⟨s3, s0⟩ := c_far a3 l7 (by with_reducible repeat (first | exact Gr.refl _ | assumption | refine Gr.alloc ?_ _ | refine Gr.drewN ?_ _ | refine Gr.drew ?_ | refine Gr.setCell ?_ (by first | (dsimp only; omega) | (simp only [World.size_alloc]; omega) | (refine Gr.size ?_; (repeat (first | exact Gr.refl _ | assumption | refine Gr.alloc ?_ _ | refine Gr.drewN ?_ _ | refine Gr.drew ?_ | refine Gr.trans ?_ (by assumption))); done)) _ | refine Gr.trans ?_ (by assumption))) hg10 (fun e => by have := (OwnL.lt (HOL.out _ (Gr.refl _)) b1 e.symm).1; omega)); (obtain ⟨s4, _⟩ := c_far a4 l7 (by with_reducible repeat (first | exact Gr.refl _ | assumption | refine Gr.alloc ?_ _ | refine Gr.drewN ?_ _ | refine Gr.drew ?_ | refine Gr.setCell ?_ (by first | (dsimp only; omega) | (simp only [World.size_alloc]; omega) | (refine Gr.size ?_; (repeat (first | exact Gr.refl _ | assumption | refine Gr.alloc ?_ _ | refine Gr.drewN ?_ _ | refine Gr.drew ?_ | refine Gr.trans ?_ (by assumption))); done)) _ | refine Gr.trans ?_ (by assumption))) hg10 (fun e => by have := (OwnL.lt (HOL.out _ (Gr.refl _)) b1 e.symm).1; omega)); (obtain ⟨s5, _⟩ := c_far a5 l7 (by with_reducible repeat (first | exact Gr.refl _ | assumption | refine Gr.alloc ?_ _ | refine Gr.drewN ?_ _ | refine Gr.drew ?_ | refine Gr.setCell ?_ (by first | (dsimp only; omega) | (simp only [World.size_alloc]; omega) | (refine Gr.size ?_; (repeat (first | exact Gr.refl _ | assumption | refine Gr.alloc ?_ _ | refine Gr.drewN ?_ _ | refine Gr.drew ?_ | refine Gr.trans ?_ (by assumption))); done)) _ | refine Gr.trans ?_ (by assumption))) hg10 (fun e => by have := (OwnL.lt (HOL.out _ (Gr.refl _)) b1 e.symm).1; omega)); (obtain ⟨s6, _⟩ := c_far a6 l7 (by with_reducible repeat (first | exact Gr.refl _ | assumption | refine Gr.alloc ?_ _ | refine Gr.drewN ?_ _ | refine Gr.drew ?_ | refine Gr.setCell ?_ (by first | (dsimp only; omega) | (simp only [World.size_alloc]; omega) | (refine Gr.size ?_; (repeat (first | exact Gr.refl _ | assumption | refine Gr.alloc ?_ _ | refine Gr.drewN ?_ _ | refine Gr.drew ?_ | refine Gr.trans ?_ (by assumption))); done)) _ | refine Gr.trans ?_ (by assumption))) hg10 (fun e => by have := (OwnL.lt (HOL.out _ (Gr.refl _)) b1 e.symm).1; omega)))
      | (refine step_app6 (by rfl) _ _ _ (by rfl) elRect w5.heap.size cl us H HHC.out _ (by rfl) hO10 uA uc (by rfl) (SC2.out _ g10) (by omega) g10.size ?_; intro D2' d2' w11 hO11 hg11; (have g11 : Gr w5 w11 := Gr.grown g10 hg11 (fun k hk => (OwnL.lt hO10 k hk).1)); (have HSL := hide (own_slr hO11)); (obtain ⟨t3, t0⟩ := c_far s3 s0 (Gr.refl _) hg11 (fun e => by have := (OwnL.lt hO10 b1 e.symm).1; omega)); (obtain ⟨t4, _⟩ := c_far s4 s0 (Gr.refl _) hg11 (fun e => by have := (OwnL.lt hO10 b1 e.symm).1; omega)); (obtain ⟨t5, _⟩ := c_far s5 s0 (Gr.refl _) hg11 (fun e => by have := (OwnL.lt hO10 b1 e.symm).1; omega)); (obtain ⟨t6, _⟩ := c_far s6 s0 (Gr.refl _) hg11 (fun e => by have := (OwnL.lt hO10 b1 e.symm).1; omega)))
      | (go_at_call 57; refine (HAR.out D2' d2' _ (HSL.out.gr (by with_reducible repeat (first | exact Gr.refl _ | assumption | refine Gr.alloc ?_ _ | refine Gr.drewN ?_ _ | refine Gr.drew ?_ | refine Gr.setCell ?_ (by first | (dsimp only; omega) | (simp only [World.size_alloc]; omega) | (refine Gr.size ?_; (repeat (first | exact Gr.refl _ | assumption | refine Gr.alloc ?_ _ | refine Gr.drewN ?_ _ | refine Gr.drew ?_ | refine Gr.trans ?_ (by assumption))); done)) _ | refine Gr.trans ?_ (by assumption))))).mono ?_; rintro e w12 ⟨rfl, g12⟩; (have g512 : Gr w5 w12 := g11.trans (by with_reducible repeat (first | exact Gr.refl _ | assumption | refine Gr.alloc ?_ _ | refine Gr.drewN ?_ _ | refine Gr.drew ?_ | refine Gr.setCell ?_ (by first | (dsimp only; omega) | (simp only [World.size_alloc]; omega) | (refine Gr.size ?_; (repeat (first | exact Gr.refl _ | assumption | refine Gr.alloc ?_ _ | refine Gr.drewN ?_ _ | refine Gr.drew ?_ | refine Gr.trans ?_ (by assumption))); done)) _ | refine Gr.trans ?_ (by assumption)))); (have u3 := (g512.cell _ _ l7).trans a3); (have u4 := (g512.cell _ _ l7).trans a4); (have u5 := (g512.cell _ _ l7).trans a5); (have u6 := (g512.cell _ _ l7).trans a6); (have u0 := Nat.lt_of_lt_of_le l7 g512.size)))
  all_goals
    have gwf : Gr w w12 := gw5.trans g512
    go_wp2_with fail
    go_ret
    exact ⟨rfl, by first | exact gwf | exact gwf.trans (by with_reducible repeat (first | exact Gr.refl _ | assumption | refine Gr.alloc ?_ _ | refine Gr.drewN ?_ _ | refine Gr.drew ?_ | refine Gr.setCell ?_ (by first | (dsimp only; omega) | (simp only [World.size_alloc]; omega) | (refine Gr.size ?_; (repeat (first | exact Gr.refl _ | assumption | refine Gr.alloc ?_ _ | refine Gr.drewN ?_ _ | refine Gr.drew ?_ | refine Gr.trans ?_ (by assumption))); done)) _ | refine Gr.trans ?_ (by assumption)))⟩
end RG
end Go.Proofs.YtddhaiaapomdjaaGreat
set_option linter.unusedVariables false
set_option linter.unusedSimpArgs false
namespace Go.Proofs.YtddhaiaapomdjaaGreat
set_option linter.unusedVariables false
set_option linter.unusedSimpArgs false
open Go Go.ChangeShapes Go.WideShapes Go.ChangeAt Go.RowKit Go.Deep

namespace RG
theorem vsE_len {s : ShT} (h : vsE s = 0) : s.cl.length ≤ 4 ∧ s.us.length ≤ 48 := by
  have h0 : stE s.nm s.mt s.ga s.gr = 0 := Classical.byContradiction fun k => by
    rw [vs_st k] at h
    exact k h
  rw [vs_go h0] at h
  split at h
  · split at h
    · exact absurd h (by decide)
    · omega
  · exact absurd h (by decide)
theorem slb_none (w : World) : SlB w none 0 [] := ⟨fun i x hx => by simp at hx, by simp, by omega⟩
theorem slr_new (w w' : World) (r : Rc) (t : TypeId) (g : Gr (w.alloc (.cells #[iv r.x, iv r.y, iv r.w, iv r.h] t)) w') : SlR w' (some ⟨w.heap.size, 0, none⟩) 1 [r] := by
  refine ⟨fun i x hx => ?_, by simp, by omega⟩
  cases i with
  | zero =>
    obtain rfl : r = x := by simpa using hx
    obtain ⟨_, h, _⟩ := (Made.new w #[iv r.x, iv r.y, iv r.w, iv r.h] t).gr g
    exact ⟨w.heap.size, 0, rfl, h 0, h 1, h 2, h 3, trivial⟩
  | succ i => simp at hx
theorem chE_two {a b : List Rc} (ha : ∀ r ∈ a, vrR r = true) (hb : ∀ r ∈ b, vrR r = true) (h1 : a.length ≤ 48) (h2 : b.length ≤ 48) : chE ⟨a, b, [], []⟩ = if a = [] then 1 else 0 := by
  unfold chE
  have hl : lmB ⟨a, b, [], []⟩ = true := by
    unfold lmB
    simp only [List.all_nil, Bool.and_true, Bool.and_eq_true, List.all_eq_true]
    exact ⟨ha, hb⟩
  by_cases h : a = []
  · subst h
    rw [if_neg (by simp), if_pos rfl]
  · have := List.length_pos_iff.2 h
    rw [if_pos ⟨⟨this, h1⟩, h2, by simp, hl⟩, if_neg h]
theorem sfV_two {a b : List Rc} (ha : ∀ r ∈ a, vrR r = true) (hb : ∀ r ∈ b, vrR r = true) (h1 : a.length ≤ 48) (h2 : b.length ≤ 48) : sfV ⟨a, b, [], []⟩ = ar 1048576 (a ++ b) - ar 1048576 b := by
  unfold sfV
  rw [chE_two ha hb h1 h2]
  have e := srf_diff 1048576 a b
  by_cases h : a = []
  · subst h
    rw [if_pos rfl, if_neg (by decide), List.nil_append]
    omega
  · rw [if_neg h, if_pos rfl]
    dsimp only
    omega
theorem fr_split {s : ShT} (h0 : vsE s = 0) : sfV ⟨[⟨0, 0, s.wd, s.ht⟩], s.us, [], []⟩ - sfV ⟨s.cl, s.us, [], []⟩ = frV s ∧ (0 ≤ sfV ⟨[⟨0, 0, s.wd, s.ht⟩], s.us, [], []⟩ ∧ sfV ⟨[⟨0, 0, s.wd, s.ht⟩], s.us, [], []⟩ ≤ 1099511627776) ∧ 0 ≤ sfV ⟨s.cl, s.us, [], []⟩ ∧ sfV ⟨s.cl, s.us, [], []⟩ ≤ 1099511627776 := by
  have hS := vsE_good h0
  obtain ⟨l1, l2⟩ := vsE_len h0
  have vc : ∀ r ∈ s.cl, vrR r = true := fun r hr => hS.v r (List.mem_append.2 (.inl hr))
  have vu : ∀ r ∈ s.us, vrR r = true := fun r hr => hS.v r (List.mem_append.2 (.inr hr))
  have hin := vsE_in h0
  have hW := whole_in hS
  have vw : ∀ r ∈ [(⟨0, 0, s.wd, s.ht⟩ : Rc)], vrR r = true := fun r hr => by
    obtain rfl : r = _ := by simpa using hr
    exact vrR_iff.2 hW
  rw [sfV_two vw vu (by simp) l2, sfV_two vc vu (by omega) l2]
  have e1 : ar 1048576 ([(⟨0, 0, s.wd, s.ht⟩ : Rc)] ++ s.us) = s.wd * s.ht := by
    have a1 := ar_in_le (M := 1048576) (l := [(⟨0, 0, s.wd, s.ht⟩ : Rc)] ++ s.us) hW (fun r hr => by
      dsimp only
      rcases List.mem_append.1 hr with q | q
      · obtain rfl : r = _ := by simpa using q
        dsimp only
        omega
      · have := hin r (List.mem_append.2 (.inr q))
        omega)
    have a2 := (ar_app_le 1048576 [(⟨0, 0, s.wd, s.ht⟩ : Rc)] s.us).1
    have a3 : ar 1048576 [(⟨0, 0, s.wd, s.ht⟩ : Rc)] = s.wd * s.ht := by
      have := ar_apart (M := 1048576) (l := [(⟨0, 0, s.wd, s.ht⟩ : Rc)]) (fun r hr => vrR_iff.1 (vw r hr)) (List.pairwise_singleton _ _)
      rw [this]
      simp [sumA]
    dsimp only at a1
    omega
  have h1 := fr_bd h0
  have h2 := wh_bd hS
  have h3 := ar_nn 1048576 s.us
  have h4 := (ar_app_le 1048576 s.cl s.us).2.1
  unfold frV
  rw [e1]
  omega
set_option maxHeartbeats 16000000 in
set_option maxRecDepth 100000 in
theorem Free_any (s : ShT) (w : World) (hs : ShW w s) (h0 : vsE s = 0) :
    Calls Tryz.prog 15 #[s.v] w fun e w' => e = .returned (.tuple #[iv (frV s), iv 0]) ∧ Gr w w' := by
  have HV := hide (fun (w' : World) (g : Gr w w') => ValidateSheet_any s w' (hs.gr g))
  rw [h0] at HV
  have HWH := hide (fun (w' : World) => whole_any s.nm s.mt s.ga s.gr s.wd s.ht (.slice s.cA s.cl.length s.cc) (.slice s.uA s.us.length s.uc) w')
  have HS1 := hide (fun (B : Nat) (w' : World) (g : Gr w w') (h : SlR w' (some ⟨B, 0, none⟩) 1 [⟨0, 0, s.wd, s.ht⟩]) => Surface_any (some ⟨B, 0, none⟩) s.uA none none 1 s.uc 0 0 ⟨[⟨0, 0, s.wd, s.ht⟩], s.us, [], []⟩ w' ⟨h, hs.u.gr g, slr_nil _, slb_none _⟩)
  have HS2 := hide (fun (w' : World) (g : Gr w w') => Surface_any s.cA s.uA none none s.cc s.uc 0 0 ⟨s.cl, s.us, [], []⟩ w' ⟨hs.c.gr g, hs.u.gr g, slr_nil _, slb_none _⟩)
  obtain ⟨f1, f2, f3⟩ := fr_split h0
  have W1 : IntKind.i64.wrap (sfV ⟨[⟨0, 0, s.wd, s.ht⟩], s.us, [], []⟩ - sfV ⟨s.cl, s.us, [], []⟩) = frV s := by rw [← f1]; exact IntWalk.i64_in _ (by omega)
  have n1 := hs.c.cap
  have n2 := hs.c.capB
  have n3 := hs.u.cap
  have n4 := hs.u.capB
  generalize sfV ⟨[⟨0, 0, s.wd, s.ht⟩], s.us, [], []⟩ = V1 at *
  generalize chE ⟨[⟨0, 0, s.wd, s.ht⟩], s.us, [], []⟩ = E1 at *
  generalize sfV ⟨s.cl, s.us, [], []⟩ = V2 at *
  generalize chE ⟨s.cl, s.us, [], []⟩ = E2 at *
  generalize frV s = FV at *
  obtain ⟨nm, mt, ga, gr, wd, ht, cA, cc, cl, uA, uc, us⟩ := s
  dsimp only at HWH HS1 HS2 n1 n2 n3 n4
  clear hs h0 f1 f2 f3
  go_enter Tryz.func15, Tryz.ntmps15
  go_upto_region 1 with fail
  obtain ⟨w0, hw0⟩ : ∃ W, w.alloc (.cells #[.string nm, .string mt, iv ga, iv gr, iv wd, iv ht, .slice cA cl.length cc, .slice uA us.length uc] 24) = W := ⟨_, rfl⟩
  have HM := hide (show Made w0 w.heap.size #[.string nm, .string mt, iv ga, iv gr, iv wd, iv ht, .slice cA cl.length cc, .slice uA us.length uc] from by rw [← hw0]; exact Made.new _ _ _)
  have gw0 : Gr w w0 := by rw [← hw0]; exact Gr.alloc (Gr.refl _) _
  rw [hw0]
  clear hw0
  generalize w.heap.size = b1 at HM ⊢
  obtain ⟨l1, y0, _⟩ := HM.out
  have a0 := y0 0
  have a1 := y0 1
  have a2 := y0 2
  have a3 := y0 3
  have a4 := y0 4
  have a5 := y0 5
  have a6 := y0 6
  have a7 := y0 7
  clear y0
  go_wp2_with fail
  refine (HV.out _ gw0).mono ?_
  rintro e w1 ⟨rfl, g1⟩
  clear l1 a0 a1 a2 a3 a4 a5 a6 a7
  obtain ⟨l1, y0, _⟩ := HM.out.gr g1
  have a0 := y0 0
  have a1 := y0 1
  have a2 := y0 2
  have a3 := y0 3
  have a4 := y0 4
  have a5 := y0 5
  have a6 := y0 6
  have a7 := y0 7
  clear y0
  have gw1 : Gr w w1 := gw0.trans g1
  go_upto_region 4 with fail
  go_region_held3 (fun w' => Gr (w1) w' ∧ ∀ ii oo, ii < (w1).heap.size → w'.cell? ⟨ii, oo, none⟩ = (w1).cell? ⟨ii, oo, none⟩) ((refine And.intro ?_ (Gr.cell ?_) <;> ((with_reducible repeat (first | exact Gr.refl _ | assumption | refine Gr.alloc ?_ _ | refine Gr.drewN ?_ _ | refine Gr.drew ?_ | refine Gr.setCell ?_ (by first | (dsimp only; omega) | (simp only [World.size_alloc]; omega) | (refine Gr.size ?_; (repeat (first | exact Gr.refl _ | assumption | refine Gr.alloc ?_ _ | refine Gr.drewN ?_ _ | refine Gr.drew ?_ | refine Gr.trans ?_ (by assumption))); done)) _ | refine Gr.trans ?_ (by assumption))); done)))
    (first
      | (go_at_call 40; refine (HWH.out _).mono ?_; rintro e w2 ⟨rfl, g2⟩; obtain ⟨X2, Y2, c2, f2⟩ := g2.use)
      | (go_at_call 39; refine (HS1.out _ _ (gw1.trans (by with_reducible repeat (first | exact Gr.refl _ | assumption | refine Gr.alloc ?_ _ | refine Gr.drewN ?_ _ | refine Gr.drew ?_ | refine Gr.setCell ?_ (by first | (dsimp only; omega) | (simp only [World.size_alloc]; omega) | (refine Gr.size ?_; (repeat (first | exact Gr.refl _ | assumption | refine Gr.alloc ?_ _ | refine Gr.drewN ?_ _ | refine Gr.drew ?_ | refine Gr.trans ?_ (by assumption))); done)) _ | refine Gr.trans ?_ (by assumption)))) (slr_new _ _ ⟨0, 0, wd, ht⟩ _ (by with_reducible repeat (first | exact Gr.refl _ | assumption | refine Gr.alloc ?_ _ | refine Gr.drewN ?_ _ | refine Gr.drew ?_ | refine Gr.setCell ?_ (by first | (dsimp only; omega) | (simp only [World.size_alloc]; omega) | (refine Gr.size ?_; (repeat (first | exact Gr.refl _ | assumption | refine Gr.alloc ?_ _ | refine Gr.drewN ?_ _ | refine Gr.drew ?_ | refine Gr.trans ?_ (by assumption))); done)) _ | refine Gr.trans ?_ (by assumption))))).mono ?_; rintro e w3 ⟨rfl, g3⟩; obtain ⟨X3, Y3, c3, f3⟩ := g3.use))
  all_goals
    have g13 : Gr w1 w3 := (by with_reducible repeat (first | exact Gr.refl _ | assumption | refine Gr.alloc ?_ _ | refine Gr.drewN ?_ _ | refine Gr.drew ?_ | refine Gr.setCell ?_ (by first | (dsimp only; omega) | (simp only [World.size_alloc]; omega) | (refine Gr.size ?_; (repeat (first | exact Gr.refl _ | assumption | refine Gr.alloc ?_ _ | refine Gr.drewN ?_ _ | refine Gr.drew ?_ | refine Gr.trans ?_ (by assumption))); done)) _ | refine Gr.trans ?_ (by assumption)))
    have gw3 : Gr w w3 := gw1.trans g13
    clear l1 a0 a1 a2 a3 a4 a5 a6 a7 c3 f3 X3 Y3 c2 f2 X2 Y2
    obtain ⟨l1, y0, _⟩ := HM.out.gr (g1.trans g13)
    have a6 := y0 6
    have a7 := y0 7
    clear y0
    go_wp2_with fail
    refine (HS2.out _ gw3).mono ?_
    rintro e w4 ⟨rfl, g4⟩
    go_wp2_with fail
    go_ret2
    exact ⟨rfl, gw3.trans g4⟩
end RG
end Go.Proofs.YtddhaiaapomdjaaGreat
set_option linter.unusedVariables false
set_option linter.unusedSimpArgs false
namespace Go.Proofs.YtddhaiaapomdjaaGreat
set_option linter.unusedVariables false
set_option linter.unusedSimpArgs false
open Go Go.ChangeShapes Go.WideShapes Go.ChangeAt Go.RowKit Go.Deep

namespace RG
theorem fz_setR (w : World) (a b : Addr) (v : Value) : (w.setCell a v).frozen? b = w.frozen? b := by simp [go_sem]
theorem slR_none {w : World} {c : Nat} {l : List Rc} (h : SlR w none c l) : l = [] := by
  cases l with
  | nil => rfl
  | cons r l =>
    obtain ⟨b, o, e, _⟩ := h.rd 0 r rfl
    cases e
set_option maxHeartbeats 4000000 in
set_option maxRecDepth 100000 in
theorem cloneR_any (A : Option Addr) (c : Nat) (l : List Rc) (w : World) (hl : SlR w A c l) (hn : l.length ≤ 1000) :
    Calls Tryz.prog 47 #[.slice A l.length c] w fun e w' => ∃ (D : Option Addr) (q : Nat), e = .returned (.slice D l.length q) ∧ SlR w' D q l ∧ (∀ a, D = some a → w.heap.size ≤ a.block) ∧ Gr w w' := by
  have n1 := hl.cap
  have n2 := hl.capB
  have q22 : ∀ (w : World) (a : Option Addr) (n c n' c' : Nat), (binOp .eql 22 (.slice a n c) (.slice none n' c')).run Tryz.prog w = .ok (.bool a.isNone) w := fun w a n c n' c' => Lib.run_eql_slice_nil w _ _ a n c n' c' Tryz.underlying22
  cases A with
  | none =>
    obtain rfl := slR_none hl
    go_enter Tryz.func47, Tryz.ntmps47
    go_wp2
    go_ret
    exact ⟨none, 0, rfl, slr_nil _, nofun, Gr.refl _⟩
  | some a =>
    have HL := hide hl
    have HOL := hide (own_lit (c := rcL) (k := 4) w w.heap.size 70 #[] [] (Nat.le_refl _) (fun _ => rfl) rfl (by decide))
    clear hl
    go_enter Tryz.func47, Tryz.ntmps47
    go_wp2_with (refine wpList_appL rfl _ _ _ rfl rcL w.heap.size 70 4 32 elRect (by decide) (fun _ => rfl) one_rc [] l (some ⟨w.heap.size, 0, none⟩) 0 0 rfl HOL.out (some a) l.length c rfl (HL.out.gr (Gr.alloc (Gr.refl w) _)).rd rfl (by simp only [List.length_nil]; omega) (by decide) (by simp only [World.size_alloc]; omega) ?_; intro D N d w' hN hO hG hgrow)
    have HO := hide (show OwnL w' w.heap.size 70 4 rcL (.slice D N d) l from hO)
    have HN := hide (show N = l.length from own_n HO.out)
    have g : Gr w w' := hG w (Gr.alloc (Gr.refl w) _) (Nat.le_refl _)
    clear hN hO hG hgrow
    go_wp2
    go_ret
    exact ⟨D, d, rfl, own_slr HO.out, own_ge HO.out, g⟩
/-- how many are used then, as the machine counts -/
def rmW (s : ShT) (l : List Rc) : Int := IntKind.i64.wrap ((s.us.length : Int) + (l.length : Int))
/-- the error of Remnant -/
def rmE (s : ShT) (l : List Rc) : Int := if vsE s ≠ 0 then vsE s else if 48 < rmW s l then 4 else if coE l s.wd s.ht ≠ 0 then coE l s.wd s.ht else if (npB ovQ l (s.cl ++ s.us) || apB ovQ l) = true then 7 else 0
theorem rm_1 {s : ShT} (l : List Rc) (h : vsE s ≠ 0) : rmE s l = vsE s := if_pos h
theorem rm_2 {s : ShT} {l : List Rc} (h : vsE s = 0) (h2 : 48 < rmW s l) : rmE s l = 4 := by unfold rmE; rw [if_neg (by simpa using h), if_pos h2]
theorem rm_3 {s : ShT} {l : List Rc} (h : vsE s = 0) (h2 : ¬ 48 < rmW s l) (h3 : coE l s.wd s.ht ≠ 0) : rmE s l = coE l s.wd s.ht := by unfold rmE; rw [if_neg (by simpa using h), if_neg h2, if_pos h3]
theorem rm_4 {s : ShT} {l : List Rc} (h : vsE s = 0) (h2 : ¬ 48 < rmW s l) (h3 : coE l s.wd s.ht = 0) (h4 : (npB ovQ l (s.cl ++ s.us) || apB ovQ l) = true) : rmE s l = 7 := by unfold rmE; rw [if_neg (by simpa using h), if_neg h2, if_neg (by simpa using h3), if_pos h4]
theorem rm_5 {s : ShT} {l : List Rc} (h : vsE s = 0) (h2 : ¬ 48 < rmW s l) (h3 : coE l s.wd s.ht = 0) (h4 : (npB ovQ l (s.cl ++ s.us) || apB ovQ l) = false) : rmE s l = 0 := by unfold rmE; rw [if_neg (by simpa using h), if_neg h2, if_neg (by simpa using h3), if_neg (by simpa using h4)]
theorem sumA_len : ∀ {l : List Rc}, (∀ r ∈ l, vrR r = true) → (l.length : Int) ≤ sumA l
  | [], _ => by simp [sumA]
  | r :: l, h => by
    have := sumA_len (l := l) fun x hx => h x (List.mem_cons_of_mem _ hx)
    have hr := vrR_iff.1 (h r (by simp))
    have h1 := hr.w
    have h2 := hr.h
    have h3 : 1 * 1 ≤ r.w * r.h := Int.mul_le_mul (by omega) (by omega) (by decide) (by omega)
    have e : sumA (r :: l) = r.w * r.h + sumA l := by simp [sumA]
    rw [e, List.length_cons]
    omega
theorem coE_good {l : List Rc} {wd ht : Int} (h : coE l wd ht = 0) : (∀ r ∈ l, vrR r = true) ∧ aiB l ⟨0, 0, wd, ht⟩ = true := by
  unfold coE at h
  by_cases h1 : vaB l = true
  · rw [if_pos h1] at h
    by_cases h2 : aiB l ⟨0, 0, wd, ht⟩ = true
    · exact ⟨vaB_iff.1 h1, h2⟩
    · rw [if_neg h2] at h; exact absurd h (by decide)
  · rw [if_neg h1] at h; exact absurd h (by decide)
theorem rm_few {s : ShT} {l : List Rc} (h1 : vsE s = 0) (h3 : coE l s.wd s.ht = 0) (h5 : apB ovQ l = false) : (l.length : Int) ≤ 1099511627776 := by
  obtain ⟨c1, c2⟩ := coE_good h3
  have hS := vsE_good h1
  have ha : Apart l := pairs_of fun i j a b hij ha hb => by
    rw [ovR_ovQ (c1 a (List.mem_of_getElem? ha)) (c1 b (List.mem_of_getElem? hb))]
    exact ap_pair ovQ_comm' h5 ha hb (by omega)
  have e1 := ar_apart (M := 1048576) (fun r hr => vrR_iff.1 (c1 r hr)) ha
  have e2 := sumA_len c1
  have e3 := ar_in_le (M := 1048576) (l := l) (whole_in hS) fun r hr => by
    have := ((isR_iff _ _).1 (List.all_eq_true.1 c2 r hr)).2
    dsimp only at this ⊢
    omega
  have e4 := wh_bd hS
  dsimp only at e3
  omega
theorem rmE_good {s : ShT} {l : List Rc} (h : rmE s l = 0) : vsE s = 0 ∧ s.us.length + l.length ≤ 48 ∧ coE l s.wd s.ht = 0 ∧ npB ovQ l (s.cl ++ s.us) = false ∧ apB ovQ l = false := by
  unfold rmE at h
  by_cases h1 : vsE s = 0
  · rw [if_neg (by simpa using h1)] at h
    by_cases h2 : 48 < rmW s l
    · rw [if_pos h2] at h; omega
    · rw [if_neg h2] at h
      by_cases h3 : coE l s.wd s.ht = 0
      · rw [if_neg (by simpa using h3)] at h
        have h6 : npB ovQ l (s.cl ++ s.us) = false ∧ apB ovQ l = false := by
          cases h4 : npB ovQ l (s.cl ++ s.us) <;> cases h5 : apB ovQ l <;> rw [h4, h5] at h <;> first | exact ⟨rfl, rfl⟩ | (simp at h)
        have h7 := rm_few h1 h3 h6.2
        have h8 := (vsE_len h1).2
        have h9 : rmW s l = (s.us.length : Int) + (l.length : Int) := IntWalk.i64_in _ (by omega)
        exact ⟨h1, by omega, h3, h6⟩
      · rw [if_pos h3] at h; exact absurd h h3
  · rw [if_pos h1] at h; exact absurd h h1
theorem rm_apart {s : ShT} {l : List Rc} (h : rmE s l = 0) : (∀ r ∈ l, ∀ o ∈ s.cl ++ s.us, ovR r o = false) := by
  obtain ⟨h1, _, h3, h4, _⟩ := rmE_good h
  have hv := (coE_good h3).1
  intro r hr o ho
  rw [ovR_ovQ (hv r hr) ((vsE_good h1).v o ho)]
  have h5 := List.any_eq_false.1 h4 r hr
  simp only [Bool.not_eq_true] at h5
  exact Bool.eq_false_iff.2 (List.any_eq_false.1 h5 o ho)
/-- the sheet that is left -/
def rmS (s : ShT) (D1 : Option Addr) (q1 : Nat) (D2 : Option Addr) (q2 : Nat) (l : List Rc) : ShT := ⟨s.nm, s.mt, s.ga, s.gr, s.wd, s.ht, D1, q1, s.cl, D2, q2, s.us ++ l⟩
theorem rm_valid {s : ShT} {l : List Rc} (h : rmE s l = 0) (D1 : Option Addr) (q1 : Nat) (D2 : Option Addr) (q2 : Nat) : vsE (rmS s D1 q1 D2 q2 l) = 0 := by
  obtain ⟨h1, h2, h3, _, _⟩ := rmE_good h
  have h0 : stE s.nm s.mt s.ga s.gr = 0 := Classical.byContradiction fun k => by
    rw [vs_st k] at h1
    exact k h1
  obtain ⟨c1, c2⟩ := coE_good h3
  have hl := vsE_len h1
  rw [vs_go h0] at h1
  rw [vs_go (s := rmS s D1 q1 D2 q2 l) h0]
  split at h1
  next hw =>
    rw [if_neg (by omega)] at h1
    split at h1
    next hv =>
      split at h1
      next hi =>
        simp only [Bool.and_eq_true] at hv hi
        show (if (wiB s.wd 1 1048576 && wiB s.ht 1 1048576) = true then (if 4 < s.cl.length ∨ 48 < (s.us ++ l).length then (4 : Int) else (if (vaB s.cl && vaB (s.us ++ l)) = true then (if (aiB s.cl ⟨0, 0, s.wd, s.ht⟩ && aiB (s.us ++ l) ⟨0, 0, s.wd, s.ht⟩) = true then 0 else 13) else 1)) else 1) = 0
        rw [if_pos hw, if_neg (by rw [List.length_append]; omega), vaB_app, aiB_app, hv.1, hv.2, hi.1, hi.2, c2, vaB_iff.2 c1]
        rfl
      · exact absurd h1 (by decide)
    · exact absurd h1 (by decide)
  · exact absurd h1 (by decide)
theorem rm_free {s : ShT} {l : List Rc} (h : rmE s l = 0) (D1 : Option Addr) (q1 : Nat) (D2 : Option Addr) (q2 : Nat) : frV (rmS s D1 q1 D2 q2 l) = frV s - ar 1048576 l := by
  have ha := ar_add (M := 1048576) (a := l) (b := s.cl ++ s.us) (rm_apart h)
  have e : ar 1048576 (s.cl ++ (s.us ++ l)) = ar 1048576 (l ++ (s.cl ++ s.us)) := by
    unfold ar
    refine s2_congr fun x y _ _ _ _ => ?_
    rw [← List.append_assoc, cov_app, cov_app l, Bool.or_comm]
  show s.wd * s.ht - ar 1048576 (s.cl ++ (s.us ++ l)) = s.wd * s.ht - ar 1048576 (s.cl ++ s.us) - ar 1048576 l
  rw [e, ha]
  omega
/-- what Remnant returns beside its error -/
def rmO (s : ShT) (l : List Rc) (D1 : Option Addr) (q1 : Nat) (D2 : Option Addr) (q2 : Nat) : ShT := if rmE s l = 0 then rmS s D1 q1 D2 q2 l else ⟨⟨#[]⟩, ⟨#[]⟩, 0, 0, 0, 0, D1, q1, [], D2, q2, []⟩
/-- a sheet of it lies in a world -/
def RmO (w : World) (s : ShT) (l : List Rc) (v : Value) : Prop := ∃ (D1 : Option Addr) (q1 : Nat) (D2 : Option Addr) (q2 : Nat), v = (rmO s l D1 q1 D2 q2).v ∧ ShW w (rmO s l D1 q1 D2 q2)
theorem RmO.bad {s : ShT} {l : List Rc} (w : World) (h : rmE s l ≠ 0) : RmO w s l (shv ⟨#[]⟩ ⟨#[]⟩ 0 0 0 0 (.slice none 0 0) (.slice none 0 0)) := by
  have e : rmO s l none 0 none 0 = ⟨⟨#[]⟩, ⟨#[]⟩, 0, 0, 0, 0, none, 0, [], none, 0, []⟩ := if_neg h
  refine ⟨none, 0, none, 0, ?_, ?_⟩
  · rw [e]; rfl
  · rw [e]; exact ⟨slr_nil _, slr_nil _, by decide, by decide⟩
theorem RmO.good {s : ShT} {l : List Rc} {w : World} (h : rmE s l = 0) {D1 : Option Addr} {q1 : Nat} {D2 : Option Addr} {q2 : Nat} (hs : ShW w (rmS s D1 q1 D2 q2 l)) : RmO w s l (rmS s D1 q1 D2 q2 l).v := by
  have e : rmO s l D1 q1 D2 q2 = rmS s D1 q1 D2 q2 l := if_pos h
  exact ⟨D1, q1, D2, q2, by rw [e], by rw [e]; exact hs⟩
end RG
end Go.Proofs.YtddhaiaapomdjaaGreat
set_option linter.unusedVariables false
set_option linter.unusedSimpArgs false
namespace Go.Proofs.YtddhaiaapomdjaaGreat
set_option linter.unusedVariables false
set_option linter.unusedSimpArgs false
open Go Go.ChangeShapes Go.WideShapes Go.ChangeAt Go.RowKit Go.Deep

namespace RG
set_option maxHeartbeats 16000000 in
set_option maxRecDepth 100000 in
theorem Remnant_any (s : ShT) (A : Option Addr) (c : Nat) (l : List Rc) (w : World) (hs : ShW w s) (hl : SlR w A c l) :
    Calls Tryz.prog 17 #[s.v, .slice A l.length c] w fun e w' => ∃ X, e = .returned (.tuple #[X, iv (rmE s l)]) ∧ RmO w' s l X ∧ Gr w w' := by
  have HV := hide (fun (w' : World) (g : Gr w w') => ValidateSheet_any s w' (hs.gr g))
  have HCO := hide (fun (w' : World) (g : Gr w w') => checkOnSheet_any s.nm s.mt s.ga s.gr s.wd s.ht (.slice s.cA s.cl.length s.cc) (.slice s.uA s.us.length s.uc) A c l w' (hl.gr g))
  have HSL := hide hl
  have HSU := hide hs.u
  have HSC := hide hs.c
  have HN := hide (And.intro hs.n1 hs.n2)
  have n1 := hs.c.cap
  have n2 := hs.c.capB
  have n3 := hs.u.cap
  have n4 := hs.u.capB
  have n5 := hl.cap
  have n6 := hl.capB
  obtain ⟨R, hR⟩ : ∃ R, rmW s l = R := ⟨_, rfl⟩
  have W1 : IntKind.i64.wrap ((s.us.length : Int) + (l.length : Int)) = R := hR
  have HB := hide (fun (w' : World) => @RmO.bad s l w')
  have HG := hide (fun (h0 : rmE s l = 0) (w' : World) (D1 : Option Addr) (q1 : Nat) (D2 : Option Addr) (q2 : Nat) (h1 : SlR w' D1 q1 s.cl) (h2 : SlR w' D2 q2 (s.us ++ l)) => show RmO w' s l (shv s.nm s.mt s.ga s.gr s.wd s.ht (.slice D1 s.cl.length q1) (.slice D2 (s.us ++ l).length q2)) from RmO.good h0 (D1 := D1) (q1 := q1) (D2 := D2) (q2 := q2) ⟨h1, h2, hs.n1, hs.n2⟩)
  have E1 := hide (fun (h : vsE s ≠ 0) => rm_1 l h)
  have E2 := hide (fun (h : vsE s = 0) => @rm_2 s l h)
  have E3 := hide (fun (h : vsE s = 0) => @rm_3 s l h)
  have E4 := hide (fun (h : vsE s = 0) => @rm_4 s l h)
  have E5 := hide (fun (h : vsE s = 0) => @rm_5 s l h)
  rw [hR] at E2 E3 E4 E5
  have EG := hide (@rmE_good s l)
  have EL := hide (@vsE_len s)
  generalize hE : rmE s l = E at *
  generalize vsE s = V at *
  obtain ⟨C, hC⟩ : ∃ C, coE l s.wd s.ht = C := ⟨_, rfl⟩
  rw [hC] at HCO E3 E4 E5 EG
  have HBL := hide (fun (h : V = 0) (w' : World) (g : Gr w w') => blocks_any s.nm s.mt s.ga s.gr s.wd s.ht s.cA s.cc s.cl s.uA s.uc s.us w' (hs.c.gr g) (hs.u.gr g) (by have := EL.out h; omega) (by have := EL.out h; omega))
  have HOV := hide (fun (D : Option Addr) (q : Nat) (w' : World) (g : Gr w w') (h : SlR w' D q (s.cl ++ s.us)) => anyOverlap_any A c l D q (s.cl ++ s.us) w' (hl.gr g) h)
  have HPA := hide (fun (w' : World) (g : Gr w w') => anyPairO_any A c l w' (hl.gr g))
  generalize npB ovQ l (s.cl ++ s.us) = B1 at *
  generalize apB ovQ l = B2 at *
  have HCC := hide (fun (h : V = 0) (w' : World) (g : Gr w w') => cloneR_any s.cA s.cc s.cl w' (hs.c.gr g) (by have := EL.out h; omega))
  have HJO := hide (fun (h : E = 0) (w' : World) (g : Gr w w') => join_new s.uA s.uc s.us A c l w' (hs.u.gr g) (hl.gr g) (by have := EG.out h; omega) (by have := EG.out h; omega))
  clear hs hl hR
  obtain ⟨T, hT⟩ : ∃ T, s.cl ++ s.us = T := ⟨_, rfl⟩
  rw [hT] at HBL HOV
  obtain ⟨U, hU⟩ : ∃ U, s.us ++ l = U := ⟨_, rfl⟩
  rw [hU] at HJO HG
  clear hT hU
  obtain ⟨nm, mt, ga, gr, wd, ht, cA, cc, cl, uA, uc, us⟩ := s
  dsimp only at *
  go_enter Tryz.func17, Tryz.ntmps17
  go_upto_region 1 with fail
  obtain ⟨w1, hw1⟩ : ∃ W, w.alloc (.cells #[.string nm, .string mt, iv ga, iv gr, iv wd, iv ht, .slice cA cl.length cc, .slice uA us.length uc] 24) = W := ⟨_, rfl⟩
  have HM1 := hide (show Made w1 w.heap.size #[.string nm, .string mt, iv ga, iv gr, iv wd, iv ht, .slice cA cl.length cc, .slice uA us.length uc] from by rw [← hw1]; exact Made.new _ _ _)
  have gw1 : Gr w w1 := by rw [← hw1]; exact Gr.alloc (Gr.refl _) _
  have hq1 : w1.heap.size = w.heap.size + 1 := by rw [← hw1]; exact World.size_alloc _ _
  rw [hw1]
  clear hw1
  obtain ⟨w2, hw2⟩ : ∃ W, w1.alloc (.cells #[.string ⟨#[]⟩, .string ⟨#[]⟩, iv 0, iv 0, iv 0, iv 0, .slice none 0 0, .slice none 0 0] 24) = W := ⟨_, rfl⟩
  have HM := hide (show Made w2 w.heap.size #[.string nm, .string mt, iv ga, iv gr, iv wd, iv ht, .slice cA cl.length cc, .slice uA us.length uc] from by rw [← hw2]; exact HM1.out.gr (Gr.alloc (Gr.refl _) _))
  have HZ := hide (show Made w2 (w.heap.size + 1) #[.string ⟨#[]⟩, .string ⟨#[]⟩, iv 0, iv 0, iv 0, iv 0, .slice none 0 0, .slice none 0 0] from by rw [← hw2, ← hq1]; exact Made.new _ _ _)
  have g2 : Gr w w2 := by rw [← hw2]; exact Gr.alloc gw1 _
  have hw2' := hw2
  clear HM1 gw1 hq1
  change Code.wp _ _ _ _ (World.alloc w1 (.cells #[.string ⟨#[]⟩, .string ⟨#[]⟩, iv 0, iv 0, iv 0, iv 0, .slice none 0 0, .slice none 0 0] 24))
  rw [hw2]
  clear hw2 hw2'
  clear w1
  have hf1 : w.heap.size < w2.heap.size := HM.out.1
  have hf2 : w.heap.size + 1 < w2.heap.size := HZ.out.1
  obtain ⟨l1, y0, _⟩ := HM.out
  have a0 := y0 0
  have a1 := y0 1
  have a2 := y0 2
  have a3 := y0 3
  have a4 := y0 4
  have a5 := y0 5
  have a6 := y0 6
  have a7 := y0 7
  clear y0
  go_wp2_with fail
  refine (HV.out _ g2).mono ?_
  rintro e w3 ⟨rfl, g3⟩
  clear l1 a0 a1 a2 a3 a4 a5 a6 a7
  obtain ⟨l1, y0, _⟩ := HM.out.gr g3
  have a0 := y0 0
  have a1 := y0 1
  have a2 := y0 2
  have a3 := y0 3
  have a4 := y0 4
  have a5 := y0 5
  have a6 := y0 6
  have a7 := y0 7
  clear y0
  obtain ⟨l2, x0, _⟩ := HZ.out.gr g3
  have z0 := x0 0
  have z1 := x0 1
  have z2 := x0 2
  have z3 := x0 3
  have z4 := x0 4
  have z5 := x0 5
  have z6 := x0 6
  have z7 := x0 7
  clear x0
  by_cases h1 : V = 0
  · subst h1
    go_upto_region 4 with fail
    by_cases h2 : 48 < R
    · obtain rfl : E = 4 := E2.out trivial h2
      go_wp2
      refine bodyPost_ret (v := .tuple #[shv ⟨#[]⟩ ⟨#[]⟩ 0 0 0 0 (.slice none 0 0) (.slice none 0 0), iv 4]) (by simp [results, Tryz.results17, go_sem, *]) rfl ⟨_, rfl, HB.out _ (by decide), (by with_reducible repeat (first | exact Gr.refl _ | assumption | refine Gr.alloc ?_ _ | refine Gr.drewN ?_ _ | refine Gr.drew ?_ | refine Gr.setCell ?_ (by first | (dsimp only; omega) | (simp only [World.size_alloc]; omega) | (refine Gr.size ?_; (repeat (first | exact Gr.refl _ | assumption | refine Gr.alloc ?_ _ | refine Gr.drewN ?_ _ | refine Gr.drew ?_ | refine Gr.trans ?_ (by assumption))); done)) _ | refine Gr.trans ?_ (by assumption)))⟩
    · go_upto_region 6 with fail
      go_wp2_with fail
      refine (HCO.out _ (g2.trans g3)).mono ?_
      rintro e w4 ⟨rfl, g4⟩
      clear l1 l2 a0 a1 a2 a3 a4 a5 a6 a7 z0 z1 z2 z3 z4 z5 z6 z7
      obtain ⟨l1, y0, _⟩ := HM.out.gr (g3.trans g4)
      have a0 := y0 0
      have a1 := y0 1
      have a2 := y0 2
      have a3 := y0 3
      have a4 := y0 4
      have a5 := y0 5
      have a6 := y0 6
      have a7 := y0 7
      clear y0
      obtain ⟨l2, x0, _⟩ := HZ.out.gr (g3.trans g4)
      have z0 := x0 0
      have z1 := x0 1
      have z2 := x0 2
      have z3 := x0 3
      have z4 := x0 4
      have z5 := x0 5
      have z6 := x0 6
      have z7 := x0 7
      clear x0
      by_cases h3 : C = 0
      · subst h3
        go_upto_region 9 with fail
        go_wp2_with fail
        refine (HBL.out trivial _ (g2.trans (g3.trans g4))).mono ?_
        rintro e w5 ⟨D, rfl, hD, g5⟩
        go_wp2_with fail
        refine (HOV.out _ _ _ (g2.trans (g3.trans (g4.trans g5))) hD).mono ?_
        rintro e w6 ⟨rfl, g6⟩
        have g46 := (g3.trans g4).trans (g5.trans g6)
        clear g3 g4 g5 g6 hD
        clear l1 l2 a0 a1 a2 a3 a4 a5 a6 a7 z0 z1 z2 z3 z4 z5 z6 z7
        obtain ⟨l1, y0, v0⟩ := HM.out.gr g46
        have a0 := y0 0
        have a1 := y0 1
        have a2 := y0 2
        have a3 := y0 3
        have a4 := y0 4
        have a5 := y0 5
        have a6 := y0 6
        have a7 := y0 7
        have v6 := v0 6
        have v7 := v0 7
        clear y0 v0
        obtain ⟨l2, x0, u0⟩ := HZ.out.gr g46
        have z0 := x0 0
        have z1 := x0 1
        have z2 := x0 2
        have z3 := x0 3
        have z4 := x0 4
        have z5 := x0 5
        have z6 := x0 6
        have z7 := x0 7
        clear x0
        cases B1 with
        | true =>
          obtain rfl : E = 7 := E4.out trivial h2 trivial rfl
          go_wp2
          refine bodyPost_ret (v := .tuple #[shv ⟨#[]⟩ ⟨#[]⟩ 0 0 0 0 (.slice none 0 0) (.slice none 0 0), iv 7]) (by simp [results, Tryz.results17, go_sem, *]) rfl ⟨_, rfl, HB.out _ (by decide), (by with_reducible repeat (first | exact Gr.refl _ | assumption | refine Gr.alloc ?_ _ | refine Gr.drewN ?_ _ | refine Gr.drew ?_ | refine Gr.setCell ?_ (by first | (dsimp only; omega) | (simp only [World.size_alloc]; omega) | (refine Gr.size ?_; (repeat (first | exact Gr.refl _ | assumption | refine Gr.alloc ?_ _ | refine Gr.drewN ?_ _ | refine Gr.drew ?_ | refine Gr.trans ?_ (by assumption))); done)) _ | refine Gr.trans ?_ (by assumption)))⟩
        | false =>
          go_wp2_with fail
          refine (HPA.out _ (g2.trans g46)).mono ?_
          rintro e w7 ⟨rfl, g7⟩
          have g47 := g46.trans g7
          clear g46 g7
          clear v6 v7 u0 l1 l2 a0 a1 a2 a3 a4 a5 a6 a7 z0 z1 z2 z3 z4 z5 z6 z7
          obtain ⟨l1, y0, v0⟩ := HM.out.gr g47
          have a0 := y0 0
          have a1 := y0 1
          have a2 := y0 2
          have a3 := y0 3
          have a4 := y0 4
          have a5 := y0 5
          have a6 := y0 6
          have a7 := y0 7
          have v6 := v0 6
          have v7 := v0 7
          clear y0 v0
          obtain ⟨l2, x0, u0⟩ := HZ.out.gr g47
          have z0 := x0 0
          have z1 := x0 1
          have z2 := x0 2
          have z3 := x0 3
          have z4 := x0 4
          have z5 := x0 5
          have z6 := x0 6
          have z7 := x0 7
          clear x0
          cases B2 with
          | true =>
            obtain rfl : E = 7 := E4.out trivial h2 trivial rfl
            go_wp2
            refine bodyPost_ret (v := .tuple #[shv ⟨#[]⟩ ⟨#[]⟩ 0 0 0 0 (.slice none 0 0) (.slice none 0 0), iv 7]) (by simp [results, Tryz.results17, go_sem, *]) rfl ⟨_, rfl, HB.out _ (by decide), (by with_reducible repeat (first | exact Gr.refl _ | assumption | refine Gr.alloc ?_ _ | refine Gr.drewN ?_ _ | refine Gr.drew ?_ | refine Gr.setCell ?_ (by first | (dsimp only; omega) | (simp only [World.size_alloc]; omega) | (refine Gr.size ?_; (repeat (first | exact Gr.refl _ | assumption | refine Gr.alloc ?_ _ | refine Gr.drewN ?_ _ | refine Gr.drew ?_ | refine Gr.trans ?_ (by assumption))); done)) _ | refine Gr.trans ?_ (by assumption)))⟩
          | false =>
            obtain rfl : E = 0 := E5.out trivial h2 trivial rfl
            have gw7 := g2.trans g47
            have HC7 := hide (fun (w' : World) (g : Gr w7 w') => HCC.out trivial w' (gw7.trans g))
            have HJ7 := hide (fun (w' : World) (g : Gr w7 w') => HJO.out rfl w' (gw7.trans g))
            have HGW := hide gw7
            have HVZ := hide (show (∀ o, w7.frozen? ⟨w.heap.size + 1, o, none⟩ = false) from u0)
            have HLL := hide (And.intro l1 l2)
            clear HBL HOV HPA HCC HJO HV HCO HB E1 E2 E3 E4 E5 g2 g47 gw7 HM HZ u0 hE EG EL h2 W1
            go_upto_region 11 with fail
            go_cut [] from 38 to 46 (fun wx => ∃ (D1 : Option Addr) (q1 : Nat) (D2 : Option Addr) (q2 : Nat), Gr w wx ∧ (wx.cell? ⟨w.heap.size, 0, none⟩ = some (.string nm) ∧ wx.cell? ⟨w.heap.size, 1, none⟩ = some (.string mt) ∧ wx.cell? ⟨w.heap.size, 2, none⟩ = some (iv ga) ∧ wx.cell? ⟨w.heap.size, 3, none⟩ = some (iv gr) ∧ wx.cell? ⟨w.heap.size, 4, none⟩ = some (iv wd) ∧ wx.cell? ⟨w.heap.size, 5, none⟩ = some (iv ht) ∧ wx.cell? ⟨w.heap.size, 6, none⟩ = some (.slice D1 cl.length q1) ∧ wx.cell? ⟨w.heap.size, 7, none⟩ = some (.slice D2 U.length q2)) ∧ (wx.cell? ⟨w.heap.size + 1, 0, none⟩ = some (.string ⟨#[]⟩) ∧ wx.cell? ⟨w.heap.size + 1, 1, none⟩ = some (.string ⟨#[]⟩) ∧ wx.cell? ⟨w.heap.size + 1, 2, none⟩ = some (iv 0) ∧ wx.cell? ⟨w.heap.size + 1, 3, none⟩ = some (iv 0) ∧ wx.cell? ⟨w.heap.size + 1, 4, none⟩ = some (iv 0) ∧ wx.cell? ⟨w.heap.size + 1, 5, none⟩ = some (iv 0) ∧ wx.cell? ⟨w.heap.size + 1, 6, none⟩ = some (.slice none 0 0) ∧ wx.cell? ⟨w.heap.size + 1, 7, none⟩ = some (.slice none 0 0)) ∧ (∀ o, wx.frozen? ⟨w.heap.size + 1, o, none⟩ = false) ∧ SlK (w.heap.size + 2) wx.heap.size w.heap.size wx D1 q1 cl ∧ SlK (w.heap.size + 2) wx.heap.size w.heap.size wx D2 q2 U)
            case first =>
              go_region_law (go_simp; first | (go_at_call 47; refine (HC7.out _ (by with_reducible repeat (first | exact Gr.refl _ | assumption | refine Gr.alloc ?_ _ | refine Gr.drewN ?_ _ | refine Gr.drew ?_ | refine Gr.setCell ?_ (by first | (dsimp only; omega) | (simp only [World.size_alloc]; omega) | (refine Gr.size ?_; (repeat (first | exact Gr.refl _ | assumption | refine Gr.alloc ?_ _ | refine Gr.drewN ?_ _ | refine Gr.drew ?_ | refine Gr.trans ?_ (by assumption))); done)) _ | refine Gr.trans ?_ (by assumption)))).mono ?_; rintro e w5 ⟨A5, c5, rfl, ho5, hn5, g5⟩; obtain ⟨X5, Y5, c5, f5⟩ := g5.use; (have q5 := g5.size); (try simp only [World.size_alloc, World.size_setCell, World.size_drew, World.heap_drewN, Nat.add_one_le_iff] at q5); (try have l9 : w.heap.size < w5.heap.size := by omega); (try have l8 : w.heap.size + 1 < w5.heap.size := by omega); (try have l0 : w7.heap.size ≤ w5.heap.size := by omega)) | (go_at_call 48; refine (HJ7.out _ (by with_reducible repeat (first | exact Gr.refl _ | assumption | refine Gr.alloc ?_ _ | refine Gr.drewN ?_ _ | refine Gr.drew ?_ | refine Gr.setCell ?_ (by first | (dsimp only; omega) | (simp only [World.size_alloc]; omega) | (refine Gr.size ?_; (repeat (first | exact Gr.refl _ | assumption | refine Gr.alloc ?_ _ | refine Gr.drewN ?_ _ | refine Gr.drew ?_ | refine Gr.trans ?_ (by assumption))); done)) _ | refine Gr.trans ?_ (by assumption)))).mono ?_; rintro e w6 ⟨A6, rfl, ho6, g6, hn6⟩; obtain ⟨X6, Y6, c6, f6⟩ := g6.use; (have q6 := g6.size); (try simp only [World.size_alloc, World.size_setCell, World.size_drew, World.heap_drewN, Nat.add_one_le_iff] at q6); (try have l6 : w.heap.size < w6.heap.size := by omega); (try have l5 : w.heap.size + 1 < w6.heap.size := by omega); (try have l4 : w7.heap.size ≤ w6.heap.size := by omega)))
              all_goals
                go_wp2_with fail
                go_meet
                refine ⟨_, _, _, _, ?_, ⟨?_, ?_, ?_, ?_, ?_, ?_, ?_, ?_⟩, ⟨?_, ?_, ?_, ?_, ?_, ?_, ?_, ?_⟩, ?_, slk_of (lo' := w.heap.size + 2) (by with_reducible assumption) (by with_reducible assumption) ?_ ?_ ?_ ?_, slk_of (lo' := w.heap.size + 2) (by with_reducible assumption) (by with_reducible assumption) ?_ ?_ ?_ ?_⟩
                · exact Gr.setCell (Gr.setCell (HGW.out.trans (by with_reducible repeat (first | exact Gr.refl _ | assumption | refine Gr.alloc ?_ _ | refine Gr.drewN ?_ _ | refine Gr.drew ?_ | refine Gr.setCell ?_ (by first | (dsimp only; omega) | (simp only [World.size_alloc]; omega) | (refine Gr.size ?_; (repeat (first | exact Gr.refl _ | assumption | refine Gr.alloc ?_ _ | refine Gr.drewN ?_ _ | refine Gr.drew ?_ | refine Gr.trans ?_ (by assumption))); done)) _ | refine Gr.trans ?_ (by assumption)))) (by dsimp only; omega) _) (by dsimp only; omega) _
                · first | (go_simp; done) | (simp [go_sem, *]; done)
                · first | (go_simp; done) | (simp [go_sem, *]; done)
                · first | (go_simp; done) | (simp [go_sem, *]; done)
                · first | (go_simp; done) | (simp [go_sem, *]; done)
                · first | (go_simp; done) | (simp [go_sem, *]; done)
                · first | (go_simp; done) | (simp [go_sem, *]; done)
                · first | (go_simp; done) | (simp [go_sem, *]; done)
                · first | (go_simp; done) | (simp [go_sem, *]; done)
                · first | (go_simp; done) | (simp [go_sem, *]; done)
                · first | (go_simp; done) | (simp [go_sem, *]; done)
                · first | (go_simp; done) | (simp [go_sem, *]; done)
                · first | (go_simp; done) | (simp [go_sem, *]; done)
                · first | (go_simp; done) | (simp [go_sem, *]; done)
                · first | (go_simp; done) | (simp [go_sem, *]; done)
                · first | (go_simp; done) | (simp [go_sem, *]; done)
                · first | (go_simp; done) | (simp [go_sem, *]; done)
                · intro o
                  rw [fz_setR, fz_setR]
                  exact ((show Gr w7 _ from (by with_reducible repeat (first | exact Gr.refl _ | assumption | refine Gr.alloc ?_ _ | refine Gr.drewN ?_ _ | refine Gr.drew ?_ | refine Gr.setCell ?_ (by first | (dsimp only; omega) | (simp only [World.size_alloc]; omega) | (refine Gr.size ?_; (repeat (first | exact Gr.refl _ | assumption | refine Gr.alloc ?_ _ | refine Gr.drewN ?_ _ | refine Gr.drew ?_ | refine Gr.trans ?_ (by assumption))); done)) _ | refine Gr.trans ?_ (by assumption)))).frozen _ _ HLL.out.2).trans (HVZ.out o)
                · (repeat (first | with_reducible exact Kp.refl _ | with_reducible refine Kp.alloc ?_ (by (first | omega | (simp only [World.size_alloc, World.size_setCell, World.size_drew, World.heap_drewN]; omega))) _ | with_reducible refine Kp.drew ?_ | with_reducible refine Kp.setCell ?_ (by (first | omega | (simp only [World.size_alloc, World.size_setCell, World.size_drew, World.heap_drewN]; omega))) _ | with_reducible refine Kp.gr ?_ (by with_reducible assumption) (by (first | omega | (simp only [World.size_alloc, World.size_setCell, World.size_drew, World.heap_drewN]; omega)))))
                · (first | omega | (simp only [World.size_alloc, World.size_setCell, World.size_drew, World.heap_drewN]; omega))
                · (first | omega | (simp only [World.size_alloc, World.size_setCell, World.size_drew, World.heap_drewN]; omega))
                · (first | omega | (simp only [World.size_alloc, World.size_setCell, World.size_drew, World.heap_drewN]; omega))
                · (repeat (first | with_reducible exact Kp.refl _ | with_reducible refine Kp.alloc ?_ (by (first | omega | (simp only [World.size_alloc, World.size_setCell, World.size_drew, World.heap_drewN]; omega))) _ | with_reducible refine Kp.drew ?_ | with_reducible refine Kp.setCell ?_ (by (first | omega | (simp only [World.size_alloc, World.size_setCell, World.size_drew, World.heap_drewN]; omega))) _ | with_reducible refine Kp.gr ?_ (by with_reducible assumption) (by (first | omega | (simp only [World.size_alloc, World.size_setCell, World.size_drew, World.heap_drewN]; omega)))))
                · (first | omega | (simp only [World.size_alloc, World.size_setCell, World.size_drew, World.heap_drewN]; omega))
                · (first | omega | (simp only [World.size_alloc, World.size_setCell, World.size_drew, World.heap_drewN]; omega))
                · (first | omega | (simp only [World.size_alloc, World.size_setCell, World.size_drew, World.heap_drewN]; omega))
            case rest =>
              obtain ⟨D1, q1, D2, q2, gc, ⟨a0, a1, a2, a3, a4, a5, a6, a7⟩, ⟨z0, z1, z2, z3, z4, z5, z6, z7⟩, u0, k1, k2⟩ := hcut
              have lc : w.heap.size + 1 < wc.heap.size := cell_lt (by rw [z0]; rfl)
              have lc' : w.heap.size < wc.heap.size := by omega
              go_wp2_with fail
              refine bodyPost_ret (v := .tuple #[shv nm mt ga gr wd ht (.slice D1 cl.length q1) (.slice D2 U.length q2), iv 0]) (by simp [results, Tryz.results17, go_sem, *]) rfl ⟨_, rfl, HG.out trivial _ D1 q1 D2 q2 ?_ ?_, ?_⟩
              · repeat (with_reducible refine slr_far ?_ (fun h a ha => by have := (k1.far h a ha).1; omega))
                exact k1.sl
              · repeat (with_reducible refine slr_far ?_ (fun h a ha => by have := (k2.far h a ha).1; omega))
                exact k2.sl
              · exact Gr.setCell (Gr.setCell (Gr.setCell (Gr.setCell (Gr.setCell (Gr.setCell (Gr.setCell (Gr.setCell gc (by dsimp only; omega) _) (by dsimp only; omega) _) (by dsimp only; omega) _) (by dsimp only; omega) _) (by dsimp only; omega) _) (by dsimp only; omega) _) (by dsimp only; omega) _) (by dsimp only; omega) _
      · obtain rfl : E = C := E3.out trivial h2 h3
        have h3' : ¬ (E == 0) = true := by simpa using h3
        go_wp2
        refine bodyPost_ret (v := .tuple #[shv ⟨#[]⟩ ⟨#[]⟩ 0 0 0 0 (.slice none 0 0) (.slice none 0 0), iv E]) (by simp [results, Tryz.results17, go_sem, *]) rfl ⟨_, rfl, HB.out _ h3, (by with_reducible repeat (first | exact Gr.refl _ | assumption | refine Gr.alloc ?_ _ | refine Gr.drewN ?_ _ | refine Gr.drew ?_ | refine Gr.setCell ?_ (by first | (dsimp only; omega) | (simp only [World.size_alloc]; omega) | (refine Gr.size ?_; (repeat (first | exact Gr.refl _ | assumption | refine Gr.alloc ?_ _ | refine Gr.drewN ?_ _ | refine Gr.drew ?_ | refine Gr.trans ?_ (by assumption))); done)) _ | refine Gr.trans ?_ (by assumption)))⟩
  · have h1' : ¬ (V == 0) = true := by simpa using h1
    obtain rfl : E = V := E1.out h1
    go_wp2
    refine bodyPost_ret (v := .tuple #[shv ⟨#[]⟩ ⟨#[]⟩ 0 0 0 0 (.slice none 0 0) (.slice none 0 0), iv E]) (by simp [results, Tryz.results17, go_sem, *]) rfl ⟨_, rfl, HB.out _ h1, (by with_reducible repeat (first | exact Gr.refl _ | assumption | refine Gr.alloc ?_ _ | refine Gr.drewN ?_ _ | refine Gr.drew ?_ | refine Gr.setCell ?_ (by first | (dsimp only; omega) | (simp only [World.size_alloc]; omega) | (refine Gr.size ?_; (repeat (first | exact Gr.refl _ | assumption | refine Gr.alloc ?_ _ | refine Gr.drewN ?_ _ | refine Gr.drew ?_ | refine Gr.trans ?_ (by assumption))); done)) _ | refine Gr.trans ?_ (by assumption)))⟩
end RG
end Go.Proofs.YtddhaiaapomdjaaGreat
set_option linter.unusedVariables false
set_option linter.unusedSimpArgs false
namespace Go.Proofs.YtddhaiaapomdjaaGreat
set_option linter.unusedVariables false
set_option linter.unusedSimpArgs false
open Go Go.ChangeShapes Go.WideShapes Go.ChangeAt Go.RowKit Go.Deep

namespace RG
theorem coE_1 {l : List Rc} {wd ht : Int} (h : vaB l = false) : coE l wd ht = 1 := by unfold coE; rw [if_neg (by simp [h])]
theorem coE_13 {l : List Rc} {wd ht : Int} (h : vaB l = true) (k : aiB l ⟨0, 0, wd, ht⟩ = false) : coE l wd ht = 13 := by unfold coE; rw [if_pos h, if_neg (by simp [k])]
theorem coE_0 {l : List Rc} {wd ht : Int} (h : vaB l = true) (k : aiB l ⟨0, 0, wd, ht⟩ = true) : coE l wd ht = 0 := by unfold coE; rw [if_pos h, if_pos k]
theorem rm_hit {s : ShT} {l : List Rc} {k : Nat} {r : Rc} (hr : l[k]? = some r) (h : meB r s.cl = true ∨ meB r s.us = true ∨ meB r (l.take k) = true) : (npB ovQ l (s.cl ++ s.us) || apB ovQ l) = true := by
  rw [Bool.or_eq_true]
  rcases h with h | h | h
  · refine .inl ?_
    rw [npB_me]
    exact List.any_eq_true.2 ⟨r, List.mem_of_getElem? hr, by rw [meB_app, h]; rfl⟩
  · refine .inl ?_
    rw [npB_me]
    exact List.any_eq_true.2 ⟨r, List.mem_of_getElem? hr, by rw [meB_app, h, Bool.or_true]⟩
  · refine .inr ?_
    obtain ⟨o, ho, hq⟩ := List.any_eq_true.1 h
    obtain ⟨j, hj⟩ := List.mem_iff_getElem?.1 ho
    have hlt : j < k := by
      have := (List.getElem?_eq_some_iff.1 hj).1
      rw [List.length_take] at this
      omega
    rw [List.getElem?_take_of_lt hlt] at hj
    exact apB_yes hj hr hlt (by rw [ovQ_comm']; exact hq)
theorem rm_none {s : ShT} {l : List Rc} (h : ∀ (j : Nat) (r : Rc), j < l.length → l[j]? = some r → meB r s.cl = false ∧ meB r s.us = false ∧ meB r (l.take j) = false) : (npB ovQ l (s.cl ++ s.us) || apB ovQ l) = false := by
  rw [Bool.or_eq_false_iff]
  refine ⟨?_, apB_no fun i j hi hj => ?_⟩
  · rw [npB_me]
    refine List.any_eq_false.2 fun r hr => ?_
    obtain ⟨j, hj⟩ := List.mem_iff_getElem?.1 hr
    have := h j r (List.getElem?_eq_some_iff.1 hj).1 hj
    rw [meB_app, this.1, this.2.1]
    decide
  · obtain ⟨r, hr⟩ : ∃ r, l[i]? = some r := ⟨_, List.getElem?_eq_getElem hi⟩
    obtain ⟨o, ho⟩ : ∃ o, l[j]? = some o := ⟨_, List.getElem?_eq_getElem (Nat.lt_trans hj hi)⟩
    rw [pjB_at ho hr, ovQ_comm']
    have h1 := (h i r hi hr).2.2
    have h2 := List.any_eq_false.1 h1 o (List.mem_of_getElem? (i := j) (by rw [List.getElem?_take_of_lt hj]; exact ho))
    simpa using h2
set_option maxHeartbeats 16000000 in
set_option maxRecDepth 100000 in
theorem rRemnant_any (s : ShT) (A : Option Addr) (c : Nat) (l : List Rc) (w : World) (hs : ShW w s) (hl : SlR w A c l) :
    Calls Tryz.prog 18 #[s.v, .slice A l.length c] w fun e w' => ∃ X, e = .returned (.tuple #[X, iv (rmE s l)]) ∧ RmO w' s l X ∧ Gr w w' := by
  have HV := hide (fun (w' : World) (g : Gr w w') => rValidateSheet_any s w' (hs.gr g))
  have HRI := hide (fun (w' : World) (g : Gr w w') => rights6_any A c l w' (hl.gr g))
  have HIN := hide (fun (w' : World) (g : Gr w w') => inside6_any s A c l w' (hl.gr g))
  have HMC := hide (fun (r : Rc) (w' : World) (g : Gr w w') => meets6_any r s.cA s.cc s.cl w' (hs.c.gr g))
  have HMU := hide (fun (r : Rc) (w' : World) (g : Gr w w') => meets6_any r s.uA s.uc s.us w' (hs.u.gr g))
  have HML := hide (fun (r : Rc) (k : Nat) (hk : k ≤ l.length) (w' : World) (g : Gr w w') => show Calls Tryz.prog 50 #[rcv r, .slice A k c] w' fun e w'' => e = .returned (.bool (meB r (l.take k))) ∧ Gr w' w'' from by
    have := meets6_any r A c (l.take k) w' (slr_take (hl.gr g) k)
    rwa [List.length_take, Nat.min_eq_left hk] at this)
  have HSL := hide hl
  have HSU := hide hs.u
  have HSC := hide hs.c
  have n1 := hs.c.cap
  have n2 := hs.c.capB
  have n3 := hs.u.cap
  have n4 := hs.u.capB
  have n5 := hl.cap
  have n6 := hl.capB
  obtain ⟨R, hR⟩ : ∃ R, rmW s l = R := ⟨_, rfl⟩
  have W1 : IntKind.i64.wrap ((s.us.length : Int) + (l.length : Int)) = R := hR
  have HB := hide (fun (w' : World) => @RmO.bad s l w')
  have HG := hide (fun (h0 : rmE s l = 0) (w' : World) (D1 : Option Addr) (q1 : Nat) (D2 : Option Addr) (q2 : Nat) (h1 : SlR w' D1 q1 s.cl) (h2 : SlR w' D2 q2 (s.us ++ l)) => show RmO w' s l (shv s.nm s.mt s.ga s.gr s.wd s.ht (.slice D1 s.cl.length q1) (.slice D2 (s.us ++ l).length q2)) from RmO.good h0 (D1 := D1) (q1 := q1) (D2 := D2) (q2 := q2) ⟨h1, h2, hs.n1, hs.n2⟩)
  have E1 := hide (fun (h : vsE s ≠ 0) => rm_1 l h)
  have E2 := hide (fun (h : vsE s = 0) => @rm_2 s l h)
  have E3 := hide (fun (h : vsE s = 0) (h2 : ¬ 48 < rmW s l) (h3 : vaB l = false) => show rmE s l = 1 from by rw [rm_3 h h2 (by rw [coE_1 h3]; decide), coE_1 h3])
  have E4 := hide (fun (h : vsE s = 0) (h2 : ¬ 48 < rmW s l) (h3 : vaB l = true) (h4 : aiB l ⟨0, 0, s.wd, s.ht⟩ = false) => show rmE s l = 13 from by rw [rm_3 h h2 (by rw [coE_13 h3 h4]; decide), coE_13 h3 h4])
  have E5 := hide (fun (h : vsE s = 0) (h2 : ¬ 48 < rmW s l) (h3 : vaB l = true) (h4 : aiB l ⟨0, 0, s.wd, s.ht⟩ = true) (k : Nat) (r : Rc) (hr : l[k]? = some r) (h5 : meB r s.cl = true ∨ meB r s.us = true ∨ meB r (l.take k) = true) => show rmE s l = 7 from rm_4 h h2 (coE_0 h3 h4) (rm_hit hr h5))
  have E6 := hide (fun (h : vsE s = 0) (h2 : ¬ 48 < rmW s l) (h3 : vaB l = true) (h4 : aiB l ⟨0, 0, s.wd, s.ht⟩ = true) (h5 : ∀ (j : Nat) (r : Rc), j < l.length → l[j]? = some r → meB r s.cl = false ∧ meB r s.us = false ∧ meB r (l.take j) = false) => show rmE s l = 0 from rm_5 h h2 (coE_0 h3 h4) (rm_none h5))
  rw [hR] at E2 E3 E4 E5 E6
  have EG := hide (fun (h : rmE s l = 0) => show s.cl.length ≤ 4 ∧ s.us.length + l.length ≤ 48 from ⟨(vsE_len (rmE_good h).1).1, (rmE_good h).2.1⟩)
  generalize hE : rmE s l = E at *
  generalize vsE s = V at *
  generalize vaB l = B1 at *
  generalize aiB l ⟨0, 0, s.wd, s.ht⟩ = B2 at *
  obtain ⟨U, hU⟩ : ∃ U, s.us ++ l = U := ⟨_, rfl⟩
  rw [hU] at HG
  have HU := hide hU
  clear hs hl hR hE hU
  obtain ⟨nm, mt, ga, gr, wd, ht, cA, cc, cl, uA, uc, us⟩ := s
  dsimp only at *
  go_enter Tryz.func18, Tryz.ntmps18
  go_upto_region 1 with fail
  obtain ⟨w1, hw1⟩ : ∃ W, w.alloc (.cells #[.string nm, .string mt, iv ga, iv gr, iv wd, iv ht, .slice cA cl.length cc, .slice uA us.length uc] 24) = W := ⟨_, rfl⟩
  have HM1 := hide (show Made w1 w.heap.size #[.string nm, .string mt, iv ga, iv gr, iv wd, iv ht, .slice cA cl.length cc, .slice uA us.length uc] from by rw [← hw1]; exact Made.new _ _ _)
  have gw1 : Gr w w1 := by rw [← hw1]; exact Gr.alloc (Gr.refl _) _
  have hq1 : w1.heap.size = w.heap.size + 1 := by rw [← hw1]; exact World.size_alloc _ _
  rw [hw1]
  clear hw1
  obtain ⟨w2, hw2⟩ : ∃ W, w1.alloc (.cells #[.string ⟨#[]⟩, .string ⟨#[]⟩, iv 0, iv 0, iv 0, iv 0, .slice none 0 0, .slice none 0 0] 24) = W := ⟨_, rfl⟩
  have HM := hide (show Made w2 w.heap.size #[.string nm, .string mt, iv ga, iv gr, iv wd, iv ht, .slice cA cl.length cc, .slice uA us.length uc] from by rw [← hw2]; exact HM1.out.gr (Gr.alloc (Gr.refl _) _))
  have HZ := hide (show Made w2 (w.heap.size + 1) #[.string ⟨#[]⟩, .string ⟨#[]⟩, iv 0, iv 0, iv 0, iv 0, .slice none 0 0, .slice none 0 0] from by rw [← hw2, ← hq1]; exact Made.new _ _ _)
  have g2 : Gr w w2 := by rw [← hw2]; exact Gr.alloc gw1 _
  have hw2' := hw2
  clear HM1 gw1 hq1
  change Code.wp _ _ _ _ (World.alloc w1 (.cells #[.string ⟨#[]⟩, .string ⟨#[]⟩, iv 0, iv 0, iv 0, iv 0, .slice none 0 0, .slice none 0 0] 24))
  rw [hw2]
  clear hw2 hw2'
  clear w1
  have hf1 : w.heap.size < w2.heap.size := HM.out.1
  have hf2 : w.heap.size + 1 < w2.heap.size := HZ.out.1
  obtain ⟨l1, y0, _⟩ := HM.out
  have a0 := y0 0
  have a1 := y0 1
  have a2 := y0 2
  have a3 := y0 3
  have a4 := y0 4
  have a5 := y0 5
  have a6 := y0 6
  have a7 := y0 7
  clear y0
  go_wp2_with fail
  refine (HV.out _ g2).mono ?_
  rintro e w3 ⟨rfl, g3⟩
  clear l1 a0 a1 a2 a3 a4 a5 a6 a7
  obtain ⟨l1, y0, _⟩ := HM.out.gr g3
  have a0 := y0 0
  have a1 := y0 1
  have a2 := y0 2
  have a3 := y0 3
  have a4 := y0 4
  have a5 := y0 5
  have a6 := y0 6
  have a7 := y0 7
  clear y0
  obtain ⟨l2, x0, _⟩ := HZ.out.gr g3
  have z0 := x0 0
  have z1 := x0 1
  have z2 := x0 2
  have z3 := x0 3
  have z4 := x0 4
  have z5 := x0 5
  have z6 := x0 6
  have z7 := x0 7
  clear x0
  by_cases h1 : V = 0
  · subst h1
    go_upto_region 4 with fail
    by_cases h2 : 48 < R
    · obtain rfl : E = 4 := E2.out trivial h2
      go_wp2
      refine bodyPost_ret (v := .tuple #[shv ⟨#[]⟩ ⟨#[]⟩ 0 0 0 0 (.slice none 0 0) (.slice none 0 0), iv 4]) (by simp [results, Tryz.results18, go_sem, *]) rfl ⟨_, rfl, HB.out _ (by decide), (by with_reducible repeat (first | exact Gr.refl _ | assumption | refine Gr.alloc ?_ _ | refine Gr.drewN ?_ _ | refine Gr.drew ?_ | refine Gr.setCell ?_ (by first | (dsimp only; omega) | (simp only [World.size_alloc]; omega) | (refine Gr.size ?_; (repeat (first | exact Gr.refl _ | assumption | refine Gr.alloc ?_ _ | refine Gr.drewN ?_ _ | refine Gr.drew ?_ | refine Gr.trans ?_ (by assumption))); done)) _ | refine Gr.trans ?_ (by assumption)))⟩
    · go_upto_region 6 with fail
      go_wp2_with fail
      refine (HRI.out _ (g2.trans g3)).mono ?_
      rintro e w4 ⟨rfl, g4⟩
      clear l1 l2 a0 a1 a2 a3 a4 a5 a6 a7 z0 z1 z2 z3 z4 z5 z6 z7
      obtain ⟨l1, y0, v0⟩ := HM.out.gr (g3.trans g4)
      have a0 := y0 0
      have a1 := y0 1
      have a2 := y0 2
      have a3 := y0 3
      have a4 := y0 4
      have a5 := y0 5
      have a6 := y0 6
      have a7 := y0 7
      clear y0 v0
      obtain ⟨l2, x0, u0⟩ := HZ.out.gr (g3.trans g4)
      have z0 := x0 0
      have z1 := x0 1
      have z2 := x0 2
      have z3 := x0 3
      have z4 := x0 4
      have z5 := x0 5
      have z6 := x0 6
      have z7 := x0 7
      clear x0
      cases B1 with
      | false =>
        obtain rfl : E = 1 := E3.out trivial h2 rfl
        go_wp2
        refine bodyPost_ret (v := .tuple #[shv ⟨#[]⟩ ⟨#[]⟩ 0 0 0 0 (.slice none 0 0) (.slice none 0 0), iv 1]) (by simp [results, Tryz.results18, go_sem, *]) rfl ⟨_, rfl, HB.out _ (by decide), (by with_reducible repeat (first | exact Gr.refl _ | assumption | refine Gr.alloc ?_ _ | refine Gr.drewN ?_ _ | refine Gr.drew ?_ | refine Gr.setCell ?_ (by first | (dsimp only; omega) | (simp only [World.size_alloc]; omega) | (refine Gr.size ?_; (repeat (first | exact Gr.refl _ | assumption | refine Gr.alloc ?_ _ | refine Gr.drewN ?_ _ | refine Gr.drew ?_ | refine Gr.trans ?_ (by assumption))); done)) _ | refine Gr.trans ?_ (by assumption)))⟩
      | true =>
        go_upto_region 8 with fail
        go_wp2_with fail
        refine (HIN.out _ (g2.trans (g3.trans g4))).mono ?_
        rintro e w5 ⟨rfl, g5⟩
        clear u0 l1 l2 a0 a1 a2 a3 a4 a5 a6 a7 z0 z1 z2 z3 z4 z5 z6 z7
        obtain ⟨l1, y0, v0⟩ := HM.out.gr (g3.trans (g4.trans g5))
        have a0 := y0 0
        have a1 := y0 1
        have a2 := y0 2
        have a3 := y0 3
        have a4 := y0 4
        have a5 := y0 5
        have a6 := y0 6
        have a7 := y0 7
        clear y0 v0
        obtain ⟨l2, x0, u0⟩ := HZ.out.gr (g3.trans (g4.trans g5))
        have z0 := x0 0
        have z1 := x0 1
        have z2 := x0 2
        have z3 := x0 3
        have z4 := x0 4
        have z5 := x0 5
        have z6 := x0 6
        have z7 := x0 7
        clear x0
        cases B2 with
        | false =>
          obtain rfl : E = 13 := E4.out trivial h2 trivial rfl
          go_wp2
          refine bodyPost_ret (v := .tuple #[shv ⟨#[]⟩ ⟨#[]⟩ 0 0 0 0 (.slice none 0 0) (.slice none 0 0), iv 13]) (by simp [results, Tryz.results18, go_sem, *]) rfl ⟨_, rfl, HB.out _ (by decide), (by with_reducible repeat (first | exact Gr.refl _ | assumption | refine Gr.alloc ?_ _ | refine Gr.drewN ?_ _ | refine Gr.drew ?_ | refine Gr.setCell ?_ (by first | (dsimp only; omega) | (simp only [World.size_alloc]; omega) | (refine Gr.size ?_; (repeat (first | exact Gr.refl _ | assumption | refine Gr.alloc ?_ _ | refine Gr.drewN ?_ _ | refine Gr.drew ?_ | refine Gr.trans ?_ (by assumption))); done)) _ | refine Gr.trans ?_ (by assumption)))⟩
        | true =>
          have g25 := g3.trans (g4.trans g5)
          have g05 := g2.trans g25
          have HMA := hide (HM.out.gr g25)
          have HZA := hide (HZ.out.gr g25)
          clear u0 l1 l2 a0 a1 a2 a3 a4 a5 a6 a7 z0 z1 z2 z3 z4 z5 z6 z7
          clear g3 g4 g5 g2 g25 HM HZ HV HRI HIN hf1 hf2
          go_upto_region 11 with fail
          have HBX := hide (fun (w' : World) (g' : Gr w5 w') => And.intro (HMA.out.gr g') (HZA.out.gr g'))
          have HS0 : Hid (∀ (j : Nat) (r : Rc), j < 0 → l[j]? = some r → meB r cl = false ∧ meB r us = false ∧ meB r (l.take j) = false) := hide (fun j r h => absurd h (Nat.not_lt_zero j))
          go_loopw [7] (fun i wr => ∃ k : Nat, k ≤ l.length ∧ i = iv k ∧ Gr w5 wr ∧ Hid (∀ (j : Nat) (r : Rc), j < k → l[j]? = some r → meB r cl = false ∧ meB r us = false ∧ meB r (l.take j) = false)) (fun i _ => l.length - (intOf i).toNat)
          case atStart => exact ⟨0, by omega, rfl, Gr.refl _, HS0⟩
          case round =>
            obtain ⟨k, hk, rfl, g1, HS⟩ := hrel
            by_cases hkl : k < l.length
            · obtain ⟨r, hr⟩ : ∃ r, l[k]? = some r := ⟨_, List.getElem?_eq_getElem hkl⟩
              obtain ⟨b, o, rfl, x0, x1, x2, x3⟩ := (HSL.out.gr (g05.trans g1)).at_ hr
              have hbl : b < wr.heap.size := cell_lt (by rw [x0]; rfl)
              obtain ⟨⟨hb1, y1, _⟩, hb2, _, _⟩ := HBX.out wr g1
              have a6 := y1 6
              have a7 := y1 7
              clear y1
              have hk0 : (0 : Int) ≤ (k : Int) := by omega
              have hk1 : (k : Int) < (l.length : Int) := by omega
              have hkc : (k : Int) ≤ (c : Int) := by omega
              have HX := hide hr
              have gwr := g05.trans g1
              have K1 := hide (fun (w' : World) (g' : Gr wr w') => HMC.out r w' (gwr.trans g'))
              have K2 := hide (fun (w' : World) (g' : Gr wr w') => HMU.out r w' (gwr.trans g'))
              have K3 := hide (fun (w' : World) (g' : Gr wr w') => HML.out r k hk w' (gwr.trans g'))
              clear hr
              cases p1 : meB r cl with
              | true =>
                obtain rfl : E = 7 := E5.out trivial h2 trivial trivial k r HX.out (.inl p1)
                rw [p1] at K1
                clear p1
                go_upto_region 13 with fail
                have GC := @GrW.cell
                refine wp_region_grw _ (by kernel_rfl) (by kernel_rfl) (Gr.refl _) ?_
                repeat (go_big_quiet_step (fail))
                go_big_quiet_step ((first | (go_at_call 50; exact quiet_grw (K1.out _ (GrW.gr _)))))
                repeat (go_big_quiet_step (fail))
                refine wpQuiet_nil ?_
                intro wq hwq
                obtain ⟨gq, hwq'⟩ := hwq
                subst hwq'
                clear GC
                have gq1 := gq.gr
                generalize gq.w = wq at gq1 ⊢
                obtain ⟨⟨l1, -, -⟩, l2, x2, u0⟩ := HBX.out wq (g1.trans gq1)
                have z0 := x2 0
                have z1 := x2 1
                have z2 := x2 2
                have z3 := x2 3
                have z4 := x2 4
                have z5 := x2 5
                have z6 := x2 6
                have z7 := x2 7
                clear a6 a7
                go_wp2
                refine bodyPost_ret (v := .tuple #[shv ⟨#[]⟩ ⟨#[]⟩ 0 0 0 0 (.slice none 0 0) (.slice none 0 0), iv 7]) (by simp [results, Tryz.results18, go_sem, *]) rfl ⟨_, rfl, HB.out _ (by decide), (by with_reducible repeat (first | exact Gr.refl _ | assumption | refine Gr.alloc ?_ _ | refine Gr.drewN ?_ _ | refine Gr.drew ?_ | refine Gr.setCell ?_ (by first | (dsimp only; omega) | (simp only [World.size_alloc]; omega) | (refine Gr.size ?_; (repeat (first | exact Gr.refl _ | assumption | refine Gr.alloc ?_ _ | refine Gr.drewN ?_ _ | refine Gr.drew ?_ | refine Gr.trans ?_ (by assumption))); done)) _ | refine Gr.trans ?_ (by assumption)))⟩
              | false =>
                rw [p1] at K1
                cases p2 : meB r us with
                | true =>
                  obtain rfl : E = 7 := E5.out trivial h2 trivial trivial k r HX.out (.inr (.inl p2))
                  rw [p2] at K2
                  clear p1 p2
                  go_upto_region 13 with fail
                  have GC := @GrW.cell
                  refine wp_region_grw _ (by kernel_rfl) (by kernel_rfl) (Gr.refl _) ?_
                  repeat (go_big_quiet_step (fail))
                  go_big_quiet_step ((first | (go_at_call 50; exact quiet_grw (K1.out _ (GrW.gr _)))))
                  repeat (go_big_quiet_step (fail))
                  go_big_quiet_step ((first | (go_at_call 50; exact quiet_grw (K2.out _ (GrW.gr _)))))
                  repeat (go_big_quiet_step (fail))
                  refine wpQuiet_nil ?_
                  intro wq hwq
                  obtain ⟨gq, hwq'⟩ := hwq
                  subst hwq'
                  clear GC
                  have gq1 := gq.gr
                  generalize gq.w = wq at gq1 ⊢
                  obtain ⟨⟨l1, -, -⟩, l2, x2, u0⟩ := HBX.out wq (g1.trans gq1)
                  have z0 := x2 0
                  have z1 := x2 1
                  have z2 := x2 2
                  have z3 := x2 3
                  have z4 := x2 4
                  have z5 := x2 5
                  have z6 := x2 6
                  have z7 := x2 7
                  clear a6 a7
                  go_wp2
                  refine bodyPost_ret (v := .tuple #[shv ⟨#[]⟩ ⟨#[]⟩ 0 0 0 0 (.slice none 0 0) (.slice none 0 0), iv 7]) (by simp [results, Tryz.results18, go_sem, *]) rfl ⟨_, rfl, HB.out _ (by decide), (by with_reducible repeat (first | exact Gr.refl _ | assumption | refine Gr.alloc ?_ _ | refine Gr.drewN ?_ _ | refine Gr.drew ?_ | refine Gr.setCell ?_ (by first | (dsimp only; omega) | (simp only [World.size_alloc]; omega) | (refine Gr.size ?_; (repeat (first | exact Gr.refl _ | assumption | refine Gr.alloc ?_ _ | refine Gr.drewN ?_ _ | refine Gr.drew ?_ | refine Gr.trans ?_ (by assumption))); done)) _ | refine Gr.trans ?_ (by assumption)))⟩
                | false =>
                  rw [p2] at K2
                  cases p3 : meB r (l.take k) with
                  | true =>
                    obtain rfl : E = 7 := E5.out trivial h2 trivial trivial k r HX.out (.inr (.inr p3))
                    rw [p3] at K3
                    clear p1 p2 p3
                    go_upto_region 13 with fail
                    have GC := @GrW.cell
                    refine wp_region_grw _ (by kernel_rfl) (by kernel_rfl) (Gr.refl _) ?_
                    repeat (go_big_quiet_step (fail))
                    go_big_quiet_step ((first | (go_at_call 50; exact quiet_grw (K1.out _ (GrW.gr _)))))
                    repeat (go_big_quiet_step (fail))
                    go_big_quiet_step ((first | (go_at_call 50; exact quiet_grw (K2.out _ (GrW.gr _)))))
                    repeat (go_big_quiet_step (fail))
                    go_big_quiet_step ((first | (go_at_call 50; exact quiet_grw (K3.out _ (GrW.gr _)))))
                    repeat (go_big_quiet_step (fail))
                    refine wpQuiet_nil ?_
                    intro wq hwq
                    obtain ⟨gq, hwq'⟩ := hwq
                    subst hwq'
                    clear GC
                    have gq1 := gq.gr
                    generalize gq.w = wq at gq1 ⊢
                    obtain ⟨⟨l1, -, -⟩, l2, x2, u0⟩ := HBX.out wq (g1.trans gq1)
                    have z0 := x2 0
                    have z1 := x2 1
                    have z2 := x2 2
                    have z3 := x2 3
                    have z4 := x2 4
                    have z5 := x2 5
                    have z6 := x2 6
                    have z7 := x2 7
                    clear a6 a7
                    go_wp2
                    refine bodyPost_ret (v := .tuple #[shv ⟨#[]⟩ ⟨#[]⟩ 0 0 0 0 (.slice none 0 0) (.slice none 0 0), iv 7]) (by simp [results, Tryz.results18, go_sem, *]) rfl ⟨_, rfl, HB.out _ (by decide), (by with_reducible repeat (first | exact Gr.refl _ | assumption | refine Gr.alloc ?_ _ | refine Gr.drewN ?_ _ | refine Gr.drew ?_ | refine Gr.setCell ?_ (by first | (dsimp only; omega) | (simp only [World.size_alloc]; omega) | (refine Gr.size ?_; (repeat (first | exact Gr.refl _ | assumption | refine Gr.alloc ?_ _ | refine Gr.drewN ?_ _ | refine Gr.drew ?_ | refine Gr.trans ?_ (by assumption))); done)) _ | refine Gr.trans ?_ (by assumption)))⟩
                  | false =>
                    rw [p3] at K3
                    have HS' := hide (show ∀ (j : Nat) (r : Rc), j < k + 1 → l[j]? = some r → meB r cl = false ∧ meB r us = false ∧ meB r (l.take j) = false from fun j r' hj hr' => by
                      rcases Nat.lt_or_ge j k with e | e
                      · exact HS.out j r' e hr'
                      · obtain rfl : j = k := by omega
                        rw [HX.out] at hr'
                        obtain rfl := Option.some.inj hr'
                        exact ⟨p1, p2, p3⟩)
                    clear p1 p2 p3
                    go_upto_region 13 with fail
                    have GC := @GrW.cell
                    refine wp_region_grw _ (by kernel_rfl) (by kernel_rfl) (Gr.refl _) ?_
                    repeat (go_big_quiet_step (fail))
                    go_big_quiet_step ((first | (go_at_call 50; exact quiet_grw (K1.out _ (GrW.gr _)))))
                    repeat (go_big_quiet_step (fail))
                    go_big_quiet_step ((first | (go_at_call 50; exact quiet_grw (K2.out _ (GrW.gr _)))))
                    repeat (go_big_quiet_step (fail))
                    go_big_quiet_step ((first | (go_at_call 50; exact quiet_grw (K3.out _ (GrW.gr _)))))
                    repeat (go_big_quiet_step (fail))
                    refine wpQuiet_nil ?_
                    intro wq hwq
                    obtain ⟨gq, hwq'⟩ := hwq
                    subst hwq'
                    clear GC
                    have gq1 := gq.gr
                    generalize gq.w = wq at gq1 ⊢
                    obtain ⟨Xq, Yq, cq, fq⟩ := gq1.use
                    have sq := gq1.size
                    go_wp2
                    go_roundw
                    case rel => exact ⟨k + 1, by omega, by go_num, (by with_reducible repeat (first | exact Gr.refl _ | assumption | refine Gr.alloc ?_ _ | refine Gr.drewN ?_ _ | refine Gr.drew ?_ | refine Gr.setCell ?_ (by first | (dsimp only; omega) | (simp only [World.size_alloc]; omega) | (refine Gr.size ?_; (repeat (first | exact Gr.refl _ | assumption | refine Gr.alloc ?_ _ | refine Gr.drewN ?_ _ | refine Gr.drew ?_ | refine Gr.trans ?_ (by assumption))); done)) _ | refine Gr.trans ?_ (by assumption))), HS'⟩
                    case measure => simp only [intOf]; omega
            · obtain rfl : k = l.length := by omega
              obtain rfl : E = 0 := E6.out trivial h2 trivial trivial HS.out
              obtain ⟨⟨l1, y0, _⟩, l2, _, _⟩ := HBX.out wr g1
              have a0 := y0 0
              have a1 := y0 1
              have a2 := y0 2
              have a3 := y0 3
              have a4 := y0 4
              have a5 := y0 5
              have a6 := y0 6
              have a7 := y0 7
              clear y0
              go_upto_region 16 with fail
              clear a0 a1 a2 a3 a4 a5 a6 a7 l1 l2
              have HSR := hide (show w.heap.size + 1 < wr.heap.size from (HBX.out wr g1).2.1)
              change Code.wp _ _ _ _ (World.alloc wr (.cells #[.string nm, .string mt, iv ga, iv gr, iv wd, iv ht, .slice cA cl.length cc, .slice uA us.length uc] 24))
              obtain ⟨w9, hw9⟩ : ∃ W, World.alloc wr (.cells #[.string nm, .string mt, iv ga, iv gr, iv wd, iv ht, .slice cA cl.length cc, .slice uA us.length uc] 24) = W := ⟨_, rfl⟩
              have HO9 := hide (show Made w9 wr.heap.size #[.string nm, .string mt, iv ga, iv gr, iv wd, iv ht, .slice cA cl.length cc, .slice uA us.length uc] from by rw [← hw9]; exact Made.new _ _ _)
              have g9 : Gr wr w9 := by rw [← hw9]; exact Gr.alloc (Gr.refl _) _
              have S9 := hide (show w9.heap.size = wr.heap.size + 1 from by rw [← hw9]; exact World.size_alloc _ _)
              rw [hw9]
              clear hw9
              have gw9 : Gr w w9 := (g05.trans g1).trans g9
              have HC0 := hide (own_lit (c := rcL) (k := 4) w9 w9.heap.size 70 #[] [] (Nat.le_refl _) (fun _ => rfl) rfl (by decide))
              obtain ⟨⟨l1, y0, _⟩, _, _, _⟩ := HBX.out w9 (g1.trans g9)
              have a6 := y0 6
              clear y0
              go_upto_region 17 with (refine wpList_appL rfl _ _ _ rfl rcL w9.heap.size 70 4 32 elRect (by decide) (fun _ => rfl) one_rc [] cl (some ⟨w9.heap.size, 0, none⟩) 0 0 rfl HC0.out cA cl.length cc rfl (HSC.out.gr (gw9.trans (Gr.alloc (Gr.refl _) _))).rd rfl (by have := EG.out (by first | trivial | rfl); simp only [List.length_nil]; omega) (by decide) (by simp only [World.size_alloc]; omega) ?_; intro D1 N1 q1 w10 hN1 hO1 hG1 hgr1; obtain rfl : N1 = cl.length := hN1; (have G10 := hG1 w9 (Gr.alloc (Gr.refl _) _) (Nat.le_refl _)); (have HD1 := hide (show OwnL w10 w9.heap.size 70 4 rcL (.slice D1 cl.length q1) cl from hO1)); clear hO1 hG1 hgr1; obtain ⟨l3, y3, v3⟩ := HO9.out.gr G10; (have c6 := y3 6); (have v6 := v3 6); clear y3 v3)
              clear c6 v6 a6 l1
              obtain ⟨w11, hw11⟩ : ∃ W, World.setCell w10 ⟨wr.heap.size, 6, none⟩ (.slice D1 cl.length q1) = W := ⟨_, rfl⟩
              have HB3 := hide (show Made w11 wr.heap.size #[.string nm, .string mt, iv ga, iv gr, iv wd, iv ht, .slice D1 cl.length q1, .slice uA us.length uc] from by rw [← hw11]; exact (HO9.out.gr G10).set1 (o := 6) (by simp) _)
              have s10 := G10.size
              have g11 : Gr wr w11 := by rw [← hw11]; exact Gr.setCell (g9.trans G10) (Nat.le_refl _) _
              have HS1 := hide (show SlR w11 D1 q1 cl from by rw [← hw11]; exact slr_far (own_slr HD1.out) (fun _ a ha => by have := own_ge HD1.out a ha; have := S9.out; omega))
              have HF1 := hide (fun (a : Addr) (ha : D1 = some a) => own_ge HD1.out a ha)
              have S11 := hide (show w11.heap.size = w10.heap.size from by rw [← hw11]; exact World.size_setCell _ _ _)
              have l3 : wr.heap.size < w11.heap.size := by have := S11.out; have := S9.out; omega
              rw [hw11]
              clear hw11 HD1 HO9 G10 HC0 s10
              have gw11 : Gr w w11 := (g05.trans g1).trans g11
              have HU0 := hide (own_lit (c := rcL) (k := 4) w11 w11.heap.size 70 #[] [] (Nat.le_refl _) (fun _ => rfl) rfl (by decide))
              obtain ⟨⟨l1, y0, _⟩, _, _, _⟩ := HBX.out w11 (g1.trans g11)
              have a7 := y0 7
              clear y0
              go_upto_region 18 with (first | (refine wpList_appL rfl _ _ _ rfl rcL w11.heap.size 70 4 32 elRect (by decide) (fun _ => rfl) one_rc [] us (some ⟨w11.heap.size, 0, none⟩) 0 0 rfl HU0.out uA us.length uc rfl (HSU.out.gr (gw11.trans (Gr.alloc (Gr.refl _) _))).rd rfl (by have := EG.out (by first | trivial | rfl); simp only [List.length_nil]; omega) (by decide) (by simp only [World.size_alloc]; omega) ?_; intro D8 N8 q8 w12 hN8 hO8 hG8 hgr8; obtain rfl : N8 = us.length := hN8; (have G12 := hG8 w11 (Gr.alloc (Gr.refl _) _) (Nat.le_refl _)); (have HO8 := hide (show OwnL w12 w11.heap.size 70 4 rcL (.slice D8 us.length q8) us from hO8)); clear hO8 hG8 hgr8) | (refine wpList_appL rfl _ _ _ rfl rcL w11.heap.size 70 4 32 elRect (by decide) (fun _ => rfl) one_rc us l D8 us.length q8 rfl HO8.out A l.length c rfl (HSL.out.gr (gw11.trans G12)).rd rfl (by have := EG.out (by first | trivial | rfl); omega) (by decide) G12.size ?_; intro D2 N2 q2 w13 hN2 hO2 hG2 hgr2; rw [HU.out] at hN2 hO2; obtain rfl : N2 = U.length := hN2; (have G13 := hG2 w11 G12 (Nat.le_refl _)); (have HD2 := hide hO2); clear hO2 hG2 hgr2; obtain ⟨l4, y4, v4⟩ := HB3.out.gr G13; (have c7 := y4 7); (have v7 := v4 7); clear y4 v4))
              clear c7 v7 a7 l1 l4
              obtain ⟨w14, hw14⟩ : ∃ W, World.setCell w13 ⟨wr.heap.size, 7, none⟩ (.slice D2 U.length q2) = W := ⟨_, rfl⟩
              have HB4 := hide (show Made w14 wr.heap.size #[.string nm, .string mt, iv ga, iv gr, iv wd, iv ht, .slice D1 cl.length q1, .slice D2 U.length q2] from by rw [← hw14]; exact (HB3.out.gr G13).set1 (o := 7) (by simp) _)
              have g14 : Gr wr w14 := by rw [← hw14]; exact Gr.setCell (g11.trans G13) (Nat.le_refl _) _
              have HK1 := hide (show SlR w14 D1 q1 cl from by rw [← hw14]; exact slr_far (HS1.out.gr G13) (fun _ a ha => by have := HF1.out a ha; have := S9.out; omega))
              have HK2 := hide (show SlR w14 D2 q2 U from by rw [← hw14]; exact slr_far (own_slr HD2.out) (fun _ a ha => by have := own_ge HD2.out a ha; omega))
              have HF2 := hide (fun (a : Addr) (ha : D2 = some a) => own_ge HD2.out a ha)
              have l3' := hide l3
              rw [hw14]
              clear hw14 HD2 HO8 HU0 l3 HB3 HS1
              obtain ⟨l1, y0, _⟩ := HB4.out
              have a0 := y0 0
              have a1 := y0 1
              have a2 := y0 2
              have a3 := y0 3
              have a4 := y0 4
              have a5 := y0 5
              have a6 := y0 6
              have a7 := y0 7
              clear y0
              obtain ⟨_, l2, x2, u0⟩ := HBX.out w14 (g1.trans g14)
              have z0 := x2 0
              have z1 := x2 1
              have z2 := x2 2
              have z3 := x2 3
              have z4 := x2 4
              have z5 := x2 5
              have z6 := x2 6
              have z7 := x2 7
              clear x2
              have gw14 : Gr w w14 := (g05.trans g1).trans g14
              clear gw11 gw9 g14 g11 g9
              have hne : ¬ w.heap.size + 1 = wr.heap.size := by have := HSR.out; omega
              have hne' : ¬ wr.heap.size = w.heap.size + 1 := by have := HSR.out; omega
              go_wp2
              refine bodyPost_ret (v := .tuple #[shv nm mt ga gr wd ht (.slice D1 cl.length q1) (.slice D2 U.length q2), iv 0]) (by simp [results, Tryz.results18, go_sem, *]) rfl ⟨_, rfl, HG.out trivial _ D1 q1 D2 q2 ?_ ?_, ?_⟩
              · repeat (with_reducible refine slr_far ?_ (fun h a ha => by have := HF1.out a ha; have := S9.out; have := HSR.out; omega))
                exact HK1.out
              · repeat (with_reducible refine slr_far ?_ (fun h a ha => by have := HF2.out a ha; have := l3'.out; have := HSR.out; omega))
                exact HK2.out
              · exact Gr.setCell (Gr.setCell (Gr.setCell (Gr.setCell (Gr.setCell (Gr.setCell (Gr.setCell (Gr.setCell gw14 (by dsimp only; omega) _) (by dsimp only; omega) _) (by dsimp only; omega) _) (by dsimp only; omega) _) (by dsimp only; omega) _) (by dsimp only; omega) _) (by dsimp only; omega) _) (by dsimp only; omega) _
  · obtain rfl : E = V := E1.out h1
    have h1' : ¬ (E == 0) = true := by simpa using h1
    go_wp2
    refine bodyPost_ret (v := .tuple #[shv ⟨#[]⟩ ⟨#[]⟩ 0 0 0 0 (.slice none 0 0) (.slice none 0 0), iv E]) (by simp [results, Tryz.results18, go_sem, *]) rfl ⟨_, rfl, HB.out _ h1, (by with_reducible repeat (first | exact Gr.refl _ | assumption | refine Gr.alloc ?_ _ | refine Gr.drewN ?_ _ | refine Gr.drew ?_ | refine Gr.setCell ?_ (by first | (dsimp only; omega) | (simp only [World.size_alloc]; omega) | (refine Gr.size ?_; (repeat (first | exact Gr.refl _ | assumption | refine Gr.alloc ?_ _ | refine Gr.drewN ?_ _ | refine Gr.drew ?_ | refine Gr.trans ?_ (by assumption))); done)) _ | refine Gr.trans ?_ (by assumption)))⟩
end RG
end Go.Proofs.YtddhaiaapomdjaaGreat
set_option linter.unusedVariables false
set_option linter.unusedSimpArgs false
namespace Go.Proofs.YtddhaiaapomdjaaGreat
set_option linter.unusedVariables false
set_option linter.unusedSimpArgs false
open Go Go.ChangeShapes Go.WideShapes Go.ChangeAt Go.RowKit Go.Deep

namespace RG
/-- what Free returns -/
def frW (s : ShT) : Int := if vsE s = 0 then frV s else 0
set_option maxHeartbeats 4000000 in
set_option maxRecDepth 100000 in
theorem Free_bad (s : ShT) (w : World) (hs : ShW w s) (h0 : vsE s ≠ 0) :
    Calls Tryz.prog 15 #[s.v] w fun e w' => e = .returned (.tuple #[iv 0, iv (vsE s)]) ∧ Gr w w' := by
  have HV := hide (fun (w' : World) (g : Gr w w') => ValidateSheet_any s w' (hs.gr g))
  generalize vsE s = E at *
  have h1 : (E != 0) = true := by simpa using h0
  obtain ⟨nm, mt, ga, gr, wd, ht, cA, cc, cl, uA, uc, us⟩ := s
  clear hs h0
  go_enter Tryz.func15, Tryz.ntmps15
  go_wp2_with fail
  refine (HV.out _ (by with_reducible repeat (first | exact Gr.refl _ | assumption | refine Gr.alloc ?_ _ | refine Gr.drewN ?_ _ | refine Gr.drew ?_ | refine Gr.setCell ?_ (by first | (dsimp only; omega) | (simp only [World.size_alloc]; omega) | (refine Gr.size ?_; (repeat (first | exact Gr.refl _ | assumption | refine Gr.alloc ?_ _ | refine Gr.drewN ?_ _ | refine Gr.drew ?_ | refine Gr.trans ?_ (by assumption))); done)) _ | refine Gr.trans ?_ (by assumption)))).mono ?_
  rintro e w1 ⟨rfl, g1⟩
  go_wp2_with fail
  go_ret2
  exact ⟨rfl, (by with_reducible repeat (first | exact Gr.refl _ | assumption | refine Gr.alloc ?_ _ | refine Gr.drewN ?_ _ | refine Gr.drew ?_ | refine Gr.setCell ?_ (by first | (dsimp only; omega) | (simp only [World.size_alloc]; omega) | (refine Gr.size ?_; (repeat (first | exact Gr.refl _ | assumption | refine Gr.alloc ?_ _ | refine Gr.drewN ?_ _ | refine Gr.drew ?_ | refine Gr.trans ?_ (by assumption))); done)) _ | refine Gr.trans ?_ (by assumption)))⟩
set_option maxHeartbeats 4000000 in
set_option maxRecDepth 100000 in
theorem rFree_bad (s : ShT) (w : World) (hs : ShW w s) (h0 : vsE s ≠ 0) :
    Calls Tryz.prog 16 #[s.v] w fun e w' => e = .returned (.tuple #[iv 0, iv (vsE s)]) ∧ Gr w w' := by
  have HV := hide (fun (w' : World) (g : Gr w w') => rValidateSheet_any s w' (hs.gr g))
  generalize vsE s = E at *
  have h1 : (E != 0) = true := by simpa using h0
  obtain ⟨nm, mt, ga, gr, wd, ht, cA, cc, cl, uA, uc, us⟩ := s
  clear hs h0
  go_enter Tryz.func16, Tryz.ntmps16
  go_wp2_with fail
  refine (HV.out _ (by with_reducible repeat (first | exact Gr.refl _ | assumption | refine Gr.alloc ?_ _ | refine Gr.drewN ?_ _ | refine Gr.drew ?_ | refine Gr.setCell ?_ (by first | (dsimp only; omega) | (simp only [World.size_alloc]; omega) | (refine Gr.size ?_; (repeat (first | exact Gr.refl _ | assumption | refine Gr.alloc ?_ _ | refine Gr.drewN ?_ _ | refine Gr.drew ?_ | refine Gr.trans ?_ (by assumption))); done)) _ | refine Gr.trans ?_ (by assumption)))).mono ?_
  rintro e w1 ⟨rfl, g1⟩
  go_wp2_with fail
  go_ret2
  exact ⟨rfl, (by with_reducible repeat (first | exact Gr.refl _ | assumption | refine Gr.alloc ?_ _ | refine Gr.drewN ?_ _ | refine Gr.drew ?_ | refine Gr.setCell ?_ (by first | (dsimp only; omega) | (simp only [World.size_alloc]; omega) | (refine Gr.size ?_; (repeat (first | exact Gr.refl _ | assumption | refine Gr.alloc ?_ _ | refine Gr.drewN ?_ _ | refine Gr.drew ?_ | refine Gr.trans ?_ (by assumption))); done)) _ | refine Gr.trans ?_ (by assumption)))⟩
set_option maxHeartbeats 4000000 in
set_option maxRecDepth 100000 in
theorem rFree_good (s : ShT) (w : World) (hs : ShW w s) (h0 : vsE s = 0) :
    Calls Tryz.prog 16 #[s.v] w fun e w' => e = .returned (.tuple #[iv (frV s), iv 0]) ∧ Gr w w' := by
  have HV := hide (fun (w' : World) (g : Gr w w') => rValidateSheet_any s w' (hs.gr g))
  have HF := hide (fun (w' : World) (g : Gr w w') => free6_any s w' (hs.gr g) h0)
  rw [h0] at HV
  generalize frV s = F at *
  obtain ⟨nm, mt, ga, gr, wd, ht, cA, cc, cl, uA, uc, us⟩ := s
  clear hs h0
  go_enter Tryz.func16, Tryz.ntmps16
  go_upto_region 1 with fail
  obtain ⟨w0, hw0⟩ : ∃ W, w.alloc (.cells #[.string nm, .string mt, iv ga, iv gr, iv wd, iv ht, .slice cA cl.length cc, .slice uA us.length uc] 24) = W := ⟨_, rfl⟩
  have HM := hide (show Made w0 w.heap.size #[.string nm, .string mt, iv ga, iv gr, iv wd, iv ht, .slice cA cl.length cc, .slice uA us.length uc] from by rw [← hw0]; exact Made.new _ _ _)
  have gw0 : Gr w w0 := by rw [← hw0]; exact Gr.alloc (Gr.refl _) _
  rw [hw0]
  clear hw0
  generalize w.heap.size = b1 at HM ⊢
  obtain ⟨l1, y0, _⟩ := HM.out
  have a0 := y0 0
  have a1 := y0 1
  have a2 := y0 2
  have a3 := y0 3
  have a4 := y0 4
  have a5 := y0 5
  have a6 := y0 6
  have a7 := y0 7
  clear y0
  go_wp2_with fail
  refine (HV.out _ gw0).mono ?_
  rintro e w1 ⟨rfl, g1⟩
  clear l1 a0 a1 a2 a3 a4 a5 a6 a7
  obtain ⟨l1, y0, _⟩ := HM.out.gr g1
  have a0 := y0 0
  have a1 := y0 1
  have a2 := y0 2
  have a3 := y0 3
  have a4 := y0 4
  have a5 := y0 5
  have a6 := y0 6
  have a7 := y0 7
  clear y0
  go_wp2_with fail
  refine (HF.out _ (gw0.trans g1)).mono ?_
  rintro e w2 ⟨rfl, g2⟩
  go_wp2_with fail
  go_ret2
  exact ⟨rfl, (gw0.trans g1).trans g2⟩
theorem FreeA_any (s : ShT) (w : World) (hs : ShW w s) :
    Calls Tryz.prog 15 #[s.v] w fun e w' => e = .returned (.tuple #[iv (frW s), iv (vsE s)]) ∧ Gr w w' := by
  by_cases h : vsE s = 0
  · have := Free_any s w hs h
    rwa [show frW s = frV s from if_pos h, h]
  · have := Free_bad s w hs h
    rwa [show frW s = 0 from if_neg h]
theorem rFreeA_any (s : ShT) (w : World) (hs : ShW w s) :
    Calls Tryz.prog 16 #[s.v] w fun e w' => e = .returned (.tuple #[iv (frW s), iv (vsE s)]) ∧ Gr w w' := by
  by_cases h : vsE s = 0
  · have := rFree_good s w hs h
    rwa [show frW s = frV s from if_pos h, h]
  · have := rFree_bad s w hs h
    rwa [show frW s = 0 from if_neg h]
set_option maxHeartbeats 4000000 in
set_option maxRecDepth 100000 in
theorem sameS6_any (nm mt : ByteArray) (ga gr wd ht : Int) (A1 A2 B1 B2 : Option Addr) (a1 a2 b1 b2 n1 n2 : Nat) (w : World) (h1 : SrC w A1 n1 a1 B1 n1 b1) (h2 : SrC w A2 n2 a2 B2 n2 b2) :
    Calls Tryz.prog 19 #[shv nm mt ga gr wd ht (.slice A1 n1 a1) (.slice A2 n2 a2), shv nm mt ga gr wd ht (.slice B1 n1 b1) (.slice B2 n2 b2)] w fun e w' => e = .returned (.bool true) ∧ Gr w w' := by
  go_enter Tryz.func19, Tryz.ntmps19
  go_wp2_with (first | (go_at_call 51; refine (SrC.use (by with_reducible assumption) _ (by with_reducible repeat (first | exact Gr.refl _ | assumption | refine Gr.alloc ?_ _ | refine Gr.drewN ?_ _ | refine Gr.drew ?_ | refine Gr.setCell ?_ (by first | (dsimp only; omega) | (simp only [World.size_alloc]; omega) | (refine Gr.size ?_; (repeat (first | exact Gr.refl _ | assumption | refine Gr.alloc ?_ _ | refine Gr.drewN ?_ _ | refine Gr.drew ?_ | refine Gr.trans ?_ (by assumption))); done)) _ | refine Gr.trans ?_ (by assumption)))).mono ?_; rintro e w1 ⟨rfl, g1⟩; obtain ⟨X1, Y1, c1, f1⟩ := g1.use; have z1 := g1.size; (try simp only [World.size_alloc, World.size_setCell, World.heap_drewN, Nat.add_one_le_iff] at z1); (try have l0 : w.heap.size < w1.heap.size := by omega); (try have l1 : w.heap.size + 1 < w1.heap.size := by omega); (try have l2 : w.heap.size + 1 + 1 < w1.heap.size := by omega)))
  go_ret
  exact ⟨rfl, (by with_reducible repeat (first | exact Gr.refl _ | assumption | refine Gr.alloc ?_ _ | refine Gr.drewN ?_ _ | refine Gr.drew ?_ | refine Gr.setCell ?_ (by first | (dsimp only; omega) | (simp only [World.size_alloc]; omega) | (refine Gr.size ?_; (repeat (first | exact Gr.refl _ | assumption | refine Gr.alloc ?_ _ | refine Gr.drewN ?_ _ | refine Gr.drew ?_ | refine Gr.trans ?_ (by assumption))); done)) _ | refine Gr.trans ?_ (by assumption)))⟩
theorem RmO.open {w : World} {s : ShT} {l : List Rc} {v : Value} (h : RmO w s l v) : ∃ (D1 : Option Addr) (q1 : Nat) (D2 : Option Addr) (q2 : Nat), v = shv (rmO s l none 0 none 0).nm (rmO s l none 0 none 0).mt (rmO s l none 0 none 0).ga (rmO s l none 0 none 0).gr (rmO s l none 0 none 0).wd (rmO s l none 0 none 0).ht (.slice D1 (rmO s l none 0 none 0).cl.length q1) (.slice D2 (rmO s l none 0 none 0).us.length q2) ∧ SlR w D1 q1 (rmO s l none 0 none 0).cl ∧ SlR w D2 q2 (rmO s l none 0 none 0).us := by
  obtain ⟨D1, q1, D2, q2, e, h1⟩ := h
  refine ⟨D1, q1, D2, q2, ?_, ?_, ?_⟩
  · rw [e]; unfold rmO; split <;> rfl
  · have := h1.c; unfold rmO at this ⊢; split at this <;> rename_i k <;> simp only [k] <;> exact this
  · have := h1.u; unfold rmO at this ⊢; split at this <;> rename_i k <;> simp only [k] <;> exact this
theorem rm_free_x {s : ShT} {l : List Rc} (h : rmE s l = 0) (D1 : Option Addr) (q1 : Nat) (D2 : Option Addr) (q2 : Nat) (w : World) (hn : s.nm.size ≤ 9223372036854775807 ∧ s.mt.size ≤ 9223372036854775807) (h1 : SlR w D1 q1 (rmO s l none 0 none 0).cl) (h2 : SlR w D2 q2 (rmO s l none 0 none 0).us) :
    Calls Tryz.prog 15 #[shv (rmO s l none 0 none 0).nm (rmO s l none 0 none 0).mt (rmO s l none 0 none 0).ga (rmO s l none 0 none 0).gr (rmO s l none 0 none 0).wd (rmO s l none 0 none 0).ht (.slice D1 (rmO s l none 0 none 0).cl.length q1) (.slice D2 (rmO s l none 0 none 0).us.length q2)] w fun e w' => e = .returned (.tuple #[iv (frW s - arV l), iv 0]) ∧ Gr w w' := by
  have e : rmO s l none 0 none 0 = rmS s none 0 none 0 l := if_pos h
  rw [e] at h1 h2 ⊢
  have := Free_any (rmS s D1 q1 D2 q2 l) w ⟨h1, h2, hn.1, hn.2⟩ (rm_valid h D1 q1 D2 q2)
  obtain ⟨g1, g2, g3, _, _⟩ := rmE_good h
  have hv := (coE_good g3).1
  rw [rm_free h, ← areaV_eq (fun r hr => vrR_iff.1 (hv r hr)), ← show arV l = areaV l from if_pos (ceL_ok (by omega) fun j r _ hr => hv r (List.mem_of_getElem? hr)), ← show frW s = frV s from if_pos g1] at this
  exact this
theorem rm_sum {s : ShT} {l : List Rc} (h : rmE s l = 0) : ceL l = 0 ∧ IntKind.i64.wrap (frW s - arV l) = frW s - arV l := by
  obtain ⟨g1, g2, g3, _, _⟩ := rmE_good h
  have hv := (coE_good g3).1
  have hc : ceL l = 0 := ceL_ok (by omega) fun j r _ hr => hv r (List.mem_of_getElem? hr)
  refine ⟨hc, IntWalk.i64_in _ ?_⟩
  have f1 := fr_bd g1
  have f2 := wh_bd (vsE_good g1)
  have f3 := rm_free h none 0 none 0
  have f4 := fr_bd (rm_valid h none 0 none 0)
  rw [show arV l = areaV l from if_pos hc, areaV_eq (fun r hr => vrR_iff.1 (hv r hr)), show frW s = frV s from if_pos g1]
  have f5 : frV (rmS s none 0 none 0 l) = s.wd * s.ht - ar 1048576 ((rmS s none 0 none 0 l).cl ++ (rmS s none 0 none 0 l).us) := by unfold frV; simp only [rmS]
  have f6 : (rmS s none 0 none 0 l).wd * (rmS s none 0 none 0 l).ht = s.wd * s.ht := by simp only [rmS]
  rw [f6] at f4
  rw [← f3, f5]
  clear f1 f3 f5 f6
  generalize ar 1048576 ((rmS s none 0 none 0 l).cl ++ (rmS s none 0 none 0 l).us) = Z at *
  generalize s.wd * s.ht = Q at *
  omega
set_option maxHeartbeats 16000000 in
set_option maxRecDepth 100000 in
theorem rem_walk (s : ShT) (A : Option Addr) (c : Nat) (l : List Rc) (w : World) (hs : ShW w s) (hl : SlR w A c l) :
    Calls Tryz.prog 5 #[s.v, .slice A l.length c] w fun e w' => e = .returned (.bool true) ∧ Gr w w' := by
  have HF := hide (fun (w' : World) (g : Gr w w') => FreeA_any s w' (hs.gr g))
  have HRF := hide (fun (w' : World) (g : Gr w w') => rFreeA_any s w' (hs.gr g))
  have HM := hide (fun (w' : World) (g : Gr w w') => Remnant_any s A c l w' (hs.gr g) (hl.gr g))
  have HRM := hide (fun (w' : World) (g : Gr w w') => rRemnant_any s A c l w' (hs.gr g) (hl.gr g))
  have HAR := hide (fun (w' : World) (g : Gr w w') => Area_any A c l w' (hl.gr g))
  have HX := hide (fun (h : rmE s l = 0) (D1 : Option Addr) (q1 : Nat) (D2 : Option Addr) (q2 : Nat) (w' : World) => rm_free_x h D1 q1 D2 q2 w' ⟨hs.n1, hs.n2⟩)
  have HSU := hide (fun (h : rmE s l = 0) => rm_sum h)
  have HOP := hide (fun (w' : World) (v : Value) (h : RmO w' s l v) => h.open)
  generalize rmE s l = E at *
  generalize vsE s = V at *
  generalize frW s = F at *
  generalize arV l = AV at *
  generalize ceL l = CE at *
  generalize rmO s l none 0 none 0 = Z at *
  obtain ⟨znm, zmt, zga, zgr, zwd, zht, zA, za, zcl, zB, zb, zus⟩ := Z
  obtain ⟨nm, mt, ga, gr, wd, ht, cA, cc, cl, uA, uc, us⟩ := s
  dsimp only at HOP HX
  clear hs hl
  go_enter Tryz.func5, Tryz.ntmps5
  go_upto_region 1 with fail
  change Code.wp _ _ _ _ (World.alloc w (.cells #[.string nm, .string mt, iv ga, iv gr, iv wd, iv ht, .slice cA cl.length cc, .slice uA us.length uc] 24))
  obtain ⟨w0, hw0⟩ : ∃ W, World.alloc w (.cells #[.string nm, .string mt, iv ga, iv gr, iv wd, iv ht, .slice cA cl.length cc, .slice uA us.length uc] 24) = W := ⟨_, rfl⟩
  have HB0 := hide (show Made w0 w.heap.size #[.string nm, .string mt, iv ga, iv gr, iv wd, iv ht, .slice cA cl.length cc, .slice uA us.length uc] from by rw [← hw0]; exact Made.new _ _ _)
  have gw0 : Gr w w0 := by rw [← hw0]; exact Gr.alloc (Gr.refl _) _
  rw [hw0]
  clear hw0
  obtain ⟨la, y0, _⟩ := HB0.out
  have a0 := y0 0
  have a1 := y0 1
  have a2 := y0 2
  have a3 := y0 3
  have a4 := y0 4
  have a5 := y0 5
  have a6 := y0 6
  have a7 := y0 7
  clear y0
  go_wp2_with fail
  refine (HF.out _ gw0).mono ?_
  rintro e w1 ⟨rfl, g1⟩
  clear la a0 a1 a2 a3 a4 a5 a6 a7
  obtain ⟨la, y0, _⟩ := HB0.out.gr g1
  have a0 := y0 0
  have a1 := y0 1
  have a2 := y0 2
  have a3 := y0 3
  have a4 := y0 4
  have a5 := y0 5
  have a6 := y0 6
  have a7 := y0 7
  clear y0
  have gw1 := gw0.trans g1
  go_wp2_with fail
  refine (HRF.out _ gw1).mono ?_
  rintro e w2 ⟨rfl, g2⟩
  clear la a0 a1 a2 a3 a4 a5 a6 a7
  have g02 := g1.trans g2
  obtain ⟨la, y0, _⟩ := HB0.out.gr g02
  have a0 := y0 0
  have a1 := y0 1
  have a2 := y0 2
  have a3 := y0 3
  have a4 := y0 4
  have a5 := y0 5
  have a6 := y0 6
  have a7 := y0 7
  clear y0
  have gw2 := gw1.trans g2
  go_wp2_with fail
  refine (HM.out _ gw2).mono ?_
  rintro e w3 ⟨X, rfl, hX, g3⟩
  obtain ⟨D1, q1, D2, q2, rfl, x1, x2⟩ := HOP.out _ _ hX
  have HX1 := hide x1
  have HX2 := hide x2
  clear la a0 a1 a2 a3 a4 a5 a6 a7
  clear hX x1 x2 g1 g2 gw1
  go_upto_region 4 with fail
  change Code.wp _ _ _ _ (World.alloc w3 (.cells #[.string znm, .string zmt, iv zga, iv zgr, iv zwd, iv zht, .slice D1 zcl.length q1, .slice D2 zus.length q2] 24))
  obtain ⟨w4, hw4⟩ : ∃ W, World.alloc w3 (.cells #[.string znm, .string zmt, iv zga, iv zgr, iv zwd, iv zht, .slice D1 zcl.length q1, .slice D2 zus.length q2] 24) = W := ⟨_, rfl⟩
  have HB1 := hide (show Made w4 w3.heap.size #[.string znm, .string zmt, iv zga, iv zgr, iv zwd, iv zht, .slice D1 zcl.length q1, .slice D2 zus.length q2] from by rw [← hw4]; exact Made.new _ _ _)
  have g4 : Gr w3 w4 := by rw [← hw4]; exact Gr.alloc (Gr.refl _) _
  rw [hw4]
  clear hw4
  have g04 := (g02.trans g3).trans g4
  have gw4 := gw0.trans g04
  obtain ⟨la, y0, _⟩ := HB0.out.gr g04
  have a0 := y0 0
  have a1 := y0 1
  have a2 := y0 2
  have a3 := y0 3
  have a4 := y0 4
  have a5 := y0 5
  have a6 := y0 6
  have a7 := y0 7
  clear y0
  go_wp2_with fail
  refine (HRM.out _ gw4).mono ?_
  rintro e w5 ⟨Y, rfl, hY, g5⟩
  obtain ⟨E1, p1, E2, p2, rfl, y1, y2⟩ := HOP.out _ _ hY
  have HY1 := hide y1
  have HY2 := hide y2
  clear la a0 a1 a2 a3 a4 a5 a6 a7
  clear hY y1 y2
  go_upto_region 5 with fail
  change Code.wp _ _ _ _ (World.alloc w5 (.cells #[.string znm, .string zmt, iv zga, iv zgr, iv zwd, iv zht, .slice E1 zcl.length p1, .slice E2 zus.length p2] 24))
  obtain ⟨w6, hw6⟩ : ∃ W, World.alloc w5 (.cells #[.string znm, .string zmt, iv zga, iv zgr, iv zwd, iv zht, .slice E1 zcl.length p1, .slice E2 zus.length p2] 24) = W := ⟨_, rfl⟩
  have HB2 := hide (show Made w6 w5.heap.size #[.string znm, .string zmt, iv zga, iv zgr, iv zwd, iv zht, .slice E1 zcl.length p1, .slice E2 zus.length p2] from by rw [← hw6]; exact Made.new _ _ _)
  have g6 : Gr w5 w6 := by rw [← hw6]; exact Gr.alloc (Gr.refl _) _
  rw [hw6]
  clear hw6
  have g36 := (g4.trans g5).trans g6
  have gw6 := (gw4.trans g5).trans g6
  have K1 := hide (srC_of (HX1.out.gr g36) (HY1.out.gr g6))
  have K2 := hide (srC_of (HX2.out.gr g36) (HY2.out.gr g6))
  obtain ⟨lb, y0, _⟩ := HB1.out.gr (g5.trans g6)
  have b0 := y0 0
  have b1 := y0 1
  have b2 := y0 2
  have b3 := y0 3
  have b4 := y0 4
  have b5 := y0 5
  have b6 := y0 6
  have b7 := y0 7
  clear y0
  obtain ⟨lc, y0, _⟩ := HB2.out
  have c0 := y0 0
  have c1 := y0 1
  have c2 := y0 2
  have c3 := y0 3
  have c4 := y0 4
  have c5 := y0 5
  have c6 := y0 6
  have c7 := y0 7
  clear y0
  go_wp2_with fail
  refine (sameS6_any _ _ _ _ _ _ _ _ _ _ _ _ _ _ _ _ _ K1.out K2.out).mono ?_
  rintro e w7 ⟨rfl, g7⟩
  have gw7 := gw6.trans g7
  by_cases hE : E = 0
  · subst hE
    clear lb b0 b1 b2 b3 b4 b5 b6 b7
    clear lc c0 c1 c2 c3 c4 c5 c6 c7
    obtain ⟨rfl, W1⟩ := HSU.out (by first | trivial | rfl)
    obtain ⟨lb, y0, _⟩ := HB1.out.gr ((g5.trans g6).trans g7)
    have b0 := y0 0
    have b1 := y0 1
    have b2 := y0 2
    have b3 := y0 3
    have b4 := y0 4
    have b5 := y0 5
    have b6 := y0 6
    have b7 := y0 7
    clear y0
    go_wp2_with fail
    refine (HX.out (by first | trivial | rfl) D1 q1 D2 q2 _ (HX1.out.gr (g36.trans g7)) (HX2.out.gr (g36.trans g7))).mono ?_
    rintro e w8 ⟨rfl, g8⟩
    go_wp2_with fail
    refine (HAR.out _ (gw7.trans g8)).mono ?_
    rintro e w9 ⟨rfl, g9⟩
    go_wp2_with fail
    refine (known6_any _).mono ?_
    rintro e wx ⟨rfl, gx⟩
    go_wp2
    go_ret
    exact ⟨rfl, ((gw7.trans g8).trans g9).trans gx⟩
  · have hE' : (E != 0) = true := by simpa using hE
    go_wp2_with fail
    refine (known6_any _).mono ?_
    rintro e wx ⟨rfl, gx⟩
    go_wp2
    go_ret
    exact ⟨rfl, gw7.trans gx⟩
end RG
end Go.Proofs.YtddhaiaapomdjaaGreat
