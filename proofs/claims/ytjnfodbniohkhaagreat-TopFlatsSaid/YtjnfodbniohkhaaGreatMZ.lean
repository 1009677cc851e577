/-
  TopFlats, plainly: an unfolded pattern as a pattern to be turned; how wide it is; that it stays within the limits when it is turned.
  TopFlats, plainly: what is unfolded fits; its faces and cuts, summed up.
  Flat patterns: the heights of the reference; the law of heights.
  TopFlats: Bounds of the code; the law.
  TopFlats, proved: for every part, bend table and turn, the flat pattern that Unfold returns has the deductions of its bends exactly, its surface is the sum of its faces less the deductions and the holes, and turning it keeps the surface and settles it at 0, 0. No condition.
-/
import Derived.Test.YtjnfodbniohkhaaGreatMQ
import Derived.Test.YtjnfodbniohkhaaGreatMY
import Derived.Test.YtjnfodbniohkhaaGreatMS
import Derived.Test.YtjnfodbniohkhaaGreatSet
set_option linter.unusedVariables false
set_option linter.unusedSimpArgs false
namespace Go.Proofs.YtjnfodbniohkhaaGreat
set_option linter.unusedVariables false
set_option linter.unusedSimpArgs false
open Go Go.ChangeShapes Go.WideShapes Go.ChangeAt Go.RowKit Go.Deep

namespace RG
def tchR (r q : Rc) : Prop := r.x ≤ q.x + q.w ∧ q.x ≤ r.x + r.w ∧ r.y ≤ q.y + q.h ∧ q.y ≤ r.y + r.h
def inV (r : Rc) (s : Int × Int × Int × Int) : Prop := s.1 ≤ r.x ∧ s.2.1 ≤ r.y ∧ r.x + r.w ≤ s.2.2.1 ∧ r.y + r.h ≤ s.2.2.2
/-- rectangles of which each touches an earlier one are no wider than their sides in a row -/
theorem bn_side {L : Int} : ∀ (m l : List Rc) (s : Int × Int × Int × Int), (∀ r ∈ l, inV r s ∧ 0 ≤ r.w ∧ 0 ≤ r.h) → (∀ r ∈ m, (0 ≤ r.w ∧ r.w ≤ L) ∧ 0 ≤ r.h ∧ r.h ≤ L) →
    (∀ (i : Nat) (r : Rc), m[i]? = some r → ∃ q, (q ∈ l ∨ ∃ k, k < i ∧ m[k]? = some q) ∧ tchR r q) →
    (bnV m s).2.2.1 - (bnV m s).1 ≤ s.2.2.1 - s.1 + m.length * L ∧ (bnV m s).2.2.2 - (bnV m s).2.1 ≤ s.2.2.2 - s.2.1 + m.length * L
  | [], l, s, _, _, _ => by simp [bnV]
  | r :: m, l, s, h1, h2, h3 => by
    obtain ⟨q, hq, t1, t2, t3, t4⟩ := h3 0 r rfl
    have hql : q ∈ l := by
      rcases hq with h | ⟨k, hk, _⟩
      · exact h
      · omega
    obtain ⟨⟨s1, s2, s3, s4⟩, q1, q2⟩ := h1 q hql
    obtain ⟨r1, r2⟩ := h2 r List.mem_cons_self
    have := bn_side (L := L) m (r :: l) (min s.1 r.x, min s.2.1 r.y, max s.2.2.1 (r.x + r.w), max s.2.2.2 (r.y + r.h)) (fun z hz => by
      rcases List.mem_cons.1 hz with rfl | hz
      · refine ⟨?_, r1.1, r2.1⟩
        unfold inV
        dsimp only
        omega
      · obtain ⟨⟨a1, a2, a3, a4⟩, a5⟩ := h1 z hz
        refine ⟨?_, a5⟩
        unfold inV
        dsimp only
        omega) (fun z hz => h2 z (List.mem_cons_of_mem _ hz)) (fun i z hz => by
      obtain ⟨u, hu, ht⟩ := h3 (i + 1) z (by simpa using hz)
      refine ⟨u, ?_, ht⟩
      rcases hu with h | ⟨k, hk, hk2⟩
      · exact .inl (List.mem_cons_of_mem _ h)
      · cases k with
        | zero => exact .inl (by simp at hk2; subst hk2; exact List.mem_cons_self)
        | succ k => exact .inr ⟨k, by omega, by simpa using hk2⟩)
    rw [show bnV (r :: m) s = bnV m (min s.1 r.x, min s.2.1 r.y, max s.2.2.1 (r.x + r.w), max s.2.2.2 (r.y + r.h)) from rfl, List.length_cons, show ((m.length + 1 : Nat) : Int) * L = m.length * L + L by rw [Int.natCast_add, Int.add_mul]; simp]
    dsimp only at this
    generalize (m.length : Int) * L = mL at *
    omega
theorem bnR_side {L : Int} {l : List Rc} (h0 : 0 < l.length) (h : ∀ r ∈ l, (0 ≤ r.w ∧ r.w ≤ L) ∧ 0 ≤ r.h ∧ r.h ≤ L) (ht : ∀ (i : Nat) (r : Rc), l[i + 1]? = some r → ∃ k q, k ≤ i ∧ l[k]? = some q ∧ tchR r q) :
    (bnR l).w ≤ l.length * L ∧ (bnR l).h ≤ l.length * L := by
  match l, h0 with
  | r :: m, _ =>
    have hr := h r List.mem_cons_self
    have e := bnW_nn r m ⟨hr.1.1, hr.2.1⟩
    have := bn_side (L := L) m [r] (r.x, r.y, r.x + r.w, r.y + r.h) (fun z hz => by
      obtain rfl : z = r := by simpa using hz
      exact ⟨⟨Int.le_refl _, Int.le_refl _, Int.le_refl _, Int.le_refl _⟩, hr.1.1, hr.2.1⟩) (fun z hz => h z (List.mem_cons_of_mem _ hz)) (fun i z hz => by
      obtain ⟨k, q, hk, hq, htc⟩ := ht i z (by simpa using hz)
      refine ⟨q, ?_, htc⟩
      cases k with
      | zero => exact .inl (by simp at hq; subst hq; exact List.mem_cons_self)
      | succ k => exact .inr ⟨k, by omega, by simpa using hq⟩)
    show (bnW (r :: m) r).2.2.1 - (bnW (r :: m) r).1 ≤ _ ∧ (bnW (r :: m) r).2.2.2 - (bnW (r :: m) r).2.1 ≤ _
    rw [e, List.length_cons, show ((m.length + 1 : Nat) : Int) * L = m.length * L + L by rw [Int.natCast_add, Int.add_mul]; simp]
    dsimp only at this
    generalize (m.length : Int) * L = mL at *
    omega
/-- what is within the bounds of the faces of a pattern, which are no wider than 648000, stays within the limits when turned -/
structure Fits (F : Pat) : Prop where
  n0 : 0 < F.r.length ∧ F.r.length ≤ 48
  nc : F.c.length ≤ 48
  nf : F.f.length ≤ 48
  r : ∀ r ∈ F.r, InM 1048576 r
  c : ∀ r ∈ F.c, InM 1048576 r
  f : ∀ r ∈ F.f, InM 1048576 r
  side : (bnR F.r).w ≤ 648000 ∧ (bnR F.r).h ≤ 648000
  wc : ∀ r ∈ F.c, wbR r (bnR F.r)
  wf : ∀ r ∈ F.f, wbR r (bnR F.r)
  b : ∀ b ∈ F.b, odB b = true ∧ bdB b = true ∧ wbR (bx b) (bnR F.r)
theorem Fits.nn {F : Pat} (h : Fits F) : nnB F :=
  ⟨fun r hr => ⟨Int.le_of_lt (h.r r hr).w, Int.le_of_lt (h.r r hr).h⟩, fun r hr => ⟨Int.le_of_lt (h.c r hr).w, Int.le_of_lt (h.c r hr).h⟩, fun r hr => ⟨Int.le_of_lt (h.f r hr).w, Int.le_of_lt (h.f r hr).h⟩⟩
theorem Fits.ch {F : Pat} (h : Fits F) : chE F = 0 := by
  refine if_pos ⟨⟨h.n0.1, h.n0.2⟩, h.nc, h.nf, ?_⟩
  unfold lmB
  simp only [Bool.and_eq_true]
  exact ⟨⟨⟨List.all_eq_true.2 fun r hr => vrR_iff.2 (h.r r hr), List.all_eq_true.2 fun r hr => vrR_iff.2 (h.c r hr)⟩, List.all_eq_true.2 fun r hr => vrR_iff.2 (h.f r hr)⟩, List.all_eq_true.2 fun b hb => (h.b b hb).2.1⟩
theorem Fits.ord {F : Pat} (h : Fits F) : oB F = true := List.all_eq_true.2 fun b hb => (h.b b hb).1
theorem Fits.inq {F : Pat} (h : Fits F) {r : Rc} (hr : wbR r (bnR F.r)) (hp : 0 < r.w ∧ 0 < r.h) (t : Nat) : InM 1048576 (Sh (qU F t) (qV F t) (RN t r)) := by
  have h1 := qt_in (L := 648000) h.n0.1 h.nn.1 h.side hr t
  have h2 := RN_pos hp t
  simp only [Sh] at h1 ⊢
  constructor <;> dsimp only <;> omega
theorem Fits.lm {F : Pat} (h : Fits F) (t : Nat) : lmB (qtF F t) = true := by
  obtain ⟨e1, e2, e3⟩ := qt_r h.nn t
  have e4 : (qtF F t).b = F.b.map (bm (fun r => Sh (qU F t) (qV F t) (RN t r))) := by rw [qt_map h.nn h.ord t]; rfl
  have key : ∀ l : List Rc, (∀ r ∈ l, InM 1048576 r) → (∀ r ∈ l, wbR r (bnR F.r)) → (l.map (fun r => Sh (qU F t) (qV F t) (RN t r))).all vrR = true := fun l hl hw => List.all_eq_true.2 fun r hr => by
    obtain ⟨q, hq, rfl⟩ := List.mem_map.1 hr
    exact vrR_iff.2 (h.inq (hw q hq) ⟨(hl q hq).w, (hl q hq).h⟩ t)
  unfold lmB
  rw [e1, e2, e3, e4, key _ h.r (fun r hr => bnR_wbR h.n0.1 hr), key _ h.c h.wc, key _ h.f h.wf]
  simp only [Bool.true_and, List.all_eq_true]
  intro b hb
  obtain ⟨q, hq, rfl⟩ := List.mem_map.1 hb
  have := qt_in (L := 648000) h.n0.1 h.nn.1 h.side (h.b q hq).2.2 t
  have h2 := RN_nn (bx_nn (h.b q hq).1) t
  unfold bdB nsL bm wiB
  simp only [List.all_cons, List.all_nil, Bool.and_true, Bool.and_eq_true, decide_eq_true_eq]
  simp only [Sh] at this ⊢
  omega
theorem Fits.qE {F : Pat} (h : Fits F) (t : Nat) : qtE F t = 0 ∧ qtP F t = qtF F t := by
  have e : qtE F t = 0 := by unfold qtE; rw [if_pos h.ch, if_pos (h.lm t)]
  exact ⟨e, if_pos e⟩
theorem qt_lens (F : Pat) (t : Nat) : (qtF F t).r.length = F.r.length ∧ (qtF F t).c.length = F.c.length ∧ (qtF F t).f.length = F.f.length ∧ (qtF F t).b.length = F.b.length := by
  simp [qtF, stF, patM]
theorem Fits.qch {F : Pat} (h : Fits F) (t : Nat) : chE (qtF F t) = 0 := by
  obtain ⟨l1, l2, l3, _⟩ := qt_lens F t
  have := h.n0; have := h.nc; have := h.nf
  exact if_pos ⟨by omega, by omega, by omega, h.lm t⟩
theorem lm_r {F : Pat} (h : lmB F = true) : ∀ r ∈ F.r, InM 1048576 r := by
  unfold lmB at h
  simp only [Bool.and_eq_true] at h
  exact fun r hr => vrR_iff.1 (List.all_eq_true.1 h.1.1.1 r hr)
/-- the surface, whatever the turn -/
theorem Fits.srf {F : Pat} (h : Fits F) (t : Nat) : sfV F = srfV 1048576 F.r F.c ∧ sfV (qtF F t) = srfV 1048576 F.r F.c := by
  refine ⟨if_pos h.ch, ?_⟩
  unfold sfV
  rw [if_pos (h.qch t), qt_srf h.r h.c h.f (lm_r (h.lm t))]
end RG
end Go.Proofs.YtjnfodbniohkhaaGreat
set_option linter.unusedVariables false
set_option linter.unusedSimpArgs false
namespace Go.Proofs.YtjnfodbniohkhaaGreat
set_option linter.unusedVariables false
set_option linter.unusedSimpArgs false
open Go Go.ChangeShapes Go.WideShapes Go.ChangeAt Go.RowKit Go.Deep

theorem rcO_wh (q : Pl) (a b w h : Int) (hw : 0 ≤ w) (hh : 0 ≤ h) : ((rcO q a b w h).w = w ∧ (rcO q a b w h).h = h) ∨ ((rcO q a b w h).w = h ∧ (rcO q a b w h).h = w) := by
  obtain ⟨c, d, hcd, hp⟩ := pt_of q
  unfold rcO rcS orS lnO
  simp only [hp]
  clear hp
  have m1 := mn_sp (q.x + (a * c - b * d)) (q.x + ((a + w) * c - (b + h) * d))
  have m2 := mn_sp (q.y + (a * d + b * c)) (q.y + ((a + w) * d + (b + h) * c))
  rcases hcd with ⟨rfl, rfl⟩ | ⟨rfl, rfl⟩ | ⟨rfl, rfl⟩ | ⟨rfl, rfl⟩ <;> omega
theorem rcO_ar (q : Pl) (a b w h : Int) (hw : 0 ≤ w) (hh : 0 ≤ h) : (rcO q a b w h).w * (rcO q a b w h).h = w * h := by
  rcases rcO_wh q a b w h hw hh with ⟨e1, e2⟩ | ⟨e1, e2⟩
  · rw [e1, e2]
  · rw [e1, e2, Int.mul_comm]
theorem rc_ap (q : Pl) (a b w h a' b' w' h' : Int) (hw : 0 < w) (hh : 0 < h) (hw' : 0 < w') (hh' : 0 < h') (hs : a + w ≤ a' ∨ a' + w' ≤ a ∨ b + h ≤ b' ∨ b' + h' ≤ b) : RG.ovR (rcO q a b w h) (rcO q a' b' w' h') = false := by
  rw [← Bool.not_eq_true, RG.ovR_iff]
  obtain ⟨c, d, hcd, hp⟩ := pt_of q
  unfold rcO rcS orS lnO
  simp only [hp]
  clear hp
  have m1 := mn_sp (q.x + (a * c - b * d)) (q.x + ((a + w) * c - (b + h) * d))
  have m2 := mn_sp (q.y + (a * d + b * c)) (q.y + ((a + w) * d + (b + h) * c))
  have m3 := mn_sp (q.x + (a' * c - b' * d)) (q.x + ((a' + w') * c - (b' + h') * d))
  have m4 := mn_sp (q.y + (a' * d + b' * c)) (q.y + ((a' + w') * d + (b' + h') * c))
  intro k
  rcases hcd with ⟨rfl, rfl⟩ | ⟨rfl, rfl⟩ | ⟨rfl, rfl⟩ | ⟨rfl, rfl⟩ <;> rcases hs with hs | hs | hs | hs <;> omega
theorem ov_in {r s R S : RG.Rc} (h : RG.ovR R S = false) (h1 : R.x ≤ r.x ∧ r.x + r.w ≤ R.x + R.w ∧ R.y ≤ r.y ∧ r.y + r.h ≤ R.y + R.h) (h2 : S.x ≤ s.x ∧ s.x + s.w ≤ S.x + S.w ∧ S.y ≤ s.y ∧ s.y + s.h ≤ S.y + S.h) : RG.ovR r s = false := by
  rw [← Bool.not_eq_true, RG.ovR_iff] at *
  omega
theorem hos_apart {p : Pa} (h : valE p = 0) : anyB touB p.ho = false := by
  refine Decidable.byContradiction fun hc => ?_
  rw [Bool.not_eq_false] at hc
  by_cases h1 : (nameB p.nm.toList && nameB p.mt.toList) = true
  · by_cases h2 : basB p = true
    · by_cases h3 : 5 < p.fl.length ∨ 6 < p.ho.length
      · rw [valE_large h1 h2 h3] at h
        cases h
      · rw [valE_rest h1 h2 h3] at h
        split at h
        · rename_i h4
          exact absurd h h4
        split at h
        · cases h
        split at h
        · cases h
        first
          | cases h
          | (rw [if_pos hc] at h
             cases h)
    · rw [valE_base h1 (by simpa using h2)] at h
      cases h
  · rw [valE_names (by simpa using h1)] at h
    cases h
theorem di_sep {x y u h a b c d : Int} (hh : (R.diV x y u h a b c d == 0) = false) : x + u ≤ a ∨ a + c ≤ x ∨ y + h ≤ b ∨ b + d ≤ y := by
  rw [beq_eq_false_iff_ne] at hh
  refine Decidable.byContradiction fun hc => hh ?_
  unfold R.diV R.diM R.poV R.gaV
  split
  · repeat' split
    all_goals omega
  · rfl
theorem ho_sep {p : Pa} (h : valE p = 0) {i k : Nat} {a b : Ho} (hk : k < i) (ha : p.ho[k]? = some a) (hb : p.ho[i]? = some b) (hf : a.fa = b.fa) : a.x + a.w ≤ b.x ∨ b.x + b.w ≤ a.x ∨ a.y + a.h ≤ b.y ∨ b.y + b.h ≤ a.y := by
  have hn := hos_apart h
  have : touB a b = false := by
    cases ht : touB a b with
    | false => rfl
    | true => rw [anyB_yes hk ha hb ht] at hn; cases hn
  unfold touB at this
  rw [hf, beq_self_eq_true, Bool.true_and] at this
  exact di_sep this
/-- the holes of a pattern lie apart -/
theorem ho_ap {p : Pa} {t : Tb} (h : unE p t = 0) : RG.Apart (p.ho.map (rcHo (plsA p t))) := by
  unfold RG.Apart
  rw [List.pairwise_iff_getElem]
  intro i j hi hj hij
  rw [List.length_map] at hi hj
  rw [List.getElem_map, List.getElem_map]
  have K := pk_of (unE_zero h).1
  have hva := (dlE_zero K.ded).1
  have e1 : p.ho[i]? = some p.ho[i] := List.getElem?_eq_getElem hi
  have e2 : p.ho[j]? = some p.ho[j] := List.getElem?_eq_getElem hj
  generalize p.ho[i] = a at *
  generalize p.ho[j] = b at *
  have ka := K.ho i a e1
  have kb := K.ho j b e2
  have a1 := ka.w; have a2 := ka.h; have a3 := ka.fa
  have b1 := kb.w; have b2 := kb.h; have b3 := kb.fa
  by_cases hf : a.fa = b.fa
  · have hs := ho_sep hva hij e1 e2 hf
    unfold rcHo
    rw [hf]
    refine rc_ap _ _ _ _ _ _ _ _ _ (by omega) (by omega) (by omega) (by omega) ?_
    unfold abv
    omega
  · obtain ⟨q, hq, q1, q2, q3, q4⟩ := hole_of h e1
    obtain ⟨s, hs, s1, s2, s3, s4⟩ := hole_of h e2
    have m1 : (urL p t)[a.fa.toNat]? = some (rcF q) := by rw [(urL_ok h).1, List.getElem?_map, hq]; rfl
    have m2 : (urL p t)[b.fa.toNat]? = some (rcF s) := by rw [(urL_ok h).1, List.getElem?_map, hs]; rfl
    have ho : RG.ovR (rcF q) (rcF s) = false := by
      rcases Nat.lt_or_gt_of_ne (show a.fa.toNat ≠ b.fa.toNat by omega) with hl | hl
      · rw [RG.ovR_comm]; exact ur_ov h hl m1 m2
      · exact ur_ov h hl m2 m1
    exact ov_in ho (by omega) (by omega)
theorem cu_ap {p : Pa} {t : Tb} (h : unE p t = 0) : RG.Apart (ucL p t) := by
  rw [(urL_ok h).2.1]
  unfold cuL
  exact List.Pairwise.sublist (List.Sublist.map _ List.filter_sublist) (ho_ap h)
theorem ho_pos {p : Pa} {t : Tb} (h : unE p t = 0) {z : RG.Rc} (hz : z ∈ ucL p t ++ ufL p t) : 0 < z.w ∧ 0 < z.h := by
  obtain ⟨e1, e2, e3, e4⟩ := urL_ok h
  rw [e2, e3, List.mem_append] at hz
  have : ∃ x ∈ p.ho, z = rcHo (plsA p t) x := by
    unfold cuL foL at hz
    simp only [List.mem_map, List.mem_filter] at hz
    rcases hz with ⟨x, ⟨h1, _⟩, rfl⟩ | ⟨x, ⟨h1, _⟩, rfl⟩ <;> exact ⟨x, h1, rfl⟩
  obtain ⟨x, hx, rfl⟩ := this
  obtain ⟨i, hi⟩ := List.mem_iff_getElem?.1 hx
  have K := (pk_of (unE_zero h).1).ho i x hi
  have k1 := K.w; have k2 := K.h
  unfold rcHo
  rcases rcO_wh (((plsA p t)[x.fa.toNat]?).getD pl0) (x.x * 720) (abv (((plsA p t)[x.fa.toNat]?).getD pl0) x.y) (x.w * 720) (x.h * 720) (by omega) (by omega) with ⟨e1, e2⟩ | ⟨e1, e2⟩ <;> rw [e1, e2] <;> omega
/-- what is unfolded, as a pattern that is turned -/
def bdO (b : Bn) : RG.Bd := ⟨b.f, b.p, b.l.a, b.l.b, b.l.c, b.l.d, b.a, b.d⟩
noncomputable def upF (p : Pa) (t : Tb) : RG.Pat := ⟨urL p t, ucL p t, ufL p t, (ubL p t).map bdO⟩
theorem up_w {w : World} {p : Pa} {t : Tb} {A1 : Option Addr} {d1 : Nat} {A2 : Option Addr} {d2 : Nat} {A3 : Option Addr} {d3 : Nat} {A4 : Option Addr} {d4 : Nat} (h : FlO w p t A1 d1 A2 d2 A3 d3 A4 d4) : RG.PatW w A1 d1 A2 d2 A3 d3 A4 d4 (upF p t) := by
  refine ⟨slr_of h.r, slr_of h.c, slr_of h.f, ?_, ?_, h.b.capB⟩
  · intro i x hx
    rw [show (upF p t).b = (ubL p t).map bdO from rfl, List.getElem?_map, Option.map_eq_some_iff] at hx
    obtain ⟨b, hb, rfl⟩ := hx
    exact h.b.rd i b hb
  · rw [show (upF p t).b = (ubL p t).map bdO from rfl, List.length_map]
    exact h.b.cap
/-- sizes of the faces -/
theorem ur_sz {p : Pa} {t : Tb} (h : unE p t = 0) : ∀ r ∈ urL p t, (0 ≤ r.w ∧ r.w ≤ 108000) ∧ 0 ≤ r.h ∧ r.h ≤ 108000 := by
  have K := pk_of (unE_zero h).1
  intro r hr
  rw [(urL_ok h).1, List.mem_map] at hr
  obtain ⟨q, hq, rfl⟩ := hr
  have b := K.pb q hq
  have a := K.ab q hq
  have b1 := b.w; have b2 := b.h; have b3 := b.lo
  have ha : abv q q.h ≤ 108000 := by unfold abv; omega
  unfold rcF
  rcases rcO_wh q 0 0 (q.w * 720) (abv q q.h) (by omega) (by omega) with ⟨e1, e2⟩ | ⟨e1, e2⟩ <;> rw [e1, e2] <;> omega
theorem ur_side {p : Pa} {t : Tb} (h : unE p t = 0) : (RG.bnR (urL p t)).w ≤ 648000 ∧ (RG.bnR (urL p t)).h ≤ 648000 := by
  obtain ⟨l1, l2, l3⟩ := ur_len h
  have l6 := (ur_six h).1
  have := RG.bnR_side (L := 108000) (l := urL p t) (by omega) (ur_sz h) (fun i r hr => by
    have hi : i < p.fl.length := by have := (List.getElem?_eq_some_iff.1 hr).1; omega
    obtain ⟨b, r', s, hb, hr', hs, -, -, hpa, k1, k2, -, -, he, hw⟩ := bn_of h (List.getElem?_eq_getElem hi)
    rw [hr] at hr'
    obtain rfl := Option.some.inj hr'
    refine ⟨_, s, by omega, hs, ?_⟩
    have := k1.w; have := k1.h; have := k2.w; have := k2.h
    unfold edP at he
    unfold wiP at hw
    unfold RG.tchR
    omega)
  have hm : ((urL p t).length : Int) * 108000 ≤ 648000 := by omega
  omega
theorem up_bd {p : Pa} {t : Tb} (h : unE p t = 0) {b : RG.Bd} (hb : b ∈ (upF p t).b) : ∃ r ∈ urL p t, RcB r ∧ (b.a ≤ b.c ∧ b.b ≤ b.d) ∧ r.x ≤ b.a ∧ b.c ≤ r.x + r.w ∧ r.y ≤ b.b ∧ b.d ≤ r.y + r.h := by
  rw [show (upF p t).b = (ubL p t).map bdO from rfl, List.mem_map] at hb
  obtain ⟨n, hn, rfl⟩ := hb
  obtain ⟨i, hi⟩ := List.mem_iff_getElem?.1 hn
  have hl : i < p.fl.length := by have := (List.getElem?_eq_some_iff.1 hi).1; have := (ur_len h).2.1; omega
  obtain ⟨b, r, s, hb, hr, hs, -, -, -, k1, -, -, -, he, -⟩ := bn_of h (List.getElem?_eq_getElem hl)
  rw [hi] at hb
  obtain rfl := Option.some.inj hb
  refine ⟨r, List.mem_of_getElem? hr, k1, ?_⟩
  have := k1.w; have := k1.h
  unfold edP at he
  show (n.l.a ≤ n.l.c ∧ n.l.b ≤ n.l.d) ∧ r.x ≤ n.l.a ∧ n.l.c ≤ r.x + r.w ∧ r.y ≤ n.l.b ∧ n.l.d ≤ r.y + r.h
  omega
theorem up_fits {p : Pa} {t : Tb} (h : unE p t = 0) : RG.Fits (upF p t) := by
  obtain ⟨l1, l2, l3⟩ := ur_len h
  obtain ⟨s1, s2, s3⟩ := ur_six h
  have hin : ∀ z ∈ ucL p t ++ ufL p t, RG.InM 1048576 z ∧ RG.wbR z (RG.bnR (urL p t)) := fun z hz => by
    obtain ⟨k, r, hr, hb, ⟨i1, i2, i3, i4⟩, -, -⟩ := ho_in h hz
    obtain ⟨p1, p2⟩ := ho_pos h hz
    have hw := RG.bnR_wbR (l := urL p t) (by omega) (List.mem_of_getElem? hr)
    have := hb.x; have := hb.y; have := hb.w; have := hb.h
    unfold RG.wbR at hw ⊢
    refine ⟨⟨p1, p2, ?_, ?_, ?_, ?_⟩, ?_⟩ <;> omega
  refine ⟨?_, ?_, ?_, ur_in h, fun r hr => (hin r (List.mem_append_left _ hr)).1, fun r hr => (hin r (List.mem_append_right _ hr)).1, ur_side h, fun r hr => (hin r (List.mem_append_left _ hr)).2, fun r hr => (hin r (List.mem_append_right _ hr)).2, fun b hb => ?_⟩
  · show 0 < (urL p t).length ∧ (urL p t).length ≤ 48
    omega
  · show (ucL p t).length ≤ 48
    omega
  · show (ufL p t).length ≤ 48
    omega
  · obtain ⟨r, hr, k, o1, o2⟩ := up_bd h hb
    have hw := RG.bnR_wbR (l := urL p t) (by omega) hr
    have := k.x; have := k.y; have := k.w; have := k.h
    refine ⟨?_, ?_, ?_⟩
    · unfold RG.odB
      simp only [Bool.and_eq_true, decide_eq_true_eq]
      exact o1
    · unfold RG.bdB RG.nsL RG.wiB
      simp only [List.all_cons, List.all_nil, Bool.and_true, Bool.and_eq_true, decide_eq_true_eq]
      omega
    · unfold RG.wbR at hw ⊢
      simp only [RG.bx]
      show (RG.bnR (urL p t)).x ≤ b.a ∧ _
      rw [show (upF p t).r = urL p t from rfl]
      omega
/-- the surface -/
theorem up_srf {p : Pa} {t : Tb} (h : unE p t = 0) : RG.srfV 1048576 (upF p t).r (upF p t).c = RG.sumA (urL p t) - RG.sumA (ucL p t) := by
  have F := up_fits h
  exact RG.srf_sum F.r F.c (ur_ap h) (cu_ap h) (fun s hs => by
    obtain ⟨k, r, hr, hb, ⟨i1, i2, i3, i4⟩, -, -⟩ := ho_in h (List.mem_append_left (ufL p t) hs)
    exact ⟨r, List.mem_of_getElem? hr, by omega⟩)
/-- partial sums -/
noncomputable def wsF (p : Pa) (t : Tb) (k : Nat) : Int := RG.sumA ((urL p t).take (k + 1))
noncomputable def wsH (p : Pa) (t : Tb) (k : Nat) : Int := RG.sumA (urL p t) - RG.sumA (cuL (plsA p t) (p.ho.take k))
theorem sumA_snoc (l : List RG.Rc) (r : RG.Rc) : RG.sumA (l ++ [r]) = RG.sumA l + r.w * r.h := by simp [RG.sumA]
theorem ws_zero {p : Pa} {t : Tb} (h : unE p t = 0) : wsF p t 0 = p.wd * 720 * p.ht * 720 := by
  have K := pk_of (unE_zero h).1
  have e : (urL p t)[0]? = some (rcF ⟨0, 0, 0, p.wd, p.ht, 0⟩) := by
    rw [(urL_ok h).1, List.getElem?_map, show (plsA p t)[0]? = (pls p.wd p.ht p.fl (dT t) p.fl.length)[0]? from rfl, pls_zero]
    rfl
  have := K.fls.bw; have := K.fls.bh
  unfold wsF
  rw [List.take_add_one, e, List.take_zero]
  show RG.sumA ([] ++ [rcF ⟨0, 0, 0, p.wd, p.ht, 0⟩]) = _
  rw [sumA_snoc]
  unfold rcF
  rw [rcO_ar _ _ _ _ _ (by dsimp only; omega) (by unfold abv; dsimp only; omega)]
  unfold abv
  dsimp only
  rw [show RG.sumA [] = 0 from rfl, Int.zero_add, Int.sub_zero, Int.mul_assoc (p.wd * 720) p.ht 720]
theorem ws_succ {p : Pa} {t : Tb} (h : unE p t = 0) {k : Nat} {f : Fl} (hf : p.fl[k]? = some f) : wsF p t (k + 1) = wsF p t k + f.wd * 720 * (f.ln * 720 - dT t f) ∧ (0 ≤ f.wd * 720 * (f.ln * 720 - dT t f) ∧ f.wd * 720 * (f.ln * 720 - dT t f) ≤ 11664000000) := by
  have K := pk_of (unE_zero h).1
  obtain ⟨g, _, hq⟩ := pls_flange K.fls hf
  have e : (urL p t)[k + 1]? = some (rcF (plC g f (dT t f))) := by
    rw [(urL_ok h).1, List.getElem?_map, show (plsA p t)[k + 1]? = _ from hq]
    rfl
  have ha := K.ab _ (List.mem_of_getElem? hq)
  have ea : abv (plC g f (dT t f)) (plC g f (dT t f)).h = f.ln * 720 - dT t f := rfl
  rw [ea] at ha
  have hb := K.fls.fl k f hf
  have hd := K.fls.d k f hf
  have := hb.wd; have := hb.ln
  have ar : (rcF (plC g f (dT t f))).w * (rcF (plC g f (dT t f))).h = f.wd * 720 * (f.ln * 720 - dT t f) := by
    unfold rcF
    rw [rcO_ar _ _ _ _ _ (by show 0 ≤ f.wd * 720; omega) (by rw [ea]; omega), ea]
    rfl
  refine ⟨?_, Int.mul_nonneg (by omega) (by omega), ?_⟩
  · unfold wsF
    rw [List.take_add_one, e]
    show RG.sumA ((urL p t).take (k + 1) ++ [_]) = _
    rw [sumA_snoc, ar]
  · have : f.wd * 720 * (f.ln * 720 - dT t f) ≤ 108000 * 108000 := Int.mul_le_mul (by omega) (by omega) (by omega) (by omega)
    omega
theorem ws_all {p : Pa} {t : Tb} (h : unE p t = 0) : wsF p t p.fl.length = wsH p t 0 := by
  unfold wsF wsH
  rw [List.take_of_length_le (by have := (ur_len h).1; omega)]
  simp [cuL, RG.sumA]
theorem ws_bd {p : Pa} {t : Tb} (h : unE p t = 0) : ∀ {k : Nat}, k ≤ p.fl.length → 0 ≤ wsF p t k ∧ wsF p t k ≤ (k + 1) * 11664000000
  | 0, _ => by
    have K := pk_of (unE_zero h).1
    have := K.fls.bw; have := K.fls.bh
    rw [ws_zero h, Int.mul_assoc (p.wd * 720) p.ht 720]
    have : p.wd * 720 * (p.ht * 720) ≤ 108000 * 108000 := Int.mul_le_mul (by omega) (by omega) (by omega) (by omega)
    have := Int.mul_nonneg (a := p.wd * 720) (b := p.ht * 720) (by omega) (by omega)
    omega
  | k + 1, hk => by
    have ih := ws_bd h (k := k) (by omega)
    obtain ⟨e, e1, e2⟩ := ws_succ h (List.getElem?_eq_getElem (show k < p.fl.length by omega))
    rw [e]
    omega
theorem wh_yes {p : Pa} {t : Tb} (h : unE p t = 0) {k : Nat} {x : Ho} (hx : p.ho[k]? = some x) (hk : x.kd = 1) : wsH p t (k + 1) = wsH p t k - x.w * 720 * x.h * 720 ∧ (0 ≤ x.w * 720 * x.h * 720 ∧ x.w * 720 * x.h * 720 ≤ 11664000000) := by
  have K := (pk_of (unE_zero h).1).ho k x hx
  have := K.w; have := K.h
  rw [Int.mul_assoc (x.w * 720) x.h 720]
  refine ⟨?_, Int.mul_nonneg (by omega) (by omega), ?_⟩
  · unfold wsH
    rw [(cuL_yes hx hk).1, sumA_snoc]
    unfold rcHo
    rw [rcO_ar _ _ _ _ _ (by omega) (by omega)]
    omega
  · have : x.w * 720 * (x.h * 720) ≤ 108000 * 108000 := Int.mul_le_mul (by omega) (by omega) (by omega) (by omega)
    omega
theorem wh_no {p : Pa} {t : Tb} {k : Nat} {x : Ho} (hx : p.ho[k]? = some x) (hk : ¬ x.kd = 1) : wsH p t (k + 1) = wsH p t k := by
  unfold wsH
  rw [(cuL_no hx hk).1]
theorem wh_all {p : Pa} {t : Tb} (h : unE p t = 0) : wsH p t p.ho.length = RG.sumA (urL p t) - RG.sumA (ucL p t) := by
  unfold wsH
  rw [List.take_length, (urL_ok h).2.1]
theorem wh_bd {p : Pa} {t : Tb} (h : unE p t = 0) : ∀ {k : Nat}, k ≤ p.ho.length → -(k * 11664000000) ≤ wsH p t k ∧ wsH p t k ≤ (p.fl.length + 1) * 11664000000
  | 0, _ => by
    have := ws_bd h (k := p.fl.length) (Nat.le_refl _)
    rw [ws_all h] at this
    omega
  | k + 1, hk => by
    have ih := wh_bd h (k := k) (by omega)
    have hx : p.ho[k]? = some p.ho[k] := List.getElem?_eq_getElem (by omega)
    by_cases hk1 : (p.ho[k]).kd = 1
    · obtain ⟨e, e1, e2⟩ := wh_yes h hx hk1
      rw [e]
      omega
    · rw [wh_no hx hk1]
      omega
/-- the line of a flange: angle and deduction -/
theorem ub_at {p : Pa} {t : Tb} (h : unE p t = 0) {k : Nat} {f : Fl} (hf : p.fl[k]? = some f) : ∃ l : Sg, (ubL p t)[k]? = some ⟨k, f.pa, l, f.an, dT t f⟩ := by
  have K := pk_of (unE_zero h).1
  obtain ⟨g, _, hq⟩ := pls_flange K.fls hf
  have hl := (List.getElem?_eq_some_iff.1 hf).1
  refine ⟨orS (lnO (plC g f (dT t f)) 0 0 (f.wd * 720) 0), ?_⟩
  rw [(urL_ok h).2.2.2]
  unfold bnA
  rw [List.getElem?_map, List.getElem?_range hl]
  show some (bnO _ _ _) = _
  unfold bnO
  rw [hf, show (plsA p t)[k + 1]? = _ from hq]
  rfl
end Go.Proofs.YtjnfodbniohkhaaGreat
set_option linter.unusedVariables false
set_option linter.unusedSimpArgs false
namespace Go.Proofs.YtjnfodbniohkhaaGreat
set_option linter.unusedVariables false
set_option linter.unusedSimpArgs false
open Go Go.ChangeShapes Go.WideShapes Go.ChangeAt Go.RowKit Go.Deep

theorem plE_sh {p : Pa} {t : Tb} (h : dlE p t = 0) (k : shB (plsA p t) = true) : plE p t = 8 := by
  unfold plE
  rw [if_neg (by simpa using h), if_pos k]
theorem plE_ns {p : Pa} {t : Tb} (h : dlE p t = 0) (k : shB (plsA p t) = false) : plE p t = 0 := by
  unfold plE
  rw [if_neg (by simpa using h), k]
  rfl
theorem hgL_len {p : Pa} {t : Tb} (h : p.fl.length ≤ 900) : (hgL p t).length ≤ 1000 := by
  by_cases k : plE p t = 0
  · rw [hgL_ok k, List.length_map, plsA_len]
    omega
  · rw [hgL_no k]
    decide
theorem ext_at {p : Pa} {j : Nat} {f : Fl} (h : p.fl[j]? = some f) : extH p ((j : Int) + 1) = f.ln := by
  unfold extH
  rw [if_neg (by omega), show ((j : Int) + 1 - 1).toNat = j by omega, h]
  rfl
theorem siz_ok {p : Pa} {k : Nat} (h : valE p = 0) (hk : k ≤ p.fl.length) : ∃ x, sizV p k = (x, extH p k, 0) := by
  refine ⟨extW p k, ?_⟩
  unfold sizV
  rw [if_neg (by simpa using h), if_pos]
  rw [wiB_iff]
  omega
end Go.Proofs.YtjnfodbniohkhaaGreat
set_option linter.unusedVariables false
set_option linter.unusedSimpArgs false
namespace Go.Proofs.YtjnfodbniohkhaaGreat
set_option linter.unusedVariables false
set_option linter.unusedSimpArgs false
open Go Go.ChangeShapes Go.WideShapes Go.ChangeAt Go.RowKit Go.Deep

namespace RG
set_option maxHeartbeats 4000000 in
set_option maxRecDepth 100000 in
theorem Bounds_any (A1 A2 A3 A4 : Option Addr) (c1 c2 c3 c4 : Nat) (F : Pat) (w : World) (hF : PatW w A1 c1 A2 c2 A3 c3 A4 c4 F) (h0 : chE F = 0) (hn : 0 < F.r.length ∧ F.r.length ≤ 48) (hi : ∀ r ∈ F.r, InM 1048576 r) :
    Calls Tryz.prog 20 #[ptv A1 F.r.length c1 A2 F.c.length c2 A3 F.f.length c3 A4 F.b.length c4] w fun e w' => e = .returned (sle (rcv (bnR F.r)) 0) ∧ Gr w w' := by
  have HC := hide (fun (w' : World) (g : Gr w w') => check_any A1 A2 A3 A4 c1 c2 c3 c4 F w' (hF.gr g))
  have HB := hide (fun (w' : World) (g : Gr w w') => bounds_any A1 c1 F.r w' (hF.r.gr g) (fun r hr => by have := hi r hr; have a1 := this.w; have a2 := this.h; have a3 := this.x; have a4 := this.y; have a5 := this.x'; have a6 := this.y'; omega) (by omega) hn.1)
  rw [h0] at HC
  clear hF h0 hn hi
  go_enter Tryz.func20, Tryz.ntmps20
  go_wp2_with fail
  refine (HC.out _ (by repeat (first | with_reducible exact Gr.refl _ | with_reducible assumption | with_reducible refine Gr.alloc ?_ _ | with_reducible refine Gr.drewN ?_ _ | with_reducible refine Gr.drew ?_ | with_reducible refine Gr.setCell ?_ (by first | (dsimp only; omega) | (simp only [World.size_alloc]; omega) | (with_reducible refine Gr.size ?_; (repeat (first | with_reducible exact Gr.refl _ | with_reducible assumption | with_reducible refine Gr.alloc ?_ _ | with_reducible refine Gr.drewN ?_ _ | with_reducible refine Gr.drew ?_ | with_reducible refine Gr.trans ?_ (by with_reducible assumption))); done)) _ | with_reducible refine Gr.trans ?_ (by with_reducible assumption)))).mono ?_
  rintro e w1 ⟨rfl, g1⟩
  obtain ⟨X1, Y1, x1, f1⟩ := g1.use
  have z1 := g1.size
  simp only [World.size_alloc] at z1
  have l0 : w.heap.size < w1.heap.size := by omega
  have gw1 : Gr w w1 := (by repeat (first | with_reducible exact Gr.refl _ | with_reducible assumption | with_reducible refine Gr.alloc ?_ _ | with_reducible refine Gr.drewN ?_ _ | with_reducible refine Gr.drew ?_ | with_reducible refine Gr.setCell ?_ (by first | (dsimp only; omega) | (simp only [World.size_alloc]; omega) | (with_reducible refine Gr.size ?_; (repeat (first | with_reducible exact Gr.refl _ | with_reducible assumption | with_reducible refine Gr.alloc ?_ _ | with_reducible refine Gr.drewN ?_ _ | with_reducible refine Gr.drew ?_ | with_reducible refine Gr.trans ?_ (by with_reducible assumption))); done)) _ | with_reducible refine Gr.trans ?_ (by with_reducible assumption)))
  clear HC
  go_wp2_with fail
  refine (HB.out _ gw1).mono ?_
  rintro e w2 ⟨rfl, g2⟩
  have g12 := g1.trans g2
  clear X1 Y1 x1 f1 z1
  obtain ⟨X1, Y1, x1, f1⟩ := g12.use
  have z1 := g12.size
  simp only [World.size_alloc] at z1
  have l1 : w.heap.size + 1 < w2.heap.size := by omega
  go_wp2_with fail
  refine bodyPost_ret (v := sle (rcv (bnR F.r)) 0) (by simp [results, Tryz.results20, go_sem, *]) rfl ⟨rfl, Gr.setCell (Gr.setCell (Gr.setCell (Gr.setCell (gw1.trans g2) (by dsimp only; omega) _) (by dsimp only; omega) _) (by dsimp only; omega) _) (by dsimp only; omega) _⟩
end RG
theorem u64_4 (tn : Int) (tt : Nat) (htn : (tt : Int) = tn % 4) : wrap64 ((IntKind.u64.wrap tn).tmod 4) = (tt : Int) := by
  have e : IntKind.u64.wrap tn = tn % 18446744073709551616 := by simp [IntKind.wrap, IntKind.bits, IntKind.signed]
  rw [e, Int.tmod_eq_emod_of_nonneg (by omega)]
  have h1 : (tn % 18446744073709551616) % 4 = tn % 4 := Int.emod_emod_of_dvd _ (by decide)
  rw [h1, ← htn]
  unfold wrap64
  omega
set_option maxRecDepth 100000 in
set_option maxHeartbeats 16000000 in
theorem flats_walk (p : Pa) (t : Tb) (A B C : Option Addr) (c d q : Nat) (tn : Int) (w : World) (hX : PaX w p A c B d) (hR : RdE w C t.en) (hs : t.mt.size ≤ maxLen) (hc : t.en.length ≤ q ∧ q ≤ maxLen) :
    Calls Tryz.prog 4 #[pav p A c B d, tbv t C q, iv tn] w fun x w' => x = .returned (.bool true) ∧ Gr w w' := by
  unfold maxLen at hs hc
  have HBG := hide (fun (w' : World) (g : Gr w w') => big_any p A B c d w' (hX.gr g))
  have HW := hide (fun w' => wide_any t C q w' (by omega) (by omega))
  cases hb : bgB p with
  | true =>
    rw [hb] at HBG
    clear hb hX
    go_enter Tryz.func4, Tryz.ntmps4
    go_wp2_with fail
    refine (HBG.out _ (by repeat (first | with_reducible exact Gr.refl _ | with_reducible assumption | with_reducible refine Gr.alloc ?_ _ | with_reducible refine Gr.drewN ?_ _ | with_reducible refine Gr.drew ?_ | with_reducible refine Gr.setCell ?_ (by first | (dsimp only; omega) | (simp only [World.size_alloc]; omega) | (with_reducible refine Gr.size ?_; (repeat (first | with_reducible exact Gr.refl _ | with_reducible assumption | with_reducible refine Gr.alloc ?_ _ | with_reducible refine Gr.drewN ?_ _ | with_reducible refine Gr.drew ?_ | with_reducible refine Gr.trans ?_ (by with_reducible assumption))); done)) _ | with_reducible refine Gr.trans ?_ (by with_reducible assumption)))).mono ?_
    rintro e w1 ⟨rfl, g1⟩
    go_wp2_with (first | (go_at_call 15; refine (RG.unit_any _).mono ?_; rintro e w1 ⟨rfl, g1⟩; obtain ⟨X1, Y1, c1, f1⟩ := g1.use))
    go_ret
    exact ⟨rfl, (by repeat (first | with_reducible exact Gr.refl _ | with_reducible assumption | with_reducible refine Gr.alloc ?_ _ | with_reducible refine Gr.drewN ?_ _ | with_reducible refine Gr.drew ?_ | with_reducible refine Gr.setCell ?_ (by first | (dsimp only; omega) | (simp only [World.size_alloc]; omega) | (with_reducible refine Gr.size ?_; (repeat (first | with_reducible exact Gr.refl _ | with_reducible assumption | with_reducible refine Gr.alloc ?_ _ | with_reducible refine Gr.drewN ?_ _ | with_reducible refine Gr.drew ?_ | with_reducible refine Gr.trans ?_ (by with_reducible assumption))); done)) _ | with_reducible refine Gr.trans ?_ (by with_reducible assumption)))⟩
  | false =>
    have hP := hX.small hb
    rw [hb] at HBG
    cases hwd : wdB t with
    | true =>
      rw [hwd] at HW
      clear hb hX hwd hP hR
      go_enter Tryz.func4, Tryz.ntmps4
      go_wp2_with fail
      refine (HBG.out _ (by repeat (first | with_reducible exact Gr.refl _ | with_reducible assumption | with_reducible refine Gr.alloc ?_ _ | with_reducible refine Gr.drewN ?_ _ | with_reducible refine Gr.drew ?_ | with_reducible refine Gr.setCell ?_ (by first | (dsimp only; omega) | (simp only [World.size_alloc]; omega) | (with_reducible refine Gr.size ?_; (repeat (first | with_reducible exact Gr.refl _ | with_reducible assumption | with_reducible refine Gr.alloc ?_ _ | with_reducible refine Gr.drewN ?_ _ | with_reducible refine Gr.drew ?_ | with_reducible refine Gr.trans ?_ (by with_reducible assumption))); done)) _ | with_reducible refine Gr.trans ?_ (by with_reducible assumption)))).mono ?_
      rintro e w1 ⟨rfl, g1⟩
      obtain ⟨X1, Y1, c1, f1⟩ := g1.use
      have z1 := g1.size
      simp only [World.size_alloc] at z1
      have l1 : w.heap.size + 1 < w1.heap.size := by omega
      have l0 : w.heap.size < w1.heap.size := by omega
      go_wp2_with fail
      refine (HW.out _).mono ?_
      rintro e w2 ⟨rfl, g2⟩
      go_wp2_with (first | (go_at_call 15; refine (RG.unit_any _).mono ?_; rintro e w1 ⟨rfl, g1⟩; obtain ⟨X1, Y1, c1, f1⟩ := g1.use))
      go_ret
      exact ⟨rfl, (by repeat (first | with_reducible exact Gr.refl _ | with_reducible assumption | with_reducible refine Gr.alloc ?_ _ | with_reducible refine Gr.drewN ?_ _ | with_reducible refine Gr.drew ?_ | with_reducible refine Gr.setCell ?_ (by first | (dsimp only; omega) | (simp only [World.size_alloc]; omega) | (with_reducible refine Gr.size ?_; (repeat (first | with_reducible exact Gr.refl _ | with_reducible assumption | with_reducible refine Gr.alloc ?_ _ | with_reducible refine Gr.drewN ?_ _ | with_reducible refine Gr.drew ?_ | with_reducible refine Gr.trans ?_ (by with_reducible assumption))); done)) _ | with_reducible refine Gr.trans ?_ (by with_reducible assumption)))⟩
    | false =>
      have hsm : t.mt.size ≤ 1000 ∧ t.en.length ≤ 1000 := by
        unfold wdB at hwd
        simp only [Bool.or_eq_false_iff, decide_eq_false_iff_not] at hwd
        omega
      rw [hwd] at HW
      have hE : SlE w C q t.en := ⟨hR, by omega, by omega, hsm.2⟩
      have HU1 := hide (fun (w' : World) (g : Gr w w') => Unfold_any p t A B C c d q w' (hP.gr g) (hE.gr g) hsm.1)
      have HP := hide hP
      by_cases h0 : unE p t = 0
      case neg =>
        obtain ⟨e1, e2, e3, e4, -⟩ := flO_nil h0 w
        rw [e1, e2, e3, e4] at HU1
        have hne : (unE p t != 0) = true := by simpa using h0
        generalize unE p t = er at *
        clear hb hX hwd hR hE hP hsm e1 e2 e3 e4 h0
        go_enter Tryz.func4, Tryz.ntmps4
        go_wp2_with fail
        refine (HBG.out _ (by repeat (first | with_reducible exact Gr.refl _ | with_reducible assumption | with_reducible refine Gr.alloc ?_ _ | with_reducible refine Gr.drewN ?_ _ | with_reducible refine Gr.drew ?_ | with_reducible refine Gr.setCell ?_ (by first | (dsimp only; omega) | (simp only [World.size_alloc]; omega) | (with_reducible refine Gr.size ?_; (repeat (first | with_reducible exact Gr.refl _ | with_reducible assumption | with_reducible refine Gr.alloc ?_ _ | with_reducible refine Gr.drewN ?_ _ | with_reducible refine Gr.drew ?_ | with_reducible refine Gr.trans ?_ (by with_reducible assumption))); done)) _ | with_reducible refine Gr.trans ?_ (by with_reducible assumption)))).mono ?_
        rintro e w1 ⟨rfl, g1⟩
        obtain ⟨X1, Y1, c1, f1⟩ := g1.use
        have z1 := g1.size
        simp only [World.size_alloc] at z1
        have l1 : w.heap.size + 1 < w1.heap.size := by omega
        have l0 : w.heap.size < w1.heap.size := by omega
        have gw1 : Gr w w1 := (by repeat (first | with_reducible exact Gr.refl _ | with_reducible assumption | with_reducible refine Gr.alloc ?_ _ | with_reducible refine Gr.drewN ?_ _ | with_reducible refine Gr.drew ?_ | with_reducible refine Gr.setCell ?_ (by first | (dsimp only; omega) | (simp only [World.size_alloc]; omega) | (with_reducible refine Gr.size ?_; (repeat (first | with_reducible exact Gr.refl _ | with_reducible assumption | with_reducible refine Gr.alloc ?_ _ | with_reducible refine Gr.drewN ?_ _ | with_reducible refine Gr.drew ?_ | with_reducible refine Gr.trans ?_ (by with_reducible assumption))); done)) _ | with_reducible refine Gr.trans ?_ (by with_reducible assumption)))
        go_wp2_with fail
        refine (HW.out _).mono ?_
        rintro e w2 ⟨rfl, g2⟩
        obtain ⟨X2, Y2, c2, f2⟩ := g2.use
        have z2 := g2.size
        have m1 : w.heap.size + 1 < w2.heap.size := by omega
        have m0 : w.heap.size < w2.heap.size := by omega
        have gw2 : Gr w w2 := gw1.trans g2
        go_wp2_with fail
        refine (HU1.out _ gw2).mono ?_
        rintro e w3 ⟨A1, d1, A2, d2, A3, d3, A4, d4, rfl, o3, g3⟩
        have gw3 : Gr w w3 := gw2.trans g3
        clear o3
        go_wp2_with (first | (go_at_call 15; refine (RG.unit_any _).mono ?_; rintro e w1 ⟨rfl, g1⟩; obtain ⟨X1, Y1, c1, f1⟩ := g1.use))
        go_ret
        exact ⟨rfl, (by repeat (first | with_reducible exact Gr.refl _ | with_reducible assumption | with_reducible refine Gr.alloc ?_ _ | with_reducible refine Gr.drewN ?_ _ | with_reducible refine Gr.drew ?_ | with_reducible refine Gr.setCell ?_ (by first | (dsimp only; omega) | (simp only [World.size_alloc]; omega) | (with_reducible refine Gr.size ?_; (repeat (first | with_reducible exact Gr.refl _ | with_reducible assumption | with_reducible refine Gr.alloc ?_ _ | with_reducible refine Gr.drewN ?_ _ | with_reducible refine Gr.drew ?_ | with_reducible refine Gr.trans ?_ (by with_reducible assumption))); done)) _ | with_reducible refine Gr.trans ?_ (by with_reducible assumption)))⟩
      case pos =>
        obtain ⟨ln1, ln2, ln3⟩ := ur_len h0
        obtain ⟨sx1, sx2, sx3⟩ := ur_six h0
        have K := pk_of (unE_zero h0).1
        have hd0 := K.ded
        have hva := (dlE_zero hd0).1
        have HG := hide (good_of hva)
        have HB := hide (flsB_of hd0)
        have HFI := hide (up_fits h0)
        have HDE := hide (fun a (w' : World) (g : Gr w w') => Deduction_any t C q a w' (hE.gr g) hsm.1)
        have HDR := hide (fun (k : Nat) (f : Fl) (hk : k < p.fl.length) (hf : p.fl[k]? = some f) => (show (dR t f).2.2 = 0 by
          have := firE_zero (dlE_zero hd0).2.2.2 k (by omega)
          rwa [dA_at hf] at this))
        have hbw := K.fls.bw
        have hbh := K.fls.bh
        have HW0 := hide (ws_zero h0)
        have HWS := hide (fun (k : Nat) (f : Fl) (hf : p.fl[k]? = some f) => ws_succ h0 hf)
        have HWA := hide (ws_all h0)
        have HWB := hide (fun (k : Nat) (hk : k ≤ p.fl.length) => ws_bd h0 hk)
        have HHY := hide (fun (k : Nat) (x : Ho) (hx : p.ho[k]? = some x) (hk : x.kd = 1) => wh_yes h0 hx hk)
        have HHN := hide (fun (k : Nat) (x : Ho) (hx : p.ho[k]? = some x) (hk : ¬ x.kd = 1) => wh_no (t := t) hx hk)
        have HHB := hide (fun (k : Nat) (hk : k ≤ p.ho.length) => wh_bd h0 hk)
        have HHA := hide ((wh_all h0).trans (up_srf h0).symm)
        have HUB := hide (fun (k : Nat) (f : Fl) (hf : p.fl[k]? = some f) => ub_at h0 hf)
        have HHO := hide K.ho
        have HLB := hide (show (upF p t).b.length = p.fl.length by show ((ubL p t).map bdO).length = _; rw [List.length_map, ln2])
        have HLR := hide (show (upF p t).r.length = p.fl.length + 1 from ln1)
        have HU2 : Hid (∀ (w' : World) (g : Gr w w'), Calls Tryz.prog 8 #[pav p A c B d, tbv t C q] w' fun e w'' => ∃ A1 d1 A2 d2 A3 d3 A4 d4, e = .returned (sle (fl4 A1 (p.fl.length + 1) d1 A2 (upF p t).c.length d2 A3 (upF p t).f.length d3 A4 p.fl.length d4) 0) ∧ (RG.PatW w'' A1 d1 A2 d2 A3 d3 A4 d4 (upF p t) ∧ SlBn w'' A4 d4 (ubL p t)) ∧ Gr w' w'') := hide (by
          intro w' g
          have := HU1.out w' g
          rw [ln1, ln2, h0] at this
          refine this.mono ?_
          rintro e w'' ⟨A1, d1, A2, d2, A3, d3, A4, d4, rfl, o, g'⟩
          exact ⟨A1, d1, A2, d2, A3, d3, A4, d4, rfl, ⟨up_w o, o.b⟩, g'⟩)
        have b2 : 0 ≤ p.wd * 720 * p.ht ∧ p.wd * 720 * p.ht ≤ 16200000 := by
          have : p.wd * 720 * p.ht ≤ 108000 * 150 := Int.mul_le_mul (by omega) (by omega) (by omega) (by omega)
          have := Int.mul_nonneg (a := p.wd * 720) (b := p.ht) (by omega) (by omega)
          omega
        have U1 : IntKind.i64.wrap (p.wd * 720) = p.wd * 720 := IntWalk.i64_in _ (by omega)
        have U2 : IntKind.i64.wrap (p.wd * 720 * p.ht) = p.wd * 720 * p.ht := IntWalk.i64_in _ (by omega)
        have U3 : IntKind.i64.wrap (p.wd * 720 * p.ht * 720) = p.wd * 720 * p.ht * 720 := IntWalk.i64_in _ (by omega)
        clear HU1 hb hX hwd hR hE hP hsm h0 ln1 ln2 ln3 K hd0 hva sx1
        generalize hF : upF p t = F at *
        generalize hBL : ubL p t = BL at *
        clear hF hBL
        --MAIN
        go_enter Tryz.func4, Tryz.ntmps4
        go_wp2_with fail
        refine (HBG.out _ (by repeat (first | with_reducible exact Gr.refl _ | with_reducible assumption | with_reducible refine Gr.alloc ?_ _ | with_reducible refine Gr.drewN ?_ _ | with_reducible refine Gr.drew ?_ | with_reducible refine Gr.setCell ?_ (by first | (dsimp only; omega) | (simp only [World.size_alloc]; omega) | (with_reducible refine Gr.size ?_; (repeat (first | with_reducible exact Gr.refl _ | with_reducible assumption | with_reducible refine Gr.alloc ?_ _ | with_reducible refine Gr.drewN ?_ _ | with_reducible refine Gr.drew ?_ | with_reducible refine Gr.trans ?_ (by with_reducible assumption))); done)) _ | with_reducible refine Gr.trans ?_ (by with_reducible assumption)))).mono ?_
        rintro e w1 ⟨rfl, g1⟩
        obtain ⟨X1, Y1, c1, f1⟩ := g1.use
        have z1 := g1.size
        simp only [World.size_alloc] at z1
        have l1 : w.heap.size + 1 < w1.heap.size := by omega
        have l0 : w.heap.size < w1.heap.size := by omega
        have gw1 : Gr w w1 := (by repeat (first | with_reducible exact Gr.refl _ | with_reducible assumption | with_reducible refine Gr.alloc ?_ _ | with_reducible refine Gr.drewN ?_ _ | with_reducible refine Gr.drew ?_ | with_reducible refine Gr.setCell ?_ (by first | (dsimp only; omega) | (simp only [World.size_alloc]; omega) | (with_reducible refine Gr.size ?_; (repeat (first | with_reducible exact Gr.refl _ | with_reducible assumption | with_reducible refine Gr.alloc ?_ _ | with_reducible refine Gr.drewN ?_ _ | with_reducible refine Gr.drew ?_ | with_reducible refine Gr.trans ?_ (by with_reducible assumption))); done)) _ | with_reducible refine Gr.trans ?_ (by with_reducible assumption)))
        go_wp2_with fail
        refine (HW.out _).mono ?_
        rintro e w2 ⟨rfl, g2⟩
        obtain ⟨X2, Y2, c2, f2⟩ := g2.use
        have z2 := g2.size
        have m1 : w.heap.size + 1 < w2.heap.size := by omega
        have m0 : w.heap.size < w2.heap.size := by omega
        have gw2 : Gr w w2 := gw1.trans g2
        go_wp2_with fail
        refine (HU2.out _ gw2).mono ?_
        rintro e w3 ⟨A1, d1, A2, d2, A3, d3, A4, d4, rfl, ⟨o1, o2⟩, g3⟩
        have z3 := g3.size
        have gw3 : Gr w w3 := gw2.trans g3
        have O1 := hide o1
        have O2 := hide o2
        clear o1 o2 HBG HW HU2
        have q0 : w.heap.size < w3.heap.size := by omega
        have q1 : w.heap.size + 1 < w3.heap.size := by omega
        have g23 := g2.trans g3
        have p4 : w3.cell? ⟨w.heap.size, 4, none⟩ = some (iv p.wd) := by rw [g23.cell _ _ l0, c1]; simp [go_sem]
        have p5 : w3.cell? ⟨w.heap.size, 5, none⟩ = some (iv p.ht) := by rw [g23.cell _ _ l0, c1]; simp [go_sem]
        have p6 : w3.cell? ⟨w.heap.size, 6, none⟩ = some (.slice A p.fl.length c) := by rw [g23.cell _ _ l0, c1]; simp [go_sem]
        have p7 : w3.cell? ⟨w.heap.size, 7, none⟩ = some (.slice B p.ho.length d) := by rw [g23.cell _ _ l0, c1]; simp [go_sem]
        have n0 : w3.cell? ⟨w.heap.size + 1, 0, none⟩ = some (.string t.mt) := by rw [g23.cell _ _ l1, c1]; simp [go_sem]
        have n1 : w3.cell? ⟨w.heap.size + 1, 1, none⟩ = some (iv t.ga) := by rw [g23.cell _ _ l1, c1]; simp [go_sem]
        have n2 : w3.cell? ⟨w.heap.size + 1, 2, none⟩ = some (iv t.di) := by rw [g23.cell _ _ l1, c1]; simp [go_sem]
        have n3 : w3.cell? ⟨w.heap.size + 1, 3, none⟩ = some (.slice C t.en.length q) := by rw [g23.cell _ _ l1, c1]; simp [go_sem]
        have P6 := hide p6
        have P7 := hide p7
        have N0 := hide n0
        have N1 := hide n1
        have N2 := hide n2
        have N3 := hide n3
        clear X1 Y1 c1 f1 X2 Y2 c2 f2 g23 n0 n1 n2 n3
        have gz : Gr w3 (w3.alloc (.cells #[.slice A1 (p.fl.length + 1) d1, .slice A2 F.c.length d2, .slice A3 F.f.length d3, .slice A4 p.fl.length d4] 35)) := Gr.alloc (Gr.refl _) _
        go_wp2_with fail
        clear p4 p5 p6 p7
        --LOOP1
        go_loopw [9, 10] (fun sv iv' wr => ∃ k : Nat, k ≤ p.fl.length ∧ iv' = iv k ∧ sv = iv (wsF p t k) ∧ Gr (w3.alloc (.cells #[.slice A1 (p.fl.length + 1) d1, .slice A2 F.c.length d2, .slice A3 F.f.length d3, .slice A4 p.fl.length d4] 35)) wr) (fun _ i _ => p.fl.length - (intOf i).toNat)
        case atStart => exact ⟨0, by omega, rfl, by rw [HW0.out], Gr.refl _⟩
        case round =>
          obtain ⟨k, hk, rfl, rfl, g⟩ := hrel
          have gw : Gr w3 wr := gz.trans g
          have gW : Gr w wr := gw3.trans gw
          have zr := g.size
          simp only [World.size_alloc] at zr
          have u0 : w.heap.size < wr.heap.size := by omega
          have u1 : w.heap.size + 1 < wr.heap.size := by omega
          have b6 := (gw.cell _ _ q0).trans P6.out
          have a0 := (gw.cell _ _ q1).trans N0.out
          have a1 := (gw.cell _ _ q1).trans N1.out
          have a2 := (gw.cell _ _ q1).trans N2.out
          have a3 := (gw.cell _ _ q1).trans N3.out
          by_cases hkl : k < p.fl.length
          · as_aux_lemma =>
            obtain ⟨f, hf⟩ : ∃ f, p.fl[k]? = some f := ⟨_, List.getElem?_eq_getElem hkl⟩
            obtain ⟨lsg, hub⟩ := HUB.out k f hf
            obtain ⟨bf, off, hA, x0, x1, x2, x3, x4, x5, x6⟩ := HP.out.fl.rd.fl hf
            have hbf : bf < w.heap.size := cell_lt (by rw [x0]; rfl)
            have y6 := (gW.cell _ _ hbf).trans x6
            have hbr : bf < wr.heap.size := by omega
            obtain ⟨bb, ob, hB4, v0, v1, v2, v3, v4, v5, v6, v7⟩ := (O2.out.gr gw).at_ hub
            have hbb : bb < wr.heap.size := cell_lt (by rw [v0]; rfl)
            simp only at v6 v7
            have hfb := HB.out.fl k f hf
            have hln := hfb.ln
            have hwdf := hfb.wd
            have hnd := HB.out.d k f hf
            have han : anOk f.an := (HG.out.fl.fl k f (by omega) hf).2.2.1
            have hde0 := HDR.out k f hkl hf
            obtain ⟨htk, hn1, hn2⟩ := dR_ok hde0
            obtain ⟨d1', d2', d3', hdr⟩ : ∃ a b c, dR t f = (a, b, c) := ⟨_, _, _, rfl⟩
            rw [hdr] at hde0 htk
            simp only at hde0 htk
            subst hde0
            have HTK := hide (fun w => Ticks_any d1' d2' w)
            rw [htk] at HTK
            have HD9 := hide (show ∀ z : Int, z = abI f.an → ∀ w', Gr w w' → Calls Tryz.prog 16 #[tbv t C q, iv z] w' fun e w'' => e = .returned (trV (d1', d2', 0)) ∧ Gr w' w'' from fun z hz w' g => by
              have h := HDE.out z w' g
              rw [show dedA t z = (d1', d2', 0) by rw [hz]; exact hdr] at h
              exact h)
            have WN : IntKind.i64.wrap (-f.an) = -f.an := IntWalk.i64_in _ (by unfold anOk at han; omega)
            have HA1 := hide (show ¬ f.an < 0 → f.an = abI f.an from fun h => by unfold abI; rw [if_neg h])
            have HA2 := hide (show f.an < 0 → -f.an = abI f.an from fun h => by unfold abI; rw [if_pos h])
            obtain ⟨hws, hwn, hwm⟩ := HWS.out k f hf
            obtain ⟨hk1, hk2⟩ := HWB.out k hk
            have V1 : IntKind.i64.wrap (f.wd * 720) = f.wd * 720 := IntWalk.i64_in _ (by omega)
            have V2 : IntKind.i64.wrap (f.ln * 720) = f.ln * 720 := IntWalk.i64_in _ (by omega)
            have V3 : IntKind.i64.wrap (f.ln * 720 - dT t f) = f.ln * 720 - dT t f := IntWalk.i64_in _ (by omega)
            have V4 : IntKind.i64.wrap (f.wd * 720 * (f.ln * 720 - dT t f)) = f.wd * 720 * (f.ln * 720 - dT t f) := IntWalk.i64_in _ (by omega)
            have V5 : IntKind.i64.wrap (wsF p t k + f.wd * 720 * (f.ln * 720 - dT t f)) = wsF p t k + f.wd * 720 * (f.ln * 720 - dT t f) := IntWalk.i64_in _ (by omega)
            have V6 : IntKind.i64.wrap ((k : Int) + 1) = (k : Int) + 1 := IntWalk.i64_in _ (by omega)
            have HNX := hide hws
            have hk0 : (0 : Int) ≤ (k : Int) := by omega
            have hk1' : (k : Int) < (p.fl.length : Int) := by omega
            have T1 : ((dT t f) != (dT t f)) = false := by simp
            have T2 : (f.an != f.an) = false := by simp
            have T3 : decide ((p.fl.length : Int) ≤ (k : Int)) = false := by simp only [decide_eq_false_iff_not]; omega
            have T3' : decide (p.fl.length ≤ k) = false := by simp only [decide_eq_false_iff_not]; omega
            clear hws hwn hwm hk1 hk2 hn1 hn2 x0 x1 x2 x3 v0 v1 v2 v3 v4 v5 hdr htk hfb hub
            generalize dT t f = n at *
            generalize wsF p t k = sk at *
            have hsg : f.an < 0 ∨ ¬ f.an < 0 := Decidable.em _
            obtain ⟨s4, b0, b1, b2', b3⟩ := RG.box4 g
            subst hA
            subst hB4
            rcases hsg with hsg | hsg
            case' inl => have HD8 := hide (HD9.out (-f.an) (HA2.out hsg))
            case' inr => have HD8 := hide (HD9.out f.an (HA1.out hsg))
            all_goals
              clear HD9 HA1 HA2
              go_wp2_with fail
              refine (HD8.out _ gW).mono ?_
              rintro e w7 ⟨rfl, g7⟩
              have z7 := g7.size
              clear a0 a1 a2 a3
              go_wp2_with fail
              refine (HTK.out _).mono ?_
              rintro e w8 ⟨rfl, g8⟩
              have g78 : Gr wr w8 := g7.trans (Gr.trans (Gr.alloc (Gr.refl _) _) g8)
              have gA := g.trans g78
              obtain ⟨s8, b0, b1, b2', b3⟩ := RG.box4 gA
              have gW8 : Gr w w8 := gW.trans g78
              have hz8 := g78.size
              have u0 : w.heap.size < w8.heap.size := by omega
              have hbr : bf < w8.heap.size := by omega
              have y4 := (gW8.cell _ _ hbf).trans x4
              have y5 := (gW8.cell _ _ hbf).trans x5
              have y6 := (gW8.cell _ _ hbf).trans x6
              have v6 := (g78.cell _ _ hbb).trans v6
              have v7 := (g78.cell _ _ hbb).trans v7
              have hbb : bb < w8.heap.size := by omega
              have b6 := ((gz.trans gA).cell _ _ q0).trans P6.out
              go_wp2_with fail
              have GC := @GrW.cell
              refine wp_region_grw _ (by kernel_rfl) (by kernel_rfl) (Gr.refl _) ?_
              repeat (go_big_quiet_step ((first | fail)))
              refine wpQuiet_nil ?_
              intro wq hwq
              obtain ⟨gq, hwq'⟩ := hwq
              subst hwq'
              clear GC
              have gq1 := gq.gr
              generalize gq.w = wq at gq1 ⊢
              obtain ⟨Xq, Yq, cq, fq⟩ := gq1.use
              have sq := gq1.size
              (try simp only [World.size_alloc, World.size_setCell, World.heap_drewN] at sq)
              obtain ⟨w9, rfl⟩ : ∃ w9, w9 = wq := ⟨_, rfl⟩
              have gB := gA.trans gq1
              clear b0 b1 b2' b3 s8
              obtain ⟨s9, b0, b1, b2', b3⟩ := RG.box4 gB
              have hz9 := gq1.size
              have b6 := ((gz.trans gB).cell _ _ q0).trans P6.out
              have y4 := (gq1.cell _ _ hbr).trans y4
              have y5 := (gq1.cell _ _ hbr).trans y5
              have u0 : w.heap.size < w9.heap.size := by omega
              have hbr : bf < w9.heap.size := by omega
              clear gq1 cq fq sq
              go_wp2_with fail
              have GC := @GrW.cell
              refine wp_region_grw _ (by kernel_rfl) (by kernel_rfl) (Gr.refl _) ?_
              repeat (go_big_quiet_step ((first | fail)))
              refine wpQuiet_nil ?_
              intro wq hwq
              obtain ⟨gq, hwq'⟩ := hwq
              subst hwq'
              clear GC
              have gq1 := gq.gr
              generalize gq.w = wq at gq1 ⊢
              obtain ⟨Xq, Yq, cq, fq⟩ := gq1.use
              have sq := gq1.size
              (try simp only [World.size_alloc, World.size_setCell, World.heap_drewN] at sq)
              go_wp2
              go_roundw
              case rel => exact ⟨k + 1, by omega, by go_num, by rw [HNX.out], gB.trans (by repeat (first | with_reducible exact Gr.refl _ | with_reducible assumption | with_reducible refine Gr.alloc ?_ _ | with_reducible refine Gr.drewN ?_ _ | with_reducible refine Gr.drew ?_ | with_reducible refine Gr.setCell ?_ (by first | (dsimp only; omega) | (simp only [World.size_alloc]; omega) | (with_reducible refine Gr.size ?_; (repeat (first | with_reducible exact Gr.refl _ | with_reducible assumption | with_reducible refine Gr.alloc ?_ _ | with_reducible refine Gr.drewN ?_ _ | with_reducible refine Gr.drew ?_ | with_reducible refine Gr.trans ?_ (by with_reducible assumption))); done)) _ | with_reducible refine Gr.trans ?_ (by with_reducible assumption)))⟩
              case measure => simp only [intOf]; omega
          · as_aux_lemma =>
            obtain rfl : k = p.fl.length := by omega
            have hk1 : ¬ ((p.fl.length : Int) < (p.fl.length : Int)) := by omega
            rw [HWA.out]
            clear HWA HWS HWB HUB HDE HDR HW0 HG HB U1 U2 U3 b2 a0 a1 a2 a3 hbw hbh
            go_wp2_with fail
            --LOOP2
            go_loopw [9, 16] (fun sv iv' wr => ∃ k : Nat, k ≤ p.ho.length ∧ iv' = iv k ∧ sv = iv (wsH p t k) ∧ Gr (w3.alloc (.cells #[.slice A1 (p.fl.length + 1) d1, .slice A2 F.c.length d2, .slice A3 F.f.length d3, .slice A4 p.fl.length d4] 35)) wr) (fun _ i _ => p.ho.length - (intOf i).toNat)
            case atStart => exact ⟨0, by omega, rfl, rfl, g⟩
            case round =>
              clear g gw gW zr u0 u1 b6
              obtain ⟨k, hk, rfl, rfl, g⟩ := hrel
              have gw : Gr w3 wr := gz.trans g
              have gW : Gr w wr := gw3.trans gw
              have zr := g.size
              simp only [World.size_alloc] at zr
              have u0 : w.heap.size < wr.heap.size := by omega
              have b7 := (gw.cell _ _ q0).trans P7.out
              by_cases hkl : k < p.ho.length
              · as_aux_lemma =>
                obtain ⟨x, hx⟩ : ∃ x, p.ho[k]? = some x := ⟨_, List.getElem?_eq_getElem hkl⟩
                obtain ⟨bf, off, hA, x0, x1, x2, x3, x4, x5⟩ := HP.out.ho.rd.ho hx
                have hbf : bf < w.heap.size := cell_lt (by rw [x0]; rfl)
                have hbr : bf < wr.heap.size := by omega
                have y1 := (gW.cell _ _ hbf).trans x1
                have y4 := (gW.cell _ _ hbf).trans x4
                have y5 := (gW.cell _ _ hbf).trans x5
                have hok := HHO.out k x hx
                have hw1 := hok.w
                have hh1 := hok.h
                have hk0 : (0 : Int) ≤ (k : Int) := by omega
                have hk1' : (k : Int) < (p.ho.length : Int) := by omega
                have V6 : IntKind.i64.wrap ((k : Int) + 1) = (k : Int) + 1 := IntWalk.i64_in _ (by omega)
                subst hA
                clear x0 x1 x2 x3 x4 x5
                by_cases hkd : x.kd = 1
                · obtain ⟨hws, hwn, hwm⟩ := HHY.out k x hx hkd
                  obtain ⟨hk2, hk3⟩ := HHB.out k hk
                  have bb : 0 ≤ x.w * 720 * x.h ∧ x.w * 720 * x.h ≤ 16200000 := by
                    have : x.w * 720 * x.h ≤ 108000 * 150 := Int.mul_le_mul (by omega) (by omega) (by omega) (by omega)
                    have := Int.mul_nonneg (a := x.w * 720) (b := x.h) (by omega) (by omega)
                    omega
                  have V1 : IntKind.i64.wrap (x.w * 720) = x.w * 720 := IntWalk.i64_in _ (by omega)
                  have V2 : IntKind.i64.wrap (x.w * 720 * x.h) = x.w * 720 * x.h := IntWalk.i64_in _ (by omega)
                  have V3 : IntKind.i64.wrap (x.w * 720 * x.h * 720) = x.w * 720 * x.h * 720 := IntWalk.i64_in _ (by omega)
                  have V4 : IntKind.i64.wrap (wsH p t k - x.w * 720 * x.h * 720) = wsH p t k - x.w * 720 * x.h * 720 := IntWalk.i64_in _ (by omega)
                  have HNX := hide hws
                  rw [hkd] at y1
                  clear hws hwn hwm hk2 hk3 bb hok hx hkd
                  generalize wsH p t k = sk at *
                  go_wp2_with fail
                  have GC := @GrW.cell
                  refine wp_region_grw _ (by kernel_rfl) (by kernel_rfl) (Gr.refl _) ?_
                  repeat (go_big_quiet_step ((first | fail)))
                  refine wpQuiet_nil ?_
                  intro wq hwq
                  obtain ⟨gq, hwq'⟩ := hwq
                  subst hwq'
                  clear GC
                  have gq1 := gq.gr
                  generalize gq.w = wq at gq1 ⊢
                  obtain ⟨Xq, Yq, cq, fq⟩ := gq1.use
                  have sq := gq1.size
                  (try simp only [World.size_alloc, World.size_setCell, World.heap_drewN] at sq)
                  go_wp2
                  go_roundw
                  case rel => exact ⟨k + 1, by omega, by go_num, by rw [HNX.out], g.trans (by repeat (first | with_reducible exact Gr.refl _ | with_reducible assumption | with_reducible refine Gr.alloc ?_ _ | with_reducible refine Gr.drewN ?_ _ | with_reducible refine Gr.drew ?_ | with_reducible refine Gr.setCell ?_ (by first | (dsimp only; omega) | (simp only [World.size_alloc]; omega) | (with_reducible refine Gr.size ?_; (repeat (first | with_reducible exact Gr.refl _ | with_reducible assumption | with_reducible refine Gr.alloc ?_ _ | with_reducible refine Gr.drewN ?_ _ | with_reducible refine Gr.drew ?_ | with_reducible refine Gr.trans ?_ (by with_reducible assumption))); done)) _ | with_reducible refine Gr.trans ?_ (by with_reducible assumption)))⟩
                  case measure => simp only [intOf]; omega
                · have HNX := hide (HHN.out k x hx hkd)
                  have hkb : (x.kd == 1) = false := by simpa using hkd
                  clear hok hx hkd
                  go_wp2
                  go_roundw
                  case rel => exact ⟨k + 1, by omega, by go_num, by rw [HNX.out], g.trans (by repeat (first | with_reducible exact Gr.refl _ | with_reducible assumption | with_reducible refine Gr.alloc ?_ _ | with_reducible refine Gr.drewN ?_ _ | with_reducible refine Gr.drew ?_ | with_reducible refine Gr.setCell ?_ (by first | (dsimp only; omega) | (simp only [World.size_alloc]; omega) | (with_reducible refine Gr.size ?_; (repeat (first | with_reducible exact Gr.refl _ | with_reducible assumption | with_reducible refine Gr.alloc ?_ _ | with_reducible refine Gr.drewN ?_ _ | with_reducible refine Gr.drew ?_ | with_reducible refine Gr.trans ?_ (by with_reducible assumption))); done)) _ | with_reducible refine Gr.trans ?_ (by with_reducible assumption)))⟩
                  case measure => simp only [intOf]; omega
              · as_aux_lemma =>
                obtain rfl : k = p.ho.length := by omega
                have hk1 : ¬ ((p.ho.length : Int) < (p.ho.length : Int)) := by omega
                obtain ⟨tt, htt, htn⟩ : ∃ tt : Nat, tt ≤ 3 ∧ (tt : Int) = tn % 4 := ⟨(tn % 4).toNat, by omega, by omega⟩
                obtain ⟨hqE, hqP⟩ := HFI.out.qE tt
                obtain ⟨hs1, hs2⟩ := HFI.out.srf tt
                have hz := RG.qt_zero HFI.out.nn HFI.out.n0.1 tt
                have hch := HFI.out.ch
                have hqc := HFI.out.qch tt
                have hn48 := HFI.out.n0
                have hlq := RG.qt_lens F tt
                have hrq := RG.lm_r (HFI.out.lm tt)
                have HQ := hide (fun (w' : World) (h : RG.PatW w' A1 d1 A2 d2 A3 d3 A4 d4 F) => RG.Quarter_any A1 A2 A3 A4 d1 d2 d3 d4 F tt w' h htt (by rw [HLB.out]; omega))
                have HS1 := hide (fun (w' : World) (h : RG.PatW w' A1 d1 A2 d2 A3 d3 A4 d4 F) => RG.Surface_any A1 A2 A3 A4 d1 d2 d3 d4 F w' h)
                have HS2 := hide (fun (D1 D2 D3 D4 : Option Addr) (q1 q2 q3 q4 : Nat) (w' : World) (h : RG.PatW w' D1 q1 D2 q2 D3 q3 D4 q4 (RG.qtF F tt)) => RG.Surface_any D1 D2 D3 D4 q1 q2 q3 q4 (RG.qtF F tt) w' h)
                have HB2 := hide (fun (D1 D2 D3 D4 : Option Addr) (q1 q2 q3 q4 : Nat) (w' : World) (h : RG.PatW w' D1 q1 D2 q2 D3 q3 D4 q4 (RG.qtF F tt)) => RG.Bounds_any D1 D2 D3 D4 q1 q2 q3 q4 (RG.qtF F tt) w' h hqc ⟨by rw [hlq.1]; exact hn48.1, by rw [hlq.1]; exact hn48.2⟩ hrq)
                rw [hqE, hqP, HLR.out, HLB.out] at HQ
                rw [hch, hs1, HLR.out, HLB.out] at HS1
                rw [hqc, hs2] at HS2
                rw [HHA.out]
                clear HHA HHB HHY HHN HHO HFI hs1 hs2 hch hqc hn48 hlq hrq hqE hqP HP P6 P7 N0 N1 N2 N3
                generalize RG.srfV 1048576 F.r F.c = SS at *
                obtain ⟨⟨bx, by', bw, bh⟩, hbq⟩ : ∃ r, RG.bnR (RG.qtF F tt).r = r := ⟨_, rfl⟩
                rw [hbq] at hz HB2
                obtain ⟨hz1, hz2⟩ := hz
                simp only at hz1 hz2
                subst hz1 hz2
                clear hbq
                generalize RG.qtF F tt = G at *
                have hSS : (SS == SS) = true := by simp
                obtain ⟨s4, b0, b1, b2', b3⟩ := RG.box4 g
                have hz := u64_4 tn tt htn
                have HQ9 := hide (show ∀ z : Int, z = (tt : Int) → ∀ w', RG.PatW w' A1 d1 A2 d2 A3 d3 A4 d4 F → Calls Tryz.prog 18 #[RG.ptv A1 (p.fl.length + 1) d1 A2 F.c.length d2 A3 F.f.length d3 A4 p.fl.length d4, iv z] w' fun e w'' => RG.QrP w' w'' G 0 e from fun z hz w' h => by rw [hz]; exact HQ.out w' h)
                clear HQ
                go_wp2_with fail
                refine (HQ9.out _ (by first | exact htn.symm | exact hz) _ (O1.out.gr gw)).mono ?_
                rintro e w5 ⟨D1, D2, D3, D4, e1, e2, e3, e4, rfl, hQ, -, g5⟩
                have gA := g.trans g5
                clear b0 b1 b2' b3 b7 HQ9 hz
                obtain ⟨s5, b0, b1, b2', b3⟩ := RG.box4 gA
                have gw5 : Gr w3 w5 := gz.trans gA
                go_wp2_with fail
                refine (HS1.out _ (O1.out.gr (gw5.trans (Gr.alloc (Gr.refl _) _)))).mono ?_
                rintro e w6 ⟨rfl, g6⟩
                clear b0 b1 b2' b3
                obtain ⟨t6, r0, r1, r2, r3⟩ := RG.box4 g6
                have g56 : Gr w5 w6 := (Gr.alloc (Gr.refl _) _).trans g6
                go_wp2_with fail
                refine (HS2.out _ _ _ _ _ _ _ _ _ (hQ.gr g56)).mono ?_
                rintro e w7 ⟨rfl, g7⟩
                have g67 := g6.trans g7
                clear r0 r1 r2 r3
                obtain ⟨t7, r0, r1, r2, r3⟩ := RG.box4 g67
                have g57 : Gr w5 w7 := g56.trans g7
                go_wp2_with fail
                refine (HB2.out _ _ _ _ _ _ _ _ _ (hQ.gr g57)).mono ?_
                rintro e w8 ⟨rfl, g8⟩
                have g58 : Gr w5 w8 := g57.trans g8
                have gF : Gr w w8 := gw3.trans (gw5.trans g58)
                clear r0 r1 r2 r3 g58 g57 g67 g56
                go_wp2_with (first | (go_at_call 15; refine (RG.unit_any _).mono ?_; rintro e w1 ⟨rfl, g1⟩; obtain ⟨X1, Y1, c1, f1⟩ := g1.use))
                go_ret
                exact ⟨rfl, gF.trans (by repeat (first | with_reducible exact Gr.refl _ | with_reducible assumption | with_reducible refine Gr.alloc ?_ _ | with_reducible refine Gr.drewN ?_ _ | with_reducible refine Gr.drew ?_ | with_reducible refine Gr.setCell ?_ (by first | (dsimp only; omega) | (simp only [World.size_alloc]; omega) | (with_reducible refine Gr.size ?_; (repeat (first | with_reducible exact Gr.refl _ | with_reducible assumption | with_reducible refine Gr.alloc ?_ _ | with_reducible refine Gr.drewN ?_ _ | with_reducible refine Gr.drew ?_ | with_reducible refine Gr.trans ?_ (by with_reducible assumption))); done)) _ | with_reducible refine Gr.trans ?_ (by with_reducible assumption)))⟩
end Go.Proofs.YtjnfodbniohkhaaGreat
set_option linter.unusedVariables false
set_option linter.unusedSimpArgs false
namespace Go.Proofs.YtjnfodbniohkhaaGreat
set_option linter.unusedVariables false
set_option linter.unusedSimpArgs false
open Go Go.ChangeShapes Go.WideShapes Go.ChangeAt Go.RowKit Go.Deep


set_option maxRecDepth 100000 in
theorem topFlats_spec : LawSpec Rows.topFlatsSpec 3 := ⟨rfl, fun H ds h => by
  match ds, h with
  | [_, _, _], _ => rfl⟩
set_option maxRecDepth 100000 in
theorem topFlats_lifted (os : Os) (started : os.Started) (H : Type) (enc : TypeId × Value → H) :
    ReturnsInHanded {} Tryz.checked os 4 .any (Rows.topFlatsSpec.pre6 enc Tryz.prog Tryz.f4 Rows.topFlatsRow.domain false) (Rows.topFlatsSpec.post enc Tryz.prog Tryz.f4 false true false false) := by
  refine returnsInHanded_of_change_sized (C := Tryz.checked) own started (by kernel_rfl) Tryz.func4
    (ChangeSpec.witness6 (enc := enc) (C := Tryz.checked) false ⟨#[], #[.agg #[.string ⟨#[]⟩, .string ⟨#[]⟩, .int .i64 0, .int .i64 0, .int .i64 0, .int .i64 0, .slice none 0 0, .slice none 0 0], .agg #[.string ⟨#[]⟩, .int .i64 0, .int .i64 0, .slice none 0 0], .int .i64 0], []⟩ 8 (by kernel_rfl) (by kernel_rfl) (by kernel_rfl) (by kernel_rfl)) ?_
  intro W base args ds gs before hval0 hW _ hreach0 _
  have hreach : (DataW.weightsEach Tryz.prog (Tryz.f4.params.toList ++ Rows.topFlatsSpec.plain.varTypes Tryz.prog) (ds ++ gs)).all (· ≤ reachBytes) = true := hreach0
  clear hreach0
  refine law_step (n := 3) topFlats_spec (by kernel_rfl) laidOut Tryz.underlying4 (by kernel_rfl) (by kernel_rfl) hW ?_
  have hval : ∀ (j : Nat) t v, Tryz.f4.params[j]? = some t → args[j]? = some v → Value.okWide Tryz.prog W .any base t v := hval0
  have hlt0 : ∀ x ∈ before, x.block < W.heap.size := fun x hx => hW.lt x hx
  obtain ⟨p, q, hA0, hV, rfl, hfz, hnd⟩ := hW
  have hA : DataW.TrodAll enc Tryz.prog W 0 (fun _ => true) true Tryz.f4.params.toList args.toList ds p := hA0
  rw [Tryz.params4] at hA hval
  obtain ⟨v0, vs0, d0, ds0, p0, q0, hargs, rfl, rfl, h0, r0⟩ := trodAll_cons hA
  obtain ⟨v1, vs1, d1, ds1, p1, q1, rfl, rfl, rfl, h1, r1⟩ := trodAll_cons r0
  obtain ⟨v2, vs2, d2, ds2, p2, q2, rfl, rfl, rfl, h2, r2⟩ := trodAll_cons r1
  obtain ⟨rfl, rfl, rfl⟩ := trodAll_nil r2
  obtain rfl : args = #[v0, v1, v2] := by cases args; simp_all
  obtain ⟨p0, A0, c0, B0, e0, rfl, rF0, rH0, i0, n0, m0⟩ := open_part (hval 0 _ _ rfl rfl) h0
  obtain ⟨t0, C0, q0, rfl, r0', hs0, he0, hc0⟩ := open_tab (hval 1 _ _ rfl rfl) h1
  obtain ⟨k0, rfl, _⟩ := open_int Tryz.underlying3 (hval 2 _ _ rfl rfl) h2
  exact flats_walk p0 t0 A0 B0 C0 c0 e0 q0 k0 W ⟨rF0, rH0, i0, n0, m0⟩ r0' hs0 hc0
theorem topFlats_holds : Rows.TopFlatsSaid :=
  OpenClaim.holds_of_wide 4 Tryz.f4 rfl rfl rfl rfl rfl rfl rfl ⟨rfl, rfl, rfl, rfl, rfl⟩ rfl rfl rfl rfl rfl (by kernel_rfl) Tryz.func4 (by kernel_rfl)
    (of_decide_eq_true (by kernel_rfl)) (by unfold Func.isWrapper; rw [if_neg (of_decide_eq_false (by kernel_rfl))]; exact ⟨rfl, rfl⟩)
    (fun os started H enc _ => topFlats_lifted os started H enc)

end Go.Proofs.YtjnfodbniohkhaaGreat
