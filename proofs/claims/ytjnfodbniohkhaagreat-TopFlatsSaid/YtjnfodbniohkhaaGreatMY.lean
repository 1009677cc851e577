/-
  Flat patterns: the heights of faces, on both sides; the law.
  Flat patterns: Unfold of the reference.
  Flat patterns: patterns and tables compared; the copy of a table; the law of patterns.
  FlatApart, plainly: the rectangles of a pattern lie apart, so their area is the sum of theirs; its holes lie within its faces.
-/
import Derived.Test.YtjnfodbniohkhaaGreatMU
import Derived.Test.YtjnfodbniohkhaaGreatMT
import Derived.Test.YtjnfodbniohkhaaGreatMX
import Derived.Test.YtjnfodbniohkhaaGreatMG
set_option linter.unusedVariables false
set_option linter.unusedSimpArgs false
namespace Go.Proofs.YtjnfodbniohkhaaGreat
set_option linter.unusedVariables false
set_option linter.unusedSimpArgs false
open Go Go.ChangeShapes Go.WideShapes Go.ChangeAt Go.RowKit Go.Deep

/-- the flat heights; none where there is an error -/
noncomputable def hgL (p : Pa) (t : Tb) : List Int := if plE p t = 0 then (plsA p t).map (fun q => abv q q.h) else []
theorem hgL_ok {p : Pa} {t : Tb} (h : plE p t = 0) : hgL p t = (plsA p t).map (fun q => abv q q.h) := by
  unfold hgL
  rw [if_pos h]
theorem hgL_no {p : Pa} {t : Tb} (h : ¬ plE p t = 0) : hgL p t = [] := by
  unfold hgL
  rw [if_neg h]
theorem plsA_len (p : Pa) (t : Tb) : (plsA p t).length = p.fl.length + 1 := pls_len (Nat.le_refl _)
theorem hg_take {L : List Pl} {k : Nat} {q : Pl} (h : L[k]? = some q) : (L.take (k + 1)).map (fun q => abv q q.h) = (L.take k).map (fun q => abv q q.h) ++ [abv q q.h] := by
  obtain ⟨h1, rfl⟩ := List.getElem?_eq_some_iff.1 h
  rw [List.take_succ_eq_append_getElem h1, List.map_append]
  rfl
end Go.Proofs.YtjnfodbniohkhaaGreat
set_option linter.unusedVariables false
set_option linter.unusedSimpArgs false
namespace Go.Proofs.YtjnfodbniohkhaaGreat
set_option linter.unusedVariables false
set_option linter.unusedSimpArgs false
open Go Go.ChangeShapes Go.WideShapes Go.ChangeAt Go.RowKit Go.Deep

theorem unE_sh {p : Pa} {t : Tb} (h : dlE p t = 0) (k : shB (plsA p t) = true) : unE p t = 8 := by
  have : plE p t = 8 := by
    unfold plE
    rw [if_neg (by simpa using h), if_pos k]
  rw [unE_pl (by rw [this]; decide), this]
theorem pl_ns {p : Pa} {t : Tb} (h : dlE p t = 0) (k : shB (plsA p t) = false) : plE p t = 0 := by
  unfold plE
  rw [if_neg (by simpa using h), k]
  rfl
end Go.Proofs.YtjnfodbniohkhaaGreat
set_option linter.unusedVariables false
set_option linter.unusedSimpArgs false
namespace Go.Proofs.YtjnfodbniohkhaaGreat
set_option linter.unusedVariables false
set_option linter.unusedSimpArgs false
open Go Go.ChangeShapes Go.WideShapes Go.ChangeAt Go.RowKit Go.Deep

theorem sRcT : Tryz.prog.underlying 40 = some (.struct (Tryz.prog.fieldsOf 40)) := by kernel_rfl
theorem pRcT : Tryz.prog.stoodInHeld 40 = false := by kernel_rfl
theorem gRcT : Tryz.prog.eqGuardType Tryz.prog.depth 40 = false := by kernel_rfl
theorem sSgT : Tryz.prog.underlying 45 = some (.struct (Tryz.prog.fieldsOf 45)) := by kernel_rfl
theorem pSgT : Tryz.prog.stoodInHeld 45 = false := by kernel_rfl
theorem sBnT : Tryz.prog.underlying 47 = some (.struct (Tryz.prog.fieldsOf 47)) := by kernel_rfl
theorem pBnT : Tryz.prog.stoodInHeld 47 = false := by kernel_rfl
theorem gBnT : Tryz.prog.eqGuardType Tryz.prog.depth 47 = false := by kernel_rfl
theorem sEnT : Tryz.prog.underlying 88 = some (.struct (Tryz.prog.fieldsOf 88)) := by kernel_rfl
theorem pEnT : Tryz.prog.stoodInHeld 88 = false := by kernel_rfl
theorem gEnT : Tryz.prog.eqGuardType Tryz.prog.depth 88 = false := by kernel_rfl
theorem eqRcS (r : RG.Rc) (w : World) : (Op.equalIn 10000 40 (rcv r) (rcv r)).run Tryz.prog w = .ok true w := by
  have u3 := Tryz.underlying3
  have a3 := Tryz.isAgg3
  have z3 := Tryz.sizeOf3
  rw [run_equalIn_agg w 9999 40 _ _ sRcT pRcT]
  simp only [Program.fieldsOf, Tryz.underlying40]
  go_simp
theorem eqEnS (x : En) (w : World) : (Op.equalIn 10000 88 (env x) (env x)).run Tryz.prog w = .ok true w := by
  have u3 := Tryz.underlying3
  have a3 := Tryz.isAgg3
  have z3 := Tryz.sizeOf3
  rw [run_equalIn_agg w 9999 88 _ _ sEnT pEnT]
  simp only [Program.fieldsOf, Tryz.underlying88]
  go_simp
theorem eqSgS (d : Nat) (s : Sg) (w : World) : (Op.equalIn (d + 2) 45 (sgv s) (sgv s)).run Tryz.prog w = .ok true w := by
  have u3 := Tryz.underlying3
  have a3 := Tryz.isAgg3
  have z3 := Tryz.sizeOf3
  rw [run_equalIn_agg w (d + 1) 45 _ _ sSgT pSgT]
  simp only [Program.fieldsOf, Tryz.underlying45]
  go_simp
abbrev bnv (b : Bn) : Value := .agg #[iv b.f, iv b.p, iv b.l.a, iv b.l.b, iv b.l.c, iv b.l.d, iv b.a, iv b.d]
theorem eqBnS (b : Bn) (w : World) : (Op.equalIn 10000 47 (bnv b) (bnv b)).run Tryz.prog w = .ok true w := by
  have u3 := Tryz.underlying3
  have a3 := Tryz.isAgg3
  have z3 := Tryz.sizeOf3
  have hs := fun w => eqSgS 9997 b.l w
  have zs := Tryz.sizeOf45
  have aS := Tryz.isAgg45
  rw [run_equalIn_agg w 9999 47 _ _ sBnT pBnT]
  simp only [Program.fieldsOf, Tryz.underlying47]
  go_simp
theorem SlBn.at_ {w : World} {A : Option Addr} {c : Nat} {l : List Bn} (h : SlBn w A c l) {i : Nat} {z : Bn} (hi : l[i]? = some z) : ∃ b off, A = some ⟨b, off, none⟩ ∧ w.cell? ⟨b, off + i * 8, none⟩ = some (iv z.f) ∧ w.cell? ⟨b, off + i * 8 + 1, none⟩ = some (iv z.p) ∧ w.cell? ⟨b, off + i * 8 + 2, none⟩ = some (iv z.l.a) ∧ w.cell? ⟨b, off + i * 8 + 3, none⟩ = some (iv z.l.b) ∧
    w.cell? ⟨b, off + i * 8 + 4, none⟩ = some (iv z.l.c) ∧ w.cell? ⟨b, off + i * 8 + 5, none⟩ = some (iv z.l.d) ∧ w.cell? ⟨b, off + i * 8 + 6, none⟩ = some (iv z.a) ∧ w.cell? ⟨b, off + i * 8 + 7, none⟩ = some (iv z.d) := by
  obtain ⟨b, off, e, h0, h1, h2, h3, h4, h5, h6, h7, _⟩ := h.rd i z hi
  exact ⟨b, off, e, h0, h1, h2, h3, h4, h5, h6, h7⟩
theorem elEn : ElT Tryz.prog 26 88 3 24 := elT_of (.agg #[.int .i64 0, .int .i64 0, .int .i64 0]) Tryz.underlying26 (by kernel_rfl) rfl
theorem one_en (x : En) : ∀ u ∈ enL x, u.oneCell' = true := by
  intro u hu
  simp at hu
  rcases hu with rfl | rfl | rfl <;> rfl
end Go.Proofs.YtjnfodbniohkhaaGreat
set_option linter.unusedVariables false
set_option linter.unusedSimpArgs false
namespace Go.Proofs.YtjnfodbniohkhaaGreat
set_option linter.unusedVariables false
set_option linter.unusedSimpArgs false
open Go Go.ChangeShapes Go.WideShapes Go.ChangeAt Go.RowKit Go.Deep

theorem slr_of {w : World} {A : Option Addr} {c : Nat} {l : List RG.Rc} (h : SlRq w A c l) : RG.SlR w A c l :=
  ⟨fun i z hz => by obtain ⟨b, off, e, h0, h1, h2, h3, _⟩ := h.rd i z hz; exact ⟨b, off, e, h0, h1, h2, h3, trivial⟩, h.cap, h.capB⟩
theorem ur_rc {p : Pa} {t : Tb} (h : unE p t = 0) : ∀ r ∈ urL p t, RcB r := by
  obtain ⟨h0, -, -⟩ := unE_zero h
  have K := pk_of h0
  intro r hr
  rw [(urL_ok h).1, List.mem_map] at hr
  obtain ⟨q, hq, rfl⟩ := hr
  exact rcF_ok (K.pb q hq) K.nfl (K.ab q hq)
theorem inM_rc {r : RG.Rc} (h : RcB r) : RG.InM 1048576 r := by
  have := h.x; have := h.y; have := h.w; have := h.h
  constructor <;> omega
theorem ur_in {p : Pa} {t : Tb} (h : unE p t = 0) : ∀ r ∈ urL p t, RG.InM 1048576 r := fun r hr => inM_rc (ur_rc h r hr)
theorem ur_six {p : Pa} {t : Tb} (h : unE p t = 0) : (urL p t).length ≤ 6 ∧ p.fl.length ≤ 5 ∧ p.ho.length ≤ 6 := by
  have K := pk_of (unE_zero h).1
  have := K.nfl
  have := K.nho
  have := (ur_len h).1
  omega
theorem ur_ce {p : Pa} {t : Tb} (h : unE p t = 0) : RG.ceL (urL p t) = 0 := by
  have := (ur_six h).1
  unfold RG.ceL
  rw [if_neg (by omega), if_pos (List.all_eq_true.2 fun r hr => RG.vrR_iff.2 (ur_in h r hr))]
theorem ov_no {r s : RG.Rc} (hr : RcB r) (hs : RcB s) (h : (decide (0 < ctX r s) && decide (0 < ctY r s)) = false) : RG.ovR r s = false := by
  rw [← Bool.not_eq_true, RG.ovR_iff]
  simp only [Bool.and_eq_false_iff, decide_eq_false_iff_not] at h
  unfold ctX ctY ctI mnI mxI at h
  have := hr.w; have := hr.h; have := hs.w; have := hs.h
  intro k
  rcases h with h | h
  · split at h <;> split at h <;> omega
  · split at h <;> split at h <;> omega
theorem ur_ov {p : Pa} {t : Tb} (h : unE p t = 0) {i k : Nat} (hk : k < i) {r s : RG.Rc} (h1 : (urL p t)[k]? = some r) (h2 : (urL p t)[i]? = some s) : RG.ovR s r = false := by
  rw [RG.ovR_comm]
  exact ov_no (ur_rc h _ (List.mem_of_getElem? h1)) (ur_rc h _ (List.mem_of_getElem? h2)) (ur_apart h hk h1 h2)
theorem ur_ap {p : Pa} {t : Tb} (h : unE p t = 0) : RG.Apart (urL p t) := by
  unfold RG.Apart
  rw [List.pairwise_iff_getElem]
  intro i j hi hj hij
  rw [RG.ovR_comm]
  exact ur_ov h hij (List.getElem?_eq_getElem hi) (List.getElem?_eq_getElem hj)
theorem ur_ar {p : Pa} {t : Tb} (h : unE p t = 0) : RG.arV (urL p t) = RG.sumA (urL p t) := by
  unfold RG.arV
  rw [if_pos (ur_ce h), RG.areaV_eq (ur_in h), RG.ar_apart (ur_in h) (ur_ap h)]
theorem rcO_nn (q : Pl) (a b w h : Int) : 0 ≤ (rcO q a b w h).w ∧ 0 ≤ (rcO q a b w h).h := by
  unfold rcO rcS orS mnI mxI
  constructor <;> (simp only; split <;> omega)
/-- a hole, a step larger on all sides, lies inside of a face -/
theorem ho_in {p : Pa} {t : Tb} (h : unE p t = 0) {z : RG.Rc} (hz : z ∈ ucL p t ++ ufL p t) : ∃ (k : Nat) (r : RG.Rc), (urL p t)[k]? = some r ∧ RcB r ∧ (r.x ≤ z.x - 1 ∧ z.x + z.w + 1 ≤ r.x + r.w ∧ r.y ≤ z.y - 1 ∧ z.y + z.h + 1 ≤ r.y + r.h) ∧ 0 ≤ z.w ∧ 0 ≤ z.h := by
  obtain ⟨e1, e2, e3, e4⟩ := urL_ok h
  rw [e2, e3, List.mem_append] at hz
  have : ∃ x ∈ p.ho, z = rcHo (plsA p t) x := by
    unfold cuL foL at hz
    simp only [List.mem_map, List.mem_filter] at hz
    rcases hz with ⟨x, ⟨h1, _⟩, rfl⟩ | ⟨x, ⟨h1, _⟩, rfl⟩ <;> exact ⟨x, h1, rfl⟩
  obtain ⟨x, hx, rfl⟩ := this
  obtain ⟨i, hi⟩ := List.mem_iff_getElem?.1 hx
  obtain ⟨q, hq, b1, b2, b3, b4⟩ := hole_of h hi
  have hm : (urL p t)[x.fa.toNat]? = some (rcF q) := by rw [e1, List.getElem?_map, hq]; rfl
  obtain ⟨n1, n2⟩ := rcO_nn (((plsA p t)[x.fa.toNat]?).getD pl0) (x.x * 720) (abv (((plsA p t)[x.fa.toNat]?).getD pl0) x.y) (x.w * 720) (x.h * 720)
  exact ⟨_, _, hm, ur_rc h _ (List.mem_of_getElem? hm), ⟨b1, by omega, b3, by omega⟩, n1, n2⟩
theorem is_in {z r : RG.Rc} (hr : RcB r) (h : r.x ≤ z.x - 1 ∧ z.x + z.w + 1 ≤ r.x + r.w ∧ r.y ≤ z.y - 1 ∧ z.y + z.h + 1 ≤ r.y + r.h) (hw : 0 ≤ z.w) (hh : 0 ≤ z.h) : R.isB (z.x - 1) (z.y - 1) (z.w + 2) (z.h + 2) r.x r.y r.w r.h = true := by
  have := hr.x; have := hr.y; have := hr.w; have := hr.h
  unfold R.isB R.siB R.vrB
  simp only [Bool.and_eq_true, R.vsB_iff, decide_eq_true_iff]
  omega
/-- the line of a flange, as the pattern has it -/
theorem bn_of {p : Pa} {t : Tb} (h : unE p t = 0) {i : Nat} {f : Fl} (hf : p.fl[i]? = some f) : ∃ (b : Bn) (r s : RG.Rc), (ubL p t)[i]? = some b ∧ (urL p t)[i + 1]? = some r ∧ (urL p t)[f.pa.toNat]? = some s ∧
    b.f = (i : Int) ∧ b.p = f.pa ∧ (0 ≤ f.pa ∧ f.pa ≤ (i : Int)) ∧ RcB r ∧ RcB s ∧ b.l.c - b.l.a + b.l.d - b.l.b = f.wd * 720 ∧ (1 ≤ f.wd ∧ f.wd ≤ 150) ∧ edP b.l r ∧ wiP b.l s := by
  obtain ⟨e1, e2, e3, e4⟩ := urL_ok h
  have hi := (List.getElem?_eq_some_iff.1 hf).1
  have K := pk_of (unE_zero h).1
  obtain ⟨q, q', hq, hq', l1, l2, l3⟩ := line_of h hf
  have m1 : (urL p t)[i + 1]? = some (rcF q') := by rw [e1, List.getElem?_map, hq']; rfl
  have m2 : (urL p t)[f.pa.toNat]? = some (rcF q) := by rw [e1, List.getElem?_map, hq]; rfl
  have m3 : (ubL p t)[i]? = some (bnO (plsA p t) p.fl i) := by
    rw [e4]
    unfold bnA
    rw [List.getElem?_map, List.getElem?_range hi]
    rfl
  refine ⟨_, _, _, m3, m1, m2, rfl, ?_, K.fls.pa i f hf, ur_rc h _ (List.mem_of_getElem? m1), ur_rc h _ (List.mem_of_getElem? m2), ?_, (K.fls.fl i f hf).wd, ?_, ?_⟩
  · unfold bnO; simp only [hf, Option.getD_some]
  · unfold bnO; simp only [hq', Option.getD_some]; exact l1
  · unfold bnO; simp only [hq', Option.getD_some]; exact l2
  · unfold bnO; simp only [hq', Option.getD_some]; exact l3
end Go.Proofs.YtjnfodbniohkhaaGreat
