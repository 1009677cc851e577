/-
  The law of bounds.
-/
import Derived.Test.YtfndhddnglcliaaSb23
set_option linter.unusedVariables false
set_option linter.unusedSimpArgs false
namespace Go.Proofs.Ytfndhddnglcliaa
set_option linter.unusedVariables false
set_option linter.unusedSimpArgs false
open Go Go.ChangeShapes Go.WideShapes Go.ChangeAt Go.RowKit Go.Deep

theorem srv_sv {ss : List Nat} {f t m : Nat} (ht : t < ss.length) (hf : f ≤ t) : svB ss f t m = true ↔ LS.Srv ss f t m := by
  unfold svB
  constructor
  · intro h j n h1 h2 hn
    have hi : j - f < t + 1 - f := by omega
    have e := sub_at (ss := ss) (f := f) hi
    rw [show f + (j - f) = j by omega, hn] at e
    exact List.all_eq_true.1 h n (List.mem_of_getElem? e)
  · intro h
    refine all_end fun i n hi hn => ?_
    rw [sub_len ht] at hi
    rw [sub_at hi] at hn
    exact h (f + i) n (by omega) (by omega) hn
theorem bk_blk {ss : List Nat} {s f t : Nat} (ht : t < ss.length) (hf : f ≤ t) : bkB ss s f t = true ↔ LS.Blk ss s f t := by
  constructor
  · intro h m hm hc hs
    rw [bk_stop hm hc ((srv_sv ht hf).2 hs)] at h
    cases h
  · intro h
    refine bk_end fun m hm => ?_
    by_cases hc : LS.cd m ≤ s
    · refine bkF_no ?_
      cases e : svB ss f t m with
      | false => rfl
      | true => exact absurd ((srv_sv ht hf).1 e) (h m hm hc)
    · exact bkF_big hc
def wp (x : Wd) : Nat × Nat := (x.fm.toNat, x.tl.toNat)
theorem wins_of {ns : List Nd} {q : Nat} {ws : List Wd} (hv : vwB ns ws = true) (ho : Odr ws ws.length) (hb : bwB ns (q : Int) ws = true) : LS.Wins (mks ns) q (ws.map wp) := by
  induction ws with
  | nil => trivial
  | cons x ws ih =>
    obtain ⟨f, t, hx, h1, h2⟩ := vw_nat hv (List.mem_cons_self ..)
    unfold vwB at hv
    unfold bwB at hb
    rw [List.all_cons, Bool.and_eq_true] at hv hb
    have hb1 : bkB (mks ns) q f t = true := by
      have := hb.1
      rw [hx] at this
      exact this
    have hw : wp x = (f, t) := by rw [hx]; rfl
    rw [List.map_cons, hw]
    refine ⟨h1, by rw [mks_len]; exact h2, (bk_blk (by rw [mks_len]; exact h2) h1).1 hb1, ?_, ih hv.2 ?_ hb.2⟩
    · intro v hv'
      cases ws with
      | nil => simp at hv'
      | cons y ws =>
        obtain ⟨f2, t2, hy, h3, h4⟩ := vw_nat (show vwB ns (y :: ws) = true from hv.2) (List.mem_cons_self ..)
        have ho1 := ho 0 x y (by simp) rfl rfl
        have hw2 : wp y = (f2, t2) := by rw [hy]; rfl
        rw [List.map_cons, hw2] at hv'
        simp only [List.head?_cons, Option.some.injEq] at hv'
        rw [← hv']
        rw [hx, hy] at ho1
        have ho2 : (t : Int) ≤ (f2 : Int) := ho1
        show t ≤ f2
        omega
    · intro i a b hi ha hb'
      exact ho (i + 1) a b (by simp; omega) (by simpa using ha) (by simpa using hb')
theorem mks_ok {ns : List Nd} (h : ndsB ns = true) : ∀ n ∈ mks ns, LS.okN n := by
  intro n hn
  unfold mks at hn
  obtain ⟨x, hx, rfl⟩ := List.mem_map.1 hn
  obtain ⟨h1, h2⟩ := nds_in h hx
  have hr := inR_of h2
  obtain ⟨z, l, e⟩ := List.exists_cons_of_ne_nil h1
  have hz := hr z (by rw [e]; exact List.mem_cons_self ..)
  refine ⟨z.toNat, by omega, (mk_bit hr).2 ?_⟩
  rw [Int.toNat_of_nonneg hz.1, e]
  exact List.mem_cons_self ..
theorem cb_le {ns : List Nd} {s : Int} {ws : List Wd} (h : cbE ns s ws = 0) : cbV ns s ws ≤ leN ns s ∧ chE ns s = 0 := by
  have h0 : chE ns s = 0 := by
    refine Classical.byContradiction fun hc => ?_
    rw [cbE_bad hc] at h
    exact hc h
  refine ⟨?_, h0⟩
  obtain ⟨h2, h3⟩ := chE_ok h0
  obtain ⟨b4, b5⟩ := wiB_iff.1 h3
  obtain ⟨hlen, hB⟩ := vaE_ok h2
  obtain ⟨q, rfl⟩ : ∃ q : Nat, s = q := ⟨s.toNat, by omega⟩
  have hv : vwB ns ws = true := by
    cases e : vwB ns ws with
    | true => rfl
    | false => rw [cbE_vw h0 e] at h; cases h
  have ho : odB ws = true := by
    cases e : odB ws with
    | true => rfl
    | false => rw [cbE_od h0 hv e] at h; cases h
  have hb : bwB ns (q : Int) ws = true := by
    cases e : bwB ns (q : Int) ws with
    | true => rfl
    | false => rw [cbE_bw h0 hv ho e] at h; cases h
  unfold cbV
  rw [if_pos h]
  split
  · omega
  · rename_i hn
    have := LS.bound_le (s := q) (ws := ws.map wp) (by omega) (mks_ok hB) (by rw [mks_len]; exact hlen) (by rw [mks_len]; omega) (wins_of hv (odB_iff.1 ho) hb)
    rw [List.length_map] at this
    unfold leN
    rw [if_pos h0, Int.toNat_natCast]
    omega
def hvB (ns : List Nd) : Bool := lgB ns || (decide (12 < ns.length) && decide (ns.length ≤ 24))
end Go.Proofs.Ytfndhddnglcliaa
