/-
  The law of windows that are found.
-/
import Derived.Test.YtfndhddnglcliaaSb28
import Derived.Laws.StructEq
set_option linter.unusedVariables false
set_option linter.unusedSimpArgs false
namespace Go.Proofs.Ytfndhddnglcliaa
set_option linter.unusedVariables false
set_option linter.unusedSimpArgs false
open Go Go.ChangeShapes Go.WideShapes Go.ChangeAt Go.RowKit Go.Deep

theorem sWd : Try.prog.underlying 59 = some (.struct (Try.prog.fieldsOf 59)) := by kernel_rfl
theorem pWd : Try.prog.stoodInHeld 59 = false := by kernel_rfl
theorem gWd : Try.prog.eqGuardType Try.prog.depth 59 = false := by kernel_rfl
theorem eqInWd (d : Nat) (a b : Int) (w : World) : (Op.equalIn (d + 2) 59 (.agg #[iv a, iv b]) (.agg #[iv a, iv b])).run Try.prog w = .ok true w := by
  have u3 := Try.underlying3
  have a3 := Try.isAgg3
  have z3 := Try.sizeOf3
  rw [run_equalIn_agg w (d + 1) 59 _ _ sWd pWd]
  simp only [Program.fieldsOf, Try.underlying59]
  go_simp
theorem eqWd (a b : Int) (w : World) : (Op.equalIn 10000 59 (.agg #[iv a, iv b]) (.agg #[iv a, iv b])).run Try.prog w = .ok true w := eqInWd 9998 a b w
/-- what the windows found so far are -/
structure FdI (ss : List Nat) (q t : Nat) : Prop where
  all : ∀ x ∈ fdL ss q t, ∃ f' t' : Nat, x = ⟨(f' : Int), (t' : Int)⟩ ∧ f' ≤ t' ∧ t' < t ∧ bkB ss q f' t' = true
  odr : Odr (fdL ss q t) (fdL ss q t).length
  last : ∀ i x, i + 1 = (fdL ss q t).length → (fdL ss q t)[i]? = some x → x.tl = (fdF ss q t : Int)
theorem fdI (ss : List Nat) (q : Nat) : ∀ t, FdI ss q t
  | 0 => ⟨fun x hx => by simp [fdL, fdS] at hx, fun i x y hi => by simp [fdL, fdS] at hi, fun i x hi => by simp [fdL, fdS] at hi⟩
  | t + 1 => by
    have ih := fdI ss q t
    have hf := fdF_le ss q t
    cases h : bkB ss q (fdF ss q t) t with
    | false =>
      obtain ⟨h1, h2⟩ := fd_no h
      refine ⟨?_, ?_, ?_⟩
      · rw [h1]
        intro x hx
        obtain ⟨a, b, e, e1, e2, e3⟩ := ih.all x hx
        exact ⟨a, b, e, e1, by omega, e3⟩
      · rw [h1]
        exact ih.odr
      · rw [h1, h2]
        exact ih.last
    | true =>
      obtain ⟨h1, h2⟩ := fd_yes h
      refine ⟨?_, ?_, ?_⟩
      · rw [← h1]
        intro x hx
        rcases List.mem_append.1 hx with hx | hx
        · obtain ⟨a, b, e, e1, e2, e3⟩ := ih.all x hx
          exact ⟨a, b, e, e1, by omega, e3⟩
        · simp only [List.mem_singleton] at hx
          exact ⟨_, _, hx, hf, by omega, h⟩
      · rw [← h1]
        intro i x y hi hx hy
        rw [List.length_append, List.length_singleton] at hi
        rcases Nat.lt_or_ge (i + 1) (fdL ss q t).length with r | r
        · rw [List.getElem?_append_left (by omega)] at hx hy
          exact ih.odr i x y r hx hy
        · have e : i + 1 = (fdL ss q t).length := by omega
          rw [List.getElem?_append_left (by omega)] at hx
          rw [List.getElem?_append_right (by omega), e, Nat.sub_self] at hy
          simp at hy
          have := ih.last i x e hx
          rw [← hy]
          simp only
          omega
      · rw [← h1, h2]
        intro i x hi hx
        rw [List.length_append, List.length_singleton] at hi
        rw [List.getElem?_append_right (by omega), show i - (fdL ss q t).length = 0 by omega] at hx
        simp at hx
        rw [← hx]
theorem fd_cb {ns : List Nd} {q : Nat} (h0 : chE ns (q : Int) = 0) : cbE ns (q : Int) (fdL (mks ns) q ns.length) = 0 := by
  have I := fdI (mks ns) q ns.length
  refine cbE_ok h0 ?_ (odB_iff.2 I.odr) ?_
  · unfold vwB
    rw [List.all_eq_true]
    intro x hx
    obtain ⟨a, b, rfl, e1, e2, _⟩ := I.all x hx
    rw [wnB_iff]
    simp only
    omega
  · unfold bwB
    rw [List.all_eq_true]
    intro x hx
    obtain ⟨a, b, rfl, e1, e2, e3⟩ := I.all x hx
    exact e3
theorem fd_found {ss : List Nat} (hv : ∀ n ∈ ss, LS.okN n) (hl : ss.length ≤ 24) : ∀ t, t ≤ ss.length → LS.Found ss (fdF ss 1 t) t (fdL ss 1 t).length
  | 0, _ => LS.found_start hv hl
  | t + 1, ht => by
    have ih := fd_found hv hl t (by omega)
    cases h : bkB ss 1 (fdF ss 1 t) t with
    | false =>
      obtain ⟨h1, h2⟩ := fd_no h
      rw [h1, h2]
      refine LS.found_on (by omega) ih fun hb => ?_
      rw [(bk_blk (by omega) (fdF_le ss 1 t)).2 hb] at h
      cases h
    | true =>
      obtain ⟨h1, h2⟩ := fd_yes h
      rw [← h1, h2, List.length_append]
      exact LS.found_win hv hl (by omega) ih
theorem fd_one {ns : List Nd} (h0 : chE ns (1 : Int) = 0) : cbV ns 1 (fdL (mks ns) 1 ns.length) = leN ns 1 := by
  have hc := fd_cb (q := 1) h0
  obtain ⟨h1, h2⟩ := cb_le hc
  obtain ⟨hv, _⟩ := chE_ok h0
  obtain ⟨hlen, hB⟩ := vaE_ok hv
  have hF := fd_found (mks_ok hB) (by rw [mks_len]; exact hlen) ns.length (by rw [mks_len]; exact Nat.le_refl _)
  rw [← mks_len ns] at hF
  have hE := LS.found_end hF
  rw [mks_len] at hE
  have hle : leN ns 1 = LS.outl 1 (mks ns) 0 := by unfold leN; rw [if_pos h0]; rfl
  have hcv : cbV ns ((1 : Nat) : Int) (fdL (mks ns) 1 ns.length) = if ns.length = 0 then 0 else ((fdL (mks ns) 1 ns.length).length : Int) + 1 := by unfold cbV; rw [if_pos hc]
  have h1' : cbV ns 1 (fdL (mks ns) 1 ns.length) ≤ leN ns 1 := h1
  have hcv' : cbV ns 1 (fdL (mks ns) 1 ns.length) = if ns.length = 0 then 0 else ((fdL (mks ns) 1 ns.length).length : Int) + 1 := hcv
  rw [hcv'] at h1' ⊢
  split
  · rename_i hn
    have : ns = [] := List.eq_nil_of_length_eq_zero hn
    rw [hle, this]
    rfl
  · rename_i hn
    rw [if_neg hn] at h1'
    omega
end Go.Proofs.Ytfndhddnglcliaa
