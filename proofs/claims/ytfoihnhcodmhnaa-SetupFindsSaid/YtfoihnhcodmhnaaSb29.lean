/-
  The law of windows that are found.
-/
import Derived.Test.YtfoihnhcodmhnaaSb28
import Derived.Laws.StructEq
set_option linter.unusedVariables false
set_option linter.unusedSimpArgs false
namespace Go.Proofs.Ytfoihnhcodmhnaa
set_option linter.unusedVariables false
set_option linter.unusedSimpArgs false
open Go Go.ChangeShapes Go.WideShapes Go.ChangeAt Go.RowKit Go.Deep

theorem sWd : Try.prog.underlying 43 = some (.struct (Try.prog.fieldsOf 43)) := by kernel_rfl
theorem pWd : Try.prog.stoodInHeld 43 = false := by kernel_rfl
theorem gWd : Try.prog.eqGuardType Try.prog.depth 43 = false := by kernel_rfl
theorem eqInWd (d : Nat) (a b : Int) (w : World) : (Op.equalIn (d + 2) 43 (.agg #[iv a, iv b]) (.agg #[iv a, iv b])).run Try.prog w = .ok true w := by
  have u3 := Try.underlying3
  have a3 := Try.isAgg3
  have z3 := Try.sizeOf3
  rw [run_equalIn_agg w (d + 1) 43 _ _ sWd pWd]
  simp only [Program.fieldsOf, Try.underlying43]
  go_simp
theorem eqWd (a b : Int) (w : World) : (Op.equalIn 10000 43 (.agg #[iv a, iv b]) (.agg #[iv a, iv b])).run Try.prog w = .ok true w := eqInWd 9998 a b w
/-- what the windows found so far are -/
structure FdI (ss : List Nat) (q t : Nat) : Prop where
  all : ∀ x ∈ fdL ss q t, ∃ f' t' : Nat, x = ⟨(f' : Int), (t' : Int)⟩ ∧ f' ≤ t' ∧ t' < t ∧ bkB ss q f' t' = true
  odr : Odr (fdL ss q t) (fdL ss q t).length
  last : ∀ i x, i + 1 = (fdL ss q t).length → (fdL ss q t)[i]? = some x → x.tl = (fdF ss q t : Int)
theorem fdI (ss : List Nat) (q : Nat) : ∀ t, FdI ss q t
  | 0 => ⟨fun x hx => by simp [fdL, fdS] at hx, fun i x y hi => by simp [fdL, fdS] at hi, fun i x hi => by simp [fdL, fdS] at hi⟩
  | t + 1 => by
    have ih := fdI ss q t
    have hf := fdF_le ss q t
    cases h : bkB ss q (fdF ss q t) t with
    | false =>
      obtain ⟨h1, h2⟩ := fd_no h
      refine ⟨?_, ?_, ?_⟩
      · rw [h1]
        intro x hx
        obtain ⟨a, b, e, e1, e2, e3⟩ := ih.all x hx
        exact ⟨a, b, e, e1, by omega, e3⟩
      · rw [h1]
        exact ih.odr
      · rw [h1, h2]
        exact ih.last
    | true =>
      obtain ⟨h1, h2⟩ := fd_yes h
      refine ⟨?_, ?_, ?_⟩
      · rw [← h1]
        intro x hx
        rcases List.mem_append.1 hx with hx | hx
        · obtain ⟨a, b, e, e1, e2, e3⟩ := ih.all x hx
          exact ⟨a, b, e, e1, by omega, e3⟩
        · simp only [List.mem_singleton] at hx
          exact ⟨_, _, hx, hf, by omega, h⟩
      · rw [← h1]
        intro i x y hi hx hy
        rw [List.length_append, List.length_singleton] at hi
        rcases Nat.lt_or_ge (i + 1) (fdL ss q t).length with r | r
        · rw [List.getElem?_append_left (by omega)] at hx hy
          exact ih.odr i x y r hx hy
        · have e : i + 1 = (fdL ss q t).length := by omega
          rw [List.getElem?_append_left (by omega)] at hx
          rw [List.getElem?_append_right (by omega), e, Nat.sub_self] at hy
          simp at hy
          have := ih.last i x e hx
          rw [← hy]
          simp only
          omega
      · rw [← h1, h2]
        intro i x hi hx
        rw [List.length_append, List.length_singleton] at hi
        rw [List.getElem?_append_right (by omega), show i - (fdL ss q t).length = 0 by omega] at hx
        simp at hx
        rw [← hx]
theorem fd_cb {ns : List Nd} {q : Nat} (h0 : chE ns (q : Int) = 0) : cbE ns (q : Int) (fdL (mks ns) q ns.length) = 0 := by
  have I := fdI (mks ns) q ns.length
  refine cbE_ok h0 ?_ (odB_iff.2 I.odr) ?_
  · unfold vwB
    rw [List.all_eq_true]
    intro x hx
    obtain ⟨a, b, rfl, e1, e2, _⟩ := I.all x hx
    rw [wnB_iff]
    simp only
    omega
  · unfold bwB
    rw [List.all_eq_true]
    intro x hx
    obtain ⟨a, b, rfl, e1, e2, e3⟩ := I.all x hx
    exact e3
theorem fd_found {ss : List Nat} (hv : ∀ n ∈ ss, LS.okN n) (hl : ss.length ≤ 24) : ∀ t, t ≤ ss.length → LS.Found ss (fdF ss 1 t) t (fdL ss 1 t).length
  | 0, _ => LS.found_start hv hl
  | t + 1, ht => by
    have ih := fd_found hv hl t (by omega)
    cases h : bkB ss 1 (fdF ss 1 t) t with
    | false =>
      obtain ⟨h1, h2⟩ := fd_no h
      rw [h1, h2]
      refine LS.found_on (by omega) ih fun hb => ?_
      rw [(bk_blk (by omega) (fdF_le ss 1 t)).2 hb] at h
      cases h
    | true =>
      obtain ⟨h1, h2⟩ := fd_yes h
      rw [← h1, h2, List.length_append]
      exact LS.found_win hv hl (by omega) ih
theorem fd_one {ns : List Nd} (h0 : chE ns (1 : Int) = 0) : cbV ns 1 (fdL (mks ns) 1 ns.length) = leN ns 1 := by
  have hc := fd_cb (q := 1) h0
  obtain ⟨h1, h2⟩ := cb_le hc
  obtain ⟨hv, _⟩ := chE_ok h0
  obtain ⟨hlen, hB⟩ := vaE_ok hv
  have hF := fd_found (mks_ok hB) (by rw [mks_len]; exact hlen) ns.length (by rw [mks_len]; exact Nat.le_refl _)
  rw [← mks_len ns] at hF
  have hE := LS.found_end hF
  rw [mks_len] at hE
  have hle : leN ns 1 = LS.outl 1 (mks ns) 0 := by unfold leN; rw [if_pos h0]; rfl
  have hcv : cbV ns ((1 : Nat) : Int) (fdL (mks ns) 1 ns.length) = if ns.length = 0 then 0 else ((fdL (mks ns) 1 ns.length).length : Int) + 1 := by unfold cbV; rw [if_pos hc]
  have h1' : cbV ns 1 (fdL (mks ns) 1 ns.length) ≤ leN ns 1 := h1
  have hcv' : cbV ns 1 (fdL (mks ns) 1 ns.length) = if ns.length = 0 then 0 else ((fdL (mks ns) 1 ns.length).length : Int) + 1 := hcv
  rw [hcv'] at h1' ⊢
  split
  · rename_i hn
    have : ns = [] := List.eq_nil_of_length_eq_zero hn
    rw [hle, this]
    rfl
  · rename_i hn
    rw [if_neg hn] at h1'
    omega
set_option maxRecDepth 100000 in
set_option maxHeartbeats 2000000 in
theorem finds_walk (A : Option Addr) (c : Nat) (ns : List Nd) (s : Int) (w : World) (hl : SlN w A c ns) :
    Calls Try.prog 10 #[.slice A ns.length c, iv s] w fun e w' => e = .returned (.bool true) ∧ Gr w w' := by
  have HLG := hide (fun (w' : World) (g : Gr w w') => heavy_any A c ns w' (hl.gr g))
  have HN := hide (fun (w' : World) (g : Gr w w') => Least_any A c ns s w' (hl.gr g))
  have HA := hide (fun (w' : World) (g : Gr w w') => Bound_any A c ns s w' (hl.gr g))
  have HB := hide (fun (w' : World) (g : Gr w w') => rBound_any A c ns s w' (hl.gr g))
  cases hlg : hvB ns with
  | true =>
    rw [hlg] at HLG
    clear hl
    go_enter Try.func10, Try.ntmps10
    go_wp2_with (first | (go_at_call 23; refine (HLG.out _ (by repeat (first | with_reducible exact Gr.refl _ | with_reducible assumption | with_reducible refine Gr.alloc ?_ _ | with_reducible refine Gr.drewN ?_ _ | with_reducible refine Gr.drew ?_ | with_reducible refine Gr.setCell ?_ (by first | (dsimp only; omega) | (simp only [World.size_alloc]; omega) | (with_reducible refine Gr.size ?_; (repeat (first | with_reducible exact Gr.refl _ | with_reducible assumption | with_reducible refine Gr.alloc ?_ _ | with_reducible refine Gr.drewN ?_ _ | with_reducible refine Gr.drew ?_ | with_reducible refine Gr.trans ?_ (by with_reducible assumption))); done)) _ | with_reducible refine Gr.trans ?_ (by with_reducible assumption)))).mono ?_; rintro e w1 ⟨rfl, rfl⟩) | (go_at_call 15; refine (known_any _).mono ?_; rintro e w1 ⟨rfl, g1⟩; obtain ⟨X1, Y1, c1, f1⟩ := g1.use))
    go_ret
    exact ⟨rfl, (by repeat (first | with_reducible exact Gr.refl _ | with_reducible assumption | with_reducible refine Gr.alloc ?_ _ | with_reducible refine Gr.drewN ?_ _ | with_reducible refine Gr.drew ?_ | with_reducible refine Gr.setCell ?_ (by first | (dsimp only; omega) | (simp only [World.size_alloc]; omega) | (with_reducible refine Gr.size ?_; (repeat (first | with_reducible exact Gr.refl _ | with_reducible assumption | with_reducible refine Gr.alloc ?_ _ | with_reducible refine Gr.drewN ?_ _ | with_reducible refine Gr.drew ?_ | with_reducible refine Gr.trans ?_ (by with_reducible assumption))); done)) _ | with_reducible refine Gr.trans ?_ (by with_reducible assumption)))⟩
  | false =>
    rw [hlg] at HLG
    have hLl : (bdL ns s).length ≤ 24 := by
      unfold bdL
      split
      · rename_i h0
        have := fdL_len (mks ns) s.toNat ns.length
        have := (vaE_ok (chE_ok h0).1).1
        omega
      · simp
    have HCB := hide (fun (A' : Option Addr) (d' : Nat) (w' : World) (g : Gr w w') (h : SlW w' A' d' (bdL ns s)) => CheckBound_any A A' c d' ns s (bdL ns s) w' (hl.gr g) h (by omega))
    have hxx : ((chE ns s) != (chE ns s)) = false := by simp
    have HMA := hide (show chE ns s = 0 → cbE ns s (bdL ns s) = 0 ∧ cbV ns s (bdL ns s) ≤ leN ns s ∧ (s = 1 → cbV ns s (bdL ns s) = leN ns s) by
      intro h0
      obtain ⟨b4, b5⟩ := wiB_iff.1 (chE_ok h0).2
      obtain ⟨q, rfl⟩ : ∃ q : Nat, s = q := ⟨s.toNat, by omega⟩
      have e : bdL ns (q : Int) = fdL (mks ns) q ns.length := by unfold bdL; rw [if_pos h0]; rfl
      rw [e]
      have hc := fd_cb h0
      refine ⟨hc, (cb_le hc).1, fun h1 => ?_⟩
      obtain rfl : q = 1 := by omega
      exact fd_one h0)
    clear hl
    generalize bdL ns s = L at *
    generalize cbE ns s L = CE at *
    generalize cbV ns s L = V at *
    generalize leN ns s = n at *
    generalize chE ns s = E at *
    go_enter Try.func10, Try.ntmps10
    go_wp2_with (first | (go_at_call 23; refine (HLG.out _ (by repeat (first | with_reducible exact Gr.refl _ | with_reducible assumption | with_reducible refine Gr.alloc ?_ _ | with_reducible refine Gr.drewN ?_ _ | with_reducible refine Gr.drew ?_ | with_reducible refine Gr.setCell ?_ (by first | (dsimp only; omega) | (simp only [World.size_alloc]; omega) | (with_reducible refine Gr.size ?_; (repeat (first | with_reducible exact Gr.refl _ | with_reducible assumption | with_reducible refine Gr.alloc ?_ _ | with_reducible refine Gr.drewN ?_ _ | with_reducible refine Gr.drew ?_ | with_reducible refine Gr.trans ?_ (by with_reducible assumption))); done)) _ | with_reducible refine Gr.trans ?_ (by with_reducible assumption)))).mono ?_; rintro e w1 ⟨rfl, rfl⟩) | fail)
    refine (HA.out _ (Gr.refl _)).mono ?_
    rintro e w1 ⟨A1, d1, rfl, s1, g1⟩
    have S1 := hide s1
    have k1 := s1.cap
    have k2 := s1.capB
    clear s1
    go_wp2_with fail
    refine (HB.out _ g1).mono ?_
    rintro e w2 ⟨A2, d2, rfl, s2, g2⟩
    have gw2 : Gr w w2 := g1.trans g2
    have S2 := hide s2
    have k3 := s2.cap
    have k4 := s2.capB
    clear s2
    have hll : ((L.length : Int) != (L.length : Int)) = false := by simp
    go_wp2
    go_loopw [9] (fun i wr => ∃ k : Nat, k ≤ L.length ∧ i = iv k ∧ Gr w2 wr) (fun i _ => L.length - (intOf i).toNat)
    case atStart => exact ⟨0, by omega, rfl, Gr.refl _⟩
    case round =>
      obtain ⟨k, hk, rfl, g⟩ := hrel
      by_cases hkl : k < L.length
      · obtain ⟨x, hx⟩ : ∃ x, L[k]? = some x := ⟨_, List.getElem?_eq_getElem hkl⟩
        obtain ⟨b, o, rfl, x0, x1⟩ := (S1.out.gr (g2.trans g)).at_ hx
        obtain ⟨b', o', rfl, y0, y1⟩ := (S2.out.gr g).at_ hx
        have hk0 : (0 : Int) ≤ (k : Int) := by omega
        have hk1 : (k : Int) < (L.length : Int) := by omega
        have NEQ := fun w => eqWd x.fm x.tl w
        have GP := gWd
        clear hx
        go_upto_region 10 with fail
        have GC := @GrW.cell
        refine wp_region_grw _ (by kernel_rfl) (by kernel_rfl) (Gr.refl _) ?_
        repeat (go_big_quiet_step ((first | fail)))
        refine wpQuiet_nil ?_
        intro wq hwq
        obtain ⟨gq, hwq'⟩ := hwq
        subst hwq'
        clear GC
        have gq1 := gq.gr
        generalize gq.w = wq at gq1 ⊢
        obtain ⟨Xq, Yq, cq, fq⟩ := gq1.use
        have sq := gq1.size
        (try simp only [World.size_alloc, World.size_setCell, World.heap_drewN] at sq)
        go_wp2
        go_roundw
        case rel => exact ⟨k + 1, by omega, by go_num, (by repeat (first | with_reducible exact Gr.refl _ | with_reducible assumption | with_reducible refine Gr.alloc ?_ _ | with_reducible refine Gr.drewN ?_ _ | with_reducible refine Gr.drew ?_ | with_reducible refine Gr.setCell ?_ (by first | (dsimp only; omega) | (simp only [World.size_alloc]; omega) | (with_reducible refine Gr.size ?_; (repeat (first | with_reducible exact Gr.refl _ | with_reducible assumption | with_reducible refine Gr.alloc ?_ _ | with_reducible refine Gr.drewN ?_ _ | with_reducible refine Gr.drew ?_ | with_reducible refine Gr.trans ?_ (by with_reducible assumption))); done)) _ | with_reducible refine Gr.trans ?_ (by with_reducible assumption)))⟩
        case measure => simp only [intOf]; omega
      · obtain rfl : k = L.length := by omega
        by_cases hE : E = 0
        · obtain ⟨m1, m2, m3⟩ := HMA.out hE
          subst hE
          rw [m1] at HCB
          have m2' : decide (V ≤ (n : Int)) = true := by rw [decide_eq_true_eq]; exact m2
          have m3' : (s == 1) = false ∨ ((s == 1) = true ∧ (V == (n : Int)) = true) := by
            by_cases hs : s = 1
            · exact .inr ⟨by rw [beq_iff_eq]; exact hs, by rw [beq_iff_eq]; exact m3 hs⟩
            · exact .inl (by rw [beq_eq_false_iff_ne]; exact hs)
          have m4' : (s != 1) = !(s == 1) := rfl
          clear m1 m2 m3 hk hkl
          go_wp2_with fail
          refine (HCB.out A1 d1 _ (gw2.trans g) (S1.out.gr (g2.trans g))).mono ?_
          rintro e w4 ⟨rfl, g4⟩
          go_wp2_with fail
          refine (HN.out _ (gw2.trans (g.trans g4))).mono ?_
          rintro e w5 ⟨rfl, g5⟩
          have gw5 : Gr w w5 := gw2.trans (g.trans (g4.trans g5))
          rcases m3' with m3' | ⟨m3', m5'⟩
          all_goals
            rw [m3'] at m4'
            clear g1 g2 g g4 g5
            go_wp2_with (first | (go_at_call 15; refine (known_any _).mono ?_; rintro e w1 ⟨rfl, g1⟩; obtain ⟨X1, Y1, c1, f1⟩ := g1.use) | fail)
            go_ret
            exact ⟨rfl, (by repeat (first | with_reducible exact Gr.refl _ | with_reducible assumption | with_reducible refine Gr.alloc ?_ _ | with_reducible refine Gr.drewN ?_ _ | with_reducible refine Gr.drew ?_ | with_reducible refine Gr.setCell ?_ (by first | (dsimp only; omega) | (simp only [World.size_alloc]; omega) | (with_reducible refine Gr.size ?_; (repeat (first | with_reducible exact Gr.refl _ | with_reducible assumption | with_reducible refine Gr.alloc ?_ _ | with_reducible refine Gr.drewN ?_ _ | with_reducible refine Gr.drew ?_ | with_reducible refine Gr.trans ?_ (by with_reducible assumption))); done)) _ | with_reducible refine Gr.trans ?_ (by with_reducible assumption)))⟩
        · have hE' : (E != 0) = true := by simpa using hE
          have gw4 : Gr w wr := gw2.trans g
          clear hE g1 g2 g
          go_wp2_with (first | (go_at_call 15; refine (known_any _).mono ?_; rintro e w1 ⟨rfl, g1⟩; obtain ⟨X1, Y1, c1, f1⟩ := g1.use) | fail)
          go_ret
          exact ⟨rfl, (by repeat (first | with_reducible exact Gr.refl _ | with_reducible assumption | with_reducible refine Gr.alloc ?_ _ | with_reducible refine Gr.drewN ?_ _ | with_reducible refine Gr.drew ?_ | with_reducible refine Gr.setCell ?_ (by first | (dsimp only; omega) | (simp only [World.size_alloc]; omega) | (with_reducible refine Gr.size ?_; (repeat (first | with_reducible exact Gr.refl _ | with_reducible assumption | with_reducible refine Gr.alloc ?_ _ | with_reducible refine Gr.drewN ?_ _ | with_reducible refine Gr.drew ?_ | with_reducible refine Gr.trans ?_ (by with_reducible assumption))); done)) _ | with_reducible refine Gr.trans ?_ (by with_reducible assumption)))⟩
end Go.Proofs.Ytfoihnhcodmhnaa
