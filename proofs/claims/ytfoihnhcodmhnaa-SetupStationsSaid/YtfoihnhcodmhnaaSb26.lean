/-
  More stations, one step less: the law.
-/
import Derived.Test.YtfoihnhcodmhnaaSb24
set_option linter.unusedVariables false
set_option linter.unusedSimpArgs false
namespace Go.Proofs.Ytfoihnhcodmhnaa
set_option linter.unusedVariables false
set_option linter.unusedSimpArgs false
open Go Go.ChangeShapes Go.WideShapes Go.ChangeAt Go.RowKit Go.Deep

theorem SlN.take {w : World} {A : Option Addr} {c : Nat} {ns : List Nd} (h : SlN w A c ns) (k : Nat) : SlN w A c (ns.take k) := by
  refine ⟨fun i x hx => ?_, fun x hx => h.el x (List.mem_of_mem_take hx), ?_, h.capB⟩
  · rw [List.getElem?_take] at hx
    split at hx
    · exact h.rd i x hx
    · cases hx
  · have := h.cap
    rw [List.length_take]
    omega
theorem nds_take {ns : List Nd} (h : ndsB ns = true) (k : Nat) : ndsB (ns.take k) = true := by
  unfold ndsB at *
  rw [List.all_eq_true] at *
  exact fun x hx => h x (List.mem_of_mem_take hx)
theorem vaE_zero {ns : List Nd} (h1 : ns.length ≤ 24) (h2 : ndsB ns = true) : vaE ns = 0 := by
  unfold vaE
  rw [if_neg (by omega), h2]
  rfl
theorem chE_zero {ns : List Nd} {s : Int} (h1 : vaE ns = 0) (h2 : wiB s 1 3 = true) : chE ns s = 0 := by
  unfold chE
  rw [if_neg (by simpa using h1), h2]
  rfl
theorem leN_bad {ns : List Nd} {s : Int} (h : ¬ chE ns s = 0) : leN ns s = 0 := by unfold leN; rw [if_neg h]
theorem leN_good {ns : List Nd} {q : Nat} (h : chE ns (q : Int) = 0) : leN ns (q : Int) = LS.outl q (mks ns) 0 := by unfold leN; rw [if_pos h]; rfl
set_option maxRecDepth 100000 in
set_option maxHeartbeats 2000000 in
theorem stations_walk (A : Option Addr) (c : Nat) (ns : List Nd) (s : Int) (w : World) (hl : SlN w A c ns) :
    Calls Try.prog 7 #[.slice A ns.length c, iv s] w fun e w' => e = .returned (.bool true) ∧ Gr w w' := by
  have n1 := hl.cap
  have n2 := hl.capB
  have HLG := hide (fun (w' : World) (g : Gr w w') => heavy_any A c ns w' (hl.gr g))
  have HN := hide (fun (w' : World) (g : Gr w w') => Least_any A c ns s w' (hl.gr g))
  cases hlg : hvB ns with
  | true =>
    rw [hlg] at HLG
    clear hl
    go_enter Try.func7, Try.ntmps7
    go_wp2_with (first | (go_at_call 23; refine (HLG.out _ (by repeat (first | with_reducible exact Gr.refl _ | with_reducible assumption | with_reducible refine Gr.alloc ?_ _ | with_reducible refine Gr.drewN ?_ _ | with_reducible refine Gr.drew ?_ | with_reducible refine Gr.setCell ?_ (by first | (dsimp only; omega) | (simp only [World.size_alloc]; omega) | (with_reducible refine Gr.size ?_; (repeat (first | with_reducible exact Gr.refl _ | with_reducible assumption | with_reducible refine Gr.alloc ?_ _ | with_reducible refine Gr.drewN ?_ _ | with_reducible refine Gr.drew ?_ | with_reducible refine Gr.trans ?_ (by with_reducible assumption))); done)) _ | with_reducible refine Gr.trans ?_ (by with_reducible assumption)))).mono ?_; rintro e w1 ⟨rfl, rfl⟩) | (go_at_call 15; refine (known_any _).mono ?_; rintro e w1 ⟨rfl, g1⟩; obtain ⟨X1, Y1, c1, f1⟩ := g1.use))
    go_ret
    exact ⟨rfl, (by repeat (first | with_reducible exact Gr.refl _ | with_reducible assumption | with_reducible refine Gr.alloc ?_ _ | with_reducible refine Gr.drewN ?_ _ | with_reducible refine Gr.drew ?_ | with_reducible refine Gr.setCell ?_ (by first | (dsimp only; omega) | (simp only [World.size_alloc]; omega) | (with_reducible refine Gr.size ?_; (repeat (first | with_reducible exact Gr.refl _ | with_reducible assumption | with_reducible refine Gr.alloc ?_ _ | with_reducible refine Gr.drewN ?_ _ | with_reducible refine Gr.drew ?_ | with_reducible refine Gr.trans ?_ (by with_reducible assumption))); done)) _ | with_reducible refine Gr.trans ?_ (by with_reducible assumption)))⟩
  | false =>
    rw [hlg] at HLG
    by_cases h3 : 3 ≤ s
    · have h3' : decide (3 ≤ s) = true := by simpa using h3
      clear hl h3
      go_enter Try.func7, Try.ntmps7
      go_wp2_with (first | (go_at_call 23; refine (HLG.out _ (by repeat (first | with_reducible exact Gr.refl _ | with_reducible assumption | with_reducible refine Gr.alloc ?_ _ | with_reducible refine Gr.drewN ?_ _ | with_reducible refine Gr.drew ?_ | with_reducible refine Gr.setCell ?_ (by first | (dsimp only; omega) | (simp only [World.size_alloc]; omega) | (with_reducible refine Gr.size ?_; (repeat (first | with_reducible exact Gr.refl _ | with_reducible assumption | with_reducible refine Gr.alloc ?_ _ | with_reducible refine Gr.drewN ?_ _ | with_reducible refine Gr.drew ?_ | with_reducible refine Gr.trans ?_ (by with_reducible assumption))); done)) _ | with_reducible refine Gr.trans ?_ (by with_reducible assumption)))).mono ?_; rintro e w1 ⟨rfl, rfl⟩) | (go_at_call 15; refine (known_any _).mono ?_; rintro e w1 ⟨rfl, g1⟩; obtain ⟨X1, Y1, c1, f1⟩ := g1.use))
      go_ret
      exact ⟨rfl, (by repeat (first | with_reducible exact Gr.refl _ | with_reducible assumption | with_reducible refine Gr.alloc ?_ _ | with_reducible refine Gr.drewN ?_ _ | with_reducible refine Gr.drew ?_ | with_reducible refine Gr.setCell ?_ (by first | (dsimp only; omega) | (simp only [World.size_alloc]; omega) | (with_reducible refine Gr.size ?_; (repeat (first | with_reducible exact Gr.refl _ | with_reducible assumption | with_reducible refine Gr.alloc ?_ _ | with_reducible refine Gr.drewN ?_ _ | with_reducible refine Gr.drew ?_ | with_reducible refine Gr.trans ?_ (by with_reducible assumption))); done)) _ | with_reducible refine Gr.trans ?_ (by with_reducible assumption)))⟩
    · have h3' : decide (3 ≤ s) = false := by simpa using h3
      by_cases h0 : chE ns s = 0
      · obtain ⟨hv, hs⟩ := chE_ok h0
        obtain ⟨b4, b5⟩ := wiB_iff.1 hs
        obtain ⟨hlen, hB⟩ := vaE_ok hv
        obtain ⟨q, rfl⟩ : ∃ q : Nat, s = q := ⟨s.toNat, by omega⟩
        have h0' : chE ns ((q + 1 : Nat) : Int) = 0 := chE_zero hv (by rw [wiB_iff]; omega)
        have W1 : IntKind.i64.wrap ((q : Int) + 1) = (q : Int) + 1 := IntWalk.i64_in _ (by omega)
        have HN2 := hide (fun (w' : World) (g : Gr w w') => show Calls Try.prog 24 #[.slice A ns.length c, iv ((q : Int) + 1)] w' fun e w'' => e = .returned (ierr (leN ns ((q + 1 : Nat) : Int)) 0) ∧ Gr w' w'' from by
          have := Least_any A c ns ((q + 1 : Nat) : Int) w' (hl.gr g)
          rw [h0'] at this
          exact this)
        have hm : decide (leN ns (q : Int) < leN ns ((q + 1 : Nat) : Int)) = false := by
          rw [decide_eq_false_iff_not, leN_good h0, leN_good h0']
          have := LS.more_st (s := q) (by omega) (m := 0) (mks_ok hB) (by rw [mks_len]; exact hlen) (by rw [show LS.cd 0 = 0 from rfl]; omega)
          omega
        rw [h0] at HN
        by_cases hz : ns.length = 0
        · have hz' : ((ns.length : Int) == 0) = true := by rw [beq_iff_eq]; omega
          have hn0 : leN ns (q : Int) = 0 := by
            rw [leN_good h0]
            have : ns = [] := List.eq_nil_of_length_eq_zero hz
            rw [this]
            rfl
          rw [hn0] at HN hm
          clear hl h0 h0' hv hs hB h3 hz hn0
          generalize leN ns ((q + 1 : Nat) : Int) = m at *
          go_enter Try.func7, Try.ntmps7
          go_wp2_with (first | (go_at_call 23; refine (HLG.out _ (by repeat (first | with_reducible exact Gr.refl _ | with_reducible assumption | with_reducible refine Gr.alloc ?_ _ | with_reducible refine Gr.drewN ?_ _ | with_reducible refine Gr.drew ?_ | with_reducible refine Gr.setCell ?_ (by first | (dsimp only; omega) | (simp only [World.size_alloc]; omega) | (with_reducible refine Gr.size ?_; (repeat (first | with_reducible exact Gr.refl _ | with_reducible assumption | with_reducible refine Gr.alloc ?_ _ | with_reducible refine Gr.drewN ?_ _ | with_reducible refine Gr.drew ?_ | with_reducible refine Gr.trans ?_ (by with_reducible assumption))); done)) _ | with_reducible refine Gr.trans ?_ (by with_reducible assumption)))).mono ?_; rintro e w1 ⟨rfl, rfl⟩) | fail)
          refine (HN.out _ (Gr.refl _)).mono ?_
          rintro e w1 ⟨rfl, g1⟩
          go_wp2_with fail
          refine (HN2.out _ g1).mono ?_
          rintro e w2 ⟨rfl, g2⟩
          have gw2 : Gr w w2 := g1.trans g2
          clear g1 g2
          go_wp2_with (first | (go_at_call 15; refine (known_any _).mono ?_; rintro e w1 ⟨rfl, g1⟩; obtain ⟨X1, Y1, c1, f1⟩ := g1.use) | fail)
          go_ret
          exact ⟨rfl, (by repeat (first | with_reducible exact Gr.refl _ | with_reducible assumption | with_reducible refine Gr.alloc ?_ _ | with_reducible refine Gr.drewN ?_ _ | with_reducible refine Gr.drew ?_ | with_reducible refine Gr.setCell ?_ (by first | (dsimp only; omega) | (simp only [World.size_alloc]; omega) | (with_reducible refine Gr.size ?_; (repeat (first | with_reducible exact Gr.refl _ | with_reducible assumption | with_reducible refine Gr.alloc ?_ _ | with_reducible refine Gr.drewN ?_ _ | with_reducible refine Gr.drew ?_ | with_reducible refine Gr.trans ?_ (by with_reducible assumption))); done)) _ | with_reducible refine Gr.trans ?_ (by with_reducible assumption)))⟩
        · have hz' : ((ns.length : Int) == 0) = false := by rw [beq_eq_false_iff_ne]; omega
          have hT : chE (ns.take (ns.length - 1)) (q : Int) = 0 := chE_zero (vaE_zero (by rw [List.length_take]; omega) (nds_take hB _)) hs
          obtain ⟨x, hx⟩ : ∃ x, ns[ns.length - 1]? = some x := ⟨_, List.getElem?_eq_getElem (by omega)⟩
          have hls := LS.last_st (s := q) (by omega) (n := mk x.l) (ns := mks (ns.take (ns.length - 1))) (m := 0) (mks_ok hB _ (by unfold mks; exact List.mem_map.2 ⟨x, List.mem_of_getElem? hx, rfl⟩)) (mks_ok (nds_take hB _)) (by rw [mks_len, List.length_take]; omega) (by rw [show LS.cd 0 = 0 from rfl]; omega)
          rw [mks_at hx, show ns.length - 1 + 1 = ns.length by omega, List.take_length, ← leN_good h0, ← leN_good hT] at hls
          have HN3 := hide (fun (w' : World) (g : Gr w w') => show Calls Try.prog 24 #[.slice A (ns.length - 1) c, iv (q : Int)] w' fun e w'' => e = .returned (ierr (leN (ns.take (ns.length - 1)) (q : Int)) 0) ∧ Gr w' w'' from by
            have := Least_any A c (ns.take (ns.length - 1)) (q : Int) w' ((hl.gr g).take _)
            rw [hT, List.length_take, show min (ns.length - 1) ns.length = ns.length - 1 by omega] at this
            exact this)
          generalize leN (ns.take (ns.length - 1)) (q : Int) = k at *
          generalize leN ns ((q + 1 : Nat) : Int) = m at *
          have hq1 : decide (k ≤ leN ns (q : Int)) = true := by rw [decide_eq_true_eq]; exact hls.1
          have hq2 : decide (leN ns (q : Int) ≤ k + 1) = true := by rw [decide_eq_true_eq]; exact hls.2
          have hk9 : k ≤ 24 := by
            have := LS.outl_le (s := q) (m := 0) (ns := mks ns) (by omega) (mks_ok hB)
            rw [← leN_good h0, mks_len] at this
            omega
          have hn9 : leN ns (q : Int) ≤ 25 := by omega
          generalize leN ns (q : Int) = n at *
          obtain ⟨N, hN⟩ : ∃ N, ns.length = N + 1 := ⟨ns.length - 1, by omega⟩
          rw [hN] at HN HN2 HN3 HLG hz' n1 hlen ⊢
          rw [show N + 1 - 1 = N by omega] at HN3
          have W2 : IntKind.i64.wrap ((N : Int) + 1 - 1) = (N : Int) := by rw [IntWalk.i64_in _ (by omega)]; omega
          have a1 : (0 : Int) ≤ (N : Int) := by omega
          have a2 : (N : Int) ≤ (c : Int) := by omega
          have hq3 : decide ((n : Int) ≤ (k : Int) + 1) = true := by rw [decide_eq_true_eq] at hq2 ⊢; omega
          clear hl h0 h0' hv hs hB h3 hz hT hx hls hN
          go_enter Try.func7, Try.ntmps7
          go_wp2_with (first | (go_at_call 23; refine (HLG.out _ (by repeat (first | with_reducible exact Gr.refl _ | with_reducible assumption | with_reducible refine Gr.alloc ?_ _ | with_reducible refine Gr.drewN ?_ _ | with_reducible refine Gr.drew ?_ | with_reducible refine Gr.setCell ?_ (by first | (dsimp only; omega) | (simp only [World.size_alloc]; omega) | (with_reducible refine Gr.size ?_; (repeat (first | with_reducible exact Gr.refl _ | with_reducible assumption | with_reducible refine Gr.alloc ?_ _ | with_reducible refine Gr.drewN ?_ _ | with_reducible refine Gr.drew ?_ | with_reducible refine Gr.trans ?_ (by with_reducible assumption))); done)) _ | with_reducible refine Gr.trans ?_ (by with_reducible assumption)))).mono ?_; rintro e w1 ⟨rfl, rfl⟩) | fail)
          refine (HN.out _ (Gr.refl _)).mono ?_
          rintro e w1 ⟨rfl, g1⟩
          go_wp2_with fail
          refine (HN2.out _ g1).mono ?_
          rintro e w2 ⟨rfl, g2⟩
          have gw2 : Gr w w2 := g1.trans g2
          clear g1 g2
          go_wp2_with fail
          refine (HN3.out _ gw2).mono ?_
          rintro e w3 ⟨rfl, g3⟩
          have gw3 : Gr w w3 := gw2.trans g3
          clear gw2 g3
          go_wp2_with (first | (go_at_call 15; refine (known_any _).mono ?_; rintro e w1 ⟨rfl, g1⟩; obtain ⟨X1, Y1, c1, f1⟩ := g1.use) | fail)
          go_ret
          exact ⟨rfl, (by repeat (first | with_reducible exact Gr.refl _ | with_reducible assumption | with_reducible refine Gr.alloc ?_ _ | with_reducible refine Gr.drewN ?_ _ | with_reducible refine Gr.drew ?_ | with_reducible refine Gr.setCell ?_ (by first | (dsimp only; omega) | (simp only [World.size_alloc]; omega) | (with_reducible refine Gr.size ?_; (repeat (first | with_reducible exact Gr.refl _ | with_reducible assumption | with_reducible refine Gr.alloc ?_ _ | with_reducible refine Gr.drewN ?_ _ | with_reducible refine Gr.drew ?_ | with_reducible refine Gr.trans ?_ (by with_reducible assumption))); done)) _ | with_reducible refine Gr.trans ?_ (by with_reducible assumption)))⟩
      · have h1 : (chE ns s != 0) = true := by simpa using h0
        rw [leN_bad h0] at HN
        generalize chE ns s = e0 at *
        clear hl h0 h3
        go_enter Try.func7, Try.ntmps7
        go_wp2_with (first | (go_at_call 23; refine (HLG.out _ (by repeat (first | with_reducible exact Gr.refl _ | with_reducible assumption | with_reducible refine Gr.alloc ?_ _ | with_reducible refine Gr.drewN ?_ _ | with_reducible refine Gr.drew ?_ | with_reducible refine Gr.setCell ?_ (by first | (dsimp only; omega) | (simp only [World.size_alloc]; omega) | (with_reducible refine Gr.size ?_; (repeat (first | with_reducible exact Gr.refl _ | with_reducible assumption | with_reducible refine Gr.alloc ?_ _ | with_reducible refine Gr.drewN ?_ _ | with_reducible refine Gr.drew ?_ | with_reducible refine Gr.trans ?_ (by with_reducible assumption))); done)) _ | with_reducible refine Gr.trans ?_ (by with_reducible assumption)))).mono ?_; rintro e w1 ⟨rfl, rfl⟩) | (go_at_call 24; refine (HN.out _ (by repeat (first | with_reducible exact Gr.refl _ | with_reducible assumption | with_reducible refine Gr.alloc ?_ _ | with_reducible refine Gr.drewN ?_ _ | with_reducible refine Gr.drew ?_ | with_reducible refine Gr.setCell ?_ (by first | (dsimp only; omega) | (simp only [World.size_alloc]; omega) | (with_reducible refine Gr.size ?_; (repeat (first | with_reducible exact Gr.refl _ | with_reducible assumption | with_reducible refine Gr.alloc ?_ _ | with_reducible refine Gr.drewN ?_ _ | with_reducible refine Gr.drew ?_ | with_reducible refine Gr.trans ?_ (by with_reducible assumption))); done)) _ | with_reducible refine Gr.trans ?_ (by with_reducible assumption)))).mono ?_; rintro e w1 ⟨rfl, g1⟩; obtain ⟨X1, Y1, c1, f1⟩ := g1.use) | (go_at_call 15; refine (known_any _).mono ?_; rintro e w1 ⟨rfl, g1⟩; obtain ⟨X1, Y1, c1, f1⟩ := g1.use))
        go_ret
        exact ⟨rfl, (by repeat (first | with_reducible exact Gr.refl _ | with_reducible assumption | with_reducible refine Gr.alloc ?_ _ | with_reducible refine Gr.drewN ?_ _ | with_reducible refine Gr.drew ?_ | with_reducible refine Gr.setCell ?_ (by first | (dsimp only; omega) | (simp only [World.size_alloc]; omega) | (with_reducible refine Gr.size ?_; (repeat (first | with_reducible exact Gr.refl _ | with_reducible assumption | with_reducible refine Gr.alloc ?_ _ | with_reducible refine Gr.drewN ?_ _ | with_reducible refine Gr.drew ?_ | with_reducible refine Gr.trans ?_ (by with_reducible assumption))); done)) _ | with_reducible refine Gr.trans ?_ (by with_reducible assumption)))⟩
end Go.Proofs.Ytfoihnhcodmhnaa
