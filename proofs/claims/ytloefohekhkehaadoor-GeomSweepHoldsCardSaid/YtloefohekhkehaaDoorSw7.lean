/-
  GeomSweepHolds: the walk.
-/
import Derived.Test.YtloefohekhkehaaDoorSw6
set_option linter.unusedVariables false
set_option linter.unusedSimpArgs false
namespace Go.Proofs.YtloefohekhkehaaDoor
set_option linter.unusedVariables false
set_option linter.unusedSimpArgs false
open Go Go.ChangeShapes Go.WideShapes Go.ChangeAt Go.RowKit Go.Deep

theorem tnP_pB {s : Spt} (h : sinB s.1 s.2 = true) (k : Nat) : pB (tnP k s) = true := by
  obtain ⟨h1, h2⟩ := slim_of h
  obtain ⟨m1, m2⟩ := tn_lim s.1 s.2 k h1 h2
  unfold pB pinB tnP
  simp [m1, m2]
theorem sinL_at {xs : List Spt} (h : sinL xs = true) {s : Spt} (hs : s ∈ xs) : sinB s.1 s.2 = true := List.all_eq_true.1 h s hs
theorem swP_pB {xs : List Spt} (h : sinL xs = true) {f t i : Nat} : ∀ p ∈ swP xs f t i, pB p = true := by
  intro p hp
  unfold swP at hp
  split at hp
  · obtain ⟨s, hs, rfl⟩ := List.mem_map.1 hp
    exact tnP_pB (sinL_at h hs) _
  · rcases List.mem_append.1 hp with hp | hp
    · obtain ⟨s, hs, rfl⟩ := List.mem_map.1 hp
      exact tnP_pB (sinL_at h hs) _
    · obtain ⟨s, hs, rfl⟩ := List.mem_map.1 hp
      exact tnP_pB (sinL_at h hs) _
theorem swP_len {xs : List Spt} {f t i : Nat} : (swP xs f t i).length ≤ 2 * xs.length := by
  unfold swP
  split
  · rw [List.length_map]; omega
  · rw [List.length_append, List.length_map, List.length_map]; omega
/-- at each station a spot lies in one of the polygons' points -/
theorem swP_ex {xs : List Spt} {f t k : Nat} (h1 : f ≤ k) (h2 : k ≤ t) : ∃ m, m < swN f t ∧ ∀ s ∈ xs, tnP k s ∈ swP xs f t m := by
  unfold swN swP
  by_cases e : f = t
  · obtain rfl : k = f := by omega
    exact ⟨0, by rw [if_pos e]; decide, fun s hs => by rw [if_pos e]; exact List.mem_map_of_mem hs⟩
  · by_cases hk : k < t
    · refine ⟨k - f, by rw [if_neg e]; omega, fun s hs => ?_⟩
      rw [if_neg e, show f + (k - f) = k by omega]
      exact List.mem_append_left _ (List.mem_map_of_mem hs)
    · obtain rfl : k = t := by omega
      refine ⟨k - f - 1, by rw [if_neg e]; omega, fun s hs => ?_⟩
      rw [if_neg e, show f + (k - f - 1) + 1 = k by omega]
      exact List.mem_append_right _ (List.mem_map_of_mem hs)
theorem run_mem {l : List Pt} {a : Pt} {s : List Pt} (r : G.Run (l.map vOf) (vOf a) (s.map vOf)) : ∀ q ∈ a :: s, q ∈ l := by
  intro q hq
  have : vOf q ∈ l.map vOf := by
    rcases List.mem_cons.1 hq with rfl | hq
    · exact r.1
    · exact r.2.2.2.1 _ (List.mem_map_of_mem hq)
  obtain ⟨z, hz, e⟩ := List.mem_map.1 this
  rw [← vOf_inj e]
  exact hz
/-- what the hull is of lies in it -/
theorem ins_run {l hs : List Pt} {p : Pt} (h : ∃ a s, hs = a :: s ∧ G.Run (l.map vOf) (vOf a) (s.map vOf)) (h3 : 3 ≤ hs.length) (hp : p ∈ l) : insB hs p = true := by
  obtain ⟨a, s, rfl, r⟩ := h
  refine insB_yes fun i hi => ?_
  obtain ⟨x, hx⟩ : ∃ x, (a :: s)[i]? = some x := ⟨_, List.getElem?_eq_getElem hi⟩
  obtain ⟨y, hy⟩ : ∃ y, (a :: s)[(i + 1) % (a :: s).length]? = some y := ⟨_, List.getElem?_eq_getElem (Nat.mod_lt _ (by omega))⟩
  rw [insA_at hx rfl hy, decide_eq_true_eq, orP_eq]
  have ht : s.map vOf ≠ [] := by
    intro e
    have h0 : s.length = 0 := by
      have := congrArg List.length e
      rwa [List.length_map] at this
    rw [List.length_cons] at h3
    omega
  have e := next_E r (x := vOf x) (y := vOf y) (i := i) ht (by rw [← List.map_cons, List.getElem?_map, hx]; rfl) (by rw [← List.map_cons, List.getElem?_map, List.length_map, hy]; rfl)
  exact (e.2.2 _ (List.mem_map_of_mem hp)).1
set_option maxHeartbeats 4000000 in
set_option maxRecDepth 100000 in
theorem sweepholds_walk (A : Option Addr) (c : Nat) (xs : List Spt) (f t : Int) (w : World) (ht : Tab w) (hx : RdS w A xs) :
    Calls Tryd.prog 4 #[.slice A xs.length c, iv f, iv t] w fun e w' => e = .returned (.bool true) ∧ Gr w w' := by
  have HT := hide ht
  have HX := hide hx
  clear ht hx
  by_cases hlo : 12 < xs.length
  · have hdl : (12 : Int) < (xs.length : Int) := by omega
    go_enter Tryd.func4, Tryd.ntmps4
    go_wp2_with (first | (go_at_call 5; refine (known_any _ (HT.out.gr (by repeat (first | with_reducible exact Gr.refl _ | with_reducible assumption | with_reducible refine Gr.alloc ?_ _ | with_reducible refine Gr.drewN ?_ _ | with_reducible refine Gr.drew ?_ | with_reducible refine Gr.setCell ?_ (by first | (dsimp only; omega) | (simp only [World.size_alloc]; omega) | (with_reducible refine Gr.size ?_; (repeat (first | with_reducible exact Gr.refl _ | with_reducible assumption | with_reducible refine Gr.alloc ?_ _ | with_reducible refine Gr.drewN ?_ _ | with_reducible refine Gr.drew ?_ | with_reducible refine Gr.trans ?_ (by with_reducible assumption))); done)) _ | with_reducible refine Gr.trans ?_ (by with_reducible assumption))))).mono ?_; rintro e w1 ⟨rfl, g1⟩; obtain ⟨X1, Y1, c1, f1⟩ := g1.use; have z1 := g1.size; (try simp only [World.size_alloc, World.size_setCell, World.heap_drewN, Nat.add_one_le_iff] at z1); (try have l0 : w.heap.size < w1.heap.size := by omega); (try have l1 : w.heap.size + 1 < w1.heap.size := by omega); (try have l2 : w.heap.size + 1 + 1 < w1.heap.size := by omega)))
    go_ret
    exact ⟨rfl, (by repeat (first | with_reducible exact Gr.refl _ | with_reducible assumption | with_reducible refine Gr.alloc ?_ _ | with_reducible refine Gr.drewN ?_ _ | with_reducible refine Gr.drew ?_ | with_reducible refine Gr.setCell ?_ (by first | (dsimp only; omega) | (simp only [World.size_alloc]; omega) | (with_reducible refine Gr.size ?_; (repeat (first | with_reducible exact Gr.refl _ | with_reducible assumption | with_reducible refine Gr.alloc ?_ _ | with_reducible refine Gr.drewN ?_ _ | with_reducible refine Gr.drew ?_ | with_reducible refine Gr.trans ?_ (by with_reducible assumption))); done)) _ | with_reducible refine Gr.trans ?_ (by with_reducible assumption)))⟩
  · have hdl : ¬ (12 : Int) < (xs.length : Int) := by omega
    have lx : xs.length ≤ 1000000 := by omega
    have HA := hide (fun (w' : World) (g : Gr w w') => Sweep_any A c xs f t w' (HX.out.gr g) lx (HT.out.gr g))
    by_cases hE : swE xs f t = 0
    · obtain ⟨l1, l2, l3, l4, l5, hsl⟩ := swE_lim hE
      obtain ⟨f, rfl⟩ := Int.eq_ofNat_of_zero_le l1
      obtain ⟨t, rfl⟩ := Int.eq_ofNat_of_zero_le (show 0 ≤ t by omega)
      have HSL := hide hsl
      have hE' : (swE xs (f : Int) (t : Int) != 0) = false := by simp [hE]
      have HPS := hide (fun (ps : List PL) (o : SwOk xs (f : Int) (t : Int) ps) => show ps.length = swN f t ∧ SwR xs f t ps from by
        rcases o with ⟨o, _⟩ | ⟨_, o1, o2⟩
        · exact absurd hE o
        · rw [Int.toNat_natCast, Int.toNat_natCast] at o1 o2
          exact ⟨o1, o2⟩)
      have hn6 : swN f t ≤ 6 := by unfold swN; split <;> omega
      clear hsl
      rw [hE] at HA
      clear hE hE'
      go_enter Tryd.func4, Tryd.ntmps4
      go_wp2_with fail
      refine (HA.out _ (Gr.refl _)).mono ?_
      rintro e w1 ⟨A1, d1, ps, rfl, r1, g1, o1⟩
      have HR1 := hide r1
      obtain ⟨hpn, hpr⟩ := HPS.out ps o1
      have HPR := hide hpr
      have HPN := hide hpn
      have hp6 : ps.length ≤ 6 := by omega
      clear r1 o1 hpr hpn
      go_wp2
      go_loopw [9] (fun i wr => ∃ k : Nat, f ≤ k ∧ k ≤ t + 1 ∧ i = iv k ∧ Gr w1 wr) (fun i _ => t + 1 - (intOf i).toNat)
      case atStart => exact ⟨f, by omega, by omega, rfl, Gr.refl _⟩
      case round =>
        obtain ⟨k, hk1, hk2, rfl, g⟩ := hrel
        by_cases hkt : k ≤ t
        · have hkt1 : (k : Int) ≤ (t : Int) := by omega
          have hkt2 : decide (k ≤ t) = true := decide_eq_true hkt
          obtain ⟨m, hm, hmem⟩ := swP_ex (xs := xs) hk1 hkt
          have hmp : m < ps.length := by rw [HPN.out]; exact hm
          have HMM := hide hmem
          obtain ⟨wo, rfl⟩ : ∃ wo, wo = wr := ⟨_, rfl⟩
          clear hm hmem
          go_wp2
          go_loopw [10] (fun i wr => ∃ j : Nat, j ≤ xs.length ∧ i = iv j ∧ Gr wo wr) (fun i _ => xs.length - (intOf i).toNat)
          case atStart => exact ⟨0, by omega, rfl, Gr.refl _⟩
          case round =>
            obtain ⟨j, hj, rfl, g2⟩ := hrel
            by_cases hjl : j < xs.length
            · obtain ⟨s, hs⟩ : ∃ s, xs[j]? = some s := ⟨_, List.getElem?_eq_getElem hjl⟩
              have gw : Gr w wr := g1.trans (g.trans g2)
              obtain ⟨b, off, rfl, x0, x1⟩ := (HX.out.gr gw) j s hs
              have HPM := hide (HMM.out s (List.mem_of_getElem? hs))
              have hsb := sinL_at HSL.out (List.mem_of_getElem? hs)
              have HPB := hide (tnP_pB hsb k)
              have HTU := hide (show ∀ w' : World, Tab w' → Calls Tryd.prog 9 #[sp s.1 s.2, iv k] w' fun e w'' => e = .returned (.tuple #[pv (tnP k s), iv 0]) ∧ Gr w' w'' from by
                intro w' ht
                have h := Turn_any s.1 s.2 (k : Int) w' ht
                have ok : tuOk s.1 s.2 (k : Int) = true := by unfold tuOk; rw [hsb]; simp; omega
                simp only [tuA, tuB, tuC, tuD, tuE, errIf, ok, if_true, Int.toNat_natCast] at h
                exact h)
              have hj0 : (0 : Int) ≤ (j : Int) := by omega
              have hj1 : (j : Int) < (xs.length : Int) := by omega
              clear hs hsb
              generalize tnP k s = p at *
              go_wp2_with fail
              refine (HTU.out _ (HT.out.gr gw)).mono ?_
              rintro e w2 ⟨rfl, g3⟩
              go_upto_region 13 with fail
              obtain ⟨BX, hBX⟩ : ∃ BX, w2.heap.size = BX := ⟨_, rfl⟩
              have HP4 := hide (show ∀ w', Gr (w2.alloc (.cells #[.int .i64 p.1, .int .i64 p.2.1, .int .i64 p.2.2.1, .int .i64 p.2.2.2] 34)) w' → BX < w'.heap.size ∧ w'.cell? ⟨BX, 0, none⟩ = some (iv p.1) ∧ w'.cell? ⟨BX, 1, none⟩ = some (iv p.2.1) ∧ w'.cell? ⟨BX, 2, none⟩ = some (iv p.2.2.1) ∧ w'.cell? ⟨BX, 3, none⟩ = some (iv p.2.2.2) from by
                intro w' g
                rw [← hBX]
                have hl : w2.heap.size < (w2.alloc (.cells #[.int .i64 p.1, .int .i64 p.2.1, .int .i64 p.2.2.1, .int .i64 p.2.2.2] 34)).heap.size := by simp
                exact ⟨Nat.lt_of_lt_of_le hl g.size, (g.cell _ _ hl).trans (by simp [go_sem]), (g.cell _ _ hl).trans (by simp [go_sem]), (g.cell _ _ hl).trans (by simp [go_sem]), (g.cell _ _ hl).trans (by simp [go_sem])⟩)
              have g4 : Gr w2 (w2.alloc (.cells #[.int .i64 p.1, .int .i64 p.2.1, .int .i64 p.2.2.1, .int .i64 p.2.2.2] 34)) := Gr.alloc (Gr.refl _) _
              simp only [hBX]
              generalize w2.alloc (.cells #[.int .i64 p.1, .int .i64 p.2.1, .int .i64 p.2.2.1, .int .i64 p.2.2.2] 34) = w3 at *
              clear hBX x0 x1
              have g13 : Gr w1 w3 := (g.trans g2).trans (g3.trans g4)
              have g23 : Gr wo w3 := g2.trans (g3.trans g4)
              obtain ⟨wi, rfl⟩ : ∃ wi, wi = wr := ⟨_, rfl⟩
              go_wp2
              go_loopw [13, 14] (fun b i wr => ∃ (n : Nat) (v : Bool), n ≤ ps.length ∧ i = iv n ∧ b = .bool v ∧ Gr w3 wr ∧ Hid (m < n → v = true)) (fun _ i _ => ps.length - (intOf i).toNat)
              case atStart => exact ⟨0, false, by omega, rfl, rfl, Gr.refl _, hide (fun h => absurd h (Nat.not_lt_zero m))⟩
              case round =>
                obtain ⟨n, v, hn, rfl, rfl, g5, HV⟩ := hrel
                by_cases hnl : n < ps.length
                · obtain ⟨l, hl⟩ : ∃ l, ps[n]? = some l := ⟨_, List.getElem?_eq_getElem hnl⟩
                  obtain ⟨⟨bl, ol, rfl, y0⟩, yr, yl⟩ := (HR1.out.gr (g13.trans g5)) n l hl
                  obtain ⟨hb, p0, p1, p2, p3⟩ := HP4.out wr g5
                  have hn0 : (0 : Int) ≤ (n : Int) := by omega
                  have hn1 : (n : Int) < (ps.length : Int) := by omega
                  have hbl : bl < wr.heap.size := cell_lt (by rw [y0]; rfl)
                  cases v with
                  | true =>
                    clear yr hl
                    go_upto_region 17 with fail
                    have GC := @GrW.cell
                    refine wp_region_grw _ (by kernel_rfl) (by kernel_rfl) (Gr.refl _) ?_
                    repeat (go_big_quiet_step ((first | fail)))
                    refine wpQuiet_nil ?_
                    intro wq hwq
                    obtain ⟨gq, hwq'⟩ := hwq
                    subst hwq'
                    clear GC
                    have gq1 := gq.gr
                    generalize gq.w = wq at gq1 ⊢
                    obtain ⟨Xq, Yq, cq, fq⟩ := gq1.use
                    have sq := gq1.size
                    (try simp only [World.size_alloc, World.size_setCell, World.heap_drewN] at sq)
                    go_wp2
                    go_roundw
                    case rel => exact ⟨n + 1, true, by omega, by go_num, rfl, g5.trans gq1, hide (fun _ => rfl)⟩
                    case measure => simp only [intOf]; omega
                  | false =>
                    by_cases h3 : l.2.1.length < 3
                    · have h3i : (l.2.1.length : Int) < 3 := by omega
                      clear yr hl
                      go_upto_region 17 with fail
                      have GC := @GrW.cell
                      refine wp_region_grw _ (by kernel_rfl) (by kernel_rfl) (Gr.refl _) ?_
                      repeat (go_big_quiet_step ((first | fail)))
                      refine wpQuiet_nil ?_
                      intro wq hwq
                      obtain ⟨gq, hwq'⟩ := hwq
                      subst hwq'
                      clear GC
                      have gq1 := gq.gr
                      generalize gq.w = wq at gq1 ⊢
                      obtain ⟨Xq, Yq, cq, fq⟩ := gq1.use
                      have sq := gq1.size
                      (try simp only [World.size_alloc, World.size_setCell, World.heap_drewN] at sq)
                      go_wp2
                      go_roundw
                      case rel => exact ⟨n + 1, true, by omega, by go_num, rfl, g5.trans gq1, hide (fun _ => rfl)⟩
                      case measure => simp only [intOf]; omega
                    · have h3i : ¬ (l.2.1.length : Int) < 3 := by omega
                      obtain ⟨a, u, hau, hru⟩ := HPR.out n l hl
                      have hrl := run_len hau hru
                      have hsl := swP_len (xs := xs) (f := f) (t := t) (i := n)
                      have HIN := hide (fun (w' : World) (g' : Gr wr w') => inside_any l.1 l.2.2 l.2.1 p w' (yr.gr g') (fun q hq => swP_pB HSL.out q (by rw [hau] at hq; exact run_mem hru q hq)) HPB.out (by omega) (by omega))
                      have HV2 := hide (show m < n + 1 → insB l.2.1 p = true from by
                        intro h
                        rcases Nat.lt_or_ge m n with h1 | h1
                        · exact absurd (HV.out h1) (by decide)
                        · obtain rfl : m = n := by omega
                          exact ins_run (HPR.out m l hl) (by omega) HPM.out)
                      generalize insB l.2.1 p = v' at *
                      clear yr hl hau hru hrl hsl HV
                      go_upto_region 17 with fail
                      have GC := @GrW.cell
                      refine wp_region_grw _ (by kernel_rfl) (by kernel_rfl) (Gr.refl _) ?_
                      repeat (go_big_quiet_step ((first | (go_at_call 10; exact quiet_grw (HIN.out _ (GrW.gr _))))))
                      refine wpQuiet_nil ?_
                      intro wq hwq
                      obtain ⟨gq, hwq'⟩ := hwq
                      subst hwq'
                      clear GC
                      have gq1 := gq.gr
                      generalize gq.w = wq at gq1 ⊢
                      obtain ⟨Xq, Yq, cq, fq⟩ := gq1.use
                      have sq := gq1.size
                      (try simp only [World.size_alloc, World.size_setCell, World.heap_drewN] at sq)
                      go_wp2
                      go_roundw
                      case rel => exact ⟨n + 1, v', by omega, by go_num, rfl, g5.trans gq1, HV2⟩
                      case measure => simp only [intOf]; omega
                · obtain rfl : n = ps.length := by omega
                  have hv := HV.out hmp
                  subst hv
                  go_wp2
                  go_roundw
                  case rel => exact ⟨j + 1, by omega, by go_num, g23.trans g5⟩
                  case measure => simp only [intOf]; omega
            · obtain rfl : j = xs.length := by omega
              go_wp2
              go_roundw
              case rel => exact ⟨k + 1, by omega, by omega, by go_num, g.trans g2⟩
              case measure => simp only [intOf]; omega
        · have hkt1 : ¬ (k : Int) ≤ (t : Int) := by omega
          have hkt2 : decide (k ≤ t) = false := decide_eq_false hkt
          have gw : Gr w wr := g1.trans g
          clear g1 g
          go_wp2_with (first | (go_at_call 5; refine (known_any _ (HT.out.gr (by repeat (first | with_reducible exact Gr.refl _ | with_reducible assumption | with_reducible refine Gr.alloc ?_ _ | with_reducible refine Gr.drewN ?_ _ | with_reducible refine Gr.drew ?_ | with_reducible refine Gr.setCell ?_ (by first | (dsimp only; omega) | (simp only [World.size_alloc]; omega) | (with_reducible refine Gr.size ?_; (repeat (first | with_reducible exact Gr.refl _ | with_reducible assumption | with_reducible refine Gr.alloc ?_ _ | with_reducible refine Gr.drewN ?_ _ | with_reducible refine Gr.drew ?_ | with_reducible refine Gr.trans ?_ (by with_reducible assumption))); done)) _ | with_reducible refine Gr.trans ?_ (by with_reducible assumption))))).mono ?_; rintro e w1 ⟨rfl, g1⟩; obtain ⟨X1, Y1, c1, f1⟩ := g1.use; have z1 := g1.size; (try simp only [World.size_alloc, World.size_setCell, World.heap_drewN, Nat.add_one_le_iff] at z1); (try have l0 : w.heap.size < w1.heap.size := by omega); (try have l1 : w.heap.size + 1 < w1.heap.size := by omega); (try have l2 : w.heap.size + 1 + 1 < w1.heap.size := by omega)))
          go_ret
          exact ⟨rfl, (by repeat (first | with_reducible exact Gr.refl _ | with_reducible assumption | with_reducible refine Gr.alloc ?_ _ | with_reducible refine Gr.drewN ?_ _ | with_reducible refine Gr.drew ?_ | with_reducible refine Gr.setCell ?_ (by first | (dsimp only; omega) | (simp only [World.size_alloc]; omega) | (with_reducible refine Gr.size ?_; (repeat (first | with_reducible exact Gr.refl _ | with_reducible assumption | with_reducible refine Gr.alloc ?_ _ | with_reducible refine Gr.drewN ?_ _ | with_reducible refine Gr.drew ?_ | with_reducible refine Gr.trans ?_ (by with_reducible assumption))); done)) _ | with_reducible refine Gr.trans ?_ (by with_reducible assumption)))⟩
    · have hE' : (swE xs f t != 0) = true := by simp [hE]
      have HPS := hide (fun (ps : List PL) (o : SwOk xs f t ps) => show ps = [] from by
        rcases o with ⟨_, o⟩ | ⟨o, _⟩
        · exact o
        · exact absurd o hE)
      generalize swE xs f t = E at *
      go_enter Tryd.func4, Tryd.ntmps4
      go_wp2_with fail
      refine (HA.out _ (Gr.refl _)).mono ?_
      rintro e w1 ⟨A1, d1, ps, rfl, r1, g1, o1⟩
      obtain rfl := HPS.out ps o1
      clear r1 o1
      go_wp2_with (first | (go_at_call 5; refine (known_any _ (HT.out.gr (by repeat (first | with_reducible exact Gr.refl _ | with_reducible assumption | with_reducible refine Gr.alloc ?_ _ | with_reducible refine Gr.drewN ?_ _ | with_reducible refine Gr.drew ?_ | with_reducible refine Gr.setCell ?_ (by first | (dsimp only; omega) | (simp only [World.size_alloc]; omega) | (with_reducible refine Gr.size ?_; (repeat (first | with_reducible exact Gr.refl _ | with_reducible assumption | with_reducible refine Gr.alloc ?_ _ | with_reducible refine Gr.drewN ?_ _ | with_reducible refine Gr.drew ?_ | with_reducible refine Gr.trans ?_ (by with_reducible assumption))); done)) _ | with_reducible refine Gr.trans ?_ (by with_reducible assumption))))).mono ?_; rintro e w1 ⟨rfl, g1⟩; obtain ⟨X1, Y1, c1, f1⟩ := g1.use; have z1 := g1.size; (try simp only [World.size_alloc, World.size_setCell, World.heap_drewN, Nat.add_one_le_iff] at z1); (try have l0 : w.heap.size < w1.heap.size := by omega); (try have l1 : w.heap.size + 1 < w1.heap.size := by omega); (try have l2 : w.heap.size + 1 + 1 < w1.heap.size := by omega)))
      go_ret
      exact ⟨rfl, (by repeat (first | with_reducible exact Gr.refl _ | with_reducible assumption | with_reducible refine Gr.alloc ?_ _ | with_reducible refine Gr.drewN ?_ _ | with_reducible refine Gr.drew ?_ | with_reducible refine Gr.setCell ?_ (by first | (dsimp only; omega) | (simp only [World.size_alloc]; omega) | (with_reducible refine Gr.size ?_; (repeat (first | with_reducible exact Gr.refl _ | with_reducible assumption | with_reducible refine Gr.alloc ?_ _ | with_reducible refine Gr.drewN ?_ _ | with_reducible refine Gr.drew ?_ | with_reducible refine Gr.trans ?_ (by with_reducible assumption))); done)) _ | with_reducible refine Gr.trans ?_ (by with_reducible assumption)))⟩
end Go.Proofs.YtloefohekhkehaaDoor
