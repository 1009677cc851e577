/-
  Bend tables: the law of deductions.
-/
import Derived.Test.YtpmomgfepkegnaaTab8
import Derived.Deep.RegionWith
set_option linter.unusedVariables false
set_option linter.unusedSimpArgs false
namespace Go.Proofs.Ytpmomgfepkegnaa
set_option linter.unusedVariables false
set_option linter.unusedSimpArgs false
open Go Go.ChangeShapes Go.WideShapes Go.ChangeAt Go.RowKit Go.Deep

/-- the entries nearest to an angle -/
def nrP (l : List En) (a : Int) (y : En) (i : Nat) : Prop := i = cutI l a ∨ (i + 1 = cutI l a ∧ ¬ y.an = a)
theorem nr_step {P : Nat → Prop} {l : List En} {u v u' v' : Int} {k : Nat} {z : En} (H : ∀ i x, i < k → l[i]? = some x → P i → u ≤ tkI x ∧ tkI x ≤ v) (hz : l[k]? = some z)
    (h : P k → u' ≤ tkI z ∧ tkI z ≤ v') (hu : u' ≤ u) (hv : v ≤ v') : ∀ i x, i < k + 1 → l[i]? = some x → P i → u' ≤ tkI x ∧ tkI x ≤ v' := by
  intro i x hi hx hp
  rcases Nat.lt_or_ge i k with q | q
  · have := H i x q hx hp; omega
  · obtain rfl : i = k := by omega
    rw [hz] at hx
    obtain rfl := Option.some.inj hx
    exact h hp
theorem nr_end {t : Tb} {a d1 d2 n : Int} {y : En} (D : Ded t a d1 d2 n y) {u v : Int} (H : ∀ i x, i < t.en.length → t.en[i]? = some x → nrP t.en a y i → u ≤ tkI x ∧ tkI x ≤ v) : u ≤ n ∧ n ≤ v := by
  have hl := (List.getElem?_eq_some_iff.1 D.at_).1
  have h1 := H _ y hl D.at_ (.inl rfl)
  rcases D.or with ⟨_, h⟩ | ⟨hn, j, x, hj, hx, h⟩
  · omega
  · have h2 := H j x (by omega) hx (.inr ⟨by omega, hn⟩)
    omega
set_option maxRecDepth 100000 in
set_option maxHeartbeats 4000000 in
theorem deductions_walk (t : Tb) (A : Option Addr) (c : Nat) (a : Int) (w : World) (hR : RdE w A t.en) (hs : t.mt.size ≤ maxLen) (hc : t.en.length ≤ c ∧ c ≤ maxLen) :
    Calls Try.prog 12 #[tbv t A c, iv a] w fun x w' => x = .returned (.bool true) ∧ Gr w w' := by
  unfold maxLen at hs hc
  have HW := hide (fun w' => wide_any t A c w' (by omega) (by omega))
  cases hb : wdB t with
  | true =>
    rw [hb] at HW
    clear hb hR
    go_enter Try.func12, Try.ntmps12
    go_wp2_with fail
    refine (HW.out _).mono ?_
    rintro e w1 ⟨rfl, g1⟩
    go_wp2_with (first | (go_at_call 39; refine (known3_any _).mono ?_; rintro e w1 ⟨rfl, g1⟩; obtain ⟨X1, Y1, c1, f1⟩ := g1.use; have z1 := g1.size; (try simp only [World.size_alloc, World.size_setCell, World.heap_drewN, Nat.add_one_le_iff] at z1); (try have l0 : w.heap.size < w1.heap.size := by omega); (try have l1 : w.heap.size + 1 < w1.heap.size := by omega); (try have l2 : w.heap.size + 1 + 1 < w1.heap.size := by omega)))
    go_ret
    exact ⟨rfl, (by repeat (first | with_reducible exact Gr.refl _ | with_reducible assumption | with_reducible refine Gr.alloc ?_ _ | with_reducible refine Gr.drewN ?_ _ | with_reducible refine Gr.drew ?_ | with_reducible refine Gr.setCell ?_ (by first | (dsimp only; omega) | (simp only [World.size_alloc]; omega) | (with_reducible refine Gr.size ?_; (repeat (first | with_reducible exact Gr.refl _ | with_reducible assumption | with_reducible refine Gr.alloc ?_ _ | with_reducible refine Gr.drewN ?_ _ | with_reducible refine Gr.drew ?_ | with_reducible refine Gr.trans ?_ (by with_reducible assumption))); done)) _ | with_reducible refine Gr.trans ?_ (by with_reducible assumption)))⟩
  | false =>
    rw [hb] at HW
    have hsm : t.mt.size ≤ 1000 ∧ t.en.length ≤ 1000 := by
      unfold wdB at hb
      simp only [Bool.or_eq_false_iff, decide_eq_false_iff_not] at hb
      omega
    have hE : SlE w A c t.en := ⟨hR, by omega, by omega, hsm.2⟩
    have HD1 := hide (fun (w' : World) (g : Gr w w') => Deduction_any t A c a w' (hE.gr g) hsm.1)
    have HSE := hide hE
    have hlen := hsm.2
    cases hdv : dedA t a with
    | mk d1 d23 =>
    obtain ⟨d2, d3⟩ := d23
    rw [hdv] at HD1
    by_cases hd3 : d3 = 0
    · subst hd3
      obtain ⟨n, y, D⟩ := ded_ok hdv
      have HT := hide (fun w => Ticks_any d1 d2 w)
      rw [D.tik] at HT
      have HD := hide D
      have hn := D.nn
      clear hb hR hE hsm hs hc hdv D
      go_enter Try.func12, Try.ntmps12
      go_wp2_with fail
      refine (HW.out _).mono ?_
      rintro e w1 ⟨rfl, g1⟩
      obtain ⟨X1, Y1, c1, f1⟩ := g1.use
      have z1 := g1.size
      simp only [World.size_alloc] at z1
      have l1 : w.heap.size < w1.heap.size := by omega
      have gw1 : Gr w w1 := (by repeat (first | with_reducible exact Gr.refl _ | with_reducible assumption | with_reducible refine Gr.alloc ?_ _ | with_reducible refine Gr.drewN ?_ _ | with_reducible refine Gr.drew ?_ | with_reducible refine Gr.setCell ?_ (by first | (dsimp only; omega) | (simp only [World.size_alloc]; omega) | (with_reducible refine Gr.size ?_; (repeat (first | with_reducible exact Gr.refl _ | with_reducible assumption | with_reducible refine Gr.alloc ?_ _ | with_reducible refine Gr.drewN ?_ _ | with_reducible refine Gr.drew ?_ | with_reducible refine Gr.trans ?_ (by with_reducible assumption))); done)) _ | with_reducible refine Gr.trans ?_ (by with_reducible assumption)))
      go_wp2_with fail
      refine (HD1.out _ gw1).mono ?_
      rintro e w2 ⟨rfl, g2⟩
      obtain ⟨X2, Y2, c2, f2⟩ := g2.use
      have z2 := g2.size
      have l2 : w.heap.size < w2.heap.size := by omega
      have gw2 : Gr w w2 := gw1.trans g2
      go_wp2_with fail
      refine (HT.out _).mono ?_
      rintro e w3 ⟨rfl, g3⟩
      obtain ⟨X3, Y3, c3, f3⟩ := g3.use
      have z3 := g3.size
      simp only [World.size_alloc] at z3
      have l3 : w.heap.size < w3.heap.size := by omega
      have gw3 : Gr w w3 := (by repeat (first | with_reducible exact Gr.refl _ | with_reducible assumption | with_reducible refine Gr.alloc ?_ _ | with_reducible refine Gr.drewN ?_ _ | with_reducible refine Gr.drew ?_ | with_reducible refine Gr.setCell ?_ (by first | (dsimp only; omega) | (simp only [World.size_alloc]; omega) | (with_reducible refine Gr.size ?_; (repeat (first | with_reducible exact Gr.refl _ | with_reducible assumption | with_reducible refine Gr.alloc ?_ _ | with_reducible refine Gr.drewN ?_ _ | with_reducible refine Gr.drew ?_ | with_reducible refine Gr.trans ?_ (by with_reducible assumption))); done)) _ | with_reducible refine Gr.trans ?_ (by with_reducible assumption)))
      have gT : Gr (w.alloc (.cells #[.string t.mt, iv t.ga, iv t.di, .slice A t.en.length c] 71)) w3 := g1.trans (g2.trans ((Gr.alloc (Gr.refl _) _).trans g3))
      have hp3 : w3.cell? ⟨w.heap.size, 3, none⟩ = some (.slice A t.en.length c) := (gT.cell _ 3 (by simp)).trans (by simp)
      clear X1 Y1 c1 f1 X2 Y2 c2 f2 X3 Y3 c3 f3 gT
      go_wp2_with fail
      go_loopw [9, 10, 11] (fun lo hi i wr => ∃ (k : Nat) (u v : Int), k ≤ t.en.length ∧ i = iv k ∧ lo = iv u ∧ hi = iv v ∧ Gr w3 wr ∧ Hid (∀ i x, i < k → t.en[i]? = some x → nrP t.en a y i → u ≤ tkI x ∧ tkI x ≤ v)) (fun _ _ i _ => t.en.length - (intOf i).toNat)
      case atStart => exact ⟨0, _, _, by omega, rfl, rfl, rfl, Gr.refl _, fun i x h => by omega⟩
      case round =>
        obtain ⟨k, u, v, hk, rfl, rfl, rfl, g, HP⟩ := hrel
        have gW : Gr w wr := gw3.trans g
        have zr := g.size
        have l0 : w.heap.size < wr.heap.size := by omega
        have hp := (g.cell w.heap.size 3 l3).trans hp3
        clear hp3
        by_cases hkl : k < t.en.length
        · obtain ⟨z, hz⟩ : ∃ z, t.en[k]? = some z := ⟨_, List.getElem?_eq_getElem hkl⟩
          obtain ⟨b, off, rfl, z0, z1', z2'⟩ := (HSE.out.gr gW).rd.en hz
          have hb : b < wr.heap.size := cell_lt (by rw [z0]; rfl)
          have HTK := hide (fun w => Ticks_any z.nm z.dn w)
          rw [tk_tik (en_of HD.out.ok hz)] at HTK
          have hasc := asc_of HD.out.ok
          have hya := HD.out.at_
          have hci := (List.getElem?_eq_some_iff.1 hya).1
          have hk0 : (0 : Int) ≤ (k : Int) := by omega
          have hk1 : (k : Int) < (t.en.length : Int) := by omega
          have HST := hide (fun (u' v' : Int) h hu hv => nr_step (u' := u') (v' := v') HP.out hz h hu hv)
          clear HP
          have HYV : Hid (z.an = a → tkI z = n) := by
            intro h
            have hk : k = cutI t.en a := by
              rcases Nat.lt_trichotomy k (cutI t.en a) with q | q | q
              · have := cut_lt q hz; omega
              · exact q
              · have := cut_gt hasc q hz; omega
            rw [hk, hya] at hz
            obtain rfl := Option.some.inj hz
            rcases HD.out.or with ⟨_, q⟩ | ⟨q, _⟩
            · exact q.symm
            · exact absurd h q
          generalize tkI z = m at *
          by_cases hA : k + 1 ≤ cutI t.en a
          · have hza := cut_lt (show k < cutI t.en a by omega) hz
            obtain ⟨x, hx⟩ : ∃ x, t.en[k + 1]? = some x := ⟨_, List.getElem?_eq_getElem (by omega)⟩
            obtain ⟨b', off', hA', x0, x1, x2⟩ := (HSE.out.gr gW).rd.en hx
            obtain ⟨rfl, rfl⟩ : b = b' ∧ off = off' := by simpa using hA'
            have hk2 : (0 : Int) ≤ (k : Int) + 1 := by omega
            have hk3 : (k : Int) + 1 < (t.en.length : Int) := by omega
            by_cases hB : a < x.an
            · clear HYV hya hx hz hasc hA hA' hci
              by_cases p1 : m < u <;> by_cases p2 : v < m
              all_goals
                go_upto_region 13 with fail
                have GC := @GrW.cell
                refine wp_region_grw _ (by kernel_rfl) (by kernel_rfl) (Gr.refl _) ?_
                repeat (go_big_quiet_step ((first | (go_at_call 44; exact quiet_grw (HTK.out _)))))
                refine wpQuiet_nil ?_
                intro wq hwq
                obtain ⟨gq, hwq'⟩ := hwq
                subst hwq'
                clear GC
                have gq1 := gq.gr
                generalize gq.w = wq at gq1 ⊢
                obtain ⟨Xq, Yq, cq, fq⟩ := gq1.use
                have sq := gq1.size
                (try simp only [World.size_alloc, World.size_setCell, World.heap_drewN] at sq)
                go_wp2
                go_roundw
                case rel => exact ⟨k + 1, _, _, by omega, by go_num, rfl, rfl, (by repeat (first | with_reducible exact Gr.refl _ | with_reducible assumption | with_reducible refine Gr.alloc ?_ _ | with_reducible refine Gr.drewN ?_ _ | with_reducible refine Gr.drew ?_ | with_reducible refine Gr.setCell ?_ (by first | (dsimp only; omega) | (simp only [World.size_alloc]; omega) | (with_reducible refine Gr.size ?_; (repeat (first | with_reducible exact Gr.refl _ | with_reducible assumption | with_reducible refine Gr.alloc ?_ _ | with_reducible refine Gr.drewN ?_ _ | with_reducible refine Gr.drew ?_ | with_reducible refine Gr.trans ?_ (by with_reducible assumption))); done)) _ | with_reducible refine Gr.trans ?_ (by with_reducible assumption))), hide (HST.out _ _ (fun _ => by omega) (by omega) (by omega))⟩
                case measure => simp only [intOf]; omega
            · have HP' := hide (HST.out u v (by
                intro h
                exfalso
                rcases h with h | ⟨h, hn'⟩
                · omega
                · rw [h, hya] at hx
                  obtain rfl := Option.some.inj hx
                  have := cut_at hya
                  omega) (by omega) (by omega))
              clear HST HYV hya hx hz hasc hA hA' hci
              go_upto_region 13 with fail
              have GC := @GrW.cell
              refine wp_region_grw _ (by kernel_rfl) (by kernel_rfl) (Gr.refl _) ?_
              repeat (go_big_quiet_step ((first | (go_at_call 44; exact quiet_grw (HTK.out _)))))
              refine wpQuiet_nil ?_
              intro wq hwq
              obtain ⟨gq, hwq'⟩ := hwq
              subst hwq'
              clear GC
              have gq1 := gq.gr
              generalize gq.w = wq at gq1 ⊢
              obtain ⟨Xq, Yq, cq, fq⟩ := gq1.use
              have sq := gq1.size
              (try simp only [World.size_alloc, World.size_setCell, World.heap_drewN] at sq)
              go_wp2
              go_roundw
              case rel => exact ⟨k + 1, u, v, by omega, by go_num, rfl, rfl, (by repeat (first | with_reducible exact Gr.refl _ | with_reducible assumption | with_reducible refine Gr.alloc ?_ _ | with_reducible refine Gr.drewN ?_ _ | with_reducible refine Gr.drew ?_ | with_reducible refine Gr.setCell ?_ (by first | (dsimp only; omega) | (simp only [World.size_alloc]; omega) | (with_reducible refine Gr.size ?_; (repeat (first | with_reducible exact Gr.refl _ | with_reducible assumption | with_reducible refine Gr.alloc ?_ _ | with_reducible refine Gr.drewN ?_ _ | with_reducible refine Gr.drew ?_ | with_reducible refine Gr.trans ?_ (by with_reducible assumption))); done)) _ | with_reducible refine Gr.trans ?_ (by with_reducible assumption))), HP'⟩
              case measure => simp only [intOf]; omega
          · by_cases hC : k = cutI t.en a
            · have hza := cut_at (hC ▸ hz : t.en[cutI t.en a]? = some z)
              have hmn : (z.an == a) = true ∧ (m != n) = false ∨ (z.an == a) = false := by
                by_cases h : z.an = a
                · exact .inl ⟨by simpa using h, by rw [HYV h]; simp⟩
                · exact .inr (by simpa using h)
              cases k with
              | zero =>
                simp only [Nat.zero_mul, Nat.add_zero] at z0 z1' z2'
                have hk2 : (0 : Int) < (t.en.length : Int) := by omega
                clear HYV hya hz hasc hA hci hC
                rcases hmn with ⟨e1, e2⟩ | e1 <;> by_cases p1 : m < u <;> by_cases p2 : v < m
                all_goals
                  go_upto_region 13 with fail
                  have GC := @GrW.cell
                  refine wp_region_grw _ (by kernel_rfl) (by kernel_rfl) (Gr.refl _) ?_
                  repeat (go_big_quiet_step ((first | (go_at_call 44; exact quiet_grw (HTK.out _)))))
                  refine wpQuiet_nil ?_
                  intro wq hwq
                  obtain ⟨gq, hwq'⟩ := hwq
                  subst hwq'
                  clear GC
                  have gq1 := gq.gr
                  generalize gq.w = wq at gq1 ⊢
                  obtain ⟨Xq, Yq, cq, fq⟩ := gq1.use
                  have sq := gq1.size
                  (try simp only [World.size_alloc, World.size_setCell, World.heap_drewN] at sq)
                  go_wp2
                  go_roundw
                  case rel => exact ⟨0 + 1, _, _, by omega, by go_num, rfl, rfl, (by repeat (first | with_reducible exact Gr.refl _ | with_reducible assumption | with_reducible refine Gr.alloc ?_ _ | with_reducible refine Gr.drewN ?_ _ | with_reducible refine Gr.drew ?_ | with_reducible refine Gr.setCell ?_ (by first | (dsimp only; omega) | (simp only [World.size_alloc]; omega) | (with_reducible refine Gr.size ?_; (repeat (first | with_reducible exact Gr.refl _ | with_reducible assumption | with_reducible refine Gr.alloc ?_ _ | with_reducible refine Gr.drewN ?_ _ | with_reducible refine Gr.drew ?_ | with_reducible refine Gr.trans ?_ (by with_reducible assumption))); done)) _ | with_reducible refine Gr.trans ?_ (by with_reducible assumption))), hide (HST.out _ _ (fun _ => by omega) (by omega) (by omega))⟩
                  case measure => simp only [intOf]; omega
              | succ j =>
                have hxa0 : ∀ x, t.en[j]? = some x → x.an < a := fun x hx => cut_lt (by omega) hx
                obtain ⟨x, hx⟩ : ∃ x, t.en[j]? = some x := ⟨_, List.getElem?_eq_getElem (by omega)⟩
                have hxa := hxa0 x hx
                obtain ⟨b', off', hA', x0, x1, x2⟩ := (HSE.out.gr gW).rd.en hx
                obtain ⟨rfl, rfl⟩ : b = b' ∧ off = off' := by simpa using hA'
                have hk2 : (0 : Int) ≤ (j : Int) := by omega
                have hk3 : (j : Int) < (t.en.length : Int) := by omega
                have hk4 : ((j : Int) + 1 == 0) = false := by rw [beq_eq_false_iff_ne]; omega
                clear HYV hya hz hx hasc hA hA' hci hC hxa0
                rcases hmn with ⟨e1, e2⟩ | e1 <;> by_cases p1 : m < u <;> by_cases p2 : v < m
                all_goals
                  go_upto_region 13 with fail
                  have GC := @GrW.cell
                  refine wp_region_grw _ (by kernel_rfl) (by kernel_rfl) (Gr.refl _) ?_
                  repeat (go_big_quiet_step ((first | (go_at_call 44; exact quiet_grw (HTK.out _)))))
                  refine wpQuiet_nil ?_
                  intro wq hwq
                  obtain ⟨gq, hwq'⟩ := hwq
                  subst hwq'
                  clear GC
                  have gq1 := gq.gr
                  generalize gq.w = wq at gq1 ⊢
                  obtain ⟨Xq, Yq, cq, fq⟩ := gq1.use
                  have sq := gq1.size
                  (try simp only [World.size_alloc, World.size_setCell, World.heap_drewN] at sq)
                  go_wp2
                  go_roundw
                  case rel => exact ⟨j + 1 + 1, _, _, by omega, by go_num, rfl, rfl, (by repeat (first | with_reducible exact Gr.refl _ | with_reducible assumption | with_reducible refine Gr.alloc ?_ _ | with_reducible refine Gr.drewN ?_ _ | with_reducible refine Gr.drew ?_ | with_reducible refine Gr.setCell ?_ (by first | (dsimp only; omega) | (simp only [World.size_alloc]; omega) | (with_reducible refine Gr.size ?_; (repeat (first | with_reducible exact Gr.refl _ | with_reducible assumption | with_reducible refine Gr.alloc ?_ _ | with_reducible refine Gr.drewN ?_ _ | with_reducible refine Gr.drew ?_ | with_reducible refine Gr.trans ?_ (by with_reducible assumption))); done)) _ | with_reducible refine Gr.trans ?_ (by with_reducible assumption))), hide (HST.out _ _ (fun _ => by omega) (by omega) (by omega))⟩
                  case measure => simp only [intOf]; omega
            · have hza := cut_gt hasc (show cutI t.en a < k by omega) hz
              obtain ⟨j, rfl⟩ : ∃ j, k = j + 1 := ⟨k - 1, by omega⟩
              obtain ⟨x, hx⟩ : ∃ x, t.en[j]? = some x := ⟨_, List.getElem?_eq_getElem (by omega)⟩
              have hxa : a ≤ x.an := by
                rcases Nat.lt_or_ge (cutI t.en a) j with q | q
                · have := cut_gt hasc q hx; omega
                · have : j = cutI t.en a := by omega
                  rw [this] at hx
                  exact cut_at hx
              obtain ⟨b', off', hA', x0, x1, x2⟩ := (HSE.out.gr gW).rd.en hx
              obtain ⟨rfl, rfl⟩ : b = b' ∧ off = off' := by simpa using hA'
              have hk2 : (0 : Int) ≤ (j : Int) := by omega
              have hk3 : (j : Int) < (t.en.length : Int) := by omega
              have hk4 : ((j : Int) + 1 == 0) = false := by rw [beq_eq_false_iff_ne]; omega
              have HP' := hide (HST.out u v (by
                intro h
                exfalso
                rcases h with h | ⟨h, hn'⟩ <;> omega) (by omega) (by omega))
              clear HST HYV hya hx hz hasc hA hA' hci hC
              go_upto_region 13 with fail
              have GC := @GrW.cell
              refine wp_region_grw _ (by kernel_rfl) (by kernel_rfl) (Gr.refl _) ?_
              repeat (go_big_quiet_step ((first | (go_at_call 44; exact quiet_grw (HTK.out _)))))
              refine wpQuiet_nil ?_
              intro wq hwq
              obtain ⟨gq, hwq'⟩ := hwq
              subst hwq'
              clear GC
              have gq1 := gq.gr
              generalize gq.w = wq at gq1 ⊢
              obtain ⟨Xq, Yq, cq, fq⟩ := gq1.use
              have sq := gq1.size
              (try simp only [World.size_alloc, World.size_setCell, World.heap_drewN] at sq)
              go_wp2
              go_roundw
              case rel => exact ⟨j + 1 + 1, u, v, by omega, by go_num, rfl, rfl, (by repeat (first | with_reducible exact Gr.refl _ | with_reducible assumption | with_reducible refine Gr.alloc ?_ _ | with_reducible refine Gr.drewN ?_ _ | with_reducible refine Gr.drew ?_ | with_reducible refine Gr.setCell ?_ (by first | (dsimp only; omega) | (simp only [World.size_alloc]; omega) | (with_reducible refine Gr.size ?_; (repeat (first | with_reducible exact Gr.refl _ | with_reducible assumption | with_reducible refine Gr.alloc ?_ _ | with_reducible refine Gr.drewN ?_ _ | with_reducible refine Gr.drew ?_ | with_reducible refine Gr.trans ?_ (by with_reducible assumption))); done)) _ | with_reducible refine Gr.trans ?_ (by with_reducible assumption))), HP'⟩
              case measure => simp only [intOf]; omega
        · obtain rfl : k = t.en.length := by omega
          obtain ⟨q1, q2⟩ := nr_end HD.out HP.out
          go_wp2_with (first | (go_at_call 39; refine (known3_any _).mono ?_; rintro e w1 ⟨rfl, g1⟩; obtain ⟨X1, Y1, c1, f1⟩ := g1.use; have z1 := g1.size; (try simp only [World.size_alloc, World.size_setCell, World.heap_drewN, Nat.add_one_le_iff] at z1); (try have l0 : w.heap.size < w1.heap.size := by omega); (try have l1 : w.heap.size + 1 < w1.heap.size := by omega); (try have l2 : w.heap.size + 1 + 1 < w1.heap.size := by omega)))
          go_ret
          exact ⟨rfl, (by repeat (first | with_reducible exact Gr.refl _ | with_reducible assumption | with_reducible refine Gr.alloc ?_ _ | with_reducible refine Gr.drewN ?_ _ | with_reducible refine Gr.drew ?_ | with_reducible refine Gr.setCell ?_ (by first | (dsimp only; omega) | (simp only [World.size_alloc]; omega) | (with_reducible refine Gr.size ?_; (repeat (first | with_reducible exact Gr.refl _ | with_reducible assumption | with_reducible refine Gr.alloc ?_ _ | with_reducible refine Gr.drewN ?_ _ | with_reducible refine Gr.drew ?_ | with_reducible refine Gr.trans ?_ (by with_reducible assumption))); done)) _ | with_reducible refine Gr.trans ?_ (by with_reducible assumption)))⟩
    · obtain ⟨rfl, rfl⟩ := ded_err hdv hd3
      clear hb hR hE hsm hs hc hdv
      go_enter Try.func12, Try.ntmps12
      go_wp2_with fail
      refine (HW.out _).mono ?_
      rintro e w1 ⟨rfl, g1⟩
      obtain ⟨X1, Y1, c1, f1⟩ := g1.use
      have z1 := g1.size
      simp only [World.size_alloc] at z1
      have l1 : w.heap.size < w1.heap.size := by omega
      have gw1 : Gr w w1 := (by repeat (first | with_reducible exact Gr.refl _ | with_reducible assumption | with_reducible refine Gr.alloc ?_ _ | with_reducible refine Gr.drewN ?_ _ | with_reducible refine Gr.drew ?_ | with_reducible refine Gr.setCell ?_ (by first | (dsimp only; omega) | (simp only [World.size_alloc]; omega) | (with_reducible refine Gr.size ?_; (repeat (first | with_reducible exact Gr.refl _ | with_reducible assumption | with_reducible refine Gr.alloc ?_ _ | with_reducible refine Gr.drewN ?_ _ | with_reducible refine Gr.drew ?_ | with_reducible refine Gr.trans ?_ (by with_reducible assumption))); done)) _ | with_reducible refine Gr.trans ?_ (by with_reducible assumption)))
      go_wp2_with fail
      refine (HD1.out _ gw1).mono ?_
      rintro e w2 ⟨rfl, g2⟩
      obtain ⟨X2, Y2, c2, f2⟩ := g2.use
      have z2 := g2.size
      have l2 : w.heap.size < w2.heap.size := by omega
      have gw2 : Gr w w2 := gw1.trans g2
      have NEQ := fun w => eqRat1 0 0 w
      have GP := gRat
      go_wp2_with (first | (go_at_call 39; refine (known3_any _).mono ?_; rintro e w1 ⟨rfl, g1⟩; obtain ⟨X1, Y1, c1, f1⟩ := g1.use; have z1 := g1.size; (try simp only [World.size_alloc, World.size_setCell, World.heap_drewN, Nat.add_one_le_iff] at z1); (try have l0 : w.heap.size < w1.heap.size := by omega); (try have l1 : w.heap.size + 1 < w1.heap.size := by omega); (try have l2 : w.heap.size + 1 + 1 < w1.heap.size := by omega)))
      go_ret
      exact ⟨rfl, (by repeat (first | with_reducible exact Gr.refl _ | with_reducible assumption | with_reducible refine Gr.alloc ?_ _ | with_reducible refine Gr.drewN ?_ _ | with_reducible refine Gr.drew ?_ | with_reducible refine Gr.setCell ?_ (by first | (dsimp only; omega) | (simp only [World.size_alloc]; omega) | (with_reducible refine Gr.size ?_; (repeat (first | with_reducible exact Gr.refl _ | with_reducible assumption | with_reducible refine Gr.alloc ?_ _ | with_reducible refine Gr.drewN ?_ _ | with_reducible refine Gr.drew ?_ | with_reducible refine Gr.trans ?_ (by with_reducible assumption))); done)) _ | with_reducible refine Gr.trans ?_ (by with_reducible assumption)))⟩
end Go.Proofs.Ytpmomgfepkegnaa
