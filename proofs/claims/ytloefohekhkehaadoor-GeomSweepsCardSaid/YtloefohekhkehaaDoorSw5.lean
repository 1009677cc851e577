/-
  GeomSweeps: the walk.
-/
import Derived.Test.YtloefohekhkehaaDoorSw4
set_option linter.unusedVariables false
set_option linter.unusedSimpArgs false
namespace Go.Proofs.YtloefohekhkehaaDoor
set_option linter.unusedVariables false
set_option linter.unusedSimpArgs false
open Go Go.ChangeShapes Go.WideShapes Go.ChangeAt Go.RowKit Go.Deep

theorem swOk_len {xs : List Spt} {f t : Int} {ps qs : List PL} (h : SwOk xs f t ps) (k : SwOk xs f t qs) : ps.length = qs.length := by
  rcases h with ⟨h, rfl⟩ | ⟨h, h1, _⟩ <;> rcases k with ⟨k, rfl⟩ | ⟨k, k1, _⟩
  · rfl
  · exact absurd k h
  · exact absurd h k
  · omega
theorem swE_lim {xs : List Spt} {f t : Int} (h : swE xs f t = 0) : 0 ≤ f ∧ f ≤ t ∧ t ≤ 6 ∧ 1 ≤ xs.length ∧ xs.length ≤ 12 ∧ sinL xs = true := by
  unfold swE at h
  split at h
  · cases h
  · rename_i h1
    split at h
    · rename_i h2
      unfold swBad at h1
      simp only [Bool.or_eq_true, decide_eq_true_eq, not_or] at h1
      exact ⟨by omega, by omega, by omega, by omega, by omega, h2⟩
    · cases h
theorem swOk_le {xs : List Spt} {f t : Int} {ps : List PL} (h : SwOk xs f t ps) : ps.length ≤ 6 := by
  rcases h with ⟨h, rfl⟩ | ⟨h, h1, _⟩
  · simp
  · obtain ⟨a, b, c, _⟩ := swE_lim h
    rw [h1]
    unfold swN
    split <;> omega
theorem swOk_at {xs : List Spt} {f t : Int} {ps qs : List PL} (h : SwOk xs f t ps) (k : SwOk xs f t qs) {i : Nat} {l m : PL} (hl : ps[i]? = some l) (hm : qs[i]? = some m) : l.2.1 = m.2.1 := by
  rcases h with ⟨h, rfl⟩ | ⟨h, h1, h2⟩
  · simp at hl
  · rcases k with ⟨k, rfl⟩ | ⟨k, k1, k2⟩
    · simp at hm
    · obtain ⟨a, s, e1, r1⟩ := h2 i l hl
      obtain ⟨b, u, e2, r2⟩ := k2 i m hm
      obtain ⟨rfl, rfl⟩ := run_same r1 r2
      rw [e1, e2]
set_option maxHeartbeats 4000000 in
set_option maxRecDepth 100000 in
theorem sweeps_walk (A : Option Addr) (c : Nat) (xs : List Spt) (f t : Int) (w : World) (ht : Tab w) (hx : RdS w A xs) :
    Calls Tryd.prog 3 #[.slice A xs.length c, iv f, iv t] w fun e w' => e = .returned (.bool true) ∧ Gr w w' := by
  have HT := hide ht
  have HX := hide hx
  clear ht hx
  by_cases hlo : 40 < xs.length
  · have hdl : (40 : Int) < (xs.length : Int) := by omega
    go_enter Tryd.func3, Tryd.ntmps3
    go_wp2_with (first | (go_at_call 5; refine (known_any _ (HT.out.gr (by repeat (first | with_reducible exact Gr.refl _ | with_reducible assumption | with_reducible refine Gr.alloc ?_ _ | with_reducible refine Gr.drewN ?_ _ | with_reducible refine Gr.drew ?_ | with_reducible refine Gr.setCell ?_ (by first | (dsimp only; omega) | (simp only [World.size_alloc]; omega) | (with_reducible refine Gr.size ?_; (repeat (first | with_reducible exact Gr.refl _ | with_reducible assumption | with_reducible refine Gr.alloc ?_ _ | with_reducible refine Gr.drewN ?_ _ | with_reducible refine Gr.drew ?_ | with_reducible refine Gr.trans ?_ (by with_reducible assumption))); done)) _ | with_reducible refine Gr.trans ?_ (by with_reducible assumption))))).mono ?_; rintro e w1 ⟨rfl, g1⟩; obtain ⟨X1, Y1, c1, f1⟩ := g1.use; have z1 := g1.size; (try simp only [World.size_alloc, World.size_setCell, World.heap_drewN, Nat.add_one_le_iff] at z1); (try have l0 : w.heap.size < w1.heap.size := by omega); (try have l1 : w.heap.size + 1 < w1.heap.size := by omega); (try have l2 : w.heap.size + 1 + 1 < w1.heap.size := by omega)))
    go_ret
    exact ⟨rfl, (by repeat (first | with_reducible exact Gr.refl _ | with_reducible assumption | with_reducible refine Gr.alloc ?_ _ | with_reducible refine Gr.drewN ?_ _ | with_reducible refine Gr.drew ?_ | with_reducible refine Gr.setCell ?_ (by first | (dsimp only; omega) | (simp only [World.size_alloc]; omega) | (with_reducible refine Gr.size ?_; (repeat (first | with_reducible exact Gr.refl _ | with_reducible assumption | with_reducible refine Gr.alloc ?_ _ | with_reducible refine Gr.drewN ?_ _ | with_reducible refine Gr.drew ?_ | with_reducible refine Gr.trans ?_ (by with_reducible assumption))); done)) _ | with_reducible refine Gr.trans ?_ (by with_reducible assumption)))⟩
  · have hdl : ¬ (40 : Int) < (xs.length : Int) := by omega
    have lx : xs.length ≤ 1000000 := by omega
    have HA := hide (fun (w' : World) (g : Gr w w') => Sweep_any A c xs f t w' (HX.out.gr g) lx (HT.out.gr g))
    have HB := hide (fun (w' : World) (g : Gr w w') => rSweep_any A c xs f t w' (HX.out.gr g) lx)
    have hee : (swE xs f t != swE xs f t) = false := by simp
    go_enter Tryd.func3, Tryd.ntmps3
    go_wp2_with fail
    refine (HA.out _ (Gr.refl _)).mono ?_
    rintro e w1 ⟨A1, d1, ps, rfl, r1, g1, o1⟩
    have HR1 := hide r1
    have HO1 := hide o1
    have hp6 := swOk_le o1
    clear r1 o1
    go_wp2_with fail
    refine (HB.out _ g1).mono ?_
    rintro e w2 ⟨A2, d2, qs, rfl, r2, g2, o2⟩
    have HR2 := hide r2
    have HLQ := hide (swOk_len HO1.out o2)
    have HAT := hide (fun (i : Nat) (l m : PL) (hl : ps[i]? = some l) (hm : qs[i]? = some m) => swOk_at HO1.out o2 hl hm)
    have gw2 : Gr w w2 := g1.trans g2
    have hll : ((ps.length : Int) != (qs.length : Int)) = false := by rw [HLQ.out]; simp
    rw [← HLQ.out] at hll
    rw [← HLQ.out]
    generalize swE xs f t = E at *
    clear r2 o2
    go_wp2
    go_loopw [11] (fun i wr => ∃ k : Nat, k ≤ ps.length ∧ i = iv k ∧ Gr w2 wr) (fun i _ => ps.length - (intOf i).toNat)
    case atStart => exact ⟨0, by omega, rfl, Gr.refl _⟩
    case round =>
      obtain ⟨k, hk, rfl, g⟩ := hrel
      by_cases hkl : k < ps.length
      · obtain ⟨l, hl⟩ : ∃ l, ps[k]? = some l := ⟨_, List.getElem?_eq_getElem hkl⟩
        obtain ⟨m, hm⟩ : ∃ m, qs[k]? = some m := ⟨_, List.getElem?_eq_getElem (by rw [← HLQ.out]; exact hkl)⟩
        have he := HAT.out k l m hl hm
        obtain ⟨⟨b, o, rfl, x0⟩, xr, xl⟩ := (HR1.out.gr (g2.trans g)) k l hl
        obtain ⟨⟨b', o', rfl, y0⟩, yr, yl⟩ := (HR2.out.gr g) k m hm
        have HSP := hide (fun (w' : World) (g' : Gr wr w') => samePoints_any l.1 m.1 l.2.2 m.2.2 l.2.1 m.2.1 w' (xr.gr g') (yr.gr g') xl)
        rw [show sameB l.2.1 m.2.1 = true by rw [he]; simp [sameB]] at HSP
        have hk0 : (0 : Int) ≤ (k : Int) := by omega
        have hk1 : (k : Int) < (ps.length : Int) := by omega
        clear he hl hm xr yr
        go_upto_region 10 with fail
        have GC := @GrW.cell
        refine wp_region_grw _ (by kernel_rfl) (by kernel_rfl) (Gr.refl _) ?_
        repeat (go_big_quiet_step ((first | (go_at_call 8; exact quiet_grw (HSP.out _ (GrW.gr _))))))
        refine wpQuiet_nil ?_
        intro wq hwq
        obtain ⟨gq, hwq'⟩ := hwq
        subst hwq'
        clear GC
        have gq1 := gq.gr
        generalize gq.w = wq at gq1 ⊢
        obtain ⟨Xq, Yq, cq, fq⟩ := gq1.use
        have sq := gq1.size
        (try simp only [World.size_alloc, World.size_setCell, World.heap_drewN] at sq)
        go_wp2
        go_roundw
        case rel => exact ⟨k + 1, by omega, by go_num, (by repeat (first | with_reducible exact Gr.refl _ | with_reducible assumption | with_reducible refine Gr.alloc ?_ _ | with_reducible refine Gr.drewN ?_ _ | with_reducible refine Gr.drew ?_ | with_reducible refine Gr.setCell ?_ (by first | (dsimp only; omega) | (simp only [World.size_alloc]; omega) | (with_reducible refine Gr.size ?_; (repeat (first | with_reducible exact Gr.refl _ | with_reducible assumption | with_reducible refine Gr.alloc ?_ _ | with_reducible refine Gr.drewN ?_ _ | with_reducible refine Gr.drew ?_ | with_reducible refine Gr.trans ?_ (by with_reducible assumption))); done)) _ | with_reducible refine Gr.trans ?_ (by with_reducible assumption)))⟩
        case measure => simp only [intOf]; omega
      · obtain rfl : k = ps.length := by omega
        have gw3 : Gr w wr := gw2.trans g
        clear g1 g2 g gw2
        go_wp2_with (first | (go_at_call 5; refine (known_any _ (HT.out.gr (by repeat (first | with_reducible exact Gr.refl _ | with_reducible assumption | with_reducible refine Gr.alloc ?_ _ | with_reducible refine Gr.drewN ?_ _ | with_reducible refine Gr.drew ?_ | with_reducible refine Gr.setCell ?_ (by first | (dsimp only; omega) | (simp only [World.size_alloc]; omega) | (with_reducible refine Gr.size ?_; (repeat (first | with_reducible exact Gr.refl _ | with_reducible assumption | with_reducible refine Gr.alloc ?_ _ | with_reducible refine Gr.drewN ?_ _ | with_reducible refine Gr.drew ?_ | with_reducible refine Gr.trans ?_ (by with_reducible assumption))); done)) _ | with_reducible refine Gr.trans ?_ (by with_reducible assumption))))).mono ?_; rintro e w1 ⟨rfl, g1⟩; obtain ⟨X1, Y1, c1, f1⟩ := g1.use; have z1 := g1.size; (try simp only [World.size_alloc, World.size_setCell, World.heap_drewN, Nat.add_one_le_iff] at z1); (try have l0 : w.heap.size < w1.heap.size := by omega); (try have l1 : w.heap.size + 1 < w1.heap.size := by omega); (try have l2 : w.heap.size + 1 + 1 < w1.heap.size := by omega)))
        go_ret
        exact ⟨rfl, (by repeat (first | with_reducible exact Gr.refl _ | with_reducible assumption | with_reducible refine Gr.alloc ?_ _ | with_reducible refine Gr.drewN ?_ _ | with_reducible refine Gr.drew ?_ | with_reducible refine Gr.setCell ?_ (by first | (dsimp only; omega) | (simp only [World.size_alloc]; omega) | (with_reducible refine Gr.size ?_; (repeat (first | with_reducible exact Gr.refl _ | with_reducible assumption | with_reducible refine Gr.alloc ?_ _ | with_reducible refine Gr.drewN ?_ _ | with_reducible refine Gr.drew ?_ | with_reducible refine Gr.trans ?_ (by with_reducible assumption))); done)) _ | with_reducible refine Gr.trans ?_ (by with_reducible assumption)))⟩
end Go.Proofs.YtloefohekhkehaaDoor
