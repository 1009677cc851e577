/-
  Changes in order, in the reference.
-/
import Derived.Test.YtjdiepnbchcnoaaSb13
set_option linter.unusedVariables false
set_option linter.unusedSimpArgs false
namespace Go.Proofs.Ytjdiepnbchcnoaa
set_option linter.unusedVariables false
set_option linter.unusedSimpArgs false
open Go Go.ChangeShapes Go.WideShapes Go.ChangeAt Go.RowKit Go.Deep

theorem below_step {l : List Chg} {r : Nat} {x d : Chg} (H : ∀ jj d, jj < r → l[jj]? = some d → bdP d x = false) (hd : l[r]? = some d) (h : bdP d x = false) : ∀ jj d, jj < r + 1 → l[jj]? = some d → bdP d x = false := by
  intro jj e hj he
  rcases Nat.lt_or_ge jj r with h1 | h1
  · exact H jj e h1 he
  · obtain rfl : jj = r := by omega
    rw [hd] at he
    obtain rfl := Option.some.inj he
    exact h
set_option maxRecDepth 100000 in
set_option maxHeartbeats 4000000 in
theorem ordered_any (A B : Option Addr) (c c2 : Nat) (ns : List Nd) (l : List Chg) (s : Int) (w : World) (hl : SlC w A c l) (hn : ns.length ≤ 1000) (hs : 1 ≤ s ∧ s ≤ 3) :
    Calls Try.prog 28 #[.slice B ns.length c2, iv s, .slice A l.length c] w fun e w' => e = .returned (.bool (orB ns.length s l)) ∧ Gr w w' := by
  have n1 := hl.cap
  have n2 := hl.capB
  have HL := hide hl
  have W1 : IntKind.i64.wrap ((ns.length : Int) - 1) = (ns.length : Int) - 1 := IntWalk.i64_in _ (by omega)
  have W2 : IntKind.i64.wrap (s - 1) = s - 1 := IntWalk.i64_in _ (by omega)
  clear hl
  generalize ns.length = n at *
  go_enter Try.func28, Try.ntmps28
  go_wp2
  go_loopw [7] (fun i wr => ∃ k : Nat, k ≤ l.length ∧ i = iv k ∧ Gr w wr ∧ Hid (Ord n s l k)) (fun i _ => l.length - (intOf i).toNat)
  case atStart => exact ⟨0, by omega, rfl, Gr.refl _, hide (fun i x hi => absurd hi (Nat.not_lt_zero i))⟩
  case round =>
    obtain ⟨k, hk, rfl, g, HS⟩ := hrel
    by_cases hkl : k < l.length
    · obtain ⟨x, hx⟩ : ∃ z, l[k]? = some z := ⟨_, List.getElem?_eq_getElem hkl⟩
      obtain ⟨b, o, rfl, x0, x1, x2⟩ := (HL.out.gr g).at_ hx
      have hb : b < wr.heap.size := cell_lt (by rw [x0]; rfl)
      have HX := hide hx
      have hk0 : (0 : Int) ≤ (k : Int) := by omega
      have hk1 : (k : Int) < (l.length : Int) := by omega
      clear hx
      cases e1 : wiB x.st 0 ((n : Int) - 1) with
      | false =>
        have HE := hide (orB_stop (n := n) (s := s) HX.out (okC_1 e1))
        go_wp2_with (first | (go_at_call 38; refine (rwithin_any _ _ _ _).mono ?_; rintro e w1 ⟨rfl, rfl⟩))
        go_ret
        exact ⟨ret_bool HE.out.symm, (by repeat (first | with_reducible exact Gr.refl _ | with_reducible assumption | with_reducible refine Gr.alloc ?_ _ | with_reducible refine Gr.drewN ?_ _ | with_reducible refine Gr.drew ?_ | with_reducible refine Gr.setCell ?_ (by first | (dsimp only; omega) | (simp only [World.size_alloc]; omega) | (with_reducible refine Gr.size ?_; (repeat (first | with_reducible exact Gr.refl _ | with_reducible assumption | with_reducible refine Gr.alloc ?_ _ | with_reducible refine Gr.drewN ?_ _ | with_reducible refine Gr.drew ?_ | with_reducible refine Gr.trans ?_ (by with_reducible assumption))); done)) _ | with_reducible refine Gr.trans ?_ (by with_reducible assumption)))⟩
      | true =>
        cases e2 : wiB x.sn 0 (s - 1) with
        | false =>
          have HE := hide (orB_stop (n := n) (s := s) HX.out (okC_2 e2))
          go_wp2_with (first | (go_at_call 38; refine (rwithin_any _ _ _ _).mono ?_; rintro e w1 ⟨rfl, rfl⟩))
          go_ret
          exact ⟨ret_bool HE.out.symm, (by repeat (first | with_reducible exact Gr.refl _ | with_reducible assumption | with_reducible refine Gr.alloc ?_ _ | with_reducible refine Gr.drewN ?_ _ | with_reducible refine Gr.drew ?_ | with_reducible refine Gr.setCell ?_ (by first | (dsimp only; omega) | (simp only [World.size_alloc]; omega) | (with_reducible refine Gr.size ?_; (repeat (first | with_reducible exact Gr.refl _ | with_reducible assumption | with_reducible refine Gr.alloc ?_ _ | with_reducible refine Gr.drewN ?_ _ | with_reducible refine Gr.drew ?_ | with_reducible refine Gr.trans ?_ (by with_reducible assumption))); done)) _ | with_reducible refine Gr.trans ?_ (by with_reducible assumption)))⟩
        | true =>
          cases e3 : wiB x.pr 0 8 with
          | false =>
            have HE := hide (orB_stop (n := n) (s := s) HX.out (okC_3 e3))
            go_wp2_with (first | (go_at_call 38; refine (rwithin_any _ _ _ _).mono ?_; rintro e w1 ⟨rfl, rfl⟩))
            go_ret
            exact ⟨ret_bool HE.out.symm, (by repeat (first | with_reducible exact Gr.refl _ | with_reducible assumption | with_reducible refine Gr.alloc ?_ _ | with_reducible refine Gr.drewN ?_ _ | with_reducible refine Gr.drew ?_ | with_reducible refine Gr.setCell ?_ (by first | (dsimp only; omega) | (simp only [World.size_alloc]; omega) | (with_reducible refine Gr.size ?_; (repeat (first | with_reducible exact Gr.refl _ | with_reducible assumption | with_reducible refine Gr.alloc ?_ _ | with_reducible refine Gr.drewN ?_ _ | with_reducible refine Gr.drew ?_ | with_reducible refine Gr.trans ?_ (by with_reducible assumption))); done)) _ | with_reducible refine Gr.trans ?_ (by with_reducible assumption)))⟩
          | true =>
            have HO := hide (okC_y e1 e2 e3)
            go_upto_region 7 with (first | (go_at_call 38; refine (rwithin_any _ _ _ _).mono ?_; rintro e w1 ⟨rfl, rfl⟩))
            obtain ⟨wo, hwo⟩ : ∃ wo, wr.alloc (.cells #[iv x.st, iv x.sn, iv x.pr] 57) = wo := ⟨_, rfl⟩
            have HBX := hide (fun (w' : World) (g' : Gr wo w') => show (w'.cell? ⟨wr.heap.size, 0, none⟩ = some (iv x.st) ∧ w'.cell? ⟨wr.heap.size, 1, none⟩ = some (iv x.sn)) from
              ⟨(g'.cell _ _ (by rw [← hwo]; simp)).trans (by rw [← hwo]; simp [go_sem]), (g'.cell _ _ (by rw [← hwo]; simp)).trans (by rw [← hwo]; simp [go_sem])⟩)
            have gwo : Gr wr wo := by rw [← hwo]; exact (by repeat (first | with_reducible exact Gr.refl _ | with_reducible assumption | with_reducible refine Gr.alloc ?_ _ | with_reducible refine Gr.drewN ?_ _ | with_reducible refine Gr.drew ?_ | with_reducible refine Gr.setCell ?_ (by first | (dsimp only; omega) | (simp only [World.size_alloc]; omega) | (with_reducible refine Gr.size ?_; (repeat (first | with_reducible exact Gr.refl _ | with_reducible assumption | with_reducible refine Gr.alloc ?_ _ | with_reducible refine Gr.drewN ?_ _ | with_reducible refine Gr.drew ?_ | with_reducible refine Gr.trans ?_ (by with_reducible assumption))); done)) _ | with_reducible refine Gr.trans ?_ (by with_reducible assumption)))
            have hbx : wr.heap.size < wo.heap.size := by rw [← hwo]; simp
            simp only [hwo]
            obtain ⟨BX, hBX⟩ : ∃ BX, wr.heap.size = BX := ⟨_, rfl⟩
            simp only [hBX] at HBX hbx ⊢
            obtain ⟨w0, rfl⟩ : ∃ w0, w0 = wr := ⟨_, rfl⟩
            clear hwo hBX
            go_wp2
            go_loopw [9] (fun u wr => ∃ q : Nat, q ≤ k ∧ u = iv q ∧ Gr wo wr ∧ Hid (∀ jj d, jj < q → l[jj]? = some d → bdP d x = false)) (fun u _ => k - (intOf u).toNat)
            case atStart => exact ⟨0, by omega, rfl, Gr.refl _, hide (fun j d h1 => absurd h1 (Nat.not_lt_zero j))⟩
            case round =>
              obtain ⟨q, hq, rfl, g', HQ⟩ := hrel
              obtain ⟨y0, y1⟩ := HBX.out wr g'
              have gz : Gr w wr := g.trans (gwo.trans g')
              by_cases hqk : q < k
              · obtain ⟨d, hd⟩ : ∃ d, l[q]? = some d := ⟨_, List.getElem?_eq_getElem (by omega)⟩
                obtain ⟨b', o', hA', z0, z1, z2⟩ := (HL.out.gr gz).at_ hd
                obtain ⟨rfl, rfl⟩ : b = b' ∧ o = o' := by simpa using hA'
                have HD := hide hd
                have r0 : (0 : Int) ≤ (q : Int) := by omega
                have r1 : (q : Int) < (l.length : Int) := by omega
                have hbr : b < wr.heap.size := cell_lt (by rw [z0]; rfl)
                have hbxr : BX < wr.heap.size := cell_lt (by rw [y0]; rfl)
                clear hA' hd
                by_cases h0 : x.st < d.st
                · have HE := hide (orB_pair (n := n) (s := s) HX.out HD.out (by omega) (bdP_yes.2 (.inl h0)))
                  have h0' : decide (x.st < d.st) = true := by simpa using h0
                  clear h0
                  go_upto_region 10 with fail
                  have GC := @GrW.cell
                  refine wp_region_grw _ (by kernel_rfl) (by kernel_rfl) (Gr.refl _) ?_
                  repeat (go_big_quiet_step ((first | fail)))
                  refine wpQuiet_nil ?_
                  intro wq hwq
                  obtain ⟨gq, hwq'⟩ := hwq
                  subst hwq'
                  clear GC
                  have gq1 := gq.gr
                  generalize gq.w = wq at gq1 ⊢
                  obtain ⟨Xq, Yq, cq, fq⟩ := gq1.use
                  have sq := gq1.size
                  (try simp only [World.size_alloc, World.size_setCell, World.heap_drewN] at sq)
                  go_wp2
                  go_ret
                  exact ⟨ret_bool HE.out.symm, (by repeat (first | with_reducible exact Gr.refl _ | with_reducible assumption | with_reducible refine Gr.alloc ?_ _ | with_reducible refine Gr.drewN ?_ _ | with_reducible refine Gr.drew ?_ | with_reducible refine Gr.setCell ?_ (by first | (dsimp only; omega) | (simp only [World.size_alloc]; omega) | (with_reducible refine Gr.size ?_; (repeat (first | with_reducible exact Gr.refl _ | with_reducible assumption | with_reducible refine Gr.alloc ?_ _ | with_reducible refine Gr.drewN ?_ _ | with_reducible refine Gr.drew ?_ | with_reducible refine Gr.trans ?_ (by with_reducible assumption))); done)) _ | with_reducible refine Gr.trans ?_ (by with_reducible assumption)))⟩
                · have h0' : decide (x.st < d.st) = false := by simpa using h0
                  by_cases h1 : d.st = x.st
                  · have h1' : (d.st == x.st) = true := by rw [beq_iff_eq]; exact h1
                    by_cases h2 : d.sn = x.sn
                    · have HE := hide (orB_pair (n := n) (s := s) HX.out HD.out (by omega) (bdP_yes.2 (.inr ⟨h1, h2⟩)))
                      have h2' : (d.sn == x.sn) = true := by rw [beq_iff_eq]; exact h2
                      clear h0 h1 h2
                      go_upto_region 10 with fail
                      have GC := @GrW.cell
                      refine wp_region_grw _ (by kernel_rfl) (by kernel_rfl) (Gr.refl _) ?_
                      repeat (go_big_quiet_step ((first | fail)))
                      refine wpQuiet_nil ?_
                      intro wq hwq
                      obtain ⟨gq, hwq'⟩ := hwq
                      subst hwq'
                      clear GC
                      have gq1 := gq.gr
                      generalize gq.w = wq at gq1 ⊢
                      obtain ⟨Xq, Yq, cq, fq⟩ := gq1.use
                      have sq := gq1.size
                      (try simp only [World.size_alloc, World.size_setCell, World.heap_drewN] at sq)
                      go_wp2
                      go_ret
                      exact ⟨ret_bool HE.out.symm, (by repeat (first | with_reducible exact Gr.refl _ | with_reducible assumption | with_reducible refine Gr.alloc ?_ _ | with_reducible refine Gr.drewN ?_ _ | with_reducible refine Gr.drew ?_ | with_reducible refine Gr.setCell ?_ (by first | (dsimp only; omega) | (simp only [World.size_alloc]; omega) | (with_reducible refine Gr.size ?_; (repeat (first | with_reducible exact Gr.refl _ | with_reducible assumption | with_reducible refine Gr.alloc ?_ _ | with_reducible refine Gr.drewN ?_ _ | with_reducible refine Gr.drew ?_ | with_reducible refine Gr.trans ?_ (by with_reducible assumption))); done)) _ | with_reducible refine Gr.trans ?_ (by with_reducible assumption)))⟩
                    · have HE := hide (below_step HQ.out HD.out (bdP_no.2 ⟨by omega, fun h => h2 h.2⟩))
                      have h2' : (d.sn == x.sn) = false := by rw [beq_eq_false_iff_ne]; exact h2
                      clear h0 h1 h2
                      go_upto_region 10 with fail
                      have GC := @GrW.cell
                      refine wp_region_grw _ (by kernel_rfl) (by kernel_rfl) (Gr.refl _) ?_
                      repeat (go_big_quiet_step ((first | fail)))
                      refine wpQuiet_nil ?_
                      intro wq hwq
                      obtain ⟨gq, hwq'⟩ := hwq
                      subst hwq'
                      clear GC
                      have gq1 := gq.gr
                      generalize gq.w = wq at gq1 ⊢
                      obtain ⟨Xq, Yq, cq, fq⟩ := gq1.use
                      have sq := gq1.size
                      (try simp only [World.size_alloc, World.size_setCell, World.heap_drewN] at sq)
                      go_wp2
                      go_roundw
                      case rel => exact ⟨q + 1, by omega, by go_num, (by repeat (first | with_reducible exact Gr.refl _ | with_reducible assumption | with_reducible refine Gr.alloc ?_ _ | with_reducible refine Gr.drewN ?_ _ | with_reducible refine Gr.drew ?_ | with_reducible refine Gr.setCell ?_ (by first | (dsimp only; omega) | (simp only [World.size_alloc]; omega) | (with_reducible refine Gr.size ?_; (repeat (first | with_reducible exact Gr.refl _ | with_reducible assumption | with_reducible refine Gr.alloc ?_ _ | with_reducible refine Gr.drewN ?_ _ | with_reducible refine Gr.drew ?_ | with_reducible refine Gr.trans ?_ (by with_reducible assumption))); done)) _ | with_reducible refine Gr.trans ?_ (by with_reducible assumption))), HE⟩
                      case measure => simp only [intOf]; omega
                  · have h1' : (d.st == x.st) = false := by rw [beq_eq_false_iff_ne]; exact h1
                    have HE := hide (below_step HQ.out HD.out (bdP_no.2 ⟨by omega, fun h => h1 h.1⟩))
                    clear h0 h1
                    go_upto_region 10 with fail
                    have GC := @GrW.cell
                    refine wp_region_grw _ (by kernel_rfl) (by kernel_rfl) (Gr.refl _) ?_
                    repeat (go_big_quiet_step ((first | fail)))
                    refine wpQuiet_nil ?_
                    intro wq hwq
                    obtain ⟨gq, hwq'⟩ := hwq
                    subst hwq'
                    clear GC
                    have gq1 := gq.gr
                    generalize gq.w = wq at gq1 ⊢
                    obtain ⟨Xq, Yq, cq, fq⟩ := gq1.use
                    have sq := gq1.size
                    (try simp only [World.size_alloc, World.size_setCell, World.heap_drewN] at sq)
                    go_wp2
                    go_roundw
                    case rel => exact ⟨q + 1, by omega, by go_num, (by repeat (first | with_reducible exact Gr.refl _ | with_reducible assumption | with_reducible refine Gr.alloc ?_ _ | with_reducible refine Gr.drewN ?_ _ | with_reducible refine Gr.drew ?_ | with_reducible refine Gr.setCell ?_ (by first | (dsimp only; omega) | (simp only [World.size_alloc]; omega) | (with_reducible refine Gr.size ?_; (repeat (first | with_reducible exact Gr.refl _ | with_reducible assumption | with_reducible refine Gr.alloc ?_ _ | with_reducible refine Gr.drewN ?_ _ | with_reducible refine Gr.drew ?_ | with_reducible refine Gr.trans ?_ (by with_reducible assumption))); done)) _ | with_reducible refine Gr.trans ?_ (by with_reducible assumption))), HE⟩
                    case measure => simp only [intOf]; omega
              · have HE := hide (ord_step HS.out HX.out HO.out (fun jj d hj => HQ.out jj d (by omega)))
                go_wp2
                go_roundw
                case rel => exact ⟨k + 1, by omega, by go_num, (by repeat (first | with_reducible exact Gr.refl _ | with_reducible assumption | with_reducible refine Gr.alloc ?_ _ | with_reducible refine Gr.drewN ?_ _ | with_reducible refine Gr.drew ?_ | with_reducible refine Gr.setCell ?_ (by first | (dsimp only; omega) | (simp only [World.size_alloc]; omega) | (with_reducible refine Gr.size ?_; (repeat (first | with_reducible exact Gr.refl _ | with_reducible assumption | with_reducible refine Gr.alloc ?_ _ | with_reducible refine Gr.drewN ?_ _ | with_reducible refine Gr.drew ?_ | with_reducible refine Gr.trans ?_ (by with_reducible assumption))); done)) _ | with_reducible refine Gr.trans ?_ (by with_reducible assumption))), HE⟩
                case measure => simp only [intOf]; omega
    · obtain rfl : k = l.length := by omega
      have HE := hide (orB_iff.2 HS.out)
      go_wp2
      go_ret
      exact ⟨ret_bool HE.out.symm, (by repeat (first | with_reducible exact Gr.refl _ | with_reducible assumption | with_reducible refine Gr.alloc ?_ _ | with_reducible refine Gr.drewN ?_ _ | with_reducible refine Gr.drew ?_ | with_reducible refine Gr.setCell ?_ (by first | (dsimp only; omega) | (simp only [World.size_alloc]; omega) | (with_reducible refine Gr.size ?_; (repeat (first | with_reducible exact Gr.refl _ | with_reducible assumption | with_reducible refine Gr.alloc ?_ _ | with_reducible refine Gr.drewN ?_ _ | with_reducible refine Gr.drew ?_ | with_reducible refine Gr.trans ?_ (by with_reducible assumption))); done)) _ | with_reducible refine Gr.trans ?_ (by with_reducible assumption)))⟩
end Go.Proofs.Ytjdiepnbchcnoaa
