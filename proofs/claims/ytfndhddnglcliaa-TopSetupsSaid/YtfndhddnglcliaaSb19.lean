/-
  Check of the code: its steps, left by a label.
-/
import Derived.Test.YtfndhddnglcliaaSb18
set_option linter.unusedVariables false
set_option linter.unusedSimpArgs false
namespace Go.Proofs.Ytfndhddnglcliaa
set_option linter.unusedVariables false
set_option linter.unusedSimpArgs false
open Go Go.ChangeShapes Go.WideShapes Go.ChangeAt Go.RowKit Go.Deep

/-- the rest of a list of changes, as the code holds it: k are cut off -/
def RestP (P : Option Addr) (b o k n : Nat) : Prop := k < n → P = some ⟨b, o + k * 3, none⟩
theorem rest_step (b o k n : Nat) : RestP (some ⟨b, o + k * 3 + 3, none⟩) b o (k + 1) n := fun _ => by rw [show o + k * 3 + 3 = o + (k + 1) * 3 by omega]
theorem rest_end {P : Option Addr} {b o k n : Nat} (h : n ≤ k) : RestP P b o k n := fun q => absurd q (by omega)
theorem stOk_no {x : Nd} {ms : List Int} (h : ∀ i p, i < ms.length → ms[i]? = some p → ¬ p ∈ x.l) : stOk x ms = false := by
  unfold stOk
  exact any_no fun i p hi hp => decide_eq_false (h i p hi hp)
theorem stOk_yes {x : Nd} {ms : List Int} {i : Nat} {p : Int} (h : ms[i]? = some p) (k : p ∈ x.l) : stOk x ms = true := by
  unfold stOk
  exact any_yes h (decide_eq_true k)
set_option maxRecDepth 100000 in
set_option maxHeartbeats 4000000 in
theorem Check_any (A B : Option Addr) (c d : Nat) (ns : List Nd) (s : Int) (l : List Chg) (w : World) (hl : SlN w A c ns) (hp : SlC w B d l) :
    Calls Try.prog 9 #[.slice A ns.length c, iv s, .slice B l.length d] w fun e w' => e = .returned (iv (ckE ns s l)) ∧ Gr w w' := by
  have HV := hide (scheck_any A c ns s w hl)
  have n1 := hp.cap
  have n2 := hp.capB
  have n3 := hl.cap
  have n4 := hl.capB
  have HP := hide hp
  have HL := hide hl
  by_cases h0 : chE ns s = 0
  · obtain ⟨h2, h3⟩ := chE_ok h0
    obtain ⟨b4, b5⟩ := wiB_iff.1 h3
    have hlen := (vaE_ok h2).1
    have HIO := hide (inOrder_any B d l ns.length s w hp (by omega) ⟨b4, b5⟩)
    cases ho : orB ns.length s l with
    | false =>
      have HE := hide (ckE_ord h0 ho)
      rw [h0] at HV
      rw [ho] at HIO
      rw [HE.out]
      clear h0 ho hl hp h2 h3
      go_enter Try.func9, Try.ntmps9
      go_wp2
      go_step3
      go_wp2_with (first | (go_at_call 11; refine (HV.out).mono ?_; rintro e w1 ⟨rfl, rfl⟩) | (go_at_call 20; refine (HIO.out).mono ?_; rintro e w1 ⟨rfl, g1⟩; obtain ⟨X1, Y1, c1, f1⟩ := g1.use))
      rw [Exit.noGoto_ret]
      go_ret
      exact ⟨rfl, (by repeat (first | with_reducible exact Gr.refl _ | with_reducible assumption | with_reducible refine Gr.alloc ?_ _ | with_reducible refine Gr.drewN ?_ _ | with_reducible refine Gr.drew ?_ | with_reducible refine Gr.setCell ?_ (by first | (dsimp only; omega) | (simp only [World.size_alloc]; omega) | (with_reducible refine Gr.size ?_; (repeat (first | with_reducible exact Gr.refl _ | with_reducible assumption | with_reducible refine Gr.alloc ?_ _ | with_reducible refine Gr.drewN ?_ _ | with_reducible refine Gr.drew ?_ | with_reducible refine Gr.trans ?_ (by with_reducible assumption))); done)) _ | with_reducible refine Gr.trans ?_ (by with_reducible assumption)))⟩
    | true =>
      have HE := hide (ckE_in h0 ho)
      have HOR := hide (orB_iff.1 ho)
      obtain ⟨q, rfl⟩ : ∃ q : Nat, s = q := ⟨s.toNat, by omega⟩
      have HEM := hide (fun w => empty_any q w (by omega) (by omega))
      obtain ⟨b, o, hB⟩ : ∃ b o, RestP B b o 0 l.length := by
        by_cases h : 0 < l.length
        · obtain ⟨x, hx⟩ : ∃ x, l[0]? = some x := ⟨_, List.getElem?_eq_getElem h⟩
          obtain ⟨b, o, e, _⟩ := hp.at_ hx
          exact ⟨b, o, fun _ => by rw [e]; simp⟩
        · exact ⟨0, 0, fun k => absurd k h⟩
      have HRD := hide (fun (w' : World) (g : Gr w w') (j : Nat) (x : Chg) (hj : l[j]? = some x) => show (b < w'.heap.size ∧ w'.cell? ⟨b, o + j * 3, none⟩ = some (iv x.st) ∧ w'.cell? ⟨b, o + j * 3 + 1, none⟩ = some (iv x.sn) ∧ w'.cell? ⟨b, o + j * 3 + 2, none⟩ = some (iv x.pr)) by
        obtain ⟨b1, o1, e1, y0, y1, y2⟩ := (hp.gr g).at_ hj
        have := hB (by have := (List.getElem?_eq_some_iff.1 hj).1; omega)
        rw [this] at e1
        obtain ⟨rfl, rfl⟩ : b = b1 ∧ o = o1 := by simpa using e1
        exact ⟨cell_lt (by rw [y0]; rfl), y0, y1, y2⟩)
      have HB0 := hide hB
      rw [h0] at HV
      rw [ho] at HIO
      clear h0 ho hl hp h2 h3 HP hB
      go_enter Try.func9, Try.ntmps9
      go_wp2
      go_step3
      go_wp2_with (first | (go_at_call 11; refine (HV.out).mono ?_; rintro e w1 ⟨rfl, rfl⟩) | (go_at_call 20; refine (HIO.out).mono ?_; rintro e w1 ⟨rfl, g1⟩; obtain ⟨X1, Y1, c1, f1⟩ := g1.use))
      refine (HEM.out _).mono ?_
      rintro e w2 ⟨G, rfl, hrow, hwG, g2⟩
      have gw2 : Gr w w2 := (by repeat (first | with_reducible exact Gr.refl _ | with_reducible assumption | with_reducible refine Gr.alloc ?_ _ | with_reducible refine Gr.drewN ?_ _ | with_reducible refine Gr.drew ?_ | with_reducible refine Gr.setCell ?_ (by first | (dsimp only; omega) | (simp only [World.size_alloc]; omega) | (with_reducible refine Gr.size ?_; (repeat (first | with_reducible exact Gr.refl _ | with_reducible assumption | with_reducible refine Gr.alloc ?_ _ | with_reducible refine Gr.drewN ?_ _ | with_reducible refine Gr.drew ?_ | with_reducible refine Gr.trans ?_ (by with_reducible assumption))); done)) _ | with_reducible refine Gr.trans ?_ (by with_reducible assumption)))
      have hGw : w.heap.size ≤ G := by have := g1.size; omega
      have HB := hide (show Blk w2 G (fun i => iv (mu (l.take 0) (i : Int))) q from row_blk hrow)
      clear hrow
      go_wp2
      go_step3
      go_wp2
      go_loopg [2, 29] ns.length (fun g v i wx => ∃ (t k r dd : Nat) (P : Option Addr), t + g = ns.length ∧ i = iv t ∧ v = .slice P r dd ∧ r ≤ dd ∧ dd ≤ 9223372036854775807 ∧ Hid (r + k = l.length ∧ dd + k = d) ∧ Hid (RestP P b o k l.length) ∧ Gr w wx ∧ Hid (Blk wx G (fun i => iv (mu (l.take k) (i : Int))) q) ∧ Hid (Cur l k (t : Int)) ∧ Hid (∀ t', t' < t → ckS ns q l t' = true))
      case atStart => exact ⟨0, 0, l.length, d, B, by omega, rfl, rfl, n1, n2, ⟨rfl, rfl⟩, HB0, gw2, HB, cur_start HOR.out, hide (fun t' h => absurd h (Nat.not_lt_zero t'))⟩
      case round =>
        clear HB
        obtain ⟨t, k, r, dd, P, htg, rfl, rfl, hrd, hdd, HRK, HRP, gx, HB, HCU, HOK⟩ := hrel
        cases gk with
        | zero =>
          obtain rfl : t = ns.length := by omega
          have HF := hide (show ckE ns (q : Int) l = 0 by rw [HE.out]; rw [show ckB ns (q : Int).toNat l = true from ckB_end HOK.out]; rfl)
          go_wp2
          rw [Exit.noGoto_ret]
          go_ret
          exact ⟨ret_iv HF.out.symm, gx⟩
        | succ g =>
          have htn : t < ns.length := by omega
          obtain ⟨x, hx⟩ : ∃ x, ns[t]? = some x := ⟨_, List.getElem?_eq_getElem htn⟩
          obtain ⟨bn, on, rfl, z0, xl⟩ := (HL.out.gr gx).at_ hx
          have HX := hide hx
          have HXL := hide (fun (w' : World) (g : Gr w w') => (HL.out.gr g).el x (List.mem_of_getElem? HX.out))
          have ht0 : (0 : Int) ≤ (t : Int) := by omega
          have ht1 : (t : Int) < (ns.length : Int) := by omega
          have htg' : t + 1 + g = ns.length := by omega
          obtain ⟨wo, rfl⟩ : ∃ wo, wo = wr := ⟨_, rfl⟩
          clear hx xl htg
          go_wp2
          go_loopg [2] r (fun g1 v wx => ∃ (k r dd : Nat) (P : Option Addr), r = g1 ∧ v = .slice P r dd ∧ r ≤ dd ∧ dd ≤ 9223372036854775807 ∧ Hid (r + k = l.length ∧ dd + k = d) ∧ Hid (RestP P b o k l.length) ∧ Gr w wx ∧ Hid (Blk wx G (fun i => iv (mu (l.take k) (i : Int))) q) ∧ Hid (Cur l k (t : Int)))
          case atStart => exact ⟨k, r, dd, P, rfl, rfl, hrd, hdd, HRK, HRP, gx, HB, HCU⟩
          case round =>
            clear HRK HRP HB HCU hrd hdd gx z0
            obtain ⟨k, r, dd, P, hrg, rfl, hrd, hdd, HRK, HRP, gx, HB, HCU⟩ := hrel
            cases gk with
            | zero =>
              have HCT := hide (cur_cut HOR.out HCU.out (fun y hy => absurd (List.getElem?_eq_some_iff.1 hy).1 (by have := HRK.out.1; omega)))
              subst hrg
              have hGs := HB.out.1
              go_wp2
              go_loopg [59] q (fun g2 u wx => ∃ i : Nat, i + g2 = q ∧ u = iv i ∧ wr = wx ∧ Hid (∀ i', i' < i → ¬ mu (l.take k) (i' : Int) ∈ x.l))
              case atStart => exact ⟨0, by omega, rfl, rfl, hide (fun i' h => absurd h (Nat.not_lt_zero i'))⟩
              case round =>
                obtain ⟨i, hig, rfl, rfl, HNI⟩ := hrel
                cases gk with
                | zero =>
                  obtain rfl : i = q := by omega
                  have HF := hide (show ckE ns (i : Int) l = 11 by
                    rw [HE.out]
                    rw [show ckB ns (i : Int).toNat l = false from ckB_stop htn (by
                      rw [ckS_at HX.out]
                      refine stOk_no fun j p hj hp => ?_
                      have hj' : j < i := by simpa [moL_len] using hj
                      have hp' := hp
                      simp only [Int.toNat_natCast] at hp'
                      rw [moL_at hj', mo1_cut HCT.out] at hp'
                      obtain rfl := Option.some.inj hp'
                      exact HNI.out j hj')]
                    rfl)
                  go_wp2
                  rw [Exit.noGoto_ret]
                  go_ret
                  exact ⟨ret_iv HF.out.symm, gx⟩
                | succ g2 =>
                  have hiq : i < q := by omega
                  have v0 := (HB.out.2 i hiq).1
                  dsimp only at v0
                  have i0 : (0 : Int) ≤ (i : Int) := by omega
                  have i1 : (i : Int) < (q : Int) := by omega
                  have HMO := hide (show (moL q l (t : Int))[i]? = some (mu (l.take k) (i : Int)) by rw [moL_at hiq, mo1_cut HCT.out])
                  generalize mu (l.take k) (i : Int) = p at *
                  have HCN := hide (contains_any x.A x.c x.l p _ (HXL.out _ gx))
                  by_cases hp : p ∈ x.l
                  · have HOK1 := hide (below HOK.out (show ckS ns q l t = true by rw [ckS_at HX.out]; exact stOk_yes HMO.out hp))
                    rw [decide_eq_true hp] at HCN
                    clear hp
                    go_wp2_with (first | (go_at_call 22; refine (HCN.out).mono ?_; rintro e w1 ⟨rfl, rfl⟩))
                    go_roundg g
                    case measure => omega
                    case rel => exact ⟨t + 1, k, 0, dd, _, by omega, by go_num, rfl, hrd, hdd, HRK, HRP, gx, HB, cut_next HCT.out, HOK1⟩
                  · have HNI1 := hide (below (P := fun i' => ¬ mu (l.take k) (i' : Int) ∈ x.l) HNI.out (by
                      have := HMO.out
                      rw [moL_at hiq, mo1_cut HCT.out] at this
                      rw [Option.some.inj this]
                      exact hp))
                    rw [decide_eq_false hp] at HCN
                    clear hp
                    go_wp2_with (first | (go_at_call 22; refine (HCN.out).mono ?_; rintro e w1 ⟨rfl, rfl⟩))
                    go_roundg g2
                    case measure => omega
                    case rel => exact ⟨i + 1, by omega, by go_num, rfl, HNI1⟩
            | succ g1 =>
              subst hrg
              have hkl : k < l.length := by have := HRK.out.1; omega
              obtain ⟨y, hy⟩ : ∃ y, l[k]? = some y := ⟨_, List.getElem?_eq_getElem hkl⟩
              obtain ⟨hb, x0, x1, x2⟩ := HRD.out wr gx k y hy
              obtain rfl := HRP.out hkl
              have HY := hide hy
              have hg0 : (0 : Int) < ((g1 : Int) + 1) := by omega
              by_cases hst : y.st = (t : Int)
              · have hst' : (y.st == (t : Int)) = true := by rw [beq_iff_eq]; exact hst
                obtain ⟨o1, o2⟩ := okC_sn (HOR.out k y hkl hy).1
                obtain ⟨j, hj⟩ : ∃ j : Nat, y.sn = j := ⟨y.sn.toNat, by omega⟩
                have hjq : j < q := by omega
                have HB1 := hide (fun (w' : World) (g' : Gr wr w') => mu_set (HB.out.gr g') HY.out hj hjq)
                have HCU1 := hide (cur_step HCU.out HY.out hst)
                have y0 := (HB.out.2 j hjq).1
                have y1 := (HB.out.2 j hjq).2
                have hGs := HB.out.1
                have j0 : (0 : Int) ≤ (j : Int) := by omega
                have j1 : (j : Int) < (q : Int) := by omega
                clear hy hst o1 o2
                obtain ⟨st, sn, pr⟩ := y
                simp only at hj
                subst hj
                go_upto_region 11 with fail
                have GC := @GrW.cell
                refine wp_region_grw_tail _ 10 (by kernel_rfl) (by kernel_rfl) (Gr.refl _) ?_
                simp only [List.take_succ_cons, List.take_zero, List.drop_succ_cons, List.drop_zero]
                repeat (go_big_quiet_step ((first | fail)))
                refine wpQuiet_nil ?_
                intro wq hwq
                obtain ⟨gq, hwq'⟩ := hwq
                subst hwq'
                clear GC
                have gq1 := gq.gr
                generalize gq.w = wq at gq1 ⊢
                obtain ⟨Xq, Yq, cq, fq⟩ := gq1.use
                have sq := gq1.size
                (try simp only [World.size_alloc, World.size_setCell, World.heap_drewN] at sq)
                have hG' : w.heap.size ≤ G := hGw
                go_wp2
                · go_roundg g1
                  case measure => omega
                  case rel => exact ⟨k + 1, g1, 0, _, rfl, rfl, by omega, by omega, hide ⟨by have := HRK.out.1; omega, by have := HRK.out.2; omega⟩, hide (rest_end (by have := HRK.out.1; omega)), (by repeat (first | with_reducible exact Gr.refl _ | with_reducible assumption | with_reducible refine Gr.alloc ?_ _ | with_reducible refine Gr.drewN ?_ _ | with_reducible refine Gr.drew ?_ | with_reducible refine Gr.setCell ?_ (by first | (dsimp only; omega) | (simp only [World.size_alloc]; omega) | (with_reducible refine Gr.size ?_; (repeat (first | with_reducible exact Gr.refl _ | with_reducible assumption | with_reducible refine Gr.alloc ?_ _ | with_reducible refine Gr.drewN ?_ _ | with_reducible refine Gr.drew ?_ | with_reducible refine Gr.trans ?_ (by with_reducible assumption))); done)) _ | with_reducible refine Gr.trans ?_ (by with_reducible assumption))), HB1.out _ gq1, HCU1⟩
                · go_roundg g1
                  case measure => omega
                  case rel => exact ⟨k + 1, g1, dd - 1, _, rfl, rfl, by omega, by omega, hide ⟨by have := HRK.out.1; omega, by have := HRK.out.2; omega⟩, hide (rest_step b o k l.length), (by repeat (first | with_reducible exact Gr.refl _ | with_reducible assumption | with_reducible refine Gr.alloc ?_ _ | with_reducible refine Gr.drewN ?_ _ | with_reducible refine Gr.drew ?_ | with_reducible refine Gr.setCell ?_ (by first | (dsimp only; omega) | (simp only [World.size_alloc]; omega) | (with_reducible refine Gr.size ?_; (repeat (first | with_reducible exact Gr.refl _ | with_reducible assumption | with_reducible refine Gr.alloc ?_ _ | with_reducible refine Gr.drewN ?_ _ | with_reducible refine Gr.drew ?_ | with_reducible refine Gr.trans ?_ (by with_reducible assumption))); done)) _ | with_reducible refine Gr.trans ?_ (by with_reducible assumption))), HB1.out _ gq1, HCU1⟩
              · have hst' : (y.st == (t : Int)) = false := by rw [beq_eq_false_iff_ne]; exact hst
                have HCT := hide (cur_cut HOR.out HCU.out (fun z hz => by
                  rw [HY.out] at hz
                  obtain rfl := Option.some.inj hz
                  exact hst))
                clear hy hst
                have hGs := HB.out.1
                go_wp2
                go_loopg [59] q (fun g2 u wx => ∃ i : Nat, i + g2 = q ∧ u = iv i ∧ wr = wx ∧ Hid (∀ i', i' < i → ¬ mu (l.take k) (i' : Int) ∈ x.l))
                case atStart => exact ⟨0, by omega, rfl, rfl, hide (fun i' h => absurd h (Nat.not_lt_zero i'))⟩
                case round =>
                  obtain ⟨i, hig, rfl, rfl, HNI⟩ := hrel
                  cases gk with
                  | zero =>
                    obtain rfl : i = q := by omega
                    have HF := hide (show ckE ns (i : Int) l = 11 by
                      rw [HE.out]
                      rw [show ckB ns (i : Int).toNat l = false from ckB_stop htn (by
                        rw [ckS_at HX.out]
                        refine stOk_no fun j p hj hp => ?_
                        have hj' : j < i := by simpa [moL_len] using hj
                        have hp' := hp
                        simp only [Int.toNat_natCast] at hp'
                        rw [moL_at hj', mo1_cut HCT.out] at hp'
                        obtain rfl := Option.some.inj hp'
                        exact HNI.out j hj')]
                      rfl)
                    go_wp2
                    rw [Exit.noGoto_ret]
                    go_ret
                    exact ⟨ret_iv HF.out.symm, gx⟩
                  | succ g2 =>
                    have hiq : i < q := by omega
                    have v0 := (HB.out.2 i hiq).1
                    dsimp only at v0
                    have i0 : (0 : Int) ≤ (i : Int) := by omega
                    have i1 : (i : Int) < (q : Int) := by omega
                    have HMO := hide (show (moL q l (t : Int))[i]? = some (mu (l.take k) (i : Int)) by rw [moL_at hiq, mo1_cut HCT.out])
                    generalize mu (l.take k) (i : Int) = p at *
                    have HCN := hide (contains_any x.A x.c x.l p _ (HXL.out _ gx))
                    by_cases hp : p ∈ x.l
                    · have HOK1 := hide (below HOK.out (show ckS ns q l t = true by rw [ckS_at HX.out]; exact stOk_yes HMO.out hp))
                      rw [decide_eq_true hp] at HCN
                      clear hp
                      go_wp2_with (first | (go_at_call 22; refine (HCN.out).mono ?_; rintro e w1 ⟨rfl, rfl⟩))
                      go_roundg g
                      case measure => omega
                      case rel => exact ⟨t + 1, k, (g1 + 1), dd, _, by omega, by go_num, rfl, hrd, hdd, HRK, HRP, gx, HB, cut_next HCT.out, HOK1⟩
                    · have HNI1 := hide (below (P := fun i' => ¬ mu (l.take k) (i' : Int) ∈ x.l) HNI.out (by
                        have := HMO.out
                        rw [moL_at hiq, mo1_cut HCT.out] at this
                        rw [Option.some.inj this]
                        exact hp))
                      rw [decide_eq_false hp] at HCN
                      clear hp
                      go_wp2_with (first | (go_at_call 22; refine (HCN.out).mono ?_; rintro e w1 ⟨rfl, rfl⟩))
                      go_roundg g2
                      case measure => omega
                      case rel => exact ⟨i + 1, by omega, by go_num, rfl, HNI1⟩
  · have HE := hide (ckE_bad (l := l) h0)
    have h1 : (chE ns s != 0) = true := by simpa using h0
    rw [HE.out]
    generalize chE ns s = e0 at *
    clear h0 hl hp
    go_enter Try.func9, Try.ntmps9
    go_wp2
    go_step3
    go_wp2_with (first | (go_at_call 11; refine (HV.out).mono ?_; rintro e w1 ⟨rfl, rfl⟩))
    rw [Exit.noGoto_ret]
    go_ret
    exact ⟨rfl, (by repeat (first | with_reducible exact Gr.refl _ | with_reducible assumption | with_reducible refine Gr.alloc ?_ _ | with_reducible refine Gr.drewN ?_ _ | with_reducible refine Gr.drew ?_ | with_reducible refine Gr.setCell ?_ (by first | (dsimp only; omega) | (simp only [World.size_alloc]; omega) | (with_reducible refine Gr.size ?_; (repeat (first | with_reducible exact Gr.refl _ | with_reducible assumption | with_reducible refine Gr.alloc ?_ _ | with_reducible refine Gr.drewN ?_ _ | with_reducible refine Gr.drew ?_ | with_reducible refine Gr.trans ?_ (by with_reducible assumption))); done)) _ | with_reducible refine Gr.trans ?_ (by with_reducible assumption)))⟩
end Go.Proofs.Ytfndhddnglcliaa
