/-
  The law of lists of changes that serve.
-/
import Derived.Test.YtfoihnhcodmhnaaSb20
set_option linter.unusedVariables false
set_option linter.unusedSimpArgs false
namespace Go.Proofs.Ytfoihnhcodmhnaa
set_option linter.unusedVariables false
set_option linter.unusedSimpArgs false
open Go Go.ChangeShapes Go.WideShapes Go.ChangeAt Go.RowKit Go.Deep

/-- whether a pair among the first k is in the need -/
def isA (x : Nd) (L : List Int) (k : Nat) : Bool := (L.take k).any fun p => decide (p ∈ x.l)
def isN (x : Nd) (p : Int) (n : Nat) : Bool := (x.l.take n).any fun z => decide (p = z)
theorem isA_all (x : Nd) (L : List Int) : isA x L L.length = stOk x L := by unfold isA stOk; rw [List.take_length]
theorem isA_at {x : Nd} {L : List Int} {k : Nat} {p : Int} (h : L[k]? = some p) : isA x L (k + 1) = (isA x L k || isN x p x.l.length) := by
  unfold isA isN
  rw [take_at h, List.any_append, List.take_length]
  simp only [List.any_cons, List.any_nil, Bool.or_false]
  congr 1
  rw [Bool.eq_iff_iff]
  simp
theorem isN_at {x : Nd} {p z : Int} {n : Nat} (h : x.l[n]? = some z) : isN x p (n + 1) = (isN x p n || decide (p = z)) := by
  unfold isN
  rw [take_at h, List.any_append]
  simp
/-- all steps below t are served -/
def alB (ns : List Nd) (q : Nat) (l : List Chg) (t : Nat) : Bool := (List.range t).all (ckS ns q l)
theorem alB_succ (ns : List Nd) (q : Nat) (l : List Chg) (t : Nat) : alB ns q l (t + 1) = (alB ns q l t && ckS ns q l t) := by
  unfold alB
  rw [List.range_succ, List.all_append]
  simp
set_option maxRecDepth 100000 in
set_option maxHeartbeats 4000000 in
theorem checks_walk (A B : Option Addr) (c d : Nat) (ns : List Nd) (s : Int) (l : List Chg) (w : World) (hl : SlN w A c ns) (hp : SlC w B d l) :
    Calls Try.prog 4 #[.slice A ns.length c, iv s, .slice B l.length d] w fun e w' => e = .returned (.bool true) ∧ Gr w w' := by
  have m1 := hp.cap
  have m2 := hp.capB
  have n1 := hl.cap
  have n2 := hl.capB
  have HL := hide hl
  have HLG := hide (fun (w' : World) (g : Gr w w') => long_any A c ns w' (hl.gr g))
  have HA := hide (fun (w' : World) (g : Gr w w') => Check_any A B c d ns s l w' (hl.gr g) (hp.gr g))
  have HB := hide (fun (w' : World) (g : Gr w w') => rCheck_any A B c d ns s l w' (hl.gr g) (hp.gr g))
  have HM := hide (fun (t : Int) (w' : World) (g : Gr w w') => Mounted_any A B c d ns s l t w' (hl.gr g) (hp.gr g))
  cases hlg : lgB ns with
  | true =>
    rw [hlg] at HLG
    clear hl hp
    go_enter Try.func4, Try.ntmps4
    go_wp2_with (first | (go_at_call 14; refine (HLG.out _ (by repeat (first | with_reducible exact Gr.refl _ | with_reducible assumption | with_reducible refine Gr.alloc ?_ _ | with_reducible refine Gr.drewN ?_ _ | with_reducible refine Gr.drew ?_ | with_reducible refine Gr.setCell ?_ (by first | (dsimp only; omega) | (simp only [World.size_alloc]; omega) | (with_reducible refine Gr.size ?_; (repeat (first | with_reducible exact Gr.refl _ | with_reducible assumption | with_reducible refine Gr.alloc ?_ _ | with_reducible refine Gr.drewN ?_ _ | with_reducible refine Gr.drew ?_ | with_reducible refine Gr.trans ?_ (by with_reducible assumption))); done)) _ | with_reducible refine Gr.trans ?_ (by with_reducible assumption)))).mono ?_; rintro e w1 ⟨rfl, rfl⟩) | (go_at_call 15; refine (known_any _).mono ?_; rintro e w1 ⟨rfl, g1⟩; obtain ⟨X1, Y1, c1, f1⟩ := g1.use))
    go_ret
    exact ⟨rfl, (by repeat (first | with_reducible exact Gr.refl _ | with_reducible assumption | with_reducible refine Gr.alloc ?_ _ | with_reducible refine Gr.drewN ?_ _ | with_reducible refine Gr.drew ?_ | with_reducible refine Gr.setCell ?_ (by first | (dsimp only; omega) | (simp only [World.size_alloc]; omega) | (with_reducible refine Gr.size ?_; (repeat (first | with_reducible exact Gr.refl _ | with_reducible assumption | with_reducible refine Gr.alloc ?_ _ | with_reducible refine Gr.drewN ?_ _ | with_reducible refine Gr.drew ?_ | with_reducible refine Gr.trans ?_ (by with_reducible assumption))); done)) _ | with_reducible refine Gr.trans ?_ (by with_reducible assumption)))⟩
  | false =>
    rw [hlg] at HLG
    by_cases h6 : 100 < l.length
    · clear hl hp
      go_enter Try.func4, Try.ntmps4
      go_wp2_with (first | (go_at_call 14; refine (HLG.out _ (by repeat (first | with_reducible exact Gr.refl _ | with_reducible assumption | with_reducible refine Gr.alloc ?_ _ | with_reducible refine Gr.drewN ?_ _ | with_reducible refine Gr.drew ?_ | with_reducible refine Gr.setCell ?_ (by first | (dsimp only; omega) | (simp only [World.size_alloc]; omega) | (with_reducible refine Gr.size ?_; (repeat (first | with_reducible exact Gr.refl _ | with_reducible assumption | with_reducible refine Gr.alloc ?_ _ | with_reducible refine Gr.drewN ?_ _ | with_reducible refine Gr.drew ?_ | with_reducible refine Gr.trans ?_ (by with_reducible assumption))); done)) _ | with_reducible refine Gr.trans ?_ (by with_reducible assumption)))).mono ?_; rintro e w1 ⟨rfl, rfl⟩) | (go_at_call 15; refine (known_any _).mono ?_; rintro e w1 ⟨rfl, g1⟩; obtain ⟨X1, Y1, c1, f1⟩ := g1.use))
      go_ret
      exact ⟨rfl, (by repeat (first | with_reducible exact Gr.refl _ | with_reducible assumption | with_reducible refine Gr.alloc ?_ _ | with_reducible refine Gr.drewN ?_ _ | with_reducible refine Gr.drew ?_ | with_reducible refine Gr.setCell ?_ (by first | (dsimp only; omega) | (simp only [World.size_alloc]; omega) | (with_reducible refine Gr.size ?_; (repeat (first | with_reducible exact Gr.refl _ | with_reducible assumption | with_reducible refine Gr.alloc ?_ _ | with_reducible refine Gr.drewN ?_ _ | with_reducible refine Gr.drew ?_ | with_reducible refine Gr.trans ?_ (by with_reducible assumption))); done)) _ | with_reducible refine Gr.trans ?_ (by with_reducible assumption)))⟩
    · have hxx : ∀ z : Int, (z != z) = false := fun z => by simp
      by_cases hgood : chE ns s = 0 ∧ orB ns.length s l = true
      · obtain ⟨h0, ho⟩ := hgood
        obtain ⟨h2, h3⟩ := chE_ok h0
        obtain ⟨b4, b5⟩ := wiB_iff.1 h3
        have hlen := (vaE_ok h2).1
        obtain ⟨q, rfl⟩ : ∃ q : Nat, s = q := ⟨s.toNat, by omega⟩
        have hE : ckE ns (q : Int) l = if ckB ns q l then 0 else 11 := by rw [ckE_in h0 ho]; rfl
        have HME := hide (fun (t : Nat) (ht : t < ns.length) => show mtE ns (q : Int) l (t : Int) = 0 by
          rw [mtE_in h0 ho, show wiB (t : Int) 0 ((ns.length : Int) - 1) = true by rw [wiB_iff]; omega]; rfl)
        have hE1 : (ckE ns (q : Int) l != 0 && ckE ns (q : Int) l != 11) = false := by rw [hE]; split <;> rfl
        have HEE := hide (show (ckE ns (q : Int) l == 0) = ckB ns q l by rw [hE]; cases ckB ns q l <;> rfl)
        have hE2 : (ckE ns (q : Int) l != 0) = false ∨ ((ckE ns (q : Int) l != 0) = true ∧ (ckE ns (q : Int) l != 11) = false) := by
          rw [hE]; cases ckB ns q l
          · exact .inr ⟨rfl, rfl⟩
          · exact .inl rfl
        have hEx := hxx (ckE ns (q : Int) l)
        clear hl hp h0 ho h2 h3 hE hE1
        generalize ckE ns (q : Int) l = E at *
        rcases hE2 with hE2 | ⟨hE2, hE3⟩
        all_goals
          go_enter Try.func4, Try.ntmps4
          go_wp2_with (first | (go_at_call 14; refine (HLG.out _ (by repeat (first | with_reducible exact Gr.refl _ | with_reducible assumption | with_reducible refine Gr.alloc ?_ _ | with_reducible refine Gr.drewN ?_ _ | with_reducible refine Gr.drew ?_ | with_reducible refine Gr.setCell ?_ (by first | (dsimp only; omega) | (simp only [World.size_alloc]; omega) | (with_reducible refine Gr.size ?_; (repeat (first | with_reducible exact Gr.refl _ | with_reducible assumption | with_reducible refine Gr.alloc ?_ _ | with_reducible refine Gr.drewN ?_ _ | with_reducible refine Gr.drew ?_ | with_reducible refine Gr.trans ?_ (by with_reducible assumption))); done)) _ | with_reducible refine Gr.trans ?_ (by with_reducible assumption)))).mono ?_; rintro e w1 ⟨rfl, rfl⟩) | (go_at_call 21; refine (HA.out _ (by repeat (first | with_reducible exact Gr.refl _ | with_reducible assumption | with_reducible refine Gr.alloc ?_ _ | with_reducible refine Gr.drewN ?_ _ | with_reducible refine Gr.drew ?_ | with_reducible refine Gr.setCell ?_ (by first | (dsimp only; omega) | (simp only [World.size_alloc]; omega) | (with_reducible refine Gr.size ?_; (repeat (first | with_reducible exact Gr.refl _ | with_reducible assumption | with_reducible refine Gr.alloc ?_ _ | with_reducible refine Gr.drewN ?_ _ | with_reducible refine Gr.drew ?_ | with_reducible refine Gr.trans ?_ (by with_reducible assumption))); done)) _ | with_reducible refine Gr.trans ?_ (by with_reducible assumption)))).mono ?_; rintro e w1 ⟨rfl, g1⟩; obtain ⟨X1, Y1, c1, f1⟩ := g1.use) | (go_at_call 22; refine (HB.out _ (by repeat (first | with_reducible exact Gr.refl _ | with_reducible assumption | with_reducible refine Gr.alloc ?_ _ | with_reducible refine Gr.drewN ?_ _ | with_reducible refine Gr.drew ?_ | with_reducible refine Gr.setCell ?_ (by first | (dsimp only; omega) | (simp only [World.size_alloc]; omega) | (with_reducible refine Gr.size ?_; (repeat (first | with_reducible exact Gr.refl _ | with_reducible assumption | with_reducible refine Gr.alloc ?_ _ | with_reducible refine Gr.drewN ?_ _ | with_reducible refine Gr.drew ?_ | with_reducible refine Gr.trans ?_ (by with_reducible assumption))); done)) _ | with_reducible refine Gr.trans ?_ (by with_reducible assumption)))).mono ?_; rintro e w1 ⟨rfl, g1⟩; obtain ⟨X1, Y1, c1, f1⟩ := g1.use))
          go_loopw [8, 9] (fun a i wr => ∃ t : Nat, t ≤ ns.length ∧ i = iv t ∧ a = .bool (alB ns q l t) ∧ Gr w wr) (fun _ i _ => ns.length - (intOf i).toNat)
          case atStart => exact ⟨0, by omega, rfl, rfl, (by repeat (first | with_reducible exact Gr.refl _ | with_reducible assumption | with_reducible refine Gr.alloc ?_ _ | with_reducible refine Gr.drewN ?_ _ | with_reducible refine Gr.drew ?_ | with_reducible refine Gr.setCell ?_ (by first | (dsimp only; omega) | (simp only [World.size_alloc]; omega) | (with_reducible refine Gr.size ?_; (repeat (first | with_reducible exact Gr.refl _ | with_reducible assumption | with_reducible refine Gr.alloc ?_ _ | with_reducible refine Gr.drewN ?_ _ | with_reducible refine Gr.drew ?_ | with_reducible refine Gr.trans ?_ (by with_reducible assumption))); done)) _ | with_reducible refine Gr.trans ?_ (by with_reducible assumption)))⟩
          case round =>
            obtain ⟨t, ht, rfl, rfl, g⟩ := hrel
            by_cases htn : t < ns.length
            · obtain ⟨x, hx⟩ : ∃ x, ns[t]? = some x := ⟨_, List.getElem?_eq_getElem htn⟩
              obtain ⟨bn, on, rfl, z0, xl⟩ := (HL.out.gr g).at_ hx
              have hbn : bn < wr.heap.size := cell_lt (by rw [z0]; rfl)
              have hxc := xl.cap
              have hxcb := xl.capB
              have HXL := hide (fun (w' : World) (g' : Gr wr w') => xl.gr g')
              have HZ := hide (fun (w' : World) (g' : Gr wr w') => (g'.cell _ _ hbn).trans z0)
              have HM0 := hide (HME.out t htn)
              have HM1 := hide (mtL_yes HM0.out)
              have HMM := hide (show ∀ (w' : World) (g : Gr w w'), Calls Try.prog 16 #[.slice (some ⟨bn, on, none⟩) ns.length c, iv (q : Int), .slice B l.length d, iv (t : Int)] w' fun e w'' => ∃ A' d', e = .returned (sle (.slice A' (moL q l (t : Int)).length d') 0) ∧ SlI w'' A' d' (moL q l (t : Int)) ∧ Gr w' w'' from fun w' g => by
                have := HM.out (t : Int) w' g
                rw [HM0.out, HM1.out] at this
                exact this)
              have HCS := hide (show ckS ns q l t = stOk x (moL q l (t : Int)) from ckS_at hx)
              have HAS := hide (alB_succ ns q l t)
              have hL3 : (moL q l (t : Int)).length ≤ 3 := by rw [moL_len]; omega
              have ht0 : (0 : Int) ≤ (t : Int) := by omega
              have ht1 : (t : Int) < (ns.length : Int) := by omega
              clear hx xl z0 HM0 HM1
              generalize moL q l (t : Int) = L at *
              obtain ⟨wo, rfl⟩ : ∃ wo, wo = wr := ⟨_, rfl⟩
              go_wp2_with fail
              refine (HMM.out _ g).mono ?_
              rintro e w3 ⟨A3, d3, rfl, s3, g3⟩
              have S3 := hide s3
              have c3 := s3.cap
              have c3' := s3.capB
              have gw3 : Gr w w3 := g.trans g3
              clear s3
              go_wp2
              go_loopw [12, 13] (fun b k wr => ∃ k' : Nat, k' ≤ L.length ∧ k = iv k' ∧ b = .bool (isA x L k') ∧ Gr w3 wr) (fun _ k _ => L.length - (intOf k).toNat)
              case atStart => exact ⟨0, by omega, rfl, rfl, Gr.refl _⟩
              case round =>
                obtain ⟨k, hk, rfl, rfl, g'⟩ := hrel
                by_cases hkl : k < L.length
                · obtain ⟨p, hp⟩ : ∃ p, L[k]? = some p := ⟨_, List.getElem?_eq_getElem hkl⟩
                  obtain ⟨bp, op, rfl, p0⟩ := (S3.out.gr g').rd.in_ hp
                  have hbp : bp < wr.heap.size := cell_lt (by rw [p0]; rfl)
                  have HP0 := hide (fun (w' : World) (g'' : Gr wr w') => (g''.cell _ _ hbp).trans p0)
                  have HIA := hide (isA_at (x := x) hp)
                  have hk0 : (0 : Int) ≤ (k : Int) := by omega
                  have hk1 : (k : Int) < (L.length : Int) := by omega
                  clear hp p0
                  obtain ⟨wi, rfl⟩ : ∃ wi, wi = wr := ⟨_, rfl⟩
                  go_wp2
                  go_loopw [12, 14] (fun b n wr => ∃ n' : Nat, n' ≤ x.l.length ∧ n = iv n' ∧ b = .bool (isA x L k || isN x p n') ∧ Gr wi wr) (fun _ n _ => x.l.length - (intOf n).toNat)
                  case atStart => exact ⟨0, by omega, rfl, by simp [isN], Gr.refl _⟩
                  case round =>
                    obtain ⟨n, hn, rfl, rfl, g''⟩ := hrel
                    have gz : Gr wo wr := g3.trans (g'.trans g'')
                    have z0 := HZ.out wr gz
                    by_cases hnl : n < x.l.length
                    · obtain ⟨z, hz⟩ : ∃ z, x.l[n]? = some z := ⟨_, List.getElem?_eq_getElem hnl⟩
                      obtain ⟨bz, oz, hxA, y0⟩ := (HXL.out wr gz).rd.in_ hz
                      rw [hxA] at z0
                      have p0 := HP0.out wr g''
                      have HIN := hide (isN_at (p := p) hz)
                      have hn0 : (0 : Int) ≤ (n : Int) := by omega
                      have hn1 : (n : Int) < (x.l.length : Int) := by omega
                      clear hxA hz
                      cases hb : (isA x L k || isN x p n) with
                      | true =>
                        have HB2 := hide (show (isA x L k || isN x p (n + 1)) = true by rw [HIN.out, ← Bool.or_assoc, hb]; rfl)
                        clear hb
                        go_upto_region 20 with fail
                        have GC := @GrW.cell
                        refine wp_region_grw _ (by kernel_rfl) (by kernel_rfl) (Gr.refl _) ?_
                        repeat (go_big_quiet_step ((first | fail)))
                        refine wpQuiet_nil ?_
                        intro wq hwq
                        obtain ⟨gq, hwq'⟩ := hwq
                        subst hwq'
                        clear GC
                        have gq1 := gq.gr
                        generalize gq.w = wq at gq1 ⊢
                        obtain ⟨Xq, Yq, cq, fq⟩ := gq1.use
                        have sq := gq1.size
                        (try simp only [World.size_alloc, World.size_setCell, World.heap_drewN] at sq)
                        go_wp2
                        go_roundw
                        case rel => exact ⟨n + 1, by omega, by go_num, by rw [HB2.out], (by repeat (first | with_reducible exact Gr.refl _ | with_reducible assumption | with_reducible refine Gr.alloc ?_ _ | with_reducible refine Gr.drewN ?_ _ | with_reducible refine Gr.drew ?_ | with_reducible refine Gr.setCell ?_ (by first | (dsimp only; omega) | (simp only [World.size_alloc]; omega) | (with_reducible refine Gr.size ?_; (repeat (first | with_reducible exact Gr.refl _ | with_reducible assumption | with_reducible refine Gr.alloc ?_ _ | with_reducible refine Gr.drewN ?_ _ | with_reducible refine Gr.drew ?_ | with_reducible refine Gr.trans ?_ (by with_reducible assumption))); done)) _ | with_reducible refine Gr.trans ?_ (by with_reducible assumption)))⟩
                        case measure => simp only [intOf]; omega
                      | false =>
                        by_cases hpz : p = z
                        · have hpz' : (p == z) = true := by rw [beq_iff_eq]; exact hpz
                          have HB2 := hide (show (isA x L k || isN x p (n + 1)) = true by rw [HIN.out, ← Bool.or_assoc, hb, decide_eq_true hpz]; rfl)
                          clear hb hpz
                          go_upto_region 20 with fail
                          have GC := @GrW.cell
                          refine wp_region_grw _ (by kernel_rfl) (by kernel_rfl) (Gr.refl _) ?_
                          repeat (go_big_quiet_step ((first | fail)))
                          refine wpQuiet_nil ?_
                          intro wq hwq
                          obtain ⟨gq, hwq'⟩ := hwq
                          subst hwq'
                          clear GC
                          have gq1 := gq.gr
                          generalize gq.w = wq at gq1 ⊢
                          obtain ⟨Xq, Yq, cq, fq⟩ := gq1.use
                          have sq := gq1.size
                          (try simp only [World.size_alloc, World.size_setCell, World.heap_drewN] at sq)
                          go_wp2
                          go_roundw
                          case rel => exact ⟨n + 1, by omega, by go_num, by rw [HB2.out], (by repeat (first | with_reducible exact Gr.refl _ | with_reducible assumption | with_reducible refine Gr.alloc ?_ _ | with_reducible refine Gr.drewN ?_ _ | with_reducible refine Gr.drew ?_ | with_reducible refine Gr.setCell ?_ (by first | (dsimp only; omega) | (simp only [World.size_alloc]; omega) | (with_reducible refine Gr.size ?_; (repeat (first | with_reducible exact Gr.refl _ | with_reducible assumption | with_reducible refine Gr.alloc ?_ _ | with_reducible refine Gr.drewN ?_ _ | with_reducible refine Gr.drew ?_ | with_reducible refine Gr.trans ?_ (by with_reducible assumption))); done)) _ | with_reducible refine Gr.trans ?_ (by with_reducible assumption)))⟩
                          case measure => simp only [intOf]; omega
                        · have hpz' : (p == z) = false := by rw [beq_eq_false_iff_ne]; exact hpz
                          have HB2 := hide (show (isA x L k || isN x p (n + 1)) = false by rw [HIN.out, ← Bool.or_assoc, hb, decide_eq_false hpz]; rfl)
                          clear hb hpz
                          go_upto_region 20 with fail
                          have GC := @GrW.cell
                          refine wp_region_grw _ (by kernel_rfl) (by kernel_rfl) (Gr.refl _) ?_
                          repeat (go_big_quiet_step ((first | fail)))
                          refine wpQuiet_nil ?_
                          intro wq hwq
                          obtain ⟨gq, hwq'⟩ := hwq
                          subst hwq'
                          clear GC
                          have gq1 := gq.gr
                          generalize gq.w = wq at gq1 ⊢
                          obtain ⟨Xq, Yq, cq, fq⟩ := gq1.use
                          have sq := gq1.size
                          (try simp only [World.size_alloc, World.size_setCell, World.heap_drewN] at sq)
                          go_wp2
                          go_roundw
                          case rel => exact ⟨n + 1, by omega, by go_num, by rw [HB2.out], (by repeat (first | with_reducible exact Gr.refl _ | with_reducible assumption | with_reducible refine Gr.alloc ?_ _ | with_reducible refine Gr.drewN ?_ _ | with_reducible refine Gr.drew ?_ | with_reducible refine Gr.setCell ?_ (by first | (dsimp only; omega) | (simp only [World.size_alloc]; omega) | (with_reducible refine Gr.size ?_; (repeat (first | with_reducible exact Gr.refl _ | with_reducible assumption | with_reducible refine Gr.alloc ?_ _ | with_reducible refine Gr.drewN ?_ _ | with_reducible refine Gr.drew ?_ | with_reducible refine Gr.trans ?_ (by with_reducible assumption))); done)) _ | with_reducible refine Gr.trans ?_ (by with_reducible assumption)))⟩
                          case measure => simp only [intOf]; omega
                    · obtain rfl : n = x.l.length := by omega
                      go_wp2
                      go_roundw
                      case rel => exact ⟨k + 1, by omega, by go_num, by rw [HIA.out], g'.trans g''⟩
                      case measure => simp only [intOf]; omega
                · obtain rfl : k = L.length := by omega
                  have HIS := hide (show isA x L L.length = ckS ns q l t by rw [isA_all, HCS.out])
                  rw [HIS.out]
                  cases ha : alB ns q l t with
                  | true =>
                    rw [ha, Bool.true_and] at HAS
                    clear ha
                    go_wp2
                    go_roundw
                    case rel => exact ⟨t + 1, by omega, by go_num, by rw [HAS.out], (by repeat (first | with_reducible exact Gr.refl _ | with_reducible assumption | with_reducible refine Gr.alloc ?_ _ | with_reducible refine Gr.drewN ?_ _ | with_reducible refine Gr.drew ?_ | with_reducible refine Gr.setCell ?_ (by first | (dsimp only; omega) | (simp only [World.size_alloc]; omega) | (with_reducible refine Gr.size ?_; (repeat (first | with_reducible exact Gr.refl _ | with_reducible assumption | with_reducible refine Gr.alloc ?_ _ | with_reducible refine Gr.drewN ?_ _ | with_reducible refine Gr.drew ?_ | with_reducible refine Gr.trans ?_ (by with_reducible assumption))); done)) _ | with_reducible refine Gr.trans ?_ (by with_reducible assumption)))⟩
                    case measure => simp only [intOf]; omega
                  | false =>
                    rw [ha, Bool.false_and] at HAS
                    clear ha
                    go_wp2
                    go_roundw
                    case rel => exact ⟨t + 1, by omega, by go_num, by rw [HAS.out], (by repeat (first | with_reducible exact Gr.refl _ | with_reducible assumption | with_reducible refine Gr.alloc ?_ _ | with_reducible refine Gr.drewN ?_ _ | with_reducible refine Gr.drew ?_ | with_reducible refine Gr.setCell ?_ (by first | (dsimp only; omega) | (simp only [World.size_alloc]; omega) | (with_reducible refine Gr.size ?_; (repeat (first | with_reducible exact Gr.refl _ | with_reducible assumption | with_reducible refine Gr.alloc ?_ _ | with_reducible refine Gr.drewN ?_ _ | with_reducible refine Gr.drew ?_ | with_reducible refine Gr.trans ?_ (by with_reducible assumption))); done)) _ | with_reducible refine Gr.trans ?_ (by with_reducible assumption)))⟩
                    case measure => simp only [intOf]; omega
            · obtain rfl : t = ns.length := by omega
              have HEQ := hide (show (alB ns q l ns.length == (E == 0)) = true by rw [HEE.out]; show (ckB ns q l == ckB ns q l) = true; simp)
              generalize alB ns q l ns.length = aa at *
              have hEQ := HEQ.out
              go_wp2_with (first | (go_at_call 15; refine (known_any _).mono ?_; rintro e w1 ⟨rfl, g1⟩; obtain ⟨X1, Y1, c1, f1⟩ := g1.use))
              go_ret
              exact ⟨rfl, (by repeat (first | with_reducible exact Gr.refl _ | with_reducible assumption | with_reducible refine Gr.alloc ?_ _ | with_reducible refine Gr.drewN ?_ _ | with_reducible refine Gr.drew ?_ | with_reducible refine Gr.setCell ?_ (by first | (dsimp only; omega) | (simp only [World.size_alloc]; omega) | (with_reducible refine Gr.size ?_; (repeat (first | with_reducible exact Gr.refl _ | with_reducible assumption | with_reducible refine Gr.alloc ?_ _ | with_reducible refine Gr.drewN ?_ _ | with_reducible refine Gr.drew ?_ | with_reducible refine Gr.trans ?_ (by with_reducible assumption))); done)) _ | with_reducible refine Gr.trans ?_ (by with_reducible assumption)))⟩
      · have hE : (ckE ns s l != 0) = true ∧ (ckE ns s l != 11) = true := by
          by_cases h0 : chE ns s = 0
          · have ho : orB ns.length s l = false := by
              cases e : orB ns.length s l with
              | false => rfl
              | true => exact absurd ⟨h0, e⟩ hgood
            rw [ckE_ord h0 ho]
            exact ⟨rfl, rfl⟩
          · rw [ckE_bad h0]
            have hv : chE ns s = 1 ∨ chE ns s = 4 := by
              unfold chE vaE at *
              split <;> split <;> simp_all
              all_goals split <;> simp_all
            rcases hv with hv | hv <;> rw [hv] <;> exact ⟨rfl, rfl⟩
        obtain ⟨hE1, hE2⟩ := hE
        have hEx := hxx (ckE ns s l)
        clear hl hp hgood
        generalize ckE ns s l = E at *
        go_enter Try.func4, Try.ntmps4
        go_wp2_with (first | (go_at_call 14; refine (HLG.out _ (by repeat (first | with_reducible exact Gr.refl _ | with_reducible assumption | with_reducible refine Gr.alloc ?_ _ | with_reducible refine Gr.drewN ?_ _ | with_reducible refine Gr.drew ?_ | with_reducible refine Gr.setCell ?_ (by first | (dsimp only; omega) | (simp only [World.size_alloc]; omega) | (with_reducible refine Gr.size ?_; (repeat (first | with_reducible exact Gr.refl _ | with_reducible assumption | with_reducible refine Gr.alloc ?_ _ | with_reducible refine Gr.drewN ?_ _ | with_reducible refine Gr.drew ?_ | with_reducible refine Gr.trans ?_ (by with_reducible assumption))); done)) _ | with_reducible refine Gr.trans ?_ (by with_reducible assumption)))).mono ?_; rintro e w1 ⟨rfl, rfl⟩) | (go_at_call 21; refine (HA.out _ (by repeat (first | with_reducible exact Gr.refl _ | with_reducible assumption | with_reducible refine Gr.alloc ?_ _ | with_reducible refine Gr.drewN ?_ _ | with_reducible refine Gr.drew ?_ | with_reducible refine Gr.setCell ?_ (by first | (dsimp only; omega) | (simp only [World.size_alloc]; omega) | (with_reducible refine Gr.size ?_; (repeat (first | with_reducible exact Gr.refl _ | with_reducible assumption | with_reducible refine Gr.alloc ?_ _ | with_reducible refine Gr.drewN ?_ _ | with_reducible refine Gr.drew ?_ | with_reducible refine Gr.trans ?_ (by with_reducible assumption))); done)) _ | with_reducible refine Gr.trans ?_ (by with_reducible assumption)))).mono ?_; rintro e w1 ⟨rfl, g1⟩; obtain ⟨X1, Y1, c1, f1⟩ := g1.use) | (go_at_call 22; refine (HB.out _ (by repeat (first | with_reducible exact Gr.refl _ | with_reducible assumption | with_reducible refine Gr.alloc ?_ _ | with_reducible refine Gr.drewN ?_ _ | with_reducible refine Gr.drew ?_ | with_reducible refine Gr.setCell ?_ (by first | (dsimp only; omega) | (simp only [World.size_alloc]; omega) | (with_reducible refine Gr.size ?_; (repeat (first | with_reducible exact Gr.refl _ | with_reducible assumption | with_reducible refine Gr.alloc ?_ _ | with_reducible refine Gr.drewN ?_ _ | with_reducible refine Gr.drew ?_ | with_reducible refine Gr.trans ?_ (by with_reducible assumption))); done)) _ | with_reducible refine Gr.trans ?_ (by with_reducible assumption)))).mono ?_; rintro e w1 ⟨rfl, g1⟩; obtain ⟨X1, Y1, c1, f1⟩ := g1.use) | (go_at_call 15; refine (known_any _).mono ?_; rintro e w1 ⟨rfl, g1⟩; obtain ⟨X1, Y1, c1, f1⟩ := g1.use))
        go_ret
        exact ⟨rfl, (by repeat (first | with_reducible exact Gr.refl _ | with_reducible assumption | with_reducible refine Gr.alloc ?_ _ | with_reducible refine Gr.drewN ?_ _ | with_reducible refine Gr.drew ?_ | with_reducible refine Gr.setCell ?_ (by first | (dsimp only; omega) | (simp only [World.size_alloc]; omega) | (with_reducible refine Gr.size ?_; (repeat (first | with_reducible exact Gr.refl _ | with_reducible assumption | with_reducible refine Gr.alloc ?_ _ | with_reducible refine Gr.drewN ?_ _ | with_reducible refine Gr.drew ?_ | with_reducible refine Gr.trans ?_ (by with_reducible assumption))); done)) _ | with_reducible refine Gr.trans ?_ (by with_reducible assumption)))⟩
end Go.Proofs.Ytfoihnhcodmhnaa
