/-
  Regions: the law of TopRegions.
-/
import Derived.Test.YtfbhpeedjphpaaaRgp
import Derived.Test.YtfbhpeedjphpaaaChecked
import Derived.Test.YtfbhpeedjphpaaaRows
set_option linter.unusedVariables false
set_option linter.unusedSimpArgs false
namespace Go.Proofs.Ytfbhpeedjphpaaa
set_option linter.unusedVariables false
set_option linter.unusedSimpArgs false
open Go Go.ChangeShapes Go.WideShapes Go.ChangeAt Go.RowKit Go.Deep

theorem own : ownKnob Try.prog.godebug = none := by kernel_rfl
theorem laidOut : laidOutB Try.prog = true := by kernel_rfl
namespace RG
theorem cellsInt1 : Try.prog.cellsOf 3 = 1 := by kernel_rfl
theorem cellsRect : Try.prog.cellsOf 36 = 4 := by kernel_rfl
theorem intsRect : IntsAt Try.prog 36 4 :=
  intsAt_struct (m := 4) (k := 1) Try.underlying36 intsInt cellsInt1 rfl cellsRect (fun i hi => by
    match i, hi with
    | 0, _ => exact ⟨_, rfl, rfl, rfl⟩
    | 1, _ => exact ⟨_, rfl, rfl, rfl⟩
    | 2, _ => exact ⟨_, rfl, rfl, rfl⟩
    | 3, _ => exact ⟨_, rfl, rfl, rfl⟩)
set_option maxRecDepth 100000 in
theorem open_rects {base : Nat} {W : World} {H : Type} {enc : TypeId × Value → H} {v : Value} {d : DataW H} {ps : List MemPlace} (hv : Value.okWide Try.prog W .any base 22 v) (hd : DataW.Trod enc Try.prog W 0 (fun _ => true) true 22 v d ps) :
    ∃ (A : Option Addr) (c : Nat) (l : List Rc), v = .slice A l.length c ∧ SlR W A c l := by
  obtain ⟨A, len, cap, rfl⟩ := okWide_slice Try.underlying22 hv
  obtain ⟨fuel, h⟩ := hd
  obtain ⟨A', c, l, e, h1, _, h3, h4⟩ := open_list (c := rcL) (Ok := fun _ => True) Try.underlying22 cellsRect (by decide) (fun {n cs x} hx => by
    obtain ⟨zs, hz, hcs, _⟩ := intsRect enc W 0 (fun _ => true) true _ _ _ hx
    match zs, hz with
    | [a, b, c, d], _ => exact ⟨⟨a, b, c, d⟩, hcs, trivial⟩) (fun _ => rfl) h
  have e' : Value.slice A len cap = .slice A' l.length c := by simpa [Value.cells] using e
  exact ⟨A', c, l, e', h1, h3, by unfold maxLen at h4; omega⟩
theorem many_any (A : Option Addr) (n c : Nat) (w : World) : Calls Try.prog 4 #[.slice A n c] w fun e w' => e = .returned (.bool (decide (60 < n))) ∧ w = w' := by
  go_enter Try.func4, Try.ntmps4
  go_wp2
  go_ret
  exact ⟨ret_bool (by simp; omega), rfl⟩
set_option maxHeartbeats 16000000 in
set_option maxRecDepth 100000 in
theorem regions_walk (A B : Option Addr) (c d : Nat) (l m : List Rc) (w : World) (hl : SlR w A c l) (hm : SlR w B d m) :
    Calls Try.prog 3 #[.slice A l.length c, .slice B m.length d] w fun x w' => x = .returned (.bool true) ∧ Gr w w' := by
  by_cases hlo : 60 < l.length
  · have hdl : decide (60 < l.length) = true := by simpa using hlo
    clear hl hm
    go_enter Try.func3, Try.ntmps3
    go_wp2_with (first | (go_at_call 4; refine (many_any _ _ _ _).mono ?_; rintro e w1 ⟨rfl, rfl⟩) | (go_at_call 5; refine (unit_any _).mono ?_; rintro e w1 ⟨rfl, g1⟩; obtain ⟨X1, Y1, c1, f1⟩ := g1.use))
    go_ret
    exact ⟨rfl, (by repeat (first | with_reducible exact Gr.refl _ | with_reducible assumption | with_reducible refine Gr.alloc ?_ _ | with_reducible refine Gr.drewN ?_ _ | with_reducible refine Gr.drew ?_ | with_reducible refine Gr.setCell ?_ (by first | (dsimp only; omega) | (simp only [World.size_alloc]; omega) | (with_reducible refine Gr.size ?_; (repeat (first | with_reducible exact Gr.refl _ | with_reducible assumption | with_reducible refine Gr.alloc ?_ _ | with_reducible refine Gr.drewN ?_ _ | with_reducible refine Gr.drew ?_ | with_reducible refine Gr.trans ?_ (by with_reducible assumption))); done)) _ | with_reducible refine Gr.trans ?_ (by with_reducible assumption)))⟩
  have hdl : decide (60 < l.length) = false := by simpa using hlo
  by_cases hlo2 : 60 < m.length
  · have hdl2 : decide (60 < m.length) = true := by simpa using hlo2
    clear hl hm
    go_enter Try.func3, Try.ntmps3
    go_wp2_with (first | (go_at_call 4; refine (many_any _ _ _ _).mono ?_; rintro e w1 ⟨rfl, rfl⟩) | (go_at_call 5; refine (unit_any _).mono ?_; rintro e w1 ⟨rfl, g1⟩; obtain ⟨X1, Y1, c1, f1⟩ := g1.use))
    go_ret
    exact ⟨rfl, (by repeat (first | with_reducible exact Gr.refl _ | with_reducible assumption | with_reducible refine Gr.alloc ?_ _ | with_reducible refine Gr.drewN ?_ _ | with_reducible refine Gr.drew ?_ | with_reducible refine Gr.setCell ?_ (by first | (dsimp only; omega) | (simp only [World.size_alloc]; omega) | (with_reducible refine Gr.size ?_; (repeat (first | with_reducible exact Gr.refl _ | with_reducible assumption | with_reducible refine Gr.alloc ?_ _ | with_reducible refine Gr.drewN ?_ _ | with_reducible refine Gr.drew ?_ | with_reducible refine Gr.trans ?_ (by with_reducible assumption))); done)) _ | with_reducible refine Gr.trans ?_ (by with_reducible assumption)))⟩
  have hdl2 : decide (60 < m.length) = false := by simpa using hlo2
  have HL := hide hl
  have HM := hide hm
  have n1 := hl.cap
  have n2 := hl.capB
  have H1 := hide (Area_any A c l w hl)
  have H2 := hide (fun (w' : World) (g : Gr w w') => Area_any B d m w' (hm.gr g))
  have H3 := hide (fun (w' : World) (g : Gr w w') => SameRegion_any A c l B d m w' (hl.gr g) (hm.gr g))
  by_cases hz : ceL l = 0 ∧ ceL m = 0
  case neg =>
    obtain ⟨ht, hs⟩ := ceT_ne hz
    rw [hs] at H3
    clear hs hl hm
    generalize ceL l = p at *
    generalize ceL m = q at *
    generalize ceT l m = t at *
    generalize arV l = x at *
    generalize arV m = y at *
    have t1 : (t == 0) = false := by simpa using ht
    have t2 : (t != 0) = true := by simpa using ht
    by_cases hp : p = 0
    · subst hp
      have hq : q ≠ 0 := fun e => hz ⟨rfl, e⟩
      have q1 : (q == 0) = false := by simpa using hq
      have q2 : (q != 0) = true := by simpa using hq
      clear hz hq ht
      go_enter Try.func3, Try.ntmps3
      go_wp2_with (go_at_call 4; refine (many_any _ _ _ _).mono ?_; rintro e w1 ⟨rfl, rfl⟩)
      refine H1.out.mono ?_
      rintro e w1 ⟨rfl, g1⟩
      go_wp2_with fail
      refine (H2.out _ g1).mono ?_
      rintro e w2 ⟨rfl, g2⟩
      have g12 := g1.trans g2
      go_wp2_with fail
      refine (H3.out _ g12).mono ?_
      rintro e w3 ⟨rfl, g3⟩
      have g13 := g12.trans g3
      clear H1 H2 H3 g12
      go_wp2_with (go_at_call 5; refine (unit_any _).mono ?_; rintro e w1 ⟨rfl, g1⟩; obtain ⟨X1, Y1, c1, f1⟩ := g1.use)
      go_ret
      exact ⟨rfl, (by repeat (first | with_reducible exact Gr.refl _ | with_reducible assumption | with_reducible refine Gr.alloc ?_ _ | with_reducible refine Gr.drewN ?_ _ | with_reducible refine Gr.drew ?_ | with_reducible refine Gr.setCell ?_ (by first | (dsimp only; omega) | (simp only [World.size_alloc]; omega) | (with_reducible refine Gr.size ?_; (repeat (first | with_reducible exact Gr.refl _ | with_reducible assumption | with_reducible refine Gr.alloc ?_ _ | with_reducible refine Gr.drewN ?_ _ | with_reducible refine Gr.drew ?_ | with_reducible refine Gr.trans ?_ (by with_reducible assumption))); done)) _ | with_reducible refine Gr.trans ?_ (by with_reducible assumption)))⟩
    · have p1 : (p == 0) = false := by simpa using hp
      have p2 : (p != 0) = true := by simpa using hp
      clear hz hp ht
      go_enter Try.func3, Try.ntmps3
      go_wp2_with (go_at_call 4; refine (many_any _ _ _ _).mono ?_; rintro e w1 ⟨rfl, rfl⟩)
      refine H1.out.mono ?_
      rintro e w1 ⟨rfl, g1⟩
      go_wp2_with fail
      refine (H2.out _ g1).mono ?_
      rintro e w2 ⟨rfl, g2⟩
      have g12 := g1.trans g2
      go_wp2_with fail
      refine (H3.out _ g12).mono ?_
      rintro e w3 ⟨rfl, g3⟩
      have g13 := g12.trans g3
      clear H1 H2 H3 g12
      go_wp2_with (go_at_call 5; refine (unit_any _).mono ?_; rintro e w1 ⟨rfl, g1⟩; obtain ⟨X1, Y1, c1, f1⟩ := g1.use)
      go_ret
      exact ⟨rfl, (by repeat (first | with_reducible exact Gr.refl _ | with_reducible assumption | with_reducible refine Gr.alloc ?_ _ | with_reducible refine Gr.drewN ?_ _ | with_reducible refine Gr.drew ?_ | with_reducible refine Gr.setCell ?_ (by first | (dsimp only; omega) | (simp only [World.size_alloc]; omega) | (with_reducible refine Gr.size ?_; (repeat (first | with_reducible exact Gr.refl _ | with_reducible assumption | with_reducible refine Gr.alloc ?_ _ | with_reducible refine Gr.drewN ?_ _ | with_reducible refine Gr.drew ?_ | with_reducible refine Gr.trans ?_ (by with_reducible assumption))); done)) _ | with_reducible refine Gr.trans ?_ (by with_reducible assumption)))⟩
  case pos =>
    have HI := hide (ceL_zero hz.1).2
    have H4 := hide (fun (w' : World) (g : Gr w w') => Outline_any A c l w' (hl.gr g))
    have H5 := hide (fun (w' : World) (g : Gr w w') => Outline_any B d m w' (hm.gr g))
    have H6 := hide (fun (w' : World) (g : Gr w w') => both_any A c l B d m w' (hl.gr g) (hm.gr g) (by omega) (by omega))
    have H7 := hide (fun (D : Option Addr) (q : Nat) (w' : World) (h : SlR w' D q (l ++ m)) => by
      have := Area_any D q (l ++ m) w' h
      rwa [List.length_append] at this)
    obtain ⟨t1, t2, t3, ⟨x0, x1⟩, ⟨y0, y1⟩, ⟨sx0, sx1⟩, ⟨sy0, sy1⟩, t4, t5⟩ := two_of hz.1 hz.2
    have HS := hide (fun n => sumA_bd HI.out n)
    have T3 := hide t3
    have T4 := hide t4
    have T5 := hide t5
    rw [hz.1] at H1 H4
    rw [hz.2] at H2 H5
    rw [t1] at H3
    have T2 := hide t2
    clear t1 t2 t3 t4 t5 hl hm hz
    generalize arV l = x at *
    generalize arV m = y at *
    generalize arV (l ++ m) = z at *
    generalize ceL (l ++ m) = k at *
    generalize srB l m = s at *
    generalize outV l = L at *
    generalize outV m = K at *
    have hss : (s != s) = false := by simp
    have hss' : (s == s) = true := by simp
    go_enter Try.func3, Try.ntmps3
    go_wp2_with (go_at_call 4; refine (many_any _ _ _ _).mono ?_; rintro e w1 ⟨rfl, rfl⟩)
    refine H1.out.mono ?_
    rintro e w1 ⟨rfl, g1⟩
    go_wp2_with fail
    refine (H2.out _ g1).mono ?_
    rintro e w2 ⟨rfl, g2⟩
    have g12 := g1.trans g2
    go_wp2_with fail
    refine (H3.out _ g12).mono ?_
    rintro e w3 ⟨rfl, g3⟩
    have g13 := g12.trans g3
    clear H1 H2 H3 g12
    go_wp2_with fail
    refine (H4.out _ g13).mono ?_
    rintro e w4 ⟨A1, d1, rfl, hO1, g4⟩
    have g14 := g13.trans g4
    have HO1 := hide hO1
    clear hO1
    go_wp2_with fail
    refine (H5.out _ g14).mono ?_
    rintro e w5 ⟨A2, d2, rfl, hO2, g5⟩
    have g15 := g14.trans g5
    obtain ⟨_, r1, r2, r3⟩ := OwnL.rd (c := sgL) (fun _ => rfl) (OwnL.gr HO1.out g5)
    obtain ⟨_, r4, r5, r6⟩ := OwnL.rd (c := sgL) (fun _ => rfl) hO2
    have H8 := hide (fun (w' : World) (g : Gr w5 w') => sameSegs2_any A1 A2 d1 d2 L K w' (r1.gr g) (r4.gr g) r2 (by unfold maxLen at r3; omega) r5 (by unfold maxLen at r6; omega))
    rw [T2.out] at H8
    clear r1 r4 HO1 hO2 H4 H5 g13 g14 T2
    go_wp2_with fail
    refine (H8.out _ (Gr.refl _)).mono ?_
    rintro e w6 ⟨rfl, g6⟩
    have g16 := g15.trans g6
    clear H8
    go_wp2_with fail
    refine (H6.out _ g16).mono ?_
    rintro e w7 ⟨D, q, rfl, hD, g7⟩
    have g17 := g16.trans g7
    have HD := hide hD
    clear hD g15 g16 H6
    go_wp2_with fail
    refine (H7.out D q _ HD.out).mono ?_
    rintro e w8 ⟨rfl, g8⟩
    have g18 := g17.trans g8
    clear H7 HD g17
    obtain ⟨b, hb⟩ : ∃ b, apA l l.length = b := ⟨_, rfl⟩
    have HB := hide hb
    obtain ⟨T, hT⟩ : ∃ T, sumA l = T := ⟨_, rfl⟩
    have HT := hide hT
    rw [hb, hT] at T4
    rw [hT] at x1 sx0 sx1
    clear hb hT
    have hxy : IntKind.i64.wrap (x + y) = x + y := IntWalk.i64_in _ (by omega)
    have hsplit : (k ≠ 0) ∨ (k = 0 ∧ s = true ∧ z = x ∧ z = y) ∨ (k = 0 ∧ s = false ∧ z ≠ x ∧ x ≤ z ∧ y ≤ z ∧ z ≤ x + y) ∨ (k = 0 ∧ s = false ∧ z = x ∧ z ≠ y ∧ y ≤ z ∧ z ≤ x + y) := by
      by_cases hk : k = 0
      · obtain ⟨a1, a2, a3, a4, a5⟩ := T3.out hk
        cases hs : s with
        | true =>
          have := a1 hs
          exact .inr (.inl ⟨hk, rfl, this.1, this.2⟩)
        | false =>
          have := a2 hs
          by_cases h1 : z = x
          · exact .inr (.inr (.inr ⟨hk, rfl, h1, fun h2 => this ⟨h1, h2⟩, a4, a5⟩))
          · exact .inr (.inr (.inl ⟨hk, rfl, h1, a3, a4, a5⟩))
      · exact .inl hk
    have HSP := hide hsplit
    clear hsplit T3
    --SPLIT
    rcases HSP.out with hk | ⟨hk, hs, h1, h2⟩ | ⟨hk, hs, h1, h3, h4, h5⟩ | ⟨hk, hs, h1, h2, h4, h5⟩
    · have k1 : (k == 0) = false := by simpa using hk
      clear hk HSP
      go_wp2_with fail
      clear g1 g2 g3 g4 g5 g6 g7 g8 r2 r3 r5 r6
      go_loopw [17, 18, 19] (fun sv av iv' wr => ∃ n : Nat, n ≤ l.length ∧ iv' = iv n ∧ sv = iv (sumA (l.take n)) ∧ av = .bool (apA l n) ∧ Gr w wr) (fun _ _ i _ => l.length - (intOf i).toNat)
      case atStart => exact ⟨0, by omega, rfl, rfl, rfl, g18⟩
      case round =>
        obtain ⟨n, hn, rfl, rfl, rfl, g⟩ := hrel
        by_cases hnl : n < l.length
        · obtain ⟨r, hr⟩ : ∃ r, l[n]? = some r := ⟨_, List.getElem?_eq_getElem hnl⟩
          obtain ⟨bl, o, rfl, c0, c1, c2, c3⟩ := (HL.out.gr g).at_ hr
          have hi := HI.out r (List.mem_of_getElem? hr)
          have HIR := hide hi
          have a1 := hi.w; have a2 := hi.h; have a3 := hi.x; have a4 := hi.y; have a5 := hi.x'; have a6 := hi.y'
          have bd := HS.out n
          have b1 : 0 ≤ r.w * r.h := Int.mul_nonneg (by omega) (by omega)
          have b2 : r.w * r.h ≤ 2097152 * 2097152 := Int.mul_le_mul (by omega) (by omega) (by omega) (by omega)
          have HNX := hide (show sumA (l.take (n + 1)) = sumA (l.take n) + r.w * r.h by rw [List.take_add_one, hr]; simp [sumA])
          have HAX := hide (show apA l (n + 1) = apI l r (apA l n) n by show apI l (l[n]?.getD _) _ _ = _; rw [hr]; rfl)
          have hn0 : (0 : Int) ≤ (n : Int) := by omega
          have hn1 : (n : Int) < (l.length : Int) := by omega
          have s1 : IntKind.i64.wrap (r.w * r.h) = r.w * r.h := IntWalk.i64_in _ (by omega)
          have s2 : IntKind.i64.wrap (sumA (l.take n) + r.w * r.h) = sumA (l.take n) + r.w * r.h := IntWalk.i64_in _ (by omega)
          have s3 : IntKind.i64.wrap ((n : Int) + 1) = (n : Int) + 1 := IntWalk.i64_in _ (by omega)
          obtain ⟨ap, hap⟩ : ∃ ap, apA l n = ap := ⟨_, rfl⟩
          rw [hap] at HAX
          rw [hap]
          obtain ⟨t, ht⟩ : ∃ t, sumA (l.take n) = t := ⟨_, rfl⟩
          rw [ht] at HNX s2 bd
          rw [ht]
          have HR := hide hr
          clear hap ht hi hr
          go_wp2
          have GC := @GrW.cell
          refine wp_region_grw _ (by kernel_rfl) (by kernel_rfl) (Gr.refl _) ?_
          repeat (go_big_quiet_step ((first | fail)))
          refine wpQuiet_nil ?_
          intro wq hwq
          obtain ⟨gq, hwq'⟩ := hwq
          subst hwq'
          clear GC
          have gq1 := gq.gr
          generalize gq.w = wq at gq1 ⊢
          obtain ⟨Xq, Yq, cq, fq⟩ := gq1.use
          have sq := gq1.size
          (try simp only [World.size_alloc, World.size_setCell, World.heap_drewN] at sq)
          go_wp2
          clear c0 c1 c2 c3
          go_loopw [18, 20] (fun av ov wr => ∃ o' : Nat, o' ≤ n ∧ ov = iv o' ∧ av = .bool (apI l r ap o') ∧ Gr w wr) (fun _ i _ => n - (intOf i).toNat)
          case atStart => exact ⟨0, by omega, rfl, rfl, (by repeat (first | with_reducible exact Gr.refl _ | with_reducible assumption | with_reducible refine Gr.alloc ?_ _ | with_reducible refine Gr.drewN ?_ _ | with_reducible refine Gr.drew ?_ | with_reducible refine Gr.setCell ?_ (by first | (dsimp only; omega) | (simp only [World.size_alloc]; omega) | (with_reducible refine Gr.size ?_; (repeat (first | with_reducible exact Gr.refl _ | with_reducible assumption | with_reducible refine Gr.alloc ?_ _ | with_reducible refine Gr.drewN ?_ _ | with_reducible refine Gr.drew ?_ | with_reducible refine Gr.trans ?_ (by with_reducible assumption))); done)) _ | with_reducible refine Gr.trans ?_ (by with_reducible assumption)))⟩
          case round =>
            clear g
            obtain ⟨o', ho, rfl, rfl, g⟩ := hrel
            by_cases hol : o' < n
            · obtain ⟨u, hu⟩ : ∃ u, l[o']? = some u := ⟨_, List.getElem?_eq_getElem (by omega)⟩
              obtain ⟨bl', o2, eqA, d0, d1', d2', d3⟩ := (HL.out.gr g).at_ hu
              cases eqA
              obtain ⟨_, _, eqA, c0, c1, c2, c3⟩ := (HL.out.gr g).at_ HR.out
              cases eqA
              have HU := hide (HI.out u (List.mem_of_getElem? hu))
              have HAX2 := hide (show apI l r ap (o' + 1) = (apI l r ap o' && !ovR r u) by show (_ && !ovR r (l[o']?.getD _)) = _; rw [hu]; rfl)
              have ho0 : (0 : Int) ≤ (o' : Int) := by omega
              have ho1 : (o' : Int) < (n : Int) := by omega
              have ho2 : (o' : Int) < (l.length : Int) := by omega
              have HOV := hide (fun w' => Overlap_any r u w' HIR.out HU.out)
              obtain ⟨ax, hax⟩ : ∃ ax, apI l r ap o' = ax := ⟨_, rfl⟩
              obtain ⟨ov, hov⟩ : ∃ ov, ovR r u = ov := ⟨_, rfl⟩
              rw [hax, hov] at HAX2
              rw [hov] at HOV
              rw [hax]
              clear hax hov hu
              cases ax
              · go_wp2
                have GC := @GrW.cell
                refine wp_region_grw _ (by kernel_rfl) (by kernel_rfl) (Gr.refl _) ?_
                repeat (go_big_quiet_step ((first | fail)))
                refine wpQuiet_nil ?_
                intro wq hwq
                obtain ⟨gq, hwq'⟩ := hwq
                subst hwq'
                clear GC
                have gq1 := gq.gr
                generalize gq.w = wq at gq1 ⊢
                obtain ⟨Xq, Yq, cq, fq⟩ := gq1.use
                have sq := gq1.size
                (try simp only [World.size_alloc, World.size_setCell, World.heap_drewN] at sq)
                go_wp2
                go_roundw
                case rel => exact ⟨o' + 1, by omega, by go_num, by rw [HAX2.out]; rfl, (by repeat (first | with_reducible exact Gr.refl _ | with_reducible assumption | with_reducible refine Gr.alloc ?_ _ | with_reducible refine Gr.drewN ?_ _ | with_reducible refine Gr.drew ?_ | with_reducible refine Gr.setCell ?_ (by first | (dsimp only; omega) | (simp only [World.size_alloc]; omega) | (with_reducible refine Gr.size ?_; (repeat (first | with_reducible exact Gr.refl _ | with_reducible assumption | with_reducible refine Gr.alloc ?_ _ | with_reducible refine Gr.drewN ?_ _ | with_reducible refine Gr.drew ?_ | with_reducible refine Gr.trans ?_ (by with_reducible assumption))); done)) _ | with_reducible refine Gr.trans ?_ (by with_reducible assumption)))⟩
                case measure => simp only [intOf]; omega
              · cases ov <;>
                · go_wp2
                  have GC := @GrW.cell
                  refine wp_region_grw _ (by kernel_rfl) (by kernel_rfl) (Gr.refl _) ?_
                  repeat (go_big_quiet_step ((first | (go_at_call 11; exact quiet_grw (HOV.out _)))))
                  refine wpQuiet_nil ?_
                  intro wq hwq
                  obtain ⟨gq, hwq'⟩ := hwq
                  subst hwq'
                  clear GC
                  have gq1 := gq.gr
                  generalize gq.w = wq at gq1 ⊢
                  obtain ⟨Xq, Yq, cq, fq⟩ := gq1.use
                  have sq := gq1.size
                  (try simp only [World.size_alloc, World.size_setCell, World.heap_drewN] at sq)
                  go_wp2
                  go_roundw
                  case rel => exact ⟨o' + 1, by omega, by go_num, by rw [HAX2.out]; rfl, (by repeat (first | with_reducible exact Gr.refl _ | with_reducible assumption | with_reducible refine Gr.alloc ?_ _ | with_reducible refine Gr.drewN ?_ _ | with_reducible refine Gr.drew ?_ | with_reducible refine Gr.setCell ?_ (by first | (dsimp only; omega) | (simp only [World.size_alloc]; omega) | (with_reducible refine Gr.size ?_; (repeat (first | with_reducible exact Gr.refl _ | with_reducible assumption | with_reducible refine Gr.alloc ?_ _ | with_reducible refine Gr.drewN ?_ _ | with_reducible refine Gr.drew ?_ | with_reducible refine Gr.trans ?_ (by with_reducible assumption))); done)) _ | with_reducible refine Gr.trans ?_ (by with_reducible assumption)))⟩
                  case measure => simp only [intOf]; omega
            · obtain rfl : o' = n := by omega
              go_wp2
              go_roundw
              case rel => exact ⟨o' + 1, by omega, by go_num, by rw [HNX.out], by rw [HAX.out], (by repeat (first | with_reducible exact Gr.refl _ | with_reducible assumption | with_reducible refine Gr.alloc ?_ _ | with_reducible refine Gr.drewN ?_ _ | with_reducible refine Gr.drew ?_ | with_reducible refine Gr.setCell ?_ (by first | (dsimp only; omega) | (simp only [World.size_alloc]; omega) | (with_reducible refine Gr.size ?_; (repeat (first | with_reducible exact Gr.refl _ | with_reducible assumption | with_reducible refine Gr.alloc ?_ _ | with_reducible refine Gr.drewN ?_ _ | with_reducible refine Gr.drew ?_ | with_reducible refine Gr.trans ?_ (by with_reducible assumption))); done)) _ | with_reducible refine Gr.trans ?_ (by with_reducible assumption)))⟩
              case measure => simp only [intOf]; omega
        · obtain rfl : n = l.length := by omega
          rw [List.take_length, HT.out, HB.out]
          have hn1 : ¬ ((l.length : Int) < (l.length : Int)) := by omega
          have f0 : x ≤ T := x1
          rcases (show (b = true ∧ x = T) ∨ (b = false ∧ x ≠ T) by
            cases hb : b with
            | true => exact .inl ⟨rfl, T4.1 hb⟩
            | false => exact .inr ⟨rfl, fun e => by have := T4.2 e; rw [hb] at this; cases this⟩) with ⟨rfl, f1⟩ | ⟨rfl, f1⟩
          all_goals rcases (show ((l.length : Int) = 0 ∧ (L.length : Int) = 0) ∨ ((l.length : Int) ≠ 0 ∧ (L.length : Int) ≠ 0) by
            have := T5.out
            omega) with ⟨f2, f3⟩ | ⟨f2, f3⟩
          all_goals
            first
            | (have f1' : (x == T) = true := by simpa using f1)
            | (have f1' : (x == T) = false := by simpa using f1)
          all_goals
            first
            | (have f2' : ((l.length : Int) == 0) = true := by simpa using f2
               have f3' : ((L.length : Int) == 0) = true := by simpa using f3)
            | (have f2' : ((l.length : Int) == 0) = false := by simpa using f2
               have f3' : ((L.length : Int) == 0) = false := by simpa using f3)
          all_goals clear T4 f1 f2 f3 HS HB HT T5 HI
          all_goals
            go_wp2_with (go_at_call 5; refine (unit_any _).mono ?_; rintro e w1 ⟨rfl, g1⟩; obtain ⟨X1, Y1, c1, f1⟩ := g1.use)
            go_ret
            exact ⟨rfl, (by repeat (first | with_reducible exact Gr.refl _ | with_reducible assumption | with_reducible refine Gr.alloc ?_ _ | with_reducible refine Gr.drewN ?_ _ | with_reducible refine Gr.drew ?_ | with_reducible refine Gr.setCell ?_ (by first | (dsimp only; omega) | (simp only [World.size_alloc]; omega) | (with_reducible refine Gr.size ?_; (repeat (first | with_reducible exact Gr.refl _ | with_reducible assumption | with_reducible refine Gr.alloc ?_ _ | with_reducible refine Gr.drewN ?_ _ | with_reducible refine Gr.drew ?_ | with_reducible refine Gr.trans ?_ (by with_reducible assumption))); done)) _ | with_reducible refine Gr.trans ?_ (by with_reducible assumption)))⟩
    · subst hk hs
      have e1 : (z == x) = true := by simpa using h1
      have e2 : (z == y) = true := by simpa using h2
      have l1 : ¬ z < x := by omega
      have l2 : ¬ z < y := by omega
      have l3 : ¬ x + y < z := by omega
      clear h1 h2 HSP
      go_wp2_with fail
      clear g1 g2 g3 g4 g5 g6 g7 g8 r2 r3 r5 r6
      go_loopw [17, 18, 19] (fun sv av iv' wr => ∃ n : Nat, n ≤ l.length ∧ iv' = iv n ∧ sv = iv (sumA (l.take n)) ∧ av = .bool (apA l n) ∧ Gr w wr) (fun _ _ i _ => l.length - (intOf i).toNat)
      case atStart => exact ⟨0, by omega, rfl, rfl, rfl, g18⟩
      case round =>
        obtain ⟨n, hn, rfl, rfl, rfl, g⟩ := hrel
        by_cases hnl : n < l.length
        · obtain ⟨r, hr⟩ : ∃ r, l[n]? = some r := ⟨_, List.getElem?_eq_getElem hnl⟩
          obtain ⟨bl, o, rfl, c0, c1, c2, c3⟩ := (HL.out.gr g).at_ hr
          have hi := HI.out r (List.mem_of_getElem? hr)
          have HIR := hide hi
          have a1 := hi.w; have a2 := hi.h; have a3 := hi.x; have a4 := hi.y; have a5 := hi.x'; have a6 := hi.y'
          have bd := HS.out n
          have b1 : 0 ≤ r.w * r.h := Int.mul_nonneg (by omega) (by omega)
          have b2 : r.w * r.h ≤ 2097152 * 2097152 := Int.mul_le_mul (by omega) (by omega) (by omega) (by omega)
          have HNX := hide (show sumA (l.take (n + 1)) = sumA (l.take n) + r.w * r.h by rw [List.take_add_one, hr]; simp [sumA])
          have HAX := hide (show apA l (n + 1) = apI l r (apA l n) n by show apI l (l[n]?.getD _) _ _ = _; rw [hr]; rfl)
          have hn0 : (0 : Int) ≤ (n : Int) := by omega
          have hn1 : (n : Int) < (l.length : Int) := by omega
          have s1 : IntKind.i64.wrap (r.w * r.h) = r.w * r.h := IntWalk.i64_in _ (by omega)
          have s2 : IntKind.i64.wrap (sumA (l.take n) + r.w * r.h) = sumA (l.take n) + r.w * r.h := IntWalk.i64_in _ (by omega)
          have s3 : IntKind.i64.wrap ((n : Int) + 1) = (n : Int) + 1 := IntWalk.i64_in _ (by omega)
          obtain ⟨ap, hap⟩ : ∃ ap, apA l n = ap := ⟨_, rfl⟩
          rw [hap] at HAX
          rw [hap]
          obtain ⟨t, ht⟩ : ∃ t, sumA (l.take n) = t := ⟨_, rfl⟩
          rw [ht] at HNX s2 bd
          rw [ht]
          have HR := hide hr
          clear hap ht hi hr
          go_wp2
          have GC := @GrW.cell
          refine wp_region_grw _ (by kernel_rfl) (by kernel_rfl) (Gr.refl _) ?_
          repeat (go_big_quiet_step ((first | fail)))
          refine wpQuiet_nil ?_
          intro wq hwq
          obtain ⟨gq, hwq'⟩ := hwq
          subst hwq'
          clear GC
          have gq1 := gq.gr
          generalize gq.w = wq at gq1 ⊢
          obtain ⟨Xq, Yq, cq, fq⟩ := gq1.use
          have sq := gq1.size
          (try simp only [World.size_alloc, World.size_setCell, World.heap_drewN] at sq)
          go_wp2
          clear c0 c1 c2 c3
          go_loopw [18, 20] (fun av ov wr => ∃ o' : Nat, o' ≤ n ∧ ov = iv o' ∧ av = .bool (apI l r ap o') ∧ Gr w wr) (fun _ i _ => n - (intOf i).toNat)
          case atStart => exact ⟨0, by omega, rfl, rfl, (by repeat (first | with_reducible exact Gr.refl _ | with_reducible assumption | with_reducible refine Gr.alloc ?_ _ | with_reducible refine Gr.drewN ?_ _ | with_reducible refine Gr.drew ?_ | with_reducible refine Gr.setCell ?_ (by first | (dsimp only; omega) | (simp only [World.size_alloc]; omega) | (with_reducible refine Gr.size ?_; (repeat (first | with_reducible exact Gr.refl _ | with_reducible assumption | with_reducible refine Gr.alloc ?_ _ | with_reducible refine Gr.drewN ?_ _ | with_reducible refine Gr.drew ?_ | with_reducible refine Gr.trans ?_ (by with_reducible assumption))); done)) _ | with_reducible refine Gr.trans ?_ (by with_reducible assumption)))⟩
          case round =>
            clear g
            obtain ⟨o', ho, rfl, rfl, g⟩ := hrel
            by_cases hol : o' < n
            · obtain ⟨u, hu⟩ : ∃ u, l[o']? = some u := ⟨_, List.getElem?_eq_getElem (by omega)⟩
              obtain ⟨bl', o2, eqA, d0, d1', d2', d3⟩ := (HL.out.gr g).at_ hu
              cases eqA
              obtain ⟨_, _, eqA, c0, c1, c2, c3⟩ := (HL.out.gr g).at_ HR.out
              cases eqA
              have HU := hide (HI.out u (List.mem_of_getElem? hu))
              have HAX2 := hide (show apI l r ap (o' + 1) = (apI l r ap o' && !ovR r u) by show (_ && !ovR r (l[o']?.getD _)) = _; rw [hu]; rfl)
              have ho0 : (0 : Int) ≤ (o' : Int) := by omega
              have ho1 : (o' : Int) < (n : Int) := by omega
              have ho2 : (o' : Int) < (l.length : Int) := by omega
              have HOV := hide (fun w' => Overlap_any r u w' HIR.out HU.out)
              obtain ⟨ax, hax⟩ : ∃ ax, apI l r ap o' = ax := ⟨_, rfl⟩
              obtain ⟨ov, hov⟩ : ∃ ov, ovR r u = ov := ⟨_, rfl⟩
              rw [hax, hov] at HAX2
              rw [hov] at HOV
              rw [hax]
              clear hax hov hu
              cases ax
              · go_wp2
                have GC := @GrW.cell
                refine wp_region_grw _ (by kernel_rfl) (by kernel_rfl) (Gr.refl _) ?_
                repeat (go_big_quiet_step ((first | fail)))
                refine wpQuiet_nil ?_
                intro wq hwq
                obtain ⟨gq, hwq'⟩ := hwq
                subst hwq'
                clear GC
                have gq1 := gq.gr
                generalize gq.w = wq at gq1 ⊢
                obtain ⟨Xq, Yq, cq, fq⟩ := gq1.use
                have sq := gq1.size
                (try simp only [World.size_alloc, World.size_setCell, World.heap_drewN] at sq)
                go_wp2
                go_roundw
                case rel => exact ⟨o' + 1, by omega, by go_num, by rw [HAX2.out]; rfl, (by repeat (first | with_reducible exact Gr.refl _ | with_reducible assumption | with_reducible refine Gr.alloc ?_ _ | with_reducible refine Gr.drewN ?_ _ | with_reducible refine Gr.drew ?_ | with_reducible refine Gr.setCell ?_ (by first | (dsimp only; omega) | (simp only [World.size_alloc]; omega) | (with_reducible refine Gr.size ?_; (repeat (first | with_reducible exact Gr.refl _ | with_reducible assumption | with_reducible refine Gr.alloc ?_ _ | with_reducible refine Gr.drewN ?_ _ | with_reducible refine Gr.drew ?_ | with_reducible refine Gr.trans ?_ (by with_reducible assumption))); done)) _ | with_reducible refine Gr.trans ?_ (by with_reducible assumption)))⟩
                case measure => simp only [intOf]; omega
              · cases ov <;>
                · go_wp2
                  have GC := @GrW.cell
                  refine wp_region_grw _ (by kernel_rfl) (by kernel_rfl) (Gr.refl _) ?_
                  repeat (go_big_quiet_step ((first | (go_at_call 11; exact quiet_grw (HOV.out _)))))
                  refine wpQuiet_nil ?_
                  intro wq hwq
                  obtain ⟨gq, hwq'⟩ := hwq
                  subst hwq'
                  clear GC
                  have gq1 := gq.gr
                  generalize gq.w = wq at gq1 ⊢
                  obtain ⟨Xq, Yq, cq, fq⟩ := gq1.use
                  have sq := gq1.size
                  (try simp only [World.size_alloc, World.size_setCell, World.heap_drewN] at sq)
                  go_wp2
                  go_roundw
                  case rel => exact ⟨o' + 1, by omega, by go_num, by rw [HAX2.out]; rfl, (by repeat (first | with_reducible exact Gr.refl _ | with_reducible assumption | with_reducible refine Gr.alloc ?_ _ | with_reducible refine Gr.drewN ?_ _ | with_reducible refine Gr.drew ?_ | with_reducible refine Gr.setCell ?_ (by first | (dsimp only; omega) | (simp only [World.size_alloc]; omega) | (with_reducible refine Gr.size ?_; (repeat (first | with_reducible exact Gr.refl _ | with_reducible assumption | with_reducible refine Gr.alloc ?_ _ | with_reducible refine Gr.drewN ?_ _ | with_reducible refine Gr.drew ?_ | with_reducible refine Gr.trans ?_ (by with_reducible assumption))); done)) _ | with_reducible refine Gr.trans ?_ (by with_reducible assumption)))⟩
                  case measure => simp only [intOf]; omega
            · obtain rfl : o' = n := by omega
              go_wp2
              go_roundw
              case rel => exact ⟨o' + 1, by omega, by go_num, by rw [HNX.out], by rw [HAX.out], (by repeat (first | with_reducible exact Gr.refl _ | with_reducible assumption | with_reducible refine Gr.alloc ?_ _ | with_reducible refine Gr.drewN ?_ _ | with_reducible refine Gr.drew ?_ | with_reducible refine Gr.setCell ?_ (by first | (dsimp only; omega) | (simp only [World.size_alloc]; omega) | (with_reducible refine Gr.size ?_; (repeat (first | with_reducible exact Gr.refl _ | with_reducible assumption | with_reducible refine Gr.alloc ?_ _ | with_reducible refine Gr.drewN ?_ _ | with_reducible refine Gr.drew ?_ | with_reducible refine Gr.trans ?_ (by with_reducible assumption))); done)) _ | with_reducible refine Gr.trans ?_ (by with_reducible assumption)))⟩
              case measure => simp only [intOf]; omega
        · obtain rfl : n = l.length := by omega
          rw [List.take_length, HT.out, HB.out]
          have hn1 : ¬ ((l.length : Int) < (l.length : Int)) := by omega
          have f0 : x ≤ T := x1
          rcases (show (b = true ∧ x = T) ∨ (b = false ∧ x ≠ T) by
            cases hb : b with
            | true => exact .inl ⟨rfl, T4.1 hb⟩
            | false => exact .inr ⟨rfl, fun e => by have := T4.2 e; rw [hb] at this; cases this⟩) with ⟨rfl, f1⟩ | ⟨rfl, f1⟩
          all_goals rcases (show ((l.length : Int) = 0 ∧ (L.length : Int) = 0) ∨ ((l.length : Int) ≠ 0 ∧ (L.length : Int) ≠ 0) by
            have := T5.out
            omega) with ⟨f2, f3⟩ | ⟨f2, f3⟩
          all_goals
            first
            | (have f1' : (x == T) = true := by simpa using f1)
            | (have f1' : (x == T) = false := by simpa using f1)
          all_goals
            first
            | (have f2' : ((l.length : Int) == 0) = true := by simpa using f2
               have f3' : ((L.length : Int) == 0) = true := by simpa using f3)
            | (have f2' : ((l.length : Int) == 0) = false := by simpa using f2
               have f3' : ((L.length : Int) == 0) = false := by simpa using f3)
          all_goals clear T4 f1 f2 f3 HS HB HT T5 HI
          all_goals
            go_wp2_with (go_at_call 5; refine (unit_any _).mono ?_; rintro e w1 ⟨rfl, g1⟩; obtain ⟨X1, Y1, c1, f1⟩ := g1.use)
            go_ret
            exact ⟨rfl, (by repeat (first | with_reducible exact Gr.refl _ | with_reducible assumption | with_reducible refine Gr.alloc ?_ _ | with_reducible refine Gr.drewN ?_ _ | with_reducible refine Gr.drew ?_ | with_reducible refine Gr.setCell ?_ (by first | (dsimp only; omega) | (simp only [World.size_alloc]; omega) | (with_reducible refine Gr.size ?_; (repeat (first | with_reducible exact Gr.refl _ | with_reducible assumption | with_reducible refine Gr.alloc ?_ _ | with_reducible refine Gr.drewN ?_ _ | with_reducible refine Gr.drew ?_ | with_reducible refine Gr.trans ?_ (by with_reducible assumption))); done)) _ | with_reducible refine Gr.trans ?_ (by with_reducible assumption)))⟩
    · subst hk hs
      have e1 : (z == x) = false := by simpa using h1
      have l1 : ¬ z < x := by omega
      have l2 : ¬ z < y := by omega
      have l3 : ¬ x + y < z := by omega
      clear h1 h3 h4 h5 HSP
      go_wp2_with fail
      clear g1 g2 g3 g4 g5 g6 g7 g8 r2 r3 r5 r6
      go_loopw [17, 18, 19] (fun sv av iv' wr => ∃ n : Nat, n ≤ l.length ∧ iv' = iv n ∧ sv = iv (sumA (l.take n)) ∧ av = .bool (apA l n) ∧ Gr w wr) (fun _ _ i _ => l.length - (intOf i).toNat)
      case atStart => exact ⟨0, by omega, rfl, rfl, rfl, g18⟩
      case round =>
        obtain ⟨n, hn, rfl, rfl, rfl, g⟩ := hrel
        by_cases hnl : n < l.length
        · obtain ⟨r, hr⟩ : ∃ r, l[n]? = some r := ⟨_, List.getElem?_eq_getElem hnl⟩
          obtain ⟨bl, o, rfl, c0, c1, c2, c3⟩ := (HL.out.gr g).at_ hr
          have hi := HI.out r (List.mem_of_getElem? hr)
          have HIR := hide hi
          have a1 := hi.w; have a2 := hi.h; have a3 := hi.x; have a4 := hi.y; have a5 := hi.x'; have a6 := hi.y'
          have bd := HS.out n
          have b1 : 0 ≤ r.w * r.h := Int.mul_nonneg (by omega) (by omega)
          have b2 : r.w * r.h ≤ 2097152 * 2097152 := Int.mul_le_mul (by omega) (by omega) (by omega) (by omega)
          have HNX := hide (show sumA (l.take (n + 1)) = sumA (l.take n) + r.w * r.h by rw [List.take_add_one, hr]; simp [sumA])
          have HAX := hide (show apA l (n + 1) = apI l r (apA l n) n by show apI l (l[n]?.getD _) _ _ = _; rw [hr]; rfl)
          have hn0 : (0 : Int) ≤ (n : Int) := by omega
          have hn1 : (n : Int) < (l.length : Int) := by omega
          have s1 : IntKind.i64.wrap (r.w * r.h) = r.w * r.h := IntWalk.i64_in _ (by omega)
          have s2 : IntKind.i64.wrap (sumA (l.take n) + r.w * r.h) = sumA (l.take n) + r.w * r.h := IntWalk.i64_in _ (by omega)
          have s3 : IntKind.i64.wrap ((n : Int) + 1) = (n : Int) + 1 := IntWalk.i64_in _ (by omega)
          obtain ⟨ap, hap⟩ : ∃ ap, apA l n = ap := ⟨_, rfl⟩
          rw [hap] at HAX
          rw [hap]
          obtain ⟨t, ht⟩ : ∃ t, sumA (l.take n) = t := ⟨_, rfl⟩
          rw [ht] at HNX s2 bd
          rw [ht]
          have HR := hide hr
          clear hap ht hi hr
          go_wp2
          have GC := @GrW.cell
          refine wp_region_grw _ (by kernel_rfl) (by kernel_rfl) (Gr.refl _) ?_
          repeat (go_big_quiet_step ((first | fail)))
          refine wpQuiet_nil ?_
          intro wq hwq
          obtain ⟨gq, hwq'⟩ := hwq
          subst hwq'
          clear GC
          have gq1 := gq.gr
          generalize gq.w = wq at gq1 ⊢
          obtain ⟨Xq, Yq, cq, fq⟩ := gq1.use
          have sq := gq1.size
          (try simp only [World.size_alloc, World.size_setCell, World.heap_drewN] at sq)
          go_wp2
          clear c0 c1 c2 c3
          go_loopw [18, 20] (fun av ov wr => ∃ o' : Nat, o' ≤ n ∧ ov = iv o' ∧ av = .bool (apI l r ap o') ∧ Gr w wr) (fun _ i _ => n - (intOf i).toNat)
          case atStart => exact ⟨0, by omega, rfl, rfl, (by repeat (first | with_reducible exact Gr.refl _ | with_reducible assumption | with_reducible refine Gr.alloc ?_ _ | with_reducible refine Gr.drewN ?_ _ | with_reducible refine Gr.drew ?_ | with_reducible refine Gr.setCell ?_ (by first | (dsimp only; omega) | (simp only [World.size_alloc]; omega) | (with_reducible refine Gr.size ?_; (repeat (first | with_reducible exact Gr.refl _ | with_reducible assumption | with_reducible refine Gr.alloc ?_ _ | with_reducible refine Gr.drewN ?_ _ | with_reducible refine Gr.drew ?_ | with_reducible refine Gr.trans ?_ (by with_reducible assumption))); done)) _ | with_reducible refine Gr.trans ?_ (by with_reducible assumption)))⟩
          case round =>
            clear g
            obtain ⟨o', ho, rfl, rfl, g⟩ := hrel
            by_cases hol : o' < n
            · obtain ⟨u, hu⟩ : ∃ u, l[o']? = some u := ⟨_, List.getElem?_eq_getElem (by omega)⟩
              obtain ⟨bl', o2, eqA, d0, d1', d2', d3⟩ := (HL.out.gr g).at_ hu
              cases eqA
              obtain ⟨_, _, eqA, c0, c1, c2, c3⟩ := (HL.out.gr g).at_ HR.out
              cases eqA
              have HU := hide (HI.out u (List.mem_of_getElem? hu))
              have HAX2 := hide (show apI l r ap (o' + 1) = (apI l r ap o' && !ovR r u) by show (_ && !ovR r (l[o']?.getD _)) = _; rw [hu]; rfl)
              have ho0 : (0 : Int) ≤ (o' : Int) := by omega
              have ho1 : (o' : Int) < (n : Int) := by omega
              have ho2 : (o' : Int) < (l.length : Int) := by omega
              have HOV := hide (fun w' => Overlap_any r u w' HIR.out HU.out)
              obtain ⟨ax, hax⟩ : ∃ ax, apI l r ap o' = ax := ⟨_, rfl⟩
              obtain ⟨ov, hov⟩ : ∃ ov, ovR r u = ov := ⟨_, rfl⟩
              rw [hax, hov] at HAX2
              rw [hov] at HOV
              rw [hax]
              clear hax hov hu
              cases ax
              · go_wp2
                have GC := @GrW.cell
                refine wp_region_grw _ (by kernel_rfl) (by kernel_rfl) (Gr.refl _) ?_
                repeat (go_big_quiet_step ((first | fail)))
                refine wpQuiet_nil ?_
                intro wq hwq
                obtain ⟨gq, hwq'⟩ := hwq
                subst hwq'
                clear GC
                have gq1 := gq.gr
                generalize gq.w = wq at gq1 ⊢
                obtain ⟨Xq, Yq, cq, fq⟩ := gq1.use
                have sq := gq1.size
                (try simp only [World.size_alloc, World.size_setCell, World.heap_drewN] at sq)
                go_wp2
                go_roundw
                case rel => exact ⟨o' + 1, by omega, by go_num, by rw [HAX2.out]; rfl, (by repeat (first | with_reducible exact Gr.refl _ | with_reducible assumption | with_reducible refine Gr.alloc ?_ _ | with_reducible refine Gr.drewN ?_ _ | with_reducible refine Gr.drew ?_ | with_reducible refine Gr.setCell ?_ (by first | (dsimp only; omega) | (simp only [World.size_alloc]; omega) | (with_reducible refine Gr.size ?_; (repeat (first | with_reducible exact Gr.refl _ | with_reducible assumption | with_reducible refine Gr.alloc ?_ _ | with_reducible refine Gr.drewN ?_ _ | with_reducible refine Gr.drew ?_ | with_reducible refine Gr.trans ?_ (by with_reducible assumption))); done)) _ | with_reducible refine Gr.trans ?_ (by with_reducible assumption)))⟩
                case measure => simp only [intOf]; omega
              · cases ov <;>
                · go_wp2
                  have GC := @GrW.cell
                  refine wp_region_grw _ (by kernel_rfl) (by kernel_rfl) (Gr.refl _) ?_
                  repeat (go_big_quiet_step ((first | (go_at_call 11; exact quiet_grw (HOV.out _)))))
                  refine wpQuiet_nil ?_
                  intro wq hwq
                  obtain ⟨gq, hwq'⟩ := hwq
                  subst hwq'
                  clear GC
                  have gq1 := gq.gr
                  generalize gq.w = wq at gq1 ⊢
                  obtain ⟨Xq, Yq, cq, fq⟩ := gq1.use
                  have sq := gq1.size
                  (try simp only [World.size_alloc, World.size_setCell, World.heap_drewN] at sq)
                  go_wp2
                  go_roundw
                  case rel => exact ⟨o' + 1, by omega, by go_num, by rw [HAX2.out]; rfl, (by repeat (first | with_reducible exact Gr.refl _ | with_reducible assumption | with_reducible refine Gr.alloc ?_ _ | with_reducible refine Gr.drewN ?_ _ | with_reducible refine Gr.drew ?_ | with_reducible refine Gr.setCell ?_ (by first | (dsimp only; omega) | (simp only [World.size_alloc]; omega) | (with_reducible refine Gr.size ?_; (repeat (first | with_reducible exact Gr.refl _ | with_reducible assumption | with_reducible refine Gr.alloc ?_ _ | with_reducible refine Gr.drewN ?_ _ | with_reducible refine Gr.drew ?_ | with_reducible refine Gr.trans ?_ (by with_reducible assumption))); done)) _ | with_reducible refine Gr.trans ?_ (by with_reducible assumption)))⟩
                  case measure => simp only [intOf]; omega
            · obtain rfl : o' = n := by omega
              go_wp2
              go_roundw
              case rel => exact ⟨o' + 1, by omega, by go_num, by rw [HNX.out], by rw [HAX.out], (by repeat (first | with_reducible exact Gr.refl _ | with_reducible assumption | with_reducible refine Gr.alloc ?_ _ | with_reducible refine Gr.drewN ?_ _ | with_reducible refine Gr.drew ?_ | with_reducible refine Gr.setCell ?_ (by first | (dsimp only; omega) | (simp only [World.size_alloc]; omega) | (with_reducible refine Gr.size ?_; (repeat (first | with_reducible exact Gr.refl _ | with_reducible assumption | with_reducible refine Gr.alloc ?_ _ | with_reducible refine Gr.drewN ?_ _ | with_reducible refine Gr.drew ?_ | with_reducible refine Gr.trans ?_ (by with_reducible assumption))); done)) _ | with_reducible refine Gr.trans ?_ (by with_reducible assumption)))⟩
              case measure => simp only [intOf]; omega
        · obtain rfl : n = l.length := by omega
          rw [List.take_length, HT.out, HB.out]
          have hn1 : ¬ ((l.length : Int) < (l.length : Int)) := by omega
          have f0 : x ≤ T := x1
          rcases (show (b = true ∧ x = T) ∨ (b = false ∧ x ≠ T) by
            cases hb : b with
            | true => exact .inl ⟨rfl, T4.1 hb⟩
            | false => exact .inr ⟨rfl, fun e => by have := T4.2 e; rw [hb] at this; cases this⟩) with ⟨rfl, f1⟩ | ⟨rfl, f1⟩
          all_goals rcases (show ((l.length : Int) = 0 ∧ (L.length : Int) = 0) ∨ ((l.length : Int) ≠ 0 ∧ (L.length : Int) ≠ 0) by
            have := T5.out
            omega) with ⟨f2, f3⟩ | ⟨f2, f3⟩
          all_goals
            first
            | (have f1' : (x == T) = true := by simpa using f1)
            | (have f1' : (x == T) = false := by simpa using f1)
          all_goals
            first
            | (have f2' : ((l.length : Int) == 0) = true := by simpa using f2
               have f3' : ((L.length : Int) == 0) = true := by simpa using f3)
            | (have f2' : ((l.length : Int) == 0) = false := by simpa using f2
               have f3' : ((L.length : Int) == 0) = false := by simpa using f3)
          all_goals clear T4 f1 f2 f3 HS HB HT T5 HI
          all_goals
            go_wp2_with (go_at_call 5; refine (unit_any _).mono ?_; rintro e w1 ⟨rfl, g1⟩; obtain ⟨X1, Y1, c1, f1⟩ := g1.use)
            go_ret
            exact ⟨rfl, (by repeat (first | with_reducible exact Gr.refl _ | with_reducible assumption | with_reducible refine Gr.alloc ?_ _ | with_reducible refine Gr.drewN ?_ _ | with_reducible refine Gr.drew ?_ | with_reducible refine Gr.setCell ?_ (by first | (dsimp only; omega) | (simp only [World.size_alloc]; omega) | (with_reducible refine Gr.size ?_; (repeat (first | with_reducible exact Gr.refl _ | with_reducible assumption | with_reducible refine Gr.alloc ?_ _ | with_reducible refine Gr.drewN ?_ _ | with_reducible refine Gr.drew ?_ | with_reducible refine Gr.trans ?_ (by with_reducible assumption))); done)) _ | with_reducible refine Gr.trans ?_ (by with_reducible assumption)))⟩
    · subst hk hs
      have e1 : (z == x) = true := by simpa using h1
      have e2 : (z == y) = false := by simpa using h2
      have l1 : ¬ z < x := by omega
      have l2 : ¬ z < y := by omega
      have l3 : ¬ x + y < z := by omega
      clear h1 h2 h4 h5 HSP
      go_wp2_with fail
      clear g1 g2 g3 g4 g5 g6 g7 g8 r2 r3 r5 r6
      go_loopw [17, 18, 19] (fun sv av iv' wr => ∃ n : Nat, n ≤ l.length ∧ iv' = iv n ∧ sv = iv (sumA (l.take n)) ∧ av = .bool (apA l n) ∧ Gr w wr) (fun _ _ i _ => l.length - (intOf i).toNat)
      case atStart => exact ⟨0, by omega, rfl, rfl, rfl, g18⟩
      case round =>
        obtain ⟨n, hn, rfl, rfl, rfl, g⟩ := hrel
        by_cases hnl : n < l.length
        · obtain ⟨r, hr⟩ : ∃ r, l[n]? = some r := ⟨_, List.getElem?_eq_getElem hnl⟩
          obtain ⟨bl, o, rfl, c0, c1, c2, c3⟩ := (HL.out.gr g).at_ hr
          have hi := HI.out r (List.mem_of_getElem? hr)
          have HIR := hide hi
          have a1 := hi.w; have a2 := hi.h; have a3 := hi.x; have a4 := hi.y; have a5 := hi.x'; have a6 := hi.y'
          have bd := HS.out n
          have b1 : 0 ≤ r.w * r.h := Int.mul_nonneg (by omega) (by omega)
          have b2 : r.w * r.h ≤ 2097152 * 2097152 := Int.mul_le_mul (by omega) (by omega) (by omega) (by omega)
          have HNX := hide (show sumA (l.take (n + 1)) = sumA (l.take n) + r.w * r.h by rw [List.take_add_one, hr]; simp [sumA])
          have HAX := hide (show apA l (n + 1) = apI l r (apA l n) n by show apI l (l[n]?.getD _) _ _ = _; rw [hr]; rfl)
          have hn0 : (0 : Int) ≤ (n : Int) := by omega
          have hn1 : (n : Int) < (l.length : Int) := by omega
          have s1 : IntKind.i64.wrap (r.w * r.h) = r.w * r.h := IntWalk.i64_in _ (by omega)
          have s2 : IntKind.i64.wrap (sumA (l.take n) + r.w * r.h) = sumA (l.take n) + r.w * r.h := IntWalk.i64_in _ (by omega)
          have s3 : IntKind.i64.wrap ((n : Int) + 1) = (n : Int) + 1 := IntWalk.i64_in _ (by omega)
          obtain ⟨ap, hap⟩ : ∃ ap, apA l n = ap := ⟨_, rfl⟩
          rw [hap] at HAX
          rw [hap]
          obtain ⟨t, ht⟩ : ∃ t, sumA (l.take n) = t := ⟨_, rfl⟩
          rw [ht] at HNX s2 bd
          rw [ht]
          have HR := hide hr
          clear hap ht hi hr
          go_wp2
          have GC := @GrW.cell
          refine wp_region_grw _ (by kernel_rfl) (by kernel_rfl) (Gr.refl _) ?_
          repeat (go_big_quiet_step ((first | fail)))
          refine wpQuiet_nil ?_
          intro wq hwq
          obtain ⟨gq, hwq'⟩ := hwq
          subst hwq'
          clear GC
          have gq1 := gq.gr
          generalize gq.w = wq at gq1 ⊢
          obtain ⟨Xq, Yq, cq, fq⟩ := gq1.use
          have sq := gq1.size
          (try simp only [World.size_alloc, World.size_setCell, World.heap_drewN] at sq)
          go_wp2
          clear c0 c1 c2 c3
          go_loopw [18, 20] (fun av ov wr => ∃ o' : Nat, o' ≤ n ∧ ov = iv o' ∧ av = .bool (apI l r ap o') ∧ Gr w wr) (fun _ i _ => n - (intOf i).toNat)
          case atStart => exact ⟨0, by omega, rfl, rfl, (by repeat (first | with_reducible exact Gr.refl _ | with_reducible assumption | with_reducible refine Gr.alloc ?_ _ | with_reducible refine Gr.drewN ?_ _ | with_reducible refine Gr.drew ?_ | with_reducible refine Gr.setCell ?_ (by first | (dsimp only; omega) | (simp only [World.size_alloc]; omega) | (with_reducible refine Gr.size ?_; (repeat (first | with_reducible exact Gr.refl _ | with_reducible assumption | with_reducible refine Gr.alloc ?_ _ | with_reducible refine Gr.drewN ?_ _ | with_reducible refine Gr.drew ?_ | with_reducible refine Gr.trans ?_ (by with_reducible assumption))); done)) _ | with_reducible refine Gr.trans ?_ (by with_reducible assumption)))⟩
          case round =>
            clear g
            obtain ⟨o', ho, rfl, rfl, g⟩ := hrel
            by_cases hol : o' < n
            · obtain ⟨u, hu⟩ : ∃ u, l[o']? = some u := ⟨_, List.getElem?_eq_getElem (by omega)⟩
              obtain ⟨bl', o2, eqA, d0, d1', d2', d3⟩ := (HL.out.gr g).at_ hu
              cases eqA
              obtain ⟨_, _, eqA, c0, c1, c2, c3⟩ := (HL.out.gr g).at_ HR.out
              cases eqA
              have HU := hide (HI.out u (List.mem_of_getElem? hu))
              have HAX2 := hide (show apI l r ap (o' + 1) = (apI l r ap o' && !ovR r u) by show (_ && !ovR r (l[o']?.getD _)) = _; rw [hu]; rfl)
              have ho0 : (0 : Int) ≤ (o' : Int) := by omega
              have ho1 : (o' : Int) < (n : Int) := by omega
              have ho2 : (o' : Int) < (l.length : Int) := by omega
              have HOV := hide (fun w' => Overlap_any r u w' HIR.out HU.out)
              obtain ⟨ax, hax⟩ : ∃ ax, apI l r ap o' = ax := ⟨_, rfl⟩
              obtain ⟨ov, hov⟩ : ∃ ov, ovR r u = ov := ⟨_, rfl⟩
              rw [hax, hov] at HAX2
              rw [hov] at HOV
              rw [hax]
              clear hax hov hu
              cases ax
              · go_wp2
                have GC := @GrW.cell
                refine wp_region_grw _ (by kernel_rfl) (by kernel_rfl) (Gr.refl _) ?_
                repeat (go_big_quiet_step ((first | fail)))
                refine wpQuiet_nil ?_
                intro wq hwq
                obtain ⟨gq, hwq'⟩ := hwq
                subst hwq'
                clear GC
                have gq1 := gq.gr
                generalize gq.w = wq at gq1 ⊢
                obtain ⟨Xq, Yq, cq, fq⟩ := gq1.use
                have sq := gq1.size
                (try simp only [World.size_alloc, World.size_setCell, World.heap_drewN] at sq)
                go_wp2
                go_roundw
                case rel => exact ⟨o' + 1, by omega, by go_num, by rw [HAX2.out]; rfl, (by repeat (first | with_reducible exact Gr.refl _ | with_reducible assumption | with_reducible refine Gr.alloc ?_ _ | with_reducible refine Gr.drewN ?_ _ | with_reducible refine Gr.drew ?_ | with_reducible refine Gr.setCell ?_ (by first | (dsimp only; omega) | (simp only [World.size_alloc]; omega) | (with_reducible refine Gr.size ?_; (repeat (first | with_reducible exact Gr.refl _ | with_reducible assumption | with_reducible refine Gr.alloc ?_ _ | with_reducible refine Gr.drewN ?_ _ | with_reducible refine Gr.drew ?_ | with_reducible refine Gr.trans ?_ (by with_reducible assumption))); done)) _ | with_reducible refine Gr.trans ?_ (by with_reducible assumption)))⟩
                case measure => simp only [intOf]; omega
              · cases ov <;>
                · go_wp2
                  have GC := @GrW.cell
                  refine wp_region_grw _ (by kernel_rfl) (by kernel_rfl) (Gr.refl _) ?_
                  repeat (go_big_quiet_step ((first | (go_at_call 11; exact quiet_grw (HOV.out _)))))
                  refine wpQuiet_nil ?_
                  intro wq hwq
                  obtain ⟨gq, hwq'⟩ := hwq
                  subst hwq'
                  clear GC
                  have gq1 := gq.gr
                  generalize gq.w = wq at gq1 ⊢
                  obtain ⟨Xq, Yq, cq, fq⟩ := gq1.use
                  have sq := gq1.size
                  (try simp only [World.size_alloc, World.size_setCell, World.heap_drewN] at sq)
                  go_wp2
                  go_roundw
                  case rel => exact ⟨o' + 1, by omega, by go_num, by rw [HAX2.out]; rfl, (by repeat (first | with_reducible exact Gr.refl _ | with_reducible assumption | with_reducible refine Gr.alloc ?_ _ | with_reducible refine Gr.drewN ?_ _ | with_reducible refine Gr.drew ?_ | with_reducible refine Gr.setCell ?_ (by first | (dsimp only; omega) | (simp only [World.size_alloc]; omega) | (with_reducible refine Gr.size ?_; (repeat (first | with_reducible exact Gr.refl _ | with_reducible assumption | with_reducible refine Gr.alloc ?_ _ | with_reducible refine Gr.drewN ?_ _ | with_reducible refine Gr.drew ?_ | with_reducible refine Gr.trans ?_ (by with_reducible assumption))); done)) _ | with_reducible refine Gr.trans ?_ (by with_reducible assumption)))⟩
                  case measure => simp only [intOf]; omega
            · obtain rfl : o' = n := by omega
              go_wp2
              go_roundw
              case rel => exact ⟨o' + 1, by omega, by go_num, by rw [HNX.out], by rw [HAX.out], (by repeat (first | with_reducible exact Gr.refl _ | with_reducible assumption | with_reducible refine Gr.alloc ?_ _ | with_reducible refine Gr.drewN ?_ _ | with_reducible refine Gr.drew ?_ | with_reducible refine Gr.setCell ?_ (by first | (dsimp only; omega) | (simp only [World.size_alloc]; omega) | (with_reducible refine Gr.size ?_; (repeat (first | with_reducible exact Gr.refl _ | with_reducible assumption | with_reducible refine Gr.alloc ?_ _ | with_reducible refine Gr.drewN ?_ _ | with_reducible refine Gr.drew ?_ | with_reducible refine Gr.trans ?_ (by with_reducible assumption))); done)) _ | with_reducible refine Gr.trans ?_ (by with_reducible assumption)))⟩
              case measure => simp only [intOf]; omega
        · obtain rfl : n = l.length := by omega
          rw [List.take_length, HT.out, HB.out]
          have hn1 : ¬ ((l.length : Int) < (l.length : Int)) := by omega
          have f0 : x ≤ T := x1
          rcases (show (b = true ∧ x = T) ∨ (b = false ∧ x ≠ T) by
            cases hb : b with
            | true => exact .inl ⟨rfl, T4.1 hb⟩
            | false => exact .inr ⟨rfl, fun e => by have := T4.2 e; rw [hb] at this; cases this⟩) with ⟨rfl, f1⟩ | ⟨rfl, f1⟩
          all_goals rcases (show ((l.length : Int) = 0 ∧ (L.length : Int) = 0) ∨ ((l.length : Int) ≠ 0 ∧ (L.length : Int) ≠ 0) by
            have := T5.out
            omega) with ⟨f2, f3⟩ | ⟨f2, f3⟩
          all_goals
            first
            | (have f1' : (x == T) = true := by simpa using f1)
            | (have f1' : (x == T) = false := by simpa using f1)
          all_goals
            first
            | (have f2' : ((l.length : Int) == 0) = true := by simpa using f2
               have f3' : ((L.length : Int) == 0) = true := by simpa using f3)
            | (have f2' : ((l.length : Int) == 0) = false := by simpa using f2
               have f3' : ((L.length : Int) == 0) = false := by simpa using f3)
          all_goals clear T4 f1 f2 f3 HS HB HT T5 HI
          all_goals
            go_wp2_with (go_at_call 5; refine (unit_any _).mono ?_; rintro e w1 ⟨rfl, g1⟩; obtain ⟨X1, Y1, c1, f1⟩ := g1.use)
            go_ret
            exact ⟨rfl, (by repeat (first | with_reducible exact Gr.refl _ | with_reducible assumption | with_reducible refine Gr.alloc ?_ _ | with_reducible refine Gr.drewN ?_ _ | with_reducible refine Gr.drew ?_ | with_reducible refine Gr.setCell ?_ (by first | (dsimp only; omega) | (simp only [World.size_alloc]; omega) | (with_reducible refine Gr.size ?_; (repeat (first | with_reducible exact Gr.refl _ | with_reducible assumption | with_reducible refine Gr.alloc ?_ _ | with_reducible refine Gr.drewN ?_ _ | with_reducible refine Gr.drew ?_ | with_reducible refine Gr.trans ?_ (by with_reducible assumption))); done)) _ | with_reducible refine Gr.trans ?_ (by with_reducible assumption)))⟩
end RG
end Go.Proofs.Ytfbhpeedjphpaaa
