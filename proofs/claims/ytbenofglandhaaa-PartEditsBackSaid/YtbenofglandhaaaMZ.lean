/-
  PartEditsBack: the law.
  PartEditsBack, proved: for every part and edit, an edit that Apply makes can be taken back by Apply. No condition.
-/
import Derived.Test.YtbenofglandhaaaMEd11
import Derived.Test.YtbenofglandhaaaMEd12
import Derived.Test.YtbenofglandhaaaMEd13
import Derived.Test.YtbenofglandhaaaMEd14
set_option linter.unusedVariables false
set_option linter.unusedSimpArgs false
namespace Go.Proofs.Ytbenofglandhaaa
set_option linter.unusedVariables false
set_option linter.unusedSimpArgs false
open Go Go.ChangeShapes Go.WideShapes Go.ChangeAt Go.RowKit Go.Deep

set_option maxRecDepth 100000 in
set_option maxHeartbeats 16000000 in
theorem editsBack_walk (p : Pa) (A B : Option Addr) (c d : Nat) (x : Ed) (w : World) (hX : PaX w p A c B d) (hx : x.fl.nm.size ≤ maxLen) :
    Calls Try.prog 4 #[pav p A c B d, edv x] w fun e w' => e = .returned (.bool true) ∧ Gr w w' := by
  unfold maxLen at hx
  have HBG := hide (fun (w' : World) (g : Gr w w') => big_any p A B c d w' (hX.gr g))
  cases hb : bgB p with
  | true =>
    rw [hb] at HBG
    clear hb hX
    obtain ⟨k, xi, fl, ho, ww, hh⟩ := x
    go_enter Try.func4, Try.ntmps4
    go_wp2_with fail
    refine (HBG.out _ (by repeat (first | with_reducible exact Gr.refl _ | with_reducible assumption | with_reducible refine Gr.alloc ?_ _ | with_reducible refine Gr.drewN ?_ _ | with_reducible refine Gr.drew ?_ | with_reducible refine Gr.setCell ?_ (by first | (dsimp only; omega) | (simp only [World.size_alloc]; omega) | (with_reducible refine Gr.size ?_; (repeat (first | with_reducible exact Gr.refl _ | with_reducible assumption | with_reducible refine Gr.alloc ?_ _ | with_reducible refine Gr.drewN ?_ _ | with_reducible refine Gr.drew ?_ | with_reducible refine Gr.trans ?_ (by with_reducible assumption))); done)) _ | with_reducible refine Gr.trans ?_ (by with_reducible assumption)))).mono ?_
    rintro e w1 ⟨rfl, g1⟩
    go_wp2_with (first | (go_at_call 6; refine (known_any _).mono ?_; rintro e w1 ⟨rfl, g1⟩; obtain ⟨X1, Y1, c1, f1⟩ := g1.use))
    go_ret
    exact ⟨rfl, (by repeat (first | with_reducible exact Gr.refl _ | with_reducible assumption | with_reducible refine Gr.alloc ?_ _ | with_reducible refine Gr.drewN ?_ _ | with_reducible refine Gr.drew ?_ | with_reducible refine Gr.setCell ?_ (by first | (dsimp only; omega) | (simp only [World.size_alloc]; omega) | (with_reducible refine Gr.size ?_; (repeat (first | with_reducible exact Gr.refl _ | with_reducible assumption | with_reducible refine Gr.alloc ?_ _ | with_reducible refine Gr.drewN ?_ _ | with_reducible refine Gr.drew ?_ | with_reducible refine Gr.trans ?_ (by with_reducible assumption))); done)) _ | with_reducible refine Gr.trans ?_ (by with_reducible assumption)))⟩
  | false =>
    have hP := hX.small hb
    have hbb := hb
    have hXX := hX
    rw [hb] at HBG
    clear hb hX
    by_cases hn : 300 < x.fl.nm.size
    · obtain ⟨k, xi, fl, ho, ww, hh⟩ := x
      dsimp only at hn hx
      have hnb : decide (300 < fl.nm.size) = true := by simpa using hn
      have hnb' : decide ((300 : Int) < (fl.nm.size : Int)) = true := by simp only [decide_eq_true_iff]; omega
      clear hP
      go_enter Try.func4, Try.ntmps4
      go_wp2_with fail
      refine (HBG.out _ (by repeat (first | with_reducible exact Gr.refl _ | with_reducible assumption | with_reducible refine Gr.alloc ?_ _ | with_reducible refine Gr.drewN ?_ _ | with_reducible refine Gr.drew ?_ | with_reducible refine Gr.setCell ?_ (by first | (dsimp only; omega) | (simp only [World.size_alloc]; omega) | (with_reducible refine Gr.size ?_; (repeat (first | with_reducible exact Gr.refl _ | with_reducible assumption | with_reducible refine Gr.alloc ?_ _ | with_reducible refine Gr.drewN ?_ _ | with_reducible refine Gr.drew ?_ | with_reducible refine Gr.trans ?_ (by with_reducible assumption))); done)) _ | with_reducible refine Gr.trans ?_ (by with_reducible assumption)))).mono ?_
      rintro e w1 ⟨rfl, g1⟩
      obtain ⟨X1, Y1, x1, f1⟩ := g1.use
      have z1 := g1.size
      simp only [World.size_alloc] at z1
      have l1 : w.heap.size + 1 < w1.heap.size := by omega
      have l0 : w.heap.size < w1.heap.size := by omega
      go_wp2_with (first | (go_at_call 6; refine (known_any _).mono ?_; rintro e w1 ⟨rfl, g1⟩; obtain ⟨X1, Y1, c1, f1⟩ := g1.use))
      go_ret
      exact ⟨rfl, (by repeat (first | with_reducible exact Gr.refl _ | with_reducible assumption | with_reducible refine Gr.alloc ?_ _ | with_reducible refine Gr.drewN ?_ _ | with_reducible refine Gr.drew ?_ | with_reducible refine Gr.setCell ?_ (by first | (dsimp only; omega) | (simp only [World.size_alloc]; omega) | (with_reducible refine Gr.size ?_; (repeat (first | with_reducible exact Gr.refl _ | with_reducible assumption | with_reducible refine Gr.alloc ?_ _ | with_reducible refine Gr.drewN ?_ _ | with_reducible refine Gr.drew ?_ | with_reducible refine Gr.trans ?_ (by with_reducible assumption))); done)) _ | with_reducible refine Gr.trans ?_ (by with_reducible assumption)))⟩
    · have HAP := hide (fun (w' : World) (g : Gr w w') => Apply_any p A B c d x w' (hP.gr g) (by omega))
      have HEQ := hide (fun (w' : World) (A' B' : Option Addr) (c' d' : Nat) (q : Pa) (hq : PaW w' q A' c' B' d') (g : Gr w w') => cEqual_any q p A' B' A B c' d' c d w' hq (hP.gr g))
      by_cases h0 : apE p x = 0
      case neg =>
        have hne : (apE p x != 0) = true := by simpa using h0
        rw [apP_no h0] at HAP
        have HZ := hide (fun (w' : World) (A' B' : Option Addr) (c' d' : Nat) (hq : PaW w' paN A' c' B' d') => cEqual_any paN paN A' B' none none c' d' 0 0 w' hq ⟨⟨fun i y hy => by simp [paN] at hy, by simp [paN], by omega, by simp [paN], fun y hy => by simp [paN] at hy⟩, ⟨fun i y hy => by simp [paN] at hy, by simp [paN], by omega, by simp [paN]⟩, by decide, by decide⟩)
        rw [eqB_self] at HZ
        have HPN := hide (fun (w' : World) (A' B' : Option Addr) (c' d' lo1 lo2 : Nat) (h1 : OwnL w' lo1 27 7 flL (.slice A' paN.fl.length c') paN.fl) (h2 : OwnL w' lo2 29 6 hoL (.slice B' paN.ho.length d') paN.ho) => paW_of h1 h2 (by simp [paN]) (by simp [paN]) (fun y hy => by simp [paN] at hy) (by decide) (by decide))
        generalize apE p x = aE at *
        clear hP HEQ h0
        obtain ⟨k, xi, fl, ho, ww, hh⟩ := x
        dsimp only at hn hx
        have hnb : decide (300 < fl.nm.size) = false := by simpa using hn
        have hnb' : decide ((300 : Int) < (fl.nm.size : Int)) = false := by simp only [decide_eq_false_iff_not]; omega
        obtain ⟨w0, hw0⟩ : ∃ w0, (w.alloc (.cells #[.string p.nm, .string p.mt, iv p.ga, iv p.gr, iv p.wd, iv p.ht, .slice A p.fl.length c, .slice B p.ho.length d] 25)).alloc (.cells #[iv k, iv xi, .string fl.nm, iv fl.pa, iv fl.sd, iv fl.o, iv fl.wd, iv fl.ln, iv fl.an, iv ho.fa, iv ho.kd, iv ho.x, iv ho.y, iv ho.w, iv ho.h, iv ww, iv hh] 31) = w0 := ⟨_, rfl⟩
        have gw0 : Gr w w0 := by rw [← hw0]; exact Gr.alloc (Gr.alloc (Gr.refl _) _) _
        have s0 : w0.heap.size = w.heap.size + 2 := by rw [← hw0]; simp
        have kp : Bx8 w0 w.heap.size (.string p.nm) (.string p.mt) (iv p.ga) (iv p.gr) (iv p.wd) (iv p.ht) (.slice A p.fl.length c) (.slice B p.ho.length d) := by rw [← hw0]; constructor <;> simp [go_sem]
        have ke : BxE w0 (w.heap.size + 1) ⟨k, xi, fl, ho, ww, hh⟩ := by rw [← hw0]; constructor <;> simp [go_sem]
        have KP := hide kp
        have KE := hide ke
        clear ke
        obtain ⟨xl, x0, x1, x2, x3, x4, x5, x6, x7, xf⟩ := kp
        go_enter Try.func4, Try.ntmps4
        go_upto_region 1 with fail
        clear hw0
        go_wp2_with fail
        refine (HBG.out _ gw0).mono ?_
        rintro e w1 ⟨rfl, g1⟩
        have gw1 : Gr w w1 := gw0.trans g1
        have KP1 := hide (KP.out.gr g1)
        have KE1 := hide (KE.out.gr g1)
        clear xl x0 x1 x2 x3 x4 x5 x6 x7 xf KP KE HBG
        obtain ⟨xl, x0, x1, x2, x3, x4, x5, x6, x7, xf⟩ := KP1.out
        have e2 := KE1.out.c2
        have el := KE1.out.lt
        dsimp only at e2
        go_wp2_with (refine wpList_loadE rfl _ rfl _ _ rfl KE1.out ?_)
        refine (HAP.out _ gw1).mono ?_
        rintro e w2 ⟨A1, c1, B1, d1, rfl, o1, o2, dj, g2⟩
        have HW1 := hide (HPN.out _ _ _ _ _ _ _ o1 o2)
        have gw2 : Gr w w2 := gw1.trans g2
        clear o1 o2 dj xl x0 x1 x2 x3 x4 x5 x6 x7 xf e2 el KP1 KE1
        go_wp2_with fail
        refine (HZ.out _ A1 B1 c1 d1 (HW1.out.gr (Gr.alloc (Gr.refl _) _))).mono ?_
        rintro e w3 ⟨rfl, g3⟩
        have gw3 : Gr w w3 := gw2.trans (by repeat (first | with_reducible exact Gr.refl _ | with_reducible assumption | with_reducible refine Gr.alloc ?_ _ | with_reducible refine Gr.drewN ?_ _ | with_reducible refine Gr.drew ?_ | with_reducible refine Gr.setCell ?_ (by first | (dsimp only; omega) | (simp only [World.size_alloc]; omega) | (with_reducible refine Gr.size ?_; (repeat (first | with_reducible exact Gr.refl _ | with_reducible assumption | with_reducible refine Gr.alloc ?_ _ | with_reducible refine Gr.drewN ?_ _ | with_reducible refine Gr.drew ?_ | with_reducible refine Gr.trans ?_ (by with_reducible assumption))); done)) _ | with_reducible refine Gr.trans ?_ (by with_reducible assumption)))
        go_wp2_with (first | (go_at_call 6; refine (known_any _).mono ?_; rintro e w1 ⟨rfl, g1⟩; obtain ⟨X1, Y1, c1, f1⟩ := g1.use))
        go_ret
        exact ⟨rfl, gw3.trans (by repeat (first | with_reducible exact Gr.refl _ | with_reducible assumption | with_reducible refine Gr.alloc ?_ _ | with_reducible refine Gr.drewN ?_ _ | with_reducible refine Gr.drew ?_ | with_reducible refine Gr.setCell ?_ (by first | (dsimp only; omega) | (simp only [World.size_alloc]; omega) | (with_reducible refine Gr.size ?_; (repeat (first | with_reducible exact Gr.refl _ | with_reducible assumption | with_reducible refine Gr.alloc ?_ _ | with_reducible refine Gr.drewN ?_ _ | with_reducible refine Gr.drew ?_ | with_reducible refine Gr.trans ?_ (by with_reducible assumption))); done)) _ | with_reducible refine Gr.trans ?_ (by with_reducible assumption)))⟩
      case pos =>
        have hce := ce_zero (apE_zero h0).2.1
        clear HAP HEQ HBG
        rcases hce with hk | hk | hk | ⟨hk, _⟩ | ⟨hk, _, _⟩ | ⟨hk, _⟩
        · exact back_k1 p A B c d x w hXX hbb hn hx h0 hk
        · exact back_k3 p A B c d x w hXX hbb hn hx h0 hk
        · exact back_k5 p A B c d x w hXX hbb hn hx h0 hk
        · exact back_k2 p A B c d x w hXX hbb hn hx h0 hk
        · exact back_k4 p A B c d x w hXX hbb hn hx h0 hk
        · exact back_k6 p A B c d x w hXX hbb hn hx h0 hk
end Go.Proofs.Ytbenofglandhaaa
set_option linter.unusedVariables false
set_option linter.unusedSimpArgs false
namespace Go.Proofs.Ytbenofglandhaaa
set_option linter.unusedVariables false
set_option linter.unusedSimpArgs false
open Go Go.ChangeShapes Go.WideShapes Go.ChangeAt Go.RowKit Go.Deep


set_option maxRecDepth 100000 in
theorem partEditsBack_spec : LawSpec Rows.partEditsBackSpec 2 := ⟨rfl, fun H ds h => by
  match ds, h with
  | [_, _], _ => rfl⟩
set_option maxRecDepth 100000 in
theorem partEditsBack_lifted (os : Os) (started : os.Started) (H : Type) (enc : TypeId × Value → H) :
    ReturnsInHanded {} Try.checked os 4 .any (Rows.partEditsBackSpec.pre6 enc Try.prog Try.f4 Rows.partEditsBackRow.domain false) (Rows.partEditsBackSpec.post enc Try.prog Try.f4 false true false false) := by
  refine returnsInHanded_of_change_sized (C := Try.checked) own started (by kernel_rfl) Try.func4
    (ChangeSpec.witness6 (enc := enc) (C := Try.checked) false ⟨#[], #[.agg #[.string ⟨#[]⟩, .string ⟨#[]⟩, .int .i64 0, .int .i64 0, .int .i64 0, .int .i64 0, .slice none 0 0, .slice none 0 0], .agg #[.int .i64 0, .int .i64 0, .string ⟨#[]⟩, .int .i64 0, .int .i64 0, .int .i64 0, .int .i64 0, .int .i64 0, .int .i64 0, .int .i64 0, .int .i64 0, .int .i64 0, .int .i64 0, .int .i64 0, .int .i64 0, .int .i64 0, .int .i64 0]], []⟩ 8 (by kernel_rfl) (by kernel_rfl) (by kernel_rfl) (by kernel_rfl)) ?_
  intro W base args ds gs before hval0 hW _ hreach0 _
  have hreach : (DataW.weightsEach Try.prog (Try.f4.params.toList ++ Rows.partEditsBackSpec.plain.varTypes Try.prog) (ds ++ gs)).all (· ≤ reachBytes) = true := hreach0
  clear hreach0
  refine law_step (n := 2) partEditsBack_spec (by kernel_rfl) laidOut Try.underlying4 (by kernel_rfl) (by kernel_rfl) hW ?_
  have hval : ∀ (j : Nat) t v, Try.f4.params[j]? = some t → args[j]? = some v → Value.okWide Try.prog W .any base t v := hval0
  have hlt0 : ∀ x ∈ before, x.block < W.heap.size := fun x hx => hW.lt x hx
  obtain ⟨p, q, hA0, hV, rfl, hfz, hnd⟩ := hW
  have hA : DataW.TrodAll enc Try.prog W 0 (fun _ => true) true Try.f4.params.toList args.toList ds p := hA0
  rw [Try.params4] at hA hval
  obtain ⟨v0, vs0, d0, ds0, p0, q0, hargs, rfl, rfl, h0, r0⟩ := trodAll_cons hA
  obtain ⟨v1, vs1, d1, ds1, p1, q1, rfl, rfl, rfl, h1, r1⟩ := trodAll_cons r0
  obtain ⟨rfl, rfl, rfl⟩ := trodAll_nil r1
  obtain rfl : args = #[v0, v1] := by cases args; simp_all
  obtain ⟨p0, A0, c0, B0, e0, rfl, rF0, rH0, i0, n0, m0⟩ := open_part (hval 0 _ _ rfl rfl) h0
  obtain ⟨x0, rfl, hx0⟩ := open_edit (hval 1 _ _ rfl rfl) h1
  exact editsBack_walk p0 A0 B0 c0 e0 x0 W ⟨rF0, rH0, i0, n0, m0⟩ hx0
theorem partEditsBack_holds : Rows.PartEditsBackSaid :=
  OpenClaim.holds_of_wide 4 Try.f4 rfl rfl rfl rfl rfl rfl rfl ⟨rfl, rfl, rfl, rfl, rfl⟩ rfl rfl rfl rfl rfl (by kernel_rfl) Try.func4 (by kernel_rfl)
    (of_decide_eq_true (by kernel_rfl)) (by unfold Func.isWrapper; rw [if_neg (of_decide_eq_false (by kernel_rfl))]; exact ⟨rfl, rfl⟩)
    (fun os started H enc _ => partEditsBack_lifted os started H enc)

end Go.Proofs.Ytbenofglandhaaa
