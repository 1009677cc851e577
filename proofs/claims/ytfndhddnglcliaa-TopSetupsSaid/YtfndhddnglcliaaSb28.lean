/-
  Windows that are found one after another, in the code.
-/
import Derived.Test.YtfndhddnglcliaaSb27
import Derived.Deep.LoopGhost
set_option linter.unusedVariables false
set_option linter.unusedSimpArgs false
namespace Go.Proofs.Ytfndhddnglcliaa
set_option linter.unusedVariables false
set_option linter.unusedSimpArgs false
open Go Go.ChangeShapes Go.WideShapes Go.ChangeAt Go.RowKit Go.Deep

theorem blk_congrW {w : World} {B n : Nat} {f g : Nat → Value} (h : Blk w B f n) (e : ∀ i, i < n → f i = g i) : Blk w B g n :=
  ⟨h.1, fun j hj => ⟨by rw [(h.2 j hj).1, e j hj], (h.2 j hj).2⟩⟩
theorem own_far {w : World} {base : Nat} {e : TypeId} {k n : Nat} {v : Value} {xs : List Value} (h : w.ownsRow base e k v n xs) {a : Addr} (ha : a.block < base) (u : Value) : (w.setCell a u).ownsRow base e k v n xs := by
  obtain ⟨h0, h1 | ⟨b, cap, cur, h1, hb, h2, h3⟩⟩ := id h
  · exact ⟨h0, .inl h1⟩
  · refine ⟨h0, .inr ⟨b, cap, cur, h1, hb, ?_, h3⟩⟩
    rw [← h2]
    exact Below.heap_setCell w a u b (by omega)
theorem OwnL.setFar {α : Type} {c : α → List Value} {w : World} {base : Nat} {e : TypeId} {k : Nat} {v : Value} {xs : List α} (h : OwnL w base e k c v xs) {a : Addr} (ha : a.block < base) (u : Value) : OwnL (w.setCell a u) base e k c v xs := own_far h ha u
/-- the code's window lies in a box -/
def wbF (f t : Nat) (i : Nat) : Value := if i = 0 then iv f else iv t
theorem wb_set0 {w : World} {B f t x : Nat} (h : Blk w B (wbF f t) 2) : Blk (w.setCell ⟨B, 0, none⟩ (iv x)) B (wbF x t) 2 :=
  blk_congrW (Blk.set (k := 0) h (iv x) rfl (by decide)) fun i hi => by
    rcases (by omega : i = 0 ∨ i = 1) with rfl | rfl <;> rfl
theorem wb_set1 {w : World} {B f t x : Nat} (h : Blk w B (wbF f t) 2) : Blk (w.setCell ⟨B, 1, none⟩ (iv x)) B (wbF f x) 2 :=
  blk_congrW (Blk.set (k := 1) h (iv x) rfl (by decide)) fun i hi => by
    rcases (by omega : i = 0 ∨ i = 1) with rfl | rfl <;> rfl
theorem wb_new (w : World) (t : TypeId) : Blk (w.alloc (.cells #[.int .i64 0, .int .i64 0] t)) w.heap.size (wbF 0 0) 2 :=
  ⟨by simp, fun j hj => by rcases (by omega : j = 0 ∨ j = 1) with rfl | rfl <;> exact ⟨by simp [go_sem, wbF], by simp [go_sem]⟩⟩
set_option maxRecDepth 100000 in
set_option maxHeartbeats 1000000 in
theorem Bound_any (A : Option Addr) (c : Nat) (ns : List Nd) (s : Int) (w : World) (hl : SlN w A c ns) :
    Calls Try.prog 8 #[.slice A ns.length c, iv s] w fun e w' => ∃ A' d', e = .returned (sle (.slice A' (bdL ns s).length d') (chE ns s)) ∧ SlW w' A' d' (bdL ns s) ∧ Gr w w' := by
  have HV := hide (scheck_any A c ns s w hl)
  by_cases h0 : chE ns s = 0
  · obtain ⟨h2, h3⟩ := chE_ok h0
    obtain ⟨b4, b5⟩ := wiB_iff.1 h3
    obtain ⟨hlen, hB⟩ := vaE_ok h2
    have hml := mks_lt hB
    obtain ⟨q, rfl⟩ : ∃ q : Nat, s = q := ⟨s.toNat, by omega⟩
    have HSS := hide (setsOf_any A c ns w hl h2)
    have HBK := hide (fun (A' : Option Addr) (d' f t : Nat) (w' : World) (h : SlU w' A' d' (mks ns)) (h1 : f ≤ t) (h2 : t < (mks ns).length) => blocked_any A' d' (mks ns) q f t w' h hml h1 h2 (by rw [mks_len]; omega))
    have HOF := hide (fun (t : Nat) (ht : t < (mks ns).length) => show bkB (mks ns) q t t = false by
      obtain ⟨x, hx⟩ : ∃ x, (mks ns)[t]? = some x := ⟨_, List.getElem?_eq_getElem ht⟩
      exact one_free (by omega) hx (mks_ok hB x (List.mem_of_getElem? hx)))
    have HE := hide (show bdL ns (q : Int) = fdL (mks ns) q (mks ns).length by unfold bdL; rw [if_pos h0, mks_len]; rfl)
    have hsl := mks_len ns
    rw [h0] at HV ⊢
    rw [HE.out]
    clear h0 h2 h3 hB hl HE hml
    generalize mks ns = ss at *
    have hsl1 : ss.length ≤ 24 := by omega
    clear hsl
    go_enter Try.func8, Try.ntmps8
    go_wp2_with (first | (go_at_call 11; refine (HV.out).mono ?_; rintro e w1 ⟨rfl, rfl⟩))
    refine HSS.out.mono ?_
    rintro e w3 ⟨A3, d3, rfl, o3, g3⟩
    have HL3 := hide (own_sub o3)
    clear o3
    go_wp2
    obtain ⟨bx, hbx⟩ : ∃ bx, w3.heap.size = bx := ⟨_, rfl⟩
    have HW0 := hide (show Blk (w3.alloc (.cells #[.int .i64 0, .int .i64 0] 59)) bx (wbF 0 0) 2 by rw [← hbx]; exact wb_new _ _)
    have hbw : w.heap.size ≤ bx := by have := g3.size; omega
    have hb3 : w3.heap.size ≤ bx := by omega
    have hb4 : bx + 1 ≤ (w3.alloc (.cells #[.int .i64 0, .int .i64 0] 59)).heap.size := by simp; omega
    have g4 : Gr w3 (w3.alloc (.cells #[.int .i64 0, .int .i64 0] 59)) := (by repeat (first | with_reducible exact Gr.refl _ | with_reducible assumption | with_reducible refine Gr.alloc ?_ _ | with_reducible refine Gr.drewN ?_ _ | with_reducible refine Gr.drew ?_ | with_reducible refine Gr.setCell ?_ (by first | (dsimp only; omega) | (simp only [World.size_alloc]; omega) | (with_reducible refine Gr.size ?_; (repeat (first | with_reducible exact Gr.refl _ | with_reducible assumption | with_reducible refine Gr.alloc ?_ _ | with_reducible refine Gr.drewN ?_ _ | with_reducible refine Gr.drew ?_ | with_reducible refine Gr.trans ?_ (by with_reducible assumption))); done)) _ | with_reducible refine Gr.trans ?_ (by with_reducible assumption)))
    simp only [hbx]
    generalize w3.alloc (.cells #[.int .i64 0, .int .i64 0] 59) = w4 at *
    clear hbx
    go_loopg [8] (2 * ss.length + 1) (fun g v wx => ∃ (t f : Nat) (L : List Wd) (A' : Option Addr) (d' : Nat), t ≤ ss.length ∧ f ≤ t ∧ v = .slice A' L.length d' ∧ L.length ≤ 100 ∧ Gr w3 wx ∧ bx + 1 ≤ wx.heap.size ∧ Hid (Blk wx bx (wbF f t) 2) ∧ Hid (OwnL wx (bx + 1) 59 2 wdL (.slice A' L.length d') L) ∧
      Hid ((g = 2 * (ss.length - t) + 1 ∧ f = fdF ss q t ∧ L = fdL ss q t) ∨ (t < ss.length ∧ g = 2 * (ss.length - t) ∧ f = t ∧ fdF ss q (t + 1) = t ∧ L = fdL ss q (t + 1))))
    case atStart => exact ⟨0, 0, [], none, 0, by omega, by omega, rfl, by simp, g4, hb4, HW0, own_nil _ _ _ _ _, hide (.inl ⟨by omega, rfl, rfl⟩)⟩
    case round =>
      clear HW0 hb4 g4
      obtain ⟨t, f, L, A1, d1, ht, hft, rfl, hL, g, hbz, HW, HO, HP⟩ := hrel
      have y0 := (HW.out.2 0 (by decide)).1
      have y1 := (HW.out.2 1 (by decide)).1
      have f0 := (HW.out.2 0 (by decide)).2
      have f1 := (HW.out.2 1 (by decide)).2
      rw [show wbF f t 0 = iv f from rfl] at y0
      rw [show wbF f t 1 = iv t from rfl] at y1
      have hbxl := HW.out.1
      by_cases htn : t < ss.length
      · have HBX := hide (fun (w' : World) (g' : Gr wr w') => HBK.out A3 d3 f t w' ((HL3.out.gr g).gr g') hft htn)
        cases hv : bkB ss q f t with
        | false =>
          rw [hv] at HBX
          have HN := hide (show fdF ss q (t + 1) = f ∧ fdL ss q (t + 1) = L by
            rcases HP.out with ⟨_, e1, e2⟩ | ⟨_, _, e1, e2, e3⟩
            · rw [e1] at hv ⊢
              rw [e2]
              obtain ⟨h1, h2⟩ := fd_no hv
              exact ⟨h2, h1⟩
            · exact ⟨by rw [e2, e1], e3.symm⟩)
          have HG := hide (show 2 * (ss.length - (t + 1)) + 1 < gk by
            rcases HP.out with ⟨e0, _, _⟩ | ⟨_, e0, _, _, _⟩ <;> omega)
          clear hv
          go_wp2_with (first | (go_at_call 19; refine (HBX.out _ (by repeat (first | with_reducible exact Gr.refl _ | with_reducible assumption | with_reducible refine Gr.alloc ?_ _ | with_reducible refine Gr.drewN ?_ _ | with_reducible refine Gr.drew ?_ | with_reducible refine Gr.setCell ?_ (by first | (dsimp only; omega) | (simp only [World.size_alloc]; omega) | (with_reducible refine Gr.size ?_; (repeat (first | with_reducible exact Gr.refl _ | with_reducible assumption | with_reducible refine Gr.alloc ?_ _ | with_reducible refine Gr.drewN ?_ _ | with_reducible refine Gr.drew ?_ | with_reducible refine Gr.trans ?_ (by with_reducible assumption))); done)) _ | with_reducible refine Gr.trans ?_ (by with_reducible assumption)))).mono ?_; rintro e w1 ⟨rfl, g1⟩; obtain ⟨X1, Y1, c1, f1⟩ := g1.use))
          have HW' := hide (wb_set1 (x := t + 1) (HW.out.gr g1))
          go_roundg (2 * (ss.length - (t + 1)) + 1)
          case measure => exact HG.out
          case rel => exact ⟨t + 1, f, L, A1, d1, by omega, by omega, rfl, hL, (by repeat (first | with_reducible exact Gr.refl _ | with_reducible assumption | with_reducible refine Gr.alloc ?_ _ | with_reducible refine Gr.drewN ?_ _ | with_reducible refine Gr.drew ?_ | with_reducible refine Gr.setCell ?_ (by first | (dsimp only; omega) | (simp only [World.size_alloc]; omega) | (with_reducible refine Gr.size ?_; (repeat (first | with_reducible exact Gr.refl _ | with_reducible assumption | with_reducible refine Gr.alloc ?_ _ | with_reducible refine Gr.drewN ?_ _ | with_reducible refine Gr.drew ?_ | with_reducible refine Gr.trans ?_ (by with_reducible assumption))); done)) _ | with_reducible refine Gr.trans ?_ (by with_reducible assumption))), by have := g1.size; simp only [World.size_setCell]; omega, HW', hide (OwnL.setFar (HO.out.gr g1) (by dsimp only; omega) _), hide (.inl ⟨rfl, HN.out.1.symm, HN.out.2.symm⟩)⟩
        | true =>
          rw [hv] at HBX
          have HA := hide (show gk = 2 * (ss.length - t) + 1 ∧ f = fdF ss q t ∧ L = fdL ss q t by
            rcases HP.out with e | ⟨_, _, e1, _, _⟩
            · exact e
            · rw [e1, HOF.out t htn] at hv
              cases hv)
          have HY := hide (show L ++ [⟨(f : Int), (t : Int)⟩] = fdL ss q (t + 1) ∧ fdF ss q (t + 1) = t by
            rw [HA.out.2.1, HA.out.2.2]
            rw [HA.out.2.1] at hv
            exact fd_yes hv)
          have hfl := fdL_len ss q (t + 1)
          clear hv
          have hLl : (fdL ss q (t + 1)).length ≤ 100 := by omega
          obtain ⟨L2, hL2⟩ : ∃ L2, fdL ss q (t + 1) = L2 := ⟨_, rfl⟩
          rw [hL2] at HY hfl hLl
          have HL2 := hide hL2
          clear hL2
          have hOLT := hide (fun k hk => (World.ownsRow.lt HO.out k hk).1)
          go_upto_region 11 with (first | (go_at_call 19; refine (HBX.out _ (by repeat (first | with_reducible exact Gr.refl _ | with_reducible assumption | with_reducible refine Gr.alloc ?_ _ | with_reducible refine Gr.drewN ?_ _ | with_reducible refine Gr.drew ?_ | with_reducible refine Gr.setCell ?_ (by first | (dsimp only; omega) | (simp only [World.size_alloc]; omega) | (with_reducible refine Gr.size ?_; (repeat (first | with_reducible exact Gr.refl _ | with_reducible assumption | with_reducible refine Gr.alloc ?_ _ | with_reducible refine Gr.drewN ?_ _ | with_reducible refine Gr.drew ?_ | with_reducible refine Gr.trans ?_ (by with_reducible assumption))); done)) _ | with_reducible refine Gr.trans ?_ (by with_reducible assumption)))).mono ?_; rintro e w1 ⟨rfl, g1⟩; obtain ⟨X1, Y1, c1, f1⟩ := g1.use) | (refine wpList_app1 rfl _ _ _ rfl wdL (bx + 1) 59 2 16 elWd (by decide) L ⟨(f : Int), (t : Int)⟩ L2 HY.out.1 _ rfl (OwnL.gr HO.out (by repeat (first | with_reducible exact Gr.refl _ | with_reducible assumption | with_reducible refine Gr.alloc ?_ _ | with_reducible refine Gr.drewN ?_ _ | with_reducible refine Gr.drew ?_ | with_reducible refine Gr.setCell ?_ (by first | (dsimp only; omega) | (simp only [World.size_alloc]; omega) | (with_reducible refine Gr.size ?_; (repeat (first | with_reducible exact Gr.refl _ | with_reducible assumption | with_reducible refine Gr.alloc ?_ _ | with_reducible refine Gr.drewN ?_ _ | with_reducible refine Gr.drew ?_ | with_reducible refine Gr.trans ?_ (by with_reducible assumption))); done)) _ | with_reducible refine Gr.trans ?_ (by with_reducible assumption)))) _ 1 rfl rfl (by intro j u hu; refine newsA _ #[iv f, iv t] 59 j u ?_; exact hu) (by intro u hu; simp at hu; rcases hu with rfl | rfl <;> rfl) (by omega) (by decide) (by have := g1.size; simp only [World.size_alloc]; omega) ?_; intro gg cap1 w8 hO8 hG8 hgrow hgb hg8))
          have HW8 := hide (Blk.grown (lo := bx + 1) (HW.out.gr (g1.trans (by repeat (first | with_reducible exact Gr.refl _ | with_reducible assumption | with_reducible refine Gr.alloc ?_ _ | with_reducible refine Gr.drewN ?_ _ | with_reducible refine Gr.drew ?_ | with_reducible refine Gr.setCell ?_ (by first | (dsimp only; omega) | (simp only [World.size_alloc]; omega) | (with_reducible refine Gr.size ?_; (repeat (first | with_reducible exact Gr.refl _ | with_reducible assumption | with_reducible refine Gr.alloc ?_ _ | with_reducible refine Gr.drewN ?_ _ | with_reducible refine Gr.drew ?_ | with_reducible refine Gr.trans ?_ (by with_reducible assumption))); done)) _ | with_reducible refine Gr.trans ?_ (by with_reducible assumption))))) hgrow hOLT.out (by omega))
          have HO8 := hide hO8
          have g8 := hG8 wr (g1.trans (by repeat (first | with_reducible exact Gr.refl _ | with_reducible assumption | with_reducible refine Gr.alloc ?_ _ | with_reducible refine Gr.drewN ?_ _ | with_reducible refine Gr.drew ?_ | with_reducible refine Gr.setCell ?_ (by first | (dsimp only; omega) | (simp only [World.size_alloc]; omega) | (with_reducible refine Gr.size ?_; (repeat (first | with_reducible exact Gr.refl _ | with_reducible assumption | with_reducible refine Gr.alloc ?_ _ | with_reducible refine Gr.drewN ?_ _ | with_reducible refine Gr.drew ?_ | with_reducible refine Gr.trans ?_ (by with_reducible assumption))); done)) _ | with_reducible refine Gr.trans ?_ (by with_reducible assumption))))
          have g38 := hG8 w3 (g.trans (g1.trans (by repeat (first | with_reducible exact Gr.refl _ | with_reducible assumption | with_reducible refine Gr.alloc ?_ _ | with_reducible refine Gr.drewN ?_ _ | with_reducible refine Gr.drew ?_ | with_reducible refine Gr.setCell ?_ (by first | (dsimp only; omega) | (simp only [World.size_alloc]; omega) | (with_reducible refine Gr.size ?_; (repeat (first | with_reducible exact Gr.refl _ | with_reducible assumption | with_reducible refine Gr.alloc ?_ _ | with_reducible refine Gr.drewN ?_ _ | with_reducible refine Gr.drew ?_ | with_reducible refine Gr.trans ?_ (by with_reducible assumption))); done)) _ | with_reducible refine Gr.trans ?_ (by with_reducible assumption))))) (by omega)
          have hs8 : bx + 1 ≤ w8.heap.size := by have := HW8.out.1; omega
          clear y0 y1 f0 f1 hgrow hG8 hO8 g8 c1
          have y0 := (HW8.out.2 0 (by decide)).1
          have y1 := (HW8.out.2 1 (by decide)).1
          have f0 := (HW8.out.2 0 (by decide)).2
          have f1 := (HW8.out.2 1 (by decide)).2
          rw [show wbF f t 0 = iv f from rfl] at y0
          rw [show wbF f t 1 = iv t from rfl] at y1
          have hbx8 := HW8.out.1
          go_wp2
          have HW' := hide (wb_set0 (x := t) HW8.out)
          go_roundg (2 * (ss.length - t))
          case measure => have := HA.out.1; omega
          case rel => exact ⟨t, t, L2, some ⟨gg, 0, none⟩, cap1, by omega, by omega, rfl, hLl, Gr.setCell g38 (by dsimp only; omega) _, by simp only [World.size_setCell]; omega, HW', hide (OwnL.setFar HO8.out (by dsimp only; omega) _), hide (.inr ⟨htn, rfl, rfl, HY.out.2, HL2.out.symm⟩)⟩
      · have hte : t = ss.length := by omega
        have HF := hide (show L = fdL ss q ss.length by
          rcases HP.out with ⟨_, _, e⟩ | ⟨e, _⟩
          · rw [e, hte]
          · omega)
        have HS := hide (own_slw HO.out)
        clear hte
        go_wp2
        go_ret2
        exact ⟨A1, d1, by rw [← HF.out]; rfl, by rw [← HF.out]; exact HS.out, g3.trans g⟩
  · have HE := hide (show bdL ns s = [] by unfold bdL; rw [if_neg h0])
    have h1 : (chE ns s != 0) = true := by simpa using h0
    rw [HE.out]
    generalize chE ns s = e0 at *
    clear h0 hl
    go_enter Try.func8, Try.ntmps8
    go_wp2_with (first | (go_at_call 11; refine (HV.out).mono ?_; rintro e w1 ⟨rfl, rfl⟩))
    go_ret2
    exact ⟨none, 0, rfl, slw_nil _, (by repeat (first | with_reducible exact Gr.refl _ | with_reducible assumption | with_reducible refine Gr.alloc ?_ _ | with_reducible refine Gr.drewN ?_ _ | with_reducible refine Gr.drew ?_ | with_reducible refine Gr.setCell ?_ (by first | (dsimp only; omega) | (simp only [World.size_alloc]; omega) | (with_reducible refine Gr.size ?_; (repeat (first | with_reducible exact Gr.refl _ | with_reducible assumption | with_reducible refine Gr.alloc ?_ _ | with_reducible refine Gr.drewN ?_ _ | with_reducible refine Gr.drew ?_ | with_reducible refine Gr.trans ?_ (by with_reducible assumption))); done)) _ | with_reducible refine Gr.trans ?_ (by with_reducible assumption)))⟩
end Go.Proofs.Ytfndhddnglcliaa
