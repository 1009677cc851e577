/-
  Nests: the bars of places at which two rectangles are in the way of one another, of the code.
  Nests: the first place of a row of a field, of the code.
  Nests: bars added to a field, of the code.
  Nests: closeBars of the code: the bars of which some place is in the field are added.
  Nests: the library's sort of bars by their left ends.
  Nests: the blocks of a sheet, in a row of the call's own; fields that grow.
  Nests: the error of a sheet, of the code.
  Nests: the field of a piece, of the code.
-/
import Derived.Test.YtddhaiaapomdjaaGreatGFr
import Derived.Test.YtddhaiaapomdjaaGreatNs7r
import Derived.Test.YtddhaiaapomdjaaGreatGAr
import Derived.Test.YtddhaiaapomdjaaGreatGBr
import Derived.Test.YtddhaiaapomdjaaGreatNp3r
import Derived.Test.YtddhaiaapomdjaaGreatLayF
import Derived.Test.YtddhaiaapomdjaaGreatNs8r
import Derived.Test.YtddhaiaapomdjaaGreatNp4r
set_option linter.unusedVariables false
set_option linter.unusedSimpArgs false
namespace Go.Proofs.YtddhaiaapomdjaaGreat
set_option linter.unusedVariables false
set_option linter.unusedSimpArgs false
open Go Go.ChangeShapes Go.WideShapes Go.ChangeAt Go.RowKit Go.Deep

namespace RG
abbrev brv (b : Br) : Value := .agg #[iv b.l, iv b.r, iv b.b, iv b.t]
abbrev brL (b : Br) : List Value := [iv b.l, iv b.r, iv b.b, iv b.t]
theorem elBar : ElT Tryz.prog 117 116 4 32 := elT_of (.agg #[iv 0, iv 0, iv 0, iv 0]) (by kernel_rfl) (by kernel_rfl) (by kernel_rfl)
theorem one_br (b : Br) : ∀ u ∈ brL b, u.oneCell' = true := by
  intro u hu
  simp at hu
  rcases hu with rfl | rfl | rfl | rfl <;> rfl
/-- bars, where they lie -/
structure SlBr (w : World) (A : Option Addr) (c : Nat) (l : List Br) : Prop where
  rd : RdL w 4 brL A l
  cap : l.length ≤ c
  capB : c ≤ 9223372036854775807
theorem SlBr.gr {w w' : World} {A : Option Addr} {c : Nat} {l : List Br} (h : SlBr w A c l) (g : Gr w w') : SlBr w' A c l := ⟨h.rd.gr g, h.cap, h.capB⟩
theorem SlBr.at_ {w : World} {A : Option Addr} {c : Nat} {l : List Br} (h : SlBr w A c l) {i : Nat} {z : Br} (hi : l[i]? = some z) : ∃ b off, A = some ⟨b, off, none⟩ ∧ w.cell? ⟨b, off + i * 4, none⟩ = some (iv z.l) ∧ w.cell? ⟨b, off + i * 4 + 1, none⟩ = some (iv z.r) ∧ w.cell? ⟨b, off + i * 4 + 2, none⟩ = some (iv z.b) ∧ w.cell? ⟨b, off + i * 4 + 3, none⟩ = some (iv z.t) := by
  obtain ⟨b, off, e, h0, h1, h2, h3, _⟩ := h.rd i z hi
  exact ⟨b, off, e, h0, h1, h2, h3⟩
theorem own_slbr {w : World} {base : Nat} {e : TypeId} {A : Option Addr} {n d : Nat} {xs : List Br} (h : OwnL w base e 4 brL (.slice A n d) xs) : n = xs.length ∧ SlBr w A d xs := by
  obtain ⟨h0, h1, h2, h3⟩ := OwnL.rd (c := brL) (fun _ => rfl) h
  exact ⟨h0, h1, h2, by unfold maxLen at h3; omega⟩
set_option maxHeartbeats 2000000 in
theorem around_any (r o : Rc) (g : Int) (w : World) (hr : vrR r = true) (ho : vrR o = true) (h0 : 0 ≤ g) (h1 : g ≤ 14400) :
    Calls Tryz.prog 110 #[rcv r, rcv o, iv g] w fun e w' => e = .returned (brv (arBr r o g)) ∧ Gr w w' := by
  have a := vrR_iff.1 hr
  have b := vrR_iff.1 ho
  have a1 := a.w; have a2 := a.h; have a3 := a.x; have a4 := a.y; have a5 := a.x'; have a6 := a.y'
  have b1 := b.w; have b2 := b.h; have b3 := b.x; have b4 := b.y; have b5 := b.x'; have b6 := b.y'
  clear a b hr ho
  go_enter Tryz.func110, Tryz.ntmps110
  go_wp2
  exact bodyPost_ret (v := brv (arBr r o g)) (by simp [results, Tryz.results110, go_sem, arBr]) rfl ⟨rfl, (by with_reducible repeat (first | exact Gr.refl _ | assumption | refine Gr.alloc ?_ _ | refine Gr.drewN ?_ _ | refine Gr.drew ?_ | refine Gr.setCell ?_ (by first | (dsimp only; omega) | (simp only [World.size_alloc]; omega) | (refine Gr.size ?_; (repeat (first | exact Gr.refl _ | assumption | refine Gr.alloc ?_ _ | refine Gr.drewN ?_ _ | refine Gr.drew ?_ | refine Gr.trans ?_ (by assumption))); done)) _ | refine Gr.trans ?_ (by assumption)))⟩
/-- a literal list of bars -/
theorem br_lit {w : World} (cs : Array Value) (t : TypeId) (l : List Br) (B : Nat) (hB : w.heap.size = B) (h : cs.toList = l.flatMap brL) : RdL (w.alloc (.cells cs t)) 4 brL (some ⟨B, 0, none⟩) l := by
  subst hB
  intro i x hi
  refine ⟨w.heap.size, 0, rfl, at_of ?_⟩
  intro j v hv
  have hj : j < 4 := (List.getElem?_eq_some_iff.1 hv).1
  have h1 := cell_of_row (w.alloc (.cells cs t)) w.heap.size (i * 4 + j) cs t (0, 0) (by show (w.heap.push _)[w.heap.size]? = _; simp)
  rw [Nat.zero_add, h1]
  have h2 := fm_at (c := brL) (k := 4) (fun _ => rfl) l i x j hi hj
  rw [← h, Array.getElem?_toList] at h2
  rw [h2, hv]
set_option maxHeartbeats 4000000 in
set_option maxRecDepth 100000 in
theorem unclear_any (r o : Rc) (t : St) (w : World) (hr : vrR r = true) (ho : vrR o = true) (h0 : 0 ≤ t.g) (h1 : t.g ≤ 14400) :
    Calls Tryz.prog 111 #[rcv r, rcv o, stvv t] w fun e w' => ∃ D q, e = .returned (.slice D (ucBr r o t).length q) ∧ SlBr w' D q (ucBr r o t) ∧ Gr w w' ∧ (∀ a, D = some a → w.heap.size ≤ a.block) := by
  have HA := hide (fun (g : Int) (h0 : 0 ≤ g) (h1 : g ≤ 14400) (w' : World) => around_any r o g w' hr ho h0 h1)
  have HB := hide (show ∀ g : Int, 0 ≤ g → g ≤ 14400 → (-10000000 ≤ (arBr r o g).l ∧ (arBr r o g).l ≤ 10000000) ∧ (-10000000 ≤ (arBr r o g).r ∧ (arBr r o g).r ≤ 10000000) ∧ (-10000000 ≤ (arBr r o g).b ∧ (arBr r o g).b ≤ 10000000) ∧ (-10000000 ≤ (arBr r o g).t ∧ (arBr r o g).t ≤ 10000000) by
    intro g h0 h1
    have a := vrR_iff.1 hr
    have b := vrR_iff.1 ho
    have a1 := a.w; have a2 := a.h; have a3 := a.x; have a4 := a.y; have a5 := a.x'; have a6 := a.y'
    have b1 := b.w; have b2 := b.h; have b3 := b.x; have b4 := b.y; have b5 := b.x'; have b6 := b.y'
    simp only [arBr]
    omega)
  have HU := hide (show ucBr r o t = if t.c then [arBr r o 0, ⟨(arBr r o t.g).l, (arBr r o t.g).r, (arBr r o t.g).b, (arBr r o 1).b - 1⟩, ⟨(arBr r o t.g).l, (arBr r o t.g).r, (arBr r o 1).t + 1, (arBr r o t.g).t⟩, ⟨(arBr r o t.g).l, (arBr r o 1).l - 1, (arBr r o 1).b, (arBr r o 1).t⟩, ⟨(arBr r o 1).r + 1, (arBr r o t.g).r, (arBr r o 1).b, (arBr r o 1).t⟩] else [arBr r o t.g] from rfl)
  obtain ⟨g, m, c⟩ := t
  dsimp only at h0 h1 HU ⊢
  have B0 := HB.out 0 (by decide) (by decide)
  have B1 := HB.out 1 (by decide) (by decide)
  have Bg := HB.out g h0 h1
  have A0 := hide (HA.out 0 (by decide) (by decide))
  have A1 := hide (HA.out 1 (by decide) (by decide))
  have Ag := hide (HA.out g h0 h1)
  clear HA HB hr ho h0 h1
  generalize ucBr r o ⟨g, m, c⟩ = L at *
  generalize arBr r o 0 = x0 at *
  generalize arBr r o 1 = x1 at *
  generalize arBr r o g = xg at *
  obtain ⟨l0, r0, b0, t0⟩ := x0
  obtain ⟨l1, r1, b1, t1⟩ := x1
  obtain ⟨lg, rg, bg, tg⟩ := xg
  dsimp only at B0 B1 Bg HU
  obtain ⟨⟨p1, p2⟩, ⟨p3, p4⟩, ⟨p5, p6⟩, p7, p8⟩ := B1
  clear B0 Bg
  cases c with
  | false =>
    have HL := hide (show L = [⟨lg, rg, bg, tg⟩] from HU.out)
    clear HU
    go_enter Tryz.func111, Tryz.ntmps111
    go_wp2_with fail
    refine (Ag.out _).mono ?_
    rintro e w1 ⟨rfl, g1⟩
    obtain ⟨X1, Y1, c1, f1⟩ := g1.use
    have z1 := g1.size
    simp only [World.size_alloc, Nat.add_one_le_iff] at z1
    go_wp2
    go_ret
    refine ⟨_, _, by rw [HL.out]; rfl, ⟨?_, by rw [HL.out]; exact Nat.le_refl _, by decide⟩, (by with_reducible repeat (first | exact Gr.refl _ | assumption | refine Gr.alloc ?_ _ | refine Gr.drewN ?_ _ | refine Gr.drew ?_ | refine Gr.setCell ?_ (by first | (dsimp only; omega) | (simp only [World.size_alloc]; omega) | (refine Gr.size ?_; (repeat (first | exact Gr.refl _ | assumption | refine Gr.alloc ?_ _ | refine Gr.drewN ?_ _ | refine Gr.drew ?_ | refine Gr.trans ?_ (by assumption))); done)) _ | refine Gr.trans ?_ (by assumption))), ?_⟩
    · rw [HL.out]
      refine br_lit _ _ _ _ (by simp) ?_
      rfl
    · intro a ha
      cases ha
      dsimp only
      omega
  | true =>
    have HL := hide (show L = [⟨l0, r0, b0, t0⟩, ⟨lg, rg, bg, b1 - 1⟩, ⟨lg, rg, t1 + 1, tg⟩, ⟨lg, l1 - 1, b1, t1⟩, ⟨r1 + 1, rg, b1, t1⟩] from HU.out)
    clear HU
    go_enter Tryz.func111, Tryz.ntmps111
    go_wp2_with fail
    refine (Ag.out _).mono ?_
    rintro e w1 ⟨rfl, g1⟩
    obtain ⟨X1, Y1, c1, f1⟩ := g1.use
    have z1 := g1.size
    simp only [World.size_alloc, Nat.add_one_le_iff] at z1
    have k0 : w.heap.size < w1.heap.size := by omega
    have k1 : w.heap.size + 1 < w1.heap.size := by omega
    have k2 : w.heap.size + 1 + 1 < w1.heap.size := by omega
    go_wp2_with fail
    refine (A0.out _).mono ?_
    rintro e w2 ⟨rfl, g2⟩
    obtain ⟨X2, Y2, c2, f2⟩ := g2.use
    have z2 := g2.size
    simp only [World.size_alloc, Nat.add_one_le_iff] at z2
    have j0 : w.heap.size < w2.heap.size := by omega
    have j1 : w.heap.size + 1 < w2.heap.size := by omega
    have j2 : w.heap.size + 1 + 1 < w2.heap.size := by omega
    have j3 : w1.heap.size < w2.heap.size := by omega
    go_wp2_with fail
    refine (A1.out _).mono ?_
    rintro e w3 ⟨rfl, g3⟩
    obtain ⟨X3, Y3, c3, f3⟩ := g3.use
    have z3 := g3.size
    simp only [World.size_alloc, Nat.add_one_le_iff] at z3
    have i3 : w1.heap.size < w3.heap.size := by omega
    have i4 : w2.heap.size < w3.heap.size := by omega
    go_wp2
    go_ret
    refine ⟨_, _, by rw [HL.out]; rfl, ⟨?_, by rw [HL.out]; exact Nat.le_refl _, by decide⟩, (by with_reducible repeat (first | exact Gr.refl _ | assumption | refine Gr.alloc ?_ _ | refine Gr.drewN ?_ _ | refine Gr.drew ?_ | refine Gr.setCell ?_ (by first | (dsimp only; omega) | (simp only [World.size_alloc]; omega) | (refine Gr.size ?_; (repeat (first | exact Gr.refl _ | assumption | refine Gr.alloc ?_ _ | refine Gr.drewN ?_ _ | refine Gr.drew ?_ | refine Gr.trans ?_ (by assumption))); done)) _ | refine Gr.trans ?_ (by assumption))), ?_⟩
    · rw [HL.out]
      refine br_lit _ _ _ _ (by simp) ?_
      rfl
    · intro a ha
      cases ha
      dsimp only
      omega
end RG
end Go.Proofs.YtddhaiaapomdjaaGreat
set_option linter.unusedVariables false
set_option linter.unusedSimpArgs false
namespace Go.Proofs.YtddhaiaapomdjaaGreat
set_option linter.unusedVariables false
set_option linter.unusedSimpArgs false
open Go Go.ChangeShapes Go.WideShapes Go.ChangeAt Go.RowKit Go.Deep

namespace RG
abbrev fdv (f : Br) (A : Option Addr) (n c : Nat) : Value := .agg #[iv f.l, iv f.r, iv f.b, iv f.t, .slice A n c]
/-- bars whose numbers are small -/
def BrS (l : List Br) : Prop := ∀ b ∈ l, (-10000000 ≤ b.l ∧ b.l ≤ 10000000) ∧ (-10000000 ≤ b.r ∧ b.r ≤ 10000000) ∧ (-10000000 ≤ b.b ∧ b.b ≤ 10000000) ∧ (-10000000 ≤ b.t ∧ b.t ≤ 10000000)
theorem fxV_stop {y x : Int} {b : Br} {l : List Br} (h : x < b.l) : fxV y (b :: l) x = x := by unfold fxV; rw [if_pos h]
theorem fxV_in1 {y x : Int} {b : Br} {l : List Br} (h : ¬ x < b.l) (k : wiB y b.b b.t = true) : fxV y (b :: l) x = fxV y l (max x (b.r + 1)) := by
  rw [wiB_iff] at k
  rw [fxV, if_neg h, if_pos k]
theorem fxV_out {y x : Int} {b : Br} {l : List Br} (h : ¬ x < b.l) (k : wiB y b.b b.t = false) : fxV y (b :: l) x = fxV y l x := by
  rw [fxV, if_neg h, if_neg]
  intro q
  rw [(wiB_iff).2 q] at k
  cases k
set_option maxHeartbeats 4000000 in
set_option maxRecDepth 100000 in
theorem firstOfRow_any (f : Br) (A : Option Addr) (c : Nat) (l : List Br) (y : Int) (w : World) (hl : SlBr w A c l) (hb : BrS l) :
    Calls Tryz.prog 115 #[fdv f A l.length c, iv y] w fun e w' => e = .returned (iv (fxV y l f.l)) ∧ Gr w w' := by
  have n1 := hl.cap
  have n2 := hl.capB
  have HL := hide hl
  have HB := hide hb
  clear hl hb
  go_enter Tryz.func115, Tryz.ntmps115
  go_wp2
  have g0 : Gr w (w.alloc (.cells #[iv f.l, iv f.r, iv f.b, iv f.t, .slice A l.length c] 119)) := Gr.alloc (Gr.refl _) _
  generalize w.alloc (.cells #[iv f.l, iv f.r, iv f.b, iv f.t, .slice A l.length c] 119) = w1 at *
  go_loopw [5, 14] (fun xv i wr => ∃ (k : Nat) (X : Int), k ≤ l.length ∧ i = iv k ∧ xv = iv X ∧ Gr w1 wr ∧ Hid (fxV y l f.l = fxV y (l.drop k) X)) (fun _ i _ => l.length - (intOf i).toNat)
  case atStart => exact ⟨0, f.l, by omega, rfl, rfl, Gr.refl _, hide (by rw [List.drop_zero])⟩
  case round =>
    obtain ⟨k, X, hk, rfl, rfl, g, HX⟩ := hrel
    by_cases hkl : k < l.length
    · obtain ⟨b, hbk⟩ : ∃ b, l[k]? = some b := ⟨_, List.getElem?_eq_getElem hkl⟩
      obtain ⟨B, o, hA, x0, x1, x2, x3⟩ := (HL.out.gr (g0.trans g)).at_ hbk
      subst hA
      have hbl : B < wr.heap.size := cell_lt (by rw [x0]; rfl)
      obtain ⟨_, ⟨q1, q2⟩, _⟩ := HB.out b (List.mem_of_getElem? hbk)
      have HD := hide (drop_at hbk)
      have hk0 : (0 : Int) ≤ (k : Int) := by omega
      have hk1 : (k : Int) < (l.length : Int) := by omega
      have W1 : IntKind.i64.wrap (b.r + 1) = b.r + 1 := IntWalk.i64_in _ (by omega)
      clear hbk q1 q2
      by_cases hs : X < b.l
      · have HE := hide (show fxV y l f.l = X by rw [HX.out, HD.out]; exact fxV_stop hs)
        clear HX HD
        go_wp2
        go_ret
        exact ⟨ret_iv HE.out.symm, (by with_reducible repeat (first | exact Gr.refl _ | assumption | refine Gr.alloc ?_ _ | refine Gr.drewN ?_ _ | refine Gr.drew ?_ | refine Gr.setCell ?_ (by first | (dsimp only; omega) | (simp only [World.size_alloc]; omega) | (refine Gr.size ?_; (repeat (first | exact Gr.refl _ | assumption | refine Gr.alloc ?_ _ | refine Gr.drewN ?_ _ | refine Gr.drew ?_ | refine Gr.trans ?_ (by assumption))); done)) _ | refine Gr.trans ?_ (by assumption)))⟩
      · cases hw : wiB y b.b b.t with
        | true =>
          have HX' := hide (show fxV y l f.l = fxV y (l.drop (k + 1)) (max X (b.r + 1)) by rw [HX.out, HD.out]; exact fxV_in1 hs hw)
          have hs' : b.l ≤ X := by omega
          clear HX HD hs
          go_wp2_with (first | (go_at_call 60; refine (nwithin_any _ _ _ _).mono ?_; rintro e w1 ⟨rfl, rfl⟩))
          all_goals
            go_roundw
            case rel => exact ⟨k + 1, max X (b.r + 1), by omega, by go_num, iv_eq (by omega), (by with_reducible repeat (first | exact Gr.refl _ | assumption | refine Gr.alloc ?_ _ | refine Gr.drewN ?_ _ | refine Gr.drew ?_ | refine Gr.setCell ?_ (by first | (dsimp only; omega) | (simp only [World.size_alloc]; omega) | (refine Gr.size ?_; (repeat (first | exact Gr.refl _ | assumption | refine Gr.alloc ?_ _ | refine Gr.drewN ?_ _ | refine Gr.drew ?_ | refine Gr.trans ?_ (by assumption))); done)) _ | refine Gr.trans ?_ (by assumption))), HX'⟩
            case measure => simp only [intOf]; omega
        | false =>
          have HX' := hide (show fxV y l f.l = fxV y (l.drop (k + 1)) X by rw [HX.out, HD.out]; exact fxV_out hs hw)
          have hs' : b.l ≤ X := by omega
          clear HX HD hs
          go_wp2_with (first | (go_at_call 60; refine (nwithin_any _ _ _ _).mono ?_; rintro e w1 ⟨rfl, rfl⟩))
          go_roundw
          case rel => exact ⟨k + 1, X, by omega, by go_num, rfl, (by with_reducible repeat (first | exact Gr.refl _ | assumption | refine Gr.alloc ?_ _ | refine Gr.drewN ?_ _ | refine Gr.drew ?_ | refine Gr.setCell ?_ (by first | (dsimp only; omega) | (simp only [World.size_alloc]; omega) | (refine Gr.size ?_; (repeat (first | exact Gr.refl _ | assumption | refine Gr.alloc ?_ _ | refine Gr.drewN ?_ _ | refine Gr.drew ?_ | refine Gr.trans ?_ (by assumption))); done)) _ | refine Gr.trans ?_ (by assumption))), HX'⟩
          case measure => simp only [intOf]; omega
    · obtain rfl : k = l.length := by omega
      have HE := hide (show fxV y l f.l = X by rw [HX.out, List.drop_length]; rfl)
      clear HX
      go_wp2
      go_ret
      exact ⟨ret_iv HE.out.symm, (by with_reducible repeat (first | exact Gr.refl _ | assumption | refine Gr.alloc ?_ _ | refine Gr.drewN ?_ _ | refine Gr.drew ?_ | refine Gr.setCell ?_ (by first | (dsimp only; omega) | (simp only [World.size_alloc]; omega) | (refine Gr.size ?_; (repeat (first | exact Gr.refl _ | assumption | refine Gr.alloc ?_ _ | refine Gr.drewN ?_ _ | refine Gr.drew ?_ | refine Gr.trans ?_ (by assumption))); done)) _ | refine Gr.trans ?_ (by assumption)))⟩
end RG
end Go.Proofs.YtddhaiaapomdjaaGreat
set_option linter.unusedVariables false
set_option linter.unusedSimpArgs false
namespace Go.Proofs.YtddhaiaapomdjaaGreat
set_option linter.unusedVariables false
set_option linter.unusedSimpArgs false
open Go Go.ChangeShapes Go.WideShapes Go.ChangeAt Go.RowKit Go.Deep

namespace RG
/-- w' is w with more behind it; what was there is as it was, but for the blocks X -/
structure Kx (X : Nat → Prop) (w w' : World) : Prop where
  os : w'.os = w.os
  tape : w'.tape = w.tape
  output : w'.output = w.output
  size : w.heap.size ≤ w'.heap.size
  block : ∀ b, b < w.heap.size → ¬ X b → w'.heap[b]? = w.heap[b]?
theorem Kx.refl (X : Nat → Prop) (w : World) : Kx X w w := ⟨rfl, rfl, rfl, Nat.le_refl _, fun _ _ _ => rfl⟩
theorem Kx.of_gr {X : Nat → Prop} {w w' : World} (g : Gr w w') : Kx X w w' := ⟨g.os, g.tape, g.output, g.size, fun b hb _ => Below.block g b hb⟩
theorem Kx.trans {X Y : Nat → Prop} {a b c : World} (h : Kx X a b) (k : Kx Y b c) (hx : ∀ i, i < a.heap.size → Y i → X i) : Kx X a c :=
  ⟨k.os.trans h.os, k.tape.trans h.tape, k.output.trans h.output, Nat.le_trans h.size k.size, fun i hi hn => (k.block i (Nat.lt_of_lt_of_le hi h.size) (fun hy => hn (hx i hi hy))).trans (h.block i hi hn)⟩
theorem Kx.gr {X : Nat → Prop} {a b c : World} (h : Kx X a b) (g : Gr b c) : Kx X a c := h.trans (Kx.of_gr (X := fun _ => False) g) (fun _ _ h => h.elim)
theorem Kx.set {X : Nat → Prop} {a b : World} (h : Kx X a b) {B : Nat} (o : Nat) (v : Value) (hB : X B ∨ a.heap.size ≤ B) : Kx X a (b.setCell ⟨B, o, none⟩ v) := by
  have q : Below 0 b (b.setCell ⟨B, o, none⟩ v) := Below.setCell (Below.refl _ _) (Nat.zero_le _) v
  refine ⟨q.os.trans h.os, q.tape.trans h.tape, q.output.trans h.output, Nat.le_trans h.size q.size, fun i hi hn => ?_⟩
  have hne : i ≠ B := fun e => by
    subst e
    rcases hB with c | c
    · exact hn c
    · omega
  exact (heap_setCell_other b ⟨B, o, none⟩ i v (fun e => hne (by simpa using e))).trans (h.block i hi hn)
theorem Kx.grown {X : Nat → Prop} {a b c : World} {row : Option Nat} (h : Kx X a b) (g : b.grownBy c row) (hr : ∀ k, row = some k → X k ∨ a.heap.size ≤ k) : Kx X a c :=
  ⟨g.os.trans h.os, g.tape.trans h.tape, g.output.trans h.output, Nat.le_trans h.size g.size, fun i hi hn => (g.block i (Nat.lt_of_lt_of_le hi h.size) (fun e => by
    rcases hr i e.symm with c | c
    · exact hn c
    · omega)).trans (h.block i hi hn)⟩
theorem Kx.toGr {X : Nat → Prop} {z a b : World} (h : Kx X a b) (g : Gr z a) (hx : ∀ i, X i → z.heap.size ≤ i) : Gr z b :=
  ⟨h.os.trans g.os, h.tape.trans g.tape, h.output.trans g.output, Nat.le_trans g.size h.size, fun i hi => (h.block i (Nat.lt_of_lt_of_le hi g.size) (fun hy => by have := hx i hy; omega)).trans (Below.block g i hi)⟩
theorem Kx.cell {X : Nat → Prop} {a b : World} (h : Kx X a b) {i : Nat} (hi : i < a.heap.size) (hn : ¬ X i) (o : Nat) : b.cell? ⟨i, o, none⟩ = a.cell? ⟨i, o, none⟩ := World.cell?_of_block (h.block i hi hn)
theorem Kx.frozen {X : Nat → Prop} {a b : World} (h : Kx X a b) {i : Nat} (hi : i < a.heap.size) (hn : ¬ X i) (o : Nat) : b.frozen? ⟨i, o, none⟩ = a.frozen? ⟨i, o, none⟩ := World.frozen?_of_block (h.block i hi hn)
theorem Made.kx {X : Nat → Prop} {a b : World} {B : Nat} {z : Array Value} (h : Made a B z) (k : Kx X a b) (hn : ¬ X B) : Made b B z :=
  ⟨Nat.lt_of_lt_of_le h.1 k.size, fun o => (k.cell h.1 hn o).trans (h.2.1 o), fun o => (k.frozen h.1 hn o).trans (h.2.2 o)⟩
theorem rdl_kx {X : Nat → Prop} {a b : World} {k : Nat} {α : Type} {c : α → List Value} {A : Option Addr} {l : List α} (h : RdL a k c A l) (hc : ∀ x, 0 < (c x).length) (g : Kx X a b) (hf : l ≠ [] → ∀ x, A = some x → ¬ X x.block) : RdL b k c A l := by
  by_cases hl : l = []
  · subst hl
    exact fun i x hx => by simp at hx
  · refine rdl_keep h fun x hx o => ?_
    obtain ⟨y, hy⟩ : ∃ y, l[0]? = some y := ⟨_, List.getElem?_eq_getElem (List.length_pos_iff.2 hl)⟩
    obtain ⟨B, off, e, h0⟩ := h 0 y hy
    rw [hx] at e
    cases e
    have hlt : B < a.heap.size := by
      have hcy := hc y
      cases hcv : c y with
      | nil => rw [hcv] at hcy; simp at hcy
      | cons v vs =>
        rw [hcv] at h0
        exact cell_lt (by rw [h0.1]; rfl)
    exact g.cell hlt (hf hl _ hx) o
theorem SlBr.kx {X : Nat → Prop} {a b : World} {A : Option Addr} {c : Nat} {l : List Br} (h : SlBr a A c l) (g : Kx X a b) (hf : l ≠ [] → ∀ x, A = some x → ¬ X x.block) : SlBr b A c l := ⟨rdl_kx h.rd (fun _ => by simp) g hf, h.cap, h.capB⟩
theorem SlR.kx {X : Nat → Prop} {a b : World} {A : Option Addr} {c : Nat} {l : List Rc} (h : SlR a A c l) (g : Kx X a b) (hf : l ≠ [] → ∀ x, A = some x → ¬ X x.block) : SlR b A c l := ⟨rdl_kx h.rd (fun _ => by simp) g hf, h.cap, h.capB⟩
theorem OwnL.kx {X : Nat → Prop} {α : Type} {c : α → List Value} {a b : World} {base : Nat} {e : TypeId} {k : Nat} {v : Value} {xs : List α} (h : OwnL a base e k c v xs) (g : Kx X a b) (hf : ∀ i, v.ownBlock = some i → ¬ X i) : OwnL b base e k c v xs := by
  obtain ⟨h0, h1 | ⟨i, cap, cur, h1, hb, h2, h3⟩⟩ := id h
  · exact ⟨h0, .inl h1⟩
  · refine ⟨h0, .inr ⟨i, cap, cur, h1, hb, ?_, h3⟩⟩
    rw [← h2]
    exact g.block i (Array.getElem?_eq_some_iff.1 h2).1 (hf i (by rw [h1]; rfl))
theorem own_setK {α : Type} {c : α → List Value} {w : World} {base : Nat} {e : TypeId} {k : Nat} {v : Value} {xs : List α} (h : OwnL w base e k c v xs) {B : Nat} (i : Nat) (u : Value) (hB : B < base) : OwnL (w.setCell ⟨B, i, none⟩ u) base e k c v xs := own_farN h (by exact hB) u
theorem made_grownK {w w' : World} {B : Nat} {z : Array Value} {row : Option Nat} (h : Made w B z) (hg : w.grownBy w' row) (hne : some B ≠ row) : Made w' B z := by
  have hb := hg.block B h.1 hne
  exact ⟨Nat.lt_of_lt_of_le h.1 hg.size, fun o => (World.cell?_of_block (a := ⟨B, o, none⟩) hb).trans (h.2.1 o), fun o => (World.frozen?_of_block (a := ⟨B, o, none⟩) hb).trans (h.2.2 o)⟩
/-- a field in its variable F, its bars in a row of the call's own from lo on -/
structure FdB (w : World) (F lo : Nat) (f : Br) (D : Option Addr) (q : Nat) (C : List Br) : Prop where
  md : Made w F #[iv f.l, iv f.r, iv f.b, iv f.t, .slice D C.length q]
  own : OwnL w lo 116 4 brL (.slice D C.length q) C
  lt : F < lo
theorem FdB.gr {w w' : World} {F lo : Nat} {f : Br} {D : Option Addr} {q : Nat} {C : List Br} (h : FdB w F lo f D q C) (g : Gr w w') : FdB w' F lo f D q C := ⟨h.md.gr g, h.own.gr g, h.lt⟩
/-- the blocks that a field may turn -/
def fdX (F : Nat) (D : Option Addr) : Nat → Prop := fun i => i = F ∨ (D.map Addr.block) = some i
theorem own_map {D : Option Addr} {n q i : Nat} {w : World} {base : Nat} {e : TypeId} {k : Nat} {α : Type} {c : α → List Value} {xs : List α} (h : OwnL w base e k c (.slice D n q) xs) : (Value.slice D n q).ownBlock = some i ↔ (D.map Addr.block) = some i := by
  rcases h.2 with ⟨h1, _⟩ | ⟨g, cap, cur, h1, _⟩
  · cases h1; simp [Value.ownBlock]
  · cases h1; simp [Value.ownBlock]
theorem kpL_snoc {f : Br} {l : List Br} {k : Nat} {b : Br} (h : l[k]? = some b) : kpL f (l.take (k + 1)) = if kpB f b = true then kpL f (l.take k) ++ [b] else kpL f (l.take k) := by
  unfold kpL
  rw [take_at h, List.filter_append]
  cases hk : kpB f b <;> simp [List.filter, hk]
end RG
end Go.Proofs.YtddhaiaapomdjaaGreat
set_option linter.unusedVariables false
set_option linter.unusedSimpArgs false
namespace Go.Proofs.YtddhaiaapomdjaaGreat
set_option linter.unusedVariables false
set_option linter.unusedSimpArgs false
open Go Go.ChangeShapes Go.WideShapes Go.ChangeAt Go.RowKit Go.Deep

namespace RG
/-- what closeBars leaves -/
def ClP (w : World) (F lo : Nat) (f : Br) (D : Option Addr) (C : List Br) (w' : World) : Prop := ∃ (D' : Option Addr) (q' : Nat), FdB w' F lo f D' q' C ∧ Kx (fdX F D) w w' ∧ ∀ i, (D'.map Addr.block) = some i → (D.map Addr.block) = some i ∨ w.heap.size ≤ i
set_option maxHeartbeats 8000000 in
set_option maxRecDepth 100000 in
theorem closeBars_any (F lo : Nat) (f : Br) (D : Option Addr) (q : Nat) (C : List Br) (A : Option Addr) (c : Nat) (l : List Br) (w : World) (hF : FdB w F lo f D q C) (hl : SlBr w A c l) (hf : l ≠ [] → ∀ x, A = some x → ¬ fdX F D x.block) (hlo : lo ≤ w.heap.size) (hn : C.length + l.length ≤ 900000) :
    Calls Tryz.prog 109 #[.pointer (some ⟨F, 0, none⟩), .slice A l.length c] w fun e w' => e = .returned (.tuple #[]) ∧ ClP w F lo f D (C ++ kpL f l) w' := by
  have n1 := hl.cap
  have n2 := hl.capB
  have HL := hide hl
  have HF0 := hide hF
  have HA := hide hf
  have HKS := hide (fun (k : Nat) (b : Br) (h : l[k]? = some b) => kpL_snoc (f := f) h)
  have HKL := hide (fun (k : Nat) => show (kpL f (l.take k)).length ≤ l.length from Nat.le_trans (List.length_filter_le _ _) (by rw [List.length_take]; omega))
  clear hl hF hf
  go_enter Tryz.func109, Tryz.ntmps109
  go_wp2
  go_loopw [8] (fun i wr => ∃ (k : Nat) (C1 : List Br) (D1 : Option Addr) (q1 : Nat), k ≤ l.length ∧ i = iv k ∧ Hid (C1 = C ++ kpL f (l.take k)) ∧ Hid (FdB wr F lo f D1 q1 C1) ∧ Hid (Kx (fdX F D) w wr) ∧ Hid (∀ i, (D1.map Addr.block) = some i → (D.map Addr.block) = some i ∨ w.heap.size ≤ i) ∧ lo ≤ wr.heap.size) (fun i _ => l.length - (intOf i).toNat)
  case atStart => exact ⟨0, C, D, q, by omega, rfl, hide (by rw [List.take_zero]; simp [kpL]), HF0, hide (Kx.refl _ _), hide (fun i h => .inl h), hlo⟩
  case round =>
    obtain ⟨k, C1, D1, q1, hk, rfl, HC, HF, HK, HD, hlr⟩ := hrel
    have hC1 : C1.length ≤ 900000 := by
      have := HKL.out k
      rw [HC.out, List.length_append]
      omega
    by_cases hkl : k < l.length
    · obtain ⟨b, hb⟩ : ∃ b, l[k]? = some b := ⟨_, List.getElem?_eq_getElem hkl⟩
      have hne : l ≠ [] := fun e => by rw [e] at hkl; simp at hkl
      obtain ⟨B, o, hA, x0, x1, x2, x3⟩ := (HL.out.kx HK.out (HA.out)).at_ hb
      subst hA
      have hbl : B < wr.heap.size := cell_lt (by rw [x0]; rfl)
      have HS := hide (HKS.out k b hb)
      have hk0 : (0 : Int) ≤ (k : Int) := by omega
      have hk1 : (k : Int) < (l.length : Int) := by omega
      have c0 : wr.cell? ⟨F, 0, none⟩ = some (iv f.l) := HF.out.md.2.1 0
      have c1 : wr.cell? ⟨F, 1, none⟩ = some (iv f.r) := HF.out.md.2.1 1
      have c2 : wr.cell? ⟨F, 2, none⟩ = some (iv f.b) := HF.out.md.2.1 2
      have c3 : wr.cell? ⟨F, 3, none⟩ = some (iv f.t) := HF.out.md.2.1 3
      have c4 : wr.cell? ⟨F, 4, none⟩ = some (.slice D1 C1.length q1) := HF.out.md.2.1 4
      have f4 : wr.frozen? ⟨F, 4, none⟩ = false := HF.out.md.2.2 4
      have hFl := HF.out.md.1
      have hFo := HF.out.lt
      have HKB := hide (show kpB f b = (decide (max b.l f.l ≤ min b.r f.r) && decide (max b.b f.b ≤ min b.t f.t)) from rfl)
      clear hb hne
      cases hA1 : decide (max b.l f.l ≤ min b.r f.r) with
      | false =>
        have HS' := hide (show C1 = C ++ kpL f (l.take (k + 1)) by rw [HS.out, HKB.out, hA1, Bool.false_and, if_neg (by decide)]; exact HC.out)
        go_wp2
        have GC := @GrW.cell
        refine wp_region_grw _ (by kernel_rfl) (by kernel_rfl) (Gr.refl _) ?_
        repeat (go_big_quiet_step ((first | fail)))
        refine wpQuiet_nil ?_
        intro wq hwq
        obtain ⟨gq, hwq'⟩ := hwq
        subst hwq'
        clear GC
        have gq1 := gq.gr
        generalize gq.w = wq at gq1 ⊢
        obtain ⟨Xq, Yq, cq, fq⟩ := gq1.use
        have sq := gq1.size
        (try simp only [World.size_alloc, World.size_setCell, World.heap_drewN] at sq)
        go_wp2
        go_roundw
        case rel => exact ⟨k + 1, C1, D1, q1, by omega, by go_num, HS', hide (HF.out.gr (by with_reducible repeat (first | exact Gr.refl _ | assumption | refine Gr.alloc ?_ _ | refine Gr.drewN ?_ _ | refine Gr.drew ?_ | refine Gr.setCell ?_ (by first | (dsimp only; omega) | (simp only [World.size_alloc]; omega) | (refine Gr.size ?_; (repeat (first | exact Gr.refl _ | assumption | refine Gr.alloc ?_ _ | refine Gr.drewN ?_ _ | refine Gr.drew ?_ | refine Gr.trans ?_ (by assumption))); done)) _ | refine Gr.trans ?_ (by assumption)))), hide (HK.out.gr (by with_reducible repeat (first | exact Gr.refl _ | assumption | refine Gr.alloc ?_ _ | refine Gr.drewN ?_ _ | refine Gr.drew ?_ | refine Gr.setCell ?_ (by first | (dsimp only; omega) | (simp only [World.size_alloc]; omega) | (refine Gr.size ?_; (repeat (first | exact Gr.refl _ | assumption | refine Gr.alloc ?_ _ | refine Gr.drewN ?_ _ | refine Gr.drew ?_ | refine Gr.trans ?_ (by assumption))); done)) _ | refine Gr.trans ?_ (by assumption)))), HD, by have := sq; omega⟩
        case measure => simp only [intOf]; omega
      | true =>
        cases hB1 : decide (max b.b f.b ≤ min b.t f.t) with
        | false =>
          have HS' := hide (show C1 = C ++ kpL f (l.take (k + 1)) by rw [HS.out, HKB.out, hA1, hB1, Bool.and_false, if_neg (by decide)]; exact HC.out)
          go_wp2
          have GC := @GrW.cell
          refine wp_region_grw _ (by kernel_rfl) (by kernel_rfl) (Gr.refl _) ?_
          repeat (go_big_quiet_step ((first | fail)))
          refine wpQuiet_nil ?_
          intro wq hwq
          obtain ⟨gq, hwq'⟩ := hwq
          subst hwq'
          clear GC
          have gq1 := gq.gr
          generalize gq.w = wq at gq1 ⊢
          obtain ⟨Xq, Yq, cq, fq⟩ := gq1.use
          have sq := gq1.size
          (try simp only [World.size_alloc, World.size_setCell, World.heap_drewN] at sq)
          go_wp2
          go_roundw
          case rel => exact ⟨k + 1, C1, D1, q1, by omega, by go_num, HS', hide (HF.out.gr (by with_reducible repeat (first | exact Gr.refl _ | assumption | refine Gr.alloc ?_ _ | refine Gr.drewN ?_ _ | refine Gr.drew ?_ | refine Gr.setCell ?_ (by first | (dsimp only; omega) | (simp only [World.size_alloc]; omega) | (refine Gr.size ?_; (repeat (first | exact Gr.refl _ | assumption | refine Gr.alloc ?_ _ | refine Gr.drewN ?_ _ | refine Gr.drew ?_ | refine Gr.trans ?_ (by assumption))); done)) _ | refine Gr.trans ?_ (by assumption)))), hide (HK.out.gr (by with_reducible repeat (first | exact Gr.refl _ | assumption | refine Gr.alloc ?_ _ | refine Gr.drewN ?_ _ | refine Gr.drew ?_ | refine Gr.setCell ?_ (by first | (dsimp only; omega) | (simp only [World.size_alloc]; omega) | (refine Gr.size ?_; (repeat (first | exact Gr.refl _ | assumption | refine Gr.alloc ?_ _ | refine Gr.drewN ?_ _ | refine Gr.drew ?_ | refine Gr.trans ?_ (by assumption))); done)) _ | refine Gr.trans ?_ (by assumption)))), HD, by have := sq; omega⟩
          case measure => simp only [intOf]; omega
        | true =>
          have HS' := hide (show C1 ++ [b] = C ++ kpL f (l.take (k + 1)) by rw [HS.out, HKB.out, hA1, hB1, Bool.and_true, if_pos rfl, HC.out, List.append_assoc])
          go_wp2
          have GC := @GrW.cell
          refine wp_region_grw _ (by kernel_rfl) (by kernel_rfl) (Gr.refl _) ?_
          repeat (go_big_quiet_step ((first | fail)))
          refine wpQuiet_nil ?_
          intro wq hwq
          obtain ⟨gq, hwq'⟩ := hwq
          subst hwq'
          clear GC
          have gq1 := gq.gr
          generalize gq.w = wq at gq1 ⊢
          obtain ⟨Xq, Yq, cq, fq⟩ := gq1.use
          have sq := gq1.size
          (try simp only [World.size_alloc, World.size_setCell, World.heap_drewN] at sq)
          go_upto_region 4 with fail
          have HF5 := hide (HF.out.gr (show Gr wr wq from (by with_reducible repeat (first | exact Gr.refl _ | assumption | refine Gr.alloc ?_ _ | refine Gr.drewN ?_ _ | refine Gr.drew ?_ | refine Gr.setCell ?_ (by first | (dsimp only; omega) | (simp only [World.size_alloc]; omega) | (refine Gr.size ?_; (repeat (first | exact Gr.refl _ | assumption | refine Gr.alloc ?_ _ | refine Gr.drewN ?_ _ | refine Gr.drew ?_ | refine Gr.trans ?_ (by assumption))); done)) _ | refine Gr.trans ?_ (by assumption)))))
          have HK5 := hide (HK.out.gr (show Gr wr wq from (by with_reducible repeat (first | exact Gr.refl _ | assumption | refine Gr.alloc ?_ _ | refine Gr.drewN ?_ _ | refine Gr.drew ?_ | refine Gr.setCell ?_ (by first | (dsimp only; omega) | (simp only [World.size_alloc]; omega) | (refine Gr.size ?_; (repeat (first | exact Gr.refl _ | assumption | refine Gr.alloc ?_ _ | refine Gr.drewN ?_ _ | refine Gr.drew ?_ | refine Gr.trans ?_ (by assumption))); done)) _ | refine Gr.trans ?_ (by assumption)))))
          have hl5 : lo ≤ wq.heap.size := by omega
          obtain ⟨s5, y0, y1, y2, y3⟩ := box4 gq1
          have hF5l := HF5.out.md.1
          have hbx : wr.heap.size ≠ F := by omega
          clear c0 c1 c2 c3 c4 f4 x0 x1 x2 x3 cq fq HF HK gq1 hFl
          obtain ⟨w5, rfl⟩ : ∃ w5, w5 = wq := ⟨_, rfl⟩
          have m4 : w5.cell? ⟨F, 4, none⟩ = some (.slice D1 C1.length q1) := HF5.out.md.2.1 4
          have v4 : w5.frozen? ⟨F, 4, none⟩ = false := HF5.out.md.2.2 4
          obtain ⟨C2, hC2⟩ : ∃ C2, C1 ++ [b] = C2 := ⟨_, rfl⟩
          rw [hC2] at HS'
          have HC2 := hide hC2
          clear hC2
          obtain ⟨i0, z0, hi0, hz0, hsz0, hby0, hzc0⟩ := elBar.inf
          have HOW := hide (show World.ownsRow w5 lo 116 4 (.slice D1 C1.length q1) C1.length (C1.flatMap brL) from HF5.out.own)
          have HFI := hide (show ∀ (w8 : World) (gg cap1 : Nat), w8.ownsRow lo 116 4 (.slice (some ⟨gg, 0, none⟩) (C1.length + 1) cap1) (C1.length + 1) (C1.flatMap brL ++ brL b) → (C1.length + 1 = C2.length ∧ OwnL w8 lo 116 4 brL (.slice (some ⟨gg, 0, none⟩) C2.length cap1) C2) by
            intro w8 gg cap1 h
            have e : C1.length + 1 = C2.length := by rw [← HC2.out, List.length_append]; rfl
            refine ⟨e, ?_⟩
            unfold OwnL
            rw [← e, ← HC2.out, fm_snoc]
            exact h)
          have HNE := hide (show some F ≠ (Value.slice D1 C1.length q1).ownBlock from fun e => by
            have := (World.ownsRow.lt HOW.out F e.symm).1
            omega)
          have HMD := hide HF5.out.md
          obtain ⟨FL, hFL⟩ : ∃ FL, C1.flatMap brL = FL := ⟨_, rfl⟩
          rw [hFL] at HOW HFI
          clear hFL
          obtain ⟨NL, hNL⟩ : ∃ NL, C1.length = NL := ⟨_, rfl⟩
          have HNL := hide hNL
          have HROW := hide (fun i => own_map (i := i) HF5.out.own)
          rw [hNL] at HOW HFI HNE HMD HROW m4 hC1
          clear hNL
          go_region_law (first
            | (refine step_append_lies _ (by rfl) _ _ _ (by rfl) lo 116 i0 _ 4 32 elBar.und hi0 hz0 hsz0 hby0 hzc0 (by omega) _ NL FL (by rfl) (own_gr HOW.out (by with_reducible repeat (first | exact Gr.refl _ | assumption | refine Gr.alloc ?_ _ | refine Gr.drewN ?_ _ | refine Gr.drew ?_ | refine Gr.setCell ?_ (by first | (dsimp only; omega) | (simp only [World.size_alloc]; omega) | (refine Gr.size ?_; (repeat (first | exact Gr.refl _ | assumption | refine Gr.alloc ?_ _ | refine Gr.drewN ?_ _ | refine Gr.drew ?_ | refine Gr.trans ?_ (by assumption))); done)) _ | refine Gr.trans ?_ (by assumption)))) ⟨w5.heap.size, 0, none⟩ 1 1 (brL b) (by rfl) (by rfl) (newsA _ #[iv b.l, iv b.r, iv b.b, iv b.t] 116) (one_br b) (by omega) (by unfold maxLen; omega) (by omega) (Nat.le_trans hl5 (Gr.size (by with_reducible repeat (first | exact Gr.refl _ | assumption | refine Gr.alloc ?_ _ | refine Gr.drewN ?_ _ | refine Gr.drew ?_ | refine Gr.setCell ?_ (by first | (dsimp only; omega) | (simp only [World.size_alloc]; omega) | (refine Gr.size ?_; (repeat (first | exact Gr.refl _ | assumption | refine Gr.alloc ?_ _ | refine Gr.drewN ?_ _ | refine Gr.drew ?_ | refine Gr.trans ?_ (by assumption))); done)) _ | refine Gr.trans ?_ (by assumption))))) _ rfl ?_; intro gg cap1 w8 hown8 hgrow hat hlt; (have m8 := made_grownK (HMD.out.gr (by with_reducible repeat (first | exact Gr.refl _ | assumption | refine Gr.alloc ?_ _ | refine Gr.drewN ?_ _ | refine Gr.drew ?_ | refine Gr.setCell ?_ (by first | (dsimp only; omega) | (simp only [World.size_alloc]; omega) | (refine Gr.size ?_; (repeat (first | exact Gr.refl _ | assumption | refine Gr.alloc ?_ _ | refine Gr.drewN ?_ _ | refine Gr.drew ?_ | refine Gr.trans ?_ (by assumption))); done)) _ | refine Gr.trans ?_ (by assumption)))) hgrow HNE.out); (have m84 := m8.2.1 4); (have v84 := m8.2.2 4); (have m8l := m8.1)))
          all_goals
            obtain ⟨e8, o8⟩ := HFI.out w8 gg cap1 hown8
            have hKg := hide (Kx.grown (HK5.out.gr (show Gr w5 _ from (by with_reducible repeat (first | exact Gr.refl _ | assumption | refine Gr.alloc ?_ _ | refine Gr.drewN ?_ _ | refine Gr.drew ?_ | refine Gr.setCell ?_ (by first | (dsimp only; omega) | (simp only [World.size_alloc]; omega) | (refine Gr.size ?_; (repeat (first | exact Gr.refl _ | assumption | refine Gr.alloc ?_ _ | refine Gr.drewN ?_ _ | refine Gr.drew ?_ | refine Gr.trans ?_ (by assumption))); done)) _ | refine Gr.trans ?_ (by assumption))))) hgrow (fun k hk => by
              rcases HD.out k ((HROW.out k).1 hk) with c | c
              · exact .inl (.inr c)
              · exact .inr c))
            have hDg := hide (show ∀ i, ((some (⟨gg, 0, none⟩ : Addr)).map Addr.block) = some i → (D.map Addr.block) = some i ∨ w.heap.size ≤ i from by
              intro i hi
              obtain rfl : gg = i := by simpa using hi
              rcases hat with c | c
              · exact HD.out gg ((HROW.out gg).1 c)
              · right
                have := HK5.out.size
                simp only [World.size_alloc, World.size_drew, World.heap_drewN] at c
                omega)
            have hMg := hide (m8.set1 (o := 4) (show 4 < 5 by decide) (.slice (some ⟨gg, 0, none⟩) (NL + 1) cap1))
            have hOg := hide (own_setK o8 4 (.slice (some ⟨gg, 0, none⟩) (NL + 1) cap1) (show F < lo from hFo))
            have hSg : lo ≤ w8.heap.size := by
              have := hgrow.size
              simp only [World.size_alloc, World.size_drew, World.heap_drewN] at this
              omega
            clear hgrow hown8 m8 m84 v84 hat
            go_wp2
            go_roundw
            case rel => exact ⟨k + 1, C2, some ⟨gg, 0, none⟩, cap1, by omega, by go_num, HS', hide ⟨by have := hMg.out; rw [e8] at this; exact this, by have := hOg.out; rw [e8] at this; exact this, hFo⟩, hide (Kx.set hKg.out 4 _ (.inl (.inl rfl))), hDg, by rw [World.size_setCell]; exact hSg⟩
            case measure => simp only [intOf]; omega
    · obtain rfl : k = l.length := by omega
      have HE := hide (show ClP w F lo f D (C ++ kpL f l) wr from ⟨D1, q1, by
        have e := HC.out
        rw [List.take_length] at e
        rw [← e]
        exact HF.out, HK.out, HD.out⟩)
      clear HC HF HK HD
      go_wp2
      refine bodyPost_end (v := .tuple #[]) (by simp [results, Tryz.results109, go_sem, *]) rfl ⟨rfl, HE.out⟩
end RG
end Go.Proofs.YtddhaiaapomdjaaGreat
set_option linter.unusedVariables false
set_option linter.unusedSimpArgs false
namespace Go.Proofs.YtddhaiaapomdjaaGreat
set_option linter.unusedVariables false
set_option linter.unusedSimpArgs false
open Go Go.ChangeShapes Go.WideShapes Go.ChangeAt Go.RowKit Go.Deep

namespace RG
instance : Inhabited Br := ⟨⟨0, 0, 0, 0⟩⟩
def cmpL (r s : Br) : Int := Lib.compareInt r.l s.l
theorem ltL (r s : Br) : ltOf cmpL r s = decide (r.l < s.l) := ltI r.l s.l
theorem swoL : Go.Sort.SWO (ltOf cmpL) where
  irrefl x := by rw [ltL]; simp
  trans x y z h1 h2 := by rw [ltL] at *; simp at *; omega
  ntrans x y z h1 h2 := by rw [ltL] at *; simp at *; omega
theorem cmpL_gd (r s : Br) (w : World) : Calls Tryz.prog 113 #[brv r, brv s] w fun e w' => e = .returned (iv (cmpL r s)) ∧ Gd w w' := by
  have HC := hide (fun w' => Go.Proofs.Any.cmp_Compare_int Tryz.layFCmp r.l s.l w')
  obtain ⟨x, y, u, h⟩ := r
  obtain ⟨a, b, c, d⟩ := s
  dsimp only at *
  go_enter Tryz.func113, Tryz.ntmps113
  go_wp2_with (go_at_call 95; refine (HC.out _).mono ?_; rintro e w1 ⟨rfl, rfl⟩)
  go_ret
  exact ⟨rfl, (by with_reducible repeat (first | exact Gr.refl _ | assumption | refine Gr.alloc ?_ _ | refine Gr.drewN ?_ _ | refine Gr.drew ?_ | refine Gr.setCell ?_ (by first | (dsimp only; omega) | (simp only [World.size_alloc]; omega) | (refine Gr.size ?_; (repeat (first | exact Gr.refl _ | assumption | refine Gr.alloc ?_ _ | refine Gr.drewN ?_ _ | refine Gr.drew ?_ | refine Gr.trans ?_ (by assumption))); done)) _ | refine Gr.trans ?_ (by assumption))), Nat.le_refl _⟩
theorem lays_cmpL (blk off size : Nat) (w : World) : Go.Proofs.CmpLays Tryz.prog 113 #[] brL 4 cmpL blk off size w :=
  fun _ _ _ _ x y => (cmpL_gd x y _).mono fun e w' ⟨h1, h2⟩ => ⟨h1, h2.grow⟩
theorem flatK_br (d : Array Br) : Go.Sort.flatK brL 4 d = (d.toList.flatMap brL).toArray := by
  have hfl : ∀ xs : List Br, (xs.flatMap brL).length = xs.length * 4 := fm_len (c := brL) fun _ => rfl
  apply Array.ext
  · simp [hfl]
  · intro t h1 h2
    have h1' : t < d.size * 4 := by simpa using h1
    have e : (Go.Sort.flatK brL 4 d)[t] = (brL d[t / 4]!)[t % 4]! := by
      rw [← Go.Sort.get_flatK brL 4 d t h1', getElem!_pos _ t h1]
    rw [e]
    have hi : t / 4 < d.size := by omega
    have hd : d.toList[t / 4]? = some d[t / 4]! := by
      rw [Array.getElem?_toList, Array.getElem?_eq_getElem hi, getElem!_pos d _ hi]
    have hr : t % 4 < 4 := Nat.mod_lt _ (by omega)
    have ht : t = t / 4 * 4 + t % 4 := by omega
    have hf := fm_at (c := brL) (k := 4) (fun _ => rfl) d.toList (t / 4) _ (t % 4) hd hr
    have h2' : t < (d.toList.flatMap brL).length := by simpa using h2
    rw [← ht, List.getElem?_eq_getElem h2'] at hf
    have hl : t % 4 < (brL d[t / 4]!).length := by show t % 4 < 4; exact hr
    rw [List.getElem?_eq_getElem hl] at hf
    rw [getElem!_pos (brL d[t / 4]!) (t % 4) hl]
    simpa using (Option.some.inj hf).symm
theorem own_holdsB {w : World} {base g cap : Nat} {xs : List Br} (h : OwnL w base 116 4 brL (.slice (some ⟨g, 0, none⟩) xs.length cap) xs) : Go.Sort.HoldsK brL 4 w g 0 xs.toArray := by
  have hfl : ∀ xs : List Br, (xs.flatMap brL).length = xs.length * 4 := fm_len (c := brL) fun _ => rfl
  unfold Go.Sort.HoldsK
  rw [flatK_br]
  intro j hj
  have hj' : j < (xs.flatMap brL).length := by simpa using hj
  rw [Nat.zero_add]
  refine ⟨?_, World.ownsRow.frozenAt (h := h) j⟩
  rw [World.ownsRow.cellAt (h := h) j (by rw [hfl] at hj'; exact hj'), List.getElem?_eq_getElem hj', getElem!_pos _ j hj]
  simp
theorem own_sortedB {w : World} {base g cap n : Nat} {xs : List Br} {d : Array Br} (h : OwnL w base 116 4 brL (.slice (some ⟨g, 0, none⟩) xs.length cap) xs) (hl : d.size = xs.length) (m : Nat) (os : Array Obj) (hn : n = d.size) :
    OwnL (Go.Proofs.sortWorldK brL 4 w g 0 m d os) base 116 4 brL (.slice (some ⟨g, 0, none⟩) n cap) d.toList := by
  have hfl : ∀ xs : List Br, (xs.flatMap brL).length = xs.length * 4 := fm_len (c := brL) fun _ => rfl
  subst hn
  unfold OwnL at *
  obtain ⟨h1, h2⟩ := h
  rcases h2 with ⟨h0, _⟩ | ⟨g', cap', cur, hv, hg, hh, hn, hcap, hsz, htake⟩
  · cases h0
  · cases hv
    refine ⟨by rw [hfl], .inr ⟨g, cap, Go.Sort.putCells id 0 (Go.Sort.flatK brL 4 d) cur, by simp, hg, ?_, by simp; omega, hcap, by simpa [Go.Sort.putCells] using hsz, ?_⟩⟩
    · have hlt : g < w.heap.size := (Array.getElem?_eq_some_iff.1 hh).1
      unfold Go.Proofs.sortWorldK Go.Sort.putRowK
      rw [Go.Sort.heap_grow_old _ _ (by simpa [Go.Sort.putRow, Go.Sort.mapBlock, Go.Sort.ahead] using hlt)]
      simp [Go.Sort.putRow, Go.Sort.mapBlock, Go.Sort.ahead, Array.getElem?_modify, hh, Go.Sort.onCells]
    · rw [flatK_br]
      apply List.ext_getElem?
      intro j
      have hfd : (d.toList.flatMap brL).length = d.size * 4 := by rw [hfl, Array.length_toList]
      by_cases hj : j < d.size * 4
      · have hjl : j < (d.toList.flatMap brL).length := by rw [hfd]; omega
        have hjc : j < cur.size := by omega
        rw [List.getElem?_take, if_pos (by simpa using hj), Array.getElem?_toList]
        simp only [Go.Sort.putCells, Array.getElem?_mapIdx, Array.getElem?_eq_getElem hjc, Option.map_some]
        rw [if_pos (by simpa using hjl), List.getElem?_eq_getElem hjl, getElem!_pos _ _ (by simpa using hjl)]
        simp
      · rw [List.getElem?_take_eq_none (by simp; omega), List.getElem?_eq_none (by rw [hfd]; omega)]
theorem kx_sorted {α : Type} [Inhabited α] {c : α → List Value} {k : Nat} {X : Nat → Prop} {b : World} {g : Nat} (hX : X g) (m : Nat) (d : Array α) (os : Array Obj) : Kx X b (Go.Proofs.sortWorldK c k b g 0 m d os) := by
  refine ⟨rfl, rfl, rfl, ?_, fun i hi hn => ?_⟩
  · unfold Go.Proofs.sortWorldK Go.Sort.putRowK
    simp [Go.Sort.grow, Go.Sort.putRow, Go.Sort.mapBlock, Go.Sort.ahead]
  · have hne : g ≠ i := fun e => hn (e ▸ hX)
    unfold Go.Proofs.sortWorldK Go.Sort.putRowK
    rw [Go.Sort.heap_grow_old _ _ (by simp [Go.Sort.putRow, Go.Sort.mapBlock, Go.Sort.ahead]; omega)]
    simp [Go.Sort.putRow, Go.Sort.mapBlock, Go.Sort.ahead, Array.getElem?_modify, hne]
/-- slices.SortFunc of bars by their left ends: the same ones, in that order -/
theorem sortB (D : Option Addr) (d : Nat) (xs : List Br) (w : World) (base : Nat) (h : OwnL w base 116 4 brL (.slice D xs.length d) xs) (h1000 : xs.length ≤ 1000000) :
    Calls Tryz.prog 112 #[.slice D xs.length d, .func (.func 113) #[] #[]] w fun e w' =>
      e = .returned (.tuple #[]) ∧ ∃ ys, ys.Perm xs ∧ ys.Pairwise (fun a b => a.l ≤ b.l) ∧ OwnL w' base 116 4 brL (.slice D ys.length d) ys ∧ Kx (fun i => D.map Addr.block = some i) w w' := by
  by_cases h0 : xs = []
  · subst h0
    refine (Go.Proofs.AnyF.slices_SortFunc_none (P := Tryz.prog) (ρ := Tryz.layFSortB_ren) { Tryz.layFSortB with } D d _ w).mono ?_
    rintro e w' ⟨rfl, rfl⟩
    exact ⟨rfl, [], List.Perm.refl _, List.Pairwise.nil, h, Kx.refl _ _⟩
  · rcases h.2 with ⟨h1, h2⟩ | ⟨g, cap, cur, hv, hb, hh, _⟩
    · exact absurd (List.eq_nil_of_length_eq_zero h2) h0
    · cases hv
      have eg : ∀ args w, (callFunc 113 args).run Tryz.prog w = .ok (.enter 113 args) w := enters_of Tryz.func113 (by kernel_rfl) rfl
      have hcon := Go.Proofs.AnyQ.slices_SortFunc Tryz.layFSortB 4 Tryz.isAgg116 Tryz.sizeOf116 brL (fun _ => rfl) (fun x v hv => one_br x v hv) cmpL swoL 113 #[] g 0 d xs.toArray w eg (lays_cmpL g 0 _ w) (own_holdsB h) (Array.getElem?_eq_some_iff.1 hh).1 (by simp; omega)
      rw [List.size_toArray] at hcon
      refine hcon.mono ?_
      rintro e w' ⟨rfl, d', n, os, hperm, hsort, rfl⟩
      obtain ⟨p1, _, p3⟩ := hperm
      have p1' : d'.size = xs.length := by simpa using p1
      have pe : d'.toList.Perm xs := by
        have e1 : (d'.extract 0 xs.length) = d' := by rw [← p1']; simp
        have e2 : (xs.toArray.extract 0 xs.length) = xs.toArray := by simp
        rw [e1, e2] at p3
        simpa using p3
      refine ⟨rfl, d'.toList, pe, ?_, ?_, kx_sorted (by rfl) n d' os⟩
      · rw [List.pairwise_iff_getElem]
        intro i j hi hj hij
        have := hsort i j (Nat.zero_le _) hij (by simp at hj; omega)
        rw [ltL] at this
        rw [getElem!_pos d' i (by simpa using hi), getElem!_pos d' j (by simpa using hj)] at this
        simp at this ⊢
        omega
      · exact own_sortedB h p1' n os (by simp)
end RG
end Go.Proofs.YtddhaiaapomdjaaGreat
set_option linter.unusedVariables false
set_option linter.unusedSimpArgs false
namespace Go.Proofs.YtddhaiaapomdjaaGreat
set_option linter.unusedVariables false
set_option linter.unusedSimpArgs false
open Go Go.ChangeShapes Go.WideShapes Go.ChangeAt Go.RowKit Go.Deep

namespace RG
set_option maxHeartbeats 2000000 in
set_option maxRecDepth 100000 in
theorem join_new (A : Option Addr) (c : Nat) (l : List Rc) (B : Option Addr) (d : Nat) (m : List Rc) (w : World) (hl : SlR w A c l) (hm : SlR w B d m) (h1 : l.length ≤ 1000) (h2 : m.length ≤ 1000) :
    Calls Tryz.prog 48 #[.slice A l.length c, .slice B m.length d] w fun e w' => ∃ D, e = .returned (.slice D (l ++ m).length (l ++ m).length) ∧ SlR w' D (l ++ m).length (l ++ m) ∧ Gr w w' ∧ (∀ a, D = some a → w.heap.size ≤ a.block) := by
  obtain ⟨i0, z0, hi0, hz0, hsz0, hby0, hzc0⟩ := elRect.inf
  have n1 := hl.cap
  have n2 := hl.capB
  have n3 := hm.cap
  have n4 := hm.capB
  have HL := hide hl
  have HM := hide hm
  have W1 : IntKind.i64.wrap ((l.length : Int) + (m.length : Int)) = ((l.length + m.length : Nat) : Int) := by rw [IntWalk.i64_in _ (by omega)]; omega
  clear hl hm
  go_enter Tryz.func48, Tryz.ntmps48
  go_upto_region 2 with (refine wpList_make_full w rfl _ _ _ rfl w.heap.size 70 i0 z0 4 elRect.und hi0 hz0 hsz0 .i64 .i64 _ _ (l.length + m.length) rfl rfl rfl rfl (by rw [hby0]; omega) (by unfold maxLen; omega) (Nat.le_refl _) ?_; intro w1 hown1 hg1)
  have g1 : Gr w w1 := Gr.grown (Gr.refl _) hg1 (fun k hk => by cases hk)
  have hrow1 := own_rowN hown1
  have lL := fm_len rcL_len l
  have lM := fm_len rcL_len m
  have HSL := hide (fun (w' : World) (g : Gr w w') => sl_src (HL.out.gr g))
  have HSM := hide (fun (w' : World) (g : Gr w w') => sl_src (HM.out.gr g))
  have HOL := hide (rc_one l)
  have HOM := hide (rc_one m)
  have HFM := hide (show (l ++ m).flatMap rcL = l.flatMap rcL ++ m.flatMap rcL by rw [List.flatMap_append])
  obtain ⟨X, hX⟩ : ∃ X, l.flatMap rcL = X := ⟨_, rfl⟩
  obtain ⟨Y, hY⟩ : ∃ Y, m.flatMap rcL = Y := ⟨_, rfl⟩
  rw [hX] at lL HSL HOL HFM
  rw [hY] at lM HSM HOM HFM
  clear hX hY
  obtain ⟨zs, hzs, hzl⟩ : ∃ zs, (madeCells z0.cells ((l.length + m.length) * 4)).toList = zs ∧ zs.length = X.length + Y.length := ⟨_, rfl, by rw [Array.length_toList, size_madeCells]; omega⟩
  rw [hzs] at hrow1
  obtain ⟨G, hG⟩ : ∃ G, w.heap.size = G := ⟨_, rfl⟩
  have hwG : w.heap.size ≤ G := by omega
  rw [hG] at hrow1
  simp only [hG]
  have HR1 := hide hrow1
  clear hown1 hg1 hrow1 hi0 hz0 hsz0 hby0 hzc0 hzs hG
  go_upto_region 3 with (refine wpList_copyN rfl _ _ _ _ rfl 70 4 (by decide) elRect.und size_rect _ _ _ _ _ _ rfl rfl G 0 zs 70 HR1.out X (by rw [lL]; congr 1; show min _ _ = _; omega) (fun h => ⟨rfl, HSL.out _ g1 h⟩) (by omega) HOL.out w.heap.size w g1 hwG ?_; intro w2 HR2 hb2)
  have HR2' := hide (show w2.heap[G]? = some (.cells (X ++ zs.drop X.length).toArray 70 (0, 0)) by have := HR2.out; rwa [sp_1] at this)
  have hzd : (X ++ zs.drop X.length).length = X.length + Y.length := by rw [List.length_append, List.length_drop]; omega
  have HSP := hide (sp_2 hzl)
  clear HR1 HR2
  obtain ⟨U, hU⟩ : ∃ U, X ++ zs.drop X.length = U := ⟨_, rfl⟩
  rw [hU] at HR2' hzd HSP
  clear hU
  go_wp2_with (refine wpList_copyN rfl _ _ _ _ rfl 70 4 (by decide) elRect.und size_rect _ _ _ _ _ _ rfl rfl G X.length U 70 HR2'.out Y (by rw [lM]; congr 1; show min _ _ = _; omega) (fun h => by exact ⟨by rw [lL]; first | rfl | exact if_neg (by intro e; rw [e, List.length_nil] at lM; omega), HSM.out _ hb2 h⟩) (by omega) HOM.out w.heap.size w hb2 hwG ?_; intro w3 HR3 hb3)
  all_goals
    have hk : SlR w3 (some ⟨G, 0, none⟩) (l ++ m).length (l ++ m) := ⟨sl_row (by rw [HFM.out]; have := HR3.out; rwa [HSP.out] at this), Nat.le_refl _, by rw [List.length_append]; omega⟩
    clear HR3 HSP HFM HR2'
  · subst h
    rw [List.append_nil] at hk
    go_ret
    exact ⟨_, rfl, hk, hb3, fun a ha => by cases ha; exact hwG⟩
  · rw [List.length_append] at hk
    go_ret
    exact ⟨_, rfl, hk, hb3, fun a ha => by cases ha; exact hwG⟩

set_option maxHeartbeats 1000000 in
theorem blocks_new (nm mt : ByteArray) (ga gr wd ht : Int) (A : Option Addr) (c : Nat) (l : List Rc) (B : Option Addr) (d : Nat) (m : List Rc) (w : World) (hl : SlR w A c l) (hm : SlR w B d m) (h1 : l.length ≤ 1000) (h2 : m.length ≤ 1000) :
    Calls Tryz.prog 44 #[shv nm mt ga gr wd ht (.slice A l.length c) (.slice B m.length d)] w fun e w' => ∃ D, e = .returned (.slice D (l ++ m).length (l ++ m).length) ∧ SlR w' D (l ++ m).length (l ++ m) ∧ Gr w w' ∧ (∀ a, D = some a → w.heap.size ≤ a.block) := by
  have HJ := hide (fun (w' : World) (g : Gr w w') => join_new A c l B d m w' (hl.gr g) (hm.gr g) h1 h2)
  clear hl hm
  go_enter Tryz.func44, Tryz.ntmps44
  go_wp2_with fail
  refine (HJ.out _ (by with_reducible repeat (first | exact Gr.refl _ | assumption | refine Gr.alloc ?_ _ | refine Gr.drewN ?_ _ | refine Gr.drew ?_ | refine Gr.setCell ?_ (by first | (dsimp only; omega) | (simp only [World.size_alloc]; omega) | (refine Gr.size ?_; (repeat (first | exact Gr.refl _ | assumption | refine Gr.alloc ?_ _ | refine Gr.drewN ?_ _ | refine Gr.drew ?_ | refine Gr.trans ?_ (by assumption))); done)) _ | refine Gr.trans ?_ (by assumption)))).mono ?_
  rintro e w2 ⟨D, rfl, hD, g2, hN⟩
  have HN := hide (show ∀ a, D = some a → w.heap.size ≤ a.block from fun a ha => by
    have := hN a ha
    simp only [World.size_alloc] at this
    omega)
  have HD := hide hD
  clear hD hN
  go_wp2
  go_ret
  have hk := HD.out
  rw [List.length_append] at hk
  first | exact ⟨D, rfl, hk, (by with_reducible repeat (first | exact Gr.refl _ | assumption | refine Gr.alloc ?_ _ | refine Gr.drewN ?_ _ | refine Gr.drew ?_ | refine Gr.setCell ?_ (by first | (dsimp only; omega) | (simp only [World.size_alloc]; omega) | (refine Gr.size ?_; (repeat (first | exact Gr.refl _ | assumption | refine Gr.alloc ?_ _ | refine Gr.drewN ?_ _ | refine Gr.drew ?_ | refine Gr.trans ?_ (by assumption))); done)) _ | refine Gr.trans ?_ (by assumption))), HN.out⟩ | exact ⟨D, by rw [List.length_append]; rfl, by rw [List.length_append]; exact hk, (by with_reducible repeat (first | exact Gr.refl _ | assumption | refine Gr.alloc ?_ _ | refine Gr.drewN ?_ _ | refine Gr.drew ?_ | refine Gr.setCell ?_ (by first | (dsimp only; omega) | (simp only [World.size_alloc]; omega) | (refine Gr.size ?_; (repeat (first | exact Gr.refl _ | assumption | refine Gr.alloc ?_ _ | refine Gr.drewN ?_ _ | refine Gr.drew ?_ | refine Gr.trans ?_ (by assumption))); done)) _ | refine Gr.trans ?_ (by assumption))), HN.out⟩
theorem ClP.refl {w : World} {F lo : Nat} {f : Br} {D : Option Addr} {q : Nat} {C : List Br} (h : FdB w F lo f D q C) : ClP w F lo f D C w := ⟨D, q, h, Kx.refl _ _, fun i h => .inl h⟩
theorem ClP.gr {w w1 w2 : World} {F lo : Nat} {f : Br} {D : Option Addr} {C : List Br} (h : ClP w F lo f D C w1) (g : Gr w1 w2) : ClP w F lo f D C w2 := by
  obtain ⟨D', q', h1, h2, h3⟩ := h
  exact ⟨D', q', h1.gr g, h2.gr g, h3⟩
/-- what closes after what closed before -/
theorem ClP.trans {w w1 w2 : World} {F lo : Nat} {f : Br} {D D1 : Option Addr} {C : List Br} (h : Kx (fdX F D) w w1) (hd : ∀ i, (D1.map Addr.block) = some i → (D.map Addr.block) = some i ∨ w.heap.size ≤ i) (k : ClP w1 F lo f D1 C w2) : ClP w F lo f D C w2 := by
  obtain ⟨D2, q2, k1, k2, k3⟩ := k
  refine ⟨D2, q2, k1, h.trans k2 ?_, fun i hi => ?_⟩
  · rintro i hi (e | e)
    · exact .inl e
    · rcases hd i e with c | c
      · exact .inr c
      · omega
  · rcases k3 i hi with c | c
    · exact hd i c
    · have := h.size
      right
      omega
/-- seen from a world in which the row of the field was not -/
theorem ClP.out {w0 w w1 : World} {F : Nat} {f : Br} {D : Option Addr} {C : List Br} (h : Kx (fun i => i = F) w0 w) (hd : ∀ i, (D.map Addr.block) = some i → w0.heap.size ≤ i) (k : ClP w F w0.heap.size f D C w1) : Kx (fun i => i = F) w0 w1 := by
  obtain ⟨D2, q2, k1, k2, k3⟩ := k
  refine h.trans k2 ?_
  rintro i hi (e | e)
  · exact e
  · have := hd i e
    omega
theorem FdB.row {w : World} {F lo : Nat} {f : Br} {D : Option Addr} {q : Nat} {C : List Br} (h : FdB w F lo f D q C) : ∀ i, (D.map Addr.block) = some i → lo ≤ i ∧ i < w.heap.size := by
  intro i hi
  exact World.ownsRow.lt h.own i ((own_map h.own).2 hi)
theorem ucBr_len (r o : Rc) (t : St) : (ucBr r o t).length ≤ 5 := by
  unfold ucBr
  split <;> simp
theorem uc_len (r : Rc) (t : St) : ∀ l : List Rc, (l.flatMap fun o => ucBr r o t).length ≤ 5 * l.length
  | [] => by simp
  | a :: l => by
    have h1 := ucBr_len r a t
    have h2 := uc_len r t l
    rw [List.flatMap_cons, List.length_append, List.length_cons]
    omega
theorem fdB1_len (hard soft : List Rc) (t : St) (r : Rc) : (fdB1 hard soft t r).length ≤ hard.length + 5 * soft.length := by
  unfold fdB1
  rw [List.length_append, List.length_map]
  have := uc_len r t soft
  omega
theorem fdB_len {hard soft : List Rc} {t : St} {m : Nat} (hm : hard.length + 5 * soft.length ≤ m) : ∀ l : List Rc, (fdB l hard soft t).length ≤ l.length * m
  | [] => by simp [fdB]
  | a :: l => by
    have e : fdB (a :: l) hard soft t = fdB1 hard soft t a ++ fdB l hard soft t := rfl
    have h1 := fdB1_len hard soft t a
    have h2 := fdB_len (t := t) hm l
    rw [e, List.length_append, List.length_cons, Nat.succ_mul]
    omega
theorem kpL_len (f : Br) (l : List Br) : (kpL f l).length ≤ l.length := List.length_filter_le _ _
theorem kpL_app (f : Br) (l m : List Br) : kpL f (l ++ m) = kpL f l ++ kpL f m := List.filter_append _ _
theorem fdB_snoc {l hard soft : List Rc} {t : St} {k : Nat} {r : Rc} (h : l[k]? = some r) : fdB (l.take (k + 1)) hard soft t = fdB (l.take k) hard soft t ++ fdB1 hard soft t r := by
  unfold fdB
  rw [take_at h, List.flatMap_append]
  simp
theorem fm_take {α β : Type} (g : α → List β) {l : List α} {k : Nat} {r : α} (h : l[k]? = some r) : (l.take (k + 1)).flatMap g = (l.take k).flatMap g ++ g r := by
  rw [take_at h, List.flatMap_append]
  simp
theorem foldl_take {α β : Type} (g : β → α → β) (z : β) {l : List α} {k : Nat} {r : α} (h : l[k]? = some r) : (l.take (k + 1)).foldl g z = g ((l.take k).foldl g z) r := by
  rw [take_at h, List.foldl_append]
  rfl
end RG
end Go.Proofs.YtddhaiaapomdjaaGreat
set_option linter.unusedVariables false
set_option linter.unusedSimpArgs false
namespace Go.Proofs.YtddhaiaapomdjaaGreat
set_option linter.unusedVariables false
set_option linter.unusedSimpArgs false
open Go Go.ChangeShapes Go.WideShapes Go.ChangeAt Go.RowKit Go.Deep

namespace RG
/-- a sheet, and where its lists lie -/
structure ShT where
  nm : ByteArray
  mt : ByteArray
  ga : Int
  gr : Int
  wd : Int
  ht : Int
  cA : Option Addr
  cc : Nat
  cl : List Rc
  uA : Option Addr
  uc : Nat
  us : List Rc
abbrev ShT.v (s : ShT) : Value := shv s.nm s.mt s.ga s.gr s.wd s.ht (.slice s.cA s.cl.length s.cc) (.slice s.uA s.us.length s.uc)
structure ShW (w : World) (s : ShT) : Prop where
  c : SlR w s.cA s.cc s.cl
  u : SlR w s.uA s.uc s.us
  n1 : s.nm.size ≤ 9223372036854775807
  n2 : s.mt.size ≤ 9223372036854775807
theorem ShW.gr {w w' : World} {s : ShT} (h : ShW w s) (g : Gr w w') : ShW w' s := ⟨h.c.gr g, h.u.gr g, h.n1, h.n2⟩
/-- the error of a sheet -/
def vsE (s : ShT) : Int :=
  if (nameB s.nm.toList && nameB s.mt.toList) = true then
    if (knB s.ga s.gr && (wiB s.wd 1 1048576 && wiB s.ht 1 1048576)) = true then
      if 4 < s.cl.length ∨ 48 < s.us.length then 4 else coE (s.cl ++ s.us) s.wd s.ht
    else 1
  else 2
theorem vsE_2 {s : ShT} (h : (nameB s.nm.toList && nameB s.mt.toList) = false) : vsE s = 2 := by unfold vsE; rw [h]; rfl
theorem vsE_1 {s : ShT} (h : (nameB s.nm.toList && nameB s.mt.toList) = true) (k : (knB s.ga s.gr && (wiB s.wd 1 1048576 && wiB s.ht 1 1048576)) = false) : vsE s = 1 := by unfold vsE; rw [h, k]; rfl
theorem vsE_4 {s : ShT} (h : (nameB s.nm.toList && nameB s.mt.toList) = true) (k : (knB s.ga s.gr && (wiB s.wd 1 1048576 && wiB s.ht 1 1048576)) = true) (l : 4 < s.cl.length ∨ 48 < s.us.length) : vsE s = 4 := by unfold vsE; rw [h, k, if_pos rfl, if_pos rfl, if_pos l]
theorem vsE_co {s : ShT} (h : (nameB s.nm.toList && nameB s.mt.toList) = true) (k : (knB s.ga s.gr && (wiB s.wd 1 1048576 && wiB s.ht 1 1048576)) = true) (l : ¬ (4 < s.cl.length ∨ 48 < s.us.length)) : vsE s = coE (s.cl ++ s.us) s.wd s.ht := by unfold vsE; rw [h, k, if_pos rfl, if_pos rfl, if_neg l]
set_option maxHeartbeats 8000000 in
set_option maxRecDepth 100000 in
theorem ValidateSheet_any (s : ShT) (w : World) (hs : ShW w s) :
    Calls Tryz.prog 23 #[s.v] w fun e w' => e = .returned (iv (vsE s)) ∧ Gr w w' := by
  obtain ⟨nm, mt, ga, gr, wd, ht, cA, cc, cl, uA, uc, us⟩ := s
  have m1 := hs.n1
  have m2 := hs.n2
  have n1 := hs.c.cap
  have n2 := hs.c.capB
  have n3 := hs.u.cap
  have n4 := hs.u.capB
  have HS := hide hs
  dsimp only at m1 m2 n1 n2 n3 n4
  clear hs
  cases h1 : nameB nm.toList with
  | false =>
    have HE := hide (vsE_2 (s := ⟨nm, mt, ga, gr, wd, ht, cA, cc, cl, uA, uc, us⟩) (by simp [h1]))
    go_enter Tryz.func23, Tryz.ntmps23
    go_wp2_with (first | (go_at_call 58; refine (validName_any _ _ (by omega)).mono ?_; rintro e w1 ⟨rfl, rfl⟩))
    go_ret
    exact ⟨ret_iv HE.out.symm, (by with_reducible repeat (first | exact Gr.refl _ | assumption | refine Gr.alloc ?_ _ | refine Gr.drewN ?_ _ | refine Gr.drew ?_ | refine Gr.setCell ?_ (by first | (dsimp only; omega) | (simp only [World.size_alloc]; omega) | (refine Gr.size ?_; (repeat (first | exact Gr.refl _ | assumption | refine Gr.alloc ?_ _ | refine Gr.drewN ?_ _ | refine Gr.drew ?_ | refine Gr.trans ?_ (by assumption))); done)) _ | refine Gr.trans ?_ (by assumption)))⟩
  | true =>
  cases h2 : nameB mt.toList with
  | false =>
    have HE := hide (vsE_2 (s := ⟨nm, mt, ga, gr, wd, ht, cA, cc, cl, uA, uc, us⟩) (by simp [h2]))
    go_enter Tryz.func23, Tryz.ntmps23
    go_wp2_with (first | (go_at_call 58; refine (validName_any _ _ (by omega)).mono ?_; rintro e w1 ⟨rfl, rfl⟩))
    go_ret
    exact ⟨ret_iv HE.out.symm, (by with_reducible repeat (first | exact Gr.refl _ | assumption | refine Gr.alloc ?_ _ | refine Gr.drewN ?_ _ | refine Gr.drew ?_ | refine Gr.setCell ?_ (by first | (dsimp only; omega) | (simp only [World.size_alloc]; omega) | (refine Gr.size ?_; (repeat (first | exact Gr.refl _ | assumption | refine Gr.alloc ?_ _ | refine Gr.drewN ?_ _ | refine Gr.drew ?_ | refine Gr.trans ?_ (by assumption))); done)) _ | refine Gr.trans ?_ (by assumption)))⟩
  | true =>
  have hN : (nameB nm.toList && nameB mt.toList) = true := by rw [h1, h2]; rfl
  have HN := hide hN
  clear hN
  cases h3 : knB ga gr with
  | false =>
    have HE := hide (vsE_1 (s := ⟨nm, mt, ga, gr, wd, ht, cA, cc, cl, uA, uc, us⟩) HN.out (by simp [h3]))
    go_enter Tryz.func23, Tryz.ntmps23
    go_wp2_with (first | (go_at_call 58; refine (validName_any _ _ (by omega)).mono ?_; rintro e w1 ⟨rfl, rfl⟩) | (go_at_call 59; refine (validKind_any _ _ _).mono ?_; rintro e w1 ⟨rfl, rfl⟩))
    go_ret
    exact ⟨ret_iv HE.out.symm, (by with_reducible repeat (first | exact Gr.refl _ | assumption | refine Gr.alloc ?_ _ | refine Gr.drewN ?_ _ | refine Gr.drew ?_ | refine Gr.setCell ?_ (by first | (dsimp only; omega) | (simp only [World.size_alloc]; omega) | (refine Gr.size ?_; (repeat (first | exact Gr.refl _ | assumption | refine Gr.alloc ?_ _ | refine Gr.drewN ?_ _ | refine Gr.drew ?_ | refine Gr.trans ?_ (by assumption))); done)) _ | refine Gr.trans ?_ (by assumption)))⟩
  | true =>
  cases h4 : wiB wd 1 1048576 with
  | false =>
    have HE := hide (vsE_1 (s := ⟨nm, mt, ga, gr, wd, ht, cA, cc, cl, uA, uc, us⟩) HN.out (by simp [h4]))
    go_enter Tryz.func23, Tryz.ntmps23
    go_wp2_with (first | (go_at_call 58; refine (validName_any _ _ (by omega)).mono ?_; rintro e w1 ⟨rfl, rfl⟩) | (go_at_call 59; refine (validKind_any _ _ _).mono ?_; rintro e w1 ⟨rfl, rfl⟩) | (go_at_call 60; refine (nwithin_any _ _ _ _).mono ?_; rintro e w1 ⟨rfl, rfl⟩))
    go_ret
    exact ⟨ret_iv HE.out.symm, (by with_reducible repeat (first | exact Gr.refl _ | assumption | refine Gr.alloc ?_ _ | refine Gr.drewN ?_ _ | refine Gr.drew ?_ | refine Gr.setCell ?_ (by first | (dsimp only; omega) | (simp only [World.size_alloc]; omega) | (refine Gr.size ?_; (repeat (first | exact Gr.refl _ | assumption | refine Gr.alloc ?_ _ | refine Gr.drewN ?_ _ | refine Gr.drew ?_ | refine Gr.trans ?_ (by assumption))); done)) _ | refine Gr.trans ?_ (by assumption)))⟩
  | true =>
  cases h5 : wiB ht 1 1048576 with
  | false =>
    have HE := hide (vsE_1 (s := ⟨nm, mt, ga, gr, wd, ht, cA, cc, cl, uA, uc, us⟩) HN.out (by simp [h5]))
    go_enter Tryz.func23, Tryz.ntmps23
    go_wp2_with (first | (go_at_call 58; refine (validName_any _ _ (by omega)).mono ?_; rintro e w1 ⟨rfl, rfl⟩) | (go_at_call 59; refine (validKind_any _ _ _).mono ?_; rintro e w1 ⟨rfl, rfl⟩) | (go_at_call 60; refine (nwithin_any _ _ _ _).mono ?_; rintro e w1 ⟨rfl, rfl⟩))
    go_ret
    exact ⟨ret_iv HE.out.symm, (by with_reducible repeat (first | exact Gr.refl _ | assumption | refine Gr.alloc ?_ _ | refine Gr.drewN ?_ _ | refine Gr.drew ?_ | refine Gr.setCell ?_ (by first | (dsimp only; omega) | (simp only [World.size_alloc]; omega) | (refine Gr.size ?_; (repeat (first | exact Gr.refl _ | assumption | refine Gr.alloc ?_ _ | refine Gr.drewN ?_ _ | refine Gr.drew ?_ | refine Gr.trans ?_ (by assumption))); done)) _ | refine Gr.trans ?_ (by assumption)))⟩
  | true =>
  have hK : (knB ga gr && (wiB wd 1 1048576 && wiB ht 1 1048576)) = true := by rw [h3, h4, h5]; rfl
  have HK := hide hK
  clear hK
  by_cases h6 : 4 < cl.length
  · have HE := hide (vsE_4 (s := ⟨nm, mt, ga, gr, wd, ht, cA, cc, cl, uA, uc, us⟩) HN.out HK.out (.inl h6))
    have h6' : (4 : Int) < (cl.length : Int) := by omega
    go_enter Tryz.func23, Tryz.ntmps23
    go_wp2_with (first | (go_at_call 58; refine (validName_any _ _ (by omega)).mono ?_; rintro e w1 ⟨rfl, rfl⟩) | (go_at_call 59; refine (validKind_any _ _ _).mono ?_; rintro e w1 ⟨rfl, rfl⟩) | (go_at_call 60; refine (nwithin_any _ _ _ _).mono ?_; rintro e w1 ⟨rfl, rfl⟩))
    go_ret
    exact ⟨ret_iv HE.out.symm, (by with_reducible repeat (first | exact Gr.refl _ | assumption | refine Gr.alloc ?_ _ | refine Gr.drewN ?_ _ | refine Gr.drew ?_ | refine Gr.setCell ?_ (by first | (dsimp only; omega) | (simp only [World.size_alloc]; omega) | (refine Gr.size ?_; (repeat (first | exact Gr.refl _ | assumption | refine Gr.alloc ?_ _ | refine Gr.drewN ?_ _ | refine Gr.drew ?_ | refine Gr.trans ?_ (by assumption))); done)) _ | refine Gr.trans ?_ (by assumption)))⟩
  by_cases h7 : 48 < us.length
  · have HE := hide (vsE_4 (s := ⟨nm, mt, ga, gr, wd, ht, cA, cc, cl, uA, uc, us⟩) HN.out HK.out (.inr h7))
    have h6' : ¬ (4 : Int) < (cl.length : Int) := by omega
    have h7' : (48 : Int) < (us.length : Int) := by omega
    go_enter Tryz.func23, Tryz.ntmps23
    go_wp2_with (first | (go_at_call 58; refine (validName_any _ _ (by omega)).mono ?_; rintro e w1 ⟨rfl, rfl⟩) | (go_at_call 59; refine (validKind_any _ _ _).mono ?_; rintro e w1 ⟨rfl, rfl⟩) | (go_at_call 60; refine (nwithin_any _ _ _ _).mono ?_; rintro e w1 ⟨rfl, rfl⟩))
    go_ret
    exact ⟨ret_iv HE.out.symm, (by with_reducible repeat (first | exact Gr.refl _ | assumption | refine Gr.alloc ?_ _ | refine Gr.drewN ?_ _ | refine Gr.drew ?_ | refine Gr.setCell ?_ (by first | (dsimp only; omega) | (simp only [World.size_alloc]; omega) | (refine Gr.size ?_; (repeat (first | exact Gr.refl _ | assumption | refine Gr.alloc ?_ _ | refine Gr.drewN ?_ _ | refine Gr.drew ?_ | refine Gr.trans ?_ (by assumption))); done)) _ | refine Gr.trans ?_ (by assumption)))⟩
  have HE := hide (vsE_co (s := ⟨nm, mt, ga, gr, wd, ht, cA, cc, cl, uA, uc, us⟩) HN.out HK.out (by dsimp only; omega))
  have h6' : ¬ (4 : Int) < (cl.length : Int) := by omega
  have h7' : ¬ (48 : Int) < (us.length : Int) := by omega
  have HBL := hide (fun (w' : World) (g : Gr w w') => blocks_any nm mt ga gr wd ht cA cc cl uA uc us w' (HS.out.gr g).c (HS.out.gr g).u (by omega) (by omega))
  obtain ⟨L, hL⟩ : ∃ L, cl ++ us = L := ⟨_, rfl⟩
  dsimp only at HE
  rw [hL] at HE HBL
  clear hL HS
  go_enter Tryz.func23, Tryz.ntmps23
  go_upto_region 7 with (first | (go_at_call 58; refine (validName_any _ _ (by omega)).mono ?_; rintro e w1 ⟨rfl, rfl⟩) | (go_at_call 59; refine (validKind_any _ _ _).mono ?_; rintro e w1 ⟨rfl, rfl⟩) | (go_at_call 60; refine (nwithin_any _ _ _ _).mono ?_; rintro e w1 ⟨rfl, rfl⟩))
  have m0 : w.heap.size < (w.alloc (.cells #[.string nm, .string mt, iv ga, iv gr, iv wd, iv ht, .slice cA cl.length cc, .slice uA us.length uc] 24)).heap.size := by simp
  go_region_law (first
    | (go_simp; go_at_call 44; refine (HBL.out _ (by with_reducible repeat (first | exact Gr.refl _ | assumption | refine Gr.alloc ?_ _ | refine Gr.drewN ?_ _ | refine Gr.drew ?_ | refine Gr.setCell ?_ (by first | (dsimp only; omega) | (simp only [World.size_alloc]; omega) | (refine Gr.size ?_; (repeat (first | exact Gr.refl _ | assumption | refine Gr.alloc ?_ _ | refine Gr.drewN ?_ _ | refine Gr.drew ?_ | refine Gr.trans ?_ (by assumption))); done)) _ | refine Gr.trans ?_ (by assumption)))).mono ?_; rintro e w5 ⟨D5, rfl, hs5, g5⟩; (have HS5 := hide hs5); clear hs5; (have m5 : w.heap.size < w5.heap.size := Nat.lt_of_lt_of_le m0 (Gr.size (by with_reducible repeat (first | exact Gr.refl _ | assumption | refine Gr.alloc ?_ _ | refine Gr.drewN ?_ _ | refine Gr.drew ?_ | refine Gr.setCell ?_ (by first | (dsimp only; omega) | (simp only [World.size_alloc]; omega) | (refine Gr.size ?_; (repeat (first | exact Gr.refl _ | assumption | refine Gr.alloc ?_ _ | refine Gr.drewN ?_ _ | refine Gr.drew ?_ | refine Gr.trans ?_ (by assumption))); done)) _ | refine Gr.trans ?_ (by assumption))))); obtain ⟨X5, Y5, c5, f5⟩ := g5.use)
    | (go_simp; go_at_call 42; refine (checkOnSheet_any nm mt ga gr wd ht _ _ D5 _ L _ (HS5.out.gr (by with_reducible repeat (first | exact Gr.refl _ | assumption | refine Gr.alloc ?_ _ | refine Gr.drewN ?_ _ | refine Gr.drew ?_ | refine Gr.setCell ?_ (by first | (dsimp only; omega) | (simp only [World.size_alloc]; omega) | (refine Gr.size ?_; (repeat (first | exact Gr.refl _ | assumption | refine Gr.alloc ?_ _ | refine Gr.drewN ?_ _ | refine Gr.drew ?_ | refine Gr.trans ?_ (by assumption))); done)) _ | refine Gr.trans ?_ (by assumption))))).mono ?_; rintro e w6 ⟨rfl, g6⟩; obtain ⟨X6, Y6, c6, f6⟩ := g6.use))
  all_goals
    go_wp2
    go_ret
    exact ⟨ret_iv HE.out.symm, (by with_reducible repeat (first | exact Gr.refl _ | assumption | refine Gr.alloc ?_ _ | refine Gr.drewN ?_ _ | refine Gr.drew ?_ | refine Gr.setCell ?_ (by first | (dsimp only; omega) | (simp only [World.size_alloc]; omega) | (refine Gr.size ?_; (repeat (first | exact Gr.refl _ | assumption | refine Gr.alloc ?_ _ | refine Gr.drewN ?_ _ | refine Gr.drew ?_ | refine Gr.trans ?_ (by assumption))); done)) _ | refine Gr.trans ?_ (by assumption)))⟩
end RG
end Go.Proofs.YtddhaiaapomdjaaGreat
set_option linter.unusedVariables false
set_option linter.unusedSimpArgs false
namespace Go.Proofs.YtddhaiaapomdjaaGreat
set_option linter.unusedVariables false
set_option linter.unusedSimpArgs false
open Go Go.ChangeShapes Go.WideShapes Go.ChangeAt Go.RowKit Go.Deep

namespace RG
set_option maxHeartbeats 8000000 in
set_option maxRecDepth 100000 in
theorem fieldOf_any (s : ShT) (t : St) (A : Option Addr) (c : Nat) (L : List RS) (B : Option Addr) (d : Nat) (l : List Rc) (w : World) (hs : ShW w s) (hT : SlRR w A c L) (hl : SlR w B d l)
    (hwd : 1 ≤ s.wd ∧ s.wd ≤ 1048576) (hht : 1 ≤ s.ht ∧ s.ht ≤ 1048576) (hg : 0 ≤ t.g ∧ t.g ≤ 14400) (hm : 0 ≤ t.m ∧ t.m ≤ 14400) (hL : L.length ≤ 1000) (hN : (allR L).length ≤ 1000) (hh : (s.cl ++ s.us).length ≤ 52) (hn : l.length ≤ 48)
    (v1 : ∀ r ∈ l, vrR r = true) (v2 : ∀ r ∈ s.cl ++ s.us, vrR r = true) (v3 : ∀ r ∈ allR L, vrR r = true) :
    Calls Tryz.prog 68 #[s.v, .slice A L.length c, .slice B l.length d, stvv t] w fun e w' => ∃ D q C, e = .returned (fdv (fdV ⟨t.m, t.m, s.wd - 2 * t.m, s.ht - 2 * t.m⟩ l) D C.length q) ∧ SlBr w' D q C ∧ C.Perm (kpL (fdV ⟨t.m, t.m, s.wd - 2 * t.m, s.ht - 2 * t.m⟩ l) (fdB l (s.cl ++ s.us) (allR L) t)) ∧ C.Pairwise (fun a b => a.l ≤ b.l) ∧ Gr w w' := by
  obtain ⟨nm, mt, ga, gr, wd, ht, cA, cc, cl, uA, uc, us⟩ := s
  obtain ⟨g, m, cm⟩ := t
  dsimp only at hwd hht hg hm hh v2 ⊢
  obtain ⟨a1, a2⟩ := hwd
  obtain ⟨b1, b2⟩ := hht
  obtain ⟨g1, g2⟩ := hg
  obtain ⟨m1, m2⟩ := hm
  have n1 := hl.cap
  have n2 := hl.capB
  have HS := hide hs
  have HT := hide hT
  have HL := hide hl
  have HV1 := hide v1
  have HV2 := hide v2
  have HV3 := hide v3
  have HWM := hide (fun (w' : World) => withoutMargin_any nm mt ga gr wd ht (.slice cA cl.length cc) (.slice uA us.length uc) m w' ⟨by omega, by omega⟩ ⟨by omega, by omega⟩ ⟨by omega, by omega⟩)
  have HBL := hide (fun (w' : World) (gq : Gr w w') => blocks_new nm mt ga gr wd ht cA cc cl uA uc us w' (HS.out.c.gr gq) (HS.out.u.gr gq) (by rw [List.length_append] at hh; omega) (by rw [List.length_append] at hh; omega))
  have HCO := hide (fun (w' : World) (gq : Gr w w') => Concat_any A c L w' (HT.out.gr gq) hL hN)
  obtain ⟨hard, hhard⟩ : ∃ hard, cl ++ us = hard := ⟨_, rfl⟩
  rw [hhard] at HBL HV2 hh ⊢
  obtain ⟨soft, hsoft⟩ : ∃ soft, allR L = soft := ⟨_, rfl⟩
  rw [hsoft] at HCO HV3 hN ⊢
  obtain ⟨f, hf⟩ : ∃ f, fdV ⟨m, m, wd - 2 * m, ht - 2 * m⟩ l = f := ⟨_, rfl⟩
  rw [hf]
  have HFD := hide hf
  clear hs hT hl v1 v2 v3 hhard hsoft hf
  go_enter Tryz.func68, Tryz.ntmps68
  go_wp2_with (first | (go_at_call 108; refine (HWM.out _).mono ?_; rintro e w1 ⟨rfl, g1⟩; obtain ⟨X1, Y1, c1, f1⟩ := g1.use))
  have gq : Gr w ((w1.alloc (.cells #[iv m, iv m, iv (wd - 2 * m), iv (ht - 2 * m)] 70)).alloc (.cells #[iv m, iv (m + (wd - 2 * m)), iv m, iv (m + (ht - 2 * m)), .slice none 0 0] 119)) := (by with_reducible repeat (first | exact Gr.refl _ | assumption | refine Gr.alloc ?_ _ | refine Gr.drewN ?_ _ | refine Gr.drew ?_ | refine Gr.setCell ?_ (by first | (dsimp only; omega) | (simp only [World.size_alloc]; omega) | (refine Gr.size ?_; (repeat (first | exact Gr.refl _ | assumption | refine Gr.alloc ?_ _ | refine Gr.drewN ?_ _ | refine Gr.drew ?_ | refine Gr.trans ?_ (by assumption))); done)) _ | refine Gr.trans ?_ (by assumption)))
  have M4 : Made w1 w.heap.size #[.string nm, .string mt, iv ga, iv gr, iv wd, iv ht, .slice cA cl.length cc, .slice uA us.length uc] := (Made.new _ _ _).gr (show Gr (w.alloc (.cells #[.string nm, .string mt, iv ga, iv gr, iv wd, iv ht, .slice cA cl.length cc, .slice uA us.length uc] 24)) w1 from (by with_reducible repeat (first | exact Gr.refl _ | assumption | refine Gr.alloc ?_ _ | refine Gr.drewN ?_ _ | refine Gr.drew ?_ | refine Gr.setCell ?_ (by first | (dsimp only; omega) | (simp only [World.size_alloc]; omega) | (refine Gr.size ?_; (repeat (first | exact Gr.refl _ | assumption | refine Gr.alloc ?_ _ | refine Gr.drewN ?_ _ | refine Gr.drew ?_ | refine Gr.trans ?_ (by assumption))); done)) _ | refine Gr.trans ?_ (by assumption))))
  have M7 : Made w1 (w.heap.size + 1) #[iv g, iv m, .bool cm] := by
    have := (Made.new (w.alloc (.cells #[.string nm, .string mt, iv ga, iv gr, iv wd, iv ht, .slice cA cl.length cc, .slice uA us.length uc] 24)) #[iv g, iv m, .bool cm] 29).gr (show Gr _ w1 from (by with_reducible repeat (first | exact Gr.refl _ | assumption | refine Gr.alloc ?_ _ | refine Gr.drewN ?_ _ | refine Gr.drew ?_ | refine Gr.setCell ?_ (by first | (dsimp only; omega) | (simp only [World.size_alloc]; omega) | (refine Gr.size ?_; (repeat (first | exact Gr.refl _ | assumption | refine Gr.alloc ?_ _ | refine Gr.drewN ?_ _ | refine Gr.drew ?_ | refine Gr.trans ?_ (by assumption))); done)) _ | refine Gr.trans ?_ (by assumption))))
    rwa [World.size_alloc] at this
  have M8 : Made w1 (w.heap.size + 1 + 1) #[iv 0, iv 0, iv 0, iv 0, .slice none 0 0] := by
    have := (Made.new ((w.alloc (.cells #[.string nm, .string mt, iv ga, iv gr, iv wd, iv ht, .slice cA cl.length cc, .slice uA us.length uc] 24)).alloc (.cells #[iv g, iv m, .bool cm] 29)) #[iv 0, iv 0, iv 0, iv 0, .slice none 0 0] 119).gr (show Gr _ w1 from (by with_reducible repeat (first | exact Gr.refl _ | assumption | refine Gr.alloc ?_ _ | refine Gr.drewN ?_ _ | refine Gr.drew ?_ | refine Gr.setCell ?_ (by first | (dsimp only; omega) | (simp only [World.size_alloc]; omega) | (refine Gr.size ?_; (repeat (first | exact Gr.refl _ | assumption | refine Gr.alloc ?_ _ | refine Gr.drewN ?_ _ | refine Gr.drew ?_ | refine Gr.trans ?_ (by assumption))); done)) _ | refine Gr.trans ?_ (by assumption))))
    rwa [World.size_alloc, World.size_alloc] at this
  have M9 : Made ((w1.alloc (.cells #[iv m, iv m, iv (wd - 2 * m), iv (ht - 2 * m)] 70)).alloc (.cells #[iv m, iv (m + (wd - 2 * m)), iv m, iv (m + (ht - 2 * m)), .slice none 0 0] 119)) w1.heap.size #[iv m, iv m, iv (wd - 2 * m), iv (ht - 2 * m)] := (Made.new _ _ _).gr (by with_reducible repeat (first | exact Gr.refl _ | assumption | refine Gr.alloc ?_ _ | refine Gr.drewN ?_ _ | refine Gr.drew ?_ | refine Gr.setCell ?_ (by first | (dsimp only; omega) | (simp only [World.size_alloc]; omega) | (refine Gr.size ?_; (repeat (first | exact Gr.refl _ | assumption | refine Gr.alloc ?_ _ | refine Gr.drewN ?_ _ | refine Gr.drew ?_ | refine Gr.trans ?_ (by assumption))); done)) _ | refine Gr.trans ?_ (by assumption)))
  have MF : Made ((w1.alloc (.cells #[iv m, iv m, iv (wd - 2 * m), iv (ht - 2 * m)] 70)).alloc (.cells #[iv m, iv (m + (wd - 2 * m)), iv m, iv (m + (ht - 2 * m)), .slice none 0 0] 119)) (w1.heap.size + 1) #[iv m, iv (m + (wd - 2 * m)), iv m, iv (m + (ht - 2 * m)), .slice none 0 0] := by
    have := Made.new (w1.alloc (.cells #[iv m, iv m, iv (wd - 2 * m), iv (ht - 2 * m)] 70)) #[iv m, iv (m + (wd - 2 * m)), iv m, iv (m + (ht - 2 * m)), .slice none 0 0] 119
    rwa [World.size_alloc] at this
  have h15 : Gr w1 ((w1.alloc (.cells #[iv m, iv m, iv (wd - 2 * m), iv (ht - 2 * m)] 70)).alloc (.cells #[iv m, iv (m + (wd - 2 * m)), iv m, iv (m + (ht - 2 * m)), .slice none 0 0] 119)) := (by with_reducible repeat (first | exact Gr.refl _ | assumption | refine Gr.alloc ?_ _ | refine Gr.drewN ?_ _ | refine Gr.drew ?_ | refine Gr.setCell ?_ (by first | (dsimp only; omega) | (simp only [World.size_alloc]; omega) | (refine Gr.size ?_; (repeat (first | exact Gr.refl _ | assumption | refine Gr.alloc ?_ _ | refine Gr.drewN ?_ _ | refine Gr.drew ?_ | refine Gr.trans ?_ (by assumption))); done)) _ | refine Gr.trans ?_ (by assumption)))
  have N4 := hide (M4.gr h15)
  have N7 := hide (M7.gr h15)
  have N8 := hide (M8.gr h15)
  have N9 := hide M9
  have NF := hide MF
  have e4 := M4.1
  have e7 := M7.1
  have e8 := M8.1
  have hwf : w.heap.size < w1.heap.size := by omega
  have hFs : w1.heap.size + 1 < ((w1.alloc (.cells #[iv m, iv m, iv (wd - 2 * m), iv (ht - 2 * m)] 70)).alloc (.cells #[iv m, iv (m + (wd - 2 * m)), iv m, iv (m + (ht - 2 * m)), .slice none 0 0] 119)).heap.size := MF.1
  clear M4 M7 M8 M9 MF h15 g1 c1 f1 X1 Y1 HWM
  generalize (w1.alloc (.cells #[iv m, iv m, iv (wd - 2 * m), iv (ht - 2 * m)] 70)).alloc (.cells #[iv m, iv (m + (wd - 2 * m)), iv m, iv (m + (ht - 2 * m)), .slice none 0 0] 119) = w5 at *
  generalize w1.heap.size = b9 at *
  have HF5 := hide (show Made w5 (b9 + 1) #[iv (fdV ⟨m, m, wd - 2 * m, ht - 2 * m⟩ (l.take 0)).l, iv (fdV ⟨m, m, wd - 2 * m, ht - 2 * m⟩ (l.take 0)).r, iv (fdV ⟨m, m, wd - 2 * m, ht - 2 * m⟩ (l.take 0)).b, iv (fdV ⟨m, m, wd - 2 * m, ht - 2 * m⟩ (l.take 0)).t, .slice none 0 0] from NF.out)
  have HTR := hide (fun (k : Nat) (r : Rc) (h : l[k]? = some r) => foldl_take (fun a (r : Rc) => min a (m + (wd - 2 * m) - r.x - r.w)) (m + (wd - 2 * m)) h)
  have HTT := hide (fun (k : Nat) (r : Rc) (h : l[k]? = some r) => foldl_take (fun a (r : Rc) => min a (m + (ht - 2 * m) - r.y - r.h)) (m + (ht - 2 * m)) h)
  clear NF
  go_loopw [43] (fun i wr => ∃ k : Nat, k ≤ l.length ∧ i = iv k ∧ Hid (Made wr (b9 + 1) #[iv m, iv (fdR (m + (wd - 2 * m)) (l.take k)), iv m, iv (fdT (m + (ht - 2 * m)) (l.take k)), .slice none 0 0]) ∧ Hid (Kx (fun i => i = b9 + 1) w5 wr)) (fun i _ => l.length - (intOf i).toNat)
  case atStart => exact ⟨0, by omega, rfl, HF5, hide (Kx.refl _ _)⟩
  case round =>
    obtain ⟨k, hk, rfl, HF, HK⟩ := hrel
    by_cases hkl : k < l.length
    · obtain ⟨r, hr⟩ : ∃ r, l[k]? = some r := ⟨_, List.getElem?_eq_getElem hkl⟩
      have hgr : Gr w wr := HK.out.toGr gq (fun i hi => by omega)
      obtain ⟨Bl, ol, hA, x0, x1, x2, x3⟩ := (HL.out.gr hgr).at_ hr
      subst hA
      have hbl : Bl < wr.heap.size := cell_lt (by rw [x0]; rfl)
      have HR := hide (show fdR (m + (wd - 2 * m)) (l.take (k + 1)) = min (fdR (m + (wd - 2 * m)) (l.take k)) (m + (wd - 2 * m) - r.x - r.w) from HTR.out k r hr)
      have HU := hide (show fdT (m + (ht - 2 * m)) (l.take (k + 1)) = min (fdT (m + (ht - 2 * m)) (l.take k)) (m + (ht - 2 * m) - r.y - r.h) from HTT.out k r hr)
      have hv := vrR_iff.1 (HV1.out r (List.mem_of_getElem? hr))
      have p1 := hv.w; have p2 := hv.h; have p3 := hv.x; have p4 := hv.y; have p5 := hv.x'; have p6 := hv.y'
      have hk0 : (0 : Int) ≤ (k : Int) := by omega
      have hk1 : (k : Int) < (l.length : Int) := by omega
      have c0 : wr.cell? ⟨b9, 0, none⟩ = some (iv m) := (HK.out.cell N9.out.1 (by omega) 0).trans (N9.out.2.1 0)
      have c1 : wr.cell? ⟨b9, 1, none⟩ = some (iv m) := (HK.out.cell N9.out.1 (by omega) 1).trans (N9.out.2.1 1)
      have c2 : wr.cell? ⟨b9, 2, none⟩ = some (iv (wd - 2 * m)) := (HK.out.cell N9.out.1 (by omega) 2).trans (N9.out.2.1 2)
      have c3 : wr.cell? ⟨b9, 3, none⟩ = some (iv (ht - 2 * m)) := (HK.out.cell N9.out.1 (by omega) 3).trans (N9.out.2.1 3)
      have d1 : wr.cell? ⟨b9 + 1, 1, none⟩ = some (iv (fdR (m + (wd - 2 * m)) (l.take k))) := HF.out.2.1 1
      have d3 : wr.cell? ⟨b9 + 1, 3, none⟩ = some (iv (fdT (m + (ht - 2 * m)) (l.take k))) := HF.out.2.1 3
      have d1f : wr.frozen? ⟨b9 + 1, 1, none⟩ = false := HF.out.2.2 1
      have d3f : wr.frozen? ⟨b9 + 1, 3, none⟩ = false := HF.out.2.2 3
      have hFl := HF.out.1
      have hb9 : b9 < wr.heap.size := by omega
      have W1 : IntKind.i64.wrap (m + (wd - 2 * m)) = m + (wd - 2 * m) := IntWalk.i64_in _ (by omega)
      have W2 : IntKind.i64.wrap (m + (wd - 2 * m) - r.x) = m + (wd - 2 * m) - r.x := IntWalk.i64_in _ (by omega)
      have W3 : IntKind.i64.wrap (m + (wd - 2 * m) - r.x - r.w) = m + (wd - 2 * m) - r.x - r.w := IntWalk.i64_in _ (by omega)
      have W4 : IntKind.i64.wrap (m + (ht - 2 * m)) = m + (ht - 2 * m) := IntWalk.i64_in _ (by omega)
      have W5 : IntKind.i64.wrap (m + (ht - 2 * m) - r.y) = m + (ht - 2 * m) - r.y := IntWalk.i64_in _ (by omega)
      have W6 : IntKind.i64.wrap (m + (ht - 2 * m) - r.y - r.h) = m + (ht - 2 * m) - r.y - r.h := IntWalk.i64_in _ (by omega)
      clear p1 p2 p3 p4 p5 p6 hv hr
      go_wp2
      go_roundw
      case rel =>
        refine ⟨k + 1, by omega, by go_num, hide ?_, hide ((((HK.out.set 1 _ (.inl rfl)).set 3 _ (.inl rfl))).gr (Gr.alloc (Gr.refl _) _))⟩
        rw [HR.out, HU.out]
        exact ((HF.out.set1 (o := 1) (show 1 < 5 by decide) _).set1 (o := 3) (show 3 < 5 by decide) _).gr (Gr.alloc (Gr.refl _) _)
      case measure => simp only [intOf]; omega
    · obtain rfl : k = l.length := by omega
      have gw : Gr w wr := HK.out.toGr gq (fun i hi => by omega)
      have HF1 := hide (show Made wr (b9 + 1) #[iv (fdV ⟨m, m, wd - 2 * m, ht - 2 * m⟩ l).l, iv (fdV ⟨m, m, wd - 2 * m, ht - 2 * m⟩ l).r, iv (fdV ⟨m, m, wd - 2 * m, ht - 2 * m⟩ l).b, iv (fdV ⟨m, m, wd - 2 * m, ht - 2 * m⟩ l).t, .slice none 0 0] by have := HF.out; rw [List.take_length] at this; exact this)
      have K4 := hide (Made.kx N4.out HK.out (by omega))
      have K7 := hide (Made.kx N7.out HK.out (by omega))
      have K8 := hide (Made.kx N8.out HK.out (by omega))
      have hFl := HF1.out.1
      have q4 := K4.out.1
      have q40 : wr.cell? ⟨w.heap.size, 0, none⟩ = some (.string nm) := K4.out.2.1 0
      have q41 : wr.cell? ⟨w.heap.size, 1, none⟩ = some (.string mt) := K4.out.2.1 1
      have q42 : wr.cell? ⟨w.heap.size, 2, none⟩ = some (iv ga) := K4.out.2.1 2
      have q43 : wr.cell? ⟨w.heap.size, 3, none⟩ = some (iv gr) := K4.out.2.1 3
      have q44 : wr.cell? ⟨w.heap.size, 4, none⟩ = some (iv wd) := K4.out.2.1 4
      have q45 : wr.cell? ⟨w.heap.size, 5, none⟩ = some (iv ht) := K4.out.2.1 5
      have q46 : wr.cell? ⟨w.heap.size, 6, none⟩ = some (.slice cA cl.length cc) := K4.out.2.1 6
      have q47 : wr.cell? ⟨w.heap.size, 7, none⟩ = some (.slice uA us.length uc) := K4.out.2.1 7
      rw [HFD.out] at HF1
      clear N4 N7 N8 N9 HF HK HF5 HTR HTT gq hFs K4
      have HF1 := hide HF1.out
      go_upto_region 10 with (first | (go_at_call 44; refine (HBL.out _ gw).mono ?_; rintro e w6 ⟨D6, rfl, hD6, g6, hN6⟩) | (go_at_call 86; refine (HCO.out _ (by with_reducible repeat (first | exact Gr.refl _ | assumption | refine Gr.alloc ?_ _ | refine Gr.drewN ?_ _ | refine Gr.drew ?_ | refine Gr.setCell ?_ (by first | (dsimp only; omega) | (simp only [World.size_alloc]; omega) | (refine Gr.size ?_; (repeat (first | exact Gr.refl _ | assumption | refine Gr.alloc ?_ _ | refine Gr.drewN ?_ _ | refine Gr.drew ?_ | refine Gr.trans ?_ (by assumption))); done)) _ | refine Gr.trans ?_ (by assumption)))).mono ?_; rintro e w7 ⟨D7, q7, rfl, hD7, g7⟩))
      have gA : Gr wr w7 := (by with_reducible repeat (first | exact Gr.refl _ | assumption | refine Gr.alloc ?_ _ | refine Gr.drewN ?_ _ | refine Gr.drew ?_ | refine Gr.setCell ?_ (by first | (dsimp only; omega) | (simp only [World.size_alloc]; omega) | (refine Gr.size ?_; (repeat (first | exact Gr.refl _ | assumption | refine Gr.alloc ?_ _ | refine Gr.drewN ?_ _ | refine Gr.drew ?_ | refine Gr.trans ?_ (by assumption))); done)) _ | refine Gr.trans ?_ (by assumption)))
      have hs6 := g6.size
      have hs7 := g7.size
      have HF7 := hide (show FdB w7 (b9 + 1) w7.heap.size f none 0 [] from ⟨HF1.out.gr gA, own_nil _ _ _ _ _, by omega⟩)
      have M7 := hide (K7.out.gr gA)
      have M8 := hide (K8.out.gr gA)
      have hwF : w.heap.size + 1 + 1 < b9 + 1 := by omega
      have HH := hide (fun (w' : World) (gK : Kx (fun i => i = b9 + 1) w7 w') => SlR.kx (hD6.gr g7) gK (fun _ x hx e => by have := hN6 x hx; omega))
      have HO := hide (fun (w' : World) (gK : Kx (fun i => i = b9 + 1) w7 w') => SlR.kx (own_slrN hD7).2 gK (fun _ x hx e => by have := own_new hD7 x hx; omega))
      have HLL := hide (fun (w' : World) (gK : Kx (fun i => i = b9 + 1) w7 w') => SlR.kx (HL.out.gr (gw.trans gA)) gK (fun hne x hx e => by
        obtain ⟨y, hy⟩ : ∃ y, l[0]? = some y := ⟨_, List.getElem?_eq_getElem (List.length_pos_iff.2 hne)⟩
        obtain ⟨Bx, ox, hA, x0, _⟩ := HL.out.at_ hy
        have hlt : Bx < w.heap.size := cell_lt (by rw [x0]; rfl)
        rw [hx] at hA
        cases hA
        simp only at e
        omega))
      have gw7 : Gr w w7 := gw.trans gA
      have nq1 := (hD6.gr g7).cap
      have nq2 := (hD6.gr g7).capB
      have nq3 := (own_slrN hD7).2.cap
      have nq4 := (own_slrN hD7).2.capB
      have HLN := hide (fun (k : Nat) => show (kpL f (fdB (l.take k) hard soft ⟨g, m, cm⟩)).length ≤ 300000 from by
        refine Nat.le_trans (kpL_len _ _) (Nat.le_trans (fdB_len (m := 5052) (by omega) _) ?_)
        have : (l.take k).length ≤ 48 := by rw [List.length_take]; omega
        omega)
      clear hD6 hN6 hD7 HF1 K7 K8 HBL HCO hs6 hs7 g6 g7 gA gw q40 q41 q42 q43 q44 q45 q46 q47 q4 hFl
      obtain ⟨lo, hlo⟩ : ∃ lo, lo = w7.heap.size := ⟨_, rfl⟩
      rw [← hlo] at HF7
      have HFL := hide (show b9 + 1 < lo from HF7.out.lt)
      go_wp2
      go_loopw [88] (fun i wr => ∃ (k : Nat) (C : List Br) (D : Option Addr) (q : Nat), k ≤ l.length ∧ i = iv k ∧ Hid (C = kpL f (fdB (l.take k) hard soft ⟨g, m, cm⟩)) ∧ Hid (FdB wr (b9 + 1) lo f D q C) ∧ Hid (Kx (fun i => i = b9 + 1) w7 wr)) (fun i _ => l.length - (intOf i).toNat)
      case atStart => exact ⟨0, [], none, 0, by omega, rfl, hide (by rw [List.take_zero]; rfl), HF7, hide (Kx.refl _ _)⟩
      case round =>
        obtain ⟨k, C, D, q, hk, rfl, HC, HF, HK⟩ := hrel
        by_cases hkl : k < l.length
        · obtain ⟨r, hr⟩ : ∃ r, l[k]? = some r := ⟨_, List.getElem?_eq_getElem hkl⟩
          obtain ⟨Bl, ol, hA, x0, x1, x2, x3⟩ := (HLL.out wr HK.out).at_ hr
          subst hA
          have hbl : Bl < wr.heap.size := cell_lt (by rw [x0]; rfl)
          have HSN := hide (fdB_snoc (hard := hard) (soft := soft) (t := ⟨g, m, cm⟩) hr)
          have hvr := HV1.out r (List.mem_of_getElem? hr)
          have HVR := hide hvr
          have hk0 : (0 : Int) ≤ (k : Int) := by omega
          have hk1 : (k : Int) < (l.length : Int) := by omega
          have hC : C.length ≤ 300000 := by rw [HC.out]; exact HLN.out k
          have hrow := HF.out.row
          have hFs := HF.out.md.1
          have hlw : lo ≤ wr.heap.size := by rw [hlo]; exact HK.out.size
          clear hr hvr
          go_wp2
          have HF8 := hide (HF.out.gr (show Gr wr (wr.alloc (.cells #[iv r.x, iv r.y, iv r.w, iv r.h] 70)) from (by with_reducible repeat (first | exact Gr.refl _ | assumption | refine Gr.alloc ?_ _ | refine Gr.drewN ?_ _ | refine Gr.drew ?_ | refine Gr.setCell ?_ (by first | (dsimp only; omega) | (simp only [World.size_alloc]; omega) | (refine Gr.size ?_; (repeat (first | exact Gr.refl _ | assumption | refine Gr.alloc ?_ _ | refine Gr.drewN ?_ _ | refine Gr.drew ?_ | refine Gr.trans ?_ (by assumption))); done)) _ | refine Gr.trans ?_ (by assumption)))))
          have HK8 := hide (HK.out.gr (show Gr wr (wr.alloc (.cells #[iv r.x, iv r.y, iv r.w, iv r.h] 70)) from (by with_reducible repeat (first | exact Gr.refl _ | assumption | refine Gr.alloc ?_ _ | refine Gr.drewN ?_ _ | refine Gr.drew ?_ | refine Gr.setCell ?_ (by first | (dsimp only; omega) | (simp only [World.size_alloc]; omega) | (refine Gr.size ?_; (repeat (first | exact Gr.refl _ | assumption | refine Gr.alloc ?_ _ | refine Gr.drewN ?_ _ | refine Gr.drew ?_ | refine Gr.trans ?_ (by assumption))); done)) _ | refine Gr.trans ?_ (by assumption)))))
          have H16 := hide (Made.new wr #[iv r.x, iv r.y, iv r.w, iv r.h] 70)
          have h16 : wr.heap.size ≠ b9 + 1 := by omega
          have hD16 : ¬ fdX (b9 + 1) D wr.heap.size := by
            rintro (e | e)
            · exact h16 e
            · have := hrow _ e
              omega
          have hDlo : ∀ i, (D.map Addr.block) = some i → w7.heap.size ≤ i := fun i hi => by have := hrow i hi; omega
          have hlw8 : lo ≤ (wr.alloc (.cells #[iv r.x, iv r.y, iv r.w, iv r.h] 70)).heap.size := by rw [World.size_alloc]; omega
          have HROW := hide hDlo
          have H16D := hide hD16
          clear HF HK x0 x1 x2 x3 hbl hrow hDlo hD16 hFs hlw
          generalize wr.alloc (.cells #[iv r.x, iv r.y, iv r.w, iv r.h] 70) = w8 at *
          generalize wr.heap.size = b16 at *
          have HCB := hide (show ∀ (C1 : List Br) (wi : World), C1.length ≤ 320000 → ClP w8 (b9 + 1) lo f D C1 wi → ∀ (wx : World), Gr wi wx → ∀ (Z : Option Addr) (n zc : Nat) (zl : List Br), n = zl.length → SlBr wx Z zc zl → (∀ x, Z = some x → wi.heap.size ≤ x.block) → zl.length ≤ 5 → Calls Tryz.prog 109 #[.pointer (some ⟨b9 + 1, 0, none⟩), .slice Z n zc] wx fun e w' => e = .returned (.tuple #[]) ∧ ClP w8 (b9 + 1) lo f D (C1 ++ kpL f zl) w' from by
            rintro C1 wi hC1 ⟨D', q', k1, k2, k3⟩ wx gx Z n zc zl rfl hz hfr hn
            have hk1 := k1.gr gx
            have hr1 := k1.row
            refine (closeBars_any (b9 + 1) lo f D' q' C1 Z zc zl wx hk1 hz (fun _ x hx hX => ?_) (by have := k2.size; have := gx.size; omega) (by omega)).mono ?_
            · have := hfr x hx
              have hz2 := k1.md.1
              rcases hX with e | e
              · omega
              · have := hr1 _ e
                omega
            · rintro e w' ⟨h1, h2⟩
              exact ⟨h1, ClP.trans (k2.gr gx) k3 h2⟩)
          have HAR := hide (fun (o : Rc) (ho : vrR o = true) (w' : World) => around_any r o 0 w' HVR.out ho (by omega) (by omega))
          have HUC := hide (fun (o : Rc) (ho : vrR o = true) (w' : World) => unclear_any r o ⟨g, m, cm⟩ w' HVR.out ho g1 g2)
          have HOUT := hide (fun (C1 : List Br) (wi : World) (hP : ClP w8 (b9 + 1) lo f D C1 wi) => show Kx (fun i => i = b9 + 1) w7 wi from ClP.out HK8.out HROW.out (by rw [← hlo]; exact hP))
          have H16C := hide (fun (C1 : List Br) (wi : World) (hP : ClP w8 (b9 + 1) lo f D C1 wi) => show Made wi b16 #[iv r.x, iv r.y, iv r.w, iv r.h] from by
            obtain ⟨D', q', k1, k2, k3⟩ := hP
            exact Made.kx H16.out k2 H16D.out)
          go_loopw [94] (fun i wi => ∃ (j : Nat) (C1 : List Br), j ≤ hard.length ∧ i = iv j ∧ Hid (C1 = C ++ kpL f ((hard.take j).map fun o => arBr r o 0)) ∧ Hid (ClP w8 (b9 + 1) lo f D C1 wi)) (fun i _ => hard.length - (intOf i).toNat)
          case atStart => exact ⟨0, C, by omega, rfl, hide (by rw [List.take_zero]; simp [kpL]), hide (ClP.refl HF8.out)⟩
          case round =>
            obtain ⟨j, C1, hj, rfl, HC1, HP⟩ := hrel
            have hC1 : C1.length ≤ 320000 := by
              have := kpL_len f ((hard.take j).map fun o => arBr r o 0)
              rw [List.length_map, List.length_take] at this
              rw [HC1.out, List.length_append]
              omega
            obtain ⟨hb, y0, y1⟩ := H16C.out C1 _ HP.out
            have z0 := y0 0
            have z1 := y0 1
            have z2 := y0 2
            have z3 := y0 3
            clear y0 y1
            by_cases hjl : j < hard.length
            · obtain ⟨o, ho⟩ : ∃ o, hard[j]? = some o := ⟨_, List.getElem?_eq_getElem hjl⟩
              obtain ⟨Bo, oo, hA, u0, u1, u2, u3⟩ := (HH.out _ (HOUT.out C1 _ HP.out)).at_ ho
              subst hA
              have hbo : Bo < wr.heap.size := cell_lt (by rw [u0]; rfl)
              have HMP := hide (map_take1 (fun o => arBr r o 0) ho)
              have hvo := HV2.out o (List.mem_of_getElem? ho)
              have HAo := hide (HAR.out o hvo)
              have hj0 : (0 : Int) ≤ (j : Int) := by omega
              have hj1 : (j : Int) < (hard.length : Int) := by omega
              have HCBo := hide (HCB.out C1 _ hC1 HP.out)
              clear ho hvo
              go_wp2_with fail
              refine (HAo.out _).mono ?_
              rintro e wa ⟨rfl, ga9⟩
              obtain ⟨Xa, Ya, ca, fa⟩ := ga9.use
              have za := ga9.size
              simp only [World.size_alloc, Nat.add_one_le_iff] at za
              go_wp2_with fail
              refine (HCBo.out _ (by with_reducible repeat (first | exact Gr.refl _ | assumption | refine Gr.alloc ?_ _ | refine Gr.drewN ?_ _ | refine Gr.drew ?_ | refine Gr.setCell ?_ (by first | (dsimp only; omega) | (simp only [World.size_alloc]; omega) | (refine Gr.size ?_; (repeat (first | exact Gr.refl _ | assumption | refine Gr.alloc ?_ _ | refine Gr.drewN ?_ _ | refine Gr.drew ?_ | refine Gr.trans ?_ (by assumption))); done)) _ | refine Gr.trans ?_ (by assumption))) _ 1 _ [arBr r o 0] rfl ⟨br_lit _ _ _ _ rfl rfl, Nat.le_refl _, show 1 ≤ 9223372036854775807 by decide⟩ (by intro x hx; cases hx; simp only [World.size_alloc]; omega) (show 1 ≤ 5 by decide)).mono ?_
              rintro e wb ⟨rfl, hPb⟩
              have HPb := hide hPb
              have HCb := hide (show C1 ++ kpL f [arBr r o 0] = C ++ kpL f ((hard.take (j + 1)).map fun o => arBr r o 0) by rw [HC1.out, HMP.out, kpL_app, List.append_assoc])
              clear hPb HCBo ca fa Xa Ya ga9 u0 u1 u2 u3
              go_wp2
              go_roundw
              case rel => exact ⟨j + 1, _, by omega, by go_num, HCb, HPb⟩
              case measure => simp only [intOf]; omega
            · obtain rfl : j = hard.length := by omega
              have HCX := hide (show C1 = C ++ kpL f (hard.map fun o => arBr r o 0) by have := HC1.out; rwa [List.take_length] at this)
              have hC1b : C1.length ≤ 300052 := by
                have := kpL_len f (hard.map fun o => arBr r o 0)
                rw [List.length_map] at this
                rw [HCX.out, List.length_append]
                omega
              clear HC1 hC1
              go_wp2
              go_loopw [106] (fun i wi => ∃ (j : Nat) (C2 : List Br), j ≤ soft.length ∧ i = iv j ∧ Hid (C2 = C1 ++ kpL f ((soft.take j).flatMap fun o => ucBr r o ⟨g, m, cm⟩)) ∧ Hid (ClP w8 (b9 + 1) lo f D C2 wi)) (fun i _ => soft.length - (intOf i).toNat)
              case atStart => exact ⟨0, C1, by omega, rfl, hide (by rw [List.take_zero]; simp [kpL]), HP⟩
              case round =>
                clear z0 z1 z2 z3 hb
                obtain ⟨j, C2, hj, rfl, HC2, HP2⟩ := hrel
                have hC2 : C2.length ≤ 320000 := by
                  have h1 := kpL_len f ((soft.take j).flatMap fun o => ucBr r o ⟨g, m, cm⟩)
                  have h2 := uc_len r ⟨g, m, cm⟩ (soft.take j)
                  rw [List.length_take] at h2
                  rw [HC2.out, List.length_append]
                  omega
                obtain ⟨hb, y0, y1⟩ := H16C.out C2 _ HP2.out
                obtain ⟨hb7, y7, y8⟩ := Made.kx M7.out (HOUT.out C2 _ HP2.out) (by omega)
                have z0 := y0 0
                have z1 := y0 1
                have z2 := y0 2
                have z3 := y0 3
                have z4 := y7 0
                have z5 := y7 1
                have z6 := y7 2
                clear y0 y1 y7 y8
                by_cases hjl : j < soft.length
                · obtain ⟨o, ho⟩ : ∃ o, soft[j]? = some o := ⟨_, List.getElem?_eq_getElem hjl⟩
                  obtain ⟨Bo, oo, hA, u0, u1, u2, u3⟩ := (HO.out _ (HOUT.out C2 _ HP2.out)).at_ ho
                  subst hA
                  have hbo : Bo < wr.heap.size := cell_lt (by rw [u0]; rfl)
                  have HMP := hide (fm_take (fun o => ucBr r o ⟨g, m, cm⟩) ho)
                  have hvo := HV3.out o (List.mem_of_getElem? ho)
                  have HAo := hide (HUC.out o hvo)
                  have hj0 : (0 : Int) ≤ (j : Int) := by omega
                  have hj1 : (j : Int) < (soft.length : Int) := by omega
                  have HCBo := hide (HCB.out C2 _ hC2 HP2.out)
                  have HUL := hide (ucBr_len r o ⟨g, m, cm⟩)
                  clear ho hvo
                  go_wp2_with fail
                  refine (HAo.out _).mono ?_
                  rintro e wa ⟨Du, qu, rfl, hsu, ga9, hfu⟩
                  obtain ⟨Xa, Ya, ca, fa⟩ := ga9.use
                  have za := ga9.size
                  simp only [World.size_alloc, Nat.add_one_le_iff] at za
                  simp only [World.size_alloc] at hfu
                  have HSU := hide hsu
                  have HFU := hide hfu
                  clear hsu hfu
                  go_wp2_with fail
                  refine (HCBo.out _ (by with_reducible repeat (first | exact Gr.refl _ | assumption | refine Gr.alloc ?_ _ | refine Gr.drewN ?_ _ | refine Gr.drew ?_ | refine Gr.setCell ?_ (by first | (dsimp only; omega) | (simp only [World.size_alloc]; omega) | (refine Gr.size ?_; (repeat (first | exact Gr.refl _ | assumption | refine Gr.alloc ?_ _ | refine Gr.drewN ?_ _ | refine Gr.drew ?_ | refine Gr.trans ?_ (by assumption))); done)) _ | refine Gr.trans ?_ (by assumption))) _ _ _ _ rfl (HSU.out.gr (by with_reducible repeat (first | exact Gr.refl _ | assumption | refine Gr.alloc ?_ _ | refine Gr.drewN ?_ _ | refine Gr.drew ?_ | refine Gr.setCell ?_ (by first | (dsimp only; omega) | (simp only [World.size_alloc]; omega) | (refine Gr.size ?_; (repeat (first | exact Gr.refl _ | assumption | refine Gr.alloc ?_ _ | refine Gr.drewN ?_ _ | refine Gr.drew ?_ | refine Gr.trans ?_ (by assumption))); done)) _ | refine Gr.trans ?_ (by assumption)))) (fun x hx => by have := HFU.out x hx; omega) HUL.out).mono ?_
                  rintro e wb ⟨rfl, hPb⟩
                  have HPb := hide hPb
                  have HCb := hide (show C2 ++ kpL f (ucBr r o ⟨g, m, cm⟩) = C1 ++ kpL f ((soft.take (j + 1)).flatMap fun o => ucBr r o ⟨g, m, cm⟩) by rw [HC2.out, HMP.out, kpL_app, List.append_assoc])
                  clear hPb HCBo ca fa Xa Ya ga9 u0 u1 u2 u3
                  go_wp2
                  go_roundw
                  case rel => exact ⟨j + 1, _, by omega, by go_num, HCb, HPb⟩
                  case measure => simp only [intOf]; omega
                · obtain rfl : j = soft.length := by omega
                  have HCY := hide (show C2 = kpL f (fdB (l.take (k + 1)) hard soft ⟨g, m, cm⟩) by
                    have e := HC2.out
                    rw [List.take_length] at e
                    rw [e, HCX.out, HC.out, HSN.out, kpL_app, fdB1, kpL_app, List.append_assoc])
                  obtain ⟨D9, q9, r1, r2, r3⟩ := HP2.out
                  have HR1 := hide r1
                  have HK9 := hide (HOUT.out C2 _ HP2.out)
                  clear r1 r2 r3
                  go_wp2
                  go_roundw
                  case rel => exact ⟨k + 1, C2, D9, q9, by omega, by go_num, HCY, HR1, HK9⟩
                  case measure => simp only [intOf]; omega
        · obtain rfl : k = l.length := by omega
          have HCE := hide (show C = kpL f (fdB l hard soft ⟨g, m, cm⟩) by have := HC.out; rwa [List.take_length] at this)
          have hC : C.length ≤ 300000 := by rw [HC.out]; exact HLN.out l.length
          have MF := HF.out.md
          have s0 := MF.1
          have t0 := MF.2.1 0
          have t1 := MF.2.1 1
          have t2 := MF.2.1 2
          have t3 := MF.2.1 3
          have t4 := MF.2.1 4
          obtain ⟨e8, y8, y9⟩ := Made.kx M8.out HK.out (by omega)
          clear MF
          go_wp2_with fail
          have HSO := hide (sortB D q C wr lo HF.out.own (by omega))
          have hrow := HF.out.row
          have hlw : lo ≤ wr.heap.size := by rw [hlo]; exact HK.out.size
          refine HSO.out.mono ?_
          rintro e ws ⟨rfl, ys, hp, hs, ho, hk⟩
          have hFD : ¬ (fun i => (D.map Addr.block) = some i) (b9 + 1) := fun e => by have := hrow _ e; have := HFL.out; omega
          have h8D : ¬ (fun i => (D.map Addr.block) = some i) (w.heap.size + 1 + 1) := fun e => by have := hrow _ e; have := HFL.out; omega
          have hlen : ys.length = C.length := hp.length_eq
          obtain ⟨s0', t', _⟩ := Made.kx HF.out.md hk hFD
          obtain ⟨e8', y8', y9'⟩ := Made.kx (Made.kx M8.out HK.out (by omega)) hk h8D
          have HO2 := hide ho
          have h8lo : w.heap.size + 1 + 1 < lo := by have := HFL.out; omega
          have gws : Gr w ws := (HK.out.trans hk (fun i hi h => by have := hrow i h; omega)).toGr gw7 (fun i hi => by omega)
          have HGW := hide gws
          have HPM := hide (show ys.Perm (kpL f (fdB l hard soft ⟨g, m, cm⟩)) by rw [← HCE.out]; exact hp)
          have HSD := hide hs
          have u0 := t' 0
          have u1 := t' 1
          have u2 := t' 2
          have u3 := t' 3
          have u4 := t' 4
          have v0 := y8' 0
          have v1 := y8' 1
          have v2 := y8' 2
          have v3 := y8' 3
          have v4 := y8' 4
          have w0 := y9' 0
          have w1' := y9' 1
          have w2 := y9' 2
          have w3 := y9' 3
          have w4 := y9' 4
          clear t' y8' y9' hp hs ho hk hFD h8D HSO y8 y9 e8 gws t0 t1 t2 t3 t4 s0
          go_wp2
          refine bodyPost_ret (v := fdv f D C.length q) (by simp [results, Tryz.results68, go_sem, *]) rfl ⟨D, q, ys, by rw [hlen], ?_, HPM.out, HSD.out, ?_⟩
          · exact (own_slbr (own_setK (own_setK (own_setK (own_setK (own_setK HO2.out 0 _ h8lo) 1 _ h8lo) 2 _ h8lo) 3 _ h8lo) 4 _ h8lo)).2
          · have hx : (fun _ : Nat => False) (w.heap.size + 1 + 1) ∨ w.heap.size ≤ w.heap.size + 1 + 1 := .inr (by omega)
            exact (((((((Kx.of_gr (X := fun _ => False) HGW.out).set 0 _ hx).set 1 _ hx).set 2 _ hx).set 3 _ hx).set 4 _ hx).toGr (Gr.refl _) (fun i hi => absurd hi id))
end RG
end Go.Proofs.YtddhaiaapomdjaaGreat
