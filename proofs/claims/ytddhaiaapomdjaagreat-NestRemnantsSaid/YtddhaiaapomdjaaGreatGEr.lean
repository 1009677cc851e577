/-
  Nests: the order of two turns by their places, of the code.
  Nests: a few turns sorted by their places, by a method value, of the code.
  Nests: a few turns sorted by their places, by the library's SortFunc.
-/
import Derived.Test.YtddhaiaapomdjaaGreatGDr
import Derived.RegionTactic
import Derived.Shelf.SlSortCmp.Whole1
import Derived.Sort.WalkB2
import Derived.Deep.LoopGhost
set_option linter.unusedVariables false
set_option linter.unusedSimpArgs false
namespace Go.Proofs.YtddhaiaapomdjaaGreat
set_option linter.unusedVariables false
set_option linter.unusedSimpArgs false
open Go Go.ChangeShapes Go.WideShapes Go.ChangeAt Go.RowKit Go.Deep

namespace RG
/-- the first that is not 0 -/
def orV : List Int → Int
  | [] => 0
  | x :: l => if x ≠ 0 then x else orV l
theorem orV_hit {x : Int} : ∀ {l : List Int} {k : Nat}, l[k]? = some x → x ≠ 0 → (∀ (j : Nat) (z : Int), j < k → l[j]? = some z → z = 0) → orV l = x
  | [], _, h, _, _ => by simp at h
  | a :: l, 0, h, hx, _ => by
    obtain rfl : a = x := by simpa using h
    unfold orV
    rw [if_pos hx]
  | a :: l, k + 1, h, hx, hn => by
    have ha : a = 0 := hn 0 a (by omega) rfl
    unfold orV
    rw [if_neg (by omega)]
    exact orV_hit (by simpa using h) hx fun j z hj hz => hn (j + 1) z (by omega) (by simpa using hz)
theorem orV_none : ∀ {l : List Int}, (∀ (j : Nat) (z : Int), j < l.length → l[j]? = some z → z = 0) → orV l = 0
  | [], _ => rfl
  | a :: l, hn => by
    have ha : a = 0 := hn 0 a (by simp) rfl
    unfold orV
    rw [if_neg (by omega)]
    exact orV_none fun j z hj hz => hn (j + 1) z (by simp; omega) (by simpa using hz)
set_option maxHeartbeats 2000000 in
theorem or_any (A : Option Addr) (c : Nat) (l : List Int) (w : World) (hl : SlI w A c l) :
    Calls Tryz.prog 118 #[.slice A l.length c] w fun e w' => e = .returned (iv (orV l)) ∧ w' = w := by
  have n1 := hl.cap
  have n2 := hl.capB
  have HL := hide hl
  have HH := hide (fun (x : Int) (k : Nat) => orV_hit (x := x) (l := l) (k := k))
  have HN := hide (orV_none (l := l))
  clear hl
  go_enter Tryz.func118, Tryz.ntmps118
  go_wp2
  go_loopw [8] (fun i wr => ∃ k : Nat, k ≤ l.length ∧ i = iv k ∧ Hid (wr = w) ∧ Hid (∀ (j : Nat) (z : Int), j < k → l[j]? = some z → z = 0)) (fun i _ => l.length - (intOf i).toNat)
  case atStart => exact ⟨0, by omega, rfl, hide rfl, hide (fun j z h => absurd h (Nat.not_lt_zero j))⟩
  case round =>
    obtain ⟨k, hk, rfl, HW, HS⟩ := hrel
    obtain rfl := HW.out
    clear HW
    by_cases hkl : k < l.length
    · obtain ⟨y, hy⟩ : ∃ y, l[k]? = some y := ⟨_, List.getElem?_eq_getElem hkl⟩
      obtain ⟨B, o2, hA, x0, _⟩ := HL.out.rd k y hy
      rw [Nat.mul_one] at x0
      subst hA
      have hk0 : (0 : Int) ≤ (k : Int) := by omega
      have hk1 : (k : Int) < (l.length : Int) := by omega
      have HY := hide hy
      clear hy
      by_cases h0 : y = 0
      · have HS' := hide (show ∀ (j : Nat) (z : Int), j < k + 1 → l[j]? = some z → z = 0 by
          intro j z hj hz
          rcases Nat.lt_or_ge j k with c | c
          · exact HS.out j z c hz
          · obtain rfl : j = k := by omega
            rw [HY.out] at hz
            obtain rfl := Option.some.inj hz
            exact h0)
        subst h0
        go_wp2
        go_roundw
        case rel => exact ⟨k + 1, by omega, by go_num, (by first | exact hide rfl | exact hide trivial), HS'⟩
        case measure => simp only [intOf]; omega
      · have HE := hide (HH.out y k HY.out h0 HS.out)
        go_wp2
        go_ret
        exact ⟨ret_iv HE.out.symm, rfl⟩
    · obtain rfl : k = l.length := by omega
      have HE := hide (HN.out HS.out)
      go_wp2
      go_ret
      exact ⟨ret_iv HE.out.symm, rfl⟩
/-- two turns by their places: by Y, then by X, then by themselves -/
def cmO (X Y : Nat → Int) (a b : Nat) : Int := orV [Lib.compareInt (Y a) (Y b), Lib.compareInt (X a) (X b), Lib.compareInt a b]
/-- the places of the turns, where they lie -/
structure Pls (w : World) (B : Nat) (X Y : Nat → Int) : Prop where
  x : ∀ t, t < 4 → w.cell? ⟨B, t * 2, none⟩ = some (iv (X t))
  y : ∀ t, t < 4 → w.cell? ⟨B, t * 2 + 1, none⟩ = some (iv (Y t))
  lt : B < w.heap.size
/-- a world grown out of b, no draw taken back -/
structure GrD (b : World) where
  w : World
  gr : Gr b w
  dr : b.drawn ≤ w.drawn
instance grdInhabited (b : World) : Inhabited (GrD b) := ⟨⟨b, Gr.refl b, Nat.le_refl _⟩⟩
def GrD.X {b : World} (g : GrD b) (i o : Nat) : Option Value := g.w.cell? ⟨i, o, none⟩
theorem GrD.cell {b : World} (g : GrD b) (i o : Nat) : g.w.cell? ⟨i, o, none⟩ = (b.cell? ⟨i, o, none⟩).or (g.X i o) := by
  cases e : b.cell? ⟨i, o, none⟩ with
  | none => rfl
  | some v => rw [g.gr.cell i o (cell_lt (by rw [e]; rfl)), e]; rfl
theorem wp_region_grd_tail {P : Program} {id : Nat} {Q : Exit → Act → World → Prop} {a : Act} {w : World} {l : List Oper} (n : Nat) (hm : P.follows .mixedOrders = true) (hB : Region.lexTailB .any l.toArray n = true)
    (h : wpQuiet P l.toArray (fun w' => ∃ g : GrD w, w' = g.w) (fun a' => ∀ w', (∃ g : GrD w, w' = g.w) → wpList P l.toArray Q (l.drop n) a' w') (l.take n) a) : (Code.region id l.toArray true).wp P Q a w :=
  wp_region_quiet_tail (C := fun w' => ∃ g : GrD w, w' = g.w) n hm hB ⟨⟨_, Gr.drew (Gr.refl w), Nat.le_succ _⟩, rfl⟩ h
theorem quiet_grd {P : Program} {f : FuncId} {args : Array Value} {b : World} {g : GrD b} {v : Value} (c : Calls P f args g.w fun e w' => e = .returned v ∧ w' = g.w) :
    Calls P f args g.w fun e w'' => e = .returned v ∧ ∃ g' : GrD b, w'' = g'.w :=
  c.mono fun _ _ ⟨he, h⟩ => ⟨he, g, h⟩
theorem sli_3 (w : World) (a b c : Int) (t : TypeId) : SlI (w.alloc (.cells #[iv a, iv b, iv c] t)) (some ⟨w.heap.size, 0, none⟩) 3 [a, b, c] := by
  refine ⟨fun i p hp => ?_, by simp, by omega⟩
  refine ⟨w.heap.size, 0, rfl, ?_, trivial⟩
  match i with
  | 0 => simp only [List.getElem?_cons_zero, Option.some.injEq] at hp; subst hp; simp [go_sem]
  | 1 => simp only [List.getElem?_cons_succ, List.getElem?_cons_zero, Option.some.injEq] at hp; subst hp; simp [go_sem]
  | 2 => simp only [List.getElem?_cons_succ, List.getElem?_cons_zero, Option.some.injEq] at hp; subst hp; simp [go_sem]
  | n + 3 => simp at hp
set_option maxHeartbeats 4000000 in
set_option maxRecDepth 100000 in
theorem compare_any (B : Nat) (X Y : Nat → Int) (a b : Nat) (w : World) (h : Pls w B X Y) (ha : a < 4) (hb : b < 4) :
    Calls Tryz.prog 71 #[.pointer (some ⟨B, 0, none⟩), iv a, iv b] w fun e w' => e = .returned (iv (cmO X Y a b)) ∧ Gd w w' := by
  have c1 := h.x a ha
  have c2 := h.y a ha
  have c3 := h.x b hb
  have c4 := h.y b hb
  have hl := h.lt
  have HC := hide (fun (x y : Int) (w' : World) => Go.Proofs.Any.cmp_Compare_int Tryz.layFCmp x y w')
  have HO := hide (fun (A : Option Addr) (n c : Nat) (l : List Int) (w' : World) (hs : SlI w' A c l) (hn : n = l.length) => show Calls Tryz.prog 118 #[.slice A n c] w' _ from hn ▸ or_any A c l w' hs)
  have HE := hide (show cmO X Y a b = orV [Lib.compareInt (Y a) (Y b), Lib.compareInt (X a) (X b), Lib.compareInt a b] from rfl)
  have i0 : (0 : Int) ≤ (a : Int) := by omega
  have i1 : (a : Int) < 4 := by omega
  have j0 : (0 : Int) ≤ (b : Int) := by omega
  have j1 : (b : Int) < 4 := by omega
  clear h
  generalize X a = xa at *
  generalize X b = xb at *
  generalize Y a = ya at *
  generalize Y b = yb at *
  go_enter Tryz.func71, Tryz.ntmps71
  go_wp2_with fail
  have GC := @GrD.cell
  refine wp_region_grd_tail 29 (by kernel_rfl) (by kernel_rfl) ?_
  simp only [List.take_succ_cons, List.take_zero, List.drop_succ_cons, List.drop_zero]
  repeat (go_big_quiet_step ((first | (go_at_call 95; exact quiet_grd (HC.out _ _ _)))))
  refine wpQuiet_nil ?_
  intro wq hwq
  obtain ⟨gq, hwq'⟩ := hwq
  subst hwq'
  clear GC
  have gq1 := gq.gr
  have gd1 := gq.dr
  generalize gq.w = wq at gq1 gd1 ⊢
  go_wp2_with (go_at_call 118; refine (HO.out _ _ _ _ _ (sli_3 _ _ _ _ _) rfl).mono ?_; rintro e w1 ⟨rfl, rfl⟩)
  go_ret
  exact ⟨ret_iv HE.out.symm, (by with_reducible repeat (first | exact Gr.refl _ | assumption | refine Gr.alloc ?_ _ | refine Gr.drewN ?_ _ | refine Gr.drew ?_ | refine Gr.setCell ?_ (by first | (dsimp only; omega) | (simp only [World.size_alloc]; omega) | (refine Gr.size ?_; (repeat (first | exact Gr.refl _ | assumption | refine Gr.alloc ?_ _ | refine Gr.drewN ?_ _ | refine Gr.drew ?_ | refine Gr.trans ?_ (by assumption))); done)) _ | refine Gr.trans ?_ (by assumption))), gd1⟩
end RG
end Go.Proofs.YtddhaiaapomdjaaGreat
set_option linter.unusedVariables false
set_option linter.unusedSimpArgs false
namespace Go.Proofs.YtddhaiaapomdjaaGreat
set_option linter.unusedVariables false
set_option linter.unusedSimpArgs false
open Go Go.ChangeShapes Go.WideShapes Go.ChangeAt Go.RowKit Go.Deep

namespace RG
open Go.Sort in
theorem sw_kx {α : Type} [Inhabited α] {enc : α → Value} {w0 W : World} {g : Nat} {dk : Array α} (h : Go.Proofs.SW enc w0 g 0 dk W) : Kx (fun i => i = g) w0 W := by
  obtain ⟨m, os, rfl⟩ := h
  refine ⟨rfl, rfl, rfl, ?_, fun i hi hn => ?_⟩
  · unfold Go.Proofs.sortWorld Go.Sort.putRow
    simp [Go.Sort.grow, Go.Sort.mapBlock, Go.Sort.ahead]
  · have hne : g ≠ i := fun e => hn e.symm
    unfold Go.Proofs.sortWorld Go.Sort.putRow
    rw [Go.Sort.heap_grow_old _ _ (by simp [Go.Sort.mapBlock, Go.Sort.ahead]; omega)]
    simp [Go.Sort.mapBlock, Go.Sort.ahead, Array.getElem?_modify, hne]
theorem Pls.kx {w0 W : World} {B g : Nat} {X Y : Nat → Int} (h : Pls w0 B X Y) (k : Kx (fun i => i = g) w0 W) (hne : B ≠ g) : Pls W B X Y :=
  ⟨fun t ht => (k.cell h.lt hne _).trans (h.x t ht), fun t ht => (k.cell h.lt hne _).trans (h.y t ht), Nat.lt_of_lt_of_le h.lt k.size⟩
/-- a turn -/
abbrev tnE (t : Fin 4) : Value := iv t.val
abbrev tnC (X Y : Nat → Int) (a b : Fin 4) : Int := cmO X Y a.val b.val
/-- the order of the turns, wherever the sort has come to -/
structure CmB (w0 : World) (B g size : Nat) (X Y : Nat → Int) : Prop where
  use : ∀ (W : World) (dk : Array (Fin 4)), Go.Proofs.SW tnE w0 g 0 dk W → ∀ (x y : Fin 4) (n : Nat) (os : Array Obj), Calls Tryz.prog 71 #[.pointer (some ⟨B, 0, none⟩), tnE x, tnE y] (Go.Sort.grow (W.drewN n) os) fun e w' => e = .returned (iv (tnC X Y x y)) ∧ ∃ q os', w' = Go.Sort.grow ((Go.Sort.grow (W.drewN n) os).drewN q) os'
theorem cmB_of {w0 : World} {B g size : Nat} {X Y : Nat → Int} (h : Pls w0 B X Y) (hne : B ≠ g) : CmB w0 B g size X Y :=
  ⟨fun W dk hS x y n os => (compare_any B X Y x.val y.val _ (h.kx (sw_kx (hS.grown n os)) hne) x.isLt y.isLt).mono fun e w' ⟨h1, h2⟩ => ⟨h1, h2.grow⟩⟩
set_option maxHeartbeats 8000000 in
set_option maxRecDepth 100000 in
theorem insTurns_any (B g cap : Nat) (X Y : Nat → Int) (d : Array (Fin 4)) (w0 : World) (HC0 : CmB w0 B g d.size X Y) (R : Go.Proofs.Row1 tnE w0 g 0 d) (hn : d.size ≤ 4) :
    Calls Tryz.prog 149 #[.slice (some ⟨g, 0, none⟩) d.size cap, iv 0, iv d.size, .func (.func 71) #[.pointer (some ⟨B, 0, none⟩)] #[]] w0 fun e w' => e = .returned (.tuple #[]) ∧ Go.Proofs.SW tnE w0 g 0 (Go.Sort.insertionSort (ltOf (tnC X Y)) d 0 d.size) w' := by
  have HC := hide HC0
  have S0 := hide (Go.Proofs.SW.start R.hH)
  have mixed : Tryz.prog.follows .mixedOrders = true := by kernel_rfl
  clear HC0
  go_enter Tryz.func149, Tryz.ntmps149
  go_wp2
  go_loopw [8] (fun vi wr => ∃ (i : Nat) (dk : Array (Fin 4)), vi = iv i ∧ 0 < i ∧ i ≤ d.size + 1 ∧ dk.size = d.size ∧ Hid (Go.Proofs.SW tnE w0 g 0 dk wr) ∧ Hid (Go.Sort.insOuter (ltOf (tnC X Y)) 0 d.size i dk = Go.Sort.insOuter (ltOf (tnC X Y)) 0 d.size 1 d)) (fun vi _ => d.size + 1 - (intOf vi).toNat)
  case atStart => exact ⟨1, d, by go_num, by omega, by omega, rfl, S0, hide rfl⟩
  case round =>
    clear S0
    obtain ⟨i, dk, rfl, hi0, hi1, hsk, S1, HO⟩ := hrel
    by_cases hlt : i < d.size
    · have hlz : (i : Int) < (d.size : Int) := by omega
      go_wp2
      go_loopw [9] (fun vj wr2 => ∃ (j : Nat) (dj : Array (Fin 4)), vj = iv j ∧ j ≤ i ∧ dj.size = d.size ∧ Hid (Go.Proofs.SW tnE w0 g 0 dj wr2) ∧ Hid (Go.Sort.insInner (ltOf (tnC X Y)) 0 j dj = Go.Sort.insInner (ltOf (tnC X Y)) 0 i dk)) (fun vj _ => (intOf vj).toNat)
      case atStart => exact ⟨i, dk, rfl, Nat.le_refl _, hsk, S1, hide rfl⟩
      case round =>
        clear S1
        obtain ⟨j, dj, rfl, hji, hsj, SJ, HI⟩ := hrel
        have HOUT := hide (show (j ≤ 0 ∨ (ltOf (tnC X Y)) dj[j]! dj[j - 1]! = false) → Go.Sort.insOuter (ltOf (tnC X Y)) 0 d.size (i + 1) dj = Go.Sort.insOuter (ltOf (tnC X Y)) 0 d.size 1 d from fun hs => by
          rw [← HO.out, insOuter_go _ _ _ _ _ hlt, ← HI.out, insInner_stop _ _ _ _ hs])
        rcases j with _ | k
        · have HO2 := hide (HOUT.out (Or.inl (Nat.le_refl _)))
          have hz : decide (((0 : Nat) : Int) > 0) = false := by decide
          have hz' : ¬ (((0 : Nat) : Int) > 0) := by decide
          go_wp2_with fail
          go_big_region_o
          have S2 := hide (SJ.out.drew)
          clear SJ
          generalize wr.drew = w2 at S2 ⊢
          go_wp2
          go_roundw
          case rel => exact ⟨i + 1, dj, by go_num, by omega, by omega, hsj, S2, HO2⟩
          case measure => simp only [intOf]; omega
        · have hk1 : k + 1 < dj.size := by omega
          have hk0 : k < dj.size := by omega
          have hz : decide (((k : Int) + 1) > 0) = true := decide_eq_true (by omega)
          have hz' : (0 : Int) < (k : Int) + 1 := by omega
          have p1 : (0 : Int) ≤ (k : Int) + 1 := by omega
          have p2 : (k : Int) + 1 < (d.size : Int) := by omega
          have p3 : (0 : Int) ≤ (k : Int) := by omega
          have p4 : (k : Int) < (d.size : Int) := by omega
          have W1 : IntKind.i64.wrap ((k : Int) + 1) = (k : Int) + 1 := IntWalk.i64_in _ (by omega)
          have W2 : IntKind.i64.wrap ((k : Int)) = (k : Int) := IntWalk.i64_in _ (by omega)
          have T1 : ((k : Int) + 1).toNat = k + 1 := by omega
          have T2 : ((k : Int)).toNat = k := by omega
          have l1 := SJ.out.cl R (by omega) (k + 1) hk1
          have l2 := SJ.out.cl R (by omega) k hk0
          have hc := HC.out.use _ _ SJ.out dj[k + 1]! dj[k]!
          rw [Nat.zero_add] at l1 l2
          cases hv : (ltOf (tnC X Y)) dj[k + 1]! dj[k]! with
          | true =>
            have hv1 : tnC X Y dj[k + 1]! dj[k]! < 0 := of_decide_eq_true hv
            have hd1 : decide (tnC X Y dj[k + 1]! dj[k]! < 0) = true := decide_eq_true hv1
            have HI2 := hide (show Go.Sort.insInner (ltOf (tnC X Y)) 0 k (Go.Sort.swp dj (k + 1) k) = Go.Sort.insInner (ltOf (tnC X Y)) 0 i dk by rw [← HI.out, insInner_go (ltOf (tnC X Y)) 0 (k + 1) dj (Nat.succ_pos k) hv]; rfl)
            have zk : ((k + 1 : Nat) : Int) = (k : Int) + 1 := by omega
            rw [zk]
            clear zk hv
            go_wp2_with fail
            go_quiet_grown (exact Calls.grown_of (hc _ _))
            have S2 := hide (show Go.Proofs.SW tnE w0 g 0 dj (Go.Sort.grow (wr.drewN nq) osq) from SJ.out.grown nq osq)
            clear l1 l2 hc SJ hv1 hd1
            dsimp only
            generalize Go.Sort.grow (wr.drewN nq) osq = w2 at S2 ⊢
            clear nq osq
            have c1 := S2.out.c1 R (by omega) (k + 1) hk1
            have c2 := S2.out.c1 R (by omega) k hk0
            have f1 := S2.out.f1 R (by omega) (k + 1) hk1
            have f2 := S2.out.f1 R (by omega) k hk0
            obtain ⟨u, c3⟩ := S2.out.c2 R (by omega) (k + 1) k hk1 hk0 (tnE dj[k]!)
            have S3 := hide (S2.out.swapped R (k + 1) k hk1 hk0)
            rw [Nat.zero_add] at c1 c2 f1 f2
            rw [Nat.zero_add, Nat.zero_add] at c3 S3
            clear S2
            go_wp2_with fail
            go_big_region_o
            clear c1 c2 c3 f1 f2
            generalize ((w2.setCell ⟨g, k + 1, none⟩ (tnE dj[k]!)).setCell ⟨g, k, none⟩ (tnE dj[k + 1]!)).drew = w3 at S3 ⊢
            go_wp2
            go_roundw
            case rel => exact ⟨k, Go.Sort.swp dj (k + 1) k, by go_num, by omega, by rw [Go.Sort.size_swp]; exact hsj, S3, HI2⟩
            case measure => simp only [intOf]; omega
          | false =>
            have hv1 : ¬ tnC X Y dj[k + 1]! dj[k]! < 0 := of_decide_eq_false hv
            have hd1 : decide (tnC X Y dj[k + 1]! dj[k]! < 0) = false := decide_eq_false hv1
            have HO2 := hide (HOUT.out (Or.inr hv))
            have zk : ((k + 1 : Nat) : Int) = (k : Int) + 1 := by omega
            rw [zk]
            clear zk hv
            go_wp2_with fail
            go_quiet_grown (exact Calls.grown_of (hc _ _))
            have S2 := hide (show Go.Proofs.SW tnE w0 g 0 dj (Go.Sort.grow (wr.drewN nq) osq) from SJ.out.grown nq osq)
            clear l1 l2 hc SJ hv1 hd1
            dsimp only
            generalize Go.Sort.grow (wr.drewN nq) osq = w2 at S2 ⊢
            clear nq osq
            go_wp2
            go_roundw
            case rel => exact ⟨i + 1, dj, by go_num, by omega, by omega, hsj, S2, HO2⟩
            case measure => simp only [intOf]; omega
    · have hlz : ¬ ((i : Int) < (d.size : Int)) := by omega
      have HE := hide (show dk = Go.Sort.insertionSort (ltOf (tnC X Y)) d 0 d.size by
        unfold Go.Sort.insertionSort
        rw [← HO.out, insOuter_stop _ _ _ _ _ hlt])
      go_wp2
      go_end0
      exact ⟨rfl, by rw [← HE.out]; exact S1.out⟩
end RG
end Go.Proofs.YtddhaiaapomdjaaGreat
set_option linter.unusedVariables false
set_option linter.unusedSimpArgs false
namespace Go.Proofs.YtddhaiaapomdjaaGreat
set_option linter.unusedVariables false
set_option linter.unusedSimpArgs false
open Go Go.ChangeShapes Go.WideShapes Go.ChangeAt Go.RowKit Go.Deep

namespace RG
set_option maxHeartbeats 4000000 in
set_option maxRecDepth 100000 in
theorem pdqTurns_any (B g cap : Nat) (X Y : Nat → Int) (d : Array (Fin 4)) (lim : Int) (w0 : World) (HC0 : CmB w0 B g d.size X Y) (R : Go.Proofs.Row1 tnE w0 g 0 d) (hn : d.size ≤ 4) :
    Calls Tryz.prog 116 #[.slice (some ⟨g, 0, none⟩) d.size cap, iv 0, iv d.size, iv lim, .func (.func 71) #[.pointer (some ⟨B, 0, none⟩)] #[]] w0 fun e w' => e = .returned (.tuple #[]) ∧ Go.Proofs.SW tnE w0 g 0 (Go.Sort.insertionSort (ltOf (tnC X Y)) d 0 d.size) w' := by
  have HI := hide (insTurns_any B g cap X Y d w0 HC0 R hn)
  have h12 : (d.size : Int) ≤ 12 := by omega
  have W1 : IntKind.i64.wrap (d.size : Int) = d.size := IntWalk.i64_in _ (by omega)
  clear HC0 R
  go_enter Tryz.func116, Tryz.ntmps116
  go_wp2
  go_loopw [1, 2, 3, 10, 11] (fun a b c x y wr => a = iv 0 ∧ b = iv d.size ∧ c = iv lim ∧ x = .bool true ∧ y = .bool true ∧ Hid (wr = w0)) (fun _ _ _ _ _ _ => 0)
  case atStart => exact ⟨rfl, rfl, rfl, rfl, rfl, hide rfl⟩
  case round =>
    obtain ⟨rfl, rfl, rfl, rfl, rfl, HW⟩ := hrel
    obtain rfl := HW.out
    clear HW
    go_wp2_with (go_at_call 149; refine HI.out.mono ?_; rintro e w1 ⟨rfl, hw1⟩)
    (try simp only [Exit.inBlock, Exit.then])
    refine bodyPost_ret (results_none rfl _ _ _) rfl ?_
    exact ⟨rfl, hw1⟩
set_option maxHeartbeats 4000000 in
set_option maxRecDepth 100000 in
theorem sortFuncT_any (B g cap : Nat) (X Y : Nat → Int) (d : Array (Fin 4)) (w0 : World) (HC0 : CmB w0 B g d.size X Y) (R : Go.Proofs.Row1 tnE w0 g 0 d) (hn : d.size ≤ 4) :
    Calls Tryz.prog 70 #[.slice (some ⟨g, 0, none⟩) d.size cap, .func (.func 71) #[.pointer (some ⟨B, 0, none⟩)] #[]] w0 fun e w' => e = .returned (.tuple #[]) ∧ Go.Proofs.SW tnE w0 g 0 (Go.Sort.insertionSort (ltOf (tnC X Y)) d 0 d.size) w' := by
  have HP := hide (fun lim => pdqTurns_any B g cap X Y d lim w0 HC0 R hn)
  have HB := hide (show Calls Tryz.prog 117 #[.int .u64 (d.size : Int)] w0 fun e w' => e = .returned (.int .i64 (Go.Lib.bitLen d.size : Nat)) ∧ w' = w0 from by
    have h := Go.Proofs.Any.bits_Len (Go.Proofs.SlLaysF0.n15.bits (P := Tryz.prog) (ρ := Tryz.layFSortI_ren) { Tryz.layFSortI with }) (d.size : Int) w0 (by omega) (by omega)
    rwa [Int.toNat_natCast] at h)
  have wr : IntKind.u64.wrap (d.size : Int) = d.size := by simp [IntKind.wrap, IntKind.bits, IntKind.signed]; omega
  clear HC0 R
  go_enter Tryz.func70, Tryz.ntmps70
  go_wp2_with (first | (go_at_call 117; refine HB.out.mono ?_; rintro e w1 ⟨rfl, rfl⟩) | (go_at_call 116; refine (HP.out _).mono ?_; rintro e w1 ⟨rfl, hw1⟩))
  go_end0
  exact ⟨rfl, hw1⟩
theorem cmO_lt {X Y : Nat → Int} {a b : Nat} : cmO X Y a b < 0 ↔ Y a < Y b ∨ Y a = Y b ∧ (X a < X b ∨ X a = X b ∧ a < b) := by
  have h : ∀ x y : Int, Lib.compareInt x y = if x < y then -1 else if x > y then 1 else 0 := fun _ _ => rfl
  unfold cmO
  rw [h, h, h]
  rcases Int.lt_trichotomy (Y a) (Y b) with c | c | c
  · rw [if_pos c]
    simp [orV]
    omega
  · rw [if_neg (by omega), if_neg (by omega)]
    rcases Int.lt_trichotomy (X a) (X b) with e | e | e
    · rw [if_pos e]
      simp [orV]
      omega
    · rw [if_neg (by omega), if_neg (by omega)]
      rcases Nat.lt_trichotomy a b with i | i | i
      · rw [if_pos (by omega)]
        simp [orV]
        omega
      · rw [if_neg (by omega), if_neg (by omega)]
        simp [orV]
        omega
      · rw [if_neg (by omega), if_pos (by omega)]
        simp [orV]
        omega
    · rw [if_neg (by omega), if_pos (by omega)]
      simp [orV]
      omega
  · rw [if_neg (by omega), if_pos (by omega)]
    simp [orV]
    omega
theorem tnC_lt {X Y : Nat → Int} (a b : Fin 4) : ltOf (tnC X Y) a b = decide (Y a.val < Y b.val ∨ Y a.val = Y b.val ∧ (X a.val < X b.val ∨ X a.val = X b.val ∧ a.val < b.val)) := decide_eq_decide.2 cmO_lt
theorem swoT (X Y : Nat → Int) : Go.Sort.SWO (ltOf (tnC X Y)) where
  irrefl x := by rw [tnC_lt]; simp
  trans x y z h1 h2 := by rw [tnC_lt] at *; simp only [decide_eq_true_eq] at *; omega
  ntrans x y z h1 h2 := by rw [tnC_lt] at *; simp only [decide_eq_false_iff_not] at *; omega
theorem sortWorld_map (w : World) (g n : Nat) (d : Array (Fin 4)) (os : Array Obj) : Go.Proofs.sortWorld tnE w g 0 n d os = Go.Proofs.sortWorld (Value.int .i64) w g 0 n (d.map fun t => (t.val : Int)) os := by
  unfold Go.Proofs.sortWorld Go.Sort.putRow
  have e : Go.Sort.putCells tnE 0 d = Go.Sort.putCells (Value.int .i64) 0 (d.map fun t => (t.val : Int)) := by
    funext c
    unfold Go.Sort.putCells
    congr 1
    funext k x
    rw [Array.size_map]
    split
    · rename_i h
      have hk : k < d.size := by omega
      rw [Nat.sub_zero, getElem!_pos d k hk, getElem!_pos _ k (by rw [Array.size_map]; exact hk), Array.getElem_map]
    · rfl
  rw [e]
/-- the turns that have a place, sorted by their places -/
theorem sortT (D : Option Addr) (q base B : Nat) (X Y : Nat → Int) (ts : List (Fin 4)) (w : World) (h : OwnL w base 3 1 inL (.slice D ts.length q) (ts.map fun t => (t.val : Int))) (hP : Pls w B X Y) (hB : B < base) (h0 : ts ≠ []) (hn : ts.length ≤ 4) :
    Calls Tryz.prog 70 #[.slice D ts.length q, .func (.func 71) #[.pointer (some ⟨B, 0, none⟩)] #[]] w fun e w' =>
      e = .returned (.tuple #[]) ∧ ∃ us : List (Fin 4), us.Perm ts ∧ us.Pairwise (fun a b => ¬ cmO X Y b.val a.val < 0) ∧ OwnL w' base 3 1 inL (.slice D us.length q) (us.map fun t => (t.val : Int)) ∧ Kx (fun i => D.map Addr.block = some i) w w' := by
  rcases h.2 with ⟨h1, h2⟩ | ⟨g, cap, cur, hv, hb, hh, _⟩
  · rw [List.length_map] at h2
    exact absurd (List.eq_nil_of_length_eq_zero h2) h0
  · injection hv with e1 e2 e3
    subst e1 e3
    have hm : (ts.map fun t => (t.val : Int)).length = ts.length := List.length_map _
    have hne : B ≠ g := by omega
    have hoh : Go.Sort.Holds (Value.int .i64) w g 0 (ts.map fun t => (t.val : Int)).toArray := own_holds (by rw [hm]; exact h)
    have hH : Go.Sort.Holds tnE w g 0 ts.toArray := by
      intro j hj
      have hj' : j < ts.length := by simpa using hj
      obtain ⟨k1, k2⟩ := hoh j (by simpa using hj')
      refine ⟨?_, k2⟩
      rw [k1, getElem!_pos _ j (by simpa using hj'), getElem!_pos _ j hj]
      simp
    have hcon := sortFuncT_any B g q X Y ts.toArray w (cmB_of hP hne) ⟨fun _ => rfl, hH, (Array.getElem?_eq_some_iff.1 hh).1⟩ (by simpa using hn)
    rw [List.size_toArray] at hcon
    refine hcon.mono ?_
    rintro e w' ⟨rfl, hS⟩
    obtain ⟨hperm, hsort⟩ := Go.Sort.insertionSort_holds (lt := ltOf (tnC X Y)) (swoT X Y) ts.toArray 0 ts.length (Nat.zero_le _) (by simp)
    have hkx := sw_kx hS
    obtain ⟨n, os, hw⟩ := hS
    generalize Go.Sort.insertionSort (ltOf (tnC X Y)) ts.toArray 0 ts.length = d' at hperm hsort hw
    obtain ⟨p1, _, p3⟩ := hperm
    have p1' : d'.size = ts.length := by simpa using p1
    have pe : d'.toList.Perm ts := by
      have e1 : (d'.extract 0 ts.length) = d' := by rw [← p1']; simp
      have e2 : (ts.toArray.extract 0 ts.length) = ts.toArray := by simp
      rw [e1, e2] at p3
      simpa using p3
    refine ⟨rfl, d'.toList, pe, ?_, ?_, ?_⟩
    · rw [List.pairwise_iff_getElem]
      intro i j hi hj hij
      have := hsort i j (Nat.zero_le _) hij (by simp at hj; omega)
      rw [getElem!_pos d' i (by simpa using hi), getElem!_pos d' j (by simpa using hj)] at this
      have h2 := of_decide_eq_false this
      simpa using h2
    · have h3 := own_sorted (by rw [hm]; exact h) (d := d'.map fun t => (t.val : Int)) (n := d'.toList.length) (by simp [p1']) n os (by simp)
      rw [← sortWorld_map, ← hw] at h3
      simpa using h3
    · obtain ⟨k1, k2, k3, k4, k5⟩ := hkx
      exact ⟨k1, k2, k3, k4, fun i hi hn => k5 i hi (fun e => hn (by rw [e]; rfl))⟩
end RG
end Go.Proofs.YtddhaiaapomdjaaGreat
