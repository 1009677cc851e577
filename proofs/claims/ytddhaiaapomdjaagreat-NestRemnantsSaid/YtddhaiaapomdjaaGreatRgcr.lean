/-
  Regions: the error of lists, the area of a grid, whether two grids have the same cells, in the code.
-/
import Derived.Test.YtddhaiaapomdjaaGreatRgmr
set_option linter.unusedVariables false
set_option linter.unusedSimpArgs false
namespace Go.Proofs.YtddhaiaapomdjaaGreat
set_option linter.unusedVariables false
set_option linter.unusedSimpArgs false
open Go Go.ChangeShapes Go.WideShapes Go.ChangeAt Go.RowKit Go.Deep

namespace RG
theorem ceLL_big {L : List RS} {k : Nat} {x : RS} (h : L[k]? = some x) (q : 48 < x.l.length) : ceLL L = 4 := by
  unfold ceLL
  rw [if_pos]
  rw [List.any_eq_true]
  exact ⟨x, List.mem_of_getElem? h, by simpa using q⟩
theorem ceLL_small {L : List RS} (h : ∀ (j : Nat) (x : RS), j < L.length → L[j]? = some x → ¬ 48 < x.l.length) : L.any (fun x => decide (48 < x.l.length)) = false := by
  rw [List.any_eq_false]
  intro x hx
  obtain ⟨j, hj⟩ := List.mem_iff_getElem?.1 hx
  simpa using h j x (List.getElem?_eq_some_iff.1 hj).1 hj
theorem ceLL_bad {L : List RS} {k j : Nat} {x : RS} {r : Rc} (h0 : L.any (fun x => decide (48 < x.l.length)) = false) (h : L[k]? = some x) (hr : x.l[j]? = some r) (q : vrR r = false) : ceLL L = 1 := by
  unfold ceLL
  rw [if_neg (by simpa using h0), if_neg]
  intro a
  rw [List.all_eq_true] at a
  have b := a x (List.mem_of_getElem? h)
  rw [List.all_eq_true] at b
  rw [b r (List.mem_of_getElem? hr)] at q
  cases q
theorem ceLL_ok {L : List RS} (h0 : L.any (fun x => decide (48 < x.l.length)) = false) (h : ∀ (k : Nat) (x : RS), k < L.length → L[k]? = some x → x.l.all vrR = true) : ceLL L = 0 := by
  unfold ceLL
  rw [if_neg (by simpa using h0), if_pos]
  rw [List.all_eq_true]
  intro x hx
  obtain ⟨j, hj⟩ := List.mem_iff_getElem?.1 hx
  exact h j x (List.getElem?_eq_some_iff.1 hj).1 hj
theorem all_of {p : Rc → Bool} {l : List Rc} (h : ∀ (j : Nat) (s : Rc), j < l.length → l[j]? = some s → p s = true) : l.all p = true := by
  rw [List.all_eq_true]
  intro r hr
  obtain ⟨j, hj⟩ := List.mem_iff_getElem?.1 hr
  exact h j r (List.getElem?_eq_some_iff.1 hj).1 hj
theorem more {α : Type} {Q : α → Prop} {l : List α} {k : Nat} {r : α} (h : ∀ (j : Nat) (s : α), j < k → l[j]? = some s → Q s) (hs : l[k]? = some r) (q : Q r) : ∀ (j : Nat) (s : α), j < k + 1 → l[j]? = some s → Q s := by
  intro j x hj hx
  rcases Nat.lt_or_ge j k with c | c
  · exact h j x c hx
  · obtain rfl : j = k := by omega
    rw [hs] at hx
    obtain rfl := Option.some.inj hx
    exact q
theorem box4 {w w' : World} {a b c d : Value} {t : TypeId} (g : Gr (w.alloc (.cells #[a, b, c, d] t)) w') : w.heap.size < w'.heap.size ∧ w'.cell? ⟨w.heap.size, 0, none⟩ = some a ∧ w'.cell? ⟨w.heap.size, 1, none⟩ = some b ∧ w'.cell? ⟨w.heap.size, 2, none⟩ = some c ∧ w'.cell? ⟨w.heap.size, 3, none⟩ = some d := by
  have hl : w.heap.size < (w.alloc (.cells #[a, b, c, d] t)).heap.size := by simp
  exact ⟨Nat.lt_of_lt_of_le hl g.size, (g.cell _ _ hl).trans (by simp [go_sem]), (g.cell _ _ hl).trans (by simp [go_sem]), (g.cell _ _ hl).trans (by simp [go_sem]), (g.cell _ _ hl).trans (by simp [go_sem])⟩
theorem box3 {w w' : World} {a b c : Value} {t : TypeId} (g : Gr (w.alloc (.cells #[a, b, c] t)) w') : w.heap.size < w'.heap.size ∧ w'.cell? ⟨w.heap.size, 0, none⟩ = some a ∧ w'.cell? ⟨w.heap.size, 1, none⟩ = some b ∧ w'.cell? ⟨w.heap.size, 2, none⟩ = some c := by
  have hl : w.heap.size < (w.alloc (.cells #[a, b, c] t)).heap.size := by simp
  exact ⟨Nat.lt_of_lt_of_le hl g.size, (g.cell _ _ hl).trans (by simp [go_sem]), (g.cell _ _ hl).trans (by simp [go_sem]), (g.cell _ _ hl).trans (by simp [go_sem])⟩
set_option maxHeartbeats 4000000 in
set_option maxRecDepth 100000 in
theorem checkRects_any (A : Option Addr) (c : Nat) (L : List RS) (w : World) (hL : SlRR w A c L) :
    Calls Tryz.prog 52 #[.slice A L.length c] w fun e w' => e = .returned (iv (ceLL L)) ∧ Gr w w' := by
  have n1 := hL.cap
  have n2 := hL.capB
  have HL := hide hL
  clear hL
  go_enter Tryz.func52, Tryz.ntmps52
  go_wp2
  go_loopw [11] (fun i wr => ∃ k : Nat, k ≤ L.length ∧ i = iv k ∧ Gr w wr ∧ Hid (∀ (j : Nat) (x : RS), j < k → L[j]? = some x → ¬ 48 < x.l.length)) (fun i _ => L.length - (intOf i).toNat)
  case atStart => exact ⟨0, by omega, rfl, Gr.refl _, hide (fun j r h => absurd h (Nat.not_lt_zero j))⟩
  case round =>
    obtain ⟨k, hk, rfl, g, HS⟩ := hrel
    by_cases hkl : k < L.length
    · obtain ⟨x, hx⟩ : ∃ x, L[k]? = some x := ⟨_, List.getElem?_eq_getElem hkl⟩
      obtain ⟨b, o, rfl, x0, hxl⟩ := (HL.out.gr g).at_ hx
      have HX := hide hx
      have hk0 : (0 : Int) ≤ (k : Int) := by omega
      have hk1 : (k : Int) < (L.length : Int) := by omega
      clear hx hxl
      by_cases h48 : 48 < x.l.length
      · have HE := hide (ceLL_big HX.out h48)
        have h48' : (48 : Int) < (x.l.length : Int) := by omega
        clear h48
        go_wp2
        go_ret
        exact ⟨ret_iv HE.out.symm, g⟩
      · have HS2 := hide (more (Q := fun x => ¬ 48 < x.l.length) HS.out HX.out h48)
        have h48' : ¬ (48 : Int) < (x.l.length : Int) := by omega
        clear h48
        go_wp2
        go_roundw
        case rel => exact ⟨k + 1, by omega, by go_num, g, HS2⟩
        case measure => simp only [intOf]; omega
    · obtain rfl : k = L.length := by omega
      have HB := hide (ceLL_small HS.out)
      clear HS
      go_wp2
      obtain ⟨w0, rfl⟩ : ∃ w0 : World, w0 = wr := ⟨_, rfl⟩
      go_loopw [21] (fun i wr => ∃ k : Nat, k ≤ L.length ∧ i = iv k ∧ Gr w wr ∧ Hid (∀ (j : Nat) (x : RS), j < k → L[j]? = some x → x.l.all vrR = true)) (fun i _ => L.length - (intOf i).toNat)
      case atStart => exact ⟨0, by omega, rfl, g, hide (fun j r h => absurd h (Nat.not_lt_zero j))⟩
      case round =>
        clear g
        obtain ⟨k, hk, rfl, g, HS⟩ := hrel
        by_cases hkl : k < L.length
        · obtain ⟨x, hx⟩ : ∃ x, L[k]? = some x := ⟨_, List.getElem?_eq_getElem hkl⟩
          obtain ⟨b, o, rfl, x0, hxl⟩ := (HL.out.gr g).at_ hx
          have HX := hide hx
          have HXL := hide hxl
          have hk0 : (0 : Int) ≤ (k : Int) := by omega
          have hk1 : (k : Int) < (L.length : Int) := by omega
          have n3 := hxl.cap
          have n4 := hxl.capB
          clear hx hxl
          go_wp2
          obtain ⟨wo, rfl⟩ : ∃ wo : World, wo = wr := ⟨_, rfl⟩
          go_loopw [27] (fun i wr => ∃ j : Nat, j ≤ x.l.length ∧ i = iv j ∧ Gr wo wr ∧ Hid (∀ (i : Nat) (r : Rc), i < j → x.l[i]? = some r → vrR r = true)) (fun i _ => x.l.length - (intOf i).toNat)
          case atStart => exact ⟨0, by omega, rfl, Gr.refl _, hide (fun j r h => absurd h (Nat.not_lt_zero j))⟩
          case round =>
            obtain ⟨j, hj, rfl, g2, HT⟩ := hrel
            by_cases hjl : j < x.l.length
            · obtain ⟨r, hr⟩ : ∃ r, x.l[j]? = some r := ⟨_, List.getElem?_eq_getElem hjl⟩
              obtain ⟨b2, o2, hA, y0, y1, y2, y3⟩ := (HXL.out.gr g2).at_ hr
              have HA := hide hA
              have HR := hide hr
              have hj0 : (0 : Int) ≤ (j : Int) := by omega
              have hj1 : (j : Int) < (x.l.length : Int) := by omega
              have HI := hide (fun w' => ValidRect_any r.x r.y r.w r.h w')
              rw [show vrB r.x r.y r.w r.h = vrR r from rfl] at HI
              clear hr
              rw [hA]
              clear hA
              cases hv : vrR r with
              | true =>
                have HT2 := hide (all_more HT.out HR.out hv)
                rw [hv] at HI
                clear hv
                go_wp2_with (first | (go_at_call 90; refine (HI.out _).mono ?_; rintro e w1 ⟨rfl, g1⟩; obtain ⟨X1, Y1, c1, f1⟩ := g1.use))
                go_roundw
                case rel => exact ⟨j + 1, by omega, by go_num, (by with_reducible repeat (first | exact Gr.refl _ | assumption | refine Gr.alloc ?_ _ | refine Gr.drewN ?_ _ | refine Gr.drew ?_ | refine Gr.setCell ?_ (by first | (dsimp only; omega) | (simp only [World.size_alloc]; omega) | (refine Gr.size ?_; (repeat (first | exact Gr.refl _ | assumption | refine Gr.alloc ?_ _ | refine Gr.drewN ?_ _ | refine Gr.drew ?_ | refine Gr.trans ?_ (by assumption))); done)) _ | refine Gr.trans ?_ (by assumption))), HT2⟩
                case measure => simp only [intOf]; omega
              | false =>
                have HE := hide (ceLL_bad HB.out HX.out HR.out hv)
                rw [hv] at HI
                clear hv
                go_wp2_with (first | (go_at_call 90; refine (HI.out _).mono ?_; rintro e w1 ⟨rfl, g1⟩; obtain ⟨X1, Y1, c1, f1⟩ := g1.use))
                go_ret
                exact ⟨ret_iv HE.out.symm, (by with_reducible repeat (first | exact Gr.refl _ | assumption | refine Gr.alloc ?_ _ | refine Gr.drewN ?_ _ | refine Gr.drew ?_ | refine Gr.setCell ?_ (by first | (dsimp only; omega) | (simp only [World.size_alloc]; omega) | (refine Gr.size ?_; (repeat (first | exact Gr.refl _ | assumption | refine Gr.alloc ?_ _ | refine Gr.drewN ?_ _ | refine Gr.drew ?_ | refine Gr.trans ?_ (by assumption))); done)) _ | refine Gr.trans ?_ (by assumption)))⟩
            · obtain rfl : j = x.l.length := by omega
              have HS2 := hide (more (Q := fun x => x.l.all vrR = true) HS.out HX.out (all_of HT.out))
              go_wp2
              go_roundw
              case rel => exact ⟨k + 1, by omega, by go_num, (by with_reducible repeat (first | exact Gr.refl _ | assumption | refine Gr.alloc ?_ _ | refine Gr.drewN ?_ _ | refine Gr.drew ?_ | refine Gr.setCell ?_ (by first | (dsimp only; omega) | (simp only [World.size_alloc]; omega) | (refine Gr.size ?_; (repeat (first | exact Gr.refl _ | assumption | refine Gr.alloc ?_ _ | refine Gr.drewN ?_ _ | refine Gr.drew ?_ | refine Gr.trans ?_ (by assumption))); done)) _ | refine Gr.trans ?_ (by assumption))), HS2⟩
              case measure => simp only [intOf]; omega
        · obtain rfl : k = L.length := by omega
          have HE := hide (ceLL_ok HB.out HS.out)
          go_wp2
          go_ret
          exact ⟨ret_iv HE.out.symm, g⟩
theorem sumY_succ (X Y : List Int) (c : Nat → Nat → Bool) (i : Nat) (s : Int) (j : Nat) {x x' y y' : Int} (h : c i j = true) (h1 : X[i]? = some x) (h2 : X[i + 1]? = some x') (h3 : Y[j]? = some y) (h4 : Y[j + 1]? = some y') :
    sumY X Y c i s (j + 1) = wrap64 (sumY X Y c i s j + wrap64 (wrap64 (x' - x) * wrap64 (y' - y))) := by
  show (if c i j then _ else _) = _
  rw [if_pos h, h1, h2, h3, h4]
  rfl
theorem sumY_same (X Y : List Int) (c : Nat → Nat → Bool) (i : Nat) (s : Int) (j : Nat) (h : c i j = false) : sumY X Y c i s (j + 1) = sumY X Y c i s j := by
  show (if c i j then _ else _) = _
  rw [if_neg (by simpa using h)]
set_option maxHeartbeats 4000000 in
set_option maxRecDepth 100000 in
theorem area_any (X Y : List Int) (A B F : Option Addr) (a b f lo hi : Nat) (rb : Nat → Nat) (c : Nat → Nat → Bool) (w : World) (hG : GrM w lo hi X Y A B F a b f rb c) :
    Calls Tryz.prog 55 #[grv X Y A B F a b f] w fun e w' => e = .returned (iv (sumX X Y c (X.length - 1))) ∧ Gr w w' := by
  have n1 := hG.n1
  have n2 := hG.n2
  have k1 := hG.sx.cap
  have k2 := hG.sx.capB
  have k3 := hG.sy.cap
  have k4 := hG.sy.capB
  have k5 := hG.cf
  have k6 := hG.cfB
  have e1 : IntKind.i64.wrap ((X.length : Int) - 1) = (X.length : Int) - 1 := IntWalk.i64_in _ (by omega)
  have e2 : IntKind.i64.wrap ((Y.length : Int) - 1) = (Y.length : Int) - 1 := IntWalk.i64_in _ (by omega)
  have HG := hide hG
  clear hG
  go_enter Tryz.func55, Tryz.ntmps55
  go_wp2
  have g0 : Gr w (w.alloc (.cells #[.slice A X.length a, .slice B Y.length b, .slice F X.length f] 99)) := Gr.alloc (Gr.refl _) _
  have HB := hide (fun (w' : World) (g : Gr (w.alloc (.cells #[.slice A X.length a, .slice B Y.length b, .slice F X.length f] 99)) w') => box3 g)
  generalize w.alloc (.cells #[.slice A X.length a, .slice B Y.length b, .slice F X.length f] 99) = w0 at *
  obtain ⟨hB0, p0, p1, p2⟩ := HB.out _ (Gr.refl _)
  go_wp2
  go_loopw [3, 10] (fun s i wr => ∃ k : Nat, (k + 1 ≤ X.length ∨ k = 0) ∧ i = iv k ∧ s = iv (sumX X Y c k) ∧ Gr w0 wr) (fun _ i _ => X.length - (intOf i).toNat)
  case atStart => exact ⟨0, by omega, rfl, rfl, Gr.refl _⟩
  case round =>
    clear p0 p1 p2 hB0
    obtain ⟨k, hk, rfl, rfl, g⟩ := hrel
    obtain ⟨hB, p0, p1, p2⟩ := HB.out _ g
    by_cases hkl : k + 1 < X.length
    · obtain ⟨x, hx⟩ : ∃ x, X[k]? = some x := ⟨_, List.getElem?_eq_getElem (by omega)⟩
      obtain ⟨x', hx'⟩ : ∃ x, X[k + 1]? = some x := ⟨_, List.getElem?_eq_getElem (by omega)⟩
      have HX := hide hx
      have HX' := hide hx'
      have hk0 : (0 : Int) ≤ (k : Int) := by omega
      have hk1 : (k : Int) < (X.length : Int) - 1 := by omega
      clear hx hx'
      go_wp2
      obtain ⟨wo, rfl⟩ : ∃ wo : World, wo = wr := ⟨_, rfl⟩
      obtain ⟨S, hS⟩ : ∃ S, sumX X Y c k = S := ⟨_, rfl⟩
      have HS := hide hS
      rw [hS]
      clear hS p0 p1 p2 hB
      go_loopw [3, 17] (fun s i wr => ∃ j : Nat, (j + 1 ≤ Y.length ∨ j = 0) ∧ i = iv j ∧ s = iv (sumY X Y c k S j) ∧ Gr wo wr) (fun _ i _ => Y.length - (intOf i).toNat)
      case atStart => exact ⟨0, by omega, rfl, rfl, Gr.refl _⟩
      case round =>
        obtain ⟨j, hj, rfl, rfl, g2⟩ := hrel
        obtain ⟨hB, p0, p1, p2⟩ := HB.out _ (g.trans g2)
        have hGr := HG.out.gr ((g0.trans g).trans g2)
        by_cases hjl : j + 1 < Y.length
        · obtain ⟨y, hy⟩ : ∃ x, Y[j]? = some x := ⟨_, List.getElem?_eq_getElem (by omega)⟩
          obtain ⟨y', hy'⟩ : ∃ x, Y[j + 1]? = some x := ⟨_, List.getElem?_eq_getElem (by omega)⟩
          obtain ⟨bX, oX, hA, cx⟩ := hGr.sx.rd.in_ HX.out
          obtain ⟨bX', oX', hA', cx'⟩ := hGr.sx.rd.in_ HX'.out
          obtain ⟨bY, oY, hBB, cy⟩ := hGr.sy.rd.in_ hy
          obtain ⟨bY', oY', hBB', cy'⟩ := hGr.sy.rd.in_ hy'
          obtain ⟨bF, hF, cf⟩ := hGr.rows k (by omega)
          obtain ⟨cc, -⟩ := hGr.cell k j (by omega) (by omega)
          subst hA hBB hF
          cases hA'
          cases hBB'
          have hj0 : (0 : Int) ≤ (j : Int) := by omega
          have hj1 : (j : Int) < (Y.length : Int) - 1 := by omega
          have hj2 : (j : Int) < (Y.length : Int) := by omega
          have hj3 : (j : Int) + 1 < (Y.length : Int) := by omega
          have hk2 : (k : Int) < (X.length : Int) := by omega
          have hk3 : (k : Int) + 1 < (X.length : Int) := by omega
          cases hc : c k j with
          | false =>
            have HE := hide (sumY_same X Y c k S j hc)
            rw [hc] at cc
            clear hc hGr hy hy'
            go_wp2
            go_roundw
            case rel => exact ⟨j + 1, by omega, by go_num, by rw [HE.out], (by with_reducible repeat (first | exact Gr.refl _ | assumption | refine Gr.alloc ?_ _ | refine Gr.drewN ?_ _ | refine Gr.drew ?_ | refine Gr.setCell ?_ (by first | (dsimp only; omega) | (simp only [World.size_alloc]; omega) | (refine Gr.size ?_; (repeat (first | exact Gr.refl _ | assumption | refine Gr.alloc ?_ _ | refine Gr.drewN ?_ _ | refine Gr.drew ?_ | refine Gr.trans ?_ (by assumption))); done)) _ | refine Gr.trans ?_ (by assumption)))⟩
            case measure => simp only [intOf]; omega
          | true =>
            have HE := hide (sumY_succ X Y c k S j hc HX.out HX'.out hy hy')
            rw [hc] at cc
            clear hc hGr hy hy'
            go_wp2
            have w1 : IntKind.i64.wrap ((k : Int) + 1) = (k : Int) + 1 := IntWalk.i64_in _ (by omega)
            have w2 : IntKind.i64.wrap ((j : Int) + 1) = (j : Int) + 1 := IntWalk.i64_in _ (by omega)
            have w3 : ((k : Int) + 1).toNat = k + 1 := by omega
            have w4 : ((j : Int) + 1).toNat = j + 1 := by omega
            have w5 : (0 : Int) ≤ (k : Int) + 1 := by omega
            have w6 : (0 : Int) ≤ (j : Int) + 1 := by omega
            have GC := @GrW.cell
            refine wp_region_grw _ (by kernel_rfl) (by kernel_rfl) (Gr.refl _) ?_
            repeat (go_big_quiet_step ((first | fail)))
            refine wpQuiet_nil ?_
            intro wq hwq
            obtain ⟨gq, hwq'⟩ := hwq
            subst hwq'
            clear GC
            have gq1 := gq.gr
            generalize gq.w = wq at gq1 ⊢
            obtain ⟨Xq, Yq, cq, fq⟩ := gq1.use
            have sq := gq1.size
            (try simp only [World.size_alloc, World.size_setCell, World.heap_drewN] at sq)
            clear w1 w2 w3 w4
            go_wp2
            go_roundw
            case rel => exact ⟨j + 1, by omega, by go_num, by rw [HE.out], (by with_reducible repeat (first | exact Gr.refl _ | assumption | refine Gr.alloc ?_ _ | refine Gr.drewN ?_ _ | refine Gr.drew ?_ | refine Gr.setCell ?_ (by first | (dsimp only; omega) | (simp only [World.size_alloc]; omega) | (refine Gr.size ?_; (repeat (first | exact Gr.refl _ | assumption | refine Gr.alloc ?_ _ | refine Gr.drewN ?_ _ | refine Gr.drew ?_ | refine Gr.trans ?_ (by assumption))); done)) _ | refine Gr.trans ?_ (by assumption)))⟩
            case measure => simp only [intOf]; omega
        · have hjn : ¬ (j : Int) < (Y.length : Int) - 1 := by omega
          have HE := hide (show sumX X Y c (k + 1) = sumY X Y c k S j by
            show sumY X Y c k (sumX X Y c k) (Y.length - 1) = _
            rw [HS.out, show Y.length - 1 = j by omega])
          clear hGr
          go_wp2
          go_roundw
          case rel => exact ⟨k + 1, by omega, by go_num, by rw [HE.out], (by with_reducible repeat (first | exact Gr.refl _ | assumption | refine Gr.alloc ?_ _ | refine Gr.drewN ?_ _ | refine Gr.drew ?_ | refine Gr.setCell ?_ (by first | (dsimp only; omega) | (simp only [World.size_alloc]; omega) | (refine Gr.size ?_; (repeat (first | exact Gr.refl _ | assumption | refine Gr.alloc ?_ _ | refine Gr.drewN ?_ _ | refine Gr.drew ?_ | refine Gr.trans ?_ (by assumption))); done)) _ | refine Gr.trans ?_ (by assumption)))⟩
          case measure => simp only [intOf]; omega
    · have hkn : ¬ (k : Int) < (X.length : Int) - 1 := by omega
      have HE := hide (show X.length - 1 = k by omega)
      go_wp2
      go_ret
      exact ⟨ret_iv (by rw [HE.out]), (by with_reducible repeat (first | exact Gr.refl _ | assumption | refine Gr.alloc ?_ _ | refine Gr.drewN ?_ _ | refine Gr.drew ?_ | refine Gr.setCell ?_ (by first | (dsimp only; omega) | (simp only [World.size_alloc]; omega) | (refine Gr.size ?_; (repeat (first | exact Gr.refl _ | assumption | refine Gr.alloc ?_ _ | refine Gr.drewN ?_ _ | refine Gr.drew ?_ | refine Gr.trans ?_ (by assumption))); done)) _ | refine Gr.trans ?_ (by assumption)))⟩
end RG
end Go.Proofs.YtddhaiaapomdjaaGreat
