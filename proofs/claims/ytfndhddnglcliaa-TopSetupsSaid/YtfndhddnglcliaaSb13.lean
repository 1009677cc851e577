/-
  Changes in order, on both sides.
-/
import Derived.Test.YtfndhddnglcliaaSb12
import Derived.Test.YtfndhddnglcliaaRep
set_option linter.unusedVariables false
set_option linter.unusedSimpArgs false
namespace Go.Proofs.Ytfndhddnglcliaa
set_option linter.unusedVariables false
set_option linter.unusedSimpArgs false
open Go Go.ChangeShapes Go.WideShapes Go.ChangeAt Go.RowKit Go.Deep

def okC (n : Nat) (s : Int) (c : Chg) : Bool := wiB c.st 0 ((n : Int) - 1) && (wiB c.sn 0 (s - 1) && wiB c.pr 0 8)
/-- d stands ahead of c, against the order -/
def bdP (d c : Chg) : Bool := decide (c.st < d.st) || (decide (d.st = c.st) && decide (d.sn = c.sn))
theorem bdP_no {d c : Chg} : bdP d c = false ↔ d.st ≤ c.st ∧ ¬ (d.st = c.st ∧ d.sn = c.sn) := by
  unfold bdP
  simp only [Bool.or_eq_false_iff, Bool.and_eq_false_iff, decide_eq_false_iff_not]
  omega
theorem bdP_yes {d c : Chg} : bdP d c = true ↔ c.st < d.st ∨ (d.st = c.st ∧ d.sn = c.sn) := by
  unfold bdP
  simp only [Bool.or_eq_true, Bool.and_eq_true, decide_eq_true_eq]
def Ord (n : Nat) (s : Int) (l : List Chg) (k : Nat) : Prop := ∀ i c, i < k → l[i]? = some c → okC n s c = true ∧ ∀ j d, j < i → l[j]? = some d → bdP d c = false
noncomputable def orB (n : Nat) (s : Int) (l : List Chg) : Bool := @decide (Ord n s l l.length) (Classical.propDecidable _)
theorem orB_iff {n : Nat} {s : Int} {l : List Chg} : orB n s l = true ↔ Ord n s l l.length := by
  unfold orB
  exact @decide_eq_true_iff _ (Classical.propDecidable _)
theorem orB_stop {n : Nat} {s : Int} {l : List Chg} {i : Nat} {c : Chg} (h : l[i]? = some c) (k : okC n s c = false) : orB n s l = false := by
  rw [← Bool.not_eq_true, orB_iff]
  intro H
  have := (H i c (List.getElem?_eq_some_iff.1 h).1 h).1
  rw [k] at this
  cases this
theorem orB_pair {n : Nat} {s : Int} {l : List Chg} {i j : Nat} {c d : Chg} (h : l[i]? = some c) (hd : l[j]? = some d) (hj : j < i) (k : bdP d c = true) : orB n s l = false := by
  rw [← Bool.not_eq_true, orB_iff]
  intro H
  have := (H i c (List.getElem?_eq_some_iff.1 h).1 h).2 j d hj hd
  rw [k] at this
  cases this
theorem ord_step {n : Nat} {s : Int} {l : List Chg} {k : Nat} {x : Chg} (H : Ord n s l k) (hx : l[k]? = some x) (ho : okC n s x = true) (hb : ∀ j d, j < k → l[j]? = some d → bdP d x = false) : Ord n s l (k + 1) := by
  intro i c hi hc
  rcases Nat.lt_or_ge i k with h | h
  · exact H i c h hc
  · obtain rfl : i = k := by omega
    rw [hx] at hc
    obtain rfl := Option.some.inj hc
    exact ⟨ho, hb⟩
theorem ord_le {n : Nat} {s : Int} {l : List Chg} {k : Nat} (H : Ord n s l k) {i j : Nat} {c d : Chg} (hi : i < k) (hj : j ≤ i) (hc : l[i]? = some c) (hd : l[j]? = some d) : d.st ≤ c.st := by
  rcases Nat.lt_or_ge j i with h | h
  · exact (bdP_no.1 ((H i c hi hc).2 j d h hd)).1
  · obtain rfl : i = j := by omega
    rw [hc] at hd
    obtain rfl := Option.some.inj hd
    exact Int.le_refl _
theorem run_end {n : Nat} {s : Int} {l : List Chg} {k q : Nat} {x : Chg} (hkl : k ≤ l.length) (H : Ord n s l k) (hp : ∀ j d, q ≤ j → j < k → l[j]? = some d → bdP d x = false)
    (hy : ∀ y, 0 < k → l[k-1]? = some y → y.st ≤ x.st) (hq : q ≤ k) (hd : ∀ d, 0 < q → l[q-1]? = some d → ¬ d.st = x.st) : ∀ j d, j < k → l[j]? = some d → bdP d x = false := by
  intro j d hj hjd
  rcases Nat.lt_or_ge j q with h | h
  · have hk := (List.getElem?_eq_some_iff.1 hjd).1
    obtain ⟨e, he⟩ : ∃ e, l[q-1]? = some e := ⟨_, List.getElem?_eq_getElem (by omega)⟩
    have h1 := ord_le H (show q - 1 < k by omega) (show j ≤ q - 1 by omega) he hjd
    have h2 := hd e (by omega) he
    have h3 : e.st ≤ x.st := by
      by_cases hqk : q = k
      · subst hqk
        exact hy e (by omega) he
      · obtain ⟨y, hy'⟩ : ∃ y, l[k-1]? = some y := ⟨_, List.getElem?_eq_getElem (by omega)⟩
        have := ord_le H (show k - 1 < k by omega) (show q - 1 ≤ k - 1 by omega) hy' he
        have := hy y (by omega) hy'
        omega
    rw [bdP_no]
    omega
  · exact hp j d h hj hjd
theorem run_more {l : List Chg} {k r : Nat} {x d : Chg} (H : ∀ jj d, r + 1 ≤ jj → jj < k → l[jj]? = some d → bdP d x = false) (hd : l[r]? = some d) (h : bdP d x = false) : ∀ jj d, r ≤ jj → jj < k → l[jj]? = some d → bdP d x = false := by
  intro jj e hj hk he
  rcases Nat.lt_or_ge r jj with h1 | h1
  · exact H jj e h1 hk he
  · obtain rfl : jj = r := by omega
    rw [hd] at he
    obtain rfl := Option.some.inj he
    exact h
theorem okC_1 {n : Nat} {s : Int} {c : Chg} (h : wiB c.st 0 ((n : Int) - 1) = false) : okC n s c = false := by unfold okC; rw [h]; rfl
theorem okC_2 {n : Nat} {s : Int} {c : Chg} (h : wiB c.sn 0 (s - 1) = false) : okC n s c = false := by unfold okC; rw [h]; simp
theorem okC_3 {n : Nat} {s : Int} {c : Chg} (h : wiB c.pr 0 8 = false) : okC n s c = false := by unfold okC; rw [h]; simp
theorem okC_y {n : Nat} {s : Int} {c : Chg} (h1 : wiB c.st 0 ((n : Int) - 1) = true) (h2 : wiB c.sn 0 (s - 1) = true) (h3 : wiB c.pr 0 8 = true) : okC n s c = true := by unfold okC; rw [h1, h2, h3]; rfl
set_option maxRecDepth 100000 in
set_option maxHeartbeats 4000000 in
theorem inOrder_any (A : Option Addr) (c : Nat) (l : List Chg) (n : Nat) (s : Int) (w : World) (hl : SlC w A c l) (hn : n ≤ 1000) (hs : 1 ≤ s ∧ s ≤ 3) :
    Calls Try.prog 20 #[.slice A l.length c, iv n, iv s] w fun e w' => e = .returned (.bool (orB n s l)) ∧ Gr w w' := by
  have n1 := hl.cap
  have n2 := hl.capB
  have HL := hide hl
  have W1 : IntKind.i64.wrap ((n : Int) - 1) = (n : Int) - 1 := IntWalk.i64_in _ (by omega)
  have W2 : IntKind.i64.wrap (s - 1) = s - 1 := IntWalk.i64_in _ (by omega)
  clear hl
  go_enter Try.func20, Try.ntmps20
  go_wp2
  go_loopw [12] (fun i wr => ∃ k : Nat, k ≤ l.length ∧ i = iv k ∧ Gr w wr ∧ Hid (Ord n s l k)) (fun i _ => l.length - (intOf i).toNat)
  case atStart => exact ⟨0, by omega, rfl, Gr.refl _, hide (fun i x hi => absurd hi (Nat.not_lt_zero i))⟩
  case round =>
    obtain ⟨k, hk, rfl, g, HS⟩ := hrel
    by_cases hkl : k < l.length
    · obtain ⟨x, hx⟩ : ∃ z, l[k]? = some z := ⟨_, List.getElem?_eq_getElem hkl⟩
      obtain ⟨b, o, rfl, x0, x1, x2⟩ := (HL.out.gr g).at_ hx
      have hb : b < wr.heap.size := cell_lt (by rw [x0]; rfl)
      have HX := hide hx
      have hk0 : (0 : Int) ≤ (k : Int) := by omega
      have hk1 : (k : Int) < (l.length : Int) := by omega
      clear hx
      cases e1 : wiB x.st 0 ((n : Int) - 1) with
      | false =>
        have HE := hide (orB_stop (n := n) (s := s) HX.out (okC_1 e1))
        go_wp2_with (first | (go_at_call 34; refine (swithin_any _ _ _ _).mono ?_; rintro e w1 ⟨rfl, rfl⟩))
        go_ret
        exact ⟨ret_bool HE.out.symm, (by repeat (first | with_reducible exact Gr.refl _ | with_reducible assumption | with_reducible refine Gr.alloc ?_ _ | with_reducible refine Gr.drewN ?_ _ | with_reducible refine Gr.drew ?_ | with_reducible refine Gr.setCell ?_ (by first | (dsimp only; omega) | (simp only [World.size_alloc]; omega) | (with_reducible refine Gr.size ?_; (repeat (first | with_reducible exact Gr.refl _ | with_reducible assumption | with_reducible refine Gr.alloc ?_ _ | with_reducible refine Gr.drewN ?_ _ | with_reducible refine Gr.drew ?_ | with_reducible refine Gr.trans ?_ (by with_reducible assumption))); done)) _ | with_reducible refine Gr.trans ?_ (by with_reducible assumption)))⟩
      | true =>
        cases e2 : wiB x.sn 0 (s - 1) with
        | false =>
          have HE := hide (orB_stop (n := n) (s := s) HX.out (okC_2 e2))
          go_wp2_with (first | (go_at_call 34; refine (swithin_any _ _ _ _).mono ?_; rintro e w1 ⟨rfl, rfl⟩))
          go_ret
          exact ⟨ret_bool HE.out.symm, (by repeat (first | with_reducible exact Gr.refl _ | with_reducible assumption | with_reducible refine Gr.alloc ?_ _ | with_reducible refine Gr.drewN ?_ _ | with_reducible refine Gr.drew ?_ | with_reducible refine Gr.setCell ?_ (by first | (dsimp only; omega) | (simp only [World.size_alloc]; omega) | (with_reducible refine Gr.size ?_; (repeat (first | with_reducible exact Gr.refl _ | with_reducible assumption | with_reducible refine Gr.alloc ?_ _ | with_reducible refine Gr.drewN ?_ _ | with_reducible refine Gr.drew ?_ | with_reducible refine Gr.trans ?_ (by with_reducible assumption))); done)) _ | with_reducible refine Gr.trans ?_ (by with_reducible assumption)))⟩
        | true =>
          cases e3 : wiB x.pr 0 8 with
          | false =>
            have HE := hide (orB_stop (n := n) (s := s) HX.out (okC_3 e3))
            go_wp2_with (first | (go_at_call 34; refine (swithin_any _ _ _ _).mono ?_; rintro e w1 ⟨rfl, rfl⟩) | (go_at_call 36; refine (isPair_any _ _).mono ?_; rintro e w1 ⟨rfl, rfl⟩))
            go_ret
            exact ⟨ret_bool HE.out.symm, (by repeat (first | with_reducible exact Gr.refl _ | with_reducible assumption | with_reducible refine Gr.alloc ?_ _ | with_reducible refine Gr.drewN ?_ _ | with_reducible refine Gr.drew ?_ | with_reducible refine Gr.setCell ?_ (by first | (dsimp only; omega) | (simp only [World.size_alloc]; omega) | (with_reducible refine Gr.size ?_; (repeat (first | with_reducible exact Gr.refl _ | with_reducible assumption | with_reducible refine Gr.alloc ?_ _ | with_reducible refine Gr.drewN ?_ _ | with_reducible refine Gr.drew ?_ | with_reducible refine Gr.trans ?_ (by with_reducible assumption))); done)) _ | with_reducible refine Gr.trans ?_ (by with_reducible assumption)))⟩
          | true =>
            have HO := hide (okC_y e1 e2 e3)
            by_cases hk : k = 0
            · subst hk
              have HE := hide (ord_step HS.out HX.out HO.out (fun j d hj => absurd hj (Nat.not_lt_zero j)))
              simp only [Nat.zero_mul, Nat.add_zero] at x0 x1 x2
              go_upto_region 6 with (first | (go_at_call 34; refine (swithin_any _ _ _ _).mono ?_; rintro e w1 ⟨rfl, rfl⟩) | (go_at_call 36; refine (isPair_any _ _).mono ?_; rintro e w1 ⟨rfl, rfl⟩))
              have GC := @GrW.cell
              refine wp_region_grw _ (by kernel_rfl) (by kernel_rfl) (Gr.refl _) ?_
              repeat (go_big_quiet_step ((first | fail)))
              refine wpQuiet_nil ?_
              intro wq hwq
              obtain ⟨gq, hwq'⟩ := hwq
              subst hwq'
              clear GC
              have gq1 := gq.gr
              generalize gq.w = wq at gq1 ⊢
              obtain ⟨Xq, Yq, cq, fq⟩ := gq1.use
              have sq := gq1.size
              (try simp only [World.size_alloc, World.size_setCell, World.heap_drewN] at sq)
              have HYY := hide (show ∀ y, 0 < 0 → l[0-1]? = some y → y.st ≤ x.st from fun y h => absurd h (Nat.lt_irrefl 0))
              obtain ⟨wo, rfl⟩ : ∃ wo, wo = wq := ⟨_, rfl⟩
              have HBX := hide (fun (w' : World) (g' : Gr wo w') => show (w'.cell? ⟨wr.heap.size, 0, none⟩ = some (iv x.st) ∧ w'.cell? ⟨wr.heap.size, 1, none⟩ = some (iv x.sn)) from
                ⟨((gq1.trans g').cell _ _ (by simp)).trans (by simp [go_sem]), ((gq1.trans g').cell _ _ (by simp)).trans (by simp [go_sem])⟩)
              have gwo : Gr wr wo := Gr.trans (by repeat (first | with_reducible exact Gr.refl _ | with_reducible assumption | with_reducible refine Gr.alloc ?_ _ | with_reducible refine Gr.drewN ?_ _ | with_reducible refine Gr.drew ?_ | with_reducible refine Gr.setCell ?_ (by first | (dsimp only; omega) | (simp only [World.size_alloc]; omega) | (with_reducible refine Gr.size ?_; (repeat (first | with_reducible exact Gr.refl _ | with_reducible assumption | with_reducible refine Gr.alloc ?_ _ | with_reducible refine Gr.drewN ?_ _ | with_reducible refine Gr.drew ?_ | with_reducible refine Gr.trans ?_ (by with_reducible assumption))); done)) _ | with_reducible refine Gr.trans ?_ (by with_reducible assumption))) gq1
              have hbx : wr.heap.size < wo.heap.size := by have := gq1.size; simp only [World.size_alloc] at this; omega
              obtain ⟨BX, hBX⟩ : ∃ BX, wr.heap.size = BX := ⟨_, rfl⟩
              simp only [hBX] at HBX hbx ⊢
              obtain ⟨w0, rfl⟩ : ∃ w0, w0 = wr := ⟨_, rfl⟩
              clear gq1 cq fq sq hBX
              go_wp2
              go_loopw [9] (fun u wr => ∃ q : Nat, q ≤ 0 ∧ u = .int .i64 ((q : Int) - 1) ∧ Gr wo wr ∧ Hid (∀ jj d, q ≤ jj → jj < 0 → l[jj]? = some d → bdP d x = false)) (fun u _ => (intOf u + 1).toNat)
              case atStart => exact ⟨0, by omega, rfl, Gr.refl _, hide (fun j d h1 h2 => absurd h2 (by omega))⟩
              case round =>
                obtain ⟨q, hq, rfl, g', HQ⟩ := hrel
                obtain ⟨y0, y1⟩ := HBX.out wr g'
                have gz : Gr w wr := g.trans (gwo.trans g')
                by_cases hq0 : q = 0
                · subst hq0
                  have HE := hide (ord_step HS.out HX.out HO.out (run_end hk HS.out HQ.out HYY.out hq (fun d hd => absurd hd (Nat.lt_irrefl 0))))
                  have hz : decide ((0 : Int) ≤ ((0 : Nat) : Int) - 1) = false := by decide
                  go_upto_region 9 with fail
                  have GC := @GrW.cell
                  refine wp_region_grw _ (by kernel_rfl) (by kernel_rfl) (Gr.refl _) ?_
                  repeat (go_big_quiet_step ((first | fail)))
                  refine wpQuiet_nil ?_
                  intro wq hwq
                  obtain ⟨gq, hwq'⟩ := hwq
                  subst hwq'
                  clear GC
                  have gq1 := gq.gr
                  generalize gq.w = wq at gq1 ⊢
                  obtain ⟨Xq, Yq, cq, fq⟩ := gq1.use
                  have sq := gq1.size
                  (try simp only [World.size_alloc, World.size_setCell, World.heap_drewN] at sq)
                  go_wp2
                  go_roundw
                  case rel => exact ⟨0 + 1, by omega, by go_num, (by repeat (first | with_reducible exact Gr.refl _ | with_reducible assumption | with_reducible refine Gr.alloc ?_ _ | with_reducible refine Gr.drewN ?_ _ | with_reducible refine Gr.drew ?_ | with_reducible refine Gr.setCell ?_ (by first | (dsimp only; omega) | (simp only [World.size_alloc]; omega) | (with_reducible refine Gr.size ?_; (repeat (first | with_reducible exact Gr.refl _ | with_reducible assumption | with_reducible refine Gr.alloc ?_ _ | with_reducible refine Gr.drewN ?_ _ | with_reducible refine Gr.drew ?_ | with_reducible refine Gr.trans ?_ (by with_reducible assumption))); done)) _ | with_reducible refine Gr.trans ?_ (by with_reducible assumption))), HE⟩
                  case measure => simp only [intOf]; omega
                · omega
            · obtain ⟨j, rfl⟩ : ∃ j, k = j + 1 := ⟨k - 1, by omega⟩
              obtain ⟨y, hy⟩ : ∃ y, l[j]? = some y := ⟨_, List.getElem?_eq_getElem (by omega)⟩
              obtain ⟨b', o', hA', v0, v1, v2⟩ := (HL.out.gr g).at_ hy
              obtain ⟨rfl, rfl⟩ : b = b' ∧ o = o' := by simpa using hA'
              have HY := hide hy
              have W3 : IntKind.i64.wrap ((j : Int) + 1 - 1) = (j : Int) := by rw [IntWalk.i64_in _ (by omega)]; omega
              have hj0 : (0 : Int) ≤ (j : Int) := by omega
              have hj1 : (j : Int) < (l.length : Int) := by omega
              have hjk : decide ((0 : Int) < (j : Int) + 1) = true := by rw [decide_eq_true_eq]; omega
              clear hA' hy hk
              have hk : j + 1 ≤ l.length := by omega
              by_cases hyz : x.st < y.st
              · have hyz' : decide (x.st < y.st) = true := by simpa using hyz
                have HE := hide (orB_pair (n := n) (s := s) HX.out HY.out (by omega) (bdP_yes.2 (.inl hyz)))
                clear hyz
                go_upto_region 6 with (first | (go_at_call 34; refine (swithin_any _ _ _ _).mono ?_; rintro e w1 ⟨rfl, rfl⟩) | (go_at_call 36; refine (isPair_any _ _).mono ?_; rintro e w1 ⟨rfl, rfl⟩))
                have GC := @GrW.cell
                refine wp_region_grw _ (by kernel_rfl) (by kernel_rfl) (Gr.refl _) ?_
                repeat (go_big_quiet_step ((first | fail)))
                refine wpQuiet_nil ?_
                intro wq hwq
                obtain ⟨gq, hwq'⟩ := hwq
                subst hwq'
                clear GC
                have gq1 := gq.gr
                generalize gq.w = wq at gq1 ⊢
                obtain ⟨Xq, Yq, cq, fq⟩ := gq1.use
                have sq := gq1.size
                (try simp only [World.size_alloc, World.size_setCell, World.heap_drewN] at sq)
                go_wp2
                go_ret
                exact ⟨ret_bool HE.out.symm, (by repeat (first | with_reducible exact Gr.refl _ | with_reducible assumption | with_reducible refine Gr.alloc ?_ _ | with_reducible refine Gr.drewN ?_ _ | with_reducible refine Gr.drew ?_ | with_reducible refine Gr.setCell ?_ (by first | (dsimp only; omega) | (simp only [World.size_alloc]; omega) | (with_reducible refine Gr.size ?_; (repeat (first | with_reducible exact Gr.refl _ | with_reducible assumption | with_reducible refine Gr.alloc ?_ _ | with_reducible refine Gr.drewN ?_ _ | with_reducible refine Gr.drew ?_ | with_reducible refine Gr.trans ?_ (by with_reducible assumption))); done)) _ | with_reducible refine Gr.trans ?_ (by with_reducible assumption)))⟩
              · have hyz' : decide (x.st < y.st) = false := by simpa using hyz
                have HYY := hide (show ∀ e, 0 < j + 1 → l[j+1-1]? = some e → e.st ≤ x.st by
                  intro e _ he
                  rw [Nat.add_sub_cancel, HY.out] at he
                  obtain rfl := Option.some.inj he
                  omega)
                clear hyz
                go_upto_region 6 with (first | (go_at_call 34; refine (swithin_any _ _ _ _).mono ?_; rintro e w1 ⟨rfl, rfl⟩) | (go_at_call 36; refine (isPair_any _ _).mono ?_; rintro e w1 ⟨rfl, rfl⟩))
                have GC := @GrW.cell
                refine wp_region_grw _ (by kernel_rfl) (by kernel_rfl) (Gr.refl _) ?_
                repeat (go_big_quiet_step ((first | fail)))
                refine wpQuiet_nil ?_
                intro wq hwq
                obtain ⟨gq, hwq'⟩ := hwq
                subst hwq'
                clear GC
                have gq1 := gq.gr
                generalize gq.w = wq at gq1 ⊢
                obtain ⟨Xq, Yq, cq, fq⟩ := gq1.use
                have sq := gq1.size
                (try simp only [World.size_alloc, World.size_setCell, World.heap_drewN] at sq)
                obtain ⟨wo, rfl⟩ : ∃ wo, wo = wq := ⟨_, rfl⟩
                have HBX := hide (fun (w' : World) (g' : Gr wo w') => show (w'.cell? ⟨wr.heap.size, 0, none⟩ = some (iv x.st) ∧ w'.cell? ⟨wr.heap.size, 1, none⟩ = some (iv x.sn)) from
                  ⟨((gq1.trans g').cell _ _ (by simp)).trans (by simp [go_sem]), ((gq1.trans g').cell _ _ (by simp)).trans (by simp [go_sem])⟩)
                have gwo : Gr wr wo := Gr.trans (by repeat (first | with_reducible exact Gr.refl _ | with_reducible assumption | with_reducible refine Gr.alloc ?_ _ | with_reducible refine Gr.drewN ?_ _ | with_reducible refine Gr.drew ?_ | with_reducible refine Gr.setCell ?_ (by first | (dsimp only; omega) | (simp only [World.size_alloc]; omega) | (with_reducible refine Gr.size ?_; (repeat (first | with_reducible exact Gr.refl _ | with_reducible assumption | with_reducible refine Gr.alloc ?_ _ | with_reducible refine Gr.drewN ?_ _ | with_reducible refine Gr.drew ?_ | with_reducible refine Gr.trans ?_ (by with_reducible assumption))); done)) _ | with_reducible refine Gr.trans ?_ (by with_reducible assumption))) gq1
                have hbx : wr.heap.size < wo.heap.size := by have := gq1.size; simp only [World.size_alloc] at this; omega
                obtain ⟨BX, hBX⟩ : ∃ BX, wr.heap.size = BX := ⟨_, rfl⟩
                simp only [hBX] at HBX hbx ⊢
                obtain ⟨w0, rfl⟩ : ∃ w0, w0 = wr := ⟨_, rfl⟩
                clear gq1 cq fq sq hBX
                go_wp2
                go_loopw [9] (fun u wr => ∃ q : Nat, q ≤ (j + 1) ∧ u = .int .i64 ((q : Int) - 1) ∧ Gr wo wr ∧ Hid (∀ jj d, q ≤ jj → jj < (j + 1) → l[jj]? = some d → bdP d x = false)) (fun u _ => (intOf u + 1).toNat)
                case atStart => exact ⟨(j + 1), by omega, by go_num, Gr.refl _, hide (fun j d h1 h2 => absurd h2 (by omega))⟩
                case round =>
                  obtain ⟨q, hq, rfl, g', HQ⟩ := hrel
                  obtain ⟨y0, y1⟩ := HBX.out wr g'
                  have gz : Gr w wr := g.trans (gwo.trans g')
                  by_cases hq0 : q = 0
                  · subst hq0
                    have HE := hide (ord_step HS.out HX.out HO.out (run_end hk HS.out HQ.out HYY.out hq (fun d hd => absurd hd (Nat.lt_irrefl 0))))
                    have hz : decide ((0 : Int) ≤ ((0 : Nat) : Int) - 1) = false := by decide
                    go_upto_region 9 with fail
                    have GC := @GrW.cell
                    refine wp_region_grw _ (by kernel_rfl) (by kernel_rfl) (Gr.refl _) ?_
                    repeat (go_big_quiet_step ((first | fail)))
                    refine wpQuiet_nil ?_
                    intro wq hwq
                    obtain ⟨gq, hwq'⟩ := hwq
                    subst hwq'
                    clear GC
                    have gq1 := gq.gr
                    generalize gq.w = wq at gq1 ⊢
                    obtain ⟨Xq, Yq, cq, fq⟩ := gq1.use
                    have sq := gq1.size
                    (try simp only [World.size_alloc, World.size_setCell, World.heap_drewN] at sq)
                    go_wp2
                    go_roundw
                    case rel => exact ⟨(j + 1) + 1, by omega, by go_num, (by repeat (first | with_reducible exact Gr.refl _ | with_reducible assumption | with_reducible refine Gr.alloc ?_ _ | with_reducible refine Gr.drewN ?_ _ | with_reducible refine Gr.drew ?_ | with_reducible refine Gr.setCell ?_ (by first | (dsimp only; omega) | (simp only [World.size_alloc]; omega) | (with_reducible refine Gr.size ?_; (repeat (first | with_reducible exact Gr.refl _ | with_reducible assumption | with_reducible refine Gr.alloc ?_ _ | with_reducible refine Gr.drewN ?_ _ | with_reducible refine Gr.drew ?_ | with_reducible refine Gr.trans ?_ (by with_reducible assumption))); done)) _ | with_reducible refine Gr.trans ?_ (by with_reducible assumption))), HE⟩
                    case measure => simp only [intOf]; omega
                  · obtain ⟨r, rfl⟩ : ∃ r, q = r + 1 := ⟨q - 1, by omega⟩
                    obtain ⟨d, hd⟩ : ∃ d, l[r]? = some d := ⟨_, List.getElem?_eq_getElem (by omega)⟩
                    obtain ⟨b', o', hA', z0, z1, z2⟩ := (HL.out.gr gz).at_ hd
                    obtain ⟨rfl, rfl⟩ : b = b' ∧ o = o' := by simpa using hA'
                    have HD := hide hd
                    rw [show ((r + 1 : Nat) : Int) - 1 = (r : Int) by omega]
                    have r0 : (0 : Int) ≤ (r : Int) := by omega
                    have r1 : (r : Int) < (l.length : Int) := by omega
                    have hbr : b < wr.heap.size := cell_lt (by rw [z0]; rfl)
                    have hbxr : BX < wr.heap.size := cell_lt (by rw [y0]; rfl)
                    clear hA' hd hq0
                    by_cases h1 : d.st = x.st
                    · by_cases h2 : d.sn = x.sn
                      · have HE := hide (orB_pair (n := n) (s := s) HX.out HD.out (by omega) (bdP_yes.2 (.inr ⟨h1, h2⟩)))
                        have h1' : (d.st == x.st) = true := by rw [beq_iff_eq]; exact h1
                        have h2' : (d.sn == x.sn) = true := by rw [beq_iff_eq]; exact h2
                        clear h1 h2
                        go_upto_region 9 with fail
                        have GC := @GrW.cell
                        refine wp_region_grw _ (by kernel_rfl) (by kernel_rfl) (Gr.refl _) ?_
                        repeat (go_big_quiet_step ((first | fail)))
                        refine wpQuiet_nil ?_
                        intro wq hwq
                        obtain ⟨gq, hwq'⟩ := hwq
                        subst hwq'
                        clear GC
                        have gq1 := gq.gr
                        generalize gq.w = wq at gq1 ⊢
                        obtain ⟨Xq, Yq, cq, fq⟩ := gq1.use
                        have sq := gq1.size
                        (try simp only [World.size_alloc, World.size_setCell, World.heap_drewN] at sq)
                        go_upto_region 11 with fail
                        have GC := @GrW.cell
                        refine wp_region_grw _ (by kernel_rfl) (by kernel_rfl) (Gr.refl _) ?_
                        repeat (go_big_quiet_step ((first | fail)))
                        refine wpQuiet_nil ?_
                        intro wq hwq
                        obtain ⟨gq, hwq'⟩ := hwq
                        subst hwq'
                        clear GC
                        have gq1 := gq.gr
                        generalize gq.w = wq at gq1 ⊢
                        obtain ⟨Xq, Yq, cq, fq⟩ := gq1.use
                        have sq := gq1.size
                        (try simp only [World.size_alloc, World.size_setCell, World.heap_drewN] at sq)
                        go_wp2
                        go_ret
                        exact ⟨ret_bool HE.out.symm, (by repeat (first | with_reducible exact Gr.refl _ | with_reducible assumption | with_reducible refine Gr.alloc ?_ _ | with_reducible refine Gr.drewN ?_ _ | with_reducible refine Gr.drew ?_ | with_reducible refine Gr.setCell ?_ (by first | (dsimp only; omega) | (simp only [World.size_alloc]; omega) | (with_reducible refine Gr.size ?_; (repeat (first | with_reducible exact Gr.refl _ | with_reducible assumption | with_reducible refine Gr.alloc ?_ _ | with_reducible refine Gr.drewN ?_ _ | with_reducible refine Gr.drew ?_ | with_reducible refine Gr.trans ?_ (by with_reducible assumption))); done)) _ | with_reducible refine Gr.trans ?_ (by with_reducible assumption)))⟩
                      · have HE := hide (run_more HQ.out HD.out (bdP_no.2 ⟨by omega, fun h => h2 h.2⟩))
                        have h1' : (d.st == x.st) = true := by rw [beq_iff_eq]; exact h1
                        have h2' : (d.sn == x.sn) = false := by rw [beq_eq_false_iff_ne]; exact h2
                        clear h1 h2
                        go_upto_region 9 with fail
                        have GC := @GrW.cell
                        refine wp_region_grw _ (by kernel_rfl) (by kernel_rfl) (Gr.refl _) ?_
                        repeat (go_big_quiet_step ((first | fail)))
                        refine wpQuiet_nil ?_
                        intro wq hwq
                        obtain ⟨gq, hwq'⟩ := hwq
                        subst hwq'
                        clear GC
                        have gq1 := gq.gr
                        generalize gq.w = wq at gq1 ⊢
                        obtain ⟨Xq, Yq, cq, fq⟩ := gq1.use
                        have sq := gq1.size
                        (try simp only [World.size_alloc, World.size_setCell, World.heap_drewN] at sq)
                        go_upto_region 11 with fail
                        have GC := @GrW.cell
                        refine wp_region_grw _ (by kernel_rfl) (by kernel_rfl) (Gr.refl _) ?_
                        repeat (go_big_quiet_step ((first | fail)))
                        refine wpQuiet_nil ?_
                        intro wq hwq
                        obtain ⟨gq, hwq'⟩ := hwq
                        subst hwq'
                        clear GC
                        have gq1 := gq.gr
                        generalize gq.w = wq at gq1 ⊢
                        obtain ⟨Xq, Yq, cq, fq⟩ := gq1.use
                        have sq := gq1.size
                        (try simp only [World.size_alloc, World.size_setCell, World.heap_drewN] at sq)
                        go_wp2
                        go_roundw
                        case rel => exact ⟨r, by omega, rfl, (by repeat (first | with_reducible exact Gr.refl _ | with_reducible assumption | with_reducible refine Gr.alloc ?_ _ | with_reducible refine Gr.drewN ?_ _ | with_reducible refine Gr.drew ?_ | with_reducible refine Gr.setCell ?_ (by first | (dsimp only; omega) | (simp only [World.size_alloc]; omega) | (with_reducible refine Gr.size ?_; (repeat (first | with_reducible exact Gr.refl _ | with_reducible assumption | with_reducible refine Gr.alloc ?_ _ | with_reducible refine Gr.drewN ?_ _ | with_reducible refine Gr.drew ?_ | with_reducible refine Gr.trans ?_ (by with_reducible assumption))); done)) _ | with_reducible refine Gr.trans ?_ (by with_reducible assumption))), HE⟩
                        case measure => simp only [intOf]; omega
                    · have HE := hide (ord_step HS.out HX.out HO.out (run_end hk HS.out HQ.out HYY.out hq (fun e _ he => by
                        rw [Nat.add_sub_cancel, HD.out] at he
                        obtain rfl := Option.some.inj he
                        exact h1)))
                      have h1' : (d.st == x.st) = false := by rw [beq_eq_false_iff_ne]; exact h1
                      clear h1
                      go_upto_region 9 with fail
                      have GC := @GrW.cell
                      refine wp_region_grw _ (by kernel_rfl) (by kernel_rfl) (Gr.refl _) ?_
                      repeat (go_big_quiet_step ((first | fail)))
                      refine wpQuiet_nil ?_
                      intro wq hwq
                      obtain ⟨gq, hwq'⟩ := hwq
                      subst hwq'
                      clear GC
                      have gq1 := gq.gr
                      generalize gq.w = wq at gq1 ⊢
                      obtain ⟨Xq, Yq, cq, fq⟩ := gq1.use
                      have sq := gq1.size
                      (try simp only [World.size_alloc, World.size_setCell, World.heap_drewN] at sq)
                      go_wp2
                      go_roundw
                      case rel => exact ⟨(j + 1) + 1, by omega, by go_num, (by repeat (first | with_reducible exact Gr.refl _ | with_reducible assumption | with_reducible refine Gr.alloc ?_ _ | with_reducible refine Gr.drewN ?_ _ | with_reducible refine Gr.drew ?_ | with_reducible refine Gr.setCell ?_ (by first | (dsimp only; omega) | (simp only [World.size_alloc]; omega) | (with_reducible refine Gr.size ?_; (repeat (first | with_reducible exact Gr.refl _ | with_reducible assumption | with_reducible refine Gr.alloc ?_ _ | with_reducible refine Gr.drewN ?_ _ | with_reducible refine Gr.drew ?_ | with_reducible refine Gr.trans ?_ (by with_reducible assumption))); done)) _ | with_reducible refine Gr.trans ?_ (by with_reducible assumption))), HE⟩
                      case measure => simp only [intOf]; omega
    · obtain rfl : k = l.length := by omega
      have HE := hide (orB_iff.2 HS.out)
      go_wp2
      go_ret
      exact ⟨ret_bool HE.out.symm, (by repeat (first | with_reducible exact Gr.refl _ | with_reducible assumption | with_reducible refine Gr.alloc ?_ _ | with_reducible refine Gr.drewN ?_ _ | with_reducible refine Gr.drew ?_ | with_reducible refine Gr.setCell ?_ (by first | (dsimp only; omega) | (simp only [World.size_alloc]; omega) | (with_reducible refine Gr.size ?_; (repeat (first | with_reducible exact Gr.refl _ | with_reducible assumption | with_reducible refine Gr.alloc ?_ _ | with_reducible refine Gr.drewN ?_ _ | with_reducible refine Gr.drew ?_ | with_reducible refine Gr.trans ?_ (by with_reducible assumption))); done)) _ | with_reducible refine Gr.trans ?_ (by with_reducible assumption)))⟩
end Go.Proofs.Ytfndhddnglcliaa
