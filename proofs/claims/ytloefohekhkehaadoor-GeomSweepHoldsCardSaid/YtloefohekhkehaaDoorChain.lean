/-
  chain at points: what the scan leaves.
-/
import Derived.Test.YtloefohekhkehaaDoorUniq
import Derived.Test.YtloefohekhkehaaDoorHullD
namespace Go.Proofs.YtloefohekhkehaaDoor
set_option linter.unusedVariables false
set_option linter.unusedSimpArgs false
open Go Go.ChangeShapes Go.WideShapes Go.ChangeAt Go.RowKit Go.Deep

/-- how three points turn -/
def orP (a b p : Pt) : Int := M.sgn (orA a.1 a.2.1 a.2.2.1 a.2.2.2 b.1 b.2.1 b.2.2.1 b.2.2.2 p.1 p.2.1 p.2.2.1 p.2.2.2) (orB a.1 a.2.1 a.2.2.1 a.2.2.2 b.1 b.2.1 b.2.2.1 b.2.2.2 p.1 p.2.1 p.2.2.1 p.2.2.2)
theorem orP_eq (a b p : Pt) : orP a b p = G.sg3 (G.O (vOf a) (vOf b) (vOf p)) := rfl
def popsP : List Pt → Pt → List Pt
  | [], _ => []
  | [a], _ => [a]
  | b :: a :: s, p => if orP a b p ≤ 0 then popsP (a :: s) p else b :: a :: s
def scanP (l : List Pt) : List Pt := l.foldl (fun s p => p :: popsP s p) []
theorem popsP_map (p : Pt) : ∀ s : List Pt, (popsP s p).map vOf = G.pops (s.map vOf) (vOf p)
  | [] => rfl
  | [_] => rfl
  | b :: a :: s => by
    rw [List.map_cons, List.map_cons]
    unfold popsP G.pops
    rw [← orP_eq]
    by_cases c : orP a b p ≤ 0
    · rw [if_pos c, if_pos c]
      exact popsP_map p (a :: s)
    · rw [if_neg c, if_neg c]
      rfl
theorem scanP_map_aux : ∀ (l s : List Pt), (l.foldl (fun s p => p :: popsP s p) s).map vOf = (l.map vOf).foldl (fun s p => p :: G.pops s p) (s.map vOf)
  | [], _ => rfl
  | p :: l, s => by
    rw [List.foldl_cons, List.map_cons, List.foldl_cons, scanP_map_aux l (p :: popsP s p), List.map_cons, popsP_map]
theorem scanP_map (l : List Pt) : (scanP l).map vOf = G.scan (l.map vOf) := scanP_map_aux l []
theorem scanP_snoc (l : List Pt) (p : Pt) : scanP (l ++ [p]) = p :: popsP (scanP l) p := by simp [scanP]
theorem popsP_mem (p : Pt) : ∀ (s : List Pt) (x : Pt), x ∈ popsP s p → x ∈ s
  | [], _, h => h
  | [_], _, h => h
  | b :: a :: s, x, h => by
    unfold popsP at h
    split at h
    · exact List.mem_cons_of_mem _ (popsP_mem p (a :: s) x h)
    · exact h
theorem popsP_len (p : Pt) : ∀ s : List Pt, (popsP s p).length ≤ s.length
  | [] => Nat.le_refl _
  | [_] => Nat.le_refl _
  | b :: a :: s => by
    unfold popsP
    split
    · have := popsP_len p (a :: s)
      simp at *
      omega
    · exact Nat.le_refl _
theorem scanP_mem_aux : ∀ (l s : List Pt) (x : Pt), x ∈ l.foldl (fun s p => p :: popsP s p) s → x ∈ l ∨ x ∈ s
  | [], _, _, h => .inr h
  | p :: l, s, x, h => by
    rcases scanP_mem_aux l (p :: popsP s p) x h with h | h
    · exact .inl (List.mem_cons_of_mem _ h)
    · rcases List.mem_cons.1 h with rfl | h
      · exact .inl List.mem_cons_self
      · exact .inr (popsP_mem p s x h)
theorem scanP_mem (l : List Pt) (x : Pt) (h : x ∈ scanP l) : x ∈ l := by
  rcases scanP_mem_aux l [] x h with h | h
  · exact h
  · cases h
theorem scanP_len_aux : ∀ (l s : List Pt), (l.foldl (fun s p => p :: popsP s p) s).length ≤ l.length + s.length
  | [], _ => by simp
  | p :: l, s => by
    have h1 := scanP_len_aux l (p :: popsP s p)
    have h2 := popsP_len p s
    simp at *
    omega
theorem scanP_len (l : List Pt) : (scanP l).length ≤ l.length := scanP_len_aux l []
theorem popsP_cons_le {a b p : Pt} {s : List Pt} (h : orP a b p ≤ 0) : popsP (b :: a :: s) p = popsP (a :: s) p := by rw [popsP, if_pos h]
theorem popsP_cons_gt {a b p : Pt} {s : List Pt} (h : ¬ orP a b p ≤ 0) : popsP (b :: a :: s) p = b :: a :: s := by rw [popsP, if_neg h]
theorem popsP_short {s : List Pt} {p : Pt} (h : s.length < 2) : popsP s p = s := by
  match s, h with
  | [], _ => rfl
  | [a], _ => rfl
theorem Own.gr {a b : World} {base : Nat} {v : Value} {xs : List Pt} (h : Own a base v xs) (g : Gr a b) : Own b base v xs := by
  obtain ⟨h1, h2⟩ := h
  refine ⟨h1, ?_⟩
  rcases h2 with h2 | ⟨k, cap, cur, e, hb, hg, h3⟩
  · exact .inl h2
  · exact .inr ⟨k, cap, cur, e, hb, by rw [Below.block g k (Array.getElem?_eq_some_iff.1 hg).1]; exact hg, h3⟩
theorem Own.form {w : World} {base : Nat} {v : Value} {xs : List Pt} (h : Own w base v xs) (h0 : 0 < xs.length) : ∃ g cap, v = .slice (some ⟨g, 0, none⟩) xs.length cap ∧ OwnAt w base g cap xs ∧ xs.length ≤ cap ∧ cap ≤ maxLen := by
  have h' := h
  obtain ⟨h1, h2⟩ := h
  rcases h2 with ⟨_, h2⟩ | ⟨k, cap, cur, rfl, hb, hg, h3, h4, _⟩
  · omega
  · exact ⟨k, cap, rfl, h', h3, h4⟩
theorem Own.slice {w : World} {base : Nat} {v : Value} {xs : List Pt} (h : Own w base v xs) : ∃ A cap, v = .slice A xs.length cap := by
  obtain ⟨h1, h2⟩ := h
  rcases h2 with ⟨rfl, h2⟩ | ⟨k, cap, cur, rfl, _⟩
  · exact ⟨none, 0, by rw [h2]⟩
  · exact ⟨_, cap, rfl⟩
theorem OwnAt.own {w : World} {base g cap : Nat} {xs : List Pt} (h : OwnAt w base g cap xs) : Own w base (.slice (some ⟨g, 0, none⟩) xs.length cap) xs := h
theorem OwnAt.pop {w : World} {base g cap : Nat} {xs ys : List Pt} (h : OwnAt w base g cap (xs ++ ys)) : OwnAt w base g cap xs := by
  refine OwnAt.cut h (by simp) ?_
  rw [flat_append, ← flat_length, List.take_left]

set_option maxHeartbeats 1000000 in
set_option maxRecDepth 100000 in
theorem chain_any (A : Option Addr) (c : Nat) (xs : List Pt) (w : World) (hx : Rd w A xs) (hp : ∀ p ∈ xs, PIn p) (lx : xs.length ≤ 1000000) :
    Calls Tryd.prog 25 #[.slice A xs.length c] w fun e w' => ∃ v, e = .returned v ∧ Own w' w.heap.size v (scanP xs).reverse ∧ Gr w w' := by
  obtain ⟨i0, hi0, hz0, hz1, hz2⟩ := info_parts infoPt
  have HX := hide hx
  have HP := hide hp
  clear hx hp
  go_enter Tryd.func25, Tryd.ntmps25
  go_wp2
  go_loopw [3, 9] (fun v i wr => ∃ k : Nat, k ≤ xs.length ∧ i = iv k ∧ Hid (Own wr w.heap.size v (scanP (xs.take k)).reverse) ∧ Gr w wr) (fun _ i _ => xs.length - (intOf i).toNat)
  case atStart => exact ⟨0, by omega, rfl, World.ownsRow_nil _ _ _ _, Gr.refl _⟩
  case round =>
    obtain ⟨k, hk, rfl, HO, g⟩ := hrel
    by_cases hlt : k < xs.length
    · obtain ⟨p, hp⟩ : ∃ p, xs[k]? = some p := ⟨_, List.getElem?_eq_getElem hlt⟩
      obtain ⟨b, off, rfl, x0, x1, x2, x3⟩ := (HX.out.gr g) k p hp
      have ht : xs.take (k + 1) = xs.take k ++ [p] := by rw [List.take_add_one, hp]; rfl
      have HT := hide ht
      have hpp : PIn p := HP.out p (List.mem_of_getElem? hp)
      clear hp ht
      obtain ⟨A', cap', hv⟩ := HO.out.slice
      subst hv
      have hmm : (scanP (xs.take k)).length = (scanP (xs.take k)).reverse.length := by simp
      have hml : (scanP (xs.take k)).reverse.length ≤ k := by have := scanP_len (xs.take k); simp at *; omega
      generalize hm : (scanP (xs.take k)).reverse.length = m at *
      have Hm := hide hm
      have HM0 := hide hmm
      clear hm hmm
      go_wp2
      go_loopw [3, 6] (fun v i wq => ∃ (m' : Nat) (A2 : Option Addr) (cap2 : Nat) (s : List Pt), m' ≤ m ∧ i = iv m' ∧ v = .slice A2 m' cap2 ∧ Hid (s.reverse.length = m') ∧ Hid (Own wq w.heap.size (.slice A2 m' cap2) s.reverse) ∧ Gr w wq ∧
        (wq.cell? ⟨wr.heap.size, 0, none⟩ = some (iv p.1) ∧ wq.cell? ⟨wr.heap.size, 1, none⟩ = some (iv p.2.1) ∧ wq.cell? ⟨wr.heap.size, 2, none⟩ = some (iv p.2.2.1) ∧ wq.cell? ⟨wr.heap.size, 3, none⟩ = some (iv p.2.2.2)) ∧
        Hid (popsP s p = popsP (scanP (xs.take k)) p) ∧ Hid (∀ x ∈ s, x ∈ xs)) (fun _ i _ => (intOf i).toNat)
      case atStart =>
        refine ⟨m, A', cap', scanP (xs.take k), by omega, rfl, rfl, Hm.out, ?_, ?_, ?_, rfl, fun x hx => List.mem_of_mem_take (scanP_mem _ _ hx)⟩
        · refine Own.gr HO.out ?_
          exact (by repeat (first | with_reducible exact Gr.refl _ | with_reducible assumption | with_reducible refine Gr.alloc ?_ _ | with_reducible refine Gr.drewN ?_ _ | with_reducible refine Gr.drew ?_ | with_reducible refine Gr.setCell ?_ (by first | (dsimp only; omega) | (simp only [World.size_alloc]; omega) | (with_reducible refine Gr.size ?_; (repeat (first | with_reducible exact Gr.refl _ | with_reducible assumption | with_reducible refine Gr.alloc ?_ _ | with_reducible refine Gr.drewN ?_ _ | with_reducible refine Gr.drew ?_ | with_reducible refine Gr.trans ?_ (by with_reducible assumption))); done)) _ | with_reducible refine Gr.trans ?_ (by with_reducible assumption)))
        · exact (by repeat (first | with_reducible exact Gr.refl _ | with_reducible assumption | with_reducible refine Gr.alloc ?_ _ | with_reducible refine Gr.drewN ?_ _ | with_reducible refine Gr.drew ?_ | with_reducible refine Gr.setCell ?_ (by first | (dsimp only; omega) | (simp only [World.size_alloc]; omega) | (with_reducible refine Gr.size ?_; (repeat (first | with_reducible exact Gr.refl _ | with_reducible assumption | with_reducible refine Gr.alloc ?_ _ | with_reducible refine Gr.drewN ?_ _ | with_reducible refine Gr.drew ?_ | with_reducible refine Gr.trans ?_ (by with_reducible assumption))); done)) _ | with_reducible refine Gr.trans ?_ (by with_reducible assumption)))
        · refine ⟨?_, ?_, ?_, ?_⟩ <;> simp [go_sem]
      case round =>
        obtain ⟨m', A2, cap2, s, hm', rfl, rfl, HM, HO2, g2, ⟨b0, b1, b2, b3⟩, HQ, HS⟩ := hrel
        by_cases h2 : m' < 2
        · have HPOP0 : popsP s p = s := popsP_short (by have := HM.out; rw [List.length_reverse] at this; omega)
          have HPOP := hide HPOP0
          clear HPOP0
          have hgi : ¬ ((2 : Int) ≤ (m' : Int)) := by omega
          have hgd : decide ((2 : Int) ≤ (m' : Int)) = false := by simp; omega
          go_wp2_with fail
          have GC := fun (g : GrW (wr)) i o => g.cell i o
          refine wp_region_grw (wr) (by kernel_rfl) (by kernel_rfl) (by repeat (first | with_reducible exact Gr.refl _ | with_reducible assumption | with_reducible refine Gr.alloc ?_ _ | with_reducible refine Gr.drewN ?_ _ | with_reducible refine Gr.drew ?_ | with_reducible refine Gr.setCell ?_ (by first | (dsimp only; omega) | (simp only [World.size_alloc]; omega) | (with_reducible refine Gr.size ?_; (repeat (first | with_reducible exact Gr.refl _ | with_reducible assumption | with_reducible refine Gr.alloc ?_ _ | with_reducible refine Gr.drewN ?_ _ | with_reducible refine Gr.drew ?_ | with_reducible refine Gr.trans ?_ (by with_reducible assumption))); done)) _ | with_reducible refine Gr.trans ?_ (by with_reducible assumption))) ?_
          repeat (go_big_quiet_step ((first | fail)))
          refine wpQuiet_nil ?_
          intro wq hwq
          obtain ⟨gq, hwq'⟩ := hwq
          subst hwq'
          clear GC
          have gq1 := gq.gr
          generalize gq.w = wq at gq1 ⊢
          obtain ⟨Xq, Yq, cq, fq⟩ := gq1.use
          have HL : Hid ((popsP (scanP (xs.take k)) p).reverse.length = m') := by unfold Hid; rw [← HQ.out]; rw [HPOP.out]; exact HM.out
          have hown' : wq.ownsRow w.heap.size 34 4 (.slice A2 m' cap2) m' (flat (popsP (scanP (xs.take k)) p).reverse) := by
            have := HO2.out.gr gq1
            unfold Own at this
            rw [← HQ.out, HPOP.out]
            rwa [HM.out] at this
          have HO3 := hide hown'
          clear hown'
          have C1 := hide (cells_new4 wq p)
          have C2 : Hid (∀ u ∈ cellsOfPt p, u.oneCell' = true) := by intro u hu; simp at hu; rcases hu with rfl | rfl | rfl | rfl <;> rfl
          have C3 : Hid (m' + 1 ≤ maxLen) := by unfold Hid maxLen; omega
          have C4 : Hid ((m' + 1) * 32 ≤ 140737488355328) := by unfold Hid; omega
          have C5 : Hid (w.heap.size ≤ (wq.alloc (.cells #[iv p.1, iv p.2.1, iv p.2.2.1, iv p.2.2.2] 34)).heap.size) := by unfold Hid; have := gq1.size; have := g2.size; simp; omega
          go_wp2_with (at_builtin; refine wpList_append_own _ rfl _ _ 29 rfl w.heap.size 34 i0 _ 4 32 Tryd.underlying29 hi0 hz0 hz1 hz2 rfl (by decide) _ _ _ rfl (HO3.out.alloc _) ⟨wq.heap.size, 0, none⟩ 1 1 (cellsOfPt p) rfl rfl C1.out C2.out C3.out C4.out C5.out ?_; intro v1 w1 hown1 hg1 hn1)
          go_roundw
          case rel =>
            refine ⟨k + 1, by omega, by go_num, ?_, ((g2.trans gq1).alloc _).grown hg1 (fun j hj => (HO3.out.lt j hj).1)⟩
            unfold Own Hid
            rw [HT.out, scanP_snoc, List.reverse_cons, flat_snoc, List.length_append, HL.out]
            exact hown1
          case measure => simp [intOf]; omega
        · obtain ⟨b', a', t, rfl⟩ : ∃ b' a' t, s = b' :: a' :: t := by
            have := HM.out
            match s, this with
            | [], h => simp at h; omega
            | [_], h => simp at h; omega
            | b' :: a' :: t, _ => exact ⟨b', a', t, rfl⟩
          have hlen : t.length + 2 = m' := by have := HM.out; simpa using this
          obtain ⟨gb, cp, hv2, hoa, hcp, hcm⟩ := HO2.out.form (by rw [HM.out]; omega)
          rw [HM.out] at hv2 hcp
          cases hv2
          have hrev : (b' :: a' :: t).reverse = t.reverse ++ [a', b'] := by simp
          have ca : (b' :: a' :: t).reverse[m' - 2]? = some a' := by rw [hrev, List.getElem?_append_right (by simp; omega)]; simp [show m' - 2 - t.length = 0 by omega]
          have cb : (b' :: a' :: t).reverse[m' - 1]? = some b' := by rw [hrev, List.getElem?_append_right (by simp; omega)]; simp [show m' - 1 - t.length = 1 by omega]
          obtain ⟨y0, y1, y2, y3, _, _, _, _⟩ := hoa.cells _ _ ca
          obtain ⟨z0, z1, z2, z3, _, _, _, _⟩ := hoa.cells _ _ cb
          have HPa := HP.out a' (HS.out a' (by simp))
          have HPb := HP.out b' (HS.out b' (by simp))
          have HOA := hide hoa
          have HREV := hide hrev
          have HLEN := hide hlen
          have HCM := hide hcm
          clear hoa hrev hlen ca cb hcm
          have hgd : decide ((2 : Int) ≤ (m' : Int)) = true := by simp; omega
          by_cases hor : orP a' b' p ≤ 0
          · have HOR := hide hor
            unfold orP at hor
            go_wp2_with fail
            have GC := fun (g : GrW (wr)) i o => g.cell i o
            refine wp_region_grw (wr) (by kernel_rfl) (by kernel_rfl) (by repeat (first | with_reducible exact Gr.refl _ | with_reducible assumption | with_reducible refine Gr.alloc ?_ _ | with_reducible refine Gr.drewN ?_ _ | with_reducible refine Gr.drew ?_ | with_reducible refine Gr.setCell ?_ (by first | (dsimp only; omega) | (simp only [World.size_alloc]; omega) | (with_reducible refine Gr.size ?_; (repeat (first | with_reducible exact Gr.refl _ | with_reducible assumption | with_reducible refine Gr.alloc ?_ _ | with_reducible refine Gr.drewN ?_ _ | with_reducible refine Gr.drew ?_ | with_reducible refine Gr.trans ?_ (by with_reducible assumption))); done)) _ | with_reducible refine Gr.trans ?_ (by with_reducible assumption))) ?_
            repeat (go_big_quiet_step ((first | (go_at_call 39; exact quiet_grw (orient_any _ _ _ _ _ _ _ _ _ _ _ _ _ HPa HPb hpp)))))
            refine wpQuiet_nil ?_
            intro wq hwq
            obtain ⟨gq, hwq'⟩ := hwq
            subst hwq'
            clear GC
            have gq1 := gq.gr
            generalize gq.w = wq at gq1 ⊢
            obtain ⟨Xq, Yq, cq, fq⟩ := gq1.use
            go_wp2
            go_roundw
            case rel =>
              refine ⟨m' - 1, _, _, a' :: t, by omega, by go_num, rfl, ?_, ?_, g2.trans gq1, ⟨(cq _ _).trans (by rw [b0]; rfl), (cq _ _).trans (by rw [b1]; rfl), (cq _ _).trans (by rw [b2]; rfl), (cq _ _).trans (by rw [b3]; rfl)⟩, ?_, ?_⟩
              · unfold Hid; simp; have := HLEN.out; omega
              · have hl : (a' :: t).reverse.length = m' - 1 := by simp; have := HLEN.out; omega
                have h3 : OwnAt wr w.heap.size gb cap2 ((a' :: t).reverse ++ [b']) := by have := HOA.out; rwa [HREV.out, show t.reverse ++ [a', b'] = (a' :: t).reverse ++ [b'] by simp] at this
                have h4 := h3.pop.own.gr gq1
                rw [hl] at h4
                exact h4
              · show popsP (a' :: t) p = _
                rw [← HQ.out, popsP_cons_le HOR.out]
              · exact fun x hx => HS.out x (List.mem_cons_of_mem _ hx)
            case measure => simp [intOf]; omega
          · have HOR := hide hor
            unfold orP at hor
            go_wp2_with fail
            have GC := fun (g : GrW (wr)) i o => g.cell i o
            refine wp_region_grw (wr) (by kernel_rfl) (by kernel_rfl) (by repeat (first | with_reducible exact Gr.refl _ | with_reducible assumption | with_reducible refine Gr.alloc ?_ _ | with_reducible refine Gr.drewN ?_ _ | with_reducible refine Gr.drew ?_ | with_reducible refine Gr.setCell ?_ (by first | (dsimp only; omega) | (simp only [World.size_alloc]; omega) | (with_reducible refine Gr.size ?_; (repeat (first | with_reducible exact Gr.refl _ | with_reducible assumption | with_reducible refine Gr.alloc ?_ _ | with_reducible refine Gr.drewN ?_ _ | with_reducible refine Gr.drew ?_ | with_reducible refine Gr.trans ?_ (by with_reducible assumption))); done)) _ | with_reducible refine Gr.trans ?_ (by with_reducible assumption))) ?_
            repeat (go_big_quiet_step ((first | (go_at_call 39; exact quiet_grw (orient_any _ _ _ _ _ _ _ _ _ _ _ _ _ HPa HPb hpp)))))
            refine wpQuiet_nil ?_
            intro wq hwq
            obtain ⟨gq, hwq'⟩ := hwq
            subst hwq'
            clear GC
            have gq1 := gq.gr
            generalize gq.w = wq at gq1 ⊢
            obtain ⟨Xq, Yq, cq, fq⟩ := gq1.use
            have HL : Hid ((popsP (scanP (xs.take k)) p).reverse.length = m') := by unfold Hid; rw [← HQ.out]; rw [popsP_cons_gt (Int.not_le.2 HOR.out)]; exact HM.out
            have hown' : wq.ownsRow w.heap.size 34 4 (.slice (some ⟨gb, 0, none⟩) m' cap2) m' (flat (popsP (scanP (xs.take k)) p).reverse) := by
              have := HO2.out.gr gq1
              unfold Own at this
              rw [← HQ.out, popsP_cons_gt (Int.not_le.2 HOR.out)]
              rwa [HM.out] at this
            have HO3 := hide hown'
            clear hown'
            have C1 := hide (cells_new4 wq p)
            have C2 : Hid (∀ u ∈ cellsOfPt p, u.oneCell' = true) := by intro u hu; simp at hu; rcases hu with rfl | rfl | rfl | rfl <;> rfl
            have C3 : Hid (m' + 1 ≤ maxLen) := by unfold Hid maxLen; omega
            have C4 : Hid ((m' + 1) * 32 ≤ 140737488355328) := by unfold Hid; omega
            have C5 : Hid (w.heap.size ≤ (wq.alloc (.cells #[iv p.1, iv p.2.1, iv p.2.2.1, iv p.2.2.2] 34)).heap.size) := by unfold Hid; have := gq1.size; have := g2.size; simp; omega
            go_wp2_with (at_builtin; refine wpList_append_own _ rfl _ _ 29 rfl w.heap.size 34 i0 _ 4 32 Tryd.underlying29 hi0 hz0 hz1 hz2 rfl (by decide) _ _ _ rfl (HO3.out.alloc _) ⟨wq.heap.size, 0, none⟩ 1 1 (cellsOfPt p) rfl rfl C1.out C2.out C3.out C4.out C5.out ?_; intro v1 w1 hown1 hg1 hn1)
            go_roundw
            case rel =>
              refine ⟨k + 1, by omega, by go_num, ?_, ((g2.trans gq1).alloc _).grown hg1 (fun j hj => (HO3.out.lt j hj).1)⟩
              unfold Own Hid
              rw [HT.out, scanP_snoc, List.reverse_cons, flat_snoc, List.length_append, HL.out]
              exact hown1
            case measure => simp [intOf]; omega
    · obtain rfl : k = xs.length := by omega
      have hown' : Own wr w.heap.size u3 (scanP xs).reverse := by have := HO.out; rwa [List.take_length] at this
      have HO' := hide hown'
      clear hown'
      go_wp2
      go_ret
      exact ⟨_, rfl, HO'.out, g⟩
end Go.Proofs.YtloefohekhkehaaDoor
