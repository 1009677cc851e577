/-
  The reference's meets: the way around the differences has the origin on its left.
-/
import Derived.Test.YtegehdidfmcflaaDoorWrap4
import Derived.Test.YtegehdidfmcflaaDoorMix2
set_option linter.unusedVariables false
set_option linter.unusedSimpArgs false
namespace Go.Proofs.YtegehdidfmcflaaDoor
set_option linter.unusedVariables false
set_option linter.unusedSimpArgs false
open Go Go.ChangeShapes Go.WideShapes Go.ChangeAt Go.RowKit Go.Deep

def dfP (p q : Pt) : Pt := (p.1 - q.1, p.2.1 - q.2.1, p.2.2.1 - q.2.2.1, p.2.2.2 - q.2.2.2)
def orgP : Pt := (0, 0, 0, 0)
theorem addr_add5 {b o n : Nat} : ((⟨b, o, none⟩ : Addr).add n) = ⟨b, o + n, none⟩ := by
  unfold Addr.add
  split
  · rename_i h; simp [h]
  · rfl
theorem vOf_df (p q : Pt) : vOf (dfP p q) = vOf p - vOf q := rfl
theorem vOf_org : vOf orgP = 0 := rfl
/-- all differences, in the order of the loops -/
def dfL (es bs : List Pt) : List Pt := es.flatMap fun x => bs.map fun y => dfP x y
theorem dfL_map (es bs : List Pt) : (dfL es bs).map vOf = G.diffs (es.map vOf) (bs.map vOf) := by
  unfold dfL G.diffs
  rw [List.map_flatMap, List.flatMap_map]
  congr 1
  funext x
  simp only [List.map_map]
  rfl
theorem dfL_len (es bs : List Pt) : (dfL es bs).length = es.length * bs.length := by
  unfold dfL
  induction es with
  | nil => simp
  | cons a es ih => rw [List.flatMap_cons, List.length_append, ih, List.length_map, List.length_cons, Nat.succ_mul, Nat.add_comm]
theorem dfL_snoc {es bs : List Pt} {i : Nat} {x : Pt} (h : es[i]? = some x) : dfL (es.take (i + 1)) bs = dfL (es.take i) bs ++ bs.map (dfP x) := by
  unfold dfL
  rw [List.take_add_one, h]
  simp
theorem df_in {p q : Pt} (hp : pB p = true) (hq : pB q = true) : PIn (dfP p q) := by
  unfold pB pinB at hp hq
  simp only [Bool.and_eq_true] at hp hq
  obtain ⟨a, b⟩ := lims_of hp.1
  obtain ⟨c, d⟩ := lims_of hp.2
  obtain ⟨e, f⟩ := lims_of hq.1
  obtain ⟨g, h⟩ := lims_of hq.2
  unfold Lim at *
  exact ⟨(show Lim 8192 (p.1 - q.1) by unfold Lim; omega), (show Lim 8192 (p.2.1 - q.2.1) by unfold Lim; omega), (show Lim 8192 (p.2.2.1 - q.2.2.1) by unfold Lim; omega), (show Lim 8192 (p.2.2.2 - q.2.2.2) by unfold Lim; omega)⟩
theorem org_in : PIn orgP := ⟨show Lim 8192 0 by unfold Lim; omega, show Lim 8192 0 by unfold Lim; omega, show Lim 8192 0 by unfold Lim; omega, show Lim 8192 0 by unfold Lim; omega⟩
/-- what the test of the way around says -/
theorem meets_say {xs ys : List Pt} {a u h : Pt} {t s hs : List Pt} (ra : G.Run (xs.map vOf) (vOf a) (t.map vOf)) (rb : G.Run (ys.map vOf) (vOf u) (s.map vOf)) (hs2 : s ≠ []) (r : G.Run ((dfL (a :: t) (u :: s)).map vOf) (vOf h) (hs.map vOf)) :
    ((∀ i p q, (h :: hs)[i]? = some p → (h :: hs)[(i + 1) % (h :: hs).length]? = some q → 0 < orP p q orgP) → G.Meet ((a :: t).map vOf) ((u :: s).map vOf)) ∧
    (∀ i p q, (h :: hs)[i]? = some p → (h :: hs)[(i + 1) % (h :: hs).length]? = some q → orP p q orgP ≤ 0 → ¬ G.Meet ((a :: t).map vOf) ((u :: s).map vOf)) := by
  rw [dfL_map] at r
  obtain ⟨hn, hm⟩ := G.meet_iff (A := xs.map vOf) (B := ys.map vOf) ra rb (by simpa using hs2) r
  have at_ : ∀ {i : Nat} {p : Pt}, (h :: hs)[i]? = some p → (vOf h :: hs.map vOf)[i]? = some (vOf p) := fun {i p} k => by
    rw [← List.map_cons, List.getElem?_map, k]; rfl
  have len : (vOf h :: hs.map vOf).length = (h :: hs).length := by simp
  rw [List.map_cons, List.map_cons, hm]
  constructor
  · intro H P hP Q e
    obtain ⟨p, hp, rfl⟩ : ∃ p, p ∈ h :: hs ∧ vOf p = P := by
      rw [← List.map_cons] at hP
      obtain ⟨p, hp, e⟩ := List.mem_map.1 hP
      exact ⟨p, hp, e⟩
    obtain ⟨i, hi⟩ := List.mem_iff_getElem?.1 hp
    obtain ⟨q, hq⟩ : ∃ q, (h :: hs)[(i + 1) % (h :: hs).length]? = some q := ⟨_, List.getElem?_eq_getElem (Nat.mod_lt _ (by simp))⟩
    have e2 := next_E r hn (at_ hi) (by rw [len]; exact at_ hq)
    have := H i p q hi hq
    rw [orP_eq, vOf_org] at this
    rw [e.uniq e2]
    exact this
  · intro i p q hp hq hle k
    have e2 := next_E r hn (at_ hp) (by rw [len]; exact at_ hq)
    have := k (vOf p) (by rw [← List.map_cons]; exact List.mem_map_of_mem (List.mem_of_getElem? hp)) _ e2
    rw [orP_eq, vOf_org] at hle
    unfold G.pos at this
    omega
set_option maxHeartbeats 4000000 in
set_option maxRecDepth 100000 in
theorem rmeets_any (A B : Option Addr) (c d : Nat) (xs ys : List Pt) (w : World) (hx : Rd w A xs) (hy : Rd w B ys) (h1 : ckP xs = 0) (h2 : ckP ys = 0) (a u : Pt) (t s : List Pt) (ra : G.Run (xs.map vOf) (vOf a) (t.map vOf)) (rb : G.Run (ys.map vOf) (vOf u) (s.map vOf)) (hs2 : s ≠ []) :
    Calls Tryd.prog 21 #[.slice A xs.length c, .slice B ys.length d] w fun e w' => ∃ b, e = .returned (.bool b) ∧ (b = true ↔ G.Meet ((a :: t).map vOf) ((u :: s).map vOf)) ∧ Gr w w' := by
  obtain ⟨i0, hi0, hz0, hz1, hz2⟩ := info_parts infoPt
  obtain ⟨x1, x2, x3⟩ := ckP_zero h1
  obtain ⟨y1, y2, y3⟩ := ckP_zero h2
  have HRX : HullRes xs (a :: t) := .inr ⟨h1, a, t, rfl, ra⟩
  have HRY : HullRes ys (u :: s) := .inr ⟨h2, u, s, rfl, rb⟩
  have la : (a :: t).length ≤ 24 := Nat.le_trans HRX.len x2
  have lb : (u :: s).length ≤ 24 := Nat.le_trans HRY.len y2
  have HPA := hide (fun p (hp : p ∈ a :: t) => x3 p (HRX.mem p hp))
  have HPB := hide (fun p (hp : p ∈ u :: s) => y3 p (HRY.mem p hp))
  have HW1 := hide (fun (w' : World) (g : Gr w w') => wrap_any A c xs w' a t (hx.gr g) (fun p hp => pIn_of (x3 p hp)) x1 (by omega) ra)
  have HW2 := hide (fun (w' : World) (g : Gr w w') => wrap_any B d ys w' u s (hy.gr g) (fun p hp => pIn_of (y3 p hp)) y1 (by omega) rb)
  have hD0 : 0 < (dfL (a :: t) (u :: s)).length := by rw [dfL_len]; exact Nat.mul_pos (by simp) (by simp)
  have hD1 : (dfL (a :: t) (u :: s)).length ≤ 576 := by rw [dfL_len]; exact Nat.mul_le_mul la lb
  obtain ⟨h, hs, r⟩ := run_pts (xs := dfL (a :: t) (u :: s)) (by intro e; simp at e; rw [e] at hD0; simp at hD0)
  obtain ⟨sy, sn⟩ := meets_say ra rb hs2 r
  have HSY := hide sy
  have HSN := hide sn
  have hDP : ∀ p ∈ dfL (a :: t) (u :: s), PIn p := by
    intro p hp
    unfold dfL at hp
    obtain ⟨x, hx, hp⟩ := List.mem_flatMap.1 hp
    obtain ⟨y, hy, rfl⟩ := List.mem_map.1 hp
    exact df_in (HPA.out x hx) (HPB.out y hy)
  have HW3 := hide (fun (A : Option Addr) (c : Nat) (w' : World) (hd : Rd w' A (dfL (a :: t) (u :: s))) => wrap_any A c _ w' h hs hd hDP hD0 (by omega) r)
  have hl3 : (h :: hs).length ≤ 576 := by
    have := r.length
    simp only [List.length_map] at this
    simpa using Nat.le_trans this hD1
  have hHP := hide (fun p (hp : p ∈ h :: hs) => hDP p (by
    have hm : vOf p ∈ (dfL (a :: t) (u :: s)).map vOf := by
      rcases List.mem_cons.1 hp with rfl | hp
      · exact r.1
      · exact r.2.2.2.1 _ (List.mem_map_of_mem hp)
    obtain ⟨q, hq, e⟩ := List.mem_map.1 hm
    rwa [← vOf_inj e]))
  have ln : 0 < (h :: hs).length := by simp
  have laa : 0 < (a :: t).length := by simp
  clear sy sn r ra rb hs2 HRX HRY hx hy h1 h2 x3 y3 hDP hD0
  generalize G.Meet ((a :: t).map vOf) ((u :: s).map vOf) = MEET at *
  generalize a :: t = es at *
  generalize u :: s = bs at *
  generalize h :: hs = hl at *
  go_enter Tryd.func21, Tryd.ntmps21
  go_wp2_with fail
  refine (HW1.out _ (Gr.refl _)).mono ?_
  rintro e w1 ⟨v1, rfl, o1, g1⟩
  obtain ⟨A1, c1, rfl⟩ := o1.slice
  have HA0 := hide (Own.rd o1).2
  clear o1
  go_wp2_with fail
  refine (HW2.out _ g1).mono ?_
  rintro e w2 ⟨v2, rfl, o2, g2⟩
  obtain ⟨A2, c2, rfl⟩ := o2.slice
  have HB0 := hide (Own.rd o2).2
  have HA1 := hide (HA0.out.gr g2)
  have gw2 : Gr w w2 := g1.trans g2
  clear o2 HA0
  go_wp2_with fail
  go_loopw [5, 6] (fun v i wr => ∃ k : Nat, k ≤ es.length ∧ i = iv k ∧ Gr w2 wr ∧ Hid (Own wr w2.heap.size v (dfL (es.take k) bs))) (fun _ i _ => es.length - (intOf i).toNat)
  case atStart => exact ⟨0, by omega, rfl, Gr.refl _, World.ownsRow_nil _ _ _ _⟩
  case round =>
    obtain ⟨k, hk, rfl, g, HO⟩ := hrel
    by_cases hkl : k < es.length
    · obtain ⟨x, hx⟩ : ∃ x, es[k]? = some x := ⟨_, List.getElem?_eq_getElem hkl⟩
      have HSN2 := hide (dfL_snoc (bs := bs) hx)
      have hPx := HPA.out x (List.mem_of_getElem? hx)
      have HX := hide hx
      clear hx
      go_wp2_with fail
      obtain ⟨wo, rfl⟩ : ∃ wo, wo = wr := ⟨_, rfl⟩
      go_loopw [5, 7] (fun v j wr => ∃ m : Nat, m ≤ bs.length ∧ j = iv m ∧ Gr w2 wr ∧ Hid (Own wr w2.heap.size v (dfL (es.take k) bs ++ (bs.take m).map (dfP x)))) (fun _ j _ => bs.length - (intOf j).toNat)
      case atStart => exact ⟨0, by omega, rfl, g, by unfold Hid; rw [List.take_zero, List.map_nil, List.append_nil]; exact HO.out⟩
      case round =>
        obtain ⟨m, hm, rfl, g', HO2⟩ := hrel
        by_cases hml : m < bs.length
        · obtain ⟨y, hy⟩ : ∃ y, bs[m]? = some y := ⟨_, List.getElem?_eq_getElem hml⟩
          have hPy := HPB.out y (List.mem_of_getElem? hy)
          obtain ⟨b1, o1, rfl, q0, q1, q2, q3⟩ := (HA1.out.gr g') k x HX.out
          obtain ⟨b2, o2, rfl, r0, r1, r2, r3⟩ := (HB0.out.gr g') m y hy
          obtain ⟨A5, d5, hv⟩ := HO2.out.slice
          subst hv
          have hT := hide (show dfL (es.take k) bs ++ (bs.take (m + 1)).map (dfP x) = (dfL (es.take k) bs ++ (bs.take m).map (dfP x)) ++ [dfP x y] by
            rw [List.take_add_one, hy]; simp)
          have hLL : (dfL (es.take k) bs ++ (bs.take m).map (dfP x)).length ≤ 576 := by
            rw [List.length_append, dfL_len, List.length_map, List.length_take, List.length_take, Nat.min_eq_left (by omega), Nat.min_eq_left (by omega)]
            have h1 : (k + 1) * bs.length ≤ 24 * 24 := Nat.mul_le_mul (by omega) lb
            rw [Nat.succ_mul] at h1
            omega
          generalize hL : dfL (es.take k) bs ++ (bs.take m).map (dfP x) = L at *
          have HOW := hide (show wr.ownsRow w2.heap.size 33 4 (.slice A5 L.length d5) L.length (flat L) from HO2.out)
          obtain ⟨p1, p2, p3, p4⟩ := pIn_of hPx
          obtain ⟨s1, s2, s3, s4⟩ := pIn_of hPy
          clear hL hy HO2 hPx hPy
          have lb2 : w2.heap.size ≤ wr.heap.size := g'.size
          go_upto_region 9 with fail
          refine wp_region_build1 _ 24 (by kernel_rfl) (by kernel_rfl) (Gr.refl _) (d1 := some 50) rfl ?_
          intro s gs
          obtain ⟨Xs, Ys, cs, fs⟩ := gs.use
          have GC := @GrW.cell
          simp only [List.take_succ_cons, List.take_zero]
          repeat (go_big_quiet_step ((first | (go_at_call 36; exact quiet_grw (rminus_any _ _ _ _ _ (by apply Lim.mono; with_reducible assumption; omega) (by apply Lim.mono; with_reducible assumption; omega) (by apply Lim.mono; with_reducible assumption; omega) (by apply Lim.mono; with_reducible assumption; omega))))))
          refine wpQuiet_nil ?_
          clear GC cs fs gs
          refine ⟨fun BB => .slice (some ⟨BB, 0, none⟩) 1 1, #[iv (x.1 - y.1), iv (x.2.1 - y.2.1), iv (x.2.2.1 - y.2.2.1), iv (x.2.2.2 - y.2.2.2)], 33, ⟨rfl, rfl, fun w => by go_simp⟩, ?_⟩
          intro B1 wq gq1 l1 ⟨b1, c1, f1⟩
          obtain ⟨Xq, Yq, cq, fq⟩ := gq1.use
          have sq := gq1.size
          (try simp only [World.size_alloc, World.size_setCell, World.heap_drewN] at sq l1)
          simp only [List.drop_succ_cons, List.drop_zero]
          refine wpList_append_lies _ (by rfl) _ _ _ (by rfl) w2.heap.size 33 i0 _ 4 32 Tryd.underlying22 hi0 hz0 hz1 hz2 rfl (by omega) _ L.length (flat L) (by rfl) (show wq.ownsRow w2.heap.size 33 4 (.slice A5 L.length d5) L.length (flat L) from Own.gr (v := .slice A5 L.length d5) (xs := L) HOW.out gq1) ⟨B1, 0, none⟩ 1 1 (cellsOfPt (dfP x y)) (by rfl) (by rfl) (by intro j u hu; rw [addr_add5, Nat.zero_add, c1]; simpa using (show ([iv (x.1 - y.1), iv (x.2.1 - y.2.1), iv (x.2.2.1 - y.2.2.1), iv (x.2.2.2 - y.2.2.2)] : List Value)[j]? = some u from hu)) (by intro u hu; simp at hu; rcases hu with rfl | rfl | rfl | rfl <;> rfl) (by omega) (by unfold maxLen; omega) (by omega) (by omega) _ rfl ?_
          intro gg cap1 w8 hown8 hgrow hat hlt
          have g8 := Gr.grown (show Gr w2 _ from g'.trans gq1) hgrow (fun k hk => (World.ownsRow.lt HOW.out k hk).1)
          have ho8 := hide (show Own w8 w2.heap.size (.slice (some ⟨gg, 0, none⟩) (L.length + 1) cap1) (dfL (es.take k) bs ++ (bs.take (m + 1)).map (dfP x)) by
            unfold Own
            rw [hT.out, flat_snoc, List.length_append]
            exact hown8)
          clear hown8 hgrow hat hlt HOW c1 f1 cq fq
          go_wp2
          go_roundw
          case rel => exact ⟨m + 1, by omega, by go_num, g8, ho8.out⟩
          case measure => simp only [intOf]; omega
        · obtain rfl : m = bs.length := by omega
          rw [List.take_length, ← HSN2.out] at HO2
          go_wp2_with fail
          go_roundw
          case rel => exact ⟨k + 1, by omega, by go_num, g', HO2⟩
          case measure => simp only [intOf]; omega
    · obtain rfl : k = es.length := by omega
      rw [List.take_length] at HO
      obtain ⟨A5, d5, hv⟩ := HO.out.slice
      subst hv
      have HD := hide (Own.rd HO.out).2
      go_wp2_with fail
      refine (HW3.out _ _ _ HD.out).mono ?_
      rintro e w3 ⟨v3, rfl, o3, g3⟩
      obtain ⟨A6, d6, rfl⟩ := o3.slice
      have HH := hide (Own.rd o3).2
      have gw3 : Gr w w3 := gw2.trans (g.trans g3)
      clear o3
      go_wp2_with fail
      go_loopw [9] (fun i wr => ∃ k : Nat, k ≤ hl.length ∧ i = iv k ∧ Gr w3 wr ∧ Hid (∀ i p q, i < k → hl[i]? = some p → hl[(i + 1) % hl.length]? = some q → 0 < orP p q orgP)) (fun i _ => hl.length - (intOf i).toNat)
      case atStart => exact ⟨0, by omega, rfl, Gr.refl _, hide (fun i p q hi => absurd hi (Nat.not_lt_zero i))⟩
      case round =>
        obtain ⟨k, hk, rfl, g', HS⟩ := hrel
        by_cases hkl : k < hl.length
        · obtain ⟨p, hp⟩ : ∃ p, hl[k]? = some p := ⟨_, List.getElem?_eq_getElem hkl⟩
          obtain ⟨r1, hr1⟩ : ∃ r1, r1 = (k + 1) % hl.length := ⟨_, rfl⟩
          have hk1 : r1 < hl.length := hr1 ▸ Nat.mod_lt _ ln
          obtain ⟨q, hq⟩ : ∃ q, hl[r1]? = some q := ⟨_, List.getElem?_eq_getElem hk1⟩
          have t1 : Int.tmod ((k : Int) + 1) (hl.length : Int) = (r1 : Int) := by rw [hr1, Int.tmod_eq_emod_of_nonneg (by omega)]; simp
          have m1 : IntKind.i64.wrap ((k : Int) + 1) = (k : Int) + 1 := IntWalk.i64_in _ (by omega)
          have m3 : IntKind.i64.wrap (r1 : Int) = (r1 : Int) := IntWalk.i64_in _ (by omega)
          have z0 : ((hl.length : Int) == 0) = false := by rw [beq_eq_false_iff_ne]; omega
          obtain ⟨b1, o1, rfl, q0, q1, q2, q3⟩ := (HH.out.gr g') k p hp
          obtain ⟨b2, o2, e2, v0, v1, v2, v3⟩ := (HH.out.gr g') r1 q hq
          cases e2
          have hPp := hHP.out p (List.mem_of_getElem? hp)
          have hPq := hHP.out q (List.mem_of_getElem? hq)
          have CO := hide (fun (w' : World) => rorient_pts p q orgP w' hPp hPq org_in)
          have hk00 : (0 : Int) ≤ (k : Int) := by omega
          have hk01 : (k : Int) < (hl.length : Int) := by omega
          have hr00 : (0 : Int) ≤ (r1 : Int) := by omega
          have hr01 : (r1 : Int) < (hl.length : Int) := by omega
          have HP := hide hp
          have HQ := hide (show hl[(k + 1) % hl.length]? = some q by rw [← hr1]; exact hq)
          clear hp hq hr1
          by_cases hle : orP p q orgP ≤ 0
          · have HE := hide (HSN.out k p q HP.out HQ.out hle)
            go_upto_region 14 with fail
            have GC := @GrW.cell
            refine wp_region_grw _ (by kernel_rfl) (by kernel_rfl) (Gr.refl _) ?_
            repeat (go_big_quiet_step ((first | (go_at_call 33; exact quiet_grw (CO.out _)))))
            refine wpQuiet_nil ?_
            intro wq hwq
            obtain ⟨gq, hwq'⟩ := hwq
            subst hwq'
            clear GC
            have gq1 := gq.gr
            generalize gq.w = wq at gq1 ⊢
            obtain ⟨Xq, Yq, cq, fq⟩ := gq1.use
            have sq := gq1.size
            (try simp only [World.size_alloc, World.size_setCell, World.heap_drewN] at sq)
            go_wp2
            go_ret
            exact ⟨false, rfl, ⟨fun h => (by cases h), fun h => absurd h HE.out⟩, (by repeat (first | with_reducible exact Gr.refl _ | with_reducible assumption | with_reducible refine Gr.alloc ?_ _ | with_reducible refine Gr.drewN ?_ _ | with_reducible refine Gr.drew ?_ | with_reducible refine Gr.setCell ?_ (by first | (dsimp only; omega) | (simp only [World.size_alloc]; omega) | (with_reducible refine Gr.size ?_; (repeat (first | with_reducible exact Gr.refl _ | with_reducible assumption | with_reducible refine Gr.alloc ?_ _ | with_reducible refine Gr.drewN ?_ _ | with_reducible refine Gr.drew ?_ | with_reducible refine Gr.trans ?_ (by with_reducible assumption))); done)) _ | with_reducible refine Gr.trans ?_ (by with_reducible assumption)))⟩
          · have HS' := hide (show ∀ i p q, i < k + 1 → hl[i]? = some p → hl[(i + 1) % hl.length]? = some q → 0 < orP p q orgP by
              intro i p' q' hi hp' hq'
              rcases Nat.lt_or_ge i k with h | h
              · exact HS.out i p' q' h hp' hq'
              · obtain rfl : i = k := by omega
                rw [HP.out] at hp'
                rw [HQ.out] at hq'
                obtain rfl := Option.some.inj hp'
                obtain rfl := Option.some.inj hq'
                omega)
            go_upto_region 14 with fail
            have GC := @GrW.cell
            refine wp_region_grw _ (by kernel_rfl) (by kernel_rfl) (Gr.refl _) ?_
            repeat (go_big_quiet_step ((first | (go_at_call 33; exact quiet_grw (CO.out _)))))
            refine wpQuiet_nil ?_
            intro wq hwq
            obtain ⟨gq, hwq'⟩ := hwq
            subst hwq'
            clear GC
            have gq1 := gq.gr
            generalize gq.w = wq at gq1 ⊢
            obtain ⟨Xq, Yq, cq, fq⟩ := gq1.use
            have sq := gq1.size
            (try simp only [World.size_alloc, World.size_setCell, World.heap_drewN] at sq)
            go_wp2
            go_roundw
            case rel => exact ⟨k + 1, by omega, by go_num, g'.trans gq1, HS'⟩
            case measure => simp only [intOf]; omega
        · obtain rfl : k = hl.length := by omega
          have HE := hide (HSY.out (fun i p q hp hq => HS.out i p q (List.getElem?_eq_some_iff.1 hp).1 hp hq))
          go_wp2
          go_ret
          exact ⟨true, rfl, ⟨fun _ => HE.out, fun _ => rfl⟩, gw3.trans g'⟩
end Go.Proofs.YtegehdidfmcflaaDoor
