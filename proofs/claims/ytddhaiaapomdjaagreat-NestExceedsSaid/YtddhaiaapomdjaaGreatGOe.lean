/-
 Nests: ValidatePiece of the reference.
 Nests: ValidatePiece of the reference, at any piece; the law NestValidates.
-/
import Derived.Test.YtddhaiaapomdjaaGreatGNe
set_option linter.unusedVariables false
set_option linter.unusedSimpArgs false
namespace Go.Proofs.YtddhaiaapomdjaaGreat
set_option linter.unusedVariables false
set_option linter.unusedSimpArgs false
open Go Go.ChangeShapes Go.WideShapes Go.ChangeAt Go.RowKit Go.Deep

namespace RG
theorem vp_st {p : Pc} {b : Bool} (h : stE p.nm p.mt p.ga p.gr ≠ 0) : vpE p b = stE p.nm p.mt p.ga p.gr := by
 unfold stE vpE at *
 cases h1 : (nameB p.nm.toList && nameB p.mt.toList) with
 | false => rfl
 | true =>
  rw [h1] at h
  cases h2 : knB p.ga p.gr with
  | false => rfl
  | true => rw [h2] at h; exact absurd rfl h
def vqE (p : Pc) (b : Bool) : Int :=
 if (vaB p.r && (vaB p.c && vaB p.f)) = true then (if boB p.r = true then (if apB ovQ p.r = true then 7 else (if b = true then (if hoFB p.r p.c p.f = true then (if apB toR (p.c ++ p.f) = true then 7 else 0) else 13) else 6)) else 1) else 1
theorem vp_go {p : Pc} {b : Bool} (h : stE p.nm p.mt p.ga p.gr = 0) : vpE p b = if 12 < p.r.length ∨ 12 < p.c.length ∨ 12 < p.f.length then 4 else if p.r.length = 0 then 1 else vqE p b := by
 obtain ⟨h1, h2⟩ := st_good h
 unfold vpE vqE
 rw [h1, h2]
 rfl
def okH (p : Pc) (i : Nat) (x : Rc) : Prop := p.r.any (stB x) = true ∧ (i < p.c.length → x.w ≠ 1 ∧ x.h ≠ 1)
theorem ho_yes {p : Pc} (h : ∀ (i : Nat) (x : Rc), i < (p.c ++ p.f).length → (p.c ++ p.f)[i]? = some x → okH p i x) : hoFB p.r p.c p.f = true := by
 unfold hoFB
 rw [Bool.and_eq_true]
 constructor
 ·refine alls_yes fun j x hj hx => ?_
  obtain ⟨h1, h2⟩ := h j x (by rw [List.length_append]; omega) (by rw [List.getElem?_append_left hj]; exact hx)
  obtain ⟨h3, h4⟩ := h2 hj
  unfold hcB
  simp [h1, h3, h4]
 ·refine alls_yes fun j x hj hx => ?_
  exact (h (p.c.length + j) x (by rw [List.length_append]; omega) (by rw [List.getElem?_append_right (by omega)]; simpa using hx)).1
theorem ho_no1 {p : Pc} {i : Nat} {x : Rc} (hx : (p.c ++ p.f)[i]? = some x) (h : p.r.any (stB x) = false) : hoFB p.r p.c p.f = false := by
 unfold hoFB
 rcases Nat.lt_or_ge i p.c.length with c | c
 ·rw [List.getElem?_append_left c] at hx
  have : p.c.all (hcB p.r) = false := alls_no hx (by unfold hcB; rw [h]; simp)
  rw [this]; rfl
 ·rw [List.getElem?_append_right c] at hx
  have : (p.f.all fun s => p.r.any (stB s)) = false := alls_no (p := fun s => p.r.any (stB s)) hx h
  rw [this]; simp
theorem ho_no2 {p : Pc} {i : Nat} {x : Rc} (hx : (p.c ++ p.f)[i]? = some x) (hi : i < p.c.length) (h : x.w = 1 ∨ x.h = 1) : hoFB p.r p.c p.f = false := by
 unfold hoFB
 rw [List.getElem?_append_left hi] at hx
 have : p.c.all (hcB p.r) = false := alls_no hx (by
  unfold hcB
  rcases h with h | h
  ·rw [h]; rfl
  ·rw [h]; simp)
 rw [this]; rfl
theorem ap_me {l : List Rc} {i : Nat} {r : Rc} (hr : l[i]? = some r) (h : meB r (l.take i) = true) : apB ovQ l = true := by
 unfold meB at h
 obtain ⟨s, hs, e⟩ := List.any_eq_true.1 h
 obtain ⟨j, hj⟩ := List.mem_iff_getElem?.1 hs
 rw [List.getElem?_take] at hj
 split at hj
 ·exact apB_yes hj hr (by assumption) (by rw [ovQ_comm]; exact e)
 ·cases hj
theorem ap_me0 {l : List Rc} (h : ∀ (i : Nat) (r : Rc), i < l.length → l[i]? = some r → meB r (l.take i) = false) : apB ovQ l = false := by
 refine apB_no fun i j hi hj => ?_
 have e1 := List.getElem?_eq_getElem hi
 have e2 := List.getElem?_eq_getElem (show j < l.length by omega)
 rw [pjB_at e2 e1, ovQ_comm]
 cases q : ovQ l[i] (l[j]'(by omega)) with
 | false => rfl
 | true =>
  have := h i _ hi e1
  unfold meB at this
  rw [List.any_eq_false] at this
  exact absurd q (this _ (List.mem_iff_getElem?.2 ⟨j, by rw [List.getElem?_take, if_pos hj]; exact e2⟩))
theorem toR_comm (a b : Rc) : toR a b = toR b a := by unfold toR diR; rw [diV_comm]
structure SlC (w0 : World) (A : Option Addr) (c : Nat) (l : List Rc) : Prop where
 use : ∀ w', Gr w0 w' → SlR w' A c l
set_option maxHeartbeats 16000000 in
set_option maxRecDepth 100000 in
theorem rvp_tail (p : Pc) (b : Bool) (w : World) (hp : PcW w p) (hb : CoB p.r b) (h0 : stE p.nm p.mt p.ga p.gr = 0) (hl : ¬ (12 < p.r.length ∨ 12 < p.c.length ∨ 12 < p.f.length)) (hz : ¬ p.r.length = 0) :
  Calls Tryz.prog 30 #[p.v] w fun e w' => e = .returned (iv (vpE p b)) ∧ Gr w w' := by
 have H1 := hide (fun w' => stuff6_any p.nm p.mt p.ga p.gr w' hp.n1 hp.n2)
 rw [h0] at H1
 have HE := hide (show vpE p b = vqE p b by rw [vp_go h0, if_neg hl, if_neg hz])
 have HP := hide hp
 have HB := hide hb
 have d1 : decide ((p.r.length : Int) > 12) = false := decide_eq_false (by omega)
 have d2 : decide ((p.c.length : Int) > 12) = false := decide_eq_false (by omega)
 have d3 : decide ((p.f.length : Int) > 12) = false := decide_eq_false (by omega)
 have d4 : ((p.r.length : Int) == 0) = false := by
  have : (p.r.length : Int) ≠ 0 := by omega
  simpa using this
 have R1 := hide (fun (w' : World) (g : Gr w w') => rights6_any p.rA p.rc p.r w' (hp.r.gr g))
 have R2 := hide (fun (w' : World) (g : Gr w w') => rights6_any p.cA p.cc p.c w' (hp.c.gr g))
 have R3 := hide (fun (w' : World) (g : Gr w w') => rights6_any p.fA p.fc p.f w' (hp.f.gr g))
 have n1 := hp.r.cap
 have n2 := hp.r.capB
 have hl1 : p.r.length ≤ 12 := by omega
 have hl2 : p.c.length ≤ 12 := by omega
 have hl3 : p.f.length ≤ 12 := by omega
 have hlz : 0 < p.r.length := by omega
 have HLE := hide (fun (w' : World) (g : Gr w w') => least6_any p.rA p.rc p.r w' (hp.r.gr g) hlz)
 clear hp hb h0 hl hz
 generalize vpE p b = E at *
 go_enter Tryz.func30, Tryz.ntmps30
 go_wp2_with (first | (go_at_call 72; refine (H1.out _).mono ?_; rintro e w1 ⟨rfl, rfl⟩))
 have MS := hide (Made.new w #[.string p.nm, .string p.mt, iv p.ga, iv p.gr, .slice p.rA p.r.length p.rc, .slice p.cA p.c.length p.cc, .slice p.fA p.f.length p.fc] 27)
 have g0 : Gr w (w.alloc (.cells #[.string p.nm, .string p.mt, iv p.ga, iv p.gr, .slice p.rA p.r.length p.rc, .slice p.cA p.c.length p.cc, .slice p.fA p.f.length p.fc] 27)) := Gr.alloc (Gr.refl _) _
 generalize w.alloc (.cells #[.string p.nm, .string p.mt, iv p.ga, iv p.gr, .slice p.rA p.r.length p.rc, .slice p.cA p.c.length p.cc, .slice p.fA p.f.length p.fc] 27) = w0 at *
 generalize w.heap.size = b0 at *
 refine (R1.out _ g0).mono ?_
 rintro e w1 ⟨rfl, g1⟩
 cases hv1 : vaB p.r with
 | false =>
  have HX := hide (show E = 1 by rw [HE.out]; unfold vqE; rw [hv1]; rfl)
  clear hv1
  go_wp2
  go_ret
  exact ⟨ret_iv HX.out.symm, (by with_reducible repeat (first | exact Gr.refl _ | assumption | refine Gr.alloc ?_ _ | refine Gr.drewN ?_ _ | refine Gr.drew ?_ | refine Gr.setCell ?_ (by first | (dsimp only; omega) | (simp only [World.size_alloc]; omega)) _ | refine Gr.trans ?_ (by assumption)))⟩
 | true =>
 obtain ⟨l1, q1, _⟩ := MS.out.gr g1
 have a5 := q1 5
 clear q1
 go_wp2_with fail
 refine (R2.out _ (g0.trans g1)).mono ?_
 rintro e w2 ⟨rfl, g2'⟩
 have g2 := g1.trans g2'
 cases hv2 : vaB p.c with
 | false =>
  have HX := hide (show E = 1 by rw [HE.out]; unfold vqE; rw [hv1, hv2]; rfl)
  clear hv1 hv2
  go_wp2
  go_ret
  exact ⟨ret_iv HX.out.symm, (by with_reducible repeat (first | exact Gr.refl _ | assumption | refine Gr.alloc ?_ _ | refine Gr.drewN ?_ _ | refine Gr.drew ?_ | refine Gr.setCell ?_ (by first | (dsimp only; omega) | (simp only [World.size_alloc]; omega)) _ | refine Gr.trans ?_ (by assumption)))⟩
 | true =>
 clear a5 l1
 obtain ⟨l1, q1, _⟩ := MS.out.gr g2
 have a6 := q1 6
 clear q1
 go_wp2_with fail
 refine (R3.out _ (g0.trans g2)).mono ?_
 rintro e w3 ⟨rfl, g3'⟩
 have g3 := g2.trans g3'
 cases hv3 : vaB p.f with
 | false =>
  have HX := hide (show E = 1 by rw [HE.out]; unfold vqE; rw [hv1, hv2, hv3]; rfl)
  clear hv1 hv2 hv3
  go_wp2
  go_ret
  exact ⟨ret_iv HX.out.symm, (by with_reducible repeat (first | exact Gr.refl _ | assumption | refine Gr.alloc ?_ _ | refine Gr.drewN ?_ _ | refine Gr.drew ?_ | refine Gr.setCell ?_ (by first | (dsimp only; omega) | (simp only [World.size_alloc]; omega)) _ | refine Gr.trans ?_ (by assumption)))⟩
 | true =>
 have HE := hide (show E = if boB p.r = true then (if apB ovQ p.r = true then 7 else (if b = true then (if hoFB p.r p.c p.f = true then (if apB toR (p.c ++ p.f) = true then 7 else 0) else 13) else 6)) else 1 by rw [HE.out]; unfold vqE; rw [hv1, hv2, hv3]; rfl)
 have HV1 := hide (vaB_iff.1 hv1)
 have HV2 := hide (vaB_iff.1 hv2)
 have HV3 := hide (vaB_iff.1 hv3)
 clear a6 l1 hv1 hv2 hv3 R1 R2 R3
 obtain ⟨l1, q1, _⟩ := MS.out.gr g3
 have a4 := q1 4
 clear q1
 obtain ⟨r0, hr0, hle⟩ := HLE.out w3 (g0.trans g3)
 have HBO := hide (boB_at hr0)
 have HLF := hide hle
 clear hr0 hle HLE
 generalize mnV p.r (r0.x, r0.y) = z at *
 obtain ⟨zx, zy⟩ := z
 dsimp only at HLF HBO
 go_wp2_with fail
 refine HLF.out.mono ?_
 rintro e w4 ⟨rfl, g4'⟩
 have g4 := g3.trans g4'
 by_cases hzx : zx = 0
 case neg =>
  have e1 : (zx != 0) = true := by simpa using hzx
  have HX := hide (show E = 1 by
   rw [HE.out, if_neg]
   rw [HBO.out]
   simp [hzx])
  clear hzx
  go_wp2
  go_ret
  exact ⟨ret_iv HX.out.symm, (by with_reducible repeat (first | exact Gr.refl _ | assumption | refine Gr.alloc ?_ _ | refine Gr.drewN ?_ _ | refine Gr.drew ?_ | refine Gr.setCell ?_ (by first | (dsimp only; omega) | (simp only [World.size_alloc]; omega)) _ | refine Gr.trans ?_ (by assumption)))⟩
 case pos =>
 by_cases hzy : zy = 0
 case neg =>
  have e1 : (zy != 0) = true := by simpa using hzy
  have HX := hide (show E = 1 by
   rw [HE.out, if_neg]
   rw [HBO.out]
   simp [hzy])
  clear hzy
  subst hzx
  go_wp2
  go_ret
  exact ⟨ret_iv HX.out.symm, (by with_reducible repeat (first | exact Gr.refl _ | assumption | refine Gr.alloc ?_ _ | refine Gr.drewN ?_ _ | refine Gr.drew ?_ | refine Gr.setCell ?_ (by first | (dsimp only; omega) | (simp only [World.size_alloc]; omega)) _ | refine Gr.trans ?_ (by assumption)))⟩
 case pos =>
 have HE := hide (show E = if apB ovQ p.r = true then 7 else (if b = true then (if hoFB p.r p.c p.f = true then (if apB toR (p.c ++ p.f) = true then 7 else 0) else 13) else 6) by
  rw [HE.out, if_pos]
  rw [HBO.out, hzx, hzy]
  rfl)
 subst hzx hzy
 clear a4 l1 HBO HLF g1 g2' g2 g3' g3 g4'
 have MS4 := hide (MS.out.gr g4)
 have gw4 := g0.trans g4
 have HP4 := hide (HP.out.gr gw4)
 clear MS g4 HP H1
 go_wp2_with fail
 go_loopw [6] (fun i wr => ∃ k : Nat, k ≤ p.r.length ∧ i = iv k ∧ Gr w4 wr ∧ Hid (∀ (i : Nat) (r : Rc), i < k → p.r[i]? = some r → meB r (p.r.take i) = false)) (fun i _ => p.r.length - (intOf i).toNat)
 case atStart => exact ⟨0, by omega, rfl, Gr.refl _, hide (fun j r h => absurd h (Nat.not_lt_zero j))⟩
 case round =>
  obtain ⟨k, hk, rfl, g, HS⟩ := hrel
  obtain ⟨l1, q1, _⟩ := MS4.out.gr g
  have a4 := q1 4
  have a5 := q1 5
  have a6 := q1 6
  clear q1
  by_cases hkl : k < p.r.length
  ·obtain ⟨r, hr⟩ : ∃ r, p.r[k]? = some r := ⟨_, List.getElem?_eq_getElem hkl⟩
   obtain ⟨bb, oo, hA, x0, x1, x2, x3⟩ := (HP4.out.r.gr g).at_ hr
   rw [hA] at a4
   have hbl : bb < wr.heap.size := cell_lt (by rw [x0]; rfl)
   have HR := hide hr
   have hk0 : (0 : Int) ≤ (k : Int) := by omega
   have hk1 : (k : Int) < (p.r.length : Int) := by omega
   have hk2 : (k : Int) ≤ (p.rc : Int) := by omega
   have HI := hide (fun (w' : World) (g' : Gr wr w') => show Calls Tryz.prog 50 #[rcv r, .slice (some ⟨bb, oo, none⟩) k p.rc] w' fun e w2 => e = .returned (.bool (meB r (p.r.take k))) ∧ Gr w' w2 from by
    have h := meets6_any r p.rA p.rc (p.r.take k) w' (slr_take (HP4.out.r.gr (g.trans g')) k)
    rw [List.length_take, Nat.min_eq_left (by omega), hA] at h
    exact h)
   clear hr
   cases hv : meB r (p.r.take k) with
   | true =>
    have HX := hide (show E = 7 by rw [HE.out, if_pos (ap_me HR.out hv)])
    rw [hv] at HI
    clear hv
    go_upto_region 14 with fail
    have GC := @GrW.cell
    refine wp_region_grw _ (by kernel_rfl) (by kernel_rfl) (Gr.refl _) ?_
    repeat (go_big_quiet_step ((first | (go_at_call 50; exact quiet_grw (HI.out _ (GrW.gr _))))))
    refine wpQuiet_nil ?_
    intro wq hwq
    obtain ⟨gq, hwq'⟩ := hwq
    subst hwq'
    clear GC
    have gq1 := gq.gr
    generalize gq.w = wq at gq1 ⊢
    obtain ⟨Xq, Yq, cq, fq⟩ := gq1.use
    have sq := gq1.size
    (try simp only [World.size_alloc, World.size_setCell, World.heap_drewN] at sq)
    go_wp2
    go_ret
    exact ⟨ret_iv HX.out.symm, (by with_reducible repeat (first | exact Gr.refl _ | assumption | refine Gr.alloc ?_ _ | refine Gr.drewN ?_ _ | refine Gr.drew ?_ | refine Gr.setCell ?_ (by first | (dsimp only; omega) | (simp only [World.size_alloc]; omega)) _ | refine Gr.trans ?_ (by assumption)))⟩
   | false =>
    have HS' := hide (show ∀ (i : Nat) (r : Rc), i < k + 1 → p.r[i]? = some r → meB r (p.r.take i) = false by
     intro i u hi hu
     rcases Nat.lt_or_ge i k with h | h
     ·exact HS.out i u h hu
     ·obtain rfl : i = k := by omega
      rw [HR.out] at hu
      obtain rfl := Option.some.inj hu
      exact hv)
    rw [hv] at HI
    clear hv
    go_upto_region 14 with fail
    have GC := @GrW.cell
    refine wp_region_grw _ (by kernel_rfl) (by kernel_rfl) (Gr.refl _) ?_
    repeat (go_big_quiet_step ((first | (go_at_call 50; exact quiet_grw (HI.out _ (GrW.gr _))))))
    refine wpQuiet_nil ?_
    intro wq hwq
    obtain ⟨gq, hwq'⟩ := hwq
    subst hwq'
    clear GC
    have gq1 := gq.gr
    generalize gq.w = wq at gq1 ⊢
    obtain ⟨Xq, Yq, cq, fq⟩ := gq1.use
    have sq := gq1.size
    (try simp only [World.size_alloc, World.size_setCell, World.heap_drewN] at sq)
    go_wp2
    go_roundw
    case rel => exact ⟨k + 1, by omega, by go_num, (by with_reducible repeat (first | exact Gr.refl _ | assumption | refine Gr.alloc ?_ _ | refine Gr.drewN ?_ _ | refine Gr.drew ?_ | refine Gr.setCell ?_ (by first | (dsimp only; omega) | (simp only [World.size_alloc]; omega)) _ | refine Gr.trans ?_ (by assumption))), HS'⟩
    case measure => simp only [intOf]; omega
  ·obtain rfl : k = p.r.length := by omega
   have hap := ap_me0 HS.out
   have HE := hide (show E = if b = true then (if hoFB p.r p.c p.f = true then (if apB toR (p.c ++ p.f) = true then 7 else 0) else 13) else 6 by rw [HE.out, hap]; rfl)
   have HCN := hide (fun (w' : World) (g' : Gr wr w') => connected6_any p.rA p.rc p.r b w' (HP4.out.r.gr (g.trans g')) hlz (by omega) HV1.out hap HB.out)
   clear hap HS
   go_wp2_with fail
   refine (HCN.out _ (Gr.refl _)).mono ?_
   rintro e w5 ⟨rfl, g5'⟩
   have g5 := g.trans g5'
   cases b with
   | false =>
    have HX := hide (show E = 6 from HE.out)
    go_wp2
    go_ret
    exact ⟨ret_iv HX.out.symm, (by with_reducible repeat (first | exact Gr.refl _ | assumption | refine Gr.alloc ?_ _ | refine Gr.drewN ?_ _ | refine Gr.drew ?_ | refine Gr.setCell ?_ (by first | (dsimp only; omega) | (simp only [World.size_alloc]; omega)) _ | refine Gr.trans ?_ (by assumption)))⟩
   | true =>
    have HEF := hide (show E = if hoFB p.r p.c p.f = true then (if apB toR (p.c ++ p.f) = true then 7 else 0) else 13 by rw [HE.out, if_pos rfl])
    clear a4 a5 a6 l1 g g5' HCN
    have gw5 := gw4.trans g5
    have MS5 := hide (MS4.out.gr g5)
    obtain ⟨l5, q5, _⟩ := MS5.out
    have a5 := q5 5
    have a6 := q5 6
    clear q5
    have HP5 := hide (HP4.out.gr g5)
    clear MS4 HP4 gw4 g5
    obtain ⟨H, hH⟩ : ∃ H, p.c ++ p.f = H := ⟨_, rfl⟩
    have HH := hide hH
    have hHl : H.length = p.c.length + p.f.length := by rw [← hH, List.length_append]
    have hH24 : H.length ≤ 24 := by omega
    have HHL := hide hHl
    rw [hH] at HEF
    clear hH hHl
    have HOL := hide (fun (w' : World) (g' : Gr (w5.alloc (.cells #[] 70)) w') => (own_lit (c := rcL) (k := 4) w5 w5.heap.size 70 #[] [] (Nat.le_refl _) (fun _ => rfl) rfl (by decide)).gr g')
    have SC1 := hide (fun (w' : World) (g' : Gr w5 w') => HP5.out.c.gr g')
    have SC2 := hide (fun (w' : World) (g' : Gr w5 w') => HP5.out.f.gr g')
    go_upto_region 18 with fail
    go_region_held3 (fun w' => (w'.cell? ⟨b0, 5, none⟩ = some (.slice p.cA p.c.length p.cc) ∧ w'.cell? ⟨b0, 6, none⟩ = some (.slice p.fA p.f.length p.fc)) ∧ b0 < w'.heap.size) (first | exact ⟨⟨a5, a6⟩, l5⟩ | exact ⟨⟨s5, s6⟩, s0⟩ | exact ⟨⟨t5, t6⟩, t0⟩ | (refine ⟨⟨?_, ?_⟩, ?_⟩ <;> first | (simp [go_sem, *]; done) | (simp only [World.size_alloc, World.size_drew, World.heap_drewN]; omega)))
     (first
      | (refine step_app6 (by rfl) _ _ _ (by rfl) elRect w5.heap.size [] p.c p.c (by rfl) _ (by rfl) (HOL.out _ (by with_reducible repeat (first | exact Gr.refl _ | assumption | refine Gr.alloc ?_ _ | refine Gr.drewN ?_ _ | refine Gr.drew ?_ | refine Gr.setCell ?_ (by first | (dsimp only; omega) | (simp only [World.size_alloc]; omega)) _ | refine Gr.trans ?_ (by assumption)))) p.cA p.cc (by rfl) (SC1.out _ (by with_reducible repeat (first | exact Gr.refl _ | assumption | refine Gr.alloc ?_ _ | refine Gr.drewN ?_ _ | refine Gr.drew ?_ | refine Gr.setCell ?_ (by first | (dsimp only; omega) | (simp only [World.size_alloc]; omega)) _ | refine Gr.trans ?_ (by assumption)))) (by simp only [List.length_nil]; omega) (Gr.size (by with_reducible repeat (first | exact Gr.refl _ | assumption | refine Gr.alloc ?_ _ | refine Gr.drewN ?_ _ | refine Gr.drew ?_ | refine Gr.setCell ?_ (by first | (dsimp only; omega) | (simp only [World.size_alloc]; omega)) _ | refine Gr.trans ?_ (by assumption)))) ?_; intro D1 d1' w10 hO10 hg10; (have g10 : Gr w5 w10 := Gr.grown (show Gr w5 _ from (by with_reducible repeat (first | exact Gr.refl _ | assumption | refine Gr.alloc ?_ _ | refine Gr.drewN ?_ _ | refine Gr.drew ?_ | refine Gr.setCell ?_ (by first | (dsimp only; omega) | (simp only [World.size_alloc]; omega)) _ | refine Gr.trans ?_ (by assumption)))) hg10 (fun k hk => (OwnL.lt (HOL.out _ (Gr.refl _)) k hk).1)); (obtain ⟨s5, s0⟩ := c_far a5 l5 (by with_reducible repeat (first | exact Gr.refl _ | assumption | refine Gr.alloc ?_ _ | refine Gr.drewN ?_ _ | refine Gr.drew ?_ | refine Gr.setCell ?_ (by first | (dsimp only; omega) | (simp only [World.size_alloc]; omega)) _ | refine Gr.trans ?_ (by assumption))) hg10 (fun e => by have := (OwnL.lt (HOL.out _ (Gr.refl _)) b0 e.symm).1; omega)); (obtain ⟨s6, _⟩ := c_far a6 l5 (by with_reducible repeat (first | exact Gr.refl _ | assumption | refine Gr.alloc ?_ _ | refine Gr.drewN ?_ _ | refine Gr.drew ?_ | refine Gr.setCell ?_ (by first | (dsimp only; omega) | (simp only [World.size_alloc]; omega)) _ | refine Gr.trans ?_ (by assumption))) hg10 (fun e => by have := (OwnL.lt (HOL.out _ (Gr.refl _)) b0 e.symm).1; omega)))
      | (refine step_app6 (by rfl) _ _ _ (by rfl) elRect w5.heap.size p.c p.f H HH.out _ (by rfl) hO10 p.fA p.fc (by rfl) (SC2.out _ g10) (by omega) g10.size ?_; intro D2 d2' w11 hO11 hg11; (have g11 : Gr w5 w11 := Gr.grown g10 hg11 (fun k hk => (OwnL.lt hO10 k hk).1)); (obtain ⟨t5, t0⟩ := c_far s5 s0 (Gr.refl _) hg11 (fun e => by have := (OwnL.lt hO10 b0 e.symm).1; omega)); (obtain ⟨t6, _⟩ := c_far s6 s0 (Gr.refl _) hg11 (fun e => by have := (OwnL.lt hO10 b0 e.symm).1; omega))))
    have gw11 : Gr w w11 := gw5.trans g11
    have HP11 := hide (HP5.out.gr g11)
    have MS11 := hide (MS5.out.gr g11)
    have HSL := hide (own_slr hO11)
    have h1 := HSL.out.cap
    have h2 := HSL.out.capB
    have HVH := hide (show ∀ x ∈ H, vrR x = true from fun x hx => by
     rw [← HH.out] at hx
     rcases List.mem_append.1 hx with h | h
     ·exact HV2.out x h
     ·exact HV3.out x h)
    clear s5 s6 s0 t5 t6 t0 a5 a6 l5 hO10 hg10 hO11 hg11 g10 g11 gw5 HP5 MS5 SC1 SC2 HOL HV2 HV3
    go_wp2_with fail
    go_loopw [8] (fun i wr => ∃ k : Nat, k ≤ H.length ∧ i = iv k ∧ Gr w11 wr ∧ Hid (∀ (i : Nat) (x : Rc), i < k → H[i]? = some x → okH p i x)) (fun i _ => H.length - (intOf i).toNat)
    case atStart => exact ⟨0, by omega, rfl, (by with_reducible repeat (first | exact Gr.refl _ | assumption | refine Gr.alloc ?_ _ | refine Gr.drewN ?_ _ | refine Gr.drew ?_ | refine Gr.setCell ?_ (by first | (dsimp only; omega) | (simp only [World.size_alloc]; omega)) _ | refine Gr.trans ?_ (by assumption))), hide (fun j r h => absurd h (Nat.not_lt_zero j))⟩
    case round =>
     obtain ⟨k, hk, rfl, g, HS⟩ := hrel
     by_cases hkl : k < H.length
     ·obtain ⟨x, hx⟩ : ∃ x, H[k]? = some x := ⟨_, List.getElem?_eq_getElem hkl⟩
      obtain ⟨l1, q1, _⟩ := MS11.out.gr g
      have a4 := q1 4
      have a5 := q1 5
      clear q1
      obtain ⟨bb, oo, rfl, x0, x1, x2, x3⟩ := (HSL.out.gr g).at_ hx
      have hbl : bb < wr.heap.size := cell_lt (by rw [x0]; rfl)
      have HX0 := hide hx
      have hk0 : (0 : Int) ≤ (k : Int) := by omega
      have hk1 : (k : Int) < (H.length : Int) := by omega
      have HD := hide (fun (w' : World) (g' : Gr wr w') => deep6_any x p.rA p.rc p.r w' (HP11.out.r.gr (g.trans g')) (HVH.out x (List.mem_of_getElem? hx)) HV1.out)
      clear hx
      have HNX := hide (fun (h : okH p k x) => show ∀ (i : Nat) (y : Rc), i < k + 1 → H[i]? = some y → okH p i y from by
       intro i y hi hy
       rcases Nat.lt_or_ge i k with c | c
       ·exact HS.out i y c hy
       ·obtain rfl : i = k := by omega
        rw [HX0.out] at hy
        obtain rfl := Option.some.inj hy
        exact h)
      cases hdp : p.r.any (stB x) with
      | false =>
       have HX := hide (show E = 13 by rw [HEF.out, if_neg]; rw [ho_no1 (by rw [HH.out]; exact HX0.out) hdp]; decide)
       rw [hdp] at HD
       clear hdp
       go_upto_region 22 with fail
       have GC := @GrW.cell
       refine wp_region_grw _ (by kernel_rfl) (by kernel_rfl) (Gr.refl _) ?_
       repeat (go_big_quiet_step ((first | (go_at_call 76; exact quiet_grw (HD.out _ (GrW.gr _))))))
       refine wpQuiet_nil ?_
       intro wq hwq
       obtain ⟨gq, hwq'⟩ := hwq
       subst hwq'
       clear GC
       have gq1 := gq.gr
       generalize gq.w = wq at gq1 ⊢
       obtain ⟨Xq, Yq, cq, fq⟩ := gq1.use
       have sq := gq1.size
       (try simp only [World.size_alloc, World.size_setCell, World.heap_drewN] at sq)
       go_wp2
       go_ret
       exact ⟨ret_iv HX.out.symm, (by with_reducible repeat (first | exact Gr.refl _ | assumption | refine Gr.alloc ?_ _ | refine Gr.drewN ?_ _ | refine Gr.drew ?_ | refine Gr.setCell ?_ (by first | (dsimp only; omega) | (simp only [World.size_alloc]; omega)) _ | refine Gr.trans ?_ (by assumption)))⟩
      | true =>
       have HDP := hide hdp
       rw [hdp] at HD
       clear hdp
       by_cases hkc : k < p.c.length
       case neg =>
        have d5 : decide (k < p.c.length) = false := decide_eq_false hkc
        have HS' := hide (HNX.out ⟨HDP.out, fun e => absurd e hkc⟩)
        clear hkc
        go_upto_region 22 with fail
        have GC := @GrW.cell
        refine wp_region_grw _ (by kernel_rfl) (by kernel_rfl) (Gr.refl _) ?_
        repeat (go_big_quiet_step ((first | (go_at_call 76; exact quiet_grw (HD.out _ (GrW.gr _))))))
        refine wpQuiet_nil ?_
        intro wq hwq
        obtain ⟨gq, hwq'⟩ := hwq
        subst hwq'
        clear GC
        have gq1 := gq.gr
        generalize gq.w = wq at gq1 ⊢
        obtain ⟨Xq, Yq, cq, fq⟩ := gq1.use
        have sq := gq1.size
        (try simp only [World.size_alloc, World.size_setCell, World.heap_drewN] at sq)
        go_wp2
        go_roundw
        case rel => exact ⟨k + 1, by omega, by go_num, (by with_reducible repeat (first | exact Gr.refl _ | assumption | refine Gr.alloc ?_ _ | refine Gr.drewN ?_ _ | refine Gr.drew ?_ | refine Gr.setCell ?_ (by first | (dsimp only; omega) | (simp only [World.size_alloc]; omega)) _ | refine Gr.trans ?_ (by assumption))), HS'⟩
        case measure => simp only [intOf]; omega
       case pos =>
        have d5 : decide (k < p.c.length) = true := decide_eq_true hkc
        by_cases hw : x.w = 1
        case pos =>
         have d6 : (x.w == 1) = true := by simpa using hw
         have HX := hide (show E = 13 by rw [HEF.out, if_neg]; rw [ho_no2 (by rw [HH.out]; exact HX0.out) hkc (.inl hw)]; decide)
         clear hw hkc
         go_upto_region 22 with fail
         have GC := @GrW.cell
         refine wp_region_grw _ (by kernel_rfl) (by kernel_rfl) (Gr.refl _) ?_
         repeat (go_big_quiet_step ((first | (go_at_call 76; exact quiet_grw (HD.out _ (GrW.gr _))))))
         refine wpQuiet_nil ?_
         intro wq hwq
         obtain ⟨gq, hwq'⟩ := hwq
         subst hwq'
         clear GC
         have gq1 := gq.gr
         generalize gq.w = wq at gq1 ⊢
         obtain ⟨Xq, Yq, cq, fq⟩ := gq1.use
         have sq := gq1.size
         (try simp only [World.size_alloc, World.size_setCell, World.heap_drewN] at sq)
         go_wp2
         go_ret
         exact ⟨ret_iv HX.out.symm, (by with_reducible repeat (first | exact Gr.refl _ | assumption | refine Gr.alloc ?_ _ | refine Gr.drewN ?_ _ | refine Gr.drew ?_ | refine Gr.setCell ?_ (by first | (dsimp only; omega) | (simp only [World.size_alloc]; omega)) _ | refine Gr.trans ?_ (by assumption)))⟩
        case neg =>
         have d6 : (x.w == 1) = false := by simpa using hw
         by_cases hh : x.h = 1
         case pos =>
          have d7 : (x.h == 1) = true := by simpa using hh
          have HX := hide (show E = 13 by rw [HEF.out, if_neg]; rw [ho_no2 (by rw [HH.out]; exact HX0.out) hkc (.inr hh)]; decide)
          clear hw hkc hh
          go_upto_region 22 with fail
          have GC := @GrW.cell
          refine wp_region_grw _ (by kernel_rfl) (by kernel_rfl) (Gr.refl _) ?_
          repeat (go_big_quiet_step ((first | (go_at_call 76; exact quiet_grw (HD.out _ (GrW.gr _))))))
          refine wpQuiet_nil ?_
          intro wq hwq
          obtain ⟨gq, hwq'⟩ := hwq
          subst hwq'
          clear GC
          have gq1 := gq.gr
          generalize gq.w = wq at gq1 ⊢
          obtain ⟨Xq, Yq, cq, fq⟩ := gq1.use
          have sq := gq1.size
          (try simp only [World.size_alloc, World.size_setCell, World.heap_drewN] at sq)
          go_wp2
          go_ret
          exact ⟨ret_iv HX.out.symm, (by with_reducible repeat (first | exact Gr.refl _ | assumption | refine Gr.alloc ?_ _ | refine Gr.drewN ?_ _ | refine Gr.drew ?_ | refine Gr.setCell ?_ (by first | (dsimp only; omega) | (simp only [World.size_alloc]; omega)) _ | refine Gr.trans ?_ (by assumption)))⟩
         case neg =>
          have d7 : (x.h == 1) = false := by simpa using hh
          have HS' := hide (HNX.out ⟨HDP.out, fun _ => ⟨hw, hh⟩⟩)
          clear hw hkc hh
          go_upto_region 22 with fail
          have GC := @GrW.cell
          refine wp_region_grw _ (by kernel_rfl) (by kernel_rfl) (Gr.refl _) ?_
          repeat (go_big_quiet_step ((first | (go_at_call 76; exact quiet_grw (HD.out _ (GrW.gr _))))))
          refine wpQuiet_nil ?_
          intro wq hwq
          obtain ⟨gq, hwq'⟩ := hwq
          subst hwq'
          clear GC
          have gq1 := gq.gr
          generalize gq.w = wq at gq1 ⊢
          obtain ⟨Xq, Yq, cq, fq⟩ := gq1.use
          have sq := gq1.size
          (try simp only [World.size_alloc, World.size_setCell, World.heap_drewN] at sq)
          go_wp2
          go_roundw
          case rel => exact ⟨k + 1, by omega, by go_num, (by with_reducible repeat (first | exact Gr.refl _ | assumption | refine Gr.alloc ?_ _ | refine Gr.drewN ?_ _ | refine Gr.drew ?_ | refine Gr.setCell ?_ (by first | (dsimp only; omega) | (simp only [World.size_alloc]; omega)) _ | refine Gr.trans ?_ (by assumption))), HS'⟩
          case measure => simp only [intOf]; omega
     ·obtain rfl : k = H.length := by omega
      have HEG := hide (show E = if apB toR H = true then 7 else 0 by
       rw [HEF.out, if_pos]
       exact ho_yes (fun i x _ hx => by
        rw [HH.out] at hx
        exact HS.out i x (List.getElem?_eq_some_iff.1 hx).1 hx))
      clear HS
      go_wp2
      obtain ⟨wo, hwo⟩ : ∃ x, x = wr := ⟨_, rfl⟩
      subst hwo
      go_loopw [9] (fun i wr => ∃ k : Nat, k ≤ H.length ∧ i = iv k ∧ Gr wo wr ∧ Hid (∀ (i j : Nat), i < k → j < i → pjB toR H j i = false)) (fun i _ => H.length - (intOf i).toNat)
      case atStart => exact ⟨0, by omega, rfl, Gr.refl _, hide (fun i j h _ => absurd h (Nat.not_lt_zero i))⟩
      case round =>
       obtain ⟨k, hk, rfl, g2, HS⟩ := hrel
       by_cases hkl : k < H.length
       ·obtain ⟨x, hx⟩ : ∃ x, H[k]? = some x := ⟨_, List.getElem?_eq_getElem hkl⟩
        have HX0 := hide hx
        have hk0 : (0 : Int) ≤ (k : Int) := by omega
        have hk1 : (k : Int) < (H.length : Int) := by omega
        clear hx
        go_wp2
        obtain ⟨wp, hwp⟩ : ∃ x, x = wr := ⟨_, rfl⟩
        subst hwp
        go_loopw [10] (fun i wr => ∃ j : Nat, j ≤ k ∧ i = iv j ∧ Gr wp wr ∧ Hid (∀ (i : Nat), i < j → pjB toR H i k = false)) (fun i _ => k - (intOf i).toNat)
        case atStart => exact ⟨0, by omega, rfl, Gr.refl _, hide (fun j h => absurd h (Nat.not_lt_zero j))⟩
        case round =>
         obtain ⟨j, hj, rfl, g3, HT⟩ := hrel
         by_cases hjl : j < k
         ·obtain ⟨y, hy⟩ : ∃ y, H[j]? = some y := ⟨_, List.getElem?_eq_getElem (by omega)⟩
          have gg := (g.trans g2).trans g3
          obtain ⟨bb, oo, hA, x0, x1, x2, x3⟩ := (HSL.out.gr gg).at_ HX0.out
          obtain ⟨b2, o2, hA2, y0, y1, y2, y3⟩ := (HSL.out.gr gg).at_ hy
          subst hA
          cases hA2
          have hbl : bb < wr.heap.size := cell_lt (by rw [x0]; rfl)
          have hj0 : (0 : Int) ≤ (j : Int) := by omega
          have hj1 : (j : Int) < (H.length : Int) := by omega
          have HI := hide (fun w' => Apart_any x.x x.y x.w x.h y.x y.y y.w y.h w')
          rw [show diV x.x x.y x.w x.h y.x y.y y.w y.h = diR x y from rfl] at HI
          have HTR := hide (show pjB toR H j k = (diR x y == 0) by rw [pjB_at hy HX0.out, toR_comm]; rfl)
          have HYT := hide (show (diR x y == 0) = true → apB toR H = true from fun e => apB_yes hy HX0.out hjl (by rw [toR_comm]; exact e))
          clear hy
          generalize diR x y = dd at *
          cases hv : (dd == 0) with
          | true =>
           have HX := hide (show E = 7 by rw [HEG.out, if_pos (HYT.out hv)])
           go_upto_region 30 with fail
           have GC := @GrW.cell
           refine wp_region_grw _ (by kernel_rfl) (by kernel_rfl) (Gr.refl _) ?_
           repeat (go_big_quiet_step ((first | (go_at_call 77; exact quiet_grw (HI.out _)))))
           refine wpQuiet_nil ?_
           intro wq hwq
           obtain ⟨gq, hwq'⟩ := hwq
           subst hwq'
           clear GC
           have gq1 := gq.gr
           generalize gq.w = wq at gq1 ⊢
           obtain ⟨Xq, Yq, cq, fq⟩ := gq1.use
           have sq := gq1.size
           (try simp only [World.size_alloc, World.size_setCell, World.heap_drewN] at sq)
           go_wp2
           go_ret
           exact ⟨ret_iv HX.out.symm, (by with_reducible repeat (first | exact Gr.refl _ | assumption | refine Gr.alloc ?_ _ | refine Gr.drewN ?_ _ | refine Gr.drew ?_ | refine Gr.setCell ?_ (by first | (dsimp only; omega) | (simp only [World.size_alloc]; omega)) _ | refine Gr.trans ?_ (by assumption)))⟩
          | false =>
           have HT' := hide (show ∀ (i : Nat), i < j + 1 → pjB toR H i k = false by
            intro i hi
            rcases Nat.lt_or_ge i j with h | h
            ·exact HT.out i h
            ·obtain rfl : i = j := by omega
             rw [HTR.out]
             exact hv)
           go_upto_region 30 with fail
           have GC := @GrW.cell
           refine wp_region_grw _ (by kernel_rfl) (by kernel_rfl) (Gr.refl _) ?_
           repeat (go_big_quiet_step ((first | (go_at_call 77; exact quiet_grw (HI.out _)))))
           refine wpQuiet_nil ?_
           intro wq hwq
           obtain ⟨gq, hwq'⟩ := hwq
           subst hwq'
           clear GC
           have gq1 := gq.gr
           generalize gq.w = wq at gq1 ⊢
           obtain ⟨Xq, Yq, cq, fq⟩ := gq1.use
           have sq := gq1.size
           (try simp only [World.size_alloc, World.size_setCell, World.heap_drewN] at sq)
           go_wp2
           go_roundw
           case rel => exact ⟨j + 1, by omega, by go_num, (by with_reducible repeat (first | exact Gr.refl _ | assumption | refine Gr.alloc ?_ _ | refine Gr.drewN ?_ _ | refine Gr.drew ?_ | refine Gr.setCell ?_ (by first | (dsimp only; omega) | (simp only [World.size_alloc]; omega)) _ | refine Gr.trans ?_ (by assumption))), HT'⟩
           case measure => simp only [intOf]; omega
         ·obtain rfl : j = k := by omega
          have HS' := hide (show ∀ (i m : Nat), i < j + 1 → m < i → pjB toR H m i = false by
           intro i m hi hm
           rcases Nat.lt_or_ge i j with h | h
           ·exact HS.out i m h hm
           ·obtain rfl : i = j := by omega
            exact HT.out m hm)
          go_wp2
          go_roundw
          case rel => exact ⟨j + 1, by omega, by go_num, (by with_reducible repeat (first | exact Gr.refl _ | assumption | refine Gr.alloc ?_ _ | refine Gr.drewN ?_ _ | refine Gr.drew ?_ | refine Gr.setCell ?_ (by first | (dsimp only; omega) | (simp only [World.size_alloc]; omega)) _ | refine Gr.trans ?_ (by assumption))), HS'⟩
          case measure => simp only [intOf]; omega
       ·obtain rfl : k = H.length := by omega
        have HX := hide (show E = 0 by rw [HEG.out, apB_no HS.out]; rfl)
        go_wp2
        go_ret
        exact ⟨ret_iv HX.out.symm, (by with_reducible repeat (first | exact Gr.refl _ | assumption | refine Gr.alloc ?_ _ | refine Gr.drewN ?_ _ | refine Gr.drew ?_ | refine Gr.setCell ?_ (by first | (dsimp only; omega) | (simp only [World.size_alloc]; omega)) _ | refine Gr.trans ?_ (by assumption)))⟩
end RG
end Go.Proofs.YtddhaiaapomdjaaGreat
set_option linter.unusedVariables false
set_option linter.unusedSimpArgs false
namespace Go.Proofs.YtddhaiaapomdjaaGreat
set_option linter.unusedVariables false
set_option linter.unusedSimpArgs false
open Go Go.ChangeShapes Go.WideShapes Go.ChangeAt Go.RowKit Go.Deep

namespace RG
set_option maxHeartbeats 8000000 in
set_option maxRecDepth 100000 in
theorem rValidatePiece_any (p : Pc) (b : Bool) (w : World) (hp : PcW w p) (hb : CoB p.r b) :
  Calls Tryz.prog 30 #[p.v] w fun e w' => e = .returned (iv (vpE p b)) ∧ Gr w w' := by
 by_cases h0 : stE p.nm p.mt p.ga p.gr = 0
 case neg =>
  have H1 := hide (fun w' => stuff6_any p.nm p.mt p.ga p.gr w' hp.n1 hp.n2)
  have HE := hide (vp_st (b := b) h0)
  generalize stE p.nm p.mt p.ga p.gr = E at *
  have hE1 : (E != 0) = true := by simpa using h0
  clear hp hb h0
  go_enter Tryz.func30, Tryz.ntmps30
  go_wp2_with (first | (go_at_call 72; refine (H1.out _).mono ?_; rintro e w1 ⟨rfl, rfl⟩))
  go_ret
  exact ⟨ret_iv HE.out.symm, (by with_reducible repeat (first | exact Gr.refl _ | assumption | refine Gr.alloc ?_ _ | refine Gr.drewN ?_ _ | refine Gr.drew ?_ | refine Gr.setCell ?_ (by first | (dsimp only; omega) | (simp only [World.size_alloc]; omega)) _ | refine Gr.trans ?_ (by assumption)))⟩
 case pos =>
  by_cases hl : 12 < p.r.length ∨ 12 < p.c.length ∨ 12 < p.f.length
  case pos =>
   have H1 := hide (fun w' => stuff6_any p.nm p.mt p.ga p.gr w' hp.n1 hp.n2)
   rw [h0] at H1
   have HX := hide (show vpE p b = 4 by rw [vp_go h0, if_pos hl])
   clear hp hb h0
   by_cases k1 : 12 < p.r.length
   ·have d1 : decide ((p.r.length : Int) > 12) = true := decide_eq_true (by omega)
    clear hl k1
    go_enter Tryz.func30, Tryz.ntmps30
    go_wp2_with (first | (go_at_call 72; refine (H1.out _).mono ?_; rintro e w1 ⟨rfl, rfl⟩))
    go_ret
    exact ⟨ret_iv HX.out.symm, (by with_reducible repeat (first | exact Gr.refl _ | assumption | refine Gr.alloc ?_ _ | refine Gr.drewN ?_ _ | refine Gr.drew ?_ | refine Gr.setCell ?_ (by first | (dsimp only; omega) | (simp only [World.size_alloc]; omega)) _ | refine Gr.trans ?_ (by assumption)))⟩
   ·have d1 : decide ((p.r.length : Int) > 12) = false := decide_eq_false (by omega)
    by_cases k2 : 12 < p.c.length
    ·have d2 : decide ((p.c.length : Int) > 12) = true := decide_eq_true (by omega)
     clear hl k1 k2
     go_enter Tryz.func30, Tryz.ntmps30
     go_wp2_with (first | (go_at_call 72; refine (H1.out _).mono ?_; rintro e w1 ⟨rfl, rfl⟩))
     go_ret
     exact ⟨ret_iv HX.out.symm, (by with_reducible repeat (first | exact Gr.refl _ | assumption | refine Gr.alloc ?_ _ | refine Gr.drewN ?_ _ | refine Gr.drew ?_ | refine Gr.setCell ?_ (by first | (dsimp only; omega) | (simp only [World.size_alloc]; omega)) _ | refine Gr.trans ?_ (by assumption)))⟩
    ·have d2 : decide ((p.c.length : Int) > 12) = false := decide_eq_false (by omega)
     have d3 : decide ((p.f.length : Int) > 12) = true := decide_eq_true (by omega)
     clear hl k1 k2
     go_enter Tryz.func30, Tryz.ntmps30
     go_wp2_with (first | (go_at_call 72; refine (H1.out _).mono ?_; rintro e w1 ⟨rfl, rfl⟩))
     go_ret
     exact ⟨ret_iv HX.out.symm, (by with_reducible repeat (first | exact Gr.refl _ | assumption | refine Gr.alloc ?_ _ | refine Gr.drewN ?_ _ | refine Gr.drew ?_ | refine Gr.setCell ?_ (by first | (dsimp only; omega) | (simp only [World.size_alloc]; omega)) _ | refine Gr.trans ?_ (by assumption)))⟩
  case neg =>
   by_cases hz : p.r.length = 0
   case neg => exact rvp_tail p b w hp hb h0 hl hz
   case pos =>
    have H1 := hide (fun w' => stuff6_any p.nm p.mt p.ga p.gr w' hp.n1 hp.n2)
    rw [h0] at H1
    have HX := hide (show vpE p b = 1 by rw [vp_go h0, if_neg hl, if_pos hz])
    have d1 : decide ((p.r.length : Int) > 12) = false := decide_eq_false (by omega)
    have d2 : decide ((p.c.length : Int) > 12) = false := decide_eq_false (by omega)
    have d3 : decide ((p.f.length : Int) > 12) = false := decide_eq_false (by omega)
    have d4 : ((p.r.length : Int) == 0) = true := by
     have : (p.r.length : Int) = 0 := by omega
     simpa using this
    clear hp hb h0 hl hz
    go_enter Tryz.func30, Tryz.ntmps30
    go_wp2_with (first | (go_at_call 72; refine (H1.out _).mono ?_; rintro e w1 ⟨rfl, rfl⟩))
    go_ret
    exact ⟨ret_iv HX.out.symm, (by with_reducible repeat (first | exact Gr.refl _ | assumption | refine Gr.alloc ?_ _ | refine Gr.drewN ?_ _ | refine Gr.drew ?_ | refine Gr.setCell ?_ (by first | (dsimp only; omega) | (simp only [World.size_alloc]; omega)) _ | refine Gr.trans ?_ (by assumption)))⟩
end RG
end Go.Proofs.YtddhaiaapomdjaaGreat
