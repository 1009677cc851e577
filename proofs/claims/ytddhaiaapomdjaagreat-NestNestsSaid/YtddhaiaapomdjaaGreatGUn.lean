/-
  Nests: the lowest place of a piece that is turned, of the reference.
  Nests, plain: the results of Nest exist, and the placements are right.
  Nests: the first place of a piece on a sheet, of the reference.
-/
import Derived.Test.YtddhaiaapomdjaaGreatGTn
import Derived.Test.YtddhaiaapomdjaaGreatGPn
import Derived.Test.YtddhaiaapomdjaaGreatGNn
import Derived.Test.YtddhaiaapomdjaaGreatGQn
import Derived.Test.YtddhaiaapomdjaaGreatGMn
set_option linter.unusedVariables false
set_option linter.unusedSimpArgs false
namespace Go.Proofs.YtddhaiaapomdjaaGreat
set_option linter.unusedVariables false
set_option linter.unusedSimpArgs false
open Go Go.ChangeShapes Go.WideShapes Go.ChangeAt Go.RowKit Go.Deep

namespace RG
theorem mxW_snoc (l : List Rc) (r : Rc) : mxW (l ++ [r]) = max (mxW l) (r.x + r.w) := by
  unfold mxW
  rw [List.foldl_append]
  rfl
theorem mxH_snoc (l : List Rc) (r : Rc) : mxH (l ++ [r]) = max (mxH l) (r.y + r.h) := by
  unfold mxH
  rw [List.foldl_append]
  rfl
theorem mx_bd {f : Rc → Int} : ∀ {l : List Rc} {a : Int}, (∀ r ∈ l, f r ≤ 1048576) → 0 ≤ a ∧ a ≤ 1048576 → 0 ≤ l.foldl (fun a r => max a (f r)) a ∧ l.foldl (fun a r => max a (f r)) a ≤ 1048576
  | [], _, _, h => h
  | r :: l, a, hl, h => by
    rw [List.foldl_cons]
    have := hl r List.mem_cons_self
    exact mx_bd (fun q hq => hl q (List.mem_cons_of_mem _ hq)) (by omega)
theorem mxW_bd {l : List Rc} (h : ∀ r ∈ l, InM 1048576 r) : 0 ≤ mxW l ∧ mxW l ≤ 1048576 := mx_bd (f := fun r => r.x + r.w) (fun r hr => by
  obtain ⟨_, _, _, _, h5, _⟩ := h r hr
  omega) (by omega)
theorem mxH_bd {l : List Rc} (h : ∀ r ∈ l, InM 1048576 r) : 0 ≤ mxH l ∧ mxH l ≤ 1048576 := mx_bd (f := fun r => r.y + r.h) (fun r hr => by
  obtain ⟨_, _, _, _, _, h6⟩ := h r hr
  omega) (by omega)
theorem made4 (w : World) (a1 a2 a3 a4 : Array Value) (t1 t2 t3 t4 : TypeId) (W : World) (hW : W = (((w.alloc (.cells a1 t1)).alloc (.cells a2 t2)).alloc (.cells a3 t3)).alloc (.cells a4 t4)) :
    (Made W w.heap.size a1 ∧ Made W (w.heap.size + 1) a2 ∧ Made W (w.heap.size + 1 + 1) a3 ∧ Made W (w.heap.size + 1 + 1 + 1) a4) ∧ W.heap.size = w.heap.size + 1 + 1 + 1 + 1 ∧ Gr w W := by
  subst hW
  have e1 := World.size_alloc w (.cells a1 t1)
  have e2 := World.size_alloc (w.alloc (.cells a1 t1)) (.cells a2 t2)
  have e3 := World.size_alloc ((w.alloc (.cells a1 t1)).alloc (.cells a2 t2)) (.cells a3 t3)
  have e4 := World.size_alloc (((w.alloc (.cells a1 t1)).alloc (.cells a2 t2)).alloc (.cells a3 t3)) (.cells a4 t4)
  have m1 := Made.new w a1 t1
  have m2 := Made.new (w.alloc (.cells a1 t1)) a2 t2
  have m3 := Made.new ((w.alloc (.cells a1 t1)).alloc (.cells a2 t2)) a3 t3
  have m4 := Made.new (((w.alloc (.cells a1 t1)).alloc (.cells a2 t2)).alloc (.cells a3 t3)) a4 t4
  rw [e1] at m2 e2
  rw [e2] at m3 e3
  rw [e3] at m4 e4
  exact ⟨⟨m1.gr (by with_reducible repeat (first | exact Gr.refl _ | assumption | refine Gr.alloc ?_ _ | refine Gr.drewN ?_ _ | refine Gr.drew ?_ | refine Gr.setCell ?_ (by first | (dsimp only; omega) | (simp only [World.size_alloc]; omega)) _ | refine Gr.trans ?_ (by assumption))), m2.gr (by with_reducible repeat (first | exact Gr.refl _ | assumption | refine Gr.alloc ?_ _ | refine Gr.drewN ?_ _ | refine Gr.drew ?_ | refine Gr.setCell ?_ (by first | (dsimp only; omega) | (simp only [World.size_alloc]; omega)) _ | refine Gr.trans ?_ (by assumption))), m3.gr (by with_reducible repeat (first | exact Gr.refl _ | assumption | refine Gr.alloc ?_ _ | refine Gr.drewN ?_ _ | refine Gr.drew ?_ | refine Gr.setCell ?_ (by first | (dsimp only; omega) | (simp only [World.size_alloc]; omega)) _ | refine Gr.trans ?_ (by assumption))), m4⟩, e4, (by with_reducible repeat (first | exact Gr.refl _ | assumption | refine Gr.alloc ?_ _ | refine Gr.drewN ?_ _ | refine Gr.drew ?_ | refine Gr.setCell ?_ (by first | (dsimp only; omega) | (simp only [World.size_alloc]; omega)) _ | refine Gr.trans ?_ (by assumption)))⟩
theorem pc_field (nm mt : ByteArray) (ga gr : Int) (A B C : Option Addr) (n m k a b c : Nat) (w : World) : (Instr.field 27 (pcvv nm mt ga gr (.slice A n a) (.slice B m b) (.slice C k c)) 4).run Tryz.prog w = .ok (.slice A n a) w := by kernel_rfl
def plv : Option (Int × Int) → Nat → Value
  | some (x, y), k => atv 0 0 x y k
  | none, _ => atv 0 0 0 0 0
theorem plR_yes {m last top : Int} {aw : Int → List (Int × Int)} {ys : List Int} {i : Nat} {x y : Int} (hu : Up ys) (hi : ys[i]? = some y) (h1 : m ≤ y ∧ y ≤ top) (hx : LoX m (aw y) x) (hl : x ≤ last)
    (hb : ∀ (j : Nat) (y' : Int), j < i → ys[j]? = some y' → m ≤ y' → y' ≤ top → ∃ x', LoX m (aw y') x' ∧ last < x') : PlR m last top aw ys (some (x, y)) := by
  refine ⟨fun x1 y1 e => ?_, fun e => by cases e⟩
  obtain ⟨rfl, rfl⟩ : x = x1 ∧ y = y1 := by simpa using e
  refine ⟨h1, ⟨hx, hl⟩, fun y' hy' hlt a b => ?_⟩
  obtain ⟨j, hj, e⟩ := List.getElem_of_mem hy'
  have hj' : ys[j]? = some y' := by rw [← e]; exact List.getElem?_eq_getElem hj
  refine hb j y' ?_ hj' a b
  refine Nat.lt_of_not_le fun hij => ?_
  obtain ⟨hi1, hi2⟩ := List.getElem?_eq_some_iff.1 hi
  rcases Nat.eq_or_lt_of_le hij with q | q
  · subst q
    rw [hi] at hj'
    have := Option.some.inj hj'
    omega
  · have := (List.pairwise_iff_getElem.1 hu) i j hi1 hj q
    omega
theorem plR_no {m last top : Int} {aw : Int → List (Int × Int)} {ys : List Int} (hb : ∀ (j : Nat) (y' : Int), j < ys.length → ys[j]? = some y' → m ≤ y' → y' ≤ top → ∃ x', LoX m (aw y') x' ∧ last < x') : PlR m last top aw ys none :=
  ⟨(fun x1 y1 e => by cases e), fun _ y' hy' a b => by
    obtain ⟨j, hj, e⟩ := List.getElem_of_mem hy'
    exact hb j y' hj (by rw [← e]; exact List.getElem?_eq_getElem hj) a b⟩
set_option maxHeartbeats 16000000 in
set_option maxRecDepth 100000 in
theorem place6_any (p : Pc) (k : Nat) (s : ShT) (C : Option Addr) (c : Nat) (soft : List Rc) (t : St) (w : World) (hp : PcW w p) (hG : PcG p) (hs : ShW w s) (hS : ShG s) (hso : SlR w C c soft) (vso : ∀ r ∈ soft, vrR r = true) (ns : soft.length ≤ 100) (hg : 0 ≤ t.g ∧ t.g ≤ 14400) (hm : 0 ≤ t.m ∧ t.m ≤ 14400) (hk : k ≤ 3) :
    Calls Tryz.prog 79 #[p.v, iv k, s.v, .slice C soft.length c, stvv t] w fun e w' => ∃ o : Option (Int × Int), FsO (fdV (inmR s.wd s.ht t.m) (tnL p.r k p.r)) (fdB (tnL p.r k p.r) (s.cl ++ s.us) soft t) o ∧ e = .returned (.tuple #[plv o k, .bool o.isSome]) ∧ Gr w w' := by
  have vT := vaB_iff.1 (hG.va k).1
  have vI : ∀ r ∈ tnL p.r k p.r, InM 1048576 r := fun r hr => vrR_iff.1 (vT r hr)
  have vH : ∀ r ∈ s.cl ++ s.us, InM 1048576 r := fun r hr => vrR_iff.1 (hS.v r hr)
  have vS : ∀ r ∈ soft, InM 1048576 r := fun r hr => vrR_iff.1 (vso r hr)
  have hTl : (tnL p.r k p.r).length = p.r.length := by unfold tnL; rw [List.length_map]
  have hT12 : (tnL p.r k p.r).length ≤ 12 := by rw [hTl]; exact hG.n1
  have hH52 := hS.n
  have HTU := hide (fun (w' : World) (g : Gr w w') => show Calls Tryz.prog 84 #[p.v, iv k] w' fun e w'' => ∃ (D1 D2 D3 : Option Addr) (q1 q2 q3 : Nat), e = .returned (pcvv p.nm p.mt p.ga p.gr (.slice D1 (tnL p.r k p.r).length q1) (.slice D2 p.c.length q2) (.slice D3 p.f.length q3)) ∧ SlR w'' D1 q1 (tnL p.r k p.r) ∧ Gr w' w'' from by
    refine (turned6_any p.nm p.mt p.ga p.gr p.rA p.cA p.fA p.rc p.cc p.fc p.r p.c p.f k w' (hp.r.gr g) (hp.c.gr g) (hp.f.gr g) (fun r hr => vrR_iff.1 (vaB_iff.1 hG.vr r hr)) (fun r hr => vrR_iff.1 (vaB_iff.1 hG.vc r hr)) (fun r hr => vrR_iff.1 (vaB_iff.1 hG.vf r hr)) hG.n0 (Nat.le_trans hG.n1 (by decide)) (Nat.le_trans hG.n2 (by decide)) (Nat.le_trans hG.n3 (by decide)) hk).mono ?_
    rintro e w'' ⟨D1, D2, D3, q1, q2, q3, rfl, ⟨s1, _, _⟩, g2⟩
    exact ⟨D1, D2, D3, q1, q2, q3, by rw [hTl], s1.s, g2⟩)
  have HFS := hide (fun (o : Option (Int × Int)) (ys : List Int) (hys : ys = htL t.m (htC (tnL p.r k p.r) (s.cl ++ s.us) soft t)) (h : PlR t.m (s.wd - t.m - mxW (tnL p.r k p.r)) (s.ht - t.m - mxH (tnL p.r k p.r)) (awL (tnL p.r k p.r) (s.cl ++ s.us) soft t) ys o) => show FsO (fdV (inmR s.wd s.ht t.m) (tnL p.r k p.r)) (fdB (tnL p.r k p.r) (s.cl ++ s.us) soft t) o from by
    rw [fdV_mx]
    refine plR_fsO (ys := ys) (fun r hr => ?_) (fun r hr => ?_) hg.1 (fun y hy => ?_) h
    · obtain ⟨h1, h2, _⟩ := vI r hr
      exact ⟨h1, h2⟩
    · obtain ⟨h1, h2, _⟩ := vS r hr
      exact ⟨h1, h2⟩
    · rw [hys]
      exact htL_mem.2 hy)
  have HLO := hide (fun (A : Option Addr) (a : Nat) (B : Option Addr) (b : Nat) (y last : Int) (w' : World) (g : Gr w w') (h1 : SlR w' A a (tnL p.r k p.r)) (h2 : SlR w' B b (s.cl ++ s.us)) (hy : -10000000 ≤ y ∧ y ≤ 10000000) => lowest6_any A a (tnL p.r k p.r) B b (s.cl ++ s.us) C c soft t y last w' h1 h2 (hso.gr g) vI vH vS hy hg hT12 (Nat.le_trans hH52 (by decide)) ns)
  have HHE := hide (fun (A : Option Addr) (a : Nat) (B : Option Addr) (b : Nat) (w' : World) (g : Gr w w') (h1 : SlR w' A a (tnL p.r k p.r)) (h2 : SlR w' B b (s.cl ++ s.us)) => heights6_any A a (tnL p.r k p.r) B b (s.cl ++ s.us) C c soft t w' h1 h2 (hso.gr g) vI vH vS hg hT12 (Nat.le_trans hH52 (by decide)) ns)
  have HSC := hide hs.c
  have HSU := hide hs.u
  have HVI := hide vI
  have hwd := hS.wd
  have hht := hS.ht
  obtain ⟨hm0, hm1⟩ := hm
  have n1 := hs.c.cap
  have n2 := hs.c.capB
  have n3 := hs.u.cap
  have n4 := hs.u.capB
  have n5 := hso.cap
  have n6 := hso.capB
  have n7 := hp.r.cap
  have n8 := hp.r.capB
  have hcl : s.cl.length + s.us.length ≤ 52 := by rw [← List.length_append]; exact hH52
  have HW := hide (mxW_bd vI)
  have HH := hide (mxH_bd vI)
  clear hTl hT12 hH52 vT vI vH vS
  obtain ⟨LL, hLL⟩ : ∃ LL, tnL p.r k p.r = LL := ⟨_, rfl⟩
  obtain ⟨H, hH⟩ : ∃ H, s.cl ++ s.us = H := ⟨_, rfl⟩
  rw [hLL] at HTU HFS HLO HHE HVI HW HH ⊢
  rw [hH] at HFS HLO HHE ⊢
  have HHC := hide hH
  clear hLL hH
  obtain ⟨nm, mt, ga, gr, wd, ht, cA, cc, cl, uA, uc, us⟩ := s
  obtain ⟨nm', mt', ga', gr', rA, rc, rl, cA', cc', cl', fA, fc, fl⟩ := p
  obtain ⟨g, m, cm⟩ := t
  dsimp only at HTU HFS HLO HHE HSC HSU hwd hht hm0 hm1 n1 n2 n3 n4 n7 n8 hcl HHC ⊢
  clear hp hG hs hS hso vso hg
  go_enter Tryz.func79, Tryz.ntmps79
  go_upto_region 1 with fail
  obtain ⟨wl, hwl⟩ : ∃ W, W = (((w.alloc (.cells #[.string nm', .string mt', iv ga', iv gr', .slice rA rl.length rc, .slice cA' cl'.length cc', .slice fA fl.length fc] 27)).alloc (.cells #[.string nm, .string mt, iv ga, iv gr, iv wd, iv ht, .slice cA cl.length cc, .slice uA us.length uc] 24)).alloc (.cells #[iv g, iv m, .bool cm] 29)).alloc (.cells #[iv 0, iv 0, iv 0, iv 0, iv 0] 33) := ⟨_, rfl⟩
  obtain ⟨⟨M5, M7, M9, M10⟩, hsz, gwl⟩ := made4 w _ _ _ _ _ _ _ _ wl hwl
  rw [← hwl]
  clear hwl
  generalize hb10 : w.heap.size + 1 + 1 + 1 = b10 at *
  generalize hb9 : w.heap.size + 1 + 1 = b9 at *
  generalize hb7 : w.heap.size + 1 = b7 at *
  generalize hb5 : w.heap.size = b5 at M5 ⊢
  have HM7 := hide M7
  have HM9 := hide M9
  have HM10 := hide M10
  have hwb : w.heap.size ≤ b10 := by omega
  obtain ⟨l5, y0, _⟩ := M5
  have a0 := y0 0
  have a1 := y0 1
  have a2 := y0 2
  have a3 := y0 3
  have a4 := y0 4
  have a5 := y0 5
  have a6 := y0 6
  clear y0 M7 M9 M10 hb5 hb7 hb9 hb10 hsz
  go_wp2_with (go_at_call 84; refine (HTU.out _ gwl).mono ?_; rintro e w1 ⟨D1, D2, D3, q1, q2, q3, rfl, hs1, g1⟩; (have HS1 := hide hs1); clear hs1; (have hfd := fun w' => pc_field nm' mt' ga' gr' D1 D2 D3 LL.length cl'.length fl.length q1 q2 q3 w'))
  have gw1 : Gr w w1 := gwl.trans g1
  clear a0 a1 a2 a3 a4 a5 a6 l5 hfd
  have p1 := HS1.out.cap
  have p2 := HS1.out.capB
  go_loopw [13, 14, 15] (fun u v i wr => ∃ j : Nat, j ≤ LL.length ∧ i = iv j ∧ u = iv (mxW (LL.take j)) ∧ v = iv (mxH (LL.take j)) ∧ Gr w1 wr) (fun _ _ i _ => LL.length - (intOf i).toNat)
  case atStart => exact ⟨0, by omega, rfl, rfl, rfl, Gr.refl _⟩
  case round =>
    obtain ⟨j, hj, rfl, rfl, rfl, g2⟩ := hrel
    by_cases hjl : j < LL.length
    · obtain ⟨r, hr⟩ : ∃ r, LL[j]? = some r := ⟨_, List.getElem?_eq_getElem hjl⟩
      obtain ⟨b2, o2, hB, x0, x1, x2, x3⟩ := (HS1.out.gr g2).at_ hr
      subst hB
      have hbl : b2 < wr.heap.size := cell_lt (by rw [x0]; rfl)
      have hj0 : (0 : Int) ≤ (j : Int) := by omega
      have hj1 : (j : Int) < (LL.length : Int) := by omega
      obtain ⟨u1, u2, u3, u4, u5, u6⟩ := HVI.out r (List.mem_of_getElem? hr)
      have W1 : IntKind.i64.wrap (r.x + r.w) = r.x + r.w := IntWalk.i64_in _ (by omega)
      have W2 : IntKind.i64.wrap (r.y + r.h) = r.y + r.h := IntWalk.i64_in _ (by omega)
      have HXW := hide (show mxW (LL.take (j + 1)) = max (mxW (LL.take j)) (r.x + r.w) by rw [take_at hr, mxW_snoc])
      have HXH := hide (show mxH (LL.take (j + 1)) = max (mxH (LL.take j)) (r.y + r.h) by rw [take_at hr, mxH_snoc])
      generalize mxW (LL.take j) = X at *
      generalize mxH (LL.take j) = Y at *
      clear hr u1 u2 u3 u4 u5 u6
      go_upto_region 6 with fail
      have GC := @GrW.cell
      refine wp_region_grw _ (by kernel_rfl) (by kernel_rfl) (Gr.refl _) ?_
      repeat (go_big_quiet_step ((first | fail)))
      refine wpQuiet_nil ?_
      intro wq hwq
      obtain ⟨gq, hwq'⟩ := hwq
      subst hwq'
      clear GC
      have gq1 := gq.gr
      generalize gq.w = wq at gq1 ⊢
      obtain ⟨Xq, Yq, cq, fq⟩ := gq1.use
      have sq := gq1.size
      (try simp only [World.size_alloc, World.size_setCell, World.heap_drewN] at sq)
      obtain ⟨wa, rfl⟩ : ∃ x, x = wq := ⟨_, rfl⟩
      have ga := gq1
      have k1 := (ga.cell _ (o2 + j * 4 + 1) hbl).trans x1
      have k3 := (ga.cell _ (o2 + j * 4 + 3) hbl).trans x3
      have hbl' : b2 < wa.heap.size := Nat.lt_of_lt_of_le hbl ga.size
      clear cq fq Xq Yq sq gq gq1 x0 x1 x2 x3 hbl
      go_upto_region 7 with fail
      have GC := @GrW.cell
      refine wp_region_grw _ (by kernel_rfl) (by kernel_rfl) (Gr.refl _) ?_
      repeat (go_big_quiet_step ((first | fail)))
      refine wpQuiet_nil ?_
      intro wq hwq
      obtain ⟨gq, hwq'⟩ := hwq
      subst hwq'
      clear GC
      have gq1 := gq.gr
      generalize gq.w = wq at gq1 ⊢
      obtain ⟨Xq, Yq, cq, fq⟩ := gq1.use
      have sq := gq1.size
      (try simp only [World.size_alloc, World.size_setCell, World.heap_drewN] at sq)
      go_wp2
      go_roundw
      case rel => exact ⟨j + 1, by omega, by go_num, by rw [HXW.out], by rw [HXH.out], (g2.trans ga).trans gq1⟩
      case measure => simp only [intOf]; omega
    · obtain rfl : j = LL.length := by omega
      rw [List.take_length]
      have HW0 := HW.out
      have HH0 := HH.out
      have gw2 : Gr w wr := gw1.trans g2
      have HS2 := hide (HS1.out.gr g2)
      have HM7' := hide ((HM7.out.gr g1).gr g2)
      have HM9' := hide ((HM9.out.gr g1).gr g2)
      have HM10' := hide ((HM10.out.gr g1).gr g2)
      generalize mxW LL = X at *
      generalize mxH LL = Y at *
      obtain ⟨w5, rfl⟩ : ∃ x, x = wr := ⟨_, rfl⟩
      clear HM7 HM9 HM10 HS1 HW HH HTU HVI hj hjl gw1 g1 g2 gwl
      go_upto_region 8 with fail
      obtain ⟨l7, y0, _⟩ := HM7'.out
      have a5 := y0 6
      have a6 := y0 7
      clear y0
      have HOL := hide (fun (w' : World) (g' : Gr (w5.alloc (.cells #[] 70)) w') => (own_lit (c := rcL) (k := 4) w5 w5.heap.size 70 #[] [] (Nat.le_refl _) (fun _ => rfl) rfl (by decide)).gr g')
      have SC1 := hide (fun (w' : World) (g' : Gr w5 w') => HSC.out.gr (gw2.trans g'))
      have SC2 := hide (fun (w' : World) (g' : Gr w5 w') => HSU.out.gr (gw2.trans g'))
      have hHl : H.length = cl.length + us.length := by rw [← HHC.out, List.length_append]
      have HHL := hide hHl
      clear hHl
      go_region_held3 (fun w' => (w'.cell? ⟨b7, 6, none⟩ = some (.slice cA cl.length cc) ∧ w'.cell? ⟨b7, 7, none⟩ = some (.slice uA us.length uc)) ∧ b7 < w'.heap.size) (first | exact ⟨⟨a5, a6⟩, l7⟩ | exact ⟨⟨s5, s6⟩, s0⟩ | exact ⟨⟨t5, t6⟩, t0⟩ | (refine ⟨⟨?_, ?_⟩, ?_⟩ <;> first | (simp [go_sem, *]; done) | (simp only [World.size_alloc, World.size_drew, World.heap_drewN]; omega)))
        (first
          | (refine step_app6 (by rfl) _ _ _ (by rfl) elRect w5.heap.size [] cl cl (by rfl) _ (by rfl) (HOL.out _ (by with_reducible repeat (first | exact Gr.refl _ | assumption | refine Gr.alloc ?_ _ | refine Gr.drewN ?_ _ | refine Gr.drew ?_ | refine Gr.setCell ?_ (by first | (dsimp only; omega) | (simp only [World.size_alloc]; omega)) _ | refine Gr.trans ?_ (by assumption)))) cA cc (by rfl) (SC1.out _ (by with_reducible repeat (first | exact Gr.refl _ | assumption | refine Gr.alloc ?_ _ | refine Gr.drewN ?_ _ | refine Gr.drew ?_ | refine Gr.setCell ?_ (by first | (dsimp only; omega) | (simp only [World.size_alloc]; omega)) _ | refine Gr.trans ?_ (by assumption)))) (by simp only [List.length_nil]; omega) (Gr.size (by with_reducible repeat (first | exact Gr.refl _ | assumption | refine Gr.alloc ?_ _ | refine Gr.drewN ?_ _ | refine Gr.drew ?_ | refine Gr.setCell ?_ (by first | (dsimp only; omega) | (simp only [World.size_alloc]; omega)) _ | refine Gr.trans ?_ (by assumption)))) ?_; intro D1' d1' w10 hO10 hg10; (have g10 : Gr w5 w10 := Gr.grown (show Gr w5 _ from (by with_reducible repeat (first | exact Gr.refl _ | assumption | refine Gr.alloc ?_ _ | refine Gr.drewN ?_ _ | refine Gr.drew ?_ | refine Gr.setCell ?_ (by first | (dsimp only; omega) | (simp only [World.size_alloc]; omega)) _ | refine Gr.trans ?_ (by assumption)))) hg10 (fun k hk => (OwnL.lt (HOL.out _ (Gr.refl _)) k hk).1)); (obtain ⟨s5, s0⟩ := c_far a5 l7 (by with_reducible repeat (first | exact Gr.refl _ | assumption | refine Gr.alloc ?_ _ | refine Gr.drewN ?_ _ | refine Gr.drew ?_ | refine Gr.setCell ?_ (by first | (dsimp only; omega) | (simp only [World.size_alloc]; omega)) _ | refine Gr.trans ?_ (by assumption))) hg10 (fun e => by have := (OwnL.lt (HOL.out _ (Gr.refl _)) b7 e.symm).1; omega)); (obtain ⟨s6, _⟩ := c_far a6 l7 (by with_reducible repeat (first | exact Gr.refl _ | assumption | refine Gr.alloc ?_ _ | refine Gr.drewN ?_ _ | refine Gr.drew ?_ | refine Gr.setCell ?_ (by first | (dsimp only; omega) | (simp only [World.size_alloc]; omega)) _ | refine Gr.trans ?_ (by assumption))) hg10 (fun e => by have := (OwnL.lt (HOL.out _ (Gr.refl _)) b7 e.symm).1; omega)))
          | (refine step_app6 (by rfl) _ _ _ (by rfl) elRect w5.heap.size cl us H HHC.out _ (by rfl) hO10 uA uc (by rfl) (SC2.out _ g10) (by omega) g10.size ?_; intro D2' d2' w11 hO11 hg11; (have g11 : Gr w5 w11 := Gr.grown g10 hg11 (fun k hk => (OwnL.lt hO10 k hk).1)); (obtain ⟨t5, t0⟩ := c_far s5 s0 (Gr.refl _) hg11 (fun e => by have := (OwnL.lt hO10 b7 e.symm).1; omega)); (obtain ⟨t6, _⟩ := c_far s6 s0 (Gr.refl _) hg11 (fun e => by have := (OwnL.lt hO10 b7 e.symm).1; omega))))
      have gw11 : Gr w w11 := gw2.trans g11
      have HSL := hide (own_slr hO11)
      have h1 := HSL.out.cap
      have h2 := HSL.out.capB
      have HS11 := hide (HS2.out.gr g11)
      have HM7b := hide (HM7'.out.gr g11)
      have HM9b := hide (HM9'.out.gr g11)
      have HM10b := hide (HM10'.out.gr g11)
      have HHE2 := hide (HHE.out D1 q1 D2' d2' w11 gw11 HS11.out HSL.out)
      obtain ⟨ys, hys⟩ : ∃ ys, htL m (htC LL H soft ⟨g, m, cm⟩) = ys := ⟨_, rfl⟩
      have HUY := hide (show Up ys by rw [← hys]; exact htL_up _ _)
      have HFZ := hide (fun (o : Option (Int × Int)) (h : PlR m (wd - m - X) (ht - m - Y) (awL LL H soft ⟨g, m, cm⟩) ys o) => HFS.out o ys hys.symm h)
      rw [hys] at HHE2
      clear hys HHE HFS s5 s6 s0 t5 t6 t0 a5 a6 l7 hO10 hg10 hO11 hg11 g10 SC1 SC2 HOL HM7' HM9' HM10' HS2 HHL HSC HSU hcl
      obtain ⟨l9, y0, _⟩ := HM9b.out
      have a90 := y0 0
      have a91 := y0 1
      have a92 := y0 2
      clear y0
      go_wp2_with (go_at_call 121; refine HHE2.out.mono ?_; rintro e w12 ⟨D5, q5, rfl, hs5, g12⟩; (have HS5 := hide hs5); clear hs5)
      have gw12 : Gr w w12 := gw11.trans g12
      have p3 := HS5.out.cap
      have p4 := HS5.out.capB
      have HLO2 := hide (fun (y last : Int) (w' : World) (gx : Gr w12 w') (hy : -10000000 ≤ y ∧ y ≤ 10000000) => HLO.out D1 q1 D2' d2' y last w' (gw12.trans gx) (HS11.out.gr (g12.trans gx)) (HSL.out.gr (g12.trans gx)) hy)
      have HM7c := hide (HM7b.out.gr g12)
      have HM9c := hide (HM9b.out.gr g12)
      have HM10c := hide (HM10b.out.gr g12)
      clear a90 a91 a92 l9 HHE2 HLO HM7b HM9b HM10b
      have W1 : IntKind.i64.wrap (ht - m) = ht - m := IntWalk.i64_in _ (by omega)
      have W2 : IntKind.i64.wrap (ht - m - Y) = ht - m - Y := IntWalk.i64_in _ (by omega)
      have W3 : IntKind.i64.wrap (wd - m) = wd - m := IntWalk.i64_in _ (by omega)
      have W4 : IntKind.i64.wrap (wd - m - X) = wd - m - X := IntWalk.i64_in _ (by omega)
      go_loopw [18] (fun i wr => ∃ j : Nat, j ≤ ys.length ∧ i = iv j ∧ Gr w12 wr ∧ Hid (∀ (i : Nat) (y' : Int), i < j → ys[i]? = some y' → m ≤ y' → y' ≤ ht - m - Y → ∃ x', LoX m (awL LL H soft ⟨g, m, cm⟩ y') x' ∧ wd - m - X < x')) (fun i _ => ys.length - (intOf i).toNat)
      case atStart => exact ⟨0, by omega, rfl, Gr.refl _, hide (fun j y' h => absurd h (Nat.not_lt_zero j))⟩
      case round =>
        obtain ⟨j, hj, rfl, g3, HN⟩ := hrel
        by_cases hjl : j < ys.length
        · obtain ⟨y, hy⟩ : ∃ y, ys[j]? = some y := ⟨_, List.getElem?_eq_getElem hjl⟩
          obtain ⟨b6, o6, hB, c0⟩ := (HS5.out.gr g3).rd.in_ hy
          subst hB
          have hbl : b6 < wr.heap.size := cell_lt (by rw [c0]; rfl)
          have hj0 : (0 : Int) ≤ (j : Int) := by omega
          have hj1 : (j : Int) < (ys.length : Int) := by omega
          obtain ⟨l7, y7, _⟩ := HM7c.out.gr g3
          have a74 := y7 4
          have a75 := y7 5
          obtain ⟨l9, y9, _⟩ := HM9c.out.gr g3
          have a90 := y9 0
          have a91 := y9 1
          have a92 := y9 2
          have HY := hide hy
          clear y7 y9 hy
          obtain ⟨w6, rfl⟩ : ∃ x, x = wr := ⟨_, rfl⟩
          have HNX := hide (fun (h : m ≤ y → y ≤ ht - m - Y → ∃ x', LoX m (awL LL H soft ⟨g, m, cm⟩ y) x' ∧ wd - m - X < x') => show ∀ (i : Nat) (y' : Int), i < j + 1 → ys[i]? = some y' → m ≤ y' → y' ≤ ht - m - Y → ∃ x', LoX m (awL LL H soft ⟨g, m, cm⟩ y') x' ∧ wd - m - X < x' from fun i y' hi hy' a b => by
            rcases Nat.lt_or_ge i j with q | q
            · exact HN.out i y' q hy' a b
            · obtain rfl : i = j := by omega
              rw [HY.out] at hy'
              obtain rfl := Option.some.inj hy'
              exact h a b)
          by_cases c1 : y < m
          · have s1 : decide (y < m) = true := decide_eq_true c1
            have HN2 := hide (HNX.out (fun a _ => by omega))
            clear c1 HN HNX
            go_upto_region 13 with fail
            have GC := @GrW.cell
            refine wp_region_grw _ (by kernel_rfl) (by kernel_rfl) (Gr.refl _) ?_
            repeat (go_big_quiet_step ((first | fail)))
            refine wpQuiet_nil ?_
            intro wq hwq
            obtain ⟨gq, hwq'⟩ := hwq
            subst hwq'
            clear GC
            have gq1 := gq.gr
            generalize gq.w = wq at gq1 ⊢
            obtain ⟨Xq, Yq, cq, fq⟩ := gq1.use
            have sq := gq1.size
            (try simp only [World.size_alloc, World.size_setCell, World.heap_drewN] at sq)
            go_wp2
            go_roundw
            case rel => exact ⟨j + 1, by omega, by go_num, g3.trans gq1, HN2⟩
            case measure => simp only [intOf]; omega
          · have s1 : decide (y < m) = false := decide_eq_false c1
            by_cases c2 : y > ht - m - Y
            · have s2 : decide (y > ht - m - Y) = true := decide_eq_true c2
              have HN2 := hide (HNX.out (fun _ b => by omega))
              clear c1 c2 HN HNX
              go_upto_region 13 with fail
              have GC := @GrW.cell
              refine wp_region_grw _ (by kernel_rfl) (by kernel_rfl) (Gr.refl _) ?_
              repeat (go_big_quiet_step ((first | fail)))
              refine wpQuiet_nil ?_
              intro wq hwq
              obtain ⟨gq, hwq'⟩ := hwq
              subst hwq'
              clear GC
              have gq1 := gq.gr
              generalize gq.w = wq at gq1 ⊢
              obtain ⟨Xq, Yq, cq, fq⟩ := gq1.use
              have sq := gq1.size
              (try simp only [World.size_alloc, World.size_setCell, World.heap_drewN] at sq)
              go_wp2
              go_roundw
              case rel => exact ⟨j + 1, by omega, by go_num, g3.trans gq1, HN2⟩
              case measure => simp only [intOf]; omega
            · have s2 : decide (y > ht - m - Y) = false := decide_eq_false c2
              have HB := hide (show m ≤ y ∧ y ≤ ht - m - Y by omega)
              have HYB := hide (show -10000000 ≤ y ∧ y ≤ 10000000 by omega)
              clear c1 c2
              go_upto_region 13 with fail
              have GC := @GrW.cell
              refine wp_region_grw _ (by kernel_rfl) (by kernel_rfl) (Gr.refl _) ?_
              repeat (go_big_quiet_step ((first | fail)))
              refine wpQuiet_nil ?_
              intro wq hwq
              obtain ⟨gq, hwq'⟩ := hwq
              subst hwq'
              clear GC
              have gq1 := gq.gr
              generalize gq.w = wq at gq1 ⊢
              obtain ⟨Xq, Yq, cq, fq⟩ := gq1.use
              have sq := gq1.size
              (try simp only [World.size_alloc, World.size_setCell, World.heap_drewN] at sq)
              obtain ⟨w7, rfl⟩ : ∃ x, x = wq := ⟨_, rfl⟩
              have g4 : Gr w12 w7 := g3.trans gq1
              have c0' := (gq1.cell _ _ hbl).trans c0
              have hbl' : b6 < w7.heap.size := Nat.lt_of_lt_of_le hbl gq1.size
              clear cq fq Xq Yq sq gq a74 a75 a90 a91 a92 l7 l9 c0 hbl
              obtain ⟨l7, y7, _⟩ := HM7c.out.gr g4
              have a74 := y7 4
              obtain ⟨l9, y9, _⟩ := HM9c.out.gr g4
              have a90 := y9 0
              have a91 := y9 1
              have a92 := y9 2
              clear y7 y9 gq1 g3
              go_upto_region 14 with fail
              go_region_held3 (fun w' => Gr (w7) w' ∧ ∀ ii oo, ii < (w7).heap.size → w'.cell? ⟨ii, oo, none⟩ = (w7).cell? ⟨ii, oo, none⟩) ((refine And.intro ?_ (Gr.cell ?_) <;> ((with_reducible repeat (first | exact Gr.refl _ | assumption | refine Gr.alloc ?_ _ | refine Gr.drewN ?_ _ | refine Gr.drew ?_ | refine Gr.setCell ?_ (by first | (dsimp only; omega) | (simp only [World.size_alloc]; omega)) _ | refine Gr.trans ?_ (by assumption))); done)))
                (first | (go_at_call 122; refine (HLO2.out _ _ _ (g4.trans (by with_reducible repeat (first | exact Gr.refl _ | assumption | refine Gr.alloc ?_ _ | refine Gr.drewN ?_ _ | refine Gr.drew ?_ | refine Gr.setCell ?_ (by first | (dsimp only; omega) | (simp only [World.size_alloc]; omega)) _ | refine Gr.trans ?_ (by assumption)))) HYB.out).mono ?_; rintro e w8 ⟨x, hx, rfl, g8⟩; (have HXL := hide hx); clear hx; obtain ⟨X8, Y8, c8, f8⟩ := g8.use))
              have g78 : Gr w7 w8 := (by with_reducible repeat (first | exact Gr.refl _ | assumption | refine Gr.alloc ?_ _ | refine Gr.drewN ?_ _ | refine Gr.drew ?_ | refine Gr.setCell ?_ (by first | (dsimp only; omega) | (simp only [World.size_alloc]; omega)) _ | refine Gr.trans ?_ (by assumption)))
              have g48 : Gr w12 w8 := g4.trans g78
              have c0'' := (g78.cell _ _ hbl').trans c0'
              have hbl'' : b6 < w8.heap.size := Nat.lt_of_lt_of_le hbl' g78.size
              clear a74 a90 a91 a92 l7 l9 c0' hbl' X8 Y8 c8 f8 g8
              have gw8 : Gr w w8 := gw12.trans g48
              generalize hbb : decide (x ≤ wd - m - X) = bb
              have HBB := hide hbb
              clear hbb
              cases bb with
              | true =>
                have hxl := of_decide_eq_true HBB.out
                have HFIN := hide (HFZ.out (some (x, y)) (plR_yes HUY.out HY.out HB.out HXL.out hxl HN.out))
                obtain ⟨l10, y10, f10⟩ := HM10c.out.gr g48
                have a100 := y10 0
                have a101 := y10 1
                have a102 := y10 2
                have a103 := y10 3
                have a104 := y10 4
                have f100 := f10 0
                have f101 := f10 1
                have f102 := f10 2
                have f103 := f10 3
                have f104 := f10 4
                clear y10 f10 hxl g78 g48 g4 HN HNX
                go_wp2_with fail
                refine bodyPost_ret (v := .tuple #[atv 0 0 x y k, .bool true]) (by simp [results, Tryz.results79, go_sem, *]) rfl ⟨some (x, y), HFIN.out, rfl, (by with_reducible repeat (first | exact Gr.refl _ | assumption | refine Gr.alloc ?_ _ | refine Gr.drewN ?_ _ | refine Gr.drew ?_ | refine Gr.setCell ?_ (by first | (dsimp only; omega) | (simp only [World.size_alloc]; omega)) _ | refine Gr.trans ?_ (by assumption)))⟩
              | false =>
                have hxl := of_decide_eq_false HBB.out
                have HN2 := hide (HNX.out (fun _ _ => ⟨x, HXL.out, by omega⟩))
                clear hxl HN HNX
                go_wp2_with fail
                go_roundw
                case rel => exact ⟨j + 1, by omega, by go_num, g48, HN2⟩
                case measure => simp only [intOf]; omega
        · obtain rfl : j = ys.length := by omega
          have HFIN := hide (HFZ.out none (plR_no HN.out))
          obtain ⟨l10, y10, f10⟩ := HM10c.out.gr g3
          have a100 := y10 0
          have a101 := y10 1
          have a102 := y10 2
          have a103 := y10 3
          have a104 := y10 4
          have f100 := f10 0
          have f101 := f10 1
          have f102 := f10 2
          have f103 := f10 3
          have f104 := f10 4
          have gw8 : Gr w wr := gw12.trans g3
          clear y10 f10 HN
          go_wp2_with fail
          refine bodyPost_ret (v := .tuple #[atv 0 0 0 0 0, .bool false]) (by simp [results, Tryz.results79, go_sem, *]) rfl ⟨none, HFIN.out, rfl, (by with_reducible repeat (first | exact Gr.refl _ | assumption | refine Gr.alloc ?_ _ | refine Gr.drewN ?_ _ | refine Gr.drew ?_ | refine Gr.setCell ?_ (by first | (dsimp only; omega) | (simp only [World.size_alloc]; omega)) _ | refine Gr.trans ?_ (by assumption)))⟩
end RG
end Go.Proofs.YtddhaiaapomdjaaGreat
set_option linter.unusedVariables false
set_option linter.unusedSimpArgs false
namespace Go.Proofs.YtddhaiaapomdjaaGreat
set_option linter.unusedVariables false
set_option linter.unusedSimpArgs false
open Go Go.ChangeShapes Go.WideShapes Go.ChangeAt Go.RowKit Go.Deep

namespace RG
theorem fitR_uniq {s : ShT} {L : List Rc} {p : Pc} {t : St} {r r' : Option (Nat × Int × Int)} (h : FitR s L p t r) (h' : FitR s L p t r') : r = r' := by
  obtain ⟨o, a, b⟩ := h
  obtain ⟨o', a', b'⟩ := h'
  refine ftO_uniq (fun k hk => ?_) b b'
  cases e : alB p.mt s.mt p.ga s.ga p.gr s.gr k with
  | false => rw [a.no k hk e, a'.no k hk e]
  | true => exact fsO_uniq (a.yes k hk e) (a'.yes k hk e)
theorem tkX_congr {Ps : List Pc} {rs rs' : Nat → NsO} (k : Nat) : ∀ i, (∀ j, j < i → rs j = rs' j) → tkX Ps rs k i = tkX Ps rs' k i
  | 0, _ => rfl
  | i + 1, h => by
    rw [tkX, tkX, tkX_congr k i (fun j hj => h j (by omega)), h i (by omega)]
theorem nsR_ex (S : List ShT) (Ps : List Pc) (t : St) : ∃ rs, NsR S Ps t rs := by
  have key : ∀ n, ∃ rs : Nat → NsO, ∀ i p, i < n → Ps[i]? = some p → ∃ r : Nat → Option (Nat × Int × Int), (∀ k s, S[k]? = some s → FitR s (tkX Ps rs k i).flatten p t (r k)) ∧ rs i = fdS S.length r S.length := by
    intro n
    induction n with
    | zero => exact ⟨fun _ => none, fun i p h => absurd h (Nat.not_lt_zero i)⟩
    | succ n ih =>
      obtain ⟨rs, h⟩ := ih
      cases hp : Ps[n]? with
      | none =>
        refine ⟨rs, fun i p hi hip => ?_⟩
        rcases Nat.lt_or_ge i n with q | q
        · exact h i p q hip
        · obtain rfl : i = n := by omega
          rw [hp] at hip
          cases hip
      | some p0 =>
        have hr : ∀ k, ∃ r, ∀ s, S[k]? = some s → FitR s (tkX Ps rs k n).flatten p0 t r := fun k => by
          cases e : S[k]? with
          | none => exact ⟨none, fun s hs => by cases hs⟩
          | some s0 =>
            obtain ⟨r, hr⟩ := fitR_ex s0 (tkX Ps rs k n).flatten p0 t
            exact ⟨r, fun s hs => by obtain rfl := Option.some.inj hs; exact hr⟩
        have hc := fun k => Classical.choose_spec (hr k)
        refine ⟨fun i => if i = n then fdS S.length (fun k => Classical.choose (hr k)) S.length else rs i, fun i p hi hip => ?_⟩
        have hk : ∀ k j, j ≤ n → tkX Ps (fun i => if i = n then fdS S.length (fun k => Classical.choose (hr k)) S.length else rs i) k j = tkX Ps rs k j := fun k j hj => tkX_congr k j fun m hm => if_neg (by omega)
        rcases Nat.lt_or_ge i n with q | q
        · obtain ⟨r, h1, h2⟩ := h i p q hip
          refine ⟨r, fun k s hs => ?_, ?_⟩
          · rw [hk k i (by omega)]
            exact h1 k s hs
          · show (if i = n then _ else rs i) = _
            rw [if_neg (by omega)]
            exact h2
        · obtain rfl : i = n := by omega
          rw [hp] at hip
          obtain rfl := Option.some.inj hip
          refine ⟨fun k => Classical.choose (hr k), fun k s hs => ?_, if_pos rfl⟩
          rw [hk k i (Nat.le_refl _)]
          exact hc k s hs
  obtain ⟨rs, h⟩ := key Ps.length
  exact ⟨rs, fun i p hp => h i p (List.getElem?_eq_some_iff.1 hp).1 hp⟩
theorem eaR_pl {Ps : List Pc} {i j t : Nat} {x y : Int} {p : Pc} (hp : Ps[i]? = some p) : eaR Ps ⟨(i : Int), (j : Int), x, y, (t : Int)⟩ = plc p t x y := by
  unfold eaR
  rw [show (⟨(i : Int), (j : Int), x, y, (t : Int)⟩ : At6).pi.toNat = i from rfl, hp]
  rfl
theorem takL_out {Ps : List Pc} {rs : Nat → NsO} (k : Nat) : ∀ i, i ≤ Ps.length → takL Ps (outL rs i) (k : Int) = tkX Ps rs k i
  | 0, _ => rfl
  | i + 1, h => by
    have ih := takL_out (Ps := Ps) (rs := rs) k i (by omega)
    obtain ⟨p, hp⟩ : ∃ p, Ps[i]? = some p := ⟨_, List.getElem?_eq_getElem (by omega)⟩
    cases hr : rs i with
    | none => rw [(outL_none hr).1, tkX_none hp hr, ih]
    | some v =>
      obtain ⟨j, t, x, y⟩ := v
      rw [(outL_some hr).1, takL_app, ih, tkX_some hp hr]
      have e : eaR Ps ⟨(i : Int), (j : Int), x, y, (t : Int)⟩ = plc p t x y := eaR_pl hp
      rw [e]
      by_cases q : j = k
      · rw [if_pos (by dsimp only; omega), if_pos q]
      · rw [if_neg (by dsimp only; omega), if_neg q, List.append_nil]
theorem out_pi {rs : Nat → NsO} : ∀ i, ∀ a ∈ outL rs i, ∃ m : Nat, m < i ∧ a.pi = m
  | 0, a, h => by simp [outL] at h
  | i + 1, a, h => by
    cases hr : rs i with
    | none =>
      rw [(outL_none hr).1] at h
      obtain ⟨m, h1, h2⟩ := out_pi i a h
      exact ⟨m, by omega, h2⟩
    | some v =>
      obtain ⟨j, t, x, y⟩ := v
      rw [(outL_some hr).1] at h
      rcases List.mem_append.1 h with h | h
      · obtain ⟨m, h1, h2⟩ := out_pi i a h
        exact ⟨m, by omega, h2⟩
      · obtain rfl : a = _ := by simpa using h
        exact ⟨i, by omega, rfl⟩
theorem out_right {S : List ShT} {Ps : List Pc} {bs : Pc → Bool} {t : St} {rs : Nat → NsO} (z3 : ∀ s ∈ S, vsE s = 0) (z4 : ∀ p ∈ Ps, vpE p (bs p) = 0) (z5 : vtB t = true) (hr : NsR S Ps t rs) :
    ∀ i, i ≤ Ps.length → ∀ m z, (outL rs i)[m]? = some z → oneE S Ps t ((outL rs i).take m) z = 0
  | 0, _, m, z, h => by simp [outL] at h
  | i + 1, hi, m, z, h => by
    have ih := out_right z3 z4 z5 hr i (by omega)
    obtain ⟨p, hp⟩ : ∃ p, Ps[i]? = some p := ⟨_, List.getElem?_eq_getElem (by omega)⟩
    cases hk : rs i with
    | none =>
      rw [(outL_none hk).1] at h ⊢
      exact ih m z h
    | some v =>
      obtain ⟨j, u, x, y⟩ := v
      rw [(outL_some hk).1] at h ⊢
      rcases Nat.lt_or_ge m (outL rs i).length with q | q
      · rw [List.getElem?_append_left q] at h
        rw [List.take_append_of_le_length (by omega)]
        exact ih m z h
      · rw [List.getElem?_append_right q] at h
        have hm : m = (outL rs i).length := by
          have := (List.getElem?_eq_some_iff.1 h).1
          simp at this
          omega
        subst hm
        rw [Nat.sub_self] at h
        obtain rfl : _ = z := by simpa using h
        rw [List.take_left' rfl]
        obtain ⟨s, hs, hu, hpg, hsg, hal, hpl⟩ := add6 (bs := bs) z3 z4 z5 hr hp hk
        have hil : i < Ps.length := by omega
        have hjl : j < S.length := (List.getElem?_eq_some_iff.1 hs).1
        have hix : ixB S Ps ⟨(i : Int), (j : Int), x, y, (u : Int)⟩ = true := by
          unfold ixB
          rw [Bool.and_eq_true]
          exact ⟨wiB_iff.2 ⟨by dsimp only; omega, by dsimp only; omega⟩, wiB_iff.2 ⟨by dsimp only; omega, by dsimp only; omega⟩⟩
        obtain ⟨i', j', p', s', e1, e2, hp', hs', hE⟩ := oneE_at hix
        have ei : i' = i := by dsimp only at e1; omega
        have ej : j' = j := by dsimp only at e2; omega
        subst ei ej
        rw [hp] at hp'
        rw [hs] at hs'
        obtain rfl := Option.some.inj hp'
        obtain rfl := Option.some.inj hs'
        rw [hE]
        have hxy := plp_xy hpg hsg (vtB_iff.1 z5).2.1 hpl
        have hpu : puB p ⟨(i' : Int), (j' : Int), x, y, (u : Int)⟩ = true := puB_iff.2 ⟨wiB_iff.2 ⟨by dsimp only; omega, by dsimp only; omega⟩, by rw [Bool.and_eq_true]; exact ⟨wiB_iff.2 hxy.1, wiB_iff.2 hxy.2⟩, put_va hpg hpl⟩
        have hany : ((outL rs i').any fun a => a.pi == (i' : Int)) = false := by
          rw [List.any_eq_false]
          intro a ha
          obtain ⟨m, h1, h2⟩ := out_pi i' a ha
          simp only [beq_iff_eq]
          omega
        have hlw : lwB p.mt p.ga p.gr (mRl p ⟨(i' : Int), (j' : Int), x, y, (u : Int)⟩) s (u : Int) t.m = true := plp_lw hal hpl
        have hcl : ((takL Ps (outL rs i') (j' : Int)).all fun m => !npB (ucB t) (mRl p ⟨(i' : Int), (j' : Int), x, y, (u : Int)⟩) m) = true := by
          rw [takL_out j' i' (by omega), List.all_eq_true]
          intro M hM
          rw [Bool.not_eq_true']
          unfold npB
          rw [List.any_eq_false]
          intro r hrm
          obtain ⟨r0, hr0, rfl⟩ := List.mem_map.1 hrm
          rw [Bool.not_eq_true, List.any_eq_false]
          intro o ho
          rw [hpl.soft r0 hr0 o (List.mem_flatten.2 ⟨M, hM, ho⟩)]
          decide
        unfold oneQ
        dsimp only
        rw [if_pos hpu, if_neg (by rw [hany]; decide), if_pos hlw, if_pos hcl]
end RG
end Go.Proofs.YtddhaiaapomdjaaGreat
set_option linter.unusedVariables false
set_option linter.unusedSimpArgs false
namespace Go.Proofs.YtddhaiaapomdjaaGreat
set_option linter.unusedVariables false
set_option linter.unusedSimpArgs false
open Go Go.ChangeShapes Go.WideShapes Go.ChangeAt Go.RowKit Go.Deep

namespace RG
def bsC : Option (Nat × Int × Int) → Array Value
  | some (t, x, y) => #[iv 0, iv 0, iv x, iv y, iv t]
  | none => #[iv 0, iv 0, iv 0, iv 0, iv 0]
set_option maxHeartbeats 16000000 in
set_option maxRecDepth 100000 in
theorem fit6_any (s : ShT) (C : Option Addr) (c : Nat) (soft : List Rc) (p : Pc) (t : St) (w : World) (hs : ShW w s) (hS : ShG s) (hso : SlR w C c soft) (vso : ∀ r ∈ soft, vrR r = true) (ns : soft.length ≤ 100) (hp : PcW w p) (hG : PcG p) (hg : 0 ≤ t.g ∧ t.g ≤ 14400) (hm : 0 ≤ t.m ∧ t.m ≤ 14400) :
    Calls Tryz.prog 32 #[s.v, .slice C soft.length c, p.v, stvv t] w fun e w' => ∃ r, FitR s soft p t r ∧ e = .returned (.tuple #[fatv r, .bool r.isSome]) ∧ Gr w w' := by
  obtain ⟨r0, hr0⟩ := fitR_ex s soft p t
  obtain ⟨o, ho, hf⟩ := hr0
  have HPL := hide (fun (k : Nat) (hk : k < 4) (ha : alB p.mt s.mt p.ga s.ga p.gr s.gr k = true) (w' : World) (g : Gr w w') => show Calls Tryz.prog 79 #[p.v, iv k, s.v, .slice C soft.length c, stvv t] w' fun e w'' => e = .returned (.tuple #[plv (o k) k, .bool (o k).isSome]) ∧ Gr w' w'' from by
    refine (place6_any p k s C c soft t w' (hp.gr g) hG (hs.gr g) hS (hso.gr g) vso ns hg hm (by omega)).mono ?_
    rintro e w'' ⟨o', h1, rfl, g2⟩
    rw [fsO_uniq (ho.yes k hk ha) h1]
    exact ⟨rfl, g2⟩)
  have HAL := hide (fun (k : Nat) (w' : World) => rAllowed_any p.nm p.mt p.ga p.gr (.slice p.rA p.r.length p.rc) (.slice p.cA p.c.length p.cc) (.slice p.fA p.f.length p.fc) s.nm s.mt s.ga s.gr (iv s.wd) (iv s.ht) (.slice s.cA s.cl.length s.cc) (.slice s.uA s.us.length s.uc) k w')
  have HNO := hide ho.no
  have HFIN := hide (fun (r : Option (Nat × Int × Int)) (h : FtK o 4 r) => show FitR s soft p t r from ⟨o, ho, h.fin⟩)
  have n5 := hso.cap
  have n6 := hso.capB
  have n1 := hs.c.cap
  have n2 := hs.c.capB
  have n3 := hs.u.cap
  have n4 := hs.u.capB
  have n7 := hp.r.cap
  have n8 := hp.r.capB
  obtain ⟨nm, mt, ga, gr, wd, ht, cA, cc, cl, uA, uc, us⟩ := s
  obtain ⟨nm', mt', ga', gr', rA, rc, rl, cA', cc', cl', fA, fc, fl⟩ := p
  obtain ⟨g, m, cm⟩ := t
  dsimp only at HAL HPL HNO n1 n2 n3 n4 n7 n8
  clear hs hS hso vso ns hp hG hg hm ho hf r0
  go_enter Tryz.func32, Tryz.ntmps32
  go_upto_region 2 with fail
  obtain ⟨wl, hwl⟩ : ∃ W, W = ((((w.alloc (.cells #[.string nm, .string mt, iv ga, iv gr, iv wd, iv ht, .slice cA cl.length cc, .slice uA us.length uc] 24)).alloc (.cells #[.string nm', .string mt', iv ga', iv gr', .slice rA rl.length rc, .slice cA' cl'.length cc', .slice fA fl.length fc] 27)).alloc (.cells #[iv g, iv m, .bool cm] 29)).alloc (.cells #[iv 0, iv 0, iv 0, iv 0, iv 0] 33)).alloc (.cells #[iv 0, iv 0, iv 0, iv 0, iv 0] 33) := ⟨_, rfl⟩
  obtain ⟨⟨M4, M6, M7, M8, MB⟩, hsz, gwl⟩ := made5 w _ _ _ _ _ _ _ _ _ _ wl hwl
  rw [← hwl]
  clear hwl
  generalize hb10 : w.heap.size + 1 + 1 + 1 + 1 = b10 at *
  generalize hb8 : w.heap.size + 1 + 1 + 1 = b8 at *
  generalize hb7 : w.heap.size + 1 + 1 = b7 at *
  generalize hb6 : w.heap.size + 1 = b6 at *
  generalize hb4 : w.heap.size = b4 at M4 ⊢
  have hwb : w.heap.size ≤ b8 := by omega
  have hwb' : w.heap.size ≤ b10 := by omega
  have h4 : b4 ≠ b10 := by omega
  have h6 : b6 ≠ b10 := by omega
  have h7 : b7 ≠ b10 := by omega
  have h8 : b8 ≠ b10 := by omega
  have HB := hide (And.intro M4 (And.intro M6 (And.intro M7 M8)))
  have HBB := hide (show Made wl b10 (bsC none) from MB)
  clear M4 M6 M7 M8 MB hsz hb10 hb8 hb7 hb6 hb4
  go_wp2_with fail
  go_loopw [11, 12] (fun fd i wr => ∃ (k : Nat) (r : Option (Nat × Int × Int)) (fb : Bool), k ≤ 4 ∧ i = iv k ∧ fd = .bool fb ∧ Hid (r.isSome = fb) ∧ Hid (FtK o k r) ∧ Hid (Made wr b10 (bsC r)) ∧ Hid (Kx (fun i => i = b10) wl wr)) (fun _ i _ => 4 - (intOf i).toNat)
  case atStart => exact ⟨0, none, false, by omega, rfl, rfl, hide rfl, hide (ftK_zero o), HBB, hide (Kx.refl _ _)⟩
  case round =>
    clear HBB
    obtain ⟨k, r, fb, hk, rfl, rfl, HFB, HR, HM, HK⟩ := hrel
    have gw : Gr w wr := HK.out.toGr gwl (fun i hi => by omega)
    have HBr := hide (And.intro (Made.kx HB.out.1 HK.out h4) (And.intro (Made.kx HB.out.2.1 HK.out h6) (And.intro (Made.kx HB.out.2.2.1 HK.out h7) (Made.kx HB.out.2.2.2 HK.out h8))))
    by_cases hk4 : k < 4
    · have hki : (k : Int) < 4 := by omega
      have hk0 : (0 : Int) ≤ (k : Int) := by omega
      obtain ⟨l4, y4, f4_⟩ := Made.gr HBr.out.1 (Gr.refl wr)
      have a40 := y4 0
      have a41 := y4 1
      have a42 := y4 2
      have a43 := y4 3
      have a44 := y4 4
      have a45 := y4 5
      have a46 := y4 6
      have a47 := y4 7
      clear y4 f4_
      obtain ⟨l6, y6, f6_⟩ := Made.gr HBr.out.2.1 (Gr.refl wr)
      have a60 := y6 0
      have a61 := y6 1
      have a62 := y6 2
      have a63 := y6 3
      have a64 := y6 4
      have a65 := y6 5
      have a66 := y6 6
      clear y6 f6_
      obtain ⟨l7, y7, f7_⟩ := Made.gr HBr.out.2.2.1 (Gr.refl wr)
      have a70 := y7 0
      have a71 := y7 1
      have a72 := y7 2
      clear y7 f7_
      have HA := hide (HAL.out k)
      cases hal : alB mt' mt ga' ga gr' gr k with
      | false =>
        have HR2 := hide (HR.out.none (HNO.out k hk4 hal))
        rw [hal] at HA
        clear hal HR
        go_wp2_with (go_at_call 78; refine (HA.out _).mono ?_; rintro e w1 ⟨rfl, g1⟩)
        go_roundw
        case rel => exact ⟨k + 1, r, fb, by omega, by go_num, rfl, HFB, HR2, hide (HM.out.gr (by with_reducible repeat (first | exact Gr.refl _ | assumption | refine Gr.alloc ?_ _ | refine Gr.drewN ?_ _ | refine Gr.drew ?_ | refine Gr.setCell ?_ (by first | (dsimp only; omega) | (simp only [World.size_alloc]; omega)) _ | refine Gr.trans ?_ (by assumption)))), hide (HK.out.gr (by with_reducible repeat (first | exact Gr.refl _ | assumption | refine Gr.alloc ?_ _ | refine Gr.drewN ?_ _ | refine Gr.drew ?_ | refine Gr.setCell ?_ (by first | (dsimp only; omega) | (simp only [World.size_alloc]; omega)) _ | refine Gr.trans ?_ (by assumption))))⟩
        case measure => simp only [intOf]; omega
      | true =>
        have HF := hide (HPL.out k hk4 hal)
        rw [hal] at HA
        clear hal
        go_wp2_with fail
        refine (HA.out _).mono ?_
        rintro e w1 ⟨rfl, g1⟩
        clear l4 a40 a41 a42 a43 a44 a45 a46 a47 l6 a60 a61 a62 a63 a64 a65 a66 l7 a70 a71 a72
        obtain ⟨l4, y4, f4_⟩ := Made.gr HBr.out.1 g1
        have a40 := y4 0
        have a41 := y4 1
        have a42 := y4 2
        have a43 := y4 3
        have a44 := y4 4
        have a45 := y4 5
        have a46 := y4 6
        have a47 := y4 7
        clear y4 f4_
        obtain ⟨l6, y6, f6_⟩ := Made.gr HBr.out.2.1 g1
        have a60 := y6 0
        have a61 := y6 1
        have a62 := y6 2
        have a63 := y6 3
        have a64 := y6 4
        have a65 := y6 5
        have a66 := y6 6
        clear y6 f6_
        obtain ⟨l7, y7, f7_⟩ := Made.gr HBr.out.2.2.1 g1
        have a70 := y7 0
        have a71 := y7 1
        have a72 := y7 2
        clear y7 f7_
        cases hok : o k with
        | none =>
          have HR2 := hide (HR.out.none hok)
          rw [hok] at HF
          have HF2 := hide (fun (w' : World) (g : Gr w w') => show Calls Tryz.prog 79 #[_, iv k, _, .slice C soft.length c, _] w' fun e w'' => e = .returned (.tuple #[.agg #[iv 0, iv 0, iv 0, iv 0, iv 0], .bool false]) ∧ Gr w' w'' from HF.out w' g)
          clear hok HR HF
          go_wp2_with fail
          refine (HF2.out _ (gw.trans g1)).mono ?_
          rintro e w2 ⟨rfl, g2⟩
          have g12 := g1.trans g2
          clear l4 a40 a41 a42 a43 a44 a45 a46 a47 l6 a60 a61 a62 a63 a64 a65 a66 l7 a70 a71 a72
          go_wp2_with fail
          go_roundw
          case rel => exact ⟨k + 1, r, fb, by omega, by go_num, rfl, HFB, HR2, hide (HM.out.gr (Gr.trans g12 (by with_reducible repeat (first | exact Gr.refl _ | assumption | refine Gr.alloc ?_ _ | refine Gr.drewN ?_ _ | refine Gr.drew ?_ | refine Gr.setCell ?_ (by first | (dsimp only; omega) | (simp only [World.size_alloc]; omega)) _ | refine Gr.trans ?_ (by assumption))))), hide (HK.out.gr (Gr.trans g12 (by with_reducible repeat (first | exact Gr.refl _ | assumption | refine Gr.alloc ?_ _ | refine Gr.drewN ?_ _ | refine Gr.drew ?_ | refine Gr.setCell ?_ (by first | (dsimp only; omega) | (simp only [World.size_alloc]; omega)) _ | refine Gr.trans ?_ (by assumption)))))⟩
          case measure => simp only [intOf]; omega
        | some v =>
          obtain ⟨x, y⟩ := v
          rw [hok] at HF
          have HOK := hide hok
          have HF2 := hide (fun (w' : World) (g : Gr w w') => show Calls Tryz.prog 79 #[_, iv k, _, .slice C soft.length c, _] w' fun e w'' => e = .returned (.tuple #[.agg #[iv 0, iv 0, iv x, iv y, iv k], .bool true]) ∧ Gr w' w'' from HF.out w' g)
          clear hok HF
          go_wp2_with fail
          refine (HF2.out _ (gw.trans g1)).mono ?_
          rintro e w2 ⟨rfl, g2⟩
          have g12 := g1.trans g2
          clear l4 a40 a41 a42 a43 a44 a45 a46 a47 l6 a60 a61 a62 a63 a64 a65 a66 l7 a70 a71 a72
          go_upto_region 7 with fail
          have HA3 := hide (Made.new w2 #[iv 0, iv 0, iv x, iv y, iv k] 33)
          have g13 : Gr wr (w2.alloc (.cells #[iv 0, iv 0, iv x, iv y, iv k] 33)) := Gr.alloc g12 _
          have HM3 := hide (HM.out.gr g13)
          have HK3 := hide (HK.out.gr g13)
          have hb13 : b10 < w2.heap.size := Nat.lt_of_lt_of_le HM.out.1 g12.size
          generalize w2.alloc (.cells #[iv 0, iv 0, iv x, iv y, iv k] 33) = w3 at *
          generalize w2.heap.size = b13 at *
          obtain ⟨l13, y13, f13_⟩ := Made.gr HA3.out (Gr.refl w3)
          have a130 := y13 0
          have a131 := y13 1
          have a132 := y13 2
          have a133 := y13 3
          have a134 := y13 4
          clear y13 f13_
          cases r with
          | none =>
            obtain rfl : false = fb := HFB.out
            obtain ⟨l10, y10, f10_⟩ := Made.gr (show Made w3 b10 #[iv 0, iv 0, iv 0, iv 0, iv 0] from HM3.out) (Gr.refl w3)
            have a100 := y10 0
            have a101 := y10 1
            have a102 := y10 2
            have a103 := y10 3
            have a104 := y10 4
            have f100 := f10_ 0
            have f101 := f10_ 1
            have f102 := f10_ 2
            have f103 := f10_ 3
            have f104 := f10_ 4
            clear y10 f10_
            have HR2 := hide (HR.out.first HOK.out)
            clear HR HFB
            go_wp2_with fail
            go_roundw
            case rel => exact ⟨k + 1, some (k, x, y), true, by omega, by go_num, rfl, hide rfl, HR2, hide (show Made (setL w3 b10 0 [iv 0, iv 0, iv x, iv y, iv k]) b10 (bsC (some (k, x, y))) from Made.setL HM3.out [iv 0, iv 0, iv x, iv y, iv k] rfl), hide (((((HK3.out.set 0 _ (.inl rfl)).set 1 _ (.inl rfl)).set 2 _ (.inl rfl)).set 3 _ (.inl rfl)).set 4 _ (.inl rfl))⟩
            case measure => simp only [intOf]; omega
          | some v =>
            obtain ⟨t0, x0, y0⟩ := v
            obtain rfl : true = fb := HFB.out
            obtain ⟨l10, y10, f10_⟩ := Made.gr (show Made w3 b10 #[iv 0, iv 0, iv x0, iv y0, iv t0] from HM3.out) (Gr.refl w3)
            have a100 := y10 0
            have a101 := y10 1
            have a102 := y10 2
            have a103 := y10 3
            have a104 := y10 4
            have f100 := f10_ 0
            have f101 := f10_ 1
            have f102 := f10_ 2
            have f103 := f10_ 3
            have f104 := f10_ 4
            clear y10 f10_
            by_cases c1 : y < y0
            · have d1 : decide (y < y0) = true := decide_eq_true c1
              have HR2 := hide (HR.out.better HOK.out (.inl c1))
              clear HR HFB c1
              go_wp2_with fail
              go_roundw
              case rel => exact ⟨k + 1, some (k, x, y), true, by omega, by go_num, rfl, hide rfl, HR2, hide (show Made (setL w3 b10 0 [iv 0, iv 0, iv x, iv y, iv k]) b10 (bsC (some (k, x, y))) from Made.setL HM3.out [iv 0, iv 0, iv x, iv y, iv k] rfl), hide (((((HK3.out.set 0 _ (.inl rfl)).set 1 _ (.inl rfl)).set 2 _ (.inl rfl)).set 3 _ (.inl rfl)).set 4 _ (.inl rfl))⟩
              case measure => simp only [intOf]; omega
            · have d1 : decide (y < y0) = false := decide_eq_false c1
              by_cases c2 : y = y0
              · have d2 : (y == y0) = true := by simpa using c2
                by_cases c3 : x < x0
                · have d3 : decide (x < x0) = true := decide_eq_true c3
                  have HR2 := hide (HR.out.better HOK.out (.inr ⟨c2, c3⟩))
                  clear HR HFB c1 c2 c3
                  go_wp2_with fail
                  go_roundw
                  case rel => exact ⟨k + 1, some (k, x, y), true, by omega, by go_num, rfl, hide rfl, HR2, hide (show Made (setL w3 b10 0 [iv 0, iv 0, iv x, iv y, iv k]) b10 (bsC (some (k, x, y))) from Made.setL HM3.out [iv 0, iv 0, iv x, iv y, iv k] rfl), hide (((((HK3.out.set 0 _ (.inl rfl)).set 1 _ (.inl rfl)).set 2 _ (.inl rfl)).set 3 _ (.inl rfl)).set 4 _ (.inl rfl))⟩
                  case measure => simp only [intOf]; omega
                · have d3 : decide (x < x0) = false := decide_eq_false c3
                  have HR2 := hide (HR.out.worse HOK.out (by omega))
                  clear HR c1 c2 c3
                  go_wp2_with fail
                  go_roundw
                  case rel => exact ⟨k + 1, some (t0, x0, y0), true, by omega, by go_num, rfl, hide rfl, HR2, HM3, HK3⟩
                  case measure => simp only [intOf]; omega
              · have d2 : (y == y0) = false := by simpa using c2
                have HR2 := hide (HR.out.worse HOK.out (by omega))
                clear HR c1 c2
                go_wp2_with fail
                go_roundw
                case rel => exact ⟨k + 1, some (t0, x0, y0), true, by omega, by go_num, rfl, hide rfl, HR2, HM3, HK3⟩
                case measure => simp only [intOf]; omega
    · obtain rfl : k = 4 := by omega
      have HX := hide (HFIN.out r HR.out)
      obtain ⟨l8, y8, f8_⟩ := Made.gr HBr.out.2.2.2 (Gr.refl wr)
      have a80 := y8 0
      have a81 := y8 1
      have a82 := y8 2
      have a83 := y8 3
      have a84 := y8 4
      have f80 := f8_ 0
      have f81 := f8_ 1
      have f82 := f8_ 2
      have f83 := f8_ 3
      have f84 := f8_ 4
      clear y8 f8_
      have HV := hide (show ∃ v2 v3 v4, bsC r = #[iv 0, iv 0, iv v2, iv v3, iv v4] ∧ fatv r = atv 0 0 v2 v3 v4 from by
        rcases r with _ | ⟨t, x, y⟩
        · exact ⟨_, _, _, rfl, rfl⟩
        · exact ⟨_, _, _, rfl, rfl⟩)
      obtain ⟨v2, v3, v4, hv1, hv2⟩ := HV.out
      have HM2 := HM.out
      rw [hv1] at HM2
      obtain ⟨l10, y10, _⟩ := HM2
      have a100 := y10 0
      have a101 := y10 1
      have a102 := y10 2
      have a103 := y10 3
      have a104 := y10 4
      have HFA := hide hv2
      clear y10 hv1 hv2 HV HM HK HR HFIN
      go_wp2_with fail
      refine bodyPost_ret (v := .tuple #[atv 0 0 v2 v3 v4, .bool fb]) (by simp [results, Tryz.results32, go_sem, *]) rfl ⟨r, HX.out, by rw [HFA.out, HFB.out], (by with_reducible repeat (first | exact Gr.refl _ | assumption | refine Gr.alloc ?_ _ | refine Gr.drewN ?_ _ | refine Gr.drew ?_ | refine Gr.setCell ?_ (by first | (dsimp only; omega) | (simp only [World.size_alloc]; omega)) _ | refine Gr.trans ?_ (by assumption)))⟩
end RG
end Go.Proofs.YtddhaiaapomdjaaGreat
