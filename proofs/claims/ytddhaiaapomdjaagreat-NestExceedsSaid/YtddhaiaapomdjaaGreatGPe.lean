/-
 Nests: the reference's Shift and quarter.
 Nests: the reference's Move and Turned.
 Nests: the reference's Turned.
 Nests: the reference's Put where it refuses.
 Nests: the reference's Put where nothing is refused.
 Nests: the law NestPuts.
-/
import Derived.Test.YtddhaiaapomdjaaGreatGOe
import Derived.Deep.Cut
import Derived.Test.YtddhaiaapomdjaaGreatGLe
set_option linter.unusedVariables false
set_option linter.unusedSimpArgs false
namespace Go.Proofs.YtddhaiaapomdjaaGreat
set_option linter.unusedVariables false
set_option linter.unusedSimpArgs false
open Go Go.ChangeShapes Go.WideShapes Go.ChangeAt Go.RowKit Go.Deep

namespace RG
def smR (B : Int) (r : Rc) : Prop := ((-B ≤ r.x ∧ r.x ≤ B) ∧ -B ≤ r.y ∧ r.y ≤ B) ∧ (0 ≤ r.w ∧ r.w ≤ B) ∧ 0 ≤ r.h ∧ r.h ≤ B
set_option maxHeartbeats 8000000 in
set_option maxRecDepth 100000 in
theorem shift6_any (A : Option Addr) (c : Nat) (l : List Rc) (x y : Int) (w : World) (hl : SlR w A c l) (hv : ∀ r ∈ l, smR 1000000000 r) (hx : -1000000000 ≤ x ∧ x ≤ 1000000000) (hy : -1000000000 ≤ y ∧ y ≤ 1000000000) (hn : l.length ≤ 1000) :
  Calls Tryz.prog 124 #[.slice A l.length c, iv x, iv y] w fun e w' => ∃ (D : Option Addr) (q : Nat), e = .returned (.slice D l.length q) ∧ OwnL w' w.heap.size 70 4 rcL (.slice D l.length q) (l.map (mvR x y)) ∧ Gr w w' := by
 have n1 := hl.cap
 have n2 := hl.capB
 have HL := hide hl
 have HV := hide hv
 obtain ⟨hx0, hx1⟩ := hx
 obtain ⟨hy0, hy1⟩ := hy
 clear hl hv
 go_enter Tryz.func124, Tryz.ntmps124
 go_wp2
 go_loopw [7, 9] (fun v i wr => ∃ (k : Nat) (O : List Rc) (A' : Option Addr) (d' : Nat), k ≤ l.length ∧ i = iv k ∧ v = .slice A' k d' ∧ Gr w wr ∧ Hid (OwnL wr w.heap.size 70 4 rcL (.slice A' k d') O) ∧ Hid (O = (l.take k).map (mvR x y)) ∧ Hid (O.length = k)) (fun _ i _ => l.length - (intOf i).toNat)
 case atStart => exact ⟨0, [], none, 0, by omega, rfl, rfl, Gr.refl _, hide (own_nil _ _ _ _ _), hide (by simp), hide rfl⟩
 case round =>
  obtain ⟨k, O, A1, d1, hk, rfl, rfl, g, hO, HE, HOL⟩ := hrel
  by_cases hkl : k < l.length
  ·obtain ⟨r, hr⟩ : ∃ r, l[k]? = some r := ⟨_, List.getElem?_eq_getElem hkl⟩
   obtain ⟨b, o, rfl, x0, x1, x2, x3⟩ := (HL.out.gr g).at_ hr
   have hbl : b < wr.heap.size := cell_lt (by rw [x0]; rfl)
   obtain ⟨⟨⟨v1, v2⟩, v3, v4⟩, _⟩ := HV.out r (List.mem_of_getElem? hr)
   have hk0 : (0 : Int) ≤ (k : Int) := by omega
   have hk1 : (k : Int) < (l.length : Int) := by omega
   obtain ⟨O2, hO2⟩ : ∃ O2, O ++ [mvR x y r] = O2 := ⟨_, rfl⟩
   have HE' := hide (show O2 = (l.take (k + 1)).map (mvR x y) by rw [← hO2, HE.out, take_at hr]; simp)
   have HOL' := hide (show O2.length = k + 1 by rw [← hO2, List.length_append, HOL.out]; rfl)
   have HO2 := hide hO2
   have c1 : decide (r.x > -2147483648) = true := decide_eq_true (by omega)
   have c2 : decide (r.x < 2147483648) = true := decide_eq_true (by omega)
   have c3 : decide (r.y > -2147483648) = true := decide_eq_true (by omega)
   have c4 : decide (r.y < 2147483648) = true := decide_eq_true (by omega)
   have W1 : IntKind.i64.wrap (r.x + x) = r.x + x := IntWalk.i64_in _ (by omega)
   have W2 : IntKind.i64.wrap (r.y + y) = r.y + y := IntWalk.i64_in _ (by omega)
   clear hr hO2
   go_wp2_with (refine wpList_app1 rfl _ _ _ rfl rcL w.heap.size 70 4 32 elRect (by decide) O (mvR x y r) O2 HO2.out _ (by rw [HOL.out]; rfl) (OwnL.gr (show OwnL wr w.heap.size 70 4 rcL (.slice A1 O.length d1) O from by rw [HOL.out]; exact hO.out) (by with_reducible repeat (first | exact Gr.refl _ | assumption | refine Gr.alloc ?_ _ | refine Gr.drewN ?_ _ | refine Gr.drew ?_ | refine Gr.setCell ?_ (by first | (dsimp only; omega) | (simp only [World.size_alloc]; omega)) _ | refine Gr.trans ?_ (by assumption)))) _ 1 rfl rfl (by intro j u hu; refine newsB _ _ #[iv (r.x + x), iv (r.y + y), iv r.w, iv r.h] 70 j u ?_; exact hu) (one_rc _) (by rw [HOL.out]; omega) (by decide) (by simp only [World.size_alloc]; have := g.size; omega) ?_; intro gg cap1 w8 hO8 hG8 hgrow hgb hg8)
   have HO8 := hide (show OwnL w8 w.heap.size 70 4 rcL (.slice (some ⟨gg, 0, none⟩) (k + 1) cap1) O2 from by have := hO8; rwa [HOL'.out] at this)
   have g8 := hG8 w (g.trans (by with_reducible repeat (first | exact Gr.refl _ | assumption | refine Gr.alloc ?_ _ | refine Gr.drewN ?_ _ | refine Gr.drew ?_ | refine Gr.setCell ?_ (by first | (dsimp only; omega) | (simp only [World.size_alloc]; omega)) _ | refine Gr.trans ?_ (by assumption)))) (Nat.le_refl _)
   have e8 := HOL'.out
   clear hG8 hO8 hgrow
   rw [e8]
   clear e8
   go_roundw
   case rel => exact ⟨k + 1, O2, some ⟨gg, 0, none⟩, cap1, by omega, by go_num, rfl, g8, HO8, HE', HOL'⟩
   case measure => simp only [intOf]; omega
  ·obtain rfl : k = l.length := by omega
   have HR := hide (show OwnL wr w.heap.size 70 4 rcL (.slice A1 l.length d1) (l.map (mvR x y)) by
    have e := HE.out
    rw [List.take_length] at e
    rw [← e]
    exact hO.out)
   clear hO HE HOL
   go_wp2
   go_ret
   exact ⟨A1, d1, rfl, HR.out, g⟩
set_option maxHeartbeats 8000000 in
set_option maxRecDepth 100000 in
theorem quarter6_any (A : Option Addr) (c : Nat) (l : List Rc) (w : World) (hl : SlR w A c l) (hv : ∀ r ∈ l, smR 1000000000 r) (hn : l.length ≤ 1000) :
  Calls Tryz.prog 125 #[.slice A l.length c] w fun e w' => ∃ (D : Option Addr) (q : Nat), e = .returned (.slice D l.length q) ∧ OwnL w' w.heap.size 70 4 rcL (.slice D l.length q) (l.map R1) ∧ Gr w w' := by
 have n1 := hl.cap
 have n2 := hl.capB
 have HL := hide hl
 have HV := hide hv
 clear hl hv
 go_enter Tryz.func125, Tryz.ntmps125
 go_wp2
 go_loopw [3, 4] (fun v i wr => ∃ (k : Nat) (O : List Rc) (A' : Option Addr) (d' : Nat), k ≤ l.length ∧ i = iv k ∧ v = .slice A' k d' ∧ Gr w wr ∧ Hid (OwnL wr w.heap.size 70 4 rcL (.slice A' k d') O) ∧ Hid (O = (l.take k).map R1) ∧ Hid (O.length = k)) (fun _ i _ => l.length - (intOf i).toNat)
 case atStart => exact ⟨0, [], none, 0, by omega, rfl, rfl, Gr.refl _, hide (own_nil _ _ _ _ _), hide (by simp), hide rfl⟩
 case round =>
  obtain ⟨k, O, A1, d1, hk, rfl, rfl, g, hO, HE, HOL⟩ := hrel
  by_cases hkl : k < l.length
  ·obtain ⟨r, hr⟩ : ∃ r, l[k]? = some r := ⟨_, List.getElem?_eq_getElem hkl⟩
   obtain ⟨b, o, rfl, x0, x1, x2, x3⟩ := (HL.out.gr g).at_ hr
   have hbl : b < wr.heap.size := cell_lt (by rw [x0]; rfl)
   obtain ⟨⟨⟨v1, v2⟩, v3, v4⟩, ⟨v5, v6⟩, v7, v8⟩ := HV.out r (List.mem_of_getElem? hr)
   have hk0 : (0 : Int) ≤ (k : Int) := by omega
   have hk1 : (k : Int) < (l.length : Int) := by omega
   obtain ⟨O2, hO2⟩ : ∃ O2, O ++ [R1 r] = O2 := ⟨_, rfl⟩
   have HE' := hide (show O2 = (l.take (k + 1)).map R1 by rw [← hO2, HE.out, take_at hr]; simp)
   have HOL' := hide (show O2.length = k + 1 by rw [← hO2, List.length_append, HOL.out]; rfl)
   have HO2 := hide hO2
   have W1 : IntKind.i64.wrap (r.y + r.h) = r.y + r.h := IntWalk.i64_in _ (by omega)
   have W2 : IntKind.i64.wrap (-(r.y + r.h)) = -(r.y + r.h) := IntWalk.i64_in _ (by omega)
   clear hr hO2
   go_wp2_with (refine wpList_app1 rfl _ _ _ rfl rcL w.heap.size 70 4 32 elRect (by decide) O (R1 r) O2 HO2.out _ (by rw [HOL.out]; rfl) (OwnL.gr (show OwnL wr w.heap.size 70 4 rcL (.slice A1 O.length d1) O from by rw [HOL.out]; exact hO.out) (by with_reducible repeat (first | exact Gr.refl _ | assumption | refine Gr.alloc ?_ _ | refine Gr.drewN ?_ _ | refine Gr.drew ?_ | refine Gr.setCell ?_ (by first | (dsimp only; omega) | (simp only [World.size_alloc]; omega)) _ | refine Gr.trans ?_ (by assumption)))) _ 1 rfl rfl (by intro j u hu; refine newsB _ _ #[iv (-(r.y + r.h)), iv r.x, iv r.h, iv r.w] 70 j u ?_; exact hu) (one_rc _) (by rw [HOL.out]; omega) (by decide) (by simp only [World.size_alloc]; have := g.size; omega) ?_; intro gg cap1 w8 hO8 hG8 hgrow hgb hg8)
   have HO8 := hide (show OwnL w8 w.heap.size 70 4 rcL (.slice (some ⟨gg, 0, none⟩) (k + 1) cap1) O2 from by have := hO8; rwa [HOL'.out] at this)
   have g8 := hG8 w (g.trans (by with_reducible repeat (first | exact Gr.refl _ | assumption | refine Gr.alloc ?_ _ | refine Gr.drewN ?_ _ | refine Gr.drew ?_ | refine Gr.setCell ?_ (by first | (dsimp only; omega) | (simp only [World.size_alloc]; omega)) _ | refine Gr.trans ?_ (by assumption)))) (Nat.le_refl _)
   have e8 := HOL'.out
   clear hG8 hO8 hgrow
   rw [e8]
   clear e8
   go_roundw
   case rel => exact ⟨k + 1, O2, some ⟨gg, 0, none⟩, cap1, by omega, by go_num, rfl, g8, HO8, HE', HOL'⟩
   case measure => simp only [intOf]; omega
  ·obtain rfl : k = l.length := by omega
   have HR := hide (show OwnL wr w.heap.size 70 4 rcL (.slice A1 l.length d1) (l.map R1) by
    have e := HE.out
    rw [List.take_length] at e
    rw [← e]
    exact hO.out)
   clear hO HE HOL
   go_wp2
   go_ret
   exact ⟨A1, d1, rfl, HR.out, g⟩
end RG
end Go.Proofs.YtddhaiaapomdjaaGreat
set_option linter.unusedVariables false
set_option linter.unusedSimpArgs false
namespace Go.Proofs.YtddhaiaapomdjaaGreat
set_option linter.unusedVariables false
set_option linter.unusedSimpArgs false
open Go Go.ChangeShapes Go.WideShapes Go.ChangeAt Go.RowKit Go.Deep

namespace RG
structure NwR (w : World) (n : Nat) (D : Option Addr) (q : Nat) (l : List Rc) : Prop where
 s : SlR w D q l
 f : l ≠ [] → ∀ a, D = some a → n ≤ a.block
theorem NwR.gr {w w' : World} {n : Nat} {D : Option Addr} {q : Nat} {l : List Rc} (h : NwR w n D q l) (g : Gr w w') : NwR w' n D q l := ⟨h.s.gr g, h.f⟩
theorem NwR.set {w : World} {n : Nat} {D : Option Addr} {q : Nat} {l : List Rc} (h : NwR w n D q l) {B : Nat} (hB : B < n) (o : Nat) (v : Value) : NwR (w.setCell ⟨B, o, none⟩ v) n D q l :=
 ⟨slr_far h.s (fun hl a ha e => by have := h.f hl a ha; omega), h.f⟩
theorem NwR.weak {w : World} {n m : Nat} {D : Option Addr} {q : Nat} {l : List Rc} (h : NwR w n D q l) (hm : m ≤ n) : NwR w m D q l := ⟨h.s, fun hl a ha => Nat.le_trans hm (h.f hl a ha)⟩
theorem nwR_of {w : World} {n : Nat} {D : Option Addr} {k q : Nat} {l : List Rc} (h : OwnL w n 70 4 rcL (.slice D k q) l) : NwR w n D q l := ⟨own_slr h, fun _ a ha => (own_new h a ha).1⟩
theorem nwR_setL {n B : Nat} {D : Option Addr} {q : Nat} {l : List Rc} (hB : B < n) : ∀ {vs : List Value} {w : World} {o : Nat}, NwR w n D q l → NwR (setL w B o vs) n D q l
 | [], _, _, h => h
 | v :: vs, w, o, h => nwR_setL hB (vs := vs) (h.set hB o v)
set_option maxHeartbeats 8000000 in
set_option maxRecDepth 100000 in
theorem move6_any (nm mt : ByteArray) (ga gr : Int) (A1 A2 A3 : Option Addr) (c1 c2 c3 : Nat) (l1 l2 l3 : List Rc) (x y : Int) (w : World) (h1 : SlR w A1 c1 l1) (h2 : SlR w A2 c2 l2) (h3 : SlR w A3 c3 l3) (v1 : ∀ r ∈ l1, smR 1000000000 r) (v2 : ∀ r ∈ l2, smR 1000000000 r) (v3 : ∀ r ∈ l3, smR 1000000000 r)
  (hx : -1000000000 ≤ x ∧ x ≤ 1000000000) (hy : -1000000000 ≤ y ∧ y ≤ 1000000000) (n1 : l1.length ≤ 1000) (n2 : l2.length ≤ 1000) (n3 : l3.length ≤ 1000) :
  Calls Tryz.prog 83 #[pcvv nm mt ga gr (.slice A1 l1.length c1) (.slice A2 l2.length c2) (.slice A3 l3.length c3), iv x, iv y] w fun e w' => ∃ (D1 D2 D3 : Option Addr) (q1 q2 q3 : Nat), e = .returned (pcvv nm mt ga gr (.slice D1 l1.length q1) (.slice D2 l2.length q2) (.slice D3 l3.length q3)) ∧ (NwR w' w.heap.size D1 q1 (l1.map (mvR x y)) ∧ NwR w' w.heap.size D2 q2 (l2.map (mvR x y)) ∧ NwR w' w.heap.size D3 q3 (l3.map (mvR x y))) ∧ Gr w w' := by
 have S1 := hide (fun (w' : World) (g : Gr w w') => shift6_any A1 c1 l1 x y w' (h1.gr g) v1 hx hy n1)
 have S2 := hide (fun (w' : World) (g : Gr w w') => shift6_any A2 c2 l2 x y w' (h2.gr g) v2 hx hy n2)
 have S3 := hide (fun (w' : World) (g : Gr w w') => shift6_any A3 c3 l3 x y w' (h3.gr g) v3 hx hy n3)
 clear h1 h2 h3 v1 v2 v3 hx hy n1 n2 n3
 go_enter Tryz.func83, Tryz.ntmps83
 go_upto_region 1 with fail
 obtain ⟨w0, e0⟩ : ∃ w0, (w.alloc (.cells #[.string nm, .string mt, iv ga, iv gr, .slice A1 l1.length c1, .slice A2 l2.length c2, .slice A3 l3.length c3] 27)).alloc (.cells #[.string ⟨#[]⟩, .string ⟨#[]⟩, .int .i64 0, .int .i64 0, .slice none 0 0, .slice none 0 0, .slice none 0 0] 27) = w0 := ⟨_, rfl⟩
 have g0 : Gr w w0 := by
  rw [← e0]
  exact (by with_reducible repeat (first | exact Gr.refl _ | assumption | refine Gr.alloc ?_ _ | refine Gr.drewN ?_ _ | refine Gr.drew ?_ | refine Gr.setCell ?_ (by first | (dsimp only; omega) | (simp only [World.size_alloc]; omega)) _ | refine Gr.trans ?_ (by assumption)))
 have hw0 : w0.heap.size = w.heap.size + 2 := by
  rw [← e0]
  simp
 have M0 : Made w0 w.heap.size #[.string nm, .string mt, iv ga, iv gr, .slice A1 l1.length c1, .slice A2 l2.length c2, .slice A3 l3.length c3] := by
  rw [← e0]
  exact (Made.new _ _ _).gr (by with_reducible repeat (first | exact Gr.refl _ | assumption | refine Gr.alloc ?_ _ | refine Gr.drewN ?_ _ | refine Gr.drew ?_ | refine Gr.setCell ?_ (by first | (dsimp only; omega) | (simp only [World.size_alloc]; omega)) _ | refine Gr.trans ?_ (by assumption)))
 have Z0 : Made w0 (w.heap.size + 1) #[.string ⟨#[]⟩, .string ⟨#[]⟩, .int .i64 0, .int .i64 0, .slice none 0 0, .slice none 0 0, .slice none 0 0] := by
  rw [← e0]
  have := Made.new (w.alloc (.cells #[.string nm, .string mt, iv ga, iv gr, .slice A1 l1.length c1, .slice A2 l2.length c2, .slice A3 l3.length c3] 27)) #[.string ⟨#[]⟩, .string ⟨#[]⟩, .int .i64 0, .int .i64 0, .slice none 0 0, .slice none 0 0, .slice none 0 0] 27
  simpa using this
 simp only [e0]
 clear e0
 have HM0 := hide M0
 have HZ0 := hide Z0
 have HG0 := hide g0
 clear M0 Z0 g0
 have x1 : w0.cell? ⟨w.heap.size, 4, none⟩ = some (.slice A1 l1.length c1) := HM0.out.2.1 4
 go_upto_region 2 with fail
 refine (S1.out _ HG0.out).mono ?_
 rintro _ v1 ⟨D1, q1, rfl, own1, g1⟩
 have z1 := g1.size
 have f1 := (HM0.out.gr g1).2.2 4
 have y1 : v1.cell? ⟨w.heap.size, 4, none⟩ = some (.slice A1 l1.length c1) := (HM0.out.gr g1).2.1 4
 have HO1 := hide (nwR_of own1)
 have HV1 := hide g1
 clear own1 g1 x1 S1
 go_upto_region 2 with fail
 obtain ⟨w1, e1⟩ : ∃ w1, v1.setCell ⟨w.heap.size, 4, none⟩ (.slice D1 l1.length q1) = w1 := ⟨_, rfl⟩
 have hw1 : w.heap.size + 2 ≤ w1.heap.size := by
  rw [← e1, World.size_setCell]
  omega
 have HG1 := hide (show Gr w w1 by
  rw [← e1]
  exact Gr.setCell (HG0.out.trans HV1.out) (by dsimp only; omega) _)
 have HM1 := hide (show Made w1 w.heap.size #[.string nm, .string mt, iv ga, iv gr, .slice D1 l1.length q1, .slice A2 l2.length c2, .slice A3 l3.length c3] by
  rw [← e1]
  have := (HM0.out.gr HV1.out).set1 (o := 4) (by simp) (.slice D1 l1.length q1)
  simpa using this)
 have HZ1 := hide (show Made w1 (w.heap.size + 1) #[.string ⟨#[]⟩, .string ⟨#[]⟩, .int .i64 0, .int .i64 0, .slice none 0 0, .slice none 0 0, .slice none 0 0] by
  rw [← e1]
  exact (HZ0.out.gr HV1.out).oth1 (by omega) _ _)
 have HN1 := hide (show NwR w1 (w.heap.size + 2) D1 q1 (l1.map (mvR x y)) by
  rw [← e1]
  exact (HO1.out.set (by omega) _ _).weak (by omega))
 simp only [e1]
 clear e1 y1 f1 z1 HO1 HV1 HM0 HZ0 HG0 hw0
 have x2 : w1.cell? ⟨w.heap.size, 5, none⟩ = some (.slice A2 l2.length c2) := HM1.out.2.1 5
 go_upto_region 3 with fail
 refine (S2.out _ HG1.out).mono ?_
 rintro _ v2 ⟨D2, q2, rfl, own2, g2⟩
 have z2 := g2.size
 have f2 := (HM1.out.gr g2).2.2 5
 have y2 : v2.cell? ⟨w.heap.size, 5, none⟩ = some (.slice A2 l2.length c2) := (HM1.out.gr g2).2.1 5
 have HO2 := hide (nwR_of own2)
 have HV2 := hide g2
 clear own2 g2 x2 S2
 go_upto_region 3 with fail
 obtain ⟨w2, e2⟩ : ∃ w2, v2.setCell ⟨w.heap.size, 5, none⟩ (.slice D2 l2.length q2) = w2 := ⟨_, rfl⟩
 have hw2 : w.heap.size + 2 ≤ w2.heap.size := by
  rw [← e2, World.size_setCell]
  omega
 have HG2 := hide (show Gr w w2 by
  rw [← e2]
  exact Gr.setCell (HG1.out.trans HV2.out) (by dsimp only; omega) _)
 have HM2 := hide (show Made w2 w.heap.size #[.string nm, .string mt, iv ga, iv gr, .slice D1 l1.length q1, .slice D2 l2.length q2, .slice A3 l3.length c3] by
  rw [← e2]
  have := (HM1.out.gr HV2.out).set1 (o := 5) (by simp) (.slice D2 l2.length q2)
  simpa using this)
 have HZ2 := hide (show Made w2 (w.heap.size + 1) #[.string ⟨#[]⟩, .string ⟨#[]⟩, .int .i64 0, .int .i64 0, .slice none 0 0, .slice none 0 0, .slice none 0 0] by
  rw [← e2]
  exact (HZ1.out.gr HV2.out).oth1 (by omega) _ _)
 have HN2 := hide (show NwR w2 (w.heap.size + 2) D2 q2 (l2.map (mvR x y)) by
  rw [← e2]
  exact (HO2.out.set (by omega) _ _).weak (by omega))
 have HN1' := hide (show NwR w2 (w.heap.size + 2) D1 q1 (l1.map (mvR x y)) by
  rw [← e2]
  exact (HN1.out.gr HV2.out).set (by omega) _ _)
 simp only [e2]
 clear e2 y2 f2 z2 HO2 HV2 HM1 HZ1 HG1 hw1
 have x3 : w2.cell? ⟨w.heap.size, 6, none⟩ = some (.slice A3 l3.length c3) := HM2.out.2.1 6
 go_upto_region 4 with fail
 refine (S3.out _ HG2.out).mono ?_
 rintro _ v3 ⟨D3, q3, rfl, own3, g3⟩
 have z3 := g3.size
 have f3 := (HM2.out.gr g3).2.2 6
 have y3 : v3.cell? ⟨w.heap.size, 6, none⟩ = some (.slice A3 l3.length c3) := (HM2.out.gr g3).2.1 6
 have HO3 := hide (nwR_of own3)
 have HV3 := hide g3
 clear own3 g3 x3 S3
 go_upto_region 4 with fail
 obtain ⟨w3, e3⟩ : ∃ w3, v3.setCell ⟨w.heap.size, 6, none⟩ (.slice D3 l3.length q3) = w3 := ⟨_, rfl⟩
 have hw3 : w.heap.size + 2 ≤ w3.heap.size := by
  rw [← e3, World.size_setCell]
  omega
 have HG3 := hide (show Gr w w3 by
  rw [← e3]
  exact Gr.setCell (HG2.out.trans HV3.out) (by dsimp only; omega) _)
 have HM3 := hide (show Made w3 w.heap.size #[.string nm, .string mt, iv ga, iv gr, .slice D1 l1.length q1, .slice D2 l2.length q2, .slice D3 l3.length q3] by
  rw [← e3]
  have := (HM2.out.gr HV3.out).set1 (o := 6) (by simp) (.slice D3 l3.length q3)
  simpa using this)
 have HZ3 := hide (show Made w3 (w.heap.size + 1) #[.string ⟨#[]⟩, .string ⟨#[]⟩, .int .i64 0, .int .i64 0, .slice none 0 0, .slice none 0 0, .slice none 0 0] by
  rw [← e3]
  exact (HZ2.out.gr HV3.out).oth1 (by omega) _ _)
 have HN3 := hide (show NwR w3 (w.heap.size + 2) D3 q3 (l3.map (mvR x y)) by
  rw [← e3]
  exact (HO3.out.set (by omega) _ _).weak (by omega))
 have HN1'' := hide (show NwR w3 (w.heap.size + 2) D1 q1 (l1.map (mvR x y)) by
  rw [← e3]
  exact (HN1'.out.gr HV3.out).set (by omega) _ _)
 have HN2' := hide (show NwR w3 (w.heap.size + 2) D2 q2 (l2.map (mvR x y)) by
  rw [← e3]
  exact (HN2.out.gr HV3.out).set (by omega) _ _)
 simp only [e3]
 clear e3 y3 f3 z3 HO3 HV3 HM2 HZ2 HG2 hw2
 have a0 := HM3.out.2.1 0
 have a1 := HM3.out.2.1 1
 have a2 := HM3.out.2.1 2
 have a3 := HM3.out.2.1 3
 have a4 := HM3.out.2.1 4
 have a5 := HM3.out.2.1 5
 have a6 := HM3.out.2.1 6
 have b0 := HZ3.out.2.1 0
 have b1 := HZ3.out.2.1 1
 have b2 := HZ3.out.2.1 2
 have b3 := HZ3.out.2.1 3
 have b4 := HZ3.out.2.1 4
 have b5 := HZ3.out.2.1 5
 have b6 := HZ3.out.2.1 6
 have b7 := HZ3.out.2.2
 go_wp2_with fail
 obtain ⟨w4, e4⟩ : ∃ w4, setL w3 (w.heap.size + 1) 0 [.string nm, .string mt, iv ga, iv gr, .slice D1 l1.length q1, .slice D2 l2.length q2, .slice D3 l3.length q3] = w4 := ⟨_, rfl⟩
 have H4 := hide (show Gr w w4 ∧ (NwR w4 w.heap.size D1 q1 (l1.map (mvR x y)) ∧ NwR w4 w.heap.size D2 q2 (l2.map (mvR x y)) ∧ NwR w4 w.heap.size D3 q3 (l3.map (mvR x y))) by
  rw [← e4]
  exact ⟨gr_setL (by omega) HG3.out, (nwR_setL (by omega) HN1''.out).weak (by omega), (nwR_setL (by omega) HN2'.out).weak (by omega), (nwR_setL (by omega) HN3.out).weak (by omega)⟩)
 have HM4 := hide (show Made w4 (w.heap.size + 1) #[.string nm, .string mt, iv ga, iv gr, .slice D1 l1.length q1, .slice D2 l2.length q2, .slice D3 l3.length q3] by
  rw [← e4]
  exact HZ3.out.setL [.string nm, .string mt, iv ga, iv gr, .slice D1 l1.length q1, .slice D2 l2.length q2, .slice D3 l3.length q3] rfl)
 have e5 := e4
 simp only [setL] at e5
 rw [e5]
 clear e4 e5 b0 b1 b2 b3 b4 b5 b6 b7 a0 a1 a2 a3 a4 a5 a6 HN1 HN1' HN1'' HN2 HN2' HN3 HM3 HZ3 HG3
 have b0 := HM4.out.2.1 0
 have b1 := HM4.out.2.1 1
 have b2 := HM4.out.2.1 2
 have b3 := HM4.out.2.1 3
 have b4 := HM4.out.2.1 4
 have b5 := HM4.out.2.1 5
 have b6 := HM4.out.2.1 6
 refine bodyPost_ret (v := pcvv nm mt ga gr (.slice D1 l1.length q1) (.slice D2 l2.length q2) (.slice D3 l3.length q3)) (by simp [results, Tryz.results83, go_sem, *]) rfl ?_
 exact ⟨D1, D2, D3, q1, q2, q3, rfl, H4.out.2, H4.out.1⟩
end RG
end Go.Proofs.YtddhaiaapomdjaaGreat
set_option linter.unusedVariables false
set_option linter.unusedSimpArgs false
namespace Go.Proofs.YtddhaiaapomdjaaGreat
set_option linter.unusedVariables false
set_option linter.unusedSimpArgs false
open Go Go.ChangeShapes Go.WideShapes Go.ChangeAt Go.RowKit Go.Deep

namespace RG
theorem smR_of {r : Rc} (h : InM 1048576 r) : smR 1000000000 r := by
 obtain ⟨h1, h2, h3, h4, h5, h6⟩ := h
 unfold smR
 omega
theorem smRN {l : List Rc} (h : ∀ r ∈ l, InM 1048576 r) (k : Nat) : ∀ r ∈ l.map (RN k), smR 1000000000 r := fun r hr => by
 obtain ⟨q, hq, rfl⟩ := List.mem_map.1 hr
 exact smR_of (inM_RN (h q hq) k)
theorem RN0 (l : List Rc) : l.map (RN 0) = l := by
 have : (RN 0) = id := rfl
 rw [this, List.map_id]
theorem RNs (l : List Rc) (k : Nat) : (l.map (RN k)).map R1 = l.map (RN (k + 1)) := by
 rw [List.map_map]
 rfl
theorem mn_bn {l : List Rc} {r0 : Rc} (h : l[0]? = some r0) : mnV l (r0.x, r0.y) = ((bnR l).x, (bnR l).y) := by
 cases l with
 | nil => simp at h
 | cons r q =>
  obtain rfl : r = r0 := by simpa using h
  have a := fun x => (mnV_le (l := r :: q) (z := (r.x, r.y)) (x := x) (y := x))
  have b := fun x => bnV_low (r :: q) (r.x, r.y, r.x, r.y) x
  have e : ∀ x, (x ≤ (mnV (r :: q) (r.x, r.y)).1 ↔ x ≤ (bnV (r :: q) (r.x, r.y, r.x, r.y)).1) ∧ (x ≤ (mnV (r :: q) (r.x, r.y)).2 ↔ x ≤ (bnV (r :: q) (r.x, r.y, r.x, r.y)).2.1) := fun x => ⟨(a x).1.trans (b x).1.symm, (a x).2.trans (b x).2.1.symm⟩
  refine Prod.ext ?_ ?_
  ·show _ = (bnV (r :: q) (r.x, r.y, r.x, r.y)).1
   have h1 := (e _).1.1 (Int.le_refl _)
   have h2 := (e _).1.2 (Int.le_refl _)
   omega
  ·show _ = (bnV (r :: q) (r.x, r.y, r.x, r.y)).2.1
   have h1 := (e _).2.1 (Int.le_refl _)
   have h2 := (e _).2.2 (Int.le_refl _)
   omega
theorem tnL_mv (rs l : List Rc) (t : Nat) : (l.map (RN t)).map (mvR (-(bnR (rs.map (RN t))).x) (-(bnR (rs.map (RN t))).y)) = tnL rs t l := by
 rw [List.map_map]
 rfl
set_option maxHeartbeats 16000000 in
set_option maxRecDepth 100000 in
theorem turned6_any (nm mt : ByteArray) (ga gr : Int) (A1 A2 A3 : Option Addr) (c1 c2 c3 : Nat) (l1 l2 l3 : List Rc) (t : Nat) (w : World) (h1 : SlR w A1 c1 l1) (h2 : SlR w A2 c2 l2) (h3 : SlR w A3 c3 l3) (v1 : ∀ r ∈ l1, InM 1048576 r) (v2 : ∀ r ∈ l2, InM 1048576 r) (v3 : ∀ r ∈ l3, InM 1048576 r)
  (n0 : 0 < l1.length) (n1 : l1.length ≤ 1000) (n2 : l2.length ≤ 1000) (n3 : l3.length ≤ 1000) (ht : t ≤ 3) :
  Calls Tryz.prog 84 #[pcvv nm mt ga gr (.slice A1 l1.length c1) (.slice A2 l2.length c2) (.slice A3 l3.length c3), iv t] w fun e w' => ∃ (D1 D2 D3 : Option Addr) (q1 q2 q3 : Nat), e = .returned (pcvv nm mt ga gr (.slice D1 l1.length q1) (.slice D2 l2.length q2) (.slice D3 l3.length q3)) ∧ (NwR w' w.heap.size D1 q1 (tnL l1 t l1) ∧ NwR w' w.heap.size D2 q2 (tnL l1 t l2) ∧ NwR w' w.heap.size D3 q3 (tnL l1 t l3)) ∧ Gr w w' := by
 have HM := hide (fun (w' : World) (g : Gr w w') => by
  have h := move6_any nm mt ga gr A1 A2 A3 c1 c2 c3 l1 l2 l3 0 0 w' (h1.gr g) (h2.gr g) (h3.gr g) (fun r hr => smR_of (v1 r hr)) (fun r hr => smR_of (v2 r hr)) (fun r hr => smR_of (v3 r hr)) (by omega) (by omega) n1 n2 n3
  rw [mv0, mv0, mv0] at h
  exact h)
 have HQ := hide (fun (l : List Rc) (hl : (∀ r ∈ l, InM 1048576 r) ∧ l.length ≤ 1000) (k : Nat) (w' : World) (D : Option Addr) (q : Nat) (n : Nat) (h : NwR w' n D q (l.map (RN k))) => show Calls Tryz.prog 125 #[.slice D l.length q] w' fun e w'' => ∃ (D' : Option Addr) (q' : Nat), e = .returned (.slice D' l.length q') ∧ NwR w'' w'.heap.size D' q' (l.map (RN (k + 1))) ∧ Gr w' w'' by
  have h := quarter6_any D q (l.map (RN k)) w' h.s (smRN hl.1 k) (by rw [List.length_map]; exact hl.2)
  rw [List.length_map, RNs] at h
  refine h.mono ?_
  rintro e w'' ⟨D', q', rfl, o, g⟩
  exact ⟨D', q', rfl, nwR_of o, g⟩)
 have HL := hide (fun (w' : World) (D : Option Addr) (q : Nat) (n : Nat) (h : NwR w' n D q (l1.map (RN t))) => show Calls Tryz.prog 74 #[.slice D l1.length q] w' fun e w'' => e = .returned (.tuple #[iv (bnR (l1.map (RN t))).x, iv (bnR (l1.map (RN t))).y]) ∧ Gr w' w'' by
  obtain ⟨r0, hr0, h⟩ := least6_any D q (l1.map (RN t)) w' h.s (by rw [List.length_map]; exact n0)
  rw [mn_bn hr0, List.length_map] at h
  exact h)
 have hbd := bnR_bd (l := l1.map (RN t)) (fun r hr => by obtain ⟨q, hq, rfl⟩ := List.mem_map.1 hr; exact inM_RN (v1 q hq) t) (by rw [List.length_map]; exact n0)
 have HE := hide (fun (w' : World) (D1 D2 D3 : Option Addr) (q1 q2 q3 n : Nat) (g1 : NwR w' n D1 q1 (l1.map (RN t))) (g2 : NwR w' n D2 q2 (l2.map (RN t))) (g3 : NwR w' n D3 q3 (l3.map (RN t))) => by
  have h := move6_any nm mt ga gr D1 D2 D3 q1 q2 q3 (l1.map (RN t)) (l2.map (RN t)) (l3.map (RN t)) (-(bnR (l1.map (RN t))).x) (-(bnR (l1.map (RN t))).y) w' g1.s g2.s g3.s (smRN v1 t) (smRN v2 t) (smRN v3 t) (by omega) (by omega) (by rw [List.length_map]; exact n1) (by rw [List.length_map]; exact n2) (by rw [List.length_map]; exact n3)
  rw [List.length_map, List.length_map, List.length_map, tnL_mv, tnL_mv, tnL_mv] at h
  exact h)
 have hx0 : -1048576 ≤ (bnR (l1.map (RN t))).x ∧ (bnR (l1.map (RN t))).x ≤ 1048576 := hbd.1
 have hy0 : -1048576 ≤ (bnR (l1.map (RN t))).y ∧ (bnR (l1.map (RN t))).y ≤ 1048576 := hbd.2
 have L1 := hide (And.intro v1 n1)
 have L2 := hide (And.intro v2 n2)
 have L3 := hide (And.intro v3 n3)
 generalize (bnR (l1.map (RN t))).x = zx at *
 generalize (bnR (l1.map (RN t))).y = zy at *
 have W1 : IntKind.i64.wrap (-zx) = -zx := IntWalk.i64_in _ (by omega)
 have W2 : IntKind.i64.wrap (-zy) = -zy := IntWalk.i64_in _ (by omega)
 clear h1 h2 h3 v1 v2 v3 n0 n1 n2 n3 hbd hx0 hy0
 go_enter Tryz.func84, Tryz.ntmps84
 go_upto_region 1 with fail
 obtain ⟨w0, e0⟩ : ∃ w0, (w.alloc (.cells #[.string nm, .string mt, iv ga, iv gr, .slice A1 l1.length c1, .slice A2 l2.length c2, .slice A3 l3.length c3] 27)).alloc (.cells #[.string ⟨#[]⟩, .string ⟨#[]⟩, .int .i64 0, .int .i64 0, .slice none 0 0, .slice none 0 0, .slice none 0 0] 27) = w0 := ⟨_, rfl⟩
 have g0 : Gr w w0 := by
  rw [← e0]
  exact (by with_reducible repeat (first | exact Gr.refl _ | assumption | refine Gr.alloc ?_ _ | refine Gr.drewN ?_ _ | refine Gr.drew ?_ | refine Gr.setCell ?_ (by first | (dsimp only; omega) | (simp only [World.size_alloc]; omega)) _ | refine Gr.trans ?_ (by assumption)))
 have hw0 : w0.heap.size = w.heap.size + 2 := by
  rw [← e0]
  simp
 have M0 : Made w0 w.heap.size #[.string nm, .string mt, iv ga, iv gr, .slice A1 l1.length c1, .slice A2 l2.length c2, .slice A3 l3.length c3] := by
  rw [← e0]
  exact (Made.new _ _ _).gr (by with_reducible repeat (first | exact Gr.refl _ | assumption | refine Gr.alloc ?_ _ | refine Gr.drewN ?_ _ | refine Gr.drew ?_ | refine Gr.setCell ?_ (by first | (dsimp only; omega) | (simp only [World.size_alloc]; omega)) _ | refine Gr.trans ?_ (by assumption)))
 have Z0 : Made w0 (w.heap.size + 1) #[.string ⟨#[]⟩, .string ⟨#[]⟩, .int .i64 0, .int .i64 0, .slice none 0 0, .slice none 0 0, .slice none 0 0] := by
  rw [← e0]
  have := Made.new (w.alloc (.cells #[.string nm, .string mt, iv ga, iv gr, .slice A1 l1.length c1, .slice A2 l2.length c2, .slice A3 l3.length c3] 27)) #[.string ⟨#[]⟩, .string ⟨#[]⟩, .int .i64 0, .int .i64 0, .slice none 0 0, .slice none 0 0, .slice none 0 0] 27
  simpa using this
 simp only [e0]
 clear e0
 have HM0 := hide M0
 have HZ0 := hide Z0
 have HG0 := hide g0
 clear M0 Z0 g0
 have a0 := HM0.out.2.1 0
 have a1 := HM0.out.2.1 1
 have a2 := HM0.out.2.1 2
 have a3 := HM0.out.2.1 3
 have a4 := HM0.out.2.1 4
 have a5 := HM0.out.2.1 5
 have a6 := HM0.out.2.1 6
 go_upto_region 2 with fail
 refine (HM.out _ HG0.out).mono ?_
 rintro _ v1 ⟨D1, D2, D3, q1, q2, q3, rfl, ⟨o1, o2, o3⟩, g1⟩
 have hv1 := g1.size
 have HM1 := hide (HM0.out.gr g1)
 have HZ1 := hide (HZ0.out.gr g1)
 have HG1 := hide (HG0.out.trans g1)
 have HO1 := hide (And.intro o1 (And.intro o2 o3))
 clear a0 a1 a2 a3 a4 a5 a6 o1 o2 o3 g1 HM0 HZ0 HG0 HM
 have a0 := HM1.out.2.1 0
 have a1 := HM1.out.2.1 1
 have a2 := HM1.out.2.1 2
 have a3 := HM1.out.2.1 3
 have a4 := HM1.out.2.1 4
 have a5 := HM1.out.2.1 5
 have a6 := HM1.out.2.1 6
 have a7 := HM1.out.2.2
 go_upto_region 2 with fail
 obtain ⟨w1, e1⟩ : ∃ w1, setL v1 w.heap.size 0 [.string nm, .string mt, iv ga, iv gr, .slice D1 l1.length q1, .slice D2 l2.length q2, .slice D3 l3.length q3] = w1 := ⟨_, rfl⟩
 have hw1 : w.heap.size + 2 ≤ w1.heap.size := by
  rw [← e1, size_setL]
  omega
 have HG2 := hide (show Gr w w1 by
  rw [← e1]
  exact gr_setL (Nat.le_refl _) HG1.out)
 have HN2 := hide (show NwR w1 (w.heap.size + 2) D1 q1 l1 ∧ NwR w1 (w.heap.size + 2) D2 q2 l2 ∧ NwR w1 (w.heap.size + 2) D3 q3 l3 by
  rw [← e1]
  exact ⟨(nwR_setL (by omega) HO1.out.1).weak (by omega), (nwR_setL (by omega) HO1.out.2.1).weak (by omega), (nwR_setL (by omega) HO1.out.2.2).weak (by omega)⟩)
 have HM2 := hide (show Made w1 w.heap.size #[.string nm, .string mt, iv ga, iv gr, .slice D1 l1.length q1, .slice D2 l2.length q2, .slice D3 l3.length q3] by
  rw [← e1]
  exact HM1.out.setL [.string nm, .string mt, iv ga, iv gr, .slice D1 l1.length q1, .slice D2 l2.length q2, .slice D3 l3.length q3] rfl)
 have HZ2 := hide (show Made w1 (w.heap.size + 1) #[.string ⟨#[]⟩, .string ⟨#[]⟩, .int .i64 0, .int .i64 0, .slice none 0 0, .slice none 0 0, .slice none 0 0] by
  rw [← e1]
  exact HZ1.out.oth (by omega))
 have e2 := e1
 simp only [setL] at e2
 rw [e2]
 clear e1 e2 a0 a1 a2 a3 a4 a5 a6 a7 HM1 HZ1 HG1 HO1 hv1
 go_upto_region 3 with fail
 go_loopw [5] (fun i wr => ∃ (k : Nat) (E1 E2 E3 : Option Addr) (r1 r2 r3 : Nat), k ≤ t ∧ i = iv k ∧ Hid (Made wr w.heap.size #[.string nm, .string mt, iv ga, iv gr, .slice E1 l1.length r1, .slice E2 l2.length r2, .slice E3 l3.length r3]) ∧ Hid (Made wr (w.heap.size + 1) #[.string ⟨#[]⟩, .string ⟨#[]⟩, .int .i64 0, .int .i64 0, .slice none 0 0, .slice none 0 0, .slice none 0 0]) ∧ Hid (NwR wr (w.heap.size + 2) E1 r1 (l1.map (RN k)) ∧ NwR wr (w.heap.size + 2) E2 r2 (l2.map (RN k)) ∧ NwR wr (w.heap.size + 2) E3 r3 (l3.map (RN k))) ∧ Hid (Gr w wr) ∧ w.heap.size + 2 ≤ wr.heap.size) (fun i _ => t - (intOf i).toNat)
 case atStart =>
  exact ⟨0, D1, D2, D3, q1, q2, q3, by omega, rfl, HM2, HZ2, hide (by rw [RN0, RN0, RN0]; exact HN2.out), HG2, hw1⟩
 case round =>
  obtain ⟨k, E1, E2, E3, r1, r2, r3, hk, rfl, HM0, HZ0, HN, HG0, hw0⟩ := hrel
  clear HM2 HZ2 HN2 HG2 hw1
  by_cases hkt : k < t
  ·have hk0 : (0 : Int) ≤ (k : Int) := by omega
   have hk1 : (k : Int) < (t : Int) := by omega
   have HN10 := hide HN.out.1
   have HN20 := hide HN.out.2.1
   have HN30 := hide HN.out.2.2
   clear HN
   obtain ⟨w0, e0⟩ : ∃ w0, wr = w0 := ⟨_, rfl⟩
   subst e0
   go_upto_region 5 with fail
   have b1 : wr.cell? ⟨w.heap.size, 4, none⟩ = some (.slice E1 l1.length r1) := HM0.out.2.1 4
   go_upto_region 6 with fail
   refine (HQ.out l1 L1.out k wr E1 r1 _ HN10.out).mono ?_
   rintro _ v1 ⟨F1, s1, rfl, own1, g1⟩
   have z1 := g1.size
   have f1 := (HM0.out.gr g1).2.2 4
   have y1 : v1.cell? ⟨w.heap.size, 4, none⟩ = some (.slice E1 l1.length r1) := (HM0.out.gr g1).2.1 4
   have HO1 := hide own1
   have HV1 := hide g1
   clear own1 g1 b1
   go_upto_region 6 with fail
   obtain ⟨x1, e1⟩ : ∃ u, v1.setCell ⟨w.heap.size, 4, none⟩ (.slice F1 l1.length s1) = u := ⟨_, rfl⟩
   have hw1 : w.heap.size + 2 ≤ x1.heap.size := by
    rw [← e1, World.size_setCell]
    omega
   have HG1 := hide (show Gr w x1 by
    rw [← e1]
    exact Gr.setCell (HG0.out.trans HV1.out) (by dsimp only; omega) _)
   have HM1 := hide (show Made x1 w.heap.size #[.string nm, .string mt, iv ga, iv gr, .slice F1 l1.length s1, .slice E2 l2.length r2, .slice E3 l3.length r3] by
    rw [← e1]
    have := (HM0.out.gr HV1.out).set1 (o := 4) (by simp) (.slice F1 l1.length s1)
    simpa using this)
   have HZ1 := hide (show Made x1 (w.heap.size + 1) #[.string ⟨#[]⟩, .string ⟨#[]⟩, .int .i64 0, .int .i64 0, .slice none 0 0, .slice none 0 0, .slice none 0 0] by
    rw [← e1]
    exact (HZ0.out.gr HV1.out).oth1 (by omega) _ _)
   have HN11 := hide (show NwR x1 (w.heap.size + 2) F1 s1 (l1.map (RN (k + 1))) by
    rw [← e1]
    exact (HO1.out.set (by omega) _ _).weak (by omega))
   have HN21 := hide (show NwR x1 (w.heap.size + 2) E2 r2 (l2.map (RN k)) by
    rw [← e1]
    exact (HN20.out.gr HV1.out).set (by omega) _ _)
   have HN31 := hide (show NwR x1 (w.heap.size + 2) E3 r3 (l3.map (RN k)) by
    rw [← e1]
    exact (HN30.out.gr HV1.out).set (by omega) _ _)
   simp only [e1]
   clear e1 y1 f1 z1 HO1 HV1 HM0 HZ0 HG0 hw0 HN10 HN20 HN30
   have b2 : x1.cell? ⟨w.heap.size, 5, none⟩ = some (.slice E2 l2.length r2) := HM1.out.2.1 5
   go_upto_region 7 with fail
   refine (HQ.out l2 L2.out k x1 E2 r2 _ HN21.out).mono ?_
   rintro _ v2 ⟨F2, s2, rfl, own2, g2⟩
   have z2 := g2.size
   have f2 := (HM1.out.gr g2).2.2 5
   have y2 : v2.cell? ⟨w.heap.size, 5, none⟩ = some (.slice E2 l2.length r2) := (HM1.out.gr g2).2.1 5
   have HO2 := hide own2
   have HV2 := hide g2
   clear own2 g2 b2
   go_upto_region 7 with fail
   obtain ⟨x2, e2⟩ : ∃ u, v2.setCell ⟨w.heap.size, 5, none⟩ (.slice F2 l2.length s2) = u := ⟨_, rfl⟩
   have hw2 : w.heap.size + 2 ≤ x2.heap.size := by
    rw [← e2, World.size_setCell]
    omega
   have HG2 := hide (show Gr w x2 by
    rw [← e2]
    exact Gr.setCell (HG1.out.trans HV2.out) (by dsimp only; omega) _)
   have HM2 := hide (show Made x2 w.heap.size #[.string nm, .string mt, iv ga, iv gr, .slice F1 l1.length s1, .slice F2 l2.length s2, .slice E3 l3.length r3] by
    rw [← e2]
    have := (HM1.out.gr HV2.out).set1 (o := 5) (by simp) (.slice F2 l2.length s2)
    simpa using this)
   have HZ2 := hide (show Made x2 (w.heap.size + 1) #[.string ⟨#[]⟩, .string ⟨#[]⟩, .int .i64 0, .int .i64 0, .slice none 0 0, .slice none 0 0, .slice none 0 0] by
    rw [← e2]
    exact (HZ1.out.gr HV2.out).oth1 (by omega) _ _)
   have HN12 := hide (show NwR x2 (w.heap.size + 2) F1 s1 (l1.map (RN (k + 1))) by
    rw [← e2]
    exact (HN11.out.gr HV2.out).set (by omega) _ _)
   have HN22 := hide (show NwR x2 (w.heap.size + 2) F2 s2 (l2.map (RN (k + 1))) by
    rw [← e2]
    exact (HO2.out.set (by omega) _ _).weak (by omega))
   have HN32 := hide (show NwR x2 (w.heap.size + 2) E3 r3 (l3.map (RN k)) by
    rw [← e2]
    exact (HN31.out.gr HV2.out).set (by omega) _ _)
   simp only [e2]
   clear e2 y2 f2 z2 HO2 HV2 HM1 HZ1 HG1 hw1 HN11 HN21 HN31
   have b3 : x2.cell? ⟨w.heap.size, 6, none⟩ = some (.slice E3 l3.length r3) := HM2.out.2.1 6
   go_wp2_with fail
   refine (HQ.out l3 L3.out k x2 E3 r3 _ HN32.out).mono ?_
   rintro _ v3 ⟨F3, s3, rfl, own3, g3⟩
   have z3 := g3.size
   have f3 := (HM2.out.gr g3).2.2 6
   have y3 : v3.cell? ⟨w.heap.size, 6, none⟩ = some (.slice E3 l3.length r3) := (HM2.out.gr g3).2.1 6
   have HO3 := hide own3
   have HV3 := hide g3
   clear own3 g3 b3
   go_wp2_with fail
   obtain ⟨x3, e3⟩ : ∃ u, v3.setCell ⟨w.heap.size, 6, none⟩ (.slice F3 l3.length s3) = u := ⟨_, rfl⟩
   have hw3 : w.heap.size + 2 ≤ x3.heap.size := by
    rw [← e3, World.size_setCell]
    omega
   have HG3 := hide (show Gr w x3 by
    rw [← e3]
    exact Gr.setCell (HG2.out.trans HV3.out) (by dsimp only; omega) _)
   have HM3 := hide (show Made x3 w.heap.size #[.string nm, .string mt, iv ga, iv gr, .slice F1 l1.length s1, .slice F2 l2.length s2, .slice F3 l3.length s3] by
    rw [← e3]
    have := (HM2.out.gr HV3.out).set1 (o := 6) (by simp) (.slice F3 l3.length s3)
    simpa using this)
   have HZ3 := hide (show Made x3 (w.heap.size + 1) #[.string ⟨#[]⟩, .string ⟨#[]⟩, .int .i64 0, .int .i64 0, .slice none 0 0, .slice none 0 0, .slice none 0 0] by
    rw [← e3]
    exact (HZ2.out.gr HV3.out).oth1 (by omega) _ _)
   have HN13 := hide (show NwR x3 (w.heap.size + 2) F1 s1 (l1.map (RN (k + 1))) by
    rw [← e3]
    exact (HN12.out.gr HV3.out).set (by omega) _ _)
   have HN23 := hide (show NwR x3 (w.heap.size + 2) F2 s2 (l2.map (RN (k + 1))) by
    rw [← e3]
    exact (HN22.out.gr HV3.out).set (by omega) _ _)
   have HN33 := hide (show NwR x3 (w.heap.size + 2) F3 s3 (l3.map (RN (k + 1))) by
    rw [← e3]
    exact (HO3.out.set (by omega) _ _).weak (by omega))
   simp only [e3]
   clear e3 y3 f3 z3 HO3 HV3 HM2 HZ2 HG2 hw2 HN12 HN22 HN32
   go_roundw
   case rel => exact ⟨k + 1, F1, F2, F3, s1, s2, s3, by omega, by go_num, HM3, HZ3, hide ⟨HN13.out, HN23.out, HN33.out⟩, HG3, hw3⟩
   case measure => simp only [intOf]; omega
  ·obtain rfl : k = t := by omega
   have a0 := HM0.out.2.1 0
   have a1 := HM0.out.2.1 1
   have a2 := HM0.out.2.1 2
   have a3 := HM0.out.2.1 3
   have a4 := HM0.out.2.1 4
   have a5 := HM0.out.2.1 5
   have a6 := HM0.out.2.1 6
   have HN1 := hide HN.out.1
   go_upto_region 9 with fail
   refine (HL.out wr E1 r1 _ HN1.out).mono ?_
   rintro _ v1 ⟨rfl, g1⟩
   have hv1 := g1.size
   have HV1 := hide g1
   clear g1 a0 a1 a2 a3 a4 a5 a6
   have a0 := (HM0.out.gr HV1.out).2.1 0
   have a1 := (HM0.out.gr HV1.out).2.1 1
   have a2 := (HM0.out.gr HV1.out).2.1 2
   have a3 := (HM0.out.gr HV1.out).2.1 3
   have a4 := (HM0.out.gr HV1.out).2.1 4
   have a5 := (HM0.out.gr HV1.out).2.1 5
   have a6 := (HM0.out.gr HV1.out).2.1 6
   go_upto_region 9 with fail
   go_wp2_with fail
   refine (HE.out v1 E1 E2 E3 r1 r2 r3 _ (HN.out.1.gr HV1.out) (HN.out.2.1.gr HV1.out) (HN.out.2.2.gr HV1.out)).mono ?_
   rintro _ v2 ⟨F1, F2, F3, s1, s2, s3, rfl, ⟨o1, o2, o3⟩, g2⟩
   have HG4 := hide ((HG0.out.trans HV1.out).trans g2)
   have HZ4 := hide ((HZ0.out.gr HV1.out).gr g2)
   have hv2 := g2.size
   have HO4 := hide (And.intro o1 (And.intro o2 o3))
   clear a0 a1 a2 a3 a4 a5 a6 g2 o1 o2 o3 HV1 HM0 HZ0 HN HN1
   have b0 := HZ4.out.2.1 0
   have b1 := HZ4.out.2.1 1
   have b2 := HZ4.out.2.1 2
   have b3 := HZ4.out.2.1 3
   have b4 := HZ4.out.2.1 4
   have b5 := HZ4.out.2.1 5
   have b6 := HZ4.out.2.1 6
   have b7 := HZ4.out.2.2
   go_wp2_with fail
   obtain ⟨w4, e4⟩ : ∃ w4, setL v2 (w.heap.size + 1) 0 [.string nm, .string mt, iv ga, iv gr, .slice F1 l1.length s1, .slice F2 l2.length s2, .slice F3 l3.length s3] = w4 := ⟨_, rfl⟩
   have H4 := hide (show Gr w w4 ∧ (NwR w4 w.heap.size F1 s1 (tnL l1 k l1) ∧ NwR w4 w.heap.size F2 s2 (tnL l1 k l2) ∧ NwR w4 w.heap.size F3 s3 (tnL l1 k l3)) by
    rw [← e4]
    exact ⟨gr_setL (by omega) HG4.out, (nwR_setL (by omega) HO4.out.1).weak (by omega), (nwR_setL (by omega) HO4.out.2.1).weak (by omega), (nwR_setL (by omega) HO4.out.2.2).weak (by omega)⟩)
   have HM4 := hide (show Made w4 (w.heap.size + 1) #[.string nm, .string mt, iv ga, iv gr, .slice F1 l1.length s1, .slice F2 l2.length s2, .slice F3 l3.length s3] by
    rw [← e4]
    exact HZ4.out.setL [.string nm, .string mt, iv ga, iv gr, .slice F1 l1.length s1, .slice F2 l2.length s2, .slice F3 l3.length s3] rfl)
   have e5 := e4
   simp only [setL] at e5
   rw [e5]
   clear e4 e5 b0 b1 b2 b3 b4 b5 b6 b7 HZ4 HG4 HO4
   have b0 := HM4.out.2.1 0
   have b1 := HM4.out.2.1 1
   have b2 := HM4.out.2.1 2
   have b3 := HM4.out.2.1 3
   have b4 := HM4.out.2.1 4
   have b5 := HM4.out.2.1 5
   have b6 := HM4.out.2.1 6
   refine bodyPost_ret (v := pcvv nm mt ga gr (.slice F1 l1.length s1) (.slice F2 l2.length s2) (.slice F3 l3.length s3)) (by simp [results, Tryz.results84, go_sem, *]) rfl ?_
   exact ⟨F1, F2, F3, s1, s2, s3, rfl, H4.out.2, H4.out.1⟩
end RG
end Go.Proofs.YtddhaiaapomdjaaGreat
set_option linter.unusedVariables false
set_option linter.unusedSimpArgs false
namespace Go.Proofs.YtddhaiaapomdjaaGreat
set_option linter.unusedVariables false
set_option linter.unusedSimpArgs false
open Go Go.ChangeShapes Go.WideShapes Go.ChangeAt Go.RowKit Go.Deep

namespace RG
set_option maxHeartbeats 4000000 in
set_option maxRecDepth 100000 in
theorem rPut_turn (p : Pc) (b : Bool) (pi sh x y t : Int) (w : World) (hp : PcW w p) (hb : CoB p.r b) (h0 : vpE p b = 0) (ht : wiB t 0 3 = false) :
  Calls Tryz.prog 38 #[p.v, atv pi sh x y t] w fun e w' => e = .returned (sle noPcV 1) ∧ Gr w w' := by
 have HV := hide (fun (w' : World) (g : Gr w w') => rValidatePiece_any p b w' (hp.gr g) hb)
 rw [h0] at HV
 obtain ⟨nm, mt, ga, gr, rA, rc, r, cA, cc, c, fA, fc, f⟩ := p
 have hd : ¬ (0 ≤ t ∧ t ≤ 3) := fun h => by
  have := wiB_iff.2 h
  rw [ht] at this
  cases this
 by_cases h1 : t < 0
 ·have d1 : decide (t < 0) = true := decide_eq_true h1
  clear hp hb h0 ht hd h1
  go_enter Tryz.func38, Tryz.ntmps38
  go_wp2_with (first | (go_at_call 30; refine (HV.out _ (by with_reducible repeat (first | exact Gr.refl _ | assumption | refine Gr.alloc ?_ _ | refine Gr.drewN ?_ _ | refine Gr.drew ?_ | refine Gr.setCell ?_ (by first | (dsimp only; omega) | (simp only [World.size_alloc]; omega)) _ | refine Gr.trans ?_ (by assumption)))).mono ?_; rintro e w1 ⟨rfl, g1⟩; obtain ⟨X1, Y1, c1, f1⟩ := g1.use; have z1 := g1.size; (try simp only [World.size_alloc, World.size_setCell, World.heap_drewN, Nat.add_one_le_iff] at z1); (try have l0 : w.heap.size < w1.heap.size := by omega); (try have l1 : w.heap.size + 1 < w1.heap.size := by omega); (try have l2 : w.heap.size + 1 + 1 < w1.heap.size := by omega)))
  refine bodyPost_ret (v := sle noPcV 1) (by simp [results, Tryz.results38, go_sem, *]) rfl ⟨rfl, (by with_reducible repeat (first | exact Gr.refl _ | assumption | refine Gr.alloc ?_ _ | refine Gr.drewN ?_ _ | refine Gr.drew ?_ | refine Gr.setCell ?_ (by first | (dsimp only; omega) | (simp only [World.size_alloc]; omega)) _ | refine Gr.trans ?_ (by assumption)))⟩
 ·have d1 : decide (t < 0) = false := decide_eq_false h1
  have d2 : decide (t > 3) = true := decide_eq_true (by omega)
  clear hp hb h0 ht hd h1
  go_enter Tryz.func38, Tryz.ntmps38
  go_wp2_with (first | (go_at_call 30; refine (HV.out _ (by with_reducible repeat (first | exact Gr.refl _ | assumption | refine Gr.alloc ?_ _ | refine Gr.drewN ?_ _ | refine Gr.drew ?_ | refine Gr.setCell ?_ (by first | (dsimp only; omega) | (simp only [World.size_alloc]; omega)) _ | refine Gr.trans ?_ (by assumption)))).mono ?_; rintro e w1 ⟨rfl, g1⟩; obtain ⟨X1, Y1, c1, f1⟩ := g1.use; have z1 := g1.size; (try simp only [World.size_alloc, World.size_setCell, World.heap_drewN, Nat.add_one_le_iff] at z1); (try have l0 : w.heap.size < w1.heap.size := by omega); (try have l1 : w.heap.size + 1 < w1.heap.size := by omega); (try have l2 : w.heap.size + 1 + 1 < w1.heap.size := by omega)))
  refine bodyPost_ret (v := sle noPcV 1) (by simp [results, Tryz.results38, go_sem, *]) rfl ⟨rfl, (by with_reducible repeat (first | exact Gr.refl _ | assumption | refine Gr.alloc ?_ _ | refine Gr.drewN ?_ _ | refine Gr.drew ?_ | refine Gr.setCell ?_ (by first | (dsimp only; omega) | (simp only [World.size_alloc]; omega)) _ | refine Gr.trans ?_ (by assumption)))⟩
set_option maxHeartbeats 4000000 in
set_option maxRecDepth 100000 in
theorem rPut_far (p : Pc) (b : Bool) (pi sh x y : Int) (t : Nat) (w : World) (hp : PcW w p) (hb : CoB p.r b) (h0 : vpE p b = 0) (ht : t ≤ 3) (hxy : (wiB x (-1048576) 1048576 && wiB y (-1048576) 1048576) = false) :
  Calls Tryz.prog 38 #[p.v, atv pi sh x y t] w fun e w' => e = .returned (sle noPcV 4) ∧ Gr w w' := by
 have HV := hide (fun (w' : World) (g : Gr w w') => rValidatePiece_any p b w' (hp.gr g) hb)
 rw [h0] at HV
 obtain ⟨nm, mt, ga, gr, rA, rc, r, cA, cc, c, fA, fc, f⟩ := p
 have d1 : decide ((t : Int) < 0) = false := decide_eq_false (by omega)
 have d2 : decide ((t : Int) > 3) = false := decide_eq_false (by omega)
 clear hp hb h0 ht
 cases h1 : wiB x (-1048576) 1048576 with
 | false =>
  clear hxy
  go_enter Tryz.func38, Tryz.ntmps38
  go_wp2_with (first | (go_at_call 30; refine (HV.out _ (by with_reducible repeat (first | exact Gr.refl _ | assumption | refine Gr.alloc ?_ _ | refine Gr.drewN ?_ _ | refine Gr.drew ?_ | refine Gr.setCell ?_ (by first | (dsimp only; omega) | (simp only [World.size_alloc]; omega)) _ | refine Gr.trans ?_ (by assumption)))).mono ?_; rintro e w1 ⟨rfl, g1⟩; obtain ⟨X1, Y1, c1, f1⟩ := g1.use; have z1 := g1.size; (try simp only [World.size_alloc, World.size_setCell, World.heap_drewN, Nat.add_one_le_iff] at z1); (try have l0 : w.heap.size < w1.heap.size := by omega); (try have l1 : w.heap.size + 1 < w1.heap.size := by omega); (try have l2 : w.heap.size + 1 + 1 < w1.heap.size := by omega)) | (go_at_call 82; refine (near_any _ _).mono ?_; rintro e w1 ⟨rfl, rfl⟩))
  refine bodyPost_ret (v := sle noPcV 4) (by simp [results, Tryz.results38, go_sem, *]) rfl ⟨rfl, (by with_reducible repeat (first | exact Gr.refl _ | assumption | refine Gr.alloc ?_ _ | refine Gr.drewN ?_ _ | refine Gr.drew ?_ | refine Gr.setCell ?_ (by first | (dsimp only; omega) | (simp only [World.size_alloc]; omega)) _ | refine Gr.trans ?_ (by assumption)))⟩
 | true =>
  rw [h1, Bool.true_and] at hxy
  go_enter Tryz.func38, Tryz.ntmps38
  go_wp2_with (first | (go_at_call 30; refine (HV.out _ (by with_reducible repeat (first | exact Gr.refl _ | assumption | refine Gr.alloc ?_ _ | refine Gr.drewN ?_ _ | refine Gr.drew ?_ | refine Gr.setCell ?_ (by first | (dsimp only; omega) | (simp only [World.size_alloc]; omega)) _ | refine Gr.trans ?_ (by assumption)))).mono ?_; rintro e w1 ⟨rfl, g1⟩; obtain ⟨X1, Y1, c1, f1⟩ := g1.use; have z1 := g1.size; (try simp only [World.size_alloc, World.size_setCell, World.heap_drewN, Nat.add_one_le_iff] at z1); (try have l0 : w.heap.size < w1.heap.size := by omega); (try have l1 : w.heap.size + 1 < w1.heap.size := by omega); (try have l2 : w.heap.size + 1 + 1 < w1.heap.size := by omega)) | (go_at_call 82; refine (near_any _ _).mono ?_; rintro e w1 ⟨rfl, rfl⟩))
  refine bodyPost_ret (v := sle noPcV 4) (by simp [results, Tryz.results38, go_sem, *]) rfl ⟨rfl, (by with_reducible repeat (first | exact Gr.refl _ | assumption | refine Gr.alloc ?_ _ | refine Gr.drewN ?_ _ | refine Gr.drew ?_ | refine Gr.setCell ?_ (by first | (dsimp only; omega) | (simp only [World.size_alloc]; omega)) _ | refine Gr.trans ?_ (by assumption)))⟩
end RG
end Go.Proofs.YtddhaiaapomdjaaGreat
set_option linter.unusedVariables false
set_option linter.unusedSimpArgs false
namespace Go.Proofs.YtddhaiaapomdjaaGreat
set_option linter.unusedVariables false
set_option linter.unusedSimpArgs false
open Go Go.ChangeShapes Go.WideShapes Go.ChangeAt Go.RowKit Go.Deep

namespace RG
theorem smR_tn {rs l : List Rc} {t : Nat} (hr : ∀ r ∈ rs, InM 1048576 r) (h0 : 0 < rs.length) (hl : ∀ r ∈ l, InM 1048576 r) : ∀ r ∈ tnL rs t l, smR 1000000000 r := fun r h => by
 obtain ⟨q, hq, rfl⟩ := List.mem_map.1 h
 obtain ⟨⟨b1, b2⟩, b3, b4⟩ := bnR_bd (l := rs.map (RN t)) (fun r hr' => by obtain ⟨q, hq, rfl⟩ := List.mem_map.1 hr'; exact inM_RN (hr q hq) t) (by rw [List.length_map]; exact h0)
 obtain ⟨i1, i2, i3, i4, i5, i6⟩ := inM_RN (hl q hq) t
 unfold tnR Sh smR
 dsimp only
 omega
theorem vaI {l : List Rc} (h : vaB l = true) : ∀ r ∈ l, InM 1048576 r := fun r hr => vrR_iff.1 (vaB_iff.1 h r hr)
def PuC (w1 : World) (nm mt : ByteArray) (ga gr : Int) (n1 n2 n3 : Nat) (M1 M2 M3 : List Rc) (p7 : Value) (wx : World) : Prop := ∃ (B : Nat) (D1 D2 D3 : Option Addr) (q1 q2 q3 : Nat), p7 = .pointer (some ⟨B, 0, none⟩) ∧ Made wx B #[.string nm, .string mt, iv ga, iv gr, .slice D1 n1 q1, .slice D2 n2 q2, .slice D3 n3 q3] ∧ (NwR wx w1.heap.size D1 q1 M1 ∧ NwR wx w1.heap.size D2 q2 M2 ∧ NwR wx w1.heap.size D3 q3 M3) ∧ w1.heap.size ≤ B ∧ Gr w1 wx
theorem puC_set {w1 w9 : World} {nm mt : ByteArray} {ga gr : Int} {n1 n2 n3 : Nat} {M1 M2 M3 : List Rc} {B n : Nat} {D1 D2 D3 : Option Addr} {q1 q2 q3 : Nat} (hM : Made w9 B #[.string ⟨#[]⟩, .string ⟨#[]⟩, .int .i64 0, .int .i64 0, .slice none 0 0, .slice none 0 0, .slice none 0 0]) (hB : w1.heap.size ≤ B) (gx : Gr w1 w9) (hn : B < n) (u1 : NwR w9 n D1 q1 M1) (u2 : NwR w9 n D2 q2 M2) (u3 : NwR w9 n D3 q3 M3) :
  PuC w1 nm mt ga gr n1 n2 n3 M1 M2 M3 (.pointer (some ⟨B, 0, none⟩)) (setL w9 B 0 [.string nm, .string mt, iv ga, iv gr, .slice D1 n1 q1, .slice D2 n2 q2, .slice D3 n3 q3]) :=
 ⟨B, D1, D2, D3, q1, q2, q3, rfl, hM.setL [.string nm, .string mt, iv ga, iv gr, .slice D1 n1 q1, .slice D2 n2 q2, .slice D3 n3 q3] rfl, ⟨(nwR_setL hn u1).weak (by omega), (nwR_setL hn u2).weak (by omega), (nwR_setL hn u3).weak (by omega)⟩, hB, gr_setL hB gx⟩
theorem puC_new {w1 w9 : World} {nm mt : ByteArray} {ga gr : Int} {n1 n2 n3 : Nat} {M1 M2 M3 : List Rc} {n : Nat} {D1 D2 D3 : Option Addr} {q1 q2 q3 : Nat} (t : TypeId) (gx : Gr w1 w9) (hn : w1.heap.size ≤ n) (u1 : NwR w9 n D1 q1 M1) (u2 : NwR w9 n D2 q2 M2) (u3 : NwR w9 n D3 q3 M3) :
  PuC w1 nm mt ga gr n1 n2 n3 M1 M2 M3 (.pointer (some ⟨w9.heap.size, 0, none⟩)) (w9.alloc (.cells #[.string nm, .string mt, iv ga, iv gr, .slice D1 n1 q1, .slice D2 n2 q2, .slice D3 n3 q3] t)) :=
 ⟨w9.heap.size, D1, D2, D3, q1, q2, q3, rfl, Made.new _ _ _, ⟨(u1.gr (Gr.alloc (Gr.refl _) _)).weak hn, (u2.gr (Gr.alloc (Gr.refl _) _)).weak hn, (u3.gr (Gr.alloc (Gr.refl _) _)).weak hn⟩, gx.size, Gr.alloc gx _⟩
set_option maxHeartbeats 16000000 in
set_option maxRecDepth 100000 in
theorem rPut_ok (p : Pc) (b : Bool) (pi sh x y : Int) (t : Nat) (w : World) (hp : PcW w p) (hb : CoB p.r b) (h0 : vpE p b = 0) (ht : t ≤ 3) (hx : -1048576 ≤ x ∧ x ≤ 1048576) (hy : -1048576 ≤ y ∧ y ≤ 1048576) :
  Calls Tryz.prog 38 #[p.v, atv pi sh x y t] w fun e w' => PutR p.nm p.mt p.ga p.gr ((tnL p.r t p.r).map (mvR x y)) ((tnL p.r t p.c).map (mvR x y)) ((tnL p.r t p.f).map (mvR x y)) w w' e := by
 have HV := hide (fun (w' : World) (g : Gr w w') => rValidatePiece_any p b w' (hp.gr g) hb)
 rw [h0] at HV
 have hG := (vpE_good h0).1
 have HT := hide (fun (w' : World) (g : Gr w w') => turned6_any p.nm p.mt p.ga p.gr p.rA p.cA p.fA p.rc p.cc p.fc p.r p.c p.f t w' (hp.r.gr g) (hp.c.gr g) (hp.f.gr g) (vaI hG.vr) (vaI hG.vc) (vaI hG.vf) hG.n0 (by have := hG.n1; omega) (by have := hG.n2; omega) (by have := hG.n3; omega) ht)
 have HM := hide (fun (w' : World) (D1 D2 D3 : Option Addr) (q1 q2 q3 n : Nat) (g1 : NwR w' n D1 q1 (tnL p.r t p.r)) (g2 : NwR w' n D2 q2 (tnL p.r t p.c)) (g3 : NwR w' n D3 q3 (tnL p.r t p.f)) => move6_any p.nm p.mt p.ga p.gr D1 D2 D3 q1 q2 q3 (tnL p.r t p.r) (tnL p.r t p.c) (tnL p.r t p.f) x y w' g1.s g2.s g3.s (smR_tn (vaI hG.vr) hG.n0 (vaI hG.vr)) (smR_tn (vaI hG.vr) hG.n0 (vaI hG.vc)) (smR_tn (vaI hG.vr) hG.n0 (vaI hG.vf)) (by omega) (by omega) (by rw [tnL, List.length_map]; have := hG.n1; omega) (by rw [tnL, List.length_map]; have := hG.n2; omega) (by rw [tnL, List.length_map]; have := hG.n3; omega))
 obtain ⟨nm, mt, ga, gr, rA, rc, r, cA, cc, c, fA, fc, f⟩ := p
 dsimp only at HT HM ⊢
 have E1 : (tnL r t r).length = r.length := List.length_map ..
 have E2 : (tnL r t c).length = c.length := List.length_map ..
 have E3 : (tnL r t f).length = f.length := List.length_map ..
 rw [E1, E2, E3] at HM
 generalize tnL r t r = G1 at *
 generalize tnL r t c = G2 at *
 generalize tnL r t f = G3 at *
 obtain ⟨M1, h1⟩ : ∃ M, G1.map (mvR x y) = M := ⟨_, rfl⟩
 obtain ⟨M2, h2⟩ : ∃ M, G2.map (mvR x y) = M := ⟨_, rfl⟩
 obtain ⟨M3, h3⟩ : ∃ M, G3.map (mvR x y) = M := ⟨_, rfl⟩
 have HF := hide (show M1.length = r.length ∧ M2.length = c.length ∧ M3.length = f.length from ⟨by rw [← h1, List.length_map, E1], by rw [← h2, List.length_map, E2], by rw [← h3, List.length_map, E3]⟩)
 rw [h1, h2, h3] at HM ⊢
 have d1 : decide ((t : Int) < 0) = false := decide_eq_false (by omega)
 have d2 : decide ((t : Int) > 3) = false := decide_eq_false (by omega)
 have HWX := hide (show wiB x (-1048576) 1048576 = true from wiB_iff.2 hx)
 have HWY := hide (show wiB y (-1048576) 1048576 = true from wiB_iff.2 hy)
 clear hp hb h0 hG ht hx hy h1 h2 h3 E1 E2 E3
 go_enter Tryz.func38, Tryz.ntmps38
 go_upto_region 1 with fail
 obtain ⟨w0, e0⟩ : ∃ w0, ((w.alloc (.cells #[.string nm, .string mt, iv ga, iv gr, .slice rA r.length rc, .slice cA c.length cc, .slice fA f.length fc] 27)).alloc (.cells #[iv pi, iv sh, iv x, iv y, iv t] 33)).alloc (.cells #[.string ⟨#[]⟩, .string ⟨#[]⟩, .int .i64 0, .int .i64 0, .slice none 0 0, .slice none 0 0, .slice none 0 0] 27) = w0 := ⟨_, rfl⟩
 have HG0 := hide (show Gr w w0 by rw [← e0]; exact (by with_reducible repeat (first | exact Gr.refl _ | assumption | refine Gr.alloc ?_ _ | refine Gr.drewN ?_ _ | refine Gr.drew ?_ | refine Gr.setCell ?_ (by first | (dsimp only; omega) | (simp only [World.size_alloc]; omega)) _ | refine Gr.trans ?_ (by assumption))))
 have hw0 : w0.heap.size = w.heap.size + 3 := by
  rw [← e0]
  simp
 have HM0 := hide (show Made w0 w.heap.size #[.string nm, .string mt, iv ga, iv gr, .slice rA r.length rc, .slice cA c.length cc, .slice fA f.length fc] by
  rw [← e0]
  exact (Made.new _ _ _).gr (by with_reducible repeat (first | exact Gr.refl _ | assumption | refine Gr.alloc ?_ _ | refine Gr.drewN ?_ _ | refine Gr.drew ?_ | refine Gr.setCell ?_ (by first | (dsimp only; omega) | (simp only [World.size_alloc]; omega)) _ | refine Gr.trans ?_ (by assumption))))
 have HP0 := hide (show Made w0 (w.heap.size + 1) #[iv pi, iv sh, iv x, iv y, iv t] by
  rw [← e0]
  have := (Made.new (w.alloc (.cells #[.string nm, .string mt, iv ga, iv gr, .slice rA r.length rc, .slice cA c.length cc, .slice fA f.length fc] 27)) #[iv pi, iv sh, iv x, iv y, iv t] 33).gr (w' := ((w.alloc (.cells #[.string nm, .string mt, iv ga, iv gr, .slice rA r.length rc, .slice cA c.length cc, .slice fA f.length fc] 27)).alloc (.cells #[iv pi, iv sh, iv x, iv y, iv t] 33)).alloc (.cells #[.string ⟨#[]⟩, .string ⟨#[]⟩, .int .i64 0, .int .i64 0, .slice none 0 0, .slice none 0 0, .slice none 0 0] 27)) (by with_reducible repeat (first | exact Gr.refl _ | assumption | refine Gr.alloc ?_ _ | refine Gr.drewN ?_ _ | refine Gr.drew ?_ | refine Gr.setCell ?_ (by first | (dsimp only; omega) | (simp only [World.size_alloc]; omega)) _ | refine Gr.trans ?_ (by assumption)))
  simpa using this)
 have HZ0 := hide (show Made w0 (w.heap.size + 2) #[.string ⟨#[]⟩, .string ⟨#[]⟩, .int .i64 0, .int .i64 0, .slice none 0 0, .slice none 0 0, .slice none 0 0] by
  rw [← e0]
  have := Made.new ((w.alloc (.cells #[.string nm, .string mt, iv ga, iv gr, .slice rA r.length rc, .slice cA c.length cc, .slice fA f.length fc] 27)).alloc (.cells #[iv pi, iv sh, iv x, iv y, iv t] 33)) #[.string ⟨#[]⟩, .string ⟨#[]⟩, .int .i64 0, .int .i64 0, .slice none 0 0, .slice none 0 0, .slice none 0 0] 27
  simpa using this)
 simp only [e0]
 clear e0
 have a0 := HM0.out.2.1 0
 have a1 := HM0.out.2.1 1
 have a2 := HM0.out.2.1 2
 have a3 := HM0.out.2.1 3
 have a4 := HM0.out.2.1 4
 have a5 := HM0.out.2.1 5
 have a6 := HM0.out.2.1 6
 go_upto_region 2 with fail
 refine (HV.out _ HG0.out).mono ?_
 rintro _ w1 ⟨rfl, g1⟩
 have hw1 := g1.size
 have HM1 := hide (HM0.out.gr g1)
 have HP1 := hide (HP0.out.gr g1)
 have HZ1 := hide (HZ0.out.gr g1)
 have HG1 := hide (HG0.out.trans g1)
 clear a0 a1 a2 a3 a4 a5 a6 g1 HM0 HP0 HZ0 HG0 HV
 have a0 := HM1.out.2.1 0
 have a1 := HM1.out.2.1 1
 have a2 := HM1.out.2.1 2
 have a3 := HM1.out.2.1 3
 have a4 := HM1.out.2.1 4
 have a5 := HM1.out.2.1 5
 have a6 := HM1.out.2.1 6
 have b0 := HP1.out.2.1 0
 have b1 := HP1.out.2.1 1
 have b2 := HP1.out.2.1 2
 have b3 := HP1.out.2.1 3
 have b4 := HP1.out.2.1 4
 have k1 := HWX.out
 have k2 := HWY.out
 go_upto_region 8 with (first | (go_at_call 82; refine (near_any _ _).mono ?_; rintro e w1 ⟨rfl, rfl⟩))
 have l0 : w.heap.size < w1.heap.size := by omega
 have l1 : w.heap.size + 1 < w1.heap.size := by omega
 clear k1 k2 d1 d2
 go_cut [7] from 34 to 42 (fun p7 wx => PuC w1 nm mt ga gr r.length c.length f.length M1 M2 M3 p7 wx)
 case first =>
  go_region_held3 (fun w' => Gr (w1) w' ∧ ∀ ii oo, ii < (w1).heap.size → w'.cell? ⟨ii, oo, none⟩ = (w1).cell? ⟨ii, oo, none⟩) ((refine And.intro ?_ (Gr.cell ?_) <;> ((with_reducible repeat (first | exact Gr.refl _ | assumption | refine Gr.alloc ?_ _ | refine Gr.drewN ?_ _ | refine Gr.drew ?_ | refine Gr.setCell ?_ (by first | (dsimp only; omega) | (simp only [World.size_alloc]; omega)) _ | refine Gr.trans ?_ (by assumption))); done)))
   (first | (go_at_call 84; refine (HT.out _ (HG1.out.trans (by with_reducible repeat (first | exact Gr.refl _ | assumption | refine Gr.alloc ?_ _ | refine Gr.drewN ?_ _ | refine Gr.drew ?_ | refine Gr.setCell ?_ (by first | (dsimp only; omega) | (simp only [World.size_alloc]; omega)) _ | refine Gr.trans ?_ (by assumption))))).mono ?_; rintro e w8 ⟨D1, D2, D3, q1, q2, q3, rfl, ⟨t1, t2, t3⟩, g8⟩; obtain ⟨X8, Y8, c8, f8⟩ := g8.use; (have z8 := g8.size); (try simp only [World.size_alloc, World.size_drew, World.heap_drewN] at z8))
          | (go_at_call 83; refine (HM.out _ D1 D2 D3 q1 q2 q3 _ (t1.gr (by with_reducible repeat (first | exact Gr.refl _ | assumption | refine Gr.alloc ?_ _ | refine Gr.drewN ?_ _ | refine Gr.drew ?_ | refine Gr.setCell ?_ (by first | (dsimp only; omega) | (simp only [World.size_alloc]; omega)) _ | refine Gr.trans ?_ (by assumption)))) (t2.gr (by with_reducible repeat (first | exact Gr.refl _ | assumption | refine Gr.alloc ?_ _ | refine Gr.drewN ?_ _ | refine Gr.drew ?_ | refine Gr.setCell ?_ (by first | (dsimp only; omega) | (simp only [World.size_alloc]; omega)) _ | refine Gr.trans ?_ (by assumption)))) (t3.gr (by with_reducible repeat (first | exact Gr.refl _ | assumption | refine Gr.alloc ?_ _ | refine Gr.drewN ?_ _ | refine Gr.drew ?_ | refine Gr.setCell ?_ (by first | (dsimp only; omega) | (simp only [World.size_alloc]; omega)) _ | refine Gr.trans ?_ (by assumption))))).mono ?_; rintro e w9 ⟨D4, D5, D6, q4, q5, q6, rfl, ⟨u1, u2, u3⟩, g9⟩; obtain ⟨X9, Y9, c9, f9⟩ := g9.use; (have z9 := g9.size); (try simp only [World.size_alloc, World.size_drew, World.heap_drewN] at z9 u1 u2 u3)))
  ·have gx : Gr w1 w9 := (by with_reducible repeat (first | exact Gr.refl _ | assumption | refine Gr.alloc ?_ _ | refine Gr.drewN ?_ _ | refine Gr.drew ?_ | refine Gr.setCell ?_ (by first | (dsimp only; omega) | (simp only [World.size_alloc]; omega)) _ | refine Gr.trans ?_ (by assumption)))
   go_wp2_with fail
   go_meet
   exact puC_new _ gx (by omega) u1 u2 u3
  ·have gx : Gr w1 w9 := (by with_reducible repeat (first | exact Gr.refl _ | assumption | refine Gr.alloc ?_ _ | refine Gr.drewN ?_ _ | refine Gr.drew ?_ | refine Gr.setCell ?_ (by first | (dsimp only; omega) | (simp only [World.size_alloc]; omega)) _ | refine Gr.trans ?_ (by assumption)))
   go_wp2_with fail
   go_meet
   exact puC_set (B := w8.heap.size) ((Made.new w8 _ _).gr g9) (by omega) gx (by omega) u1 u2 u3
  ·have gx : Gr w1 w9 := (by with_reducible repeat (first | exact Gr.refl _ | assumption | refine Gr.alloc ?_ _ | refine Gr.drewN ?_ _ | refine Gr.drew ?_ | refine Gr.setCell ?_ (by first | (dsimp only; omega) | (simp only [World.size_alloc]; omega)) _ | refine Gr.trans ?_ (by assumption)))
   go_wp2_with fail
   go_meet
   exact puC_set (B := w1.heap.size) (((Made.new w1 #[.string ⟨#[]⟩, .string ⟨#[]⟩, .int .i64 0, .int .i64 0, .slice none 0 0, .slice none 0 0, .slice none 0 0] 27).gr (show Gr _ w8 from (by with_reducible repeat (first | exact Gr.refl _ | assumption | refine Gr.alloc ?_ _ | refine Gr.drewN ?_ _ | refine Gr.drew ?_ | refine Gr.setCell ?_ (by first | (dsimp only; omega) | (simp only [World.size_alloc]; omega)) _ | refine Gr.trans ?_ (by assumption))))).gr g9) (by omega) gx (by omega) u1 u2 u3
 case rest =>
  clear a0 a1 a2 a3 a4 a5 a6 b0 b1 b2 b3 b4
  obtain ⟨B, D1, D2, D3, q1, q2, q3, rfl, HMX, ⟨u1, u2, u3⟩, hB, gx⟩ := hcut
  obtain ⟨F1, F2, F3⟩ := HF.out
  have HR1 := hide (fun (w' : World) (g : Gr _ w') => rights6_any D1 q1 M1 w' (u1.s.gr g))
  have HR2 := hide (fun (w' : World) (g : Gr _ w') => rights6_any D2 q2 M2 w' (u2.s.gr g))
  have HR3 := hide (fun (w' : World) (g : Gr _ w') => rights6_any D3 q3 M3 w' (u3.s.gr g))
  rw [F1] at HR1
  rw [F2] at HR2
  rw [F3] at HR3
  have HUU := hide (And.intro u1 (And.intro u2 u3))
  have HMY := hide HMX
  have HZX := hide (HZ1.out.gr gx)
  have HGX := hide (HG1.out.trans gx)
  have hgx := gx.size
  have hBl := HMX.1
  clear u1 u2 u3 HMX gx HM1 HP1 HZ1 HG1 HT HM F1 F2 F3
  have HY0 := HMY
  have HX0 := HZX
  have HC0 := hide (Gr.refl wc)
  have hv0 : wc.heap.size ≤ wc.heap.size := Nat.le_refl _
  clear HMY HZX
  cases h1 : vaB M1 with
  | false =>
   rw [h1] at HR1
   have HB := hide (show (vaB M1 && (vaB M2 && vaB M3)) = false by rw [h1]; rfl)
   clear h1 HR2 HR3
   have a0 := HY0.out.2.1 0
   have a1 := HY0.out.2.1 1
   have a2 := HY0.out.2.1 2
   have a3 := HY0.out.2.1 3
   have a4 := HY0.out.2.1 4
   have a5 := HY0.out.2.1 5
   have a6 := HY0.out.2.1 6
   have b0 := HX0.out.2.1 0
   have b1 := HX0.out.2.1 1
   have b2 := HX0.out.2.1 2
   have b3 := HX0.out.2.1 3
   have b4 := HX0.out.2.1 4
   have b5 := HX0.out.2.1 5
   have b6 := HX0.out.2.1 6
   have b7 := HX0.out.2.2
   go_wp2_with fail
   refine (HR1.out _ HC0.out).mono ?_
   rintro _ v1 ⟨rfl, g1⟩
   have hv1 := g1.size
   have HY1 := hide (HY0.out.gr g1)
   have HX1 := hide (HX0.out.gr g1)
   have HC1 := hide (HC0.out.trans g1)
   clear g1 a0 a1 a2 a3 a4 a5 a6 b0 b1 b2 b3 b4 b5 b6 b7 HY0 HX0 HC0 HR1
   have a0 := HY1.out.2.1 0
   have a1 := HY1.out.2.1 1
   have a2 := HY1.out.2.1 2
   have a3 := HY1.out.2.1 3
   have a4 := HY1.out.2.1 4
   have a5 := HY1.out.2.1 5
   have a6 := HY1.out.2.1 6
   have b0 := HX1.out.2.1 0
   have b1 := HX1.out.2.1 1
   have b2 := HX1.out.2.1 2
   have b3 := HX1.out.2.1 3
   have b4 := HX1.out.2.1 4
   have b5 := HX1.out.2.1 5
   have b6 := HX1.out.2.1 6
   have b7 := HX1.out.2.2
   have lB : w.heap.size + 1 + 1 < v1.heap.size := HX1.out.1
   go_wp2_with fail
   clear a0 a1 a2 a3 a4 a5 a6 b0 b1 b2 b3 b4 b5 b6 b7
   obtain ⟨w4, e4⟩ : ∃ w4, setL v1 (w.heap.size + 2) 0 [.string ⟨#[]⟩, .string ⟨#[]⟩, .int .i64 0, .int .i64 0, .slice none 0 0, .slice none 0 0, .slice none 0 0] = w4 := ⟨_, rfl⟩
   have HG4 := hide (show Gr w w4 by
    rw [← e4]
    exact gr_setL (by omega) (HGX.out.trans HC1.out))
   have HM4 := hide (show Made w4 (w.heap.size + 2) #[.string ⟨#[]⟩, .string ⟨#[]⟩, .int .i64 0, .int .i64 0, .slice none 0 0, .slice none 0 0, .slice none 0 0] by
    rw [← e4]
    exact HX1.out.setL [.string ⟨#[]⟩, .string ⟨#[]⟩, .int .i64 0, .int .i64 0, .slice none 0 0, .slice none 0 0, .slice none 0 0] rfl)
   have e5 := e4
   simp only [setL] at e5
   rw [e5]
   clear e4 e5
   have b0 := HM4.out.2.1 0
   have b1 := HM4.out.2.1 1
   have b2 := HM4.out.2.1 2
   have b3 := HM4.out.2.1 3
   have b4 := HM4.out.2.1 4
   have b5 := HM4.out.2.1 5
   have b6 := HM4.out.2.1 6
   refine bodyPost_ret (v := sle noPcV 4) (by simp [results, Tryz.results38, go_sem, *]) rfl ?_
   unfold PutR
   rw [if_neg (by rw [HB.out]; decide)]
   exact ⟨rfl, HG4.out⟩
  | true =>
   rw [h1] at HR1
   cases h2 : vaB M2 with
   | false =>
    rw [h2] at HR2
    have HB := hide (show (vaB M1 && (vaB M2 && vaB M3)) = false by rw [h2, Bool.false_and, Bool.and_false])
    clear h1 h2 HR3
    have a0 := HY0.out.2.1 0
    have a1 := HY0.out.2.1 1
    have a2 := HY0.out.2.1 2
    have a3 := HY0.out.2.1 3
    have a4 := HY0.out.2.1 4
    have a5 := HY0.out.2.1 5
    have a6 := HY0.out.2.1 6
    have b0 := HX0.out.2.1 0
    have b1 := HX0.out.2.1 1
    have b2 := HX0.out.2.1 2
    have b3 := HX0.out.2.1 3
    have b4 := HX0.out.2.1 4
    have b5 := HX0.out.2.1 5
    have b6 := HX0.out.2.1 6
    have b7 := HX0.out.2.2
    go_wp2_with fail
    refine (HR1.out _ HC0.out).mono ?_
    rintro _ v1 ⟨rfl, g1⟩
    have hv1 := g1.size
    have HY1 := hide (HY0.out.gr g1)
    have HX1 := hide (HX0.out.gr g1)
    have HC1 := hide (HC0.out.trans g1)
    clear g1 a0 a1 a2 a3 a4 a5 a6 b0 b1 b2 b3 b4 b5 b6 b7 HY0 HX0 HC0 HR1
    have a0 := HY1.out.2.1 0
    have a1 := HY1.out.2.1 1
    have a2 := HY1.out.2.1 2
    have a3 := HY1.out.2.1 3
    have a4 := HY1.out.2.1 4
    have a5 := HY1.out.2.1 5
    have a6 := HY1.out.2.1 6
    have b0 := HX1.out.2.1 0
    have b1 := HX1.out.2.1 1
    have b2 := HX1.out.2.1 2
    have b3 := HX1.out.2.1 3
    have b4 := HX1.out.2.1 4
    have b5 := HX1.out.2.1 5
    have b6 := HX1.out.2.1 6
    have b7 := HX1.out.2.2
    go_wp2_with fail
    refine (HR2.out _ HC1.out).mono ?_
    rintro _ v2 ⟨rfl, g2⟩
    have hv2 := g2.size
    have HY2 := hide (HY1.out.gr g2)
    have HX2 := hide (HX1.out.gr g2)
    have HC2 := hide (HC1.out.trans g2)
    clear g2 a0 a1 a2 a3 a4 a5 a6 b0 b1 b2 b3 b4 b5 b6 b7 HY1 HX1 HC1 HR2
    have a0 := HY2.out.2.1 0
    have a1 := HY2.out.2.1 1
    have a2 := HY2.out.2.1 2
    have a3 := HY2.out.2.1 3
    have a4 := HY2.out.2.1 4
    have a5 := HY2.out.2.1 5
    have a6 := HY2.out.2.1 6
    have b0 := HX2.out.2.1 0
    have b1 := HX2.out.2.1 1
    have b2 := HX2.out.2.1 2
    have b3 := HX2.out.2.1 3
    have b4 := HX2.out.2.1 4
    have b5 := HX2.out.2.1 5
    have b6 := HX2.out.2.1 6
    have b7 := HX2.out.2.2
    have lB : w.heap.size + 1 + 1 < v2.heap.size := HX2.out.1
    go_wp2_with fail
    clear a0 a1 a2 a3 a4 a5 a6 b0 b1 b2 b3 b4 b5 b6 b7
    obtain ⟨w4, e4⟩ : ∃ w4, setL v2 (w.heap.size + 2) 0 [.string ⟨#[]⟩, .string ⟨#[]⟩, .int .i64 0, .int .i64 0, .slice none 0 0, .slice none 0 0, .slice none 0 0] = w4 := ⟨_, rfl⟩
    have HG4 := hide (show Gr w w4 by
     rw [← e4]
     exact gr_setL (by omega) (HGX.out.trans HC2.out))
    have HM4 := hide (show Made w4 (w.heap.size + 2) #[.string ⟨#[]⟩, .string ⟨#[]⟩, .int .i64 0, .int .i64 0, .slice none 0 0, .slice none 0 0, .slice none 0 0] by
     rw [← e4]
     exact HX2.out.setL [.string ⟨#[]⟩, .string ⟨#[]⟩, .int .i64 0, .int .i64 0, .slice none 0 0, .slice none 0 0, .slice none 0 0] rfl)
    have e5 := e4
    simp only [setL] at e5
    rw [e5]
    clear e4 e5
    have b0 := HM4.out.2.1 0
    have b1 := HM4.out.2.1 1
    have b2 := HM4.out.2.1 2
    have b3 := HM4.out.2.1 3
    have b4 := HM4.out.2.1 4
    have b5 := HM4.out.2.1 5
    have b6 := HM4.out.2.1 6
    refine bodyPost_ret (v := sle noPcV 4) (by simp [results, Tryz.results38, go_sem, *]) rfl ?_
    unfold PutR
    rw [if_neg (by rw [HB.out]; decide)]
    exact ⟨rfl, HG4.out⟩
   | true =>
    rw [h2] at HR2
    cases h3 : vaB M3 with
    | false =>
     rw [h3] at HR3
     have HB := hide (show (vaB M1 && (vaB M2 && vaB M3)) = false by rw [h3, Bool.and_false, Bool.and_false])
     clear h1 h2 h3
     have a0 := HY0.out.2.1 0
     have a1 := HY0.out.2.1 1
     have a2 := HY0.out.2.1 2
     have a3 := HY0.out.2.1 3
     have a4 := HY0.out.2.1 4
     have a5 := HY0.out.2.1 5
     have a6 := HY0.out.2.1 6
     have b0 := HX0.out.2.1 0
     have b1 := HX0.out.2.1 1
     have b2 := HX0.out.2.1 2
     have b3 := HX0.out.2.1 3
     have b4 := HX0.out.2.1 4
     have b5 := HX0.out.2.1 5
     have b6 := HX0.out.2.1 6
     have b7 := HX0.out.2.2
     go_wp2_with fail
     refine (HR1.out _ HC0.out).mono ?_
     rintro _ v1 ⟨rfl, g1⟩
     have hv1 := g1.size
     have HY1 := hide (HY0.out.gr g1)
     have HX1 := hide (HX0.out.gr g1)
     have HC1 := hide (HC0.out.trans g1)
     clear g1 a0 a1 a2 a3 a4 a5 a6 b0 b1 b2 b3 b4 b5 b6 b7 HY0 HX0 HC0 HR1
     have a0 := HY1.out.2.1 0
     have a1 := HY1.out.2.1 1
     have a2 := HY1.out.2.1 2
     have a3 := HY1.out.2.1 3
     have a4 := HY1.out.2.1 4
     have a5 := HY1.out.2.1 5
     have a6 := HY1.out.2.1 6
     have b0 := HX1.out.2.1 0
     have b1 := HX1.out.2.1 1
     have b2 := HX1.out.2.1 2
     have b3 := HX1.out.2.1 3
     have b4 := HX1.out.2.1 4
     have b5 := HX1.out.2.1 5
     have b6 := HX1.out.2.1 6
     have b7 := HX1.out.2.2
     go_wp2_with fail
     refine (HR2.out _ HC1.out).mono ?_
     rintro _ v2 ⟨rfl, g2⟩
     have hv2 := g2.size
     have HY2 := hide (HY1.out.gr g2)
     have HX2 := hide (HX1.out.gr g2)
     have HC2 := hide (HC1.out.trans g2)
     clear g2 a0 a1 a2 a3 a4 a5 a6 b0 b1 b2 b3 b4 b5 b6 b7 HY1 HX1 HC1 HR2
     have a0 := HY2.out.2.1 0
     have a1 := HY2.out.2.1 1
     have a2 := HY2.out.2.1 2
     have a3 := HY2.out.2.1 3
     have a4 := HY2.out.2.1 4
     have a5 := HY2.out.2.1 5
     have a6 := HY2.out.2.1 6
     have b0 := HX2.out.2.1 0
     have b1 := HX2.out.2.1 1
     have b2 := HX2.out.2.1 2
     have b3 := HX2.out.2.1 3
     have b4 := HX2.out.2.1 4
     have b5 := HX2.out.2.1 5
     have b6 := HX2.out.2.1 6
     have b7 := HX2.out.2.2
     go_wp2_with fail
     refine (HR3.out _ HC2.out).mono ?_
     rintro _ v3 ⟨rfl, g3⟩
     have hv3 := g3.size
     have HY3 := hide (HY2.out.gr g3)
     have HX3 := hide (HX2.out.gr g3)
     have HC3 := hide (HC2.out.trans g3)
     clear g3 a0 a1 a2 a3 a4 a5 a6 b0 b1 b2 b3 b4 b5 b6 b7 HY2 HX2 HC2 HR3
     have a0 := HY3.out.2.1 0
     have a1 := HY3.out.2.1 1
     have a2 := HY3.out.2.1 2
     have a3 := HY3.out.2.1 3
     have a4 := HY3.out.2.1 4
     have a5 := HY3.out.2.1 5
     have a6 := HY3.out.2.1 6
     have b0 := HX3.out.2.1 0
     have b1 := HX3.out.2.1 1
     have b2 := HX3.out.2.1 2
     have b3 := HX3.out.2.1 3
     have b4 := HX3.out.2.1 4
     have b5 := HX3.out.2.1 5
     have b6 := HX3.out.2.1 6
     have b7 := HX3.out.2.2
     have lB : w.heap.size + 1 + 1 < v3.heap.size := HX3.out.1
     go_wp2_with fail
     clear a0 a1 a2 a3 a4 a5 a6 b0 b1 b2 b3 b4 b5 b6 b7
     obtain ⟨w4, e4⟩ : ∃ w4, setL v3 (w.heap.size + 2) 0 [.string ⟨#[]⟩, .string ⟨#[]⟩, .int .i64 0, .int .i64 0, .slice none 0 0, .slice none 0 0, .slice none 0 0] = w4 := ⟨_, rfl⟩
     have HG4 := hide (show Gr w w4 by
      rw [← e4]
      exact gr_setL (by omega) (HGX.out.trans HC3.out))
     have HM4 := hide (show Made w4 (w.heap.size + 2) #[.string ⟨#[]⟩, .string ⟨#[]⟩, .int .i64 0, .int .i64 0, .slice none 0 0, .slice none 0 0, .slice none 0 0] by
      rw [← e4]
      exact HX3.out.setL [.string ⟨#[]⟩, .string ⟨#[]⟩, .int .i64 0, .int .i64 0, .slice none 0 0, .slice none 0 0, .slice none 0 0] rfl)
     have e5 := e4
     simp only [setL] at e5
     rw [e5]
     clear e4 e5
     have b0 := HM4.out.2.1 0
     have b1 := HM4.out.2.1 1
     have b2 := HM4.out.2.1 2
     have b3 := HM4.out.2.1 3
     have b4 := HM4.out.2.1 4
     have b5 := HM4.out.2.1 5
     have b6 := HM4.out.2.1 6
     refine bodyPost_ret (v := sle noPcV 4) (by simp [results, Tryz.results38, go_sem, *]) rfl ?_
     unfold PutR
     rw [if_neg (by rw [HB.out]; decide)]
     exact ⟨rfl, HG4.out⟩
    | true =>
     rw [h3] at HR3
     have HB := hide (show (vaB M1 && (vaB M2 && vaB M3)) = true by rw [h1, h2, h3]; rfl)
     clear h1 h2 h3
     have a0 := HY0.out.2.1 0
     have a1 := HY0.out.2.1 1
     have a2 := HY0.out.2.1 2
     have a3 := HY0.out.2.1 3
     have a4 := HY0.out.2.1 4
     have a5 := HY0.out.2.1 5
     have a6 := HY0.out.2.1 6
     have b0 := HX0.out.2.1 0
     have b1 := HX0.out.2.1 1
     have b2 := HX0.out.2.1 2
     have b3 := HX0.out.2.1 3
     have b4 := HX0.out.2.1 4
     have b5 := HX0.out.2.1 5
     have b6 := HX0.out.2.1 6
     have b7 := HX0.out.2.2
     go_wp2_with fail
     refine (HR1.out _ HC0.out).mono ?_
     rintro _ v1 ⟨rfl, g1⟩
     have hv1 := g1.size
     have HY1 := hide (HY0.out.gr g1)
     have HX1 := hide (HX0.out.gr g1)
     have HC1 := hide (HC0.out.trans g1)
     clear g1 a0 a1 a2 a3 a4 a5 a6 b0 b1 b2 b3 b4 b5 b6 b7 HY0 HX0 HC0 HR1
     have a0 := HY1.out.2.1 0
     have a1 := HY1.out.2.1 1
     have a2 := HY1.out.2.1 2
     have a3 := HY1.out.2.1 3
     have a4 := HY1.out.2.1 4
     have a5 := HY1.out.2.1 5
     have a6 := HY1.out.2.1 6
     have b0 := HX1.out.2.1 0
     have b1 := HX1.out.2.1 1
     have b2 := HX1.out.2.1 2
     have b3 := HX1.out.2.1 3
     have b4 := HX1.out.2.1 4
     have b5 := HX1.out.2.1 5
     have b6 := HX1.out.2.1 6
     have b7 := HX1.out.2.2
     go_wp2_with fail
     refine (HR2.out _ HC1.out).mono ?_
     rintro _ v2 ⟨rfl, g2⟩
     have hv2 := g2.size
     have HY2 := hide (HY1.out.gr g2)
     have HX2 := hide (HX1.out.gr g2)
     have HC2 := hide (HC1.out.trans g2)
     clear g2 a0 a1 a2 a3 a4 a5 a6 b0 b1 b2 b3 b4 b5 b6 b7 HY1 HX1 HC1 HR2
     have a0 := HY2.out.2.1 0
     have a1 := HY2.out.2.1 1
     have a2 := HY2.out.2.1 2
     have a3 := HY2.out.2.1 3
     have a4 := HY2.out.2.1 4
     have a5 := HY2.out.2.1 5
     have a6 := HY2.out.2.1 6
     have b0 := HX2.out.2.1 0
     have b1 := HX2.out.2.1 1
     have b2 := HX2.out.2.1 2
     have b3 := HX2.out.2.1 3
     have b4 := HX2.out.2.1 4
     have b5 := HX2.out.2.1 5
     have b6 := HX2.out.2.1 6
     have b7 := HX2.out.2.2
     go_wp2_with fail
     refine (HR3.out _ HC2.out).mono ?_
     rintro _ v3 ⟨rfl, g3⟩
     have hv3 := g3.size
     have HY3 := hide (HY2.out.gr g3)
     have HX3 := hide (HX2.out.gr g3)
     have HC3 := hide (HC2.out.trans g3)
     clear g3 a0 a1 a2 a3 a4 a5 a6 b0 b1 b2 b3 b4 b5 b6 b7 HY2 HX2 HC2 HR3
     have a0 := HY3.out.2.1 0
     have a1 := HY3.out.2.1 1
     have a2 := HY3.out.2.1 2
     have a3 := HY3.out.2.1 3
     have a4 := HY3.out.2.1 4
     have a5 := HY3.out.2.1 5
     have a6 := HY3.out.2.1 6
     have b0 := HX3.out.2.1 0
     have b1 := HX3.out.2.1 1
     have b2 := HX3.out.2.1 2
     have b3 := HX3.out.2.1 3
     have b4 := HX3.out.2.1 4
     have b5 := HX3.out.2.1 5
     have b6 := HX3.out.2.1 6
     have b7 := HX3.out.2.2
     have lB : w.heap.size + 1 + 1 < v3.heap.size := HX3.out.1
     go_wp2_with fail
     clear a0 a1 a2 a3 a4 a5 a6 b0 b1 b2 b3 b4 b5 b6 b7
     obtain ⟨w4, e4⟩ : ∃ w4, setL v3 (w.heap.size + 2) 0 [.string nm, .string mt, iv ga, iv gr, .slice D1 r.length q1, .slice D2 c.length q2, .slice D3 f.length q3] = w4 := ⟨_, rfl⟩
     have HG4 := hide (show Gr w w4 by
      rw [← e4]
      exact gr_setL (by omega) (HGX.out.trans HC3.out))
     have HM4 := hide (show Made w4 (w.heap.size + 2) #[.string nm, .string mt, iv ga, iv gr, .slice D1 r.length q1, .slice D2 c.length q2, .slice D3 f.length q3] by
      rw [← e4]
      exact HX3.out.setL [.string nm, .string mt, iv ga, iv gr, .slice D1 r.length q1, .slice D2 c.length q2, .slice D3 f.length q3] rfl)
     have HU4 := hide (show NwR w4 w.heap.size D1 q1 M1 ∧ NwR w4 w.heap.size D2 q2 M2 ∧ NwR w4 w.heap.size D3 q3 M3 by
      rw [← e4]
      have gq := HC3.out
      exact ⟨(nwR_setL (by omega) (HUU.out.1.gr gq)).weak (by omega), (nwR_setL (by omega) (HUU.out.2.1.gr gq)).weak (by omega), (nwR_setL (by omega) (HUU.out.2.2.gr gq)).weak (by omega)⟩)
     have e5 := e4
     simp only [setL] at e5
     rw [e5]
     clear e4 e5
     have b0 := HM4.out.2.1 0
     have b1 := HM4.out.2.1 1
     have b2 := HM4.out.2.1 2
     have b3 := HM4.out.2.1 3
     have b4 := HM4.out.2.1 4
     have b5 := HM4.out.2.1 5
     have b6 := HM4.out.2.1 6
     refine bodyPost_ret (v := sle (pcvv nm mt ga gr (.slice D1 r.length q1) (.slice D2 c.length q2) (.slice D3 f.length q3)) 0) (by simp [results, Tryz.results38, go_sem, *]) rfl ?_
     unfold PutR
     rw [if_pos HB.out]
     obtain ⟨F1, F2, F3⟩ := HF.out
     exact ⟨D1, D2, D3, q1, q2, q3, by rw [F1, F2, F3], ⟨HU4.out.1.s, HU4.out.2.1.s, HU4.out.2.2.s⟩, ⟨HU4.out.1.f, HU4.out.2.1.f, HU4.out.2.2.f⟩, HG4.out⟩
end RG
end Go.Proofs.YtddhaiaapomdjaaGreat
set_option linter.unusedVariables false
set_option linter.unusedSimpArgs false
namespace Go.Proofs.YtddhaiaapomdjaaGreat
set_option linter.unusedVariables false
set_option linter.unusedSimpArgs false
open Go Go.ChangeShapes Go.WideShapes Go.ChangeAt Go.RowKit Go.Deep

namespace RG
end RG
end Go.Proofs.YtddhaiaapomdjaaGreat
