/-
 Nests: a placement that is not right is refused, of the code (add).
 Nests: a placement of no piece or sheet, or where the piece can't be put, is refused, of the code (add).
 Nests: which placement is wrong, plain; Put of the code and of the reference at any placement.
 Nests: Check of the code.
-/
import Derived.Test.YtddhaiaapomdjaaGreatGIe
import Derived.Test.YtddhaiaapomdjaaGreatGPe
import Derived.Test.YtddhaiaapomdjaaGreatGJe
set_option linter.unusedVariables false
set_option linter.unusedSimpArgs false
namespace Go.Proofs.YtddhaiaapomdjaaGreat
set_option linter.unusedVariables false
set_option linter.unusedSimpArgs false
open Go Go.ChangeShapes Go.WideShapes Go.ChangeAt Go.RowKit Go.Deep

namespace RG
set_option maxHeartbeats 8000000 in
set_option maxRecDepth 100000 in
theorem add_placed (SA : Option Addr) (sc : Nat) (S : List ShT) (PA : Option Addr) (pc : Nat) (Ps : List Pc) (lo P T : Nat) (pl : List Bool) (tk : List Tk) (t : St) (i j : Nat) (p : Pc) (s : ShT) (z : Tk) (x y k : Int) (M1 M2' M3' : List Rc) (w : World)
  (hS : SlS w SA sc S) (hP : SlP w PA pc Ps) (hN : NsS w lo P T pl tk) (hp : Ps[i]? = some p) (hs : S[j]? = some s) (hz : tk[j]? = some z) (hb : pl[i]? = some true) (hn : S.length ≤ 4) (hm : Ps.length ≤ 8) (hG : ShG s) (htm : 0 ≤ t.m ∧ t.m ≤ 14400)
  (hU : ∀ w', Gr w w' → Calls Tryz.prog 67 #[p.v, atv i j x y k] w' fun e w'' => PutOk p.nm p.mt p.ga p.gr M1 M2' M3' w' w'' e) :
  Calls Tryz.prog 36 #[nsv SA sc S.length PA pc Ps.length t P T, atv i j x y k] w fun e w' => e = .returned (iv 12) ∧ Gr w w' := by
 have hil : i < Ps.length := (List.getElem?_eq_some_iff.1 hp).1
 have hjl : j < S.length := (List.getElem?_eq_some_iff.1 hs).1
 have n1 := hS.cap
 have n2 := hS.capB
 have n3 := hP.cap
 have n4 := hP.capB
 have HS := hide hS
 have HP := hide hP
 have HN := hide hN
 have HU := hide hU
 have HPI := hide hp
 have HSI := hide hs
 have HZI := hide hz
 have HBI := hide hb
 have HG := hide hG
 have HTM := hide htm
 have i0 : (0 : Int) ≤ (i : Int) := by omega
 have i1 : (i : Int) < (Ps.length : Int) := by omega
 have j0 : (0 : Int) ≤ (j : Int) := by omega
 have j1 : (j : Int) < (S.length : Int) := by omega
 have HW := hide (fun (u v : Int) (w' : World) (h1 : 0 ≤ u) (h2 : u ≤ v) => show Calls Tryz.prog 60 #[iv u, iv 0, iv v] w' fun e w'' => e = .returned (.bool true) ∧ w' = w'' from (wiB_iff.2 ⟨h1, h2⟩ : wiB u 0 v = true) ▸ nwithin_any u 0 v w')
 have W1 : IntKind.i64.wrap ((Ps.length : Int) - 1) = (Ps.length : Int) - 1 := IntWalk.i64_in _ (by omega)
 have W2 : IntKind.i64.wrap ((S.length : Int) - 1) = (S.length : Int) - 1 := IntWalk.i64_in _ (by omega)
 obtain ⟨g, m, cm⟩ := t
 clear hS hP hN hU hp hs hz hb hG htm
 go_enter Tryz.func36, Tryz.ntmps36
 go_upto_region 3 with (first | (go_at_call 60; refine (HW.out _ _ _ (by omega) (by omega)).mono ?_; rintro e w1 ⟨rfl, rfl⟩))
 obtain ⟨w1, hw1⟩ : ∃ W, W = (w.alloc (.cells #[.slice SA S.length sc, .slice PA Ps.length pc, iv g, iv m, .bool cm, .slice (some ⟨P, 0, none⟩) Ps.length Ps.length, .slice (some ⟨T, 0, none⟩) S.length S.length] 75)).alloc (.cells #[iv i, iv j, iv x, iv y, iv k] 33) := ⟨_, rfl⟩
 have M2 := hide ((Made.new w #[.slice SA S.length sc, .slice PA Ps.length pc, iv g, iv m, .bool cm, .slice (some ⟨P, 0, none⟩) Ps.length Ps.length, .slice (some ⟨T, 0, none⟩) S.length S.length] 75).gr (show Gr _ w1 from by rw [hw1]; exact Gr.alloc (Gr.refl _) _))
 have M3 := Made.new (w.alloc (.cells #[.slice SA S.length sc, .slice PA Ps.length pc, iv g, iv m, .bool cm, .slice (some ⟨P, 0, none⟩) Ps.length Ps.length, .slice (some ⟨T, 0, none⟩) S.length S.length] 75)) #[iv i, iv j, iv x, iv y, iv k] 33
 rw [World.size_alloc, ← hw1] at M3
 have M3 := hide M3
 have g0 : Gr w w1 := by rw [hw1]; exact Gr.alloc (Gr.alloc (Gr.refl _) _) _
 rw [← hw1]
 clear hw1
 have hb2 : w.heap.size ≠ w.heap.size + 1 := by omega
 generalize hb3 : w.heap.size + 1 = b3 at *
 generalize hb2' : w.heap.size = b2 at M2 hb2 ⊢
 obtain ⟨bp, op, hB, ⟨y0, y1, y2, y3, y4, y5, y6⟩, _⟩ := (HP.out.gr g0).at_ HPI.out
 subst hB
 have hbp : bp < w1.heap.size := cell_lt (by rw [y0]; rfl)
 have HUW := hide (show ∀ w', Gr w1 w' → Calls Tryz.prog 67 #[p.v, atv i j x y k] w' fun e w'' => PutOk p.nm p.mt p.ga p.gr M1 M2' M3' w' w'' e from fun w' g => HU.out w' (g0.trans g))
 obtain ⟨l2, y2, _⟩ := M2.out.gr (Gr.refl w1)
 have a20 := y2 0
 have a21 := y2 1
 have a22 := y2 2
 have a23 := y2 3
 have a24 := y2 4
 have a25 := y2 5
 have a26 := y2 6
 clear y2
 obtain ⟨l3, y3, _⟩ := M3.out.gr (Gr.refl w1)
 have a30 := y3 0
 have a31 := y3 1
 have a32 := y3 2
 have a33 := y3 3
 have a34 := y3 4
 clear y3
 go_cut [5, 6] from 25 to 35 (fun p5 v6 wx => ∃ (B5 : Nat) (D1 D2 D3 : Option Addr) (q1 q2 q3 : Nat), p5 = .pointer (some ⟨B5, 0, none⟩) ∧ v6 = iv 0 ∧ (wx.cell? ⟨B5, 0, none⟩ = some (.string p.nm) ∧ wx.cell? ⟨B5, 1, none⟩ = some (.string p.mt) ∧ wx.cell? ⟨B5, 2, none⟩ = some (iv p.ga) ∧ wx.cell? ⟨B5, 3, none⟩ = some (iv p.gr) ∧ wx.cell? ⟨B5, 4, none⟩ = some (.slice D1 M1.length q1) ∧ wx.cell? ⟨B5, 5, none⟩ = some (.slice D2 M2'.length q2) ∧ wx.cell? ⟨B5, 6, none⟩ = some (.slice D3 M3'.length q3)) ∧ SlR wx D1 q1 M1 ∧ (M1 ≠ [] → ∀ a, D1 = some a → w1.heap.size ≤ a.block) ∧ w1.heap.size ≤ B5 ∧ B5 < wx.heap.size ∧ Gr w1 wx)
 case first =>
  go_region_held3 (fun w' => Gr (w1) w' ∧ ∀ ii oo, ii < (w1).heap.size → w'.cell? ⟨ii, oo, none⟩ = (w1).cell? ⟨ii, oo, none⟩) ((refine And.intro ?_ (Gr.cell ?_) <;> ((with_reducible repeat (first | exact Gr.refl _ | assumption | refine Gr.alloc ?_ _ | refine Gr.drewN ?_ _ | refine Gr.drew ?_ | refine Gr.setCell ?_ (by first | (dsimp only; omega) | (simp only [World.size_alloc]; omega)) _ | refine Gr.trans ?_ (by assumption))); done)))
   (first | (go_at_call 67; refine (HUW.out _ (by with_reducible repeat (first | exact Gr.refl _ | assumption | refine Gr.alloc ?_ _ | refine Gr.drewN ?_ _ | refine Gr.drew ?_ | refine Gr.setCell ?_ (by first | (dsimp only; omega) | (simp only [World.size_alloc]; omega)) _ | refine Gr.trans ?_ (by assumption)))).mono ?_; rintro e w9 ⟨D1, D2, D3, q1, q2, q3, rfl, ⟨hs1, _, _⟩, ⟨hf1, _, _⟩, g9⟩; obtain ⟨X1, Y1, c1, f1⟩ := g9.use; (have z9 := g9.size); (try simp only [World.size_alloc, World.size_drew, World.heap_drewN] at z9 hf1)))
  ·go_wp2_with fail
   go_meet
   refine ⟨_, D1, D2, D3, q1, q2, q3, rfl, rfl, ?_, ?_, ?_, ?_, ?_, (by with_reducible repeat (first | exact Gr.refl _ | assumption | refine Gr.alloc ?_ _ | refine Gr.drewN ?_ _ | refine Gr.drew ?_ | refine Gr.setCell ?_ (by first | (dsimp only; omega) | (simp only [World.size_alloc]; omega)) _ | refine Gr.trans ?_ (by assumption)))⟩
   ·simp [go_sem, *]
   ·exact SlR.gr hs1 (Gr.alloc (Gr.refl w9) _)
   ·exact fun h a ha => by have := hf1 h a ha; omega
   ·first | omega | (simp only [World.size_alloc, World.size_setCell, World.size_drew, World.heap_drewN]; omega)
   ·first | omega | (simp only [World.size_alloc, World.size_setCell, World.size_drew, World.heap_drewN]; omega)
  ·go_wp2_with fail
   go_meet
   refine ⟨_, D1, D2, D3, q1, q2, q3, rfl, rfl, ?_, ?_, ?_, ?_, ?_, (by with_reducible repeat (first | exact Gr.refl _ | assumption | refine Gr.alloc ?_ _ | refine Gr.drewN ?_ _ | refine Gr.drew ?_ | refine Gr.setCell ?_ (by first | (dsimp only; omega) | (simp only [World.size_alloc]; omega)) _ | refine Gr.trans ?_ (by assumption)))⟩
   ·simp [go_sem, *]
   ·exact SlR.kx hs1 ((((((((Kx.refl (fun i => i = w1.heap.size) w9).set 0 _ (.inl rfl)).set 1 _ (.inl rfl)).set 2 _ (.inl rfl)).set 3 _ (.inl rfl)).set 4 _ (.inl rfl)).set 5 _ (.inl rfl)).set 6 _ (.inl rfl)) (fun h a ha e => by have := hf1 h a ha; omega)
   ·exact fun h a ha => by have := hf1 h a ha; omega
   ·first | omega | (simp only [World.size_alloc, World.size_setCell, World.size_drew, World.heap_drewN]; omega)
   ·first | omega | (simp only [World.size_alloc, World.size_setCell, World.size_drew, World.heap_drewN]; omega)
 case rest =>
  obtain ⟨B5, D1, D2, D3, q1, q2, q3, rfl, rfl, ⟨e0, e1, e2, e3, e4, e5, e6⟩, hs1, hf1, hB5, hB5', gc⟩ := hcut
  have HS1 := hide hs1
  have HF1 := hide hf1
  have g0c := g0.trans gc
  have HNc := hide (HN.out.gr g0c)
  have tP := HNc.out.p i true HBI.out
  have hPl : P < wc.heap.size := by have := HNc.out.lp; have := HNc.out.sz; omega
  clear l2 l3 a20 a21 a22 a23 a24 a25 a26 a30 a31 a32 a33 a34
  obtain ⟨l2, y2, _⟩ := M2.out.gr gc
  have a20 := y2 0
  have a21 := y2 1
  have a22 := y2 2
  have a23 := y2 3
  have a24 := y2 4
  have a25 := y2 5
  have a26 := y2 6
  clear y2
  obtain ⟨l3, y3, _⟩ := M3.out.gr gc
  have a30 := y3 0
  have a31 := y3 1
  have a32 := y3 2
  have a33 := y3 3
  have a34 := y3 4
  clear y3
  clear hs1 hf1 y0 y1 y2 y3 y4 y5 y6
  have HLW := hide (fun (w' : World) (g' : Gr wc w') => liesWell_any p.nm p.mt p.ga p.gr D1 q1 M1 (.slice D2 M2'.length q2) (.slice D3 M3'.length q3) s k ⟨g, m, cm⟩ w' ((HS.out.el s (List.mem_of_getElem? HSI.out)).gr (g0c.trans g')) (HS1.out.gr g') HG.out HTM.out)
  obtain ⟨bs, os, hA, ⟨x0, x1, x2, x3, x4, x5, x6, x7⟩, _⟩ := (HS.out.gr g0c).at_ HSI.out
  subst hA
  have hbs : bs < wc.heap.size := cell_lt (by rw [x0]; rfl)
  have HZC := hide (HNc.out.t j z HZI.out)
  have HZR := hide (HNc.out.slrr HZI.out)
  have HIC := hide (fun (w' : World) (g' : Gr wc w') => isClear_any (some ⟨bs, os, none⟩) sc S.length (some ⟨bp, op, none⟩) pc Ps.length ⟨g, m, cm⟩ P T j z D1 q1 M1 w' ((g'.cell _ _ (by have := HNc.out.lt; have := HNc.out.sz; omega)).trans HZC.out) (HZR.out.gr g') (HS1.out.gr g') hjl hn)
  go_wp2_with fail
  go_ret
  exact ⟨rfl, g0c⟩
set_option maxHeartbeats 8000000 in
set_option maxRecDepth 100000 in
theorem add_lies (SA : Option Addr) (sc : Nat) (S : List ShT) (PA : Option Addr) (pc : Nat) (Ps : List Pc) (lo P T : Nat) (pl : List Bool) (tk : List Tk) (t : St) (i j : Nat) (p : Pc) (s : ShT) (z : Tk) (x y k : Int) (M1 M2' M3' : List Rc) (w : World)
  (hS : SlS w SA sc S) (hP : SlP w PA pc Ps) (hN : NsS w lo P T pl tk) (hp : Ps[i]? = some p) (hs : S[j]? = some s) (hz : tk[j]? = some z) (hb : pl[i]? = some false) (hn : S.length ≤ 4) (hm : Ps.length ≤ 8) (hG : ShG s) (htm : 0 ≤ t.m ∧ t.m ≤ 14400)
  (hU : ∀ w', Gr w w' → Calls Tryz.prog 67 #[p.v, atv i j x y k] w' fun e w'' => PutOk p.nm p.mt p.ga p.gr M1 M2' M3' w' w'' e) (hlw : lwB p.mt p.ga p.gr M1 s k t.m = false) :
  Calls Tryz.prog 36 #[nsv SA sc S.length PA pc Ps.length t P T, atv i j x y k] w fun e w' => e = .returned (iv 13) ∧ Gr w w' := by
 have hil : i < Ps.length := (List.getElem?_eq_some_iff.1 hp).1
 have hjl : j < S.length := (List.getElem?_eq_some_iff.1 hs).1
 have n1 := hS.cap
 have n2 := hS.capB
 have n3 := hP.cap
 have n4 := hP.capB
 have HS := hide hS
 have HP := hide hP
 have HN := hide hN
 have HLW0 := hide hlw
 have HU := hide hU
 have HPI := hide hp
 have HSI := hide hs
 have HZI := hide hz
 have HBI := hide hb
 have HG := hide hG
 have HTM := hide htm
 have i0 : (0 : Int) ≤ (i : Int) := by omega
 have i1 : (i : Int) < (Ps.length : Int) := by omega
 have j0 : (0 : Int) ≤ (j : Int) := by omega
 have j1 : (j : Int) < (S.length : Int) := by omega
 have HW := hide (fun (u v : Int) (w' : World) (h1 : 0 ≤ u) (h2 : u ≤ v) => show Calls Tryz.prog 60 #[iv u, iv 0, iv v] w' fun e w'' => e = .returned (.bool true) ∧ w' = w'' from (wiB_iff.2 ⟨h1, h2⟩ : wiB u 0 v = true) ▸ nwithin_any u 0 v w')
 have W1 : IntKind.i64.wrap ((Ps.length : Int) - 1) = (Ps.length : Int) - 1 := IntWalk.i64_in _ (by omega)
 have W2 : IntKind.i64.wrap ((S.length : Int) - 1) = (S.length : Int) - 1 := IntWalk.i64_in _ (by omega)
 obtain ⟨g, m, cm⟩ := t
 clear hS hP hN hU hp hs hz hb hG htm hlw
 go_enter Tryz.func36, Tryz.ntmps36
 go_upto_region 3 with (first | (go_at_call 60; refine (HW.out _ _ _ (by omega) (by omega)).mono ?_; rintro e w1 ⟨rfl, rfl⟩))
 obtain ⟨w1, hw1⟩ : ∃ W, W = (w.alloc (.cells #[.slice SA S.length sc, .slice PA Ps.length pc, iv g, iv m, .bool cm, .slice (some ⟨P, 0, none⟩) Ps.length Ps.length, .slice (some ⟨T, 0, none⟩) S.length S.length] 75)).alloc (.cells #[iv i, iv j, iv x, iv y, iv k] 33) := ⟨_, rfl⟩
 have M2 := hide ((Made.new w #[.slice SA S.length sc, .slice PA Ps.length pc, iv g, iv m, .bool cm, .slice (some ⟨P, 0, none⟩) Ps.length Ps.length, .slice (some ⟨T, 0, none⟩) S.length S.length] 75).gr (show Gr _ w1 from by rw [hw1]; exact Gr.alloc (Gr.refl _) _))
 have M3 := Made.new (w.alloc (.cells #[.slice SA S.length sc, .slice PA Ps.length pc, iv g, iv m, .bool cm, .slice (some ⟨P, 0, none⟩) Ps.length Ps.length, .slice (some ⟨T, 0, none⟩) S.length S.length] 75)) #[iv i, iv j, iv x, iv y, iv k] 33
 rw [World.size_alloc, ← hw1] at M3
 have M3 := hide M3
 have g0 : Gr w w1 := by rw [hw1]; exact Gr.alloc (Gr.alloc (Gr.refl _) _) _
 rw [← hw1]
 clear hw1
 have hb2 : w.heap.size ≠ w.heap.size + 1 := by omega
 generalize hb3 : w.heap.size + 1 = b3 at *
 generalize hb2' : w.heap.size = b2 at M2 hb2 ⊢
 obtain ⟨bp, op, hB, ⟨y0, y1, y2, y3, y4, y5, y6⟩, _⟩ := (HP.out.gr g0).at_ HPI.out
 subst hB
 have hbp : bp < w1.heap.size := cell_lt (by rw [y0]; rfl)
 have HUW := hide (show ∀ w', Gr w1 w' → Calls Tryz.prog 67 #[p.v, atv i j x y k] w' fun e w'' => PutOk p.nm p.mt p.ga p.gr M1 M2' M3' w' w'' e from fun w' g => HU.out w' (g0.trans g))
 obtain ⟨l2, y2, _⟩ := M2.out.gr (Gr.refl w1)
 have a20 := y2 0
 have a21 := y2 1
 have a22 := y2 2
 have a23 := y2 3
 have a24 := y2 4
 have a25 := y2 5
 have a26 := y2 6
 clear y2
 obtain ⟨l3, y3, _⟩ := M3.out.gr (Gr.refl w1)
 have a30 := y3 0
 have a31 := y3 1
 have a32 := y3 2
 have a33 := y3 3
 have a34 := y3 4
 clear y3
 go_cut [5, 6] from 25 to 35 (fun p5 v6 wx => ∃ (B5 : Nat) (D1 D2 D3 : Option Addr) (q1 q2 q3 : Nat), p5 = .pointer (some ⟨B5, 0, none⟩) ∧ v6 = iv 0 ∧ (wx.cell? ⟨B5, 0, none⟩ = some (.string p.nm) ∧ wx.cell? ⟨B5, 1, none⟩ = some (.string p.mt) ∧ wx.cell? ⟨B5, 2, none⟩ = some (iv p.ga) ∧ wx.cell? ⟨B5, 3, none⟩ = some (iv p.gr) ∧ wx.cell? ⟨B5, 4, none⟩ = some (.slice D1 M1.length q1) ∧ wx.cell? ⟨B5, 5, none⟩ = some (.slice D2 M2'.length q2) ∧ wx.cell? ⟨B5, 6, none⟩ = some (.slice D3 M3'.length q3)) ∧ SlR wx D1 q1 M1 ∧ (M1 ≠ [] → ∀ a, D1 = some a → w1.heap.size ≤ a.block) ∧ w1.heap.size ≤ B5 ∧ B5 < wx.heap.size ∧ Gr w1 wx)
 case first =>
  go_region_held3 (fun w' => Gr (w1) w' ∧ ∀ ii oo, ii < (w1).heap.size → w'.cell? ⟨ii, oo, none⟩ = (w1).cell? ⟨ii, oo, none⟩) ((refine And.intro ?_ (Gr.cell ?_) <;> ((with_reducible repeat (first | exact Gr.refl _ | assumption | refine Gr.alloc ?_ _ | refine Gr.drewN ?_ _ | refine Gr.drew ?_ | refine Gr.setCell ?_ (by first | (dsimp only; omega) | (simp only [World.size_alloc]; omega)) _ | refine Gr.trans ?_ (by assumption))); done)))
   (first | (go_at_call 67; refine (HUW.out _ (by with_reducible repeat (first | exact Gr.refl _ | assumption | refine Gr.alloc ?_ _ | refine Gr.drewN ?_ _ | refine Gr.drew ?_ | refine Gr.setCell ?_ (by first | (dsimp only; omega) | (simp only [World.size_alloc]; omega)) _ | refine Gr.trans ?_ (by assumption)))).mono ?_; rintro e w9 ⟨D1, D2, D3, q1, q2, q3, rfl, ⟨hs1, _, _⟩, ⟨hf1, _, _⟩, g9⟩; obtain ⟨X1, Y1, c1, f1⟩ := g9.use; (have z9 := g9.size); (try simp only [World.size_alloc, World.size_drew, World.heap_drewN] at z9 hf1)))
  ·go_wp2_with fail
   go_meet
   refine ⟨_, D1, D2, D3, q1, q2, q3, rfl, rfl, ?_, ?_, ?_, ?_, ?_, (by with_reducible repeat (first | exact Gr.refl _ | assumption | refine Gr.alloc ?_ _ | refine Gr.drewN ?_ _ | refine Gr.drew ?_ | refine Gr.setCell ?_ (by first | (dsimp only; omega) | (simp only [World.size_alloc]; omega)) _ | refine Gr.trans ?_ (by assumption)))⟩
   ·simp [go_sem, *]
   ·exact SlR.gr hs1 (Gr.alloc (Gr.refl w9) _)
   ·exact fun h a ha => by have := hf1 h a ha; omega
   ·first | omega | (simp only [World.size_alloc, World.size_setCell, World.size_drew, World.heap_drewN]; omega)
   ·first | omega | (simp only [World.size_alloc, World.size_setCell, World.size_drew, World.heap_drewN]; omega)
  ·go_wp2_with fail
   go_meet
   refine ⟨_, D1, D2, D3, q1, q2, q3, rfl, rfl, ?_, ?_, ?_, ?_, ?_, (by with_reducible repeat (first | exact Gr.refl _ | assumption | refine Gr.alloc ?_ _ | refine Gr.drewN ?_ _ | refine Gr.drew ?_ | refine Gr.setCell ?_ (by first | (dsimp only; omega) | (simp only [World.size_alloc]; omega)) _ | refine Gr.trans ?_ (by assumption)))⟩
   ·simp [go_sem, *]
   ·exact SlR.kx hs1 ((((((((Kx.refl (fun i => i = w1.heap.size) w9).set 0 _ (.inl rfl)).set 1 _ (.inl rfl)).set 2 _ (.inl rfl)).set 3 _ (.inl rfl)).set 4 _ (.inl rfl)).set 5 _ (.inl rfl)).set 6 _ (.inl rfl)) (fun h a ha e => by have := hf1 h a ha; omega)
   ·exact fun h a ha => by have := hf1 h a ha; omega
   ·first | omega | (simp only [World.size_alloc, World.size_setCell, World.size_drew, World.heap_drewN]; omega)
   ·first | omega | (simp only [World.size_alloc, World.size_setCell, World.size_drew, World.heap_drewN]; omega)
 case rest =>
  obtain ⟨B5, D1, D2, D3, q1, q2, q3, rfl, rfl, ⟨e0, e1, e2, e3, e4, e5, e6⟩, hs1, hf1, hB5, hB5', gc⟩ := hcut
  have HS1 := hide hs1
  have HF1 := hide hf1
  have g0c := g0.trans gc
  have HNc := hide (HN.out.gr g0c)
  have tP := HNc.out.p i false HBI.out
  have hPl : P < wc.heap.size := by have := HNc.out.lp; have := HNc.out.sz; omega
  clear l2 l3 a20 a21 a22 a23 a24 a25 a26 a30 a31 a32 a33 a34
  obtain ⟨l2, y2, _⟩ := M2.out.gr gc
  have a20 := y2 0
  have a21 := y2 1
  have a22 := y2 2
  have a23 := y2 3
  have a24 := y2 4
  have a25 := y2 5
  have a26 := y2 6
  clear y2
  obtain ⟨l3, y3, _⟩ := M3.out.gr gc
  have a30 := y3 0
  have a31 := y3 1
  have a32 := y3 2
  have a33 := y3 3
  have a34 := y3 4
  clear y3
  clear hs1 hf1 y0 y1 y2 y3 y4 y5 y6
  have HLW := hide (fun (w' : World) (g' : Gr wc w') => liesWell_any p.nm p.mt p.ga p.gr D1 q1 M1 (.slice D2 M2'.length q2) (.slice D3 M3'.length q3) s k ⟨g, m, cm⟩ w' ((HS.out.el s (List.mem_of_getElem? HSI.out)).gr (g0c.trans g')) (HS1.out.gr g') HG.out HTM.out)
  obtain ⟨bs, os, hA, ⟨x0, x1, x2, x3, x4, x5, x6, x7⟩, _⟩ := (HS.out.gr g0c).at_ HSI.out
  subst hA
  have hbs : bs < wc.heap.size := cell_lt (by rw [x0]; rfl)
  have HZC := hide (HNc.out.t j z HZI.out)
  have HZR := hide (HNc.out.slrr HZI.out)
  have HIC := hide (fun (w' : World) (g' : Gr wc w') => isClear_any (some ⟨bs, os, none⟩) sc S.length (some ⟨bp, op, none⟩) pc Ps.length ⟨g, m, cm⟩ P T j z D1 q1 M1 w' ((g'.cell _ _ (by have := HNc.out.lt; have := HNc.out.sz; omega)).trans HZC.out) (HZR.out.gr g') (HS1.out.gr g') hjl hn)
  dsimp only at HLW
  rw [show lwB p.mt p.ga p.gr M1 s k m = false from HLW0.out] at HLW
  go_wp2_with fail
  have GC := @GrW.cell
  refine wp_region_grw _ (by kernel_rfl) (by kernel_rfl) (Gr.refl _) ?_
  repeat (go_big_quiet_step ((first | (go_at_call 80; exact quiet_grw (HLW.out _ (GrW.gr _))))))
  refine wpQuiet_nil ?_
  intro wq hwq
  obtain ⟨gq, hwq'⟩ := hwq
  subst hwq'
  clear GC
  have gq1 := gq.gr
  generalize gq.w = wq at gq1 ⊢
  obtain ⟨Xq, Yq, cq, fq⟩ := gq1.use
  have sq := gq1.size
  (try simp only [World.size_alloc, World.size_setCell, World.heap_drewN] at sq)
  go_wp2_with fail
  go_ret
  exact ⟨rfl, g0c.trans gq1⟩
set_option maxHeartbeats 8000000 in
set_option maxRecDepth 100000 in
theorem add_over (SA : Option Addr) (sc : Nat) (S : List ShT) (PA : Option Addr) (pc : Nat) (Ps : List Pc) (lo P T : Nat) (pl : List Bool) (tk : List Tk) (t : St) (i j : Nat) (p : Pc) (s : ShT) (z : Tk) (x y k : Int) (M1 M2' M3' : List Rc) (w : World)
  (hS : SlS w SA sc S) (hP : SlP w PA pc Ps) (hN : NsS w lo P T pl tk) (hp : Ps[i]? = some p) (hs : S[j]? = some s) (hz : tk[j]? = some z) (hb : pl[i]? = some false) (hn : S.length ≤ 4) (hm : Ps.length ≤ 8) (hG : ShG s) (htm : 0 ≤ t.m ∧ t.m ≤ 14400)
  (hU : ∀ w', Gr w w' → Calls Tryz.prog 67 #[p.v, atv i j x y k] w' fun e w'' => PutOk p.nm p.mt p.ga p.gr M1 M2' M3' w' w'' e) (hlw : lwB p.mt p.ga p.gr M1 s k t.m = true) (hic : icB t M1 z.L = false) :
  Calls Tryz.prog 36 #[nsv SA sc S.length PA pc Ps.length t P T, atv i j x y k] w fun e w' => e = .returned (iv 7) ∧ Gr w w' := by
 have hil : i < Ps.length := (List.getElem?_eq_some_iff.1 hp).1
 have hjl : j < S.length := (List.getElem?_eq_some_iff.1 hs).1
 have n1 := hS.cap
 have n2 := hS.capB
 have n3 := hP.cap
 have n4 := hP.capB
 have HS := hide hS
 have HP := hide hP
 have HN := hide hN
 have HLW0 := hide hlw
 have HIC0 := hide hic
 have HU := hide hU
 have HPI := hide hp
 have HSI := hide hs
 have HZI := hide hz
 have HBI := hide hb
 have HG := hide hG
 have HTM := hide htm
 have i0 : (0 : Int) ≤ (i : Int) := by omega
 have i1 : (i : Int) < (Ps.length : Int) := by omega
 have j0 : (0 : Int) ≤ (j : Int) := by omega
 have j1 : (j : Int) < (S.length : Int) := by omega
 have HW := hide (fun (u v : Int) (w' : World) (h1 : 0 ≤ u) (h2 : u ≤ v) => show Calls Tryz.prog 60 #[iv u, iv 0, iv v] w' fun e w'' => e = .returned (.bool true) ∧ w' = w'' from (wiB_iff.2 ⟨h1, h2⟩ : wiB u 0 v = true) ▸ nwithin_any u 0 v w')
 have W1 : IntKind.i64.wrap ((Ps.length : Int) - 1) = (Ps.length : Int) - 1 := IntWalk.i64_in _ (by omega)
 have W2 : IntKind.i64.wrap ((S.length : Int) - 1) = (S.length : Int) - 1 := IntWalk.i64_in _ (by omega)
 obtain ⟨g, m, cm⟩ := t
 clear hS hP hN hU hp hs hz hb hG htm hlw hic
 go_enter Tryz.func36, Tryz.ntmps36
 go_upto_region 3 with (first | (go_at_call 60; refine (HW.out _ _ _ (by omega) (by omega)).mono ?_; rintro e w1 ⟨rfl, rfl⟩))
 obtain ⟨w1, hw1⟩ : ∃ W, W = (w.alloc (.cells #[.slice SA S.length sc, .slice PA Ps.length pc, iv g, iv m, .bool cm, .slice (some ⟨P, 0, none⟩) Ps.length Ps.length, .slice (some ⟨T, 0, none⟩) S.length S.length] 75)).alloc (.cells #[iv i, iv j, iv x, iv y, iv k] 33) := ⟨_, rfl⟩
 have M2 := hide ((Made.new w #[.slice SA S.length sc, .slice PA Ps.length pc, iv g, iv m, .bool cm, .slice (some ⟨P, 0, none⟩) Ps.length Ps.length, .slice (some ⟨T, 0, none⟩) S.length S.length] 75).gr (show Gr _ w1 from by rw [hw1]; exact Gr.alloc (Gr.refl _) _))
 have M3 := Made.new (w.alloc (.cells #[.slice SA S.length sc, .slice PA Ps.length pc, iv g, iv m, .bool cm, .slice (some ⟨P, 0, none⟩) Ps.length Ps.length, .slice (some ⟨T, 0, none⟩) S.length S.length] 75)) #[iv i, iv j, iv x, iv y, iv k] 33
 rw [World.size_alloc, ← hw1] at M3
 have M3 := hide M3
 have g0 : Gr w w1 := by rw [hw1]; exact Gr.alloc (Gr.alloc (Gr.refl _) _) _
 rw [← hw1]
 clear hw1
 have hb2 : w.heap.size ≠ w.heap.size + 1 := by omega
 generalize hb3 : w.heap.size + 1 = b3 at *
 generalize hb2' : w.heap.size = b2 at M2 hb2 ⊢
 obtain ⟨bp, op, hB, ⟨y0, y1, y2, y3, y4, y5, y6⟩, _⟩ := (HP.out.gr g0).at_ HPI.out
 subst hB
 have hbp : bp < w1.heap.size := cell_lt (by rw [y0]; rfl)
 have HUW := hide (show ∀ w', Gr w1 w' → Calls Tryz.prog 67 #[p.v, atv i j x y k] w' fun e w'' => PutOk p.nm p.mt p.ga p.gr M1 M2' M3' w' w'' e from fun w' g => HU.out w' (g0.trans g))
 obtain ⟨l2, y2, _⟩ := M2.out.gr (Gr.refl w1)
 have a20 := y2 0
 have a21 := y2 1
 have a22 := y2 2
 have a23 := y2 3
 have a24 := y2 4
 have a25 := y2 5
 have a26 := y2 6
 clear y2
 obtain ⟨l3, y3, _⟩ := M3.out.gr (Gr.refl w1)
 have a30 := y3 0
 have a31 := y3 1
 have a32 := y3 2
 have a33 := y3 3
 have a34 := y3 4
 clear y3
 go_cut [5, 6] from 25 to 35 (fun p5 v6 wx => ∃ (B5 : Nat) (D1 D2 D3 : Option Addr) (q1 q2 q3 : Nat), p5 = .pointer (some ⟨B5, 0, none⟩) ∧ v6 = iv 0 ∧ (wx.cell? ⟨B5, 0, none⟩ = some (.string p.nm) ∧ wx.cell? ⟨B5, 1, none⟩ = some (.string p.mt) ∧ wx.cell? ⟨B5, 2, none⟩ = some (iv p.ga) ∧ wx.cell? ⟨B5, 3, none⟩ = some (iv p.gr) ∧ wx.cell? ⟨B5, 4, none⟩ = some (.slice D1 M1.length q1) ∧ wx.cell? ⟨B5, 5, none⟩ = some (.slice D2 M2'.length q2) ∧ wx.cell? ⟨B5, 6, none⟩ = some (.slice D3 M3'.length q3)) ∧ SlR wx D1 q1 M1 ∧ (M1 ≠ [] → ∀ a, D1 = some a → w1.heap.size ≤ a.block) ∧ w1.heap.size ≤ B5 ∧ B5 < wx.heap.size ∧ Gr w1 wx)
 case first =>
  go_region_held3 (fun w' => Gr (w1) w' ∧ ∀ ii oo, ii < (w1).heap.size → w'.cell? ⟨ii, oo, none⟩ = (w1).cell? ⟨ii, oo, none⟩) ((refine And.intro ?_ (Gr.cell ?_) <;> ((with_reducible repeat (first | exact Gr.refl _ | assumption | refine Gr.alloc ?_ _ | refine Gr.drewN ?_ _ | refine Gr.drew ?_ | refine Gr.setCell ?_ (by first | (dsimp only; omega) | (simp only [World.size_alloc]; omega)) _ | refine Gr.trans ?_ (by assumption))); done)))
   (first | (go_at_call 67; refine (HUW.out _ (by with_reducible repeat (first | exact Gr.refl _ | assumption | refine Gr.alloc ?_ _ | refine Gr.drewN ?_ _ | refine Gr.drew ?_ | refine Gr.setCell ?_ (by first | (dsimp only; omega) | (simp only [World.size_alloc]; omega)) _ | refine Gr.trans ?_ (by assumption)))).mono ?_; rintro e w9 ⟨D1, D2, D3, q1, q2, q3, rfl, ⟨hs1, _, _⟩, ⟨hf1, _, _⟩, g9⟩; obtain ⟨X1, Y1, c1, f1⟩ := g9.use; (have z9 := g9.size); (try simp only [World.size_alloc, World.size_drew, World.heap_drewN] at z9 hf1)))
  ·go_wp2_with fail
   go_meet
   refine ⟨_, D1, D2, D3, q1, q2, q3, rfl, rfl, ?_, ?_, ?_, ?_, ?_, (by with_reducible repeat (first | exact Gr.refl _ | assumption | refine Gr.alloc ?_ _ | refine Gr.drewN ?_ _ | refine Gr.drew ?_ | refine Gr.setCell ?_ (by first | (dsimp only; omega) | (simp only [World.size_alloc]; omega)) _ | refine Gr.trans ?_ (by assumption)))⟩
   ·simp [go_sem, *]
   ·exact SlR.gr hs1 (Gr.alloc (Gr.refl w9) _)
   ·exact fun h a ha => by have := hf1 h a ha; omega
   ·first | omega | (simp only [World.size_alloc, World.size_setCell, World.size_drew, World.heap_drewN]; omega)
   ·first | omega | (simp only [World.size_alloc, World.size_setCell, World.size_drew, World.heap_drewN]; omega)
  ·go_wp2_with fail
   go_meet
   refine ⟨_, D1, D2, D3, q1, q2, q3, rfl, rfl, ?_, ?_, ?_, ?_, ?_, (by with_reducible repeat (first | exact Gr.refl _ | assumption | refine Gr.alloc ?_ _ | refine Gr.drewN ?_ _ | refine Gr.drew ?_ | refine Gr.setCell ?_ (by first | (dsimp only; omega) | (simp only [World.size_alloc]; omega)) _ | refine Gr.trans ?_ (by assumption)))⟩
   ·simp [go_sem, *]
   ·exact SlR.kx hs1 ((((((((Kx.refl (fun i => i = w1.heap.size) w9).set 0 _ (.inl rfl)).set 1 _ (.inl rfl)).set 2 _ (.inl rfl)).set 3 _ (.inl rfl)).set 4 _ (.inl rfl)).set 5 _ (.inl rfl)).set 6 _ (.inl rfl)) (fun h a ha e => by have := hf1 h a ha; omega)
   ·exact fun h a ha => by have := hf1 h a ha; omega
   ·first | omega | (simp only [World.size_alloc, World.size_setCell, World.size_drew, World.heap_drewN]; omega)
   ·first | omega | (simp only [World.size_alloc, World.size_setCell, World.size_drew, World.heap_drewN]; omega)
 case rest =>
  obtain ⟨B5, D1, D2, D3, q1, q2, q3, rfl, rfl, ⟨e0, e1, e2, e3, e4, e5, e6⟩, hs1, hf1, hB5, hB5', gc⟩ := hcut
  have HS1 := hide hs1
  have HF1 := hide hf1
  have g0c := g0.trans gc
  have HNc := hide (HN.out.gr g0c)
  have tP := HNc.out.p i false HBI.out
  have hPl : P < wc.heap.size := by have := HNc.out.lp; have := HNc.out.sz; omega
  clear l2 l3 a20 a21 a22 a23 a24 a25 a26 a30 a31 a32 a33 a34
  obtain ⟨l2, y2, _⟩ := M2.out.gr gc
  have a20 := y2 0
  have a21 := y2 1
  have a22 := y2 2
  have a23 := y2 3
  have a24 := y2 4
  have a25 := y2 5
  have a26 := y2 6
  clear y2
  obtain ⟨l3, y3, _⟩ := M3.out.gr gc
  have a30 := y3 0
  have a31 := y3 1
  have a32 := y3 2
  have a33 := y3 3
  have a34 := y3 4
  clear y3
  clear hs1 hf1 y0 y1 y2 y3 y4 y5 y6
  have HLW := hide (fun (w' : World) (g' : Gr wc w') => liesWell_any p.nm p.mt p.ga p.gr D1 q1 M1 (.slice D2 M2'.length q2) (.slice D3 M3'.length q3) s k ⟨g, m, cm⟩ w' ((HS.out.el s (List.mem_of_getElem? HSI.out)).gr (g0c.trans g')) (HS1.out.gr g') HG.out HTM.out)
  obtain ⟨bs, os, hA, ⟨x0, x1, x2, x3, x4, x5, x6, x7⟩, _⟩ := (HS.out.gr g0c).at_ HSI.out
  subst hA
  have hbs : bs < wc.heap.size := cell_lt (by rw [x0]; rfl)
  have HZC := hide (HNc.out.t j z HZI.out)
  have HZR := hide (HNc.out.slrr HZI.out)
  have HIC := hide (fun (w' : World) (g' : Gr wc w') => isClear_any (some ⟨bs, os, none⟩) sc S.length (some ⟨bp, op, none⟩) pc Ps.length ⟨g, m, cm⟩ P T j z D1 q1 M1 w' ((g'.cell _ _ (by have := HNc.out.lt; have := HNc.out.sz; omega)).trans HZC.out) (HZR.out.gr g') (HS1.out.gr g') hjl hn)
  dsimp only at HLW
  rw [show lwB p.mt p.ga p.gr M1 s k m = true from HLW0.out] at HLW
  rw [show icB ⟨g, m, cm⟩ M1 z.L = false from HIC0.out] at HIC
  go_wp2_with fail
  have GC := @GrW.cell
  refine wp_region_grw _ (by kernel_rfl) (by kernel_rfl) (Gr.refl _) ?_
  repeat (go_big_quiet_step ((first | (go_at_call 80; exact quiet_grw (HLW.out _ (GrW.gr _))))))
  refine wpQuiet_nil ?_
  intro wq hwq
  obtain ⟨gq, hwq'⟩ := hwq
  subst hwq'
  clear GC
  have gq1 := gq.gr
  generalize gq.w = wq at gq1 ⊢
  obtain ⟨Xq, Yq, cq, fq⟩ := gq1.use
  have sq := gq1.size
  (try simp only [World.size_alloc, World.size_setCell, World.heap_drewN] at sq)
  have lq2 : b2 < wq.heap.size := by omega
  have lq3 : b3 < wq.heap.size := by omega
  have lq5 : B5 < wq.heap.size := by omega
  go_wp2_with fail
  refine (HIC.out _ gq1).mono ?_
  rintro e w8 ⟨rfl, g8⟩
  have gc8 : Gr wc w8 := gq1.trans g8
  have HN8 := hide (HNc.out.gr gc8)
  have HS8 := hide (HS1.out.gr gc8)
  have t8P := HN8.out.p i false HBI.out
  have t8f := HN8.out.pf i
  have t8l : P < w8.heap.size := by have := HN8.out.lp; have := HN8.out.sz; omega
  go_wp2_with fail
  go_ret
  exact ⟨rfl, g0c.trans gc8⟩
end RG
end Go.Proofs.YtddhaiaapomdjaaGreat
set_option linter.unusedVariables false
set_option linter.unusedSimpArgs false
namespace Go.Proofs.YtddhaiaapomdjaaGreat
set_option linter.unusedVariables false
set_option linter.unusedSimpArgs false
open Go Go.ChangeShapes Go.WideShapes Go.ChangeAt Go.RowKit Go.Deep

namespace RG
set_option maxHeartbeats 8000000 in
set_option maxRecDepth 100000 in
theorem add_idx (SA : Option Addr) (sc sn : Nat) (PA : Option Addr) (pc pn : Nat) (P T : Nat) (t : St) (i j x y k : Int) (w : World) (n1 : sn ≤ 4) (n2 : pn ≤ 8) (h : (wiB i 0 ((pn : Int) - 1) && wiB j 0 ((sn : Int) - 1)) = false) :
  Calls Tryz.prog 36 #[nsv SA sc sn PA pc pn t P T, atv i j x y k] w fun e w' => e = .returned (iv 1) ∧ Gr w w' := by
 have W1 : IntKind.i64.wrap ((pn : Int) - 1) = (pn : Int) - 1 := IntWalk.i64_in _ (by omega)
 have W2 : IntKind.i64.wrap ((sn : Int) - 1) = (sn : Int) - 1 := IntWalk.i64_in _ (by omega)
 obtain ⟨g, m, cm⟩ := t
 cases h1 : wiB i 0 ((pn : Int) - 1) with
 | false =>
  clear h
  go_enter Tryz.func36, Tryz.ntmps36
  go_wp2_with (first | (go_at_call 60; refine (nwithin_any _ _ _ _).mono ?_; rintro e w1 ⟨rfl, rfl⟩))
  go_ret
  exact ⟨rfl, (by with_reducible repeat (first | exact Gr.refl _ | assumption | refine Gr.alloc ?_ _ | refine Gr.drewN ?_ _ | refine Gr.drew ?_ | refine Gr.setCell ?_ (by first | (dsimp only; omega) | (simp only [World.size_alloc]; omega)) _ | refine Gr.trans ?_ (by assumption)))⟩
 | true =>
  rw [h1, Bool.true_and] at h
  go_enter Tryz.func36, Tryz.ntmps36
  go_wp2_with (first | (go_at_call 60; refine (nwithin_any _ _ _ _).mono ?_; rintro e w1 ⟨rfl, rfl⟩))
  go_ret
  exact ⟨rfl, (by with_reducible repeat (first | exact Gr.refl _ | assumption | refine Gr.alloc ?_ _ | refine Gr.drewN ?_ _ | refine Gr.drew ?_ | refine Gr.setCell ?_ (by first | (dsimp only; omega) | (simp only [World.size_alloc]; omega)) _ | refine Gr.trans ?_ (by assumption)))⟩
set_option maxHeartbeats 8000000 in
set_option maxRecDepth 100000 in
theorem add_put (SA : Option Addr) (sc : Nat) (S : List ShT) (PA : Option Addr) (pc : Nat) (Ps : List Pc) (P T : Nat) (t : St) (i j : Nat) (p : Pc) (x y k : Int) (E : Int) (w : World)
  (hS : SlS w SA sc S) (hP : SlP w PA pc Ps) (hp : Ps[i]? = some p) (hjl : j < S.length) (hn : S.length ≤ 4) (hm : Ps.length ≤ 8) (hE : E ≠ 0)
  (hU : ∀ w', Gr w w' → Calls Tryz.prog 67 #[p.v, atv i j x y k] w' fun e w'' => e = .returned (sle noPcV E) ∧ Gr w' w'') :
  Calls Tryz.prog 36 #[nsv SA sc S.length PA pc Ps.length t P T, atv i j x y k] w fun e w' => e = .returned (iv 1) ∧ Gr w w' := by
 have hE1 : (E != 0) = true := by simpa using hE
 have hil : i < Ps.length := (List.getElem?_eq_some_iff.1 hp).1
 have n1 := hS.cap
 have n2 := hS.capB
 have n3 := hP.cap
 have n4 := hP.capB
 have HP := hide hP
 have HU := hide hU
 have HPI := hide hp
 have i0 : (0 : Int) ≤ (i : Int) := by omega
 have i1 : (i : Int) < (Ps.length : Int) := by omega
 have j0 : (0 : Int) ≤ (j : Int) := by omega
 have j1 : (j : Int) < (S.length : Int) := by omega
 have HW := hide (fun (u v : Int) (w' : World) (h1 : 0 ≤ u) (h2 : u ≤ v) => show Calls Tryz.prog 60 #[iv u, iv 0, iv v] w' fun e w'' => e = .returned (.bool true) ∧ w' = w'' from (wiB_iff.2 ⟨h1, h2⟩ : wiB u 0 v = true) ▸ nwithin_any u 0 v w')
 have W1 : IntKind.i64.wrap ((Ps.length : Int) - 1) = (Ps.length : Int) - 1 := IntWalk.i64_in _ (by omega)
 have W2 : IntKind.i64.wrap ((S.length : Int) - 1) = (S.length : Int) - 1 := IntWalk.i64_in _ (by omega)
 obtain ⟨g, m, cm⟩ := t
 clear hS hP hU hp
 go_enter Tryz.func36, Tryz.ntmps36
 go_upto_region 3 with (first | (go_at_call 60; refine (HW.out _ _ _ (by omega) (by omega)).mono ?_; rintro e w1 ⟨rfl, rfl⟩))
 obtain ⟨w1, hw1⟩ : ∃ W, W = (w.alloc (.cells #[.slice SA S.length sc, .slice PA Ps.length pc, iv g, iv m, .bool cm, .slice (some ⟨P, 0, none⟩) Ps.length Ps.length, .slice (some ⟨T, 0, none⟩) S.length S.length] 75)).alloc (.cells #[iv i, iv j, iv x, iv y, iv k] 33) := ⟨_, rfl⟩
 have M2 := hide ((Made.new w #[.slice SA S.length sc, .slice PA Ps.length pc, iv g, iv m, .bool cm, .slice (some ⟨P, 0, none⟩) Ps.length Ps.length, .slice (some ⟨T, 0, none⟩) S.length S.length] 75).gr (show Gr _ w1 from by rw [hw1]; exact Gr.alloc (Gr.refl _) _))
 have M3 := Made.new (w.alloc (.cells #[.slice SA S.length sc, .slice PA Ps.length pc, iv g, iv m, .bool cm, .slice (some ⟨P, 0, none⟩) Ps.length Ps.length, .slice (some ⟨T, 0, none⟩) S.length S.length] 75)) #[iv i, iv j, iv x, iv y, iv k] 33
 rw [World.size_alloc, ← hw1] at M3
 have M3 := hide M3
 have g0 : Gr w w1 := by rw [hw1]; exact Gr.alloc (Gr.alloc (Gr.refl _) _) _
 rw [← hw1]
 clear hw1
 have hb2 : w.heap.size ≠ w.heap.size + 1 := by omega
 generalize hb3 : w.heap.size + 1 = b3 at *
 generalize hb2' : w.heap.size = b2 at M2 hb2 ⊢
 obtain ⟨bp, op, hB, ⟨y0, y1, y2, y3, y4, y5, y6⟩, _⟩ := (HP.out.gr g0).at_ HPI.out
 subst hB
 have hbp : bp < w1.heap.size := cell_lt (by rw [y0]; rfl)
 have HUW := hide (show ∀ w', Gr w1 w' → Calls Tryz.prog 67 #[p.v, atv i j x y k] w' fun e w'' => e = .returned (sle noPcV E) ∧ Gr w' w'' from fun w' g => HU.out w' (g0.trans g))
 obtain ⟨l2, y2, _⟩ := M2.out.gr (Gr.refl w1)
 have a20 := y2 0
 have a21 := y2 1
 have a22 := y2 2
 have a23 := y2 3
 have a24 := y2 4
 have a25 := y2 5
 have a26 := y2 6
 clear y2
 obtain ⟨l3, y3, _⟩ := M3.out.gr (Gr.refl w1)
 have a30 := y3 0
 have a31 := y3 1
 have a32 := y3 2
 have a33 := y3 3
 have a34 := y3 4
 clear y3
 go_cut [5, 6] from 25 to 35 (fun p5 v6 wx => ∃ B5 : Nat, p5 = .pointer (some ⟨B5, 0, none⟩) ∧ v6 = iv E ∧ Gr w1 wx)
 case first =>
  go_region_held3 (fun w' => Gr (w1) w' ∧ ∀ ii oo, ii < (w1).heap.size → w'.cell? ⟨ii, oo, none⟩ = (w1).cell? ⟨ii, oo, none⟩) ((refine And.intro ?_ (Gr.cell ?_) <;> ((with_reducible repeat (first | exact Gr.refl _ | assumption | refine Gr.alloc ?_ _ | refine Gr.drewN ?_ _ | refine Gr.drew ?_ | refine Gr.setCell ?_ (by first | (dsimp only; omega) | (simp only [World.size_alloc]; omega)) _ | refine Gr.trans ?_ (by assumption))); done)))
   (first | (go_at_call 67; refine (HUW.out _ (by with_reducible repeat (first | exact Gr.refl _ | assumption | refine Gr.alloc ?_ _ | refine Gr.drewN ?_ _ | refine Gr.drew ?_ | refine Gr.setCell ?_ (by first | (dsimp only; omega) | (simp only [World.size_alloc]; omega)) _ | refine Gr.trans ?_ (by assumption)))).mono ?_; rintro e w9 ⟨rfl, g9⟩; obtain ⟨X1, Y1, c1, f1⟩ := g9.use; (have z9 := g9.size); (try simp only [World.size_alloc, World.size_drew, World.heap_drewN] at z9)))
  ·go_wp2_with fail
   go_meet
   exact ⟨_, rfl, rfl, (by with_reducible repeat (first | exact Gr.refl _ | assumption | refine Gr.alloc ?_ _ | refine Gr.drewN ?_ _ | refine Gr.drew ?_ | refine Gr.setCell ?_ (by first | (dsimp only; omega) | (simp only [World.size_alloc]; omega)) _ | refine Gr.trans ?_ (by assumption)))⟩
  ·go_wp2_with fail
   go_meet
   exact ⟨_, rfl, rfl, (by with_reducible repeat (first | exact Gr.refl _ | assumption | refine Gr.alloc ?_ _ | refine Gr.drewN ?_ _ | refine Gr.drew ?_ | refine Gr.setCell ?_ (by first | (dsimp only; omega) | (simp only [World.size_alloc]; omega)) _ | refine Gr.trans ?_ (by assumption)))⟩
 case rest =>
  obtain ⟨B5, rfl, rfl, gc⟩ := hcut
  have g0c := g0.trans gc
  clear l2 l3 a20 a21 a22 a23 a24 a25 a26 a30 a31 a32 a33 a34
  go_wp2_with fail
  go_ret
  exact ⟨rfl, g0c⟩
end RG
end Go.Proofs.YtddhaiaapomdjaaGreat
set_option linter.unusedVariables false
set_option linter.unusedSimpArgs false
namespace Go.Proofs.YtddhaiaapomdjaaGreat
set_option linter.unusedVariables false
set_option linter.unusedSimpArgs false
open Go Go.ChangeShapes Go.WideShapes Go.ChangeAt Go.RowKit Go.Deep

namespace RG
structure SlA (w : World) (A : Option Addr) (c : Nat) (l : List At6) : Prop where
 rd : RdL w 5 at6L A l
 cap : l.length ≤ c
 capB : c ≤ 9223372036854775807
theorem SlA.gr {w w' : World} {A : Option Addr} {c : Nat} {l : List At6} (h : SlA w A c l) (g : Gr w w') : SlA w' A c l := ⟨h.rd.gr g, h.cap, h.capB⟩
theorem SlA.at_ {w : World} {A : Option Addr} {c : Nat} {l : List At6} (h : SlA w A c l) {i : Nat} {z : At6} (hi : l[i]? = some z) : ∃ b off, A = some ⟨b, off, none⟩ ∧ w.cell? ⟨b, off + i * 5, none⟩ = some (iv z.pi) ∧ w.cell? ⟨b, off + i * 5 + 1, none⟩ = some (iv z.sh) ∧ w.cell? ⟨b, off + i * 5 + 2, none⟩ = some (iv z.x) ∧ w.cell? ⟨b, off + i * 5 + 3, none⟩ = some (iv z.y) ∧ w.cell? ⟨b, off + i * 5 + 4, none⟩ = some (iv z.t) := by
 obtain ⟨b, off, e, h0, h1, h2, h3, h4, _⟩ := h.rd i z hi
 exact ⟨b, off, e, h0, h1, h2, h3, h4⟩
def mRl (p : Pc) (z : At6) : List Rc := (tnL p.r z.t.toNat p.r).map (mvR z.x z.y)
def mCl (p : Pc) (z : At6) : List Rc := (tnL p.r z.t.toNat p.c).map (mvR z.x z.y)
def mFl (p : Pc) (z : At6) : List Rc := (tnL p.r z.t.toNat p.f).map (mvR z.x z.y)
def puB (p : Pc) (z : At6) : Bool := wiB z.t 0 3 && ((wiB z.x (-1048576) 1048576 && wiB z.y (-1048576) 1048576) && (vaB (mRl p z) && (vaB (mCl p z) && vaB (mFl p z))))
theorem puB_iff {p : Pc} {z : At6} : puB p z = true ↔ wiB z.t 0 3 = true ∧ (wiB z.x (-1048576) 1048576 && wiB z.y (-1048576) 1048576) = true ∧ (vaB (mRl p z) && (vaB (mCl p z) && vaB (mFl p z))) = true := by
 unfold puB
 rw [Bool.and_eq_true, Bool.and_eq_true]
abbrev atz (z : At6) : Value := atv z.pi z.sh z.x z.y z.t
theorem Put_yes {p : Pc} {b : Bool} {z : At6} {w : World} (hp : PcW w p) (hb : CoB p.r b) (h0 : vpE p b = 0) (hz : puB p z = true) :
  Calls Tryz.prog 67 #[p.v, atz z] w fun e w' => PutOk p.nm p.mt p.ga p.gr (mRl p z) (mCl p z) (mFl p z) w w' e := by
 obtain ⟨h1, h2, h3⟩ := puB_iff.1 hz
 obtain ⟨pi, sh, x, y, t⟩ := z
 obtain ⟨t0, t3⟩ := wiB_iff.1 h1
 dsimp only at t0 t3 h2
 obtain ⟨k, rfl⟩ : ∃ k : Nat, t = k := ⟨t.toNat, by omega⟩
 rw [Bool.and_eq_true] at h2
 refine (Put_ok p b pi sh x y k w hp hb h0 (by omega) (wiB_iff.1 h2.1) (wiB_iff.1 h2.2)).mono fun e w' h => ?_
 unfold PutR at h
 rw [if_pos (show (vaB ((tnL p.r k p.r).map (mvR x y)) && (vaB ((tnL p.r k p.c).map (mvR x y)) && vaB ((tnL p.r k p.f).map (mvR x y)))) = true from h3)] at h
 exact h
theorem Put_no {p : Pc} {b : Bool} {z : At6} {w : World} (hp : PcW w p) (hb : CoB p.r b) (h0 : vpE p b = 0) (hz : puB p z = false) :
  ∃ E : Int, E ≠ 0 ∧ (∀ w', Gr w w' → Calls Tryz.prog 67 #[p.v, atz z] w' fun e w'' => e = .returned (sle noPcV E) ∧ Gr w' w'') ∧ ∀ w', Gr w w' → Calls Tryz.prog 38 #[p.v, atz z] w' fun e w'' => e = .returned (sle noPcV E) ∧ Gr w' w'' := by
 obtain ⟨pi, sh, x, y, t⟩ := z
 cases h1 : wiB t 0 3 with
 | false => exact ⟨1, by decide, fun w' g => Put_turn p b pi sh x y t w' (hp.gr g) hb h0 h1, fun w' g => rPut_turn p b pi sh x y t w' (hp.gr g) hb h0 h1⟩
 | true =>
  obtain ⟨t0, t3⟩ := wiB_iff.1 h1
  obtain ⟨k, rfl⟩ : ∃ k : Nat, t = k := ⟨t.toNat, by omega⟩
  cases h2 : (wiB x (-1048576) 1048576 && wiB y (-1048576) 1048576) with
  | false => exact ⟨4, by decide, fun w' g => Put_far p b pi sh x y k w' (hp.gr g) hb h0 (by omega) h2, fun w' g => rPut_far p b pi sh x y k w' (hp.gr g) hb h0 (by omega) h2⟩
  | true =>
   have h3 : (vaB ((tnL p.r k p.r).map (mvR x y)) && (vaB ((tnL p.r k p.c).map (mvR x y)) && vaB ((tnL p.r k p.f).map (mvR x y)))) = false := by
    cases e : (vaB ((tnL p.r k p.r).map (mvR x y)) && (vaB ((tnL p.r k p.c).map (mvR x y)) && vaB ((tnL p.r k p.f).map (mvR x y)))) with
    | false => rfl
    | true =>
     have := puB_iff.2 (show _ ∧ _ ∧ (vaB (mRl p ⟨pi, sh, x, y, k⟩) && (vaB (mCl p ⟨pi, sh, x, y, k⟩) && vaB (mFl p ⟨pi, sh, x, y, k⟩))) = true from ⟨h1, h2, e⟩)
     rw [hz] at this
     cases this
   rw [Bool.and_eq_true] at h2
   refine ⟨4, by decide, fun w' g => (Put_ok p b pi sh x y k w' (hp.gr g) hb h0 (by omega) (wiB_iff.1 h2.1) (wiB_iff.1 h2.2)).mono fun e w'' h => ?_, fun w' g => (rPut_ok p b pi sh x y k w' (hp.gr g) hb h0 (by omega) (wiB_iff.1 h2.1) (wiB_iff.1 h2.2)).mono fun e w'' h => ?_⟩ <;>
   ·unfold PutR at h
    rw [if_neg (by rw [h3]; decide)] at h
    exact h
def ixB (S : List ShT) (Ps : List Pc) (z : At6) : Bool := wiB z.pi 0 ((Ps.length : Int) - 1) && wiB z.sh 0 ((S.length : Int) - 1)
def eaR (Ps : List Pc) (a : At6) : List Rc := match Ps[a.pi.toNat]? with
 | some p => mRl p a
 | none => []
def takL (Ps : List Pc) (L : List At6) (j : Int) : List (List Rc) := (L.filter fun a => a.sh == j).map (eaR Ps)
def oneQ (Ps : List Pc) (t : St) (L : List At6) (p : Pc) (s : ShT) (z : At6) : Int :=
 if puB p z = true then
  if (L.any fun a => a.pi == z.pi) = true then 12 else
  if lwB p.mt p.ga p.gr (mRl p z) s z.t t.m = true then
   if ((takL Ps L z.sh).all fun m => !npB (ucB t) (mRl p z) m) = true then 0 else 7
  else 13
 else 1
def oneE (S : List ShT) (Ps : List Pc) (t : St) (L : List At6) (z : At6) : Int :=
 if ixB S Ps z = true then
  match Ps[z.pi.toNat]?, S[z.sh.toNat]? with
  | some p, some s => oneQ Ps t L p s z
  | _, _ => 1
 else 1
theorem oneE_at {S : List ShT} {Ps : List Pc} {z : At6} (h : ixB S Ps z = true) : ∃ (i j : Nat) (p : Pc) (s : ShT), z.pi = i ∧ z.sh = j ∧ Ps[i]? = some p ∧ S[j]? = some s ∧ ∀ t L, oneE S Ps t L z = oneQ Ps t L p s z := by
 have h' := h
 unfold ixB at h'
 rw [Bool.and_eq_true] at h'
 obtain ⟨a1, a2⟩ := wiB_iff.1 h'.1
 obtain ⟨b1, b2⟩ := wiB_iff.1 h'.2
 have e1 := List.getElem?_eq_getElem (l := Ps) (i := z.pi.toNat) (by omega)
 have e2 := List.getElem?_eq_getElem (l := S) (i := z.sh.toNat) (by omega)
 refine ⟨z.pi.toNat, z.sh.toNat, _, _, by omega, by omega, e1, e2, fun t L => ?_⟩
 unfold oneE
 rw [if_pos h, e1, e2]
theorem oneE_no {S : List ShT} {Ps : List Pc} {z : At6} (h : ixB S Ps z = false) (t : St) (L : List At6) : oneE S Ps t L z = 1 := by
 unfold oneE
 rw [if_neg (by rw [h]; decide)]
structure CkA (l : List At6) (one : List At6 → At6 → Int) (K : Nat) (E : Int) : Prop where
 le : K ≤ l.length
 zero : ∀ m z, m < K → l[m]? = some z → one (l.take m) z = 0
 stop : (K = l.length ∧ E = 0) ∨ ∃ z, l[K]? = some z ∧ one (l.take K) z = E ∧ E ≠ 0
theorem ckA_ex (l : List At6) (one : List At6 → At6 → Int) : ∃ K E, CkA l one K E := by
 have key : ∀ n, n ≤ l.length → (∃ K E, CkA l one K E) ∨ ∀ m z, m < n → l[m]? = some z → one (l.take m) z = 0 := by
  intro n
  induction n with
  | zero => exact fun _ => .inr fun m z h => absurd h (Nat.not_lt_zero m)
  | succ n ih =>
   intro hn
   rcases ih (by omega) with h | h
   ·exact .inl h
   ·obtain ⟨z, hz⟩ : ∃ z, l[n]? = some z := ⟨_, List.getElem?_eq_getElem (by omega)⟩
    by_cases e : one (l.take n) z = 0
    ·refine .inr fun m z' hm hz' => ?_
     rcases Nat.lt_or_ge m n with q | q
     ·exact h m z' q hz'
     ·obtain rfl : m = n := by omega
      rw [hz] at hz'
      obtain rfl := Option.some.inj hz'
      exact e
    ·exact .inl ⟨n, _, by omega, h, .inr ⟨z, hz, rfl, e⟩⟩
 rcases key l.length (Nat.le_refl _) with h | h
 ·exact h
 ·exact ⟨l.length, 0, Nat.le_refl _, h, .inl ⟨rfl, rfl⟩⟩
theorem CkA.step {l : List At6} {one : List At6 → At6 → Int} {K : Nat} {E : Int} (h : CkA l one K E) {k : Nat} {z : At6} (hk : k ≤ K) (hz : l[k]? = some z) : (k < K ∧ one (l.take k) z = 0) ∨ (k = K ∧ one (l.take k) z = E ∧ E ≠ 0) := by
 rcases Nat.lt_or_ge k K with q | q
 ·exact .inl ⟨q, h.zero k z q hz⟩
 ·obtain rfl : k = K := by omega
  rcases h.stop with ⟨a, _⟩ | ⟨z', a, b, c⟩
  ·rw [List.getElem?_eq_none (by omega)] at hz
   cases hz
  ·rw [a] at hz
   obtain rfl := Option.some.inj hz
   exact .inr ⟨rfl, b, c⟩
theorem CkA.fin {l : List At6} {one : List At6 → At6 → Int} {K : Nat} {E : Int} (h : CkA l one K E) (hk : l.length ≤ K) : E = 0 := by
 rcases h.stop with ⟨_, a⟩ | ⟨z', a, b, c⟩
 ·exact a
 ·rw [List.getElem?_eq_none hk] at a
  cases a
theorem takL_app (Ps : List Pc) (L : List At6) (z : At6) (j : Int) : takL Ps (L ++ [z]) j = takL Ps L j ++ (if z.sh = j then [eaR Ps z] else []) := by
 unfold takL
 rw [List.filter_append, List.map_append]
 congr 1
 by_cases h : z.sh = j
 ·rw [if_pos h]
  simp [h]
 ·rw [if_neg h]
  simp [h]
theorem takL_len (Ps : List Pc) (L : List At6) (j : Int) : (takL Ps L j).length ≤ L.length := by
 unfold takL
 rw [List.length_map]
 exact List.length_filter_le _ _
theorem icB_map {t : St} {l : List Rc} {L : List RS} {M : List (List Rc)} (h : L.map RS.l = M) : icB t l L = M.all fun m => !npB (ucB t) l m := by
 subst h
 unfold icB
 rw [List.all_map]
 rfl
end RG
end Go.Proofs.YtddhaiaapomdjaaGreat
set_option linter.unusedVariables false
set_option linter.unusedSimpArgs false
namespace Go.Proofs.YtddhaiaapomdjaaGreat
set_option linter.unusedVariables false
set_option linter.unusedSimpArgs false
open Go Go.ChangeShapes Go.WideShapes Go.ChangeAt Go.RowKit Go.Deep

namespace RG
def NcI (S : List ShT) (Ps : List Pc) (w0 wr : World) (lo P T B : Nat) (cs : Array Value) (L : List At6) : Prop := ∃ (pl : List Bool) (tk : List Tk), NsI w0 wr lo P T B cs pl tk (.slice none 0 0) (.slice none 0 0) [] [] ∧ (∀ i : Nat, i < Ps.length → pl[i]? = some (L.any fun a => a.pi == (i : Int))) ∧ tk.length = S.length ∧ ∀ (j : Nat) (z : Tk), tk[j]? = some z → z.L.map RS.l = takL Ps L j
theorem NcI.grow {S : List ShT} {Ps : List Pc} {w0 wr w' : World} {lo P T B : Nat} {cs : Array Value} {L : List At6} (h : NcI S Ps w0 wr lo P T B cs L) (g : Gr wr w') : NcI S Ps w0 w' lo P T B cs L := by
 obtain ⟨pl, tk, a, b⟩ := h
 exact ⟨pl, tk, a.grow g, b⟩
theorem NcI.gr {S : List ShT} {Ps : List Pc} {w0 wr : World} {lo P T B : Nat} {cs : Array Value} {L : List At6} (h : NcI S Ps w0 wr lo P T B cs L) : Gr w0 wr := by
 obtain ⟨pl, tk, a, b⟩ := h
 exact a.gr
theorem NcI.mb {S : List ShT} {Ps : List Pc} {w0 wr : World} {lo P T B : Nat} {cs : Array Value} {L : List At6} (h : NcI S Ps w0 wr lo P T B cs L) : Made wr B cs := by
 obtain ⟨pl, tk, a, b⟩ := h
 exact a.mb
theorem add_any {S : List ShT} {Ps : List Pc} {bs : Pc → Bool} {t : St} {w0 wr : World} {lo P T B : Nat} {cs : Array Value} {L : List At6} {A A' : Option Addr} {c d : Nat} (hS : SlS w0 A c S) (hP : SlP w0 A' d Ps) (hb : CoBs Ps bs) (z1 : S.length ≤ 4) (z2 : Ps.length ≤ 8) (z3 : ∀ s ∈ S, vsE s = 0) (z4 : ∀ p ∈ Ps, vpE p (bs p) = 0) (z5 : vtB t = true) (hL : L.length ≤ 1000) (z : At6) (h : NcI S Ps w0 wr lo P T B cs L) :
  Calls Tryz.prog 36 #[nsv A c S.length A' d Ps.length t P T, atz z] wr fun e w' => e = .returned (iv (oneE S Ps t L z)) ∧ (oneE S Ps t L z = 0 → NcI S Ps w0 w' lo P T B cs (L ++ [z])) ∧ (oneE S Ps t L z ≠ 0 → Gr wr w') := by
 have g := h.gr
 cases hix : ixB S Ps z with
 | false =>
  rw [oneE_no hix]
  exact (add_idx A c S.length A' d Ps.length P T t z.pi z.sh z.x z.y z.t wr z1 z2 hix).mono fun e w' q => ⟨q.1, fun e => absurd e (by decide), fun _ => q.2⟩
 | true =>
  obtain ⟨i, j, p, s, e1, e2, hp, hs, hE⟩ := oneE_at hix
  rw [hE]
  clear hE hix
  obtain ⟨pi, sh, x, y, k⟩ := z
  dsimp only at e1 e2
  subst e1 e2
  have hpm := List.mem_of_getElem? hp
  have hsm := List.mem_of_getElem? hs
  have hil : i < Ps.length := (List.getElem?_eq_some_iff.1 hp).1
  have hjl : j < S.length := (List.getElem?_eq_some_iff.1 hs).1
  have hSr := hS.gr g
  have hPr := hP.gr g
  have hPw := hPr.el p hpm
  unfold oneQ
  dsimp only
  cases hpu : puB p ⟨i, j, x, y, k⟩ with
  | false =>
   obtain ⟨E, hE0, hU, _⟩ := Put_no hPw (hb p hpm) (z4 p hpm) hpu
   rw [if_neg (by decide)]
   exact (add_put A c S A' d Ps P T t i j p x y k E wr hSr hPr hp hjl z1 z2 hE0 hU).mono fun e w' q => ⟨q.1, fun e => absurd e (by decide), fun _ => q.2⟩
  | true =>
   rw [if_pos rfl]
   have hU : ∀ w', Gr wr w' → Calls Tryz.prog 67 #[p.v, atv i j x y k] w' fun e w'' => PutOk p.nm p.mt p.ga p.gr (mRl p ⟨i, j, x, y, k⟩) (mCl p ⟨i, j, x, y, k⟩) (mFl p ⟨i, j, x, y, k⟩) w' w'' e := fun w' g' => Put_yes (hPw.gr g') (hb p hpm) (z4 p hpm) hpu
   obtain ⟨pl, tk, hI, hpl, htl, htk⟩ := h
   have hG := vsE_good (z3 s hsm)
   have htm := (vtB_iff.1 z5).2
   obtain ⟨z', hz⟩ : ∃ z', tk[j]? = some z' := ⟨_, List.getElem?_eq_getElem (by omega)⟩
   have hm := htk j z' hz
   have hz8 : z'.L.length ≤ 1000 := by
    have h1 := congrArg List.length hm
    rw [List.length_map] at h1
    have h2 := takL_len Ps L j
    omega
   have hpi := hpl i hil
   cases hany : (L.any fun a => a.pi == (i : Int)) with
   | true =>
    rw [if_pos rfl]
    rw [hany] at hpi
    exact (add_placed A c S A' d Ps lo P T pl tk t i j p s z' x y k _ _ _ wr hSr hPr hI.ns hp hs hz hpi z1 z2 hG htm hU).mono fun e w' q => ⟨q.1, fun e => absurd e (by decide), fun _ => q.2⟩
   | false =>
    rw [if_neg (by decide)]
    rw [hany] at hpi
    cases hlw : lwB p.mt p.ga p.gr (mRl p ⟨i, j, x, y, k⟩) s k t.m with
    | false =>
     rw [if_neg (by decide)]
     exact (add_lies A c S A' d Ps lo P T pl tk t i j p s z' x y k _ _ _ wr hSr hPr hI.ns hp hs hz hpi z1 z2 hG htm hU hlw).mono fun e w' q => ⟨q.1, fun e => absurd e (by decide), fun _ => q.2⟩
    | true =>
     rw [if_pos rfl]
     have hic := icB_map (t := t) (l := mRl p ⟨i, j, x, y, k⟩) hm
     cases hcl : ((takL Ps L j).all fun m => !npB (ucB t) (mRl p ⟨i, j, x, y, k⟩) m) with
     | false =>
      rw [hcl] at hic
      rw [if_neg (by decide)]
      exact (add_over A c S A' d Ps lo P T pl tk t i j p s z' x y k _ _ _ wr hSr hPr hI.ns hp hs hz hpi z1 z2 hG htm hU hlw hic).mono fun e w' q => ⟨q.1, fun e => absurd e (by decide), fun _ => q.2⟩
     | true =>
      rw [hcl] at hic
      rw [if_pos rfl]
      refine (add_ok A c S A' d Ps lo P T pl tk t i j p s z' x y k _ _ _ wr hSr hPr hI.ns hp hs hz hpi z1 z2 hG htm hU hlw hic hz8).mono ?_
      rintro e w' ⟨he, D, q, D1, q1, hn, hK, hD, hD1⟩
      refine ⟨he, fun _ => ⟨_, _, NsI.add hI hz hn hK hD hD1, fun i' hi' => ?_, by rw [List.length_set]; exact htl, fun j' z2' hz2 => ?_⟩, fun e => absurd rfl e⟩
      ·have hpl' : i < pl.length := (List.getElem?_eq_some_iff.1 hpi).1
       rw [List.getElem?_set, List.any_append]
       by_cases ei : i = i'
       ·subst ei
        rw [if_pos rfl, if_pos hpl']
        simp
       ·rw [if_neg ei, hpl i' hi']
        have : ((i : Int) == (i' : Int)) = false := by
         simp only [beq_eq_false_iff_ne, ne_eq]
         omega
        simp [this]
      ·rw [takL_app]
       rw [List.getElem?_set] at hz2
       by_cases ej : j = j'
       ·subst ej
        rw [if_pos rfl, if_pos (by omega)] at hz2
        obtain rfl := Option.some.inj hz2
        rw [if_pos rfl, List.map_append, hm]
        have : eaR Ps ⟨i, j, x, y, k⟩ = mRl p ⟨i, j, x, y, k⟩ := by
         unfold eaR
         rw [show (⟨i, j, x, y, k⟩ : At6).pi.toNat = i from rfl, hp]
        rw [this]
        rfl
       ·rw [if_neg ej] at hz2
        rw [if_neg (by dsimp only; omega), List.append_nil]
        exact htk j' z2' hz2
set_option maxHeartbeats 8000000 in
set_option maxRecDepth 100000 in
theorem Check_bad (A : Option Addr) (c : Nat) (S : List ShT) (B : Option Addr) (d : Nat) (Ps : List Pc) (bs : Pc → Bool) (t : St) (V : Value) (w : World) (hS : SlS w A c S) (hP : SlP w B d Ps) (hb : CoBs Ps bs) (h0 : ckE S Ps bs t ≠ 0) :
  Calls Tryz.prog 14 #[.slice A S.length c, .slice B Ps.length d, stvv t, V] w fun e w' => e = .returned (.tuple #[iv 0, iv (ckE S Ps bs t)]) ∧ Gr w w' := by
 have HCK := hide (fun (w' : World) (g : Gr w w') => check_any6 A c S B d Ps bs t w' (hS.gr g) (hP.gr g) hb)
 generalize ckE _ _ _ _ = E at *
 have h1 : (E != 0) = true := by simpa using h0
 obtain ⟨g, m, cm⟩ := t
 clear hS hP hb h0
 go_enter Tryz.func14, Tryz.ntmps14
 go_wp2_with fail
 refine (HCK.out _ (by with_reducible repeat (first | exact Gr.refl _ | assumption | refine Gr.alloc ?_ _ | refine Gr.drewN ?_ _ | refine Gr.drew ?_ | refine Gr.setCell ?_ (by first | (dsimp only; omega) | (simp only [World.size_alloc]; omega)) _ | refine Gr.trans ?_ (by assumption)))).mono ?_
 rintro e w1 ⟨rfl, g1⟩
 go_wp2
 exact bodyPost_ret (v := .tuple #[iv 0, iv E]) (by simp [results, Tryz.results14, go_sem, *]) rfl ⟨rfl, (by with_reducible repeat (first | exact Gr.refl _ | assumption | refine Gr.alloc ?_ _ | refine Gr.drewN ?_ _ | refine Gr.drew ?_ | refine Gr.setCell ?_ (by first | (dsimp only; omega) | (simp only [World.size_alloc]; omega)) _ | refine Gr.trans ?_ (by assumption)))⟩
set_option maxHeartbeats 8000000 in
set_option maxRecDepth 100000 in
theorem Check_good (A : Option Addr) (c : Nat) (S : List ShT) (B : Option Addr) (d : Nat) (Ps : List Pc) (bs : Pc → Bool) (t : St) (C : Option Addr) (e5 : Nat) (l : List At6) (K : Nat) (E : Int) (w : World) (hS : SlS w A c S) (hP : SlP w B d Ps) (hA : SlA w C e5 l) (hb : CoBs Ps bs) (h0 : ckE S Ps bs t = 0) (hl : l.length ≤ 1000) (hK : CkA l (oneE S Ps t) K E) :
  Calls Tryz.prog 14 #[.slice A S.length c, .slice B Ps.length d, stvv t, .slice C l.length e5] w fun e w' => e = .returned (.tuple #[iv (if E = 0 then 0 else K), iv E]) ∧ Gr w w' := by
 obtain ⟨⟨z1, z2⟩, z3, z4, z5⟩ := ck_good h0
 have HCK := hide (fun (w' : World) (g : Gr w w') => check_any6 A c S B d Ps bs t w' (hS.gr g) (hP.gr g) hb)
 rw [h0] at HCK
 have HNN := hide (fun (w' : World) => newNesting_any A c S.length B d Ps.length t w' z1 z2)
 have HADD := hide (fun (wr : World) (lo P T Q : Nat) (cs : Array Value) (L : List At6) (hL : L.length ≤ 1000) (z : At6) (h : NcI S Ps w wr lo P T Q cs L) => add_any (bs := bs) (t := t) hS hP hb z1 z2 z3 z4 z5 hL z h)
 have n1 := hS.cap
 have n2 := hS.capB
 have n3 := hP.cap
 have n4 := hP.capB
 have n5 := hA.cap
 have n6 := hA.capB
 have HA := hide hA
 have HK := hide hK
 have hKl := hK.le
 obtain ⟨g, m, cm⟩ := t
 clear hS hP hA hb h0 z3 z4 z5 hK
 go_enter Tryz.func14, Tryz.ntmps14
 go_wp2_with fail
 refine (HCK.out _ (by with_reducible repeat (first | exact Gr.refl _ | assumption | refine Gr.alloc ?_ _ | refine Gr.drewN ?_ _ | refine Gr.drew ?_ | refine Gr.setCell ?_ (by first | (dsimp only; omega) | (simp only [World.size_alloc]; omega)) _ | refine Gr.trans ?_ (by assumption)))).mono ?_
 rintro e w1 ⟨rfl, g1⟩
 obtain ⟨e0, y0, _⟩ := (Made.new w #[iv g, iv m, .bool cm] 29).gr g1
 have a00 := y0 0
 have a01 := y0 1
 have a02 := y0 2
 clear y0
 have gw1 : Gr w w1 := Gr.trans (by with_reducible repeat (first | exact Gr.refl _ | assumption | refine Gr.alloc ?_ _ | refine Gr.drewN ?_ _ | refine Gr.drew ?_ | refine Gr.setCell ?_ (by first | (dsimp only; omega) | (simp only [World.size_alloc]; omega)) _ | refine Gr.trans ?_ (by assumption))) g1
 go_wp2_with fail
 refine (HNN.out _).mono ?_
 rintro e w2 ⟨P, T, rfl, ⟨hp, hpf⟩, ⟨ht, htf⟩, ⟨k1, k2, k3, k4, k5⟩, g2⟩
 have gw2 : Gr w w2 := gw1.trans g2
 have hw1 := gw1.size
 have HI0 := hide (show NsI w (w2.alloc (.cells #[.slice A S.length c, .slice B Ps.length d, iv g, iv m, .bool cm, .slice (some ⟨P, 0, none⟩) Ps.length Ps.length, .slice (some ⟨T, 0, none⟩) S.length S.length] 75)) (w2.heap.size + 1) P T w2.heap.size #[.slice A S.length c, .slice B Ps.length d, iv g, iv m, .bool cm, .slice (some ⟨P, 0, none⟩) Ps.length Ps.length, .slice (some ⟨T, 0, none⟩) S.length S.length] (List.replicate Ps.length false) (List.replicate S.length ⟨none, 0, []⟩) (.slice none 0 0) (.slice none 0 0) [] [] from by
  have ga : Gr w2 (w2.alloc (.cells #[.slice A S.length c, .slice B Ps.length d, iv g, iv m, .bool cm, .slice (some ⟨P, 0, none⟩) Ps.length Ps.length, .slice (some ⟨T, 0, none⟩) S.length S.length] 75)) := Gr.alloc (Gr.refl _) _
  have hrep : ∀ (k : Nat) (x : Tk), (List.replicate S.length (⟨none, 0, []⟩ : Tk))[k]? = some x → x = ⟨none, 0, []⟩ ∧ k < S.length := fun k x hx => by
   rw [List.getElem?_replicate] at hx
   split at hx
   ·exact ⟨(Option.some.inj hx).symm, by assumption⟩
   ·cases hx
  refine ⟨gw2.trans ga, ⟨fun i b hb => ?_, fun i => (ga.frozen _ _ k4).trans (hpf i), fun k x hx => ?_, fun i => (ga.frozen _ _ k5).trans (htf i), fun k x hx => ?_, fun k x hx y hy => ?_, fun k x hx y hy => ?_, fun k x j z hx hz _ a b ha _ => ?_, by omega, by omega, by simp, k3⟩, own_nil _ _ _ _ _, own_nil _ _ _ _ _, NsA.none _ _ _, NsA.none _ _ _, dj_nil _ _ _, Made.new _ _ _, ⟨by omega, by omega⟩, by omega, by omega, by omega⟩
  ·rw [List.getElem?_replicate] at hb
   split at hb
   ·obtain rfl := Option.some.inj hb
    exact (ga.cell _ _ k4).trans (hp i (by assumption))
   ·cases hb
  ·obtain ⟨rfl, hk⟩ := hrep k x hx
   exact (ga.cell _ _ k5).trans (ht k hk)
  ·obtain ⟨rfl, hk⟩ := hrep k x hx
   exact own_nil _ _ _ _ _
  ·obtain ⟨rfl, hk⟩ := hrep k x hx
   cases hy
  ·obtain ⟨rfl, hk⟩ := hrep k x hx
   cases hy
  ·obtain ⟨rfl, hk⟩ := hrep k x hx
   cases ha)
 obtain ⟨lo, hlo⟩ : ∃ lo, lo = w2.heap.size + 1 := ⟨_, rfl⟩
 rw [← hlo] at HI0
 clear hp hpf ht htf a00 a01 a02 e0 g1 g2
 go_wp2_with fail
 generalize w2.alloc (.cells #[.slice A S.length c, .slice B Ps.length d, iv g, iv m, .bool cm, .slice (some ⟨P, 0, none⟩) Ps.length Ps.length, .slice (some ⟨T, 0, none⟩) S.length S.length] 75) = w3 at *
 generalize w2.heap.size = b2 at *
 have HI1 := hide (show NcI S Ps w w3 lo P T b2 #[.slice A S.length c, .slice B Ps.length d, iv g, iv m, .bool cm, .slice (some ⟨P, 0, none⟩) Ps.length Ps.length, .slice (some ⟨T, 0, none⟩) S.length S.length] (l.take 0) from ⟨_, _, HI0.out, fun i hi => by rw [List.getElem?_replicate, if_pos hi, List.take_zero]; rfl, by simp, fun j z hz => by
  rw [List.getElem?_replicate] at hz
  split at hz
  ·obtain rfl := Option.some.inj hz; rw [List.take_zero]; rfl
  ·cases hz⟩)
 clear HI0 hlo
 go_loopw [28] (fun i wr => ∃ k : Nat, k ≤ K ∧ i = iv k ∧ Hid (NcI S Ps w wr lo P T b2 #[.slice A S.length c, .slice B Ps.length d, iv g, iv m, .bool cm, .slice (some ⟨P, 0, none⟩) Ps.length Ps.length, .slice (some ⟨T, 0, none⟩) S.length S.length] (l.take k))) (fun i _ => l.length - (intOf i).toNat)
 case atStart => exact ⟨0, by omega, rfl, HI1⟩
 case round =>
  obtain ⟨k, hk, rfl, HI⟩ := hrel
  clear HI1
  have gw := HI.out.gr
  by_cases hkl : k < l.length
  ·obtain ⟨z, hz⟩ : ∃ z, l[k]? = some z := ⟨_, List.getElem?_eq_getElem hkl⟩
   have hst := HK.out.step hk hz
   obtain ⟨b, o, rfl, x0, x1, x2, x3, x4⟩ := (HA.out.gr gw).at_ hz
   have hbl : b < wr.heap.size := cell_lt (by rw [x0]; rfl)
   have hk0 : (0 : Int) ≤ (k : Int) := by omega
   have hk1 : (k : Int) < (l.length : Int) := by omega
   have hL : (l.take k).length ≤ 1000 := by rw [List.length_take]; omega
   have HT := hide (take_at hz)
   clear hz
   obtain ⟨pi, sh, x, y, tt⟩ := z
   dsimp only at x0 x1 x2 x3 x4
   go_upto_region 8 with fail
   have HI6 := hide (HI.out.grow (show Gr wr (wr.alloc (.cells #[iv pi, iv sh, iv x, iv y, iv tt] 33)) from Gr.alloc (Gr.refl _) _))
   have M14 := hide (Made.new wr #[iv pi, iv sh, iv x, iv y, iv tt] 33)
   clear x0 x1 x2 x3 x4 hbl HI gw
   generalize wr.alloc (.cells #[iv pi, iv sh, iv x, iv y, iv tt] 33) = w6 at *
   generalize wr.heap.size = b14 at *
   obtain ⟨eB, yB, _⟩ := HI6.out.mb
   have c0 := yB 0
   have c1 := yB 1
   have c2 := yB 2
   have c3 := yB 3
   have c4 := yB 4
   have c5 := yB 5
   have c6 := yB 6
   clear yB
   obtain ⟨e14, y14, _⟩ := M14.out
   have a0 := y14 0
   have a1 := y14 1
   have a2 := y14 2
   have a3 := y14 3
   have a4 := y14 4
   clear y14
   have HAD := hide (HADD.out w6 lo P T b2 _ _ hL ⟨pi, sh, x, y, tt⟩ HI6.out)
   rcases hst with ⟨hkK, hE0⟩ | ⟨hkK, hEE, hE0⟩
   ·rw [hE0] at HAD
    clear hE0
    go_wp2_with fail
    refine (HAD.out).mono ?_
    rintro e w7 ⟨rfl, hN, _⟩
    have HI7 := hide (show NcI S Ps w w7 lo P T b2 #[.slice A S.length c, .slice B Ps.length d, iv g, iv m, .bool cm, .slice (some ⟨P, 0, none⟩) Ps.length Ps.length, .slice (some ⟨T, 0, none⟩) S.length S.length] (l.take (k + 1)) by rw [HT.out]; exact hN (by first | rfl | trivial))
    clear hN c0 c1 c2 c3 c4 c5 c6 a0 a1 a2 a3 a4 eB e14
    go_wp2_with fail
    go_roundw
    case rel => exact ⟨k + 1, by omega, by go_num, HI7⟩
    case measure => simp only [intOf]; omega
   ·rw [hEE] at HAD
    clear hEE
    have h1 : (E != 0) = true := by simpa using hE0
    go_wp2_with fail
    refine (HAD.out).mono ?_
    rintro e w7 ⟨rfl, _, hN⟩
    have g7 : Gr w w7 := HI6.out.gr.trans (hN hE0)
    clear hN c0 c1 c2 c3 c4 c5 c6 a0 a1 a2 a3 a4 eB e14
    go_wp2_with fail
    refine bodyPost_ret (v := .tuple #[iv k, iv E]) (by simp [results, Tryz.results14, go_sem, *]) rfl ⟨?_, g7⟩
    first | rw [if_neg hE0, hkK] | rw [hkK]
  ·obtain rfl : E = 0 := HK.out.fin (by omega)
   clear HADD HI
   go_wp2_with fail
   refine bodyPost_ret (v := .tuple #[iv 0, iv 0]) (by simp [results, Tryz.results14, go_sem, *]) rfl ⟨?_, gw⟩
   first | rfl | rw [if_pos rfl]
end RG
end Go.Proofs.YtddhaiaapomdjaaGreat
