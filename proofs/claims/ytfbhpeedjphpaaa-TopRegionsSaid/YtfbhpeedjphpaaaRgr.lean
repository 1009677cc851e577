/-
  Regions: the horizontal and the vertical segments of an outline, in the code.
-/
import Derived.Test.YtfbhpeedjphpaaaRgq
set_option linter.unusedVariables false
set_option linter.unusedSimpArgs false
namespace Go.Proofs.Ytfbhpeedjphpaaa
set_option linter.unusedVariables false
set_option linter.unusedSimpArgs false
open Go Go.ChangeShapes Go.WideShapes Go.ChangeAt Go.RowKit Go.Deep

namespace RG
structure Sg where
  a : Int
  b : Int
  c : Int
  d : Int
abbrev sgL (s : Sg) : List Value := [iv s.a, iv s.b, iv s.c, iv s.d]
theorem elSg : ElT Try.prog 30 50 4 32 := elT_of (.agg #[iv 0, iv 0, iv 0, iv 0]) (by kernel_rfl) (by kernel_rfl) (by kernel_rfl)
theorem one_sg (s : Sg) : ∀ u ∈ sgL s, u.oneCell' = true := by
  intro u hu
  simp at hu
  rcases hu with rfl | rfl | rfl | rfl <;> rfl
def sgOfH (y : Int) (l : List Sp) : List Sg := l.map fun s => ⟨s.1, y, s.2, y⟩
def sgOfV (x : Int) (l : List Sp) : List Sg := l.map fun s => ⟨x, s.1, x, s.2⟩
def hzS (X Y : List Int) (c : Nat → Nat → Bool) (j : Nat) : List Sp := (spS X (fun i => sdV (atV c (i : Int) ((j : Int) - 1)) (atV c (i : Int) (j : Int))) (X.length - 1)).1
def vtS (X Y : List Int) (c : Nat → Nat → Bool) (i : Nat) : List Sp := (spS Y (fun j => sdV (atV c ((i : Int) - 1) (j : Int)) (atV c (i : Int) (j : Int))) (Y.length - 1)).1
def hzL (X Y : List Int) (c : Nat → Nat → Bool) (n : Nat) : List Sg := (List.range n).flatMap fun j => sgOfH (Y[j]?.getD 0) (hzS X Y c j)
def vtL (X Y : List Int) (c : Nat → Nat → Bool) (n : Nat) : List Sg := (List.range n).flatMap fun i => sgOfV (X[i]?.getD 0) (vtS X Y c i)
theorem hzL_snoc (X Y : List Int) (c : Nat → Nat → Bool) (j : Nat) {y : Int} (hy : Y[j]? = some y) : hzL X Y c j ++ sgOfH y (hzS X Y c j) = hzL X Y c (j + 1) := by
  unfold hzL
  rw [List.range_succ, List.flatMap_append]
  simp [hy]
theorem vtL_snoc (X Y : List Int) (c : Nat → Nat → Bool) (i : Nat) {x : Int} (hx : X[i]? = some x) : vtL X Y c i ++ sgOfV x (vtS X Y c i) = vtL X Y c (i + 1) := by
  unfold vtL
  rw [List.range_succ, List.flatMap_append]
  simp [hx]
set_option maxHeartbeats 4000000 in
set_option maxRecDepth 100000 in
theorem horizontal_any (X Y : List Int) (A B F : Option Addr) (a b f lo hi : Nat) (rb : Nat → Nat) (c : Nat → Nat → Bool) (w : World) (hG : GrM w lo hi X Y A B F a b f rb c) :
    Calls Try.prog 17 #[grv X Y A B F a b f] w fun e w' => ∃ D d, e = .returned (.slice D (hzL X Y c Y.length).length d) ∧ OwnL w' w.heap.size 50 4 sgL (.slice D (hzL X Y c Y.length).length d) (hzL X Y c Y.length) ∧ (hzL X Y c Y.length).length ≤ 1000 * 999 ∧ Gr w w' := by
  have n1 := hG.n1
  have n2 := hG.n2
  have k1 := hG.sx.cap
  have k2 := hG.sx.capB
  have k3 := hG.sy.cap
  have k4 := hG.sy.capB
  have HG := hide hG
  clear hG
  go_enter Try.func17, Try.ntmps17
  go_wp2
  have g0 : Gr w (w.alloc (.cells #[.slice A X.length a, .slice B Y.length b, .slice F X.length f] 43)) := Gr.alloc (Gr.refl _) _
  have mS := Made.new w #[.slice A X.length a, .slice B Y.length b, .slice F X.length f] 43
  generalize w.alloc (.cells #[.slice A X.length a, .slice B Y.length b, .slice F X.length f] 43) = w0 at *
  have HMS := hide mS
  have HG0 := hide (HG.out.gr g0)
  have hS0 := mS.1
  obtain ⟨p0, p1, p2, -, -, -⟩ := made3 mS
  clear mS HG
  go_wp2
  go_loopw [3, 11] (fun v jv wr => ∃ (j : Nat) (O : List Sg) (A' : Option Addr) (d' : Nat), j ≤ Y.length ∧ jv = iv j ∧ v = .slice A' O.length d' ∧ Gr w0 wr ∧ Hid (OwnL wr w0.heap.size 50 4 sgL (.slice A' O.length d') O) ∧ Hid (O = hzL X Y c j) ∧ O.length ≤ j * 999) (fun _ jv _ => Y.length - (intOf jv).toNat)
  case atStart => exact ⟨0, [], none, 0, by omega, rfl, rfl, Gr.refl _, own_nil _ _ _ _ _, rfl, by simp⟩
  case round =>
    clear p0 p1 p2
    obtain ⟨j, O, A1, d1, hj, rfl, rfl, g, HO, HE, hOl⟩ := hrel
    have sz := g.size
    have sz0 := g0.size
    obtain ⟨p0, p1, p2, -, -, -⟩ := made3 (HMS.out.gr g)
    by_cases hjl : j < Y.length
    · obtain ⟨y, hy⟩ : ∃ y, Y[j]? = some y := ⟨_, List.getElem?_eq_getElem hjl⟩
      obtain ⟨bY, oY, hAY, cy⟩ := (HG0.out.gr g).sy.rd.in_ hy
      have HY := hide hy
      subst hAY
      have hj0 : (0 : Int) ≤ (j : Int) := by omega
      have hj1 : (j : Int) < (Y.length : Int) := by omega
      clear hy
      go_upto_region 5 with fail
      have g1 : Gr wr (wr.alloc (.cells #[iv (j : Int)] 3)) := Gr.alloc (Gr.refl _) _
      have hJ : (wr.alloc (.cells #[iv (j : Int)] 3)).cell? ⟨wr.heap.size, 0, none⟩ = some (iv j) := by simp [go_sem]
      have hs1 : wr.heap.size < (wr.alloc (.cells #[iv (j : Int)] 3)).heap.size := by simp
      generalize wr.alloc (.cells #[iv (j : Int)] 3) = w1 at *
      have HMS1 := hide (HMS.out.gr (g.trans g1))
      have HG1 := hide (HG0.out.gr (g.trans g1))
      have HSP := hide (spansH_any _ a X w.heap.size wr.heap.size (fun i => sdV (atV c (i : Int) ((j : Int) - 1)) (atV c (i : Int) (j : Int))) w1 HG1.out.sx (by omega) (fun i w' g' hlt => closH_any X Y _ _ F a b f lo hi rb c i j w.heap.size wr.heap.size w' (HG1.out.gr g') (by omega) hjl (HMS1.out.gr g') ((g'.cell _ _ hs1).trans hJ)))
      have hR : (spS X (fun i => sdV (atV c (i : Int) ((j : Int) - 1)) (atV c (i : Int) (j : Int))) (X.length - 1)).1 = hzS X Y c j := rfl
      have hRl := spS_len X (fun i => sdV (atV c (i : Int) ((j : Int) - 1)) (atV c (i : Int) (j : Int))) (X.length - 1)
      rw [hR] at hRl HSP
      obtain ⟨R, hRR⟩ : ∃ R, hzS X Y c j = R := ⟨_, rfl⟩
      have HRR := hide hRR
      rw [hRR] at hRl HSP
      obtain ⟨q0, q1, q2, -, -, -⟩ := made3 HMS1.out
      clear hR hRR p0 p1 p2 cy
      go_wp2_with fail
      refine HSP.out.mono ?_
      rintro e w2 ⟨D, d, rfl, hO2, g2⟩
      obtain ⟨_, hrd, hcap, hcapB⟩ := OwnL.rd (c := spL) (fun _ => rfl) hO2
      have HR2 := hide hO2
      unfold maxLen at hcapB
      have gw2 : Gr wr w2 := g1.trans g2
      have sz2 := gw2.size
      have szw1 := g1.size
      have HO2 := hide (HO.out.gr gw2)
      have HD2 := hide (show Dj (.slice A1 O.length d1) (.slice D R.length d) from fun b hb hr => by
        have h1 := (OwnL.lt HO.out b hb).2
        have h2 := (OwnL.lt HR2.out b hr).1
        omega)
      have HE2 := hide (show O = hzL X Y c j ++ sgOfH y (R.take 0) by simpa [sgOfH] using HE.out)
      clear hO2 hrd HSP q0 q1 q2 HO HE hJ
      go_wp2
      go_loopw [3, 21] (fun v kv wr => ∃ (k : Nat) (O : List Sg) (A' : Option Addr) (d' : Nat), k ≤ R.length ∧ kv = iv k ∧ v = .slice A' O.length d' ∧ Gr w0 wr ∧ Hid (OwnL wr w0.heap.size 50 4 sgL (.slice A' O.length d') O) ∧ Hid (OwnL wr w1.heap.size 65 2 spL (.slice D R.length d) R) ∧ Hid (Dj (.slice A' O.length d') (.slice D R.length d)) ∧ Hid (O = hzL X Y c j ++ sgOfH y (R.take k)) ∧ O.length ≤ j * 999 + k) (fun _ kv _ => R.length - (intOf kv).toNat)
      case atStart => exact ⟨0, O, A1, d1, by omega, rfl, rfl, g.trans gw2, HO2, HR2, HD2, HE2, by omega⟩
      case round =>
        clear HO2 HE2 HR2 HD2 hOl
        obtain ⟨k, O, A1, d1, hk, rfl, rfl, g3, HO, HRr, HDr, HE, hOl⟩ := hrel
        have sz3 := g3.size
        by_cases hkl : k < R.length
        · obtain ⟨s, hs⟩ : ∃ s, R[k]? = some s := ⟨_, List.getElem?_eq_getElem hkl⟩
          obtain ⟨bS, oS, hD, x0, x1, _⟩ := (OwnL.rd (c := spL) (fun _ => rfl) HRr.out).2.1 k s hs
          obtain ⟨s1, s2⟩ := s
          subst hD

          obtain ⟨O2, hO2⟩ : ∃ O2, O ++ [(⟨s1, y, s2, y⟩ : Sg)] = O2 := ⟨_, rfl⟩
          have HO2 := hide hO2
          have HE2 := hide (show O2 = hzL X Y c j ++ sgOfH y (R.take (k + 1)) by rw [← hO2, HE.out, take_at hs]; simp [sgOfH])
          have hO2l : O2.length ≤ j * 999 + (k + 1) := by rw [← hO2]; simp; omega
          have hk0 : (0 : Int) ≤ (k : Int) := by omega
          have hk1 : (k : Int) < (R.length : Int) := by omega
          clear hs hO2 HE
          go_wp2_with (refine wpList_app2 rfl _ _ _ rfl sgL w0.heap.size 50 4 32 elSg (by decide) O ⟨s1, y, s2, y⟩ O2 HO2.out _ rfl (OwnL.gr HO.out (by repeat (first | with_reducible exact Gr.refl _ | with_reducible assumption | with_reducible refine Gr.alloc ?_ _ | with_reducible refine Gr.drewN ?_ _ | with_reducible refine Gr.drew ?_ | with_reducible refine Gr.setCell ?_ (by first | (dsimp only; omega) | (simp only [World.size_alloc]; omega) | (with_reducible refine Gr.size ?_; (repeat (first | with_reducible exact Gr.refl _ | with_reducible assumption | with_reducible refine Gr.alloc ?_ _ | with_reducible refine Gr.drewN ?_ _ | with_reducible refine Gr.drew ?_ | with_reducible refine Gr.trans ?_ (by with_reducible assumption))); done)) _ | with_reducible refine Gr.trans ?_ (by with_reducible assumption)))) ⟨wr.heap.size + 1, 0, none⟩ 1 rfl rfl (by intro j u hu; refine newsN _ #[iv s1, iv y, iv s2, iv y] 50 (wr.heap.size + 1) (by simp) j u ?_; exact hu) (one_sg _) (by omega) (by decide) (by simp only [World.size_alloc]; omega) ?_; intro gg cap1 w8 hO8 hG8 hg8 hat8 hlt8)
          have gb : Gr wr ((wr.alloc (.cells #[iv s1, iv s2] 65)).alloc (.cells #[iv s1, iv y, iv s2, iv y] 50)) := Gr.alloc (Gr.alloc (Gr.refl _) _) _
          have g8 : Gr w0 w8 := hG8 _ (g3.trans gb) (Nat.le_refl _)
          have HR8 := hide (OwnL.kept (HRr.out.gr gb) hg8 HDr.out.symm.ne)
          have HD8 := hide (dj_next (n := O2.length) (cap := cap1) HDr.out (fun b hb => by have := (OwnL.lt HRr.out b hb).2; simp only [World.size_alloc]; omega) hat8)
          have HO8 := hide hO8
          clear hO8 hG8 hg8 hat8 hlt8 gb HRr HDr HO
          go_roundw
          case rel => exact ⟨k + 1, O2, some ⟨gg, 0, none⟩, cap1, by omega, by go_num, rfl, g8, HO8, HR8, HD8, HE2, hO2l⟩
          case measure => simp only [intOf]; omega
        · obtain rfl : k = R.length := by omega
          have HE2 := hide (show O = hzL X Y c (j + 1) by rw [HE.out, List.take_length, ← HRR.out]; exact hzL_snoc X Y c j HY.out)
          go_wp2
          go_roundw
          case rel => exact ⟨j + 1, O, A1, d1, by omega, by go_num, rfl, g3, HO, HE2, by omega⟩
          case measure => simp only [intOf]; omega
    · obtain rfl : j = Y.length := by omega
      go_wp2
      go_ret
      refine ⟨A1, d1, ?_, ?_, ?_, g0.trans g⟩
      · rw [← HE.out]; rfl
      · rw [← HE.out]; exact HO.out.weak g0.size
      · rw [← HE.out]; omega
set_option maxHeartbeats 4000000 in
set_option maxRecDepth 100000 in
theorem vertical_any (X Y : List Int) (A B F : Option Addr) (a b f lo hi : Nat) (rb : Nat → Nat) (c : Nat → Nat → Bool) (w : World) (hG : GrM w lo hi X Y A B F a b f rb c) :
    Calls Try.prog 18 #[grv X Y A B F a b f] w fun e w' => ∃ D d, e = .returned (.slice D (vtL X Y c X.length).length d) ∧ OwnL w' w.heap.size 50 4 sgL (.slice D (vtL X Y c X.length).length d) (vtL X Y c X.length) ∧ (vtL X Y c X.length).length ≤ 1000 * 999 ∧ Gr w w' := by
  have n1 := hG.n1
  have n2 := hG.n2
  have k1 := hG.sx.cap
  have k2 := hG.sx.capB
  have k3 := hG.sy.cap
  have k4 := hG.sy.capB
  have HG := hide hG
  clear hG
  go_enter Try.func18, Try.ntmps18
  go_wp2
  have g0 : Gr w (w.alloc (.cells #[.slice A X.length a, .slice B Y.length b, .slice F X.length f] 43)) := Gr.alloc (Gr.refl _) _
  have mS := Made.new w #[.slice A X.length a, .slice B Y.length b, .slice F X.length f] 43
  generalize w.alloc (.cells #[.slice A X.length a, .slice B Y.length b, .slice F X.length f] 43) = w0 at *
  have HMS := hide mS
  have HG0 := hide (HG.out.gr g0)
  have hS0 := mS.1
  obtain ⟨p0, p1, p2, -, -, -⟩ := made3 mS
  clear mS HG
  go_wp2
  go_loopw [3, 11] (fun v jv wr => ∃ (j : Nat) (O : List Sg) (A' : Option Addr) (d' : Nat), j ≤ X.length ∧ jv = iv j ∧ v = .slice A' O.length d' ∧ Gr w0 wr ∧ Hid (OwnL wr w0.heap.size 50 4 sgL (.slice A' O.length d') O) ∧ Hid (O = vtL X Y c j) ∧ O.length ≤ j * 999) (fun _ jv _ => X.length - (intOf jv).toNat)
  case atStart => exact ⟨0, [], none, 0, by omega, rfl, rfl, Gr.refl _, own_nil _ _ _ _ _, rfl, by simp⟩
  case round =>
    clear p0 p1 p2
    obtain ⟨j, O, A1, d1, hj, rfl, rfl, g, HO, HE, hOl⟩ := hrel
    have sz := g.size
    have sz0 := g0.size
    obtain ⟨p0, p1, p2, -, -, -⟩ := made3 (HMS.out.gr g)
    by_cases hjl : j < X.length
    · obtain ⟨y, hy⟩ : ∃ y, X[j]? = some y := ⟨_, List.getElem?_eq_getElem hjl⟩
      obtain ⟨bY, oY, hAY, cy⟩ := (HG0.out.gr g).sx.rd.in_ hy
      have HY := hide hy
      subst hAY
      have hj0 : (0 : Int) ≤ (j : Int) := by omega
      have hj1 : (j : Int) < (X.length : Int) := by omega
      clear hy
      go_upto_region 5 with fail
      have g1 : Gr wr (wr.alloc (.cells #[iv (j : Int)] 3)) := Gr.alloc (Gr.refl _) _
      have hJ : (wr.alloc (.cells #[iv (j : Int)] 3)).cell? ⟨wr.heap.size, 0, none⟩ = some (iv j) := by simp [go_sem]
      have hs1 : wr.heap.size < (wr.alloc (.cells #[iv (j : Int)] 3)).heap.size := by simp
      generalize wr.alloc (.cells #[iv (j : Int)] 3) = w1 at *
      have HMS1 := hide (HMS.out.gr (g.trans g1))
      have HG1 := hide (HG0.out.gr (g.trans g1))
      have HSP := hide (spansV_any _ b Y w.heap.size wr.heap.size (fun i => sdV (atV c ((j : Int) - 1) (i : Int)) (atV c (j : Int) (i : Int))) w1 HG1.out.sy (by omega) (fun i w' g' hlt => closV_any X Y _ _ F a b f lo hi rb c j i w.heap.size wr.heap.size w' (HG1.out.gr g') hjl (by omega) (HMS1.out.gr g') ((g'.cell _ _ hs1).trans hJ)))
      have hR : (spS Y (fun i => sdV (atV c ((j : Int) - 1) (i : Int)) (atV c (j : Int) (i : Int))) (Y.length - 1)).1 = vtS X Y c j := rfl
      have hRl := spS_len Y (fun i => sdV (atV c ((j : Int) - 1) (i : Int)) (atV c (j : Int) (i : Int))) (Y.length - 1)
      rw [hR] at hRl HSP
      obtain ⟨R, hRR⟩ : ∃ R, vtS X Y c j = R := ⟨_, rfl⟩
      have HRR := hide hRR
      rw [hRR] at hRl HSP
      obtain ⟨q0, q1, q2, -, -, -⟩ := made3 HMS1.out
      clear hR hRR p0 p1 p2 cy
      go_wp2_with fail
      refine HSP.out.mono ?_
      rintro e w2 ⟨D, d, rfl, hO2, g2⟩
      obtain ⟨_, hrd, hcap, hcapB⟩ := OwnL.rd (c := spL) (fun _ => rfl) hO2
      have HR2 := hide hO2
      unfold maxLen at hcapB
      have gw2 : Gr wr w2 := g1.trans g2
      have sz2 := gw2.size
      have szw1 := g1.size
      have HO2 := hide (HO.out.gr gw2)
      have HD2 := hide (show Dj (.slice A1 O.length d1) (.slice D R.length d) from fun b hb hr => by
        have h1 := (OwnL.lt HO.out b hb).2
        have h2 := (OwnL.lt HR2.out b hr).1
        omega)
      have HE2 := hide (show O = vtL X Y c j ++ sgOfV y (R.take 0) by simpa [sgOfV] using HE.out)
      clear hO2 hrd HSP q0 q1 q2 HO HE hJ
      go_wp2
      go_loopw [3, 21] (fun v kv wr => ∃ (k : Nat) (O : List Sg) (A' : Option Addr) (d' : Nat), k ≤ R.length ∧ kv = iv k ∧ v = .slice A' O.length d' ∧ Gr w0 wr ∧ Hid (OwnL wr w0.heap.size 50 4 sgL (.slice A' O.length d') O) ∧ Hid (OwnL wr w1.heap.size 65 2 spL (.slice D R.length d) R) ∧ Hid (Dj (.slice A' O.length d') (.slice D R.length d)) ∧ Hid (O = vtL X Y c j ++ sgOfV y (R.take k)) ∧ O.length ≤ j * 999 + k) (fun _ kv _ => R.length - (intOf kv).toNat)
      case atStart => exact ⟨0, O, A1, d1, by omega, rfl, rfl, g.trans gw2, HO2, HR2, HD2, HE2, by omega⟩
      case round =>
        clear HO2 HE2 HR2 HD2 hOl
        obtain ⟨k, O, A1, d1, hk, rfl, rfl, g3, HO, HRr, HDr, HE, hOl⟩ := hrel
        have sz3 := g3.size
        by_cases hkl : k < R.length
        · obtain ⟨s, hs⟩ : ∃ s, R[k]? = some s := ⟨_, List.getElem?_eq_getElem hkl⟩
          obtain ⟨bS, oS, hD, x0, x1, _⟩ := (OwnL.rd (c := spL) (fun _ => rfl) HRr.out).2.1 k s hs
          obtain ⟨s1, s2⟩ := s
          subst hD

          obtain ⟨O2, hO2⟩ : ∃ O2, O ++ [(⟨y, s1, y, s2⟩ : Sg)] = O2 := ⟨_, rfl⟩
          have HO2 := hide hO2
          have HE2 := hide (show O2 = vtL X Y c j ++ sgOfV y (R.take (k + 1)) by rw [← hO2, HE.out, take_at hs]; simp [sgOfV])
          have hO2l : O2.length ≤ j * 999 + (k + 1) := by rw [← hO2]; simp; omega
          have hk0 : (0 : Int) ≤ (k : Int) := by omega
          have hk1 : (k : Int) < (R.length : Int) := by omega
          clear hs hO2 HE
          go_wp2_with (refine wpList_app2 rfl _ _ _ rfl sgL w0.heap.size 50 4 32 elSg (by decide) O ⟨y, s1, y, s2⟩ O2 HO2.out _ rfl (OwnL.gr HO.out (by repeat (first | with_reducible exact Gr.refl _ | with_reducible assumption | with_reducible refine Gr.alloc ?_ _ | with_reducible refine Gr.drewN ?_ _ | with_reducible refine Gr.drew ?_ | with_reducible refine Gr.setCell ?_ (by first | (dsimp only; omega) | (simp only [World.size_alloc]; omega) | (with_reducible refine Gr.size ?_; (repeat (first | with_reducible exact Gr.refl _ | with_reducible assumption | with_reducible refine Gr.alloc ?_ _ | with_reducible refine Gr.drewN ?_ _ | with_reducible refine Gr.drew ?_ | with_reducible refine Gr.trans ?_ (by with_reducible assumption))); done)) _ | with_reducible refine Gr.trans ?_ (by with_reducible assumption)))) ⟨wr.heap.size + 1, 0, none⟩ 1 rfl rfl (by intro j u hu; refine newsN _ #[iv y, iv s1, iv y, iv s2] 50 (wr.heap.size + 1) (by simp) j u ?_; exact hu) (one_sg _) (by omega) (by decide) (by simp only [World.size_alloc]; omega) ?_; intro gg cap1 w8 hO8 hG8 hg8 hat8 hlt8)
          have gb : Gr wr ((wr.alloc (.cells #[iv s1, iv s2] 65)).alloc (.cells #[iv y, iv s1, iv y, iv s2] 50)) := Gr.alloc (Gr.alloc (Gr.refl _) _) _
          have g8 : Gr w0 w8 := hG8 _ (g3.trans gb) (Nat.le_refl _)
          have HR8 := hide (OwnL.kept (HRr.out.gr gb) hg8 HDr.out.symm.ne)
          have HD8 := hide (dj_next (n := O2.length) (cap := cap1) HDr.out (fun b hb => by have := (OwnL.lt HRr.out b hb).2; simp only [World.size_alloc]; omega) hat8)
          have HO8 := hide hO8
          clear hO8 hG8 hg8 hat8 hlt8 gb HRr HDr HO
          go_roundw
          case rel => exact ⟨k + 1, O2, some ⟨gg, 0, none⟩, cap1, by omega, by go_num, rfl, g8, HO8, HR8, HD8, HE2, hO2l⟩
          case measure => simp only [intOf]; omega
        · obtain rfl : k = R.length := by omega
          have HE2 := hide (show O = vtL X Y c (j + 1) by rw [HE.out, List.take_length, ← HRR.out]; exact vtL_snoc X Y c j HY.out)
          go_wp2
          go_roundw
          case rel => exact ⟨j + 1, O, A1, d1, by omega, by go_num, rfl, g3, HO, HE2, by omega⟩
          case measure => simp only [intOf]; omega
    · obtain rfl : j = X.length := by omega
      go_wp2
      go_ret
      refine ⟨A1, d1, ?_, ?_, ?_, g0.trans g⟩
      · rw [← HE.out]; rfl
      · rw [← HE.out]; exact HO.out.weak g0.size
      · rw [← HE.out]; omega
end RG
end Go.Proofs.Ytfbhpeedjphpaaa
