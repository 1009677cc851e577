/-
  Parts: the reference's Faces; lists of faces compared; PartFaces: the walk.
-/
import Derived.Test.YtpmomgfepkegnaaFac1
set_option linter.unusedVariables false
set_option linter.unusedSimpArgs false
namespace Go.Proofs.Ytpmomgfepkegnaa
set_option linter.unusedVariables false
set_option linter.unusedSimpArgs false
open Go Go.ChangeShapes Go.WideShapes Go.ChangeAt Go.RowKit Go.Deep

set_option maxRecDepth 100000 in
set_option maxHeartbeats 4000000 in
theorem rFaces_any (p : Pa) (A B : Option Addr) (c d : Nat) (m : Int) (w : World) (hP : PaW w p A c B d) :
    Calls Try.prog 22 #[pav p A c B d, iv m] w fun e w' => ∃ v, e = .returned (sle v (facE p m)) ∧ OwnL w' w.heap.size 48 11 fcL v (facL p m) ∧ Gr w w' := by
  have HV := hide (fun (w' : World) (g : Gr w w') => rValidate_any p A B c d w' (hP.gr g))
  by_cases h0 : valE p = 0
  · have G := good_of h0
    have HM := hide (fun w' => full_any p A B c d w' G.nfl)
    rw [show ((2 ^ p.fl.length - 1 : Nat) : Int) = fuM p from rfl] at HM
    rw [h0] at HV
    cases hm : wiB m 0 (fuM p) with
    | true =>
      have hE := facE_ok h0 hm
      obtain ⟨k, rfl, hk⟩ := fuM_lt G.nfl hm
      have HL := hide (facL_some hE)
      rw [hE]
      have HF := hide (fun (w' : World) (g : Gr w w') => place_any p A B c d k w' (hP.fl.gr g) G.nfl hk G.fl.fit)
      rw [← (facs_eq G.fl.fit p.fl.length (Nat.le_refl _)).1] at HF
      rw [show ((k : Nat) : Int).toNat = k from rfl] at HL
      generalize facs flC p.wd p.ht p.fl (fun i => k.testBit i) p.fl.length = FS at *
      have HT := hide hm
      generalize fuM p = M at *
      clear hE h0 G hP HT
      go_enter Try.func22, Try.ntmps22
      go_wp2_with fail
      refine (HV.out _ (by repeat (first | with_reducible exact Gr.refl _ | with_reducible assumption | with_reducible refine Gr.alloc ?_ _ | with_reducible refine Gr.drewN ?_ _ | with_reducible refine Gr.drew ?_ | with_reducible refine Gr.setCell ?_ (by first | (dsimp only; omega) | (simp only [World.size_alloc]; omega) | (with_reducible refine Gr.size ?_; (repeat (first | with_reducible exact Gr.refl _ | with_reducible assumption | with_reducible refine Gr.alloc ?_ _ | with_reducible refine Gr.drewN ?_ _ | with_reducible refine Gr.drew ?_ | with_reducible refine Gr.trans ?_ (by with_reducible assumption))); done)) _ | with_reducible refine Gr.trans ?_ (by with_reducible assumption)))).mono ?_
      rintro e w1 ⟨rfl, g1⟩
      obtain ⟨X1, Y1, c1, f1⟩ := g1.use
      have z1 := g1.size
      simp only [World.size_alloc] at z1
      have l1 : w.heap.size < w1.heap.size := by omega
      have gw1 : Gr w w1 := (by repeat (first | with_reducible exact Gr.refl _ | with_reducible assumption | with_reducible refine Gr.alloc ?_ _ | with_reducible refine Gr.drewN ?_ _ | with_reducible refine Gr.drew ?_ | with_reducible refine Gr.setCell ?_ (by first | (dsimp only; omega) | (simp only [World.size_alloc]; omega) | (with_reducible refine Gr.size ?_; (repeat (first | with_reducible exact Gr.refl _ | with_reducible assumption | with_reducible refine Gr.alloc ?_ _ | with_reducible refine Gr.drewN ?_ _ | with_reducible refine Gr.drew ?_ | with_reducible refine Gr.trans ?_ (by with_reducible assumption))); done)) _ | with_reducible refine Gr.trans ?_ (by with_reducible assumption)))
      go_wp2_with fail
      refine (HM.out _).mono ?_
      rintro e w2 ⟨rfl, g2⟩
      obtain ⟨X2, Y2, c2, f2⟩ := g2.use
      have z2 := g2.size
      have l2 : w.heap.size < w2.heap.size := by omega
      have gw2 : Gr w w2 := gw1.trans g2
      go_wp2_with (first | (go_at_call 66; refine (rwithin_any _ _ _ _).mono ?_; rintro e w1 ⟨rfl, rfl⟩))
      refine (HF.out _ gw2).mono ?_
      rintro e w3 ⟨v3, rfl, o3, g3⟩
      obtain ⟨A3, d3, rfl⟩ := o3.slice
      have HO := hide (o3.weak (lo := w.heap.size) gw2.size)
      clear o3
      go_wp2_with fail
      go_ret2
      exact ⟨.slice A3 FS.length d3, rfl, by rw [HL.out]; exact HO.out, (by repeat (first | with_reducible exact Gr.refl _ | with_reducible assumption | with_reducible refine Gr.alloc ?_ _ | with_reducible refine Gr.drewN ?_ _ | with_reducible refine Gr.drew ?_ | with_reducible refine Gr.setCell ?_ (by first | (dsimp only; omega) | (simp only [World.size_alloc]; omega) | (with_reducible refine Gr.size ?_; (repeat (first | with_reducible exact Gr.refl _ | with_reducible assumption | with_reducible refine Gr.alloc ?_ _ | with_reducible refine Gr.drewN ?_ _ | with_reducible refine Gr.drew ?_ | with_reducible refine Gr.trans ?_ (by with_reducible assumption))); done)) _ | with_reducible refine Gr.trans ?_ (by with_reducible assumption)))⟩
    | false =>
      have hE := facE_arg h0 hm
      have HL := hide (facL_none (p := p) (m := m) (by rw [hE]; decide))
      rw [hE]
      generalize fuM p = M at *
      clear hE h0 G hP
      go_enter Try.func22, Try.ntmps22
      go_wp2_with fail
      refine (HV.out _ (by repeat (first | with_reducible exact Gr.refl _ | with_reducible assumption | with_reducible refine Gr.alloc ?_ _ | with_reducible refine Gr.drewN ?_ _ | with_reducible refine Gr.drew ?_ | with_reducible refine Gr.setCell ?_ (by first | (dsimp only; omega) | (simp only [World.size_alloc]; omega) | (with_reducible refine Gr.size ?_; (repeat (first | with_reducible exact Gr.refl _ | with_reducible assumption | with_reducible refine Gr.alloc ?_ _ | with_reducible refine Gr.drewN ?_ _ | with_reducible refine Gr.drew ?_ | with_reducible refine Gr.trans ?_ (by with_reducible assumption))); done)) _ | with_reducible refine Gr.trans ?_ (by with_reducible assumption)))).mono ?_
      rintro e w1 ⟨rfl, g1⟩
      obtain ⟨X1, Y1, c1, f1⟩ := g1.use
      have z1 := g1.size
      simp only [World.size_alloc] at z1
      have l1 : w.heap.size < w1.heap.size := by omega
      have gw1 : Gr w w1 := (by repeat (first | with_reducible exact Gr.refl _ | with_reducible assumption | with_reducible refine Gr.alloc ?_ _ | with_reducible refine Gr.drewN ?_ _ | with_reducible refine Gr.drew ?_ | with_reducible refine Gr.setCell ?_ (by first | (dsimp only; omega) | (simp only [World.size_alloc]; omega) | (with_reducible refine Gr.size ?_; (repeat (first | with_reducible exact Gr.refl _ | with_reducible assumption | with_reducible refine Gr.alloc ?_ _ | with_reducible refine Gr.drewN ?_ _ | with_reducible refine Gr.drew ?_ | with_reducible refine Gr.trans ?_ (by with_reducible assumption))); done)) _ | with_reducible refine Gr.trans ?_ (by with_reducible assumption)))
      go_wp2_with fail
      refine (HM.out _).mono ?_
      rintro e w2 ⟨rfl, g2⟩
      go_wp2_with (first | (go_at_call 66; refine (rwithin_any _ _ _ _).mono ?_; rintro e w1 ⟨rfl, rfl⟩))
      go_ret2
      exact ⟨.slice none 0 0, rfl, by rw [HL.out]; exact own_nil _ _ _ _ _, (by repeat (first | with_reducible exact Gr.refl _ | with_reducible assumption | with_reducible refine Gr.alloc ?_ _ | with_reducible refine Gr.drewN ?_ _ | with_reducible refine Gr.drew ?_ | with_reducible refine Gr.setCell ?_ (by first | (dsimp only; omega) | (simp only [World.size_alloc]; omega) | (with_reducible refine Gr.size ?_; (repeat (first | with_reducible exact Gr.refl _ | with_reducible assumption | with_reducible refine Gr.alloc ?_ _ | with_reducible refine Gr.drewN ?_ _ | with_reducible refine Gr.drew ?_ | with_reducible refine Gr.trans ?_ (by with_reducible assumption))); done)) _ | with_reducible refine Gr.trans ?_ (by with_reducible assumption)))⟩
  · have hE := facE_bad (m := m) h0
    have HL := hide (facL_none (p := p) (m := m) (by rw [hE]; exact h0))
    rw [hE]
    have h0' : (valE p != 0) = true := by simpa using h0
    generalize valE p = x at *
    clear hE h0 hP
    go_enter Try.func22, Try.ntmps22
    go_wp2_with fail
    refine (HV.out _ (by repeat (first | with_reducible exact Gr.refl _ | with_reducible assumption | with_reducible refine Gr.alloc ?_ _ | with_reducible refine Gr.drewN ?_ _ | with_reducible refine Gr.drew ?_ | with_reducible refine Gr.setCell ?_ (by first | (dsimp only; omega) | (simp only [World.size_alloc]; omega) | (with_reducible refine Gr.size ?_; (repeat (first | with_reducible exact Gr.refl _ | with_reducible assumption | with_reducible refine Gr.alloc ?_ _ | with_reducible refine Gr.drewN ?_ _ | with_reducible refine Gr.drew ?_ | with_reducible refine Gr.trans ?_ (by with_reducible assumption))); done)) _ | with_reducible refine Gr.trans ?_ (by with_reducible assumption)))).mono ?_
    rintro e w1 ⟨rfl, g1⟩
    go_wp2_with fail
    go_ret2
    exact ⟨.slice none 0 0, rfl, by rw [HL.out]; exact own_nil _ _ _ _ _, (by repeat (first | with_reducible exact Gr.refl _ | with_reducible assumption | with_reducible refine Gr.alloc ?_ _ | with_reducible refine Gr.drewN ?_ _ | with_reducible refine Gr.drew ?_ | with_reducible refine Gr.setCell ?_ (by first | (dsimp only; omega) | (simp only [World.size_alloc]; omega) | (with_reducible refine Gr.size ?_; (repeat (first | with_reducible exact Gr.refl _ | with_reducible assumption | with_reducible refine Gr.alloc ?_ _ | with_reducible refine Gr.drewN ?_ _ | with_reducible refine Gr.drew ?_ | with_reducible refine Gr.trans ?_ (by with_reducible assumption))); done)) _ | with_reducible refine Gr.trans ?_ (by with_reducible assumption)))⟩
theorem sFce : Try.prog.underlying 48 = some (.struct (Try.prog.fieldsOf 48)) := by kernel_rfl
theorem pFce : Try.prog.stoodInHeld 48 = false := by kernel_rfl
theorem gFce : Try.prog.eqGuardType Try.prog.depth 48 = false := by kernel_rfl
set_option maxHeartbeats 1000000 in
theorem eqFce (f : Fc) (w : World) : (Op.equalIn 10000 48 (fv f) (fv f)).run Try.prog w = .ok true w := by
  have e0 : ∀ (a b c : Int) (w : World), (Op.equalIn 9999 46 (vc a b c) (vc a b c)).run Try.prog w = .ok true w := fun a b c w => by rw [← veB_self a b c]; exact eqInVec 9997 a b c a b c w
  have u3 := Try.underlying3
  have a3 := Try.isAgg3
  have z3 := Try.sizeOf3
  have a4 := Try.isAgg46
  have z4 := Try.sizeOf46
  rw [run_equalIn_agg w 9999 48 _ _ sFce pFce]
  simp only [Program.fieldsOf, Try.underlying48]
  go_simp
set_option maxRecDepth 100000 in
set_option maxHeartbeats 2000000 in
theorem sameFaces_any (A B : Option Addr) (c d : Nat) (l : List Fc) (w : World) (hl : SlC w A c l) (hm : SlC w B d l) :
    Calls Try.prog 23 #[.slice A l.length c, .slice B l.length d] w fun e w' => e = .returned (.bool true) ∧ Gr w w' := by
  have n1 := hl.len
  have HLl := hide hl
  have HLm := hide hm
  have GP := gFce
  clear hl hm
  go_enter Try.func23, Try.ntmps23
  go_wp2
  go_loopw [5] (fun i wr => ∃ k : Nat, k ≤ l.length ∧ i = iv k ∧ Gr w wr) (fun i _ => l.length - (intOf i).toNat)
  case atStart => exact ⟨0, by omega, rfl, Gr.refl _⟩
  case round =>
    obtain ⟨k, hk, rfl, g⟩ := hrel
    by_cases hkl : k < l.length
    · obtain ⟨a, ha⟩ : ∃ a, l[k]? = some a := ⟨_, List.getElem?_eq_getElem hkl⟩
      obtain ⟨p, o, rfl, x0, x1, x2, x3, x4, x5, x6, x7, x8, x9, x10⟩ := (HLl.out.gr g).rd.fc ha
      obtain ⟨q, o', rfl, y0, y1, y2, y3, y4, y5, y6, y7, y8, y9, y10⟩ := (HLm.out.gr g).rd.fc ha
      have hp : p < wr.heap.size := cell_lt (by rw [x0]; rfl)
      have hqw : q < wr.heap.size := cell_lt (by rw [y0]; rfl)
      have NEQ := fun w => eqFce a w
      have hk0 : (0 : Int) ≤ (k : Int) := by omega
      have hk1 : (k : Int) < (l.length : Int) := by omega
      clear ha
      go_upto_region 6 with fail
      have GC := @GrW.cell
      refine wp_region_grw _ (by kernel_rfl) (by kernel_rfl) (Gr.refl _) ?_
      repeat (go_big_quiet_step ((first | fail)))
      refine wpQuiet_nil ?_
      intro wq hwq
      obtain ⟨gq, hwq'⟩ := hwq
      subst hwq'
      clear GC
      have gq1 := gq.gr
      generalize gq.w = wq at gq1 ⊢
      obtain ⟨Xq, Yq, cq, fq⟩ := gq1.use
      have sq := gq1.size
      (try simp only [World.size_alloc, World.size_setCell, World.heap_drewN] at sq)
      go_wp2
      go_roundw
      case rel => exact ⟨k + 1, by omega, by go_num, (by repeat (first | with_reducible exact Gr.refl _ | with_reducible assumption | with_reducible refine Gr.alloc ?_ _ | with_reducible refine Gr.drewN ?_ _ | with_reducible refine Gr.drew ?_ | with_reducible refine Gr.setCell ?_ (by first | (dsimp only; omega) | (simp only [World.size_alloc]; omega) | (with_reducible refine Gr.size ?_; (repeat (first | with_reducible exact Gr.refl _ | with_reducible assumption | with_reducible refine Gr.alloc ?_ _ | with_reducible refine Gr.drewN ?_ _ | with_reducible refine Gr.drew ?_ | with_reducible refine Gr.trans ?_ (by with_reducible assumption))); done)) _ | with_reducible refine Gr.trans ?_ (by with_reducible assumption)))⟩
      case measure => simp only [intOf]; omega
    · obtain rfl : k = l.length := by omega
      go_wp2
      go_ret
      exact ⟨rfl, (by repeat (first | with_reducible exact Gr.refl _ | with_reducible assumption | with_reducible refine Gr.alloc ?_ _ | with_reducible refine Gr.drewN ?_ _ | with_reducible refine Gr.drew ?_ | with_reducible refine Gr.setCell ?_ (by first | (dsimp only; omega) | (simp only [World.size_alloc]; omega) | (with_reducible refine Gr.size ?_; (repeat (first | with_reducible exact Gr.refl _ | with_reducible assumption | with_reducible refine Gr.alloc ?_ _ | with_reducible refine Gr.drewN ?_ _ | with_reducible refine Gr.drew ?_ | with_reducible refine Gr.trans ?_ (by with_reducible assumption))); done)) _ | with_reducible refine Gr.trans ?_ (by with_reducible assumption)))⟩
theorem slC_own {w : World} {base : Nat} {A : Option Addr} {n d : Nat} {xs : List Fc} (h : OwnL w base 48 11 fcL (.slice A n d) xs) (hl : xs.length ≤ 1000) : n = xs.length ∧ SlC w A d xs := by
  obtain ⟨h0, h1, h2, h3⟩ := OwnL.rdC h
  exact ⟨h0, h1, h2, by unfold maxLen at h3; omega, hl⟩
set_option maxRecDepth 100000 in
set_option maxHeartbeats 4000000 in
theorem faces_walk (p : Pa) (A B : Option Addr) (c d : Nat) (m : Int) (w : World) (hX : PaX w p A c B d) :
    Calls Try.prog 4 #[pav p A c B d, iv m] w fun x w' => x = .returned (.bool true) ∧ Gr w w' := by
  have HBG := hide (fun (w' : World) (g : Gr w w') => big_any p A B c d w' (hX.gr g))
  cases hb : bgB p with
  | true =>
    rw [hb] at HBG
    clear hb hX
    go_enter Try.func4, Try.ntmps4
    go_wp2_with fail
    refine (HBG.out _ (by repeat (first | with_reducible exact Gr.refl _ | with_reducible assumption | with_reducible refine Gr.alloc ?_ _ | with_reducible refine Gr.drewN ?_ _ | with_reducible refine Gr.drew ?_ | with_reducible refine Gr.setCell ?_ (by first | (dsimp only; omega) | (simp only [World.size_alloc]; omega) | (with_reducible refine Gr.size ?_; (repeat (first | with_reducible exact Gr.refl _ | with_reducible assumption | with_reducible refine Gr.alloc ?_ _ | with_reducible refine Gr.drewN ?_ _ | with_reducible refine Gr.drew ?_ | with_reducible refine Gr.trans ?_ (by with_reducible assumption))); done)) _ | with_reducible refine Gr.trans ?_ (by with_reducible assumption)))).mono ?_
    rintro e w1 ⟨rfl, g1⟩
    go_wp2_with (first | (go_at_call 16; refine (known_any _).mono ?_; rintro e w1 ⟨rfl, g1⟩; obtain ⟨X1, Y1, c1, f1⟩ := g1.use; have z1 := g1.size; (try simp only [World.size_alloc, World.size_setCell, World.heap_drewN, Nat.add_one_le_iff] at z1); (try have l0 : w.heap.size < w1.heap.size := by omega); (try have l1 : w.heap.size + 1 < w1.heap.size := by omega); (try have l2 : w.heap.size + 1 + 1 < w1.heap.size := by omega)))
    go_ret
    exact ⟨rfl, (by repeat (first | with_reducible exact Gr.refl _ | with_reducible assumption | with_reducible refine Gr.alloc ?_ _ | with_reducible refine Gr.drewN ?_ _ | with_reducible refine Gr.drew ?_ | with_reducible refine Gr.setCell ?_ (by first | (dsimp only; omega) | (simp only [World.size_alloc]; omega) | (with_reducible refine Gr.size ?_; (repeat (first | with_reducible exact Gr.refl _ | with_reducible assumption | with_reducible refine Gr.alloc ?_ _ | with_reducible refine Gr.drewN ?_ _ | with_reducible refine Gr.drew ?_ | with_reducible refine Gr.trans ?_ (by with_reducible assumption))); done)) _ | with_reducible refine Gr.trans ?_ (by with_reducible assumption)))⟩
  | false =>
    have hP := hX.small hb
    rw [hb] at HBG
    have HF1 := hide (fun (w' : World) (g : Gr w w') => Faces_any p A B c d m w' (hP.gr g))
    have HF2 := hide (fun (w' : World) (g : Gr w w') => rFaces_any p A B c d m w' (hP.gr g))
    have hlen := facL_len (p := p) (m := m)
    generalize facL p m = FS at *
    generalize facE p m = E at *
    clear hb hX hP
    go_enter Try.func4, Try.ntmps4
    go_wp2_with fail
    refine (HBG.out _ (by repeat (first | with_reducible exact Gr.refl _ | with_reducible assumption | with_reducible refine Gr.alloc ?_ _ | with_reducible refine Gr.drewN ?_ _ | with_reducible refine Gr.drew ?_ | with_reducible refine Gr.setCell ?_ (by first | (dsimp only; omega) | (simp only [World.size_alloc]; omega) | (with_reducible refine Gr.size ?_; (repeat (first | with_reducible exact Gr.refl _ | with_reducible assumption | with_reducible refine Gr.alloc ?_ _ | with_reducible refine Gr.drewN ?_ _ | with_reducible refine Gr.drew ?_ | with_reducible refine Gr.trans ?_ (by with_reducible assumption))); done)) _ | with_reducible refine Gr.trans ?_ (by with_reducible assumption)))).mono ?_
    rintro e w1 ⟨rfl, g1⟩
    obtain ⟨X1, Y1, c1, f1⟩ := g1.use
    have z1 := g1.size
    simp only [World.size_alloc] at z1
    have l1 : w.heap.size < w1.heap.size := by omega
    have gw1 : Gr w w1 := (by repeat (first | with_reducible exact Gr.refl _ | with_reducible assumption | with_reducible refine Gr.alloc ?_ _ | with_reducible refine Gr.drewN ?_ _ | with_reducible refine Gr.drew ?_ | with_reducible refine Gr.setCell ?_ (by first | (dsimp only; omega) | (simp only [World.size_alloc]; omega) | (with_reducible refine Gr.size ?_; (repeat (first | with_reducible exact Gr.refl _ | with_reducible assumption | with_reducible refine Gr.alloc ?_ _ | with_reducible refine Gr.drewN ?_ _ | with_reducible refine Gr.drew ?_ | with_reducible refine Gr.trans ?_ (by with_reducible assumption))); done)) _ | with_reducible refine Gr.trans ?_ (by with_reducible assumption)))
    go_wp2_with fail
    refine (HF1.out _ gw1).mono ?_
    rintro e w2 ⟨v2, rfl, o2, g2⟩
    obtain ⟨A2, d2, rfl⟩ := o2.slice
    have z2 := g2.size
    have l2 : w.heap.size < w2.heap.size := by omega
    have gw2 : Gr w w2 := gw1.trans g2
    obtain ⟨X2, Y2, c2, f2⟩ := g2.use
    have HS1 := hide (slC_own o2 (by omega)).2
    clear o2
    go_wp2_with fail
    refine (HF2.out _ gw2).mono ?_
    rintro e w3 ⟨v3, rfl, o3, g3⟩
    obtain ⟨A3, d3, rfl⟩ := o3.slice
    obtain ⟨X3, Y3, c3, f3⟩ := g3.use
    have HS2 := hide (sameFaces_any A2 A3 d2 d3 FS w3 (HS1.out.gr g3) (slC_own o3 (by omega)).2)
    clear o3
    go_wp2_with fail
    refine HS2.out.mono ?_
    rintro e w4 ⟨rfl, g4⟩
    go_wp2_with (first | (go_at_call 16; refine (known_any _).mono ?_; rintro e w1 ⟨rfl, g1⟩; obtain ⟨X1, Y1, c1, f1⟩ := g1.use))
    go_ret
    exact ⟨rfl, (by repeat (first | with_reducible exact Gr.refl _ | with_reducible assumption | with_reducible refine Gr.alloc ?_ _ | with_reducible refine Gr.drewN ?_ _ | with_reducible refine Gr.drew ?_ | with_reducible refine Gr.setCell ?_ (by first | (dsimp only; omega) | (simp only [World.size_alloc]; omega) | (with_reducible refine Gr.size ?_; (repeat (first | with_reducible exact Gr.refl _ | with_reducible assumption | with_reducible refine Gr.alloc ?_ _ | with_reducible refine Gr.drewN ?_ _ | with_reducible refine Gr.drew ?_ | with_reducible refine Gr.trans ?_ (by with_reducible assumption))); done)) _ | with_reducible refine Gr.trans ?_ (by with_reducible assumption)))⟩
end Go.Proofs.Ytpmomgfepkegnaa
