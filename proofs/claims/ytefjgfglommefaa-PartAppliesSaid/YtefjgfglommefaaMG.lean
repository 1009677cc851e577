/-
  Edits: the reference's Copy, and that the two rows lie apart.
  Edits: the reference's remove.
  Edits: the reference's edited.
  Edits: Apply of the reference.
  PartApplies: the law.
  PartApplies, proved: for every part and edit, Apply gives what the document says, and a part of its own. No condition.
-/
import Derived.Test.YtefjgfglommefaaME
set_option linter.unusedVariables false
set_option linter.unusedSimpArgs false
namespace Go.Proofs.Ytefjgfglommefaa
set_option linter.unusedVariables false
set_option linter.unusedSimpArgs false
open Go Go.ChangeShapes Go.WideShapes Go.ChangeAt Go.RowKit Go.Deep

set_option maxRecDepth 100000 in
set_option maxHeartbeats 4000000 in
theorem copyD_any (p : Pa) (A B : Option Addr) (c d : Nat) (w : World) (hP : PaW w p A c B d) :
    Calls Try.prog 7 #[pav p A c B d] w fun e w' => ∃ A' c' B' d', e = .returned (pav p A' c' B' d') ∧ OwnL w' w.heap.size 27 7 flL (.slice A' p.fl.length c') p.fl ∧ OwnL w' w.heap.size 29 6 hoL (.slice B' p.ho.length d') p.ho ∧ DJ (.slice A' p.fl.length c') (.slice B' p.ho.length d') ∧ Gr w w' := by
  obtain ⟨i0, hi0, hz0, hz1, hz2⟩ := info_parts infoFl
  obtain ⟨i1, hi1, hy0, hy1, hy2⟩ := info_parts infoHo
  have n1 := hP.fl.len
  have n2 := hP.ho.len
  have HP := hide hP
  clear hP
  go_enter Try.func7, Try.ntmps7
  go_upto_region 3 with fail
  have g0 : Gr ((w.alloc (.cells #[.string p.nm, .string p.mt, iv p.ga, iv p.gr, iv p.wd, iv p.ht, .slice A p.fl.length c, .slice B p.ho.length d] 25)).alloc (.cells #[.string ⟨#[]⟩, .string ⟨#[]⟩, iv 0, iv 0, iv 0, iv 0, .slice none 0 0, .slice none 0 0] 25)) (((w.alloc (.cells #[.string p.nm, .string p.mt, iv p.ga, iv p.gr, iv p.wd, iv p.ht, .slice A p.fl.length c, .slice B p.ho.length d] 25)).alloc (.cells #[.string ⟨#[]⟩, .string ⟨#[]⟩, iv 0, iv 0, iv 0, iv 0, .slice none 0 0, .slice none 0 0] 25)).alloc (.cells (paZ p none none 0 0 0 0) 25)) := Gr.alloc (Gr.refl _) _
  have m0 := Made.new ((w.alloc (.cells #[.string p.nm, .string p.mt, iv p.ga, iv p.gr, iv p.wd, iv p.ht, .slice A p.fl.length c, .slice B p.ho.length d] 25)).alloc (.cells #[.string ⟨#[]⟩, .string ⟨#[]⟩, iv 0, iv 0, iv 0, iv 0, .slice none 0 0, .slice none 0 0] 25)) (paZ p none none 0 0 0 0) 25
  rw [World.size_alloc, World.size_alloc] at m0
  go_wp2
  generalize hwS : World.alloc (World.alloc (World.alloc _ _) _) _ = wS at *
  clear hwS
  go_loopw [4] (fun i wr => ∃ (k : Nat) (A' : Option Addr) (d' : Nat), k ≤ p.fl.length ∧ i = iv k ∧ Gr ((w.alloc (.cells #[.string p.nm, .string p.mt, iv p.ga, iv p.gr, iv p.wd, iv p.ht, .slice A p.fl.length c, .slice B p.ho.length d] 25)).alloc (.cells #[.string ⟨#[]⟩, .string ⟨#[]⟩, iv 0, iv 0, iv 0, iv 0, .slice none 0 0, .slice none 0 0] 25)) wr ∧ Hid (OwnL wr (w.heap.size + 3) 27 7 flL (.slice A' k d') (p.fl.take k)) ∧ Hid (Made wr (w.heap.size + 1 + 1) (paZ p A' none k d' 0 0))) (fun i _ => p.fl.length - (intOf i).toNat)
  case atStart => exact ⟨0, none, 0, by omega, rfl, g0, by rw [List.take_zero]; exact own_nil _ _ _ _ _, m0⟩
  case round =>
    obtain ⟨k, A1, d1, hk, rfl, g, HO, HM⟩ := hrel
    have gW : Gr w wr := (by repeat (first | with_reducible exact Gr.refl _ | with_reducible assumption | with_reducible refine Gr.alloc ?_ _ | with_reducible refine Gr.drewN ?_ _ | with_reducible refine Gr.drew ?_ | with_reducible refine Gr.setCell ?_ (by first | (dsimp only; omega) | (simp only [World.size_alloc]; omega) | (with_reducible refine Gr.size ?_; (repeat (first | with_reducible exact Gr.refl _ | with_reducible assumption | with_reducible refine Gr.alloc ?_ _ | with_reducible refine Gr.drewN ?_ _ | with_reducible refine Gr.drew ?_ | with_reducible refine Gr.trans ?_ (by with_reducible assumption))); done)) _ | with_reducible refine Gr.trans ?_ (by with_reducible assumption)))
    obtain ⟨Xr, Yr, cr, fr⟩ := g.use
    obtain ⟨M0, M1, M2⟩ := id HM.out
    have zr := M0
    have l0 : w.heap.size < wr.heap.size := by omega
    have lb : w.heap.size + 3 ≤ wr.heap.size := by omega
    by_cases hkl : k < p.fl.length
    · obtain ⟨f, hf⟩ : ∃ f, p.fl[k]? = some f := ⟨_, List.getElem?_eq_getElem hkl⟩
      obtain ⟨b, off, rfl, x0, x1, x2, x3, x4, x5, x6⟩ := HP.out.fl.rd.fl hf
      have hb : b < w.heap.size := cell_lt (by rw [x0]; rfl)
      have hbr : b < wr.heap.size := by omega
      have hk0 : (0 : Int) ≤ (k : Int) := by omega
      have hk1 : (k : Int) < (p.fl.length : Int) := by omega
      have hlen : (p.fl.take k).length = k := by rw [List.length_take]; omega
      have FIN := hide (show ∀ (w8 : World) (gg cap1 : Nat), w8.ownsRow (w.heap.size + 3) 27 7 (.slice (some ⟨gg, 0, none⟩) (k + 1) cap1) (k + 1) ((p.fl.take k).flatMap flL ++ flL f) → OwnL w8 (w.heap.size + 3) 27 7 flL (.slice (some ⟨gg, 0, none⟩) (k + 1) cap1) (p.fl.take (k + 1)) by
        intro w8 gg cap1 h
        unfold OwnL
        rw [take_snoc hf, fm_snoc, List.length_append, hlen]
        exact h)
      have HOW := hide (show World.ownsRow wr (w.heap.size + 3) 27 7 (.slice A1 k d1) k ((p.fl.take k).flatMap flL) by
        have := HO.out
        unfold OwnL at this
        rwa [hlen] at this)
      clear hf hlen HO
      generalize (p.fl.take k).flatMap flL = FL at *
      go_upto_region 6 with fail
      go_region_law (first
        | (refine step_append_lies _ (by rfl) _ _ _ (by rfl) (w.heap.size + 3) 27 i0 _ 7 64 Try.underlying22 hi0 hz0 hz1 hz2 rfl (by omega) _ k FL (by rfl) (own_gr HOW.out (by repeat (first | with_reducible exact Gr.refl _ | with_reducible assumption | with_reducible refine Gr.alloc ?_ _ | with_reducible refine Gr.drewN ?_ _ | with_reducible refine Gr.drew ?_ | with_reducible refine Gr.setCell ?_ (by first | (dsimp only; omega) | (simp only [World.size_alloc]; omega) | (with_reducible refine Gr.size ?_; (repeat (first | with_reducible exact Gr.refl _ | with_reducible assumption | with_reducible refine Gr.alloc ?_ _ | with_reducible refine Gr.drewN ?_ _ | with_reducible refine Gr.drew ?_ | with_reducible refine Gr.trans ?_ (by with_reducible assumption))); done)) _ | with_reducible refine Gr.trans ?_ (by with_reducible assumption)))) _ 1 1 (flL f) (by rfl) (by rfl) (rd1_fl _ f) (one_fl _) (by omega) (by unfold maxLen; omega) (by omega) (Nat.le_trans lb (Gr.size (by repeat (first | with_reducible exact Gr.refl _ | with_reducible assumption | with_reducible refine Gr.alloc ?_ _ | with_reducible refine Gr.drewN ?_ _ | with_reducible refine Gr.drew ?_ | with_reducible refine Gr.setCell ?_ (by first | (dsimp only; omega) | (simp only [World.size_alloc]; omega) | (with_reducible refine Gr.size ?_; (repeat (first | with_reducible exact Gr.refl _ | with_reducible assumption | with_reducible refine Gr.alloc ?_ _ | with_reducible refine Gr.drewN ?_ _ | with_reducible refine Gr.drew ?_ | with_reducible refine Gr.trans ?_ (by with_reducible assumption))); done)) _ | with_reducible refine Gr.trans ?_ (by with_reducible assumption))))) _ rfl ?_; intro gg cap1 w8 hown8 hgrow hat hlt; (have m8 := Made.grown (HM.out.gr (by repeat (first | with_reducible exact Gr.refl _ | with_reducible assumption | with_reducible refine Gr.alloc ?_ _ | with_reducible refine Gr.drewN ?_ _ | with_reducible refine Gr.drew ?_ | with_reducible refine Gr.setCell ?_ (by first | (dsimp only; omega) | (simp only [World.size_alloc]; omega) | (with_reducible refine Gr.size ?_; (repeat (first | with_reducible exact Gr.refl _ | with_reducible assumption | with_reducible refine Gr.alloc ?_ _ | with_reducible refine Gr.drewN ?_ _ | with_reducible refine Gr.drew ?_ | with_reducible refine Gr.trans ?_ (by with_reducible assumption))); done)) _ | with_reducible refine Gr.trans ?_ (by with_reducible assumption)))) hgrow (fun k hk => (World.ownsRow.lt HOW.out k hk).1) (by omega)); obtain ⟨m80, m81, m82⟩ := id m8))
      all_goals
        have ho8 := hide (FIN.out w8 gg cap1 hown8)
        have g8 := Gr.grown (show Gr _ _ from g.trans (by repeat (first | with_reducible exact Gr.refl _ | with_reducible assumption | with_reducible refine Gr.alloc ?_ _ | with_reducible refine Gr.drewN ?_ _ | with_reducible refine Gr.drew ?_ | with_reducible refine Gr.setCell ?_ (by first | (dsimp only; omega) | (simp only [World.size_alloc]; omega) | (with_reducible refine Gr.size ?_; (repeat (first | with_reducible exact Gr.refl _ | with_reducible assumption | with_reducible refine Gr.alloc ?_ _ | with_reducible refine Gr.drewN ?_ _ | with_reducible refine Gr.drew ?_ | with_reducible refine Gr.trans ?_ (by with_reducible assumption))); done)) _ | with_reducible refine Gr.trans ?_ (by with_reducible assumption)))) hgrow (fun k hk => by have := (World.ownsRow.lt HOW.out k hk).1; simp only [World.size_alloc]; omega)
        have o9 := hide (show OwnL (w8.setCell ⟨w.heap.size + 1 + 1, 6, none⟩ (.slice (some ⟨gg, 0, none⟩) (k + 1) cap1)) (w.heap.size + 3) 27 7 flL (.slice (some ⟨gg, 0, none⟩) (k + 1) cap1) (p.fl.take (k + 1)) from own_far ho8.out (by dsimp only; omega) _)
        have m9 := hide (show Made (w8.setCell ⟨w.heap.size + 1 + 1, 6, none⟩ (.slice (some ⟨gg, 0, none⟩) (k + 1) cap1)) (w.heap.size + 1 + 1) (paZ p (some ⟨gg, 0, none⟩) none (k + 1) cap1 0 0) from Made.setAt m8 6 (by simp) _ rfl)
        clear hown8 hgrow hat hlt FIN HOW m8 m80 m81 m82 HM M0 M1 M2
        go_wp2
        go_roundw
        case rel => exact ⟨k + 1, _, _, by omega, by go_num, Gr.setCell g8 (by simp only [World.size_alloc]; omega) _, o9.out, m9.out⟩
        case measure => simp only [intOf]; omega
    · obtain rfl : k = p.fl.length := by omega
      rw [List.take_length] at HO
      have HB := hide (fun k (h : (Value.slice A1 p.fl.length d1).ownBlock = some k) => (World.ownsRow.lt (show World.ownsRow wr (w.heap.size + 3) 27 7 (.slice A1 p.fl.length d1) p.fl.length (p.fl.flatMap flL) from HO.out) k h).2)
      go_wp2
      clear cr fr M0 M1 M2
      obtain ⟨wT, rfl⟩ : ∃ wT, wT = wr := ⟨_, rfl⟩
      go_loopw [5] (fun i wr => ∃ (k : Nat) (A' : Option Addr) (d' : Nat), k ≤ p.ho.length ∧ i = iv k ∧ Gr ((w.alloc (.cells #[.string p.nm, .string p.mt, iv p.ga, iv p.gr, iv p.wd, iv p.ht, .slice A p.fl.length c, .slice B p.ho.length d] 25)).alloc (.cells #[.string ⟨#[]⟩, .string ⟨#[]⟩, iv 0, iv 0, iv 0, iv 0, .slice none 0 0, .slice none 0 0] 25)) wr ∧ wT.heap.size ≤ wr.heap.size ∧ Hid (OwnL wr (w.heap.size + 3) 27 7 flL (.slice A1 p.fl.length d1) p.fl) ∧ Hid (OwnL wr wT.heap.size 29 6 hoL (.slice A' k d') (p.ho.take k)) ∧ Hid (Made wr (w.heap.size + 1 + 1) (paZ p A1 A' p.fl.length d1 k d'))) (fun i _ => p.ho.length - (intOf i).toNat)
      case atStart => exact ⟨0, none, 0, by omega, rfl, g, Nat.le_refl _, HO.out, by rw [List.take_zero]; exact own_nil _ _ _ _ _, HM.out⟩
      case round =>
        clear HO HM g gW
        obtain ⟨k, A2, d2, hk, rfl, g, lT, HO, HO2, HM⟩ := hrel
        have gW : Gr w wr := (by repeat (first | with_reducible exact Gr.refl _ | with_reducible assumption | with_reducible refine Gr.alloc ?_ _ | with_reducible refine Gr.drewN ?_ _ | with_reducible refine Gr.drew ?_ | with_reducible refine Gr.setCell ?_ (by first | (dsimp only; omega) | (simp only [World.size_alloc]; omega) | (with_reducible refine Gr.size ?_; (repeat (first | with_reducible exact Gr.refl _ | with_reducible assumption | with_reducible refine Gr.alloc ?_ _ | with_reducible refine Gr.drewN ?_ _ | with_reducible refine Gr.drew ?_ | with_reducible refine Gr.trans ?_ (by with_reducible assumption))); done)) _ | with_reducible refine Gr.trans ?_ (by with_reducible assumption)))
        obtain ⟨Xr, Yr, cr, fr⟩ := g.use
        obtain ⟨M0, M1, M2⟩ := id HM.out
        have lb2 : w.heap.size + 3 ≤ wT.heap.size := lb
        by_cases hkl : k < p.ho.length
        · obtain ⟨f, hf⟩ : ∃ f, p.ho[k]? = some f := ⟨_, List.getElem?_eq_getElem hkl⟩
          obtain ⟨b, off, rfl, x0, x1, x2, x3, x4, x5⟩ := HP.out.ho.rd.ho hf
          have hb : b < w.heap.size := cell_lt (by rw [x0]; rfl)
          have hbr : b < wr.heap.size := by omega
          have hk0 : (0 : Int) ≤ (k : Int) := by omega
          have hk1 : (k : Int) < (p.ho.length : Int) := by omega
          have hlen : (p.ho.take k).length = k := by rw [List.length_take]; omega
          have FIN := hide (show ∀ (w8 : World) (gg cap1 : Nat), w8.ownsRow wT.heap.size 29 6 (.slice (some ⟨gg, 0, none⟩) (k + 1) cap1) (k + 1) ((p.ho.take k).flatMap hoL ++ hoL f) → OwnL w8 wT.heap.size 29 6 hoL (.slice (some ⟨gg, 0, none⟩) (k + 1) cap1) (p.ho.take (k + 1)) by
            intro w8 gg cap1 h
            unfold OwnL
            rw [take_snoc hf, fm_snoc, List.length_append, hlen]
            exact h)
          have HOW := hide (show World.ownsRow wr wT.heap.size 29 6 (.slice A2 k d2) k ((p.ho.take k).flatMap hoL) by
            have := HO2.out
            unfold OwnL at this
            rwa [hlen] at this)
          clear hf hlen HO2
          generalize (p.ho.take k).flatMap hoL = FL at *
          go_upto_region 10 with fail
          go_region_law (first
            | (refine step_append_lies _ (by rfl) _ _ _ (by rfl) wT.heap.size 29 i1 _ 6 48 Try.underlying23 hi1 hy0 hy1 hy2 rfl (by omega) _ k FL (by rfl) (own_gr HOW.out (by repeat (first | with_reducible exact Gr.refl _ | with_reducible assumption | with_reducible refine Gr.alloc ?_ _ | with_reducible refine Gr.drewN ?_ _ | with_reducible refine Gr.drew ?_ | with_reducible refine Gr.setCell ?_ (by first | (dsimp only; omega) | (simp only [World.size_alloc]; omega) | (with_reducible refine Gr.size ?_; (repeat (first | with_reducible exact Gr.refl _ | with_reducible assumption | with_reducible refine Gr.alloc ?_ _ | with_reducible refine Gr.drewN ?_ _ | with_reducible refine Gr.drew ?_ | with_reducible refine Gr.trans ?_ (by with_reducible assumption))); done)) _ | with_reducible refine Gr.trans ?_ (by with_reducible assumption)))) _ 1 1 (hoL f) (by rfl) (by rfl) (rd1_ho _ f) (one_ho _) (by omega) (by unfold maxLen; omega) (by omega) (Nat.le_trans lT (Gr.size (by repeat (first | with_reducible exact Gr.refl _ | with_reducible assumption | with_reducible refine Gr.alloc ?_ _ | with_reducible refine Gr.drewN ?_ _ | with_reducible refine Gr.drew ?_ | with_reducible refine Gr.setCell ?_ (by first | (dsimp only; omega) | (simp only [World.size_alloc]; omega) | (with_reducible refine Gr.size ?_; (repeat (first | with_reducible exact Gr.refl _ | with_reducible assumption | with_reducible refine Gr.alloc ?_ _ | with_reducible refine Gr.drewN ?_ _ | with_reducible refine Gr.drew ?_ | with_reducible refine Gr.trans ?_ (by with_reducible assumption))); done)) _ | with_reducible refine Gr.trans ?_ (by with_reducible assumption))))) _ rfl ?_; intro gg cap1 w8 hown8 hgrow hat hlt; (have m8 := Made.grown (HM.out.gr (by repeat (first | with_reducible exact Gr.refl _ | with_reducible assumption | with_reducible refine Gr.alloc ?_ _ | with_reducible refine Gr.drewN ?_ _ | with_reducible refine Gr.drew ?_ | with_reducible refine Gr.setCell ?_ (by first | (dsimp only; omega) | (simp only [World.size_alloc]; omega) | (with_reducible refine Gr.size ?_; (repeat (first | with_reducible exact Gr.refl _ | with_reducible assumption | with_reducible refine Gr.alloc ?_ _ | with_reducible refine Gr.drewN ?_ _ | with_reducible refine Gr.drew ?_ | with_reducible refine Gr.trans ?_ (by with_reducible assumption))); done)) _ | with_reducible refine Gr.trans ?_ (by with_reducible assumption)))) hgrow (fun k hk => (World.ownsRow.lt HOW.out k hk).1) (by omega)); obtain ⟨m80, m81, m82⟩ := id m8; (have q8 := hide (own_grown (own_gr HO.out (show Gr wr _ from (by repeat (first | with_reducible exact Gr.refl _ | with_reducible assumption | with_reducible refine Gr.alloc ?_ _ | with_reducible refine Gr.drewN ?_ _ | with_reducible refine Gr.drew ?_ | with_reducible refine Gr.setCell ?_ (by first | (dsimp only; omega) | (simp only [World.size_alloc]; omega) | (with_reducible refine Gr.size ?_; (repeat (first | with_reducible exact Gr.refl _ | with_reducible assumption | with_reducible refine Gr.alloc ?_ _ | with_reducible refine Gr.drewN ?_ _ | with_reducible refine Gr.drew ?_ | with_reducible refine Gr.trans ?_ (by with_reducible assumption))); done)) _ | with_reducible refine Gr.trans ?_ (by with_reducible assumption))))) hgrow (fun k hk => (World.ownsRow.lt HOW.out k hk).1) HB.out))))
          all_goals
            have ho8 := hide (FIN.out w8 gg cap1 hown8)
            have g8 := Gr.grown (show Gr _ _ from g.trans (by repeat (first | with_reducible exact Gr.refl _ | with_reducible assumption | with_reducible refine Gr.alloc ?_ _ | with_reducible refine Gr.drewN ?_ _ | with_reducible refine Gr.drew ?_ | with_reducible refine Gr.setCell ?_ (by first | (dsimp only; omega) | (simp only [World.size_alloc]; omega) | (with_reducible refine Gr.size ?_; (repeat (first | with_reducible exact Gr.refl _ | with_reducible assumption | with_reducible refine Gr.alloc ?_ _ | with_reducible refine Gr.drewN ?_ _ | with_reducible refine Gr.drew ?_ | with_reducible refine Gr.trans ?_ (by with_reducible assumption))); done)) _ | with_reducible refine Gr.trans ?_ (by with_reducible assumption)))) hgrow (fun k hk => by have := (World.ownsRow.lt HOW.out k hk).1; simp only [World.size_alloc]; omega)
            have q9 := hide (show OwnL (w8.setCell ⟨w.heap.size + 1 + 1, 7, none⟩ (.slice (some ⟨gg, 0, none⟩) (k + 1) cap1)) (w.heap.size + 3) 27 7 flL (.slice A1 p.fl.length d1) p.fl from own_far q8.out (by dsimp only; omega) _)
            have o9 := hide (show OwnL (w8.setCell ⟨w.heap.size + 1 + 1, 7, none⟩ (.slice (some ⟨gg, 0, none⟩) (k + 1) cap1)) wT.heap.size 29 6 hoL (.slice (some ⟨gg, 0, none⟩) (k + 1) cap1) (p.ho.take (k + 1)) from own_far ho8.out (by dsimp only; omega) _)
            have m9 := hide (show Made (w8.setCell ⟨w.heap.size + 1 + 1, 7, none⟩ (.slice (some ⟨gg, 0, none⟩) (k + 1) cap1)) (w.heap.size + 1 + 1) (paZ p A1 (some ⟨gg, 0, none⟩) p.fl.length d1 (k + 1) cap1) from Made.setAt m8 7 (by simp) _ rfl)
            have s9 : wT.heap.size ≤ (w8.setCell ⟨w.heap.size + 1 + 1, 7, none⟩ (.slice (some ⟨gg, 0, none⟩) (k + 1) cap1)).heap.size := by
              rw [World.size_setCell]
              exact Nat.le_trans lT (Nat.le_trans (Gr.size (show Gr wr _ from (by repeat (first | with_reducible exact Gr.refl _ | with_reducible assumption | with_reducible refine Gr.alloc ?_ _ | with_reducible refine Gr.drewN ?_ _ | with_reducible refine Gr.drew ?_ | with_reducible refine Gr.setCell ?_ (by first | (dsimp only; omega) | (simp only [World.size_alloc]; omega) | (with_reducible refine Gr.size ?_; (repeat (first | with_reducible exact Gr.refl _ | with_reducible assumption | with_reducible refine Gr.alloc ?_ _ | with_reducible refine Gr.drewN ?_ _ | with_reducible refine Gr.drew ?_ | with_reducible refine Gr.trans ?_ (by with_reducible assumption))); done)) _ | with_reducible refine Gr.trans ?_ (by with_reducible assumption))))) (World.grownBy.size hgrow))
            clear hown8 hgrow hat hlt FIN HOW m8 m80 m81 m82 HM M0 M1 M2 q8 ho8
            go_wp2
            go_roundw
            case rel => exact ⟨k + 1, _, _, by omega, by go_num, Gr.setCell g8 (by simp only [World.size_alloc]; omega) _, s9, q9.out, o9.out, m9.out⟩
            case measure => simp only [intOf]; omega
        · obtain rfl : k = p.ho.length := by omega
          rw [List.take_length] at HO2
          have zw : w.heap.size + 1 < wr.heap.size := by omega
          have O1 := hide (HO.out.weak (show w.heap.size + 2 ≤ w.heap.size + 3 by omega))
          have O2 := hide (HO2.out.weak (show w.heap.size + 2 ≤ wT.heap.size by omega))
          have HDJ := hide (show DJ (.slice A1 p.fl.length d1) (.slice A2 p.ho.length d2) from fun b h1 h2 => by have := HB.out b h1; have := (own_lt HO2.out b h2).1; omega)
          clear HO HO2 HB cr fr
          have hp7 : wr.cell? ⟨w.heap.size, 7, none⟩ = some (.slice B p.ho.length d) := (g.cell _ 7 (by simp only [World.size_alloc]; omega)).trans (by simp [go_sem])
          have e0 : wr.cell? ⟨w.heap.size + 1 + 1, 0, none⟩ = some (.string p.nm) := M1 0
          have e1 : wr.cell? ⟨w.heap.size + 1 + 1, 1, none⟩ = some (.string p.mt) := M1 1
          have e2 : wr.cell? ⟨w.heap.size + 1 + 1, 2, none⟩ = some (iv p.ga) := M1 2
          have e3 : wr.cell? ⟨w.heap.size + 1 + 1, 3, none⟩ = some (iv p.gr) := M1 3
          have e4 : wr.cell? ⟨w.heap.size + 1 + 1, 4, none⟩ = some (iv p.wd) := M1 4
          have e5 : wr.cell? ⟨w.heap.size + 1 + 1, 5, none⟩ = some (iv p.ht) := M1 5
          have e6 : wr.cell? ⟨w.heap.size + 1 + 1, 6, none⟩ = some (.slice A1 p.fl.length d1) := M1 6
          have e7 : wr.cell? ⟨w.heap.size + 1 + 1, 7, none⟩ = some (.slice A2 p.ho.length d2) := M1 7
          have r0 : wr.cell? ⟨w.heap.size + 1, 0, none⟩ = some (.string ⟨#[]⟩) := (g.cell _ 0 (by simp)).trans (by simp [go_sem])
          have q0 : wr.frozen? ⟨w.heap.size + 1, 0, none⟩ = false := (g.frozen _ 0 (by simp)).trans (by simp [go_sem])
          have r1 : wr.cell? ⟨w.heap.size + 1, 1, none⟩ = some (.string ⟨#[]⟩) := (g.cell _ 1 (by simp)).trans (by simp [go_sem])
          have q1 : wr.frozen? ⟨w.heap.size + 1, 1, none⟩ = false := (g.frozen _ 1 (by simp)).trans (by simp [go_sem])
          have r2 : wr.cell? ⟨w.heap.size + 1, 2, none⟩ = some (iv 0) := (g.cell _ 2 (by simp)).trans (by simp [go_sem])
          have q2 : wr.frozen? ⟨w.heap.size + 1, 2, none⟩ = false := (g.frozen _ 2 (by simp)).trans (by simp [go_sem])
          have r3 : wr.cell? ⟨w.heap.size + 1, 3, none⟩ = some (iv 0) := (g.cell _ 3 (by simp)).trans (by simp [go_sem])
          have q3 : wr.frozen? ⟨w.heap.size + 1, 3, none⟩ = false := (g.frozen _ 3 (by simp)).trans (by simp [go_sem])
          have r4 : wr.cell? ⟨w.heap.size + 1, 4, none⟩ = some (iv 0) := (g.cell _ 4 (by simp)).trans (by simp [go_sem])
          have q4 : wr.frozen? ⟨w.heap.size + 1, 4, none⟩ = false := (g.frozen _ 4 (by simp)).trans (by simp [go_sem])
          have r5 : wr.cell? ⟨w.heap.size + 1, 5, none⟩ = some (iv 0) := (g.cell _ 5 (by simp)).trans (by simp [go_sem])
          have q5 : wr.frozen? ⟨w.heap.size + 1, 5, none⟩ = false := (g.frozen _ 5 (by simp)).trans (by simp [go_sem])
          have r6 : wr.cell? ⟨w.heap.size + 1, 6, none⟩ = some (.slice none 0 0) := (g.cell _ 6 (by simp)).trans (by simp [go_sem])
          have q6 : wr.frozen? ⟨w.heap.size + 1, 6, none⟩ = false := (g.frozen _ 6 (by simp)).trans (by simp [go_sem])
          have r7 : wr.cell? ⟨w.heap.size + 1, 7, none⟩ = some (.slice none 0 0) := (g.cell _ 7 (by simp only [World.size_alloc]; omega)).trans (by simp [go_sem])
          have q7 : wr.frozen? ⟨w.heap.size + 1, 7, none⟩ = false := (g.frozen _ 7 (by simp)).trans (by simp [go_sem])
          clear M1 M2
          go_wp2
          refine bodyPost_ret (v := pav p A1 d1 A2 d2) (by simp [results, Try.results7, go_sem, *]) rfl ⟨A1, d1, A2, d2, rfl, ?_, ?_, HDJ.out, ?_⟩
          · refine OwnL.weak (lo := w.heap.size) (base := w.heap.size + 2) ?_ (by omega)
            unfold OwnL
            repeat (with_reducible refine own_far ?_ (by dsimp only; omega) _)
            exact O1.out
          · refine OwnL.weak (lo := w.heap.size) (base := w.heap.size + 2) ?_ (by omega)
            unfold OwnL
            repeat (with_reducible refine own_far ?_ (by dsimp only; omega) _)
            exact O2.out
          · exact (by repeat (first | with_reducible exact Gr.refl _ | with_reducible assumption | with_reducible refine Gr.alloc ?_ _ | with_reducible refine Gr.drewN ?_ _ | with_reducible refine Gr.drew ?_ | with_reducible refine Gr.setCell ?_ (by first | (dsimp only; omega) | (simp only [World.size_alloc]; omega) | (with_reducible refine Gr.size ?_; (repeat (first | with_reducible exact Gr.refl _ | with_reducible assumption | with_reducible refine Gr.alloc ?_ _ | with_reducible refine Gr.drewN ?_ _ | with_reducible refine Gr.drew ?_ | with_reducible refine Gr.trans ?_ (by with_reducible assumption))); done)) _ | with_reducible refine Gr.trans ?_ (by with_reducible assumption)))
end Go.Proofs.Ytefjgfglommefaa
set_option linter.unusedVariables false
set_option linter.unusedSimpArgs false
namespace Go.Proofs.Ytefjgfglommefaa
set_option linter.unusedVariables false
set_option linter.unusedSimpArgs false
open Go Go.ChangeShapes Go.WideShapes Go.ChangeAt Go.RowKit Go.Deep

/-- the first k without the i-th, turned by g -/
def rmL {α : Type} (g : α → α) (l : List α) (i k : Nat) : List α := ((l.take k).eraseIdx i).map g
theorem rm_zero {α : Type} (g : α → α) (l : List α) (i : Nat) : rmL g l i 0 = [] := by simp [rmL]
theorem rm_skip {α : Type} {g : α → α} {l : List α} {i : Nat} {x : α} (h : l[i]? = some x) : rmL g l i (i + 1) = rmL g l i i := by
  have hi := (List.getElem?_eq_some_iff.1 h).1
  unfold rmL
  rw [List.eraseIdx_eq_take_drop_succ, List.eraseIdx_eq_take_drop_succ, List.take_take, List.take_take, Nat.min_eq_left (by omega), Nat.min_self, List.drop_of_length_le (by rw [List.length_take]; omega), List.drop_of_length_le (by rw [List.length_take]; omega)]
theorem rm_add {α : Type} {g : α → α} {l : List α} {i k : Nat} {x : α} (h : l[k]? = some x) (hk : k ≠ i) : rmL g l i (k + 1) = rmL g l i k ++ [g x] := by
  have hl := (List.getElem?_eq_some_iff.1 h).1
  have e : (l.take (k + 1)).eraseIdx i = (l.take k).eraseIdx i ++ [x] := by
    rw [take_snoc h]
    rcases Nat.lt_or_ge i k with h1 | h1
    · rw [List.eraseIdx_append_of_lt_length (by rw [List.length_take]; omega)]
    · rw [List.eraseIdx_of_length_le (by rw [List.length_append, List.length_take]; simp; omega), List.eraseIdx_of_length_le (by rw [List.length_take]; omega)]
  unfold rmL
  rw [e, List.map_append]
  rfl
theorem rm_all {α : Type} (g : α → α) (l : List α) (i : Nat) : rmL g l i l.length = (l.eraseIdx i).map g := by
  unfold rmL
  rw [List.take_length]
theorem rm_len {α : Type} (g : α → α) (l : List α) (i k : Nat) : (rmL g l i k).length ≤ k := by
  unfold rmL
  rw [List.length_map]
  have := List.length_eraseIdx_le (l.take k) i
  rw [List.length_take] at this
  omega
theorem res8r {a : Act} {w : World} {B : Nat} {a0 a1 a2 a3 a4 a5 a6 a7 : Value} (ht : a.tmps[4]?.getD undef = .pointer (some ⟨B, 0, none⟩)) (h : Bx8 w B a0 a1 a2 a3 a4 a5 a6 a7) : (results Try.f51 a.tmps).run Try.prog w = .ok (.agg #[a0, a1, a2, a3, a4, a5, a6, a7]) w := by
  obtain ⟨h0, h1, h2, h3, h4, h5, h6, h7, h8, h9⟩ := h
  simp [results, Try.results51, go_sem, ht, h1, h2, h3, h4, h5, h6, h7, h8]
theorem edRr_fin {w W : World} {q : Pa} {a : Act} {base B : Nat} {A' : Option Addr} {c' : Nat} {B' : Option Addr} {d' n m : Nat} (hn : q.fl.length = n) (hm : q.ho.length = m) {b0 b1 b2 b3 b4 b5 b6 b7 : Value} (ht : a.tmps[4]?.getD undef = .pointer (some ⟨B, 0, none⟩)) (hd : a.defers = []) (hK : Bx8 W B b0 b1 b2 b3 b4 b5 b6 b7) (hb : w.heap.size ≤ base) (hB : w.heap.size ≤ B ∧ B < base) (o1 : OwnL W base 27 7 flL (.slice A' n c') q.fl) (o2 : OwnL W base 29 6 hoL (.slice B' m d') q.ho) (dj : DJ (.slice A' n c') (.slice B' m d')) (g : Gr w W) :
    bodyPost Try.prog Try.f51 (fun e w' => EdR w w' q e) .ret a (st8 W B (.string q.nm) (.string q.mt) (iv q.ga) (iv q.gr) (iv q.wd) (iv q.ht) (.slice A' n c') (.slice B' m d')) :=
  by subst hn hm; exact bodyPost_ret (res8r ht (hK.st _ _ _ _ _ _ _ _)) hd (edR_end _ _ _ _ _ _ _ _ hb hB o1 o2 dj g)
/-- the variables of remove: the part, the result, what grows -/
structure RmW (w wr : World) (Bo : Nat) (p : Pa) (A : Option Addr) (c : Nat) (B : Option Addr) (d : Nat) (u v : Value) : Prop where
  gr : Gr w wr
  sz : Bo < wr.heap.size
  kp : Bx8 wr w.heap.size (.string p.nm) (.string p.mt) (iv p.ga) (iv p.gr) (iv p.wd) (iv p.ht) (.slice A p.fl.length c) (.slice B p.ho.length d)
  kr : Bx8 wr (w.heap.size + 1) (.string ⟨#[]⟩) (.string ⟨#[]⟩) (iv 0) (iv 0) (iv 0) (iv 0) (.slice none 0 0) (.slice none 0 0)
  ko : Bx8 wr Bo (.string p.nm) (.string p.mt) (iv p.ga) (iv p.gr) (iv p.wd) (iv p.ht) u v
theorem RmW.to {w wr wx : World} {Bo : Nat} {p : Pa} {A : Option Addr} {c : Nat} {B : Option Addr} {d : Nat} {u v : Value} (h : RmW w wr Bo p A c B d u v) (g : Gr wr wx) : RmW w wx Bo p A c B d u v :=
  ⟨h.gr.trans g, Nat.lt_of_lt_of_le h.sz g.size, h.kp.gr g, h.kr.gr g, h.ko.gr g⟩
theorem Bx8.put6 {w : World} {B : Nat} {a0 a1 a2 a3 a4 a5 a6 a7 : Value} (h : Bx8 w B a0 a1 a2 a3 a4 a5 a6 a7) (v : Value) : Bx8 (w.setCell ⟨B, 6, none⟩ v) B a0 a1 a2 a3 a4 a5 v a7 := by
  obtain ⟨h0, h1, h2, h3, h4, h5, h6, h7, h8, h9⟩ := h
  constructor
  · simpa using h0
  all_goals simp [go_sem, h1, h2, h3, h4, h5, h6, h7, h8, h9]
theorem Bx8.put7 {w : World} {B : Nat} {a0 a1 a2 a3 a4 a5 a6 a7 : Value} (h : Bx8 w B a0 a1 a2 a3 a4 a5 a6 a7) (v : Value) : Bx8 (w.setCell ⟨B, 7, none⟩ v) B a0 a1 a2 a3 a4 a5 a6 v := by
  obtain ⟨h0, h1, h2, h3, h4, h5, h6, h7, h8, h9⟩ := h
  constructor
  · simpa using h0
  all_goals simp [go_sem, h1, h2, h3, h4, h5, h6, h7, h8, h9]
/-- grown by an append onto an own row, then a field of the variable stored -/
theorem RmW.app6 {w wr wx : World} {Bo : Nat} {p : Pa} {A : Option Addr} {c : Nat} {B : Option Addr} {d : Nat} {u v : Value} {row : Option Nat} (h : RmW w wr Bo p A c B d u v) (hg : wr.grownBy wx row) (hr : ∀ b, row = some b → Bo < b) (hw : w.heap.size + 1 < Bo) (g : Gr w wx) (z : Value) : RmW w (wx.setCell ⟨Bo, 6, none⟩ z) Bo p A c B d z v :=
  ⟨Gr.setCell g (by dsimp only; omega) _, by rw [World.size_setCell]; exact Nat.lt_of_lt_of_le h.sz hg.size, (h.kp.grown hg (fun e => by have := hr _ e.symm; omega)).set1 (by omega) _, (h.kr.grown hg (fun e => by have := hr _ e.symm; omega)).set1 (by omega) _, (h.ko.grown hg (fun e => by have := hr _ e.symm; omega)).put6 _⟩
theorem RmW.app7 {w wr wx : World} {Bo : Nat} {p : Pa} {A : Option Addr} {c : Nat} {B : Option Addr} {d : Nat} {u v : Value} {row : Option Nat} (h : RmW w wr Bo p A c B d u v) (hg : wr.grownBy wx row) (hr : ∀ b, row = some b → Bo < b) (hw : w.heap.size + 1 < Bo) (g : Gr w wx) (z : Value) : RmW w (wx.setCell ⟨Bo, 7, none⟩ z) Bo p A c B d u z :=
  ⟨Gr.setCell g (by dsimp only; omega) _, by rw [World.size_setCell]; exact Nat.lt_of_lt_of_le h.sz hg.size, (h.kp.grown hg (fun e => by have := hr _ e.symm; omega)).set1 (by omega) _, (h.kr.grown hg (fun e => by have := hr _ e.symm; omega)).set1 (by omega) _, (h.ko.grown hg (fun e => by have := hr _ e.symm; omega)).put7 _⟩
set_option maxHeartbeats 8000000 in
set_option maxRecDepth 100000 in
theorem remove_any (p : Pa) (A B : Option Addr) (c d i : Nat) (w : World) (hP : PaW w p A c B d) (hi : i < p.fl.length) (b1 : ∀ f ∈ p.fl, f.pa ≤ 1000) (b2 : ∀ f ∈ p.ho, f.fa ≤ 1000) :
    Calls Try.prog 51 #[pav p A c B d, iv (i : Int)] w fun e w' => EdR w w' ⟨p.nm, p.mt, p.ga, p.gr, p.wd, p.ht, (p.fl.eraseIdx i).map (loF ((i : Int) + 1)), p.ho.map (loH ((i : Int) + 1))⟩ e := by
  have HC := hide (fun (w' : World) (g : Gr w w') => copy_any p A B c d w' (hP.gr g))
  have n1 := hP.fl.len
  have n2 := hP.ho.len
  have HP := hide hP
  have HB1 := hide b1
  have HB2 := hide b2
  clear hP b1 b2
  obtain ⟨w0, hw0⟩ : ∃ w0, (w.alloc (.cells #[.string p.nm, .string p.mt, iv p.ga, iv p.gr, iv p.wd, iv p.ht, .slice A p.fl.length c, .slice B p.ho.length d] 25)).alloc (.cells #[.string ⟨#[]⟩, .string ⟨#[]⟩, iv 0, iv 0, iv 0, iv 0, .slice none 0 0, .slice none 0 0] 25) = w0 := ⟨_, rfl⟩
  have gw0 : Gr w w0 := by rw [← hw0]; exact Gr.alloc (Gr.alloc (Gr.refl _) _) _
  have s0 : w0.heap.size = w.heap.size + 2 := by rw [← hw0]; simp
  have kp : Bx8 w0 w.heap.size (.string p.nm) (.string p.mt) (iv p.ga) (iv p.gr) (iv p.wd) (iv p.ht) (.slice A p.fl.length c) (.slice B p.ho.length d) := by rw [← hw0]; constructor <;> simp [go_sem]
  have kr : Bx8 w0 (w.heap.size + 1) (.string ⟨#[]⟩) (.string ⟨#[]⟩) (iv 0) (iv 0) (iv 0) (iv 0) (.slice none 0 0) (.slice none 0 0) := by rw [← hw0]; constructor <;> simp [go_sem]
  obtain ⟨_, x0, x1, x2, x3, x4, x5, x6, x7, xf⟩ := id kp
  have KP := hide kp
  have KR := hide kr
  clear kp kr
  go_enter Try.func51, Try.ntmps51
  go_upto_region 1 with fail
  clear hw0
  go_wp2_with fail
  refine (HC.out _ gw0).mono ?_
  rintro e w1 ⟨A9, c9, B9, d9, rfl, -, -, g1⟩
  have z1 := g1.size
  clear x0 x1 x2 x3 x4 x5 x6 x7 xf HC
  go_upto_region 3 with fail
  generalize hW : World.alloc w1 _ = W
  have g1W : Gr w1 W := by rw [← hW]; exact Gr.alloc (Gr.refl _) _
  have ko : Bx8 W w1.heap.size (.string p.nm) (.string p.mt) (iv p.ga) (iv p.gr) (iv p.wd) (iv p.ht) (.slice none 0 0) (.slice none 0 0) := by rw [← hW]; constructor <;> simp [go_sem]
  have HR0 := hide (show RmW w W w1.heap.size p A c B d (.slice none 0 0) (.slice none 0 0) from ⟨(gw0.trans g1).trans g1W, by rw [← hW]; simp, (KP.out.gr g1).gr g1W, (KR.out.gr g1).gr g1W, ko⟩)
  have hBo : w.heap.size + 1 < w1.heap.size := by omega
  clear ko KP KR hW
  generalize w1.heap.size = Bo at *
  have hii : IntKind.i64.wrap ((i : Int) + 1) = (i : Int) + 1 := IntWalk.i64_in _ (by omega)
  go_wp2_with fail
  go_loopw [6] (fun iv' wr => ∃ (k : Nat) (A1 : Option Addr) (d1 : Nat) (L : List Fl), k ≤ p.fl.length ∧ iv' = iv k ∧ rmL (loF ((i : Int) + 1)) p.fl i k = L ∧ Hid (RmW w wr Bo p A c B d (.slice A1 L.length d1) (.slice none 0 0)) ∧ Hid (OwnL wr (Bo + 1) 27 7 flL (.slice A1 L.length d1) L)) (fun i' _ => p.fl.length - (intOf i').toNat)
  case atStart => exact ⟨0, none, 0, [], by omega, rfl, rm_zero _ _ _, HR0, own_nil _ _ _ _ _⟩
  case round =>
    obtain ⟨k, A1, d1, L, hk, rfl, hL, HR, HO⟩ := hrel
    have gW : Gr w wr := HR.out.gr
    have HLL := hide hL
    have hll : L.length ≤ 1000 := by rw [← hL]; have := rm_len (loF ((i : Int) + 1)) p.fl i k; omega
    clear hL
    obtain ⟨xl, x0, x1, x2, x3, x4, x5, x6, x7, xf⟩ := HR.out.kp
    obtain ⟨yl, y0, y1, y2, y3, y4, y5, y6, y7, yf⟩ := HR.out.ko
    have szr := HR.out.sz
    by_cases hkl : k < p.fl.length
    · obtain ⟨f, hf⟩ : ∃ f, p.fl[k]? = some f := ⟨_, List.getElem?_eq_getElem hkl⟩
      obtain ⟨b, off, hA, r0, r1, r2, r3, r4, r5, r6⟩ := HP.out.fl.rd.fl hf
      subst hA
      have hb : b < w.heap.size := cell_lt (by rw [r0]; rfl)
      have r0 := (gW.cell _ _ hb).trans r0
      have r1 := (gW.cell _ _ hb).trans r1
      have r2 := (gW.cell _ _ hb).trans r2
      have r3 := (gW.cell _ _ hb).trans r3
      have r4 := (gW.cell _ _ hb).trans r4
      have r5 := (gW.cell _ _ hb).trans r5
      have r6 := (gW.cell _ _ hb).trans r6
      have hbr : b < wr.heap.size := by omega
      have hpa := HB1.out f (List.mem_of_getElem? hf)
      have HF := hide hf
      have hk0 : (0 : Int) ≤ (k : Int) := by omega
      have hk1 : (k : Int) < (p.fl.length : Int) := by omega
      have V6 : IntKind.i64.wrap ((k : Int) + 1) = (k : Int) + 1 := IntWalk.i64_in _ (by omega)
      clear hf
      by_cases hlt : (i : Int) + 1 < f.pa
      · have V1 : IntKind.i64.wrap (f.pa - 1) = f.pa - 1 := IntWalk.i64_in _ (by omega)
        have HY := hide (show loF ((i : Int) + 1) f = ⟨f.nm, f.pa - 1, f.sd, f.o, f.wd, f.ln, f.an⟩ by unfold loF; rw [if_pos hlt])
        obtain ⟨wf, hwf⟩ : ∃ wf, wr.alloc (.cells #[.string f.nm, iv (f.pa - 1), iv f.sd, iv f.o, iv f.wd, iv f.ln, iv f.an] 27) = wf := ⟨_, rfl⟩
        have gf : Gr wr wf := by rw [← hwf]; exact Gr.alloc (Gr.refl _) _
        have szf : wf.heap.size = wr.heap.size + 1 := by rw [← hwf]; simp
        by_cases hki : k = i
        · subst hki
          have hne : ((k : Int) != (k : Int)) = false := by simp
          have RS := hide (rm_skip (g := loF ((k : Int) + 1)) HF.out)
          have RW := hide (HR.out.to gf)
          have HO' := hide (OwnL.gr HO.out gf)
          clear HR HO
          go_wp2
          go_roundw
          case rel => exact ⟨k + 1, A1, d1, _, by omega, by go_num, by rw [RS.out, HLL.out], RW, HO'⟩
          case measure => simp only [intOf]; omega
        · have hne : ((k : Int) != (i : Int)) = true := by rw [bne_iff_ne]; omega
          have RA := hide (rm_add (g := loF ((i : Int) + 1)) HF.out hki)
          rw [HY.out] at RA
          obtain ⟨L2, hL2⟩ : ∃ M, L ++ [⟨f.nm, f.pa - 1, f.sd, f.o, f.wd, f.ln, f.an⟩] = M := ⟨_, rfl⟩
          have HL2 := hide hL2
          clear hL2
          have q0 : wf.cell? ⟨wr.heap.size, 0, none⟩ = some (.string f.nm) := by rw [← hwf]; simp [go_sem]
          have q1 : wf.cell? ⟨wr.heap.size, 1, none⟩ = some (iv (f.pa - 1)) := by rw [← hwf]; simp [go_sem]
          have q2 : wf.cell? ⟨wr.heap.size, 2, none⟩ = some (iv f.sd) := by rw [← hwf]; simp [go_sem]
          have q3 : wf.cell? ⟨wr.heap.size, 3, none⟩ = some (iv f.o) := by rw [← hwf]; simp [go_sem]
          have q4 : wf.cell? ⟨wr.heap.size, 4, none⟩ = some (iv f.wd) := by rw [← hwf]; simp [go_sem]
          have q5 : wf.cell? ⟨wr.heap.size, 5, none⟩ = some (iv f.ln) := by rw [← hwf]; simp [go_sem]
          have q6 : wf.cell? ⟨wr.heap.size, 6, none⟩ = some (iv f.an) := by rw [← hwf]; simp [go_sem]
          have l27 : wr.heap.size < wf.heap.size := by omega
          have lBo : Bo + 1 ≤ wf.heap.size := by omega
          clear szf
          have HOf := hide (OwnL.gr HO.out gf)
          have HRf := hide (HR.out.to gf)
          have HLT := hide (fun b h => (own_lt HO.out b h).1)
          go_upto_region 10 with fail
          clear hwf xl x0 x1 x2 x3 x4 x5 x6 x7 xf yl y0 y1 y2 y3 y4 y5 y6 y7 yf r0 r1 r2 r3 r4 r5 r6 HR HO
          obtain ⟨yl, y0, y1, y2, y3, y4, y5, y6, y7, yf⟩ := HRf.out.ko
          go_wp2_with (refine wpList_app2 rfl _ _ _ rfl flL (Bo + 1) 27 7 64 elFl (by decide) L ⟨f.nm, f.pa - 1, f.sd, f.o, f.wd, f.ln, f.an⟩ L2 HL2.out (.slice A1 L.length d1) rfl (OwnL.gr HOf.out (Gr.alloc (Gr.refl _) _)) ⟨wf.heap.size, 0, none⟩ 1 rfl rfl (rd1_fl wf ⟨f.nm, f.pa - 1, f.sd, f.o, f.wd, f.ln, f.an⟩) (one_fl ⟨f.nm, f.pa - 1, f.sd, f.o, f.wd, f.ln, f.an⟩) (by omega) (by decide) (by simp only [World.size_alloc]; omega) ?_; intro gg cap1 w8 hO8 hG8 hgr8 hown8 hlt8; have KO8 := (HRf.out.to (Gr.alloc (Gr.refl _) _)).ko.grown hgr8 (fun e => by have := HLT.out _ e.symm; omega); obtain ⟨vl, v0, v1, v2, v3, v4, v5, v6, v7, vf⟩ := KO8)
          have g8 : Gr w w8 := hG8 _ (HRf.out.gr.trans (Gr.alloc (Gr.refl _) _)) (by omega)
          have R8 := hide ((HRf.out.to (Gr.alloc (Gr.refl _) _)).app6 hgr8 (fun b hb => by have := HLT.out _ hb; omega) hBo g8 (.slice (some ⟨gg, 0, none⟩) L2.length cap1))
          have O8 := hide (own_set1 (B := Bo) (i := 6) hO8 (by omega) (.slice (some ⟨gg, 0, none⟩) L2.length cap1))
          go_roundw
          case rel => exact ⟨k + 1, some ⟨gg, 0, none⟩, cap1, L2, by omega, by go_num, by rw [RA.out, HLL.out]; exact HL2.out, R8, O8⟩
          case measure => simp only [intOf]; omega
      · have HY := hide (show loF ((i : Int) + 1) f = f by unfold loF; rw [if_neg hlt])
        obtain ⟨wf, hwf⟩ : ∃ wf, wr.alloc (.cells #[.string f.nm, iv f.pa, iv f.sd, iv f.o, iv f.wd, iv f.ln, iv f.an] 27) = wf := ⟨_, rfl⟩
        have gf : Gr wr wf := by rw [← hwf]; exact Gr.alloc (Gr.refl _) _
        have szf : wf.heap.size = wr.heap.size + 1 := by rw [← hwf]; simp
        have q0 : wf.cell? ⟨wr.heap.size, 0, none⟩ = some (.string f.nm) := by rw [← hwf]; simp [go_sem]
        have q1 : wf.cell? ⟨wr.heap.size, 1, none⟩ = some (iv f.pa) := by rw [← hwf]; simp [go_sem]
        have q2 : wf.cell? ⟨wr.heap.size, 2, none⟩ = some (iv f.sd) := by rw [← hwf]; simp [go_sem]
        have q3 : wf.cell? ⟨wr.heap.size, 3, none⟩ = some (iv f.o) := by rw [← hwf]; simp [go_sem]
        have q4 : wf.cell? ⟨wr.heap.size, 4, none⟩ = some (iv f.wd) := by rw [← hwf]; simp [go_sem]
        have q5 : wf.cell? ⟨wr.heap.size, 5, none⟩ = some (iv f.ln) := by rw [← hwf]; simp [go_sem]
        have q6 : wf.cell? ⟨wr.heap.size, 6, none⟩ = some (iv f.an) := by rw [← hwf]; simp [go_sem]
        have l27 : wr.heap.size < wf.heap.size := by omega
        by_cases hki : k = i
        · subst hki
          have hne : ((k : Int) != (k : Int)) = false := by simp
          have RS := hide (rm_skip (g := loF ((k : Int) + 1)) HF.out)
          have RW := hide (HR.out.to gf)
          have HO' := hide (OwnL.gr HO.out gf)
          clear HR HO
          go_wp2
          go_roundw
          case rel => exact ⟨k + 1, A1, d1, _, by omega, by go_num, by rw [RS.out, HLL.out], RW, HO'⟩
          case measure => simp only [intOf]; omega
        · have hne : ((k : Int) != (i : Int)) = true := by rw [bne_iff_ne]; omega
          have RA := hide (rm_add (g := loF ((i : Int) + 1)) HF.out hki)
          rw [HY.out] at RA
          obtain ⟨L2, hL2⟩ : ∃ M, L ++ [f] = M := ⟨_, rfl⟩
          have HL2 := hide hL2
          clear hL2
          have q0 : wf.cell? ⟨wr.heap.size, 0, none⟩ = some (.string f.nm) := by rw [← hwf]; simp [go_sem]
          have q1 : wf.cell? ⟨wr.heap.size, 1, none⟩ = some (iv f.pa) := by rw [← hwf]; simp [go_sem]
          have q2 : wf.cell? ⟨wr.heap.size, 2, none⟩ = some (iv f.sd) := by rw [← hwf]; simp [go_sem]
          have q3 : wf.cell? ⟨wr.heap.size, 3, none⟩ = some (iv f.o) := by rw [← hwf]; simp [go_sem]
          have q4 : wf.cell? ⟨wr.heap.size, 4, none⟩ = some (iv f.wd) := by rw [← hwf]; simp [go_sem]
          have q5 : wf.cell? ⟨wr.heap.size, 5, none⟩ = some (iv f.ln) := by rw [← hwf]; simp [go_sem]
          have q6 : wf.cell? ⟨wr.heap.size, 6, none⟩ = some (iv f.an) := by rw [← hwf]; simp [go_sem]
          have l27 : wr.heap.size < wf.heap.size := by omega
          have lBo : Bo + 1 ≤ wf.heap.size := by omega
          clear szf
          have HOf := hide (OwnL.gr HO.out gf)
          have HRf := hide (HR.out.to gf)
          have HLT := hide (fun b h => (own_lt HO.out b h).1)
          go_upto_region 10 with fail
          clear hwf xl x0 x1 x2 x3 x4 x5 x6 x7 xf yl y0 y1 y2 y3 y4 y5 y6 y7 yf r0 r1 r2 r3 r4 r5 r6 HR HO
          obtain ⟨yl, y0, y1, y2, y3, y4, y5, y6, y7, yf⟩ := HRf.out.ko
          go_wp2_with (refine wpList_app2 rfl _ _ _ rfl flL (Bo + 1) 27 7 64 elFl (by decide) L f L2 HL2.out (.slice A1 L.length d1) rfl (OwnL.gr HOf.out (Gr.alloc (Gr.refl _) _)) ⟨wf.heap.size, 0, none⟩ 1 rfl rfl (rd1_fl wf f) (one_fl f) (by omega) (by decide) (by simp only [World.size_alloc]; omega) ?_; intro gg cap1 w8 hO8 hG8 hgr8 hown8 hlt8; have KO8 := (HRf.out.to (Gr.alloc (Gr.refl _) _)).ko.grown hgr8 (fun e => by have := HLT.out _ e.symm; omega); obtain ⟨vl, v0, v1, v2, v3, v4, v5, v6, v7, vf⟩ := KO8)
          have g8 : Gr w w8 := hG8 _ (HRf.out.gr.trans (Gr.alloc (Gr.refl _) _)) (by omega)
          have R8 := hide ((HRf.out.to (Gr.alloc (Gr.refl _) _)).app6 hgr8 (fun b hb => by have := HLT.out _ hb; omega) hBo g8 (.slice (some ⟨gg, 0, none⟩) L2.length cap1))
          have O8 := hide (own_set1 (B := Bo) (i := 6) hO8 (by omega) (.slice (some ⟨gg, 0, none⟩) L2.length cap1))
          go_roundw
          case rel => exact ⟨k + 1, some ⟨gg, 0, none⟩, cap1, L2, by omega, by go_num, by rw [RA.out, HLL.out]; exact HL2.out, R8, O8⟩
          case measure => simp only [intOf]; omega
    · obtain rfl : k = p.fl.length := by omega
      have HLE := hide (show (p.fl.eraseIdx i).map (loF ((i : Int) + 1)) = L by rw [← rm_all]; exact HLL.out)
      have HBT := hide (fun b h => (own_lt HO.out b h).2)
      clear HLL
      go_wp2_with fail
      obtain ⟨wT, rfl⟩ : ∃ wT, wT = wr := ⟨_, rfl⟩
      clear xl x0 x1 x2 x3 x4 x5 x6 x7 xf yl y0 y1 y2 y3 y4 y5 y6 y7 yf
      go_loopw [8] (fun iv' wr => ∃ (k : Nat) (A2 : Option Addr) (d2 : Nat) (M1 : List Ho), k ≤ p.ho.length ∧ iv' = iv k ∧ (p.ho.take k).map (loH ((i : Int) + 1)) = M1 ∧ Hid (RmW w wr Bo p A c B d (.slice A1 L.length d1) (.slice A2 M1.length d2)) ∧ Hid (OwnL wr (Bo + 1) 27 7 flL (.slice A1 L.length d1) L) ∧ Hid (OwnL wr wT.heap.size 29 6 hoL (.slice A2 M1.length d2) M1) ∧ wT.heap.size ≤ wr.heap.size) (fun i' _ => p.ho.length - (intOf i').toNat)
      case atStart => exact ⟨0, none, 0, [], by omega, rfl, by simp, HR, HO, own_nil _ _ _ _ _, Nat.le_refl _⟩
      case round =>
        clear HR HO gW
        obtain ⟨k, A2, d2, M1, hk, rfl, hM, HR, HO, HO2, lT⟩ := hrel
        have gW : Gr w wr := HR.out.gr
        have HMM := hide hM
        have hll2 : M1.length ≤ 1000 := by rw [← hM, List.length_map, List.length_take]; omega
        have lT0 : Bo + 1 ≤ wT.heap.size := szr
        clear hM
        obtain ⟨xl, x0, x1, x2, x3, x4, x5, x6, x7, xf⟩ := HR.out.kp
        obtain ⟨yl, y0, y1, y2, y3, y4, y5, y6, y7, yf⟩ := HR.out.ko
        have szr2 := HR.out.sz
        by_cases hkl2 : k < p.ho.length
        · obtain ⟨f, hf⟩ : ∃ f, p.ho[k]? = some f := ⟨_, List.getElem?_eq_getElem hkl2⟩
          obtain ⟨b, off, hA, r0, r1, r2, r3, r4, r5⟩ := HP.out.ho.rd.ho hf
          subst hA
          have hb : b < w.heap.size := cell_lt (by rw [r0]; rfl)
          have r0 := (gW.cell _ _ hb).trans r0
          have r1 := (gW.cell _ _ hb).trans r1
          have r2 := (gW.cell _ _ hb).trans r2
          have r3 := (gW.cell _ _ hb).trans r3
          have r4 := (gW.cell _ _ hb).trans r4
          have r5 := (gW.cell _ _ hb).trans r5
          have hbr : b < wr.heap.size := by omega
          have hpa := HB2.out f (List.mem_of_getElem? hf)
          have HF := hide hf
          have hk0 : (0 : Int) ≤ (k : Int) := by omega
          have hk1 : (k : Int) < (p.ho.length : Int) := by omega
          have V6 : IntKind.i64.wrap ((k : Int) + 1) = (k : Int) + 1 := IntWalk.i64_in _ (by omega)
          clear hf
          by_cases hlt : (i : Int) + 1 < f.fa
          · have V1 : IntKind.i64.wrap (f.fa - 1) = f.fa - 1 := IntWalk.i64_in _ (by omega)
            have HY := hide (show loH ((i : Int) + 1) f = ⟨f.fa - 1, f.kd, f.x, f.y, f.w, f.h⟩ by unfold loH; rw [if_pos hlt])
            obtain ⟨wf, hwf⟩ : ∃ wf, wr.alloc (.cells #[iv (f.fa - 1), iv f.kd, iv f.x, iv f.y, iv f.w, iv f.h] 29) = wf := ⟨_, rfl⟩
            have gf : Gr wr wf := by rw [← hwf]; exact Gr.alloc (Gr.refl _) _
            have szf : wf.heap.size = wr.heap.size + 1 := by rw [← hwf]; simp
            have RA := hide (show (p.ho.take (k + 1)).map (loH ((i : Int) + 1)) = (p.ho.take k).map (loH ((i : Int) + 1)) ++ [⟨f.fa - 1, f.kd, f.x, f.y, f.w, f.h⟩] by rw [take_snoc HF.out, List.map_append]; show _ ++ [loH ((i : Int) + 1) f] = _; rw [HY.out])
            obtain ⟨M2, hM2⟩ : ∃ M, M1 ++ [⟨f.fa - 1, f.kd, f.x, f.y, f.w, f.h⟩] = M := ⟨_, rfl⟩
            have HM2 := hide hM2
            clear hM2
            have q0 : wf.cell? ⟨wr.heap.size, 0, none⟩ = some (iv (f.fa - 1)) := by rw [← hwf]; simp [go_sem]
            have q1 : wf.cell? ⟨wr.heap.size, 1, none⟩ = some (iv f.kd) := by rw [← hwf]; simp [go_sem]
            have q2 : wf.cell? ⟨wr.heap.size, 2, none⟩ = some (iv f.x) := by rw [← hwf]; simp [go_sem]
            have q3 : wf.cell? ⟨wr.heap.size, 3, none⟩ = some (iv f.y) := by rw [← hwf]; simp [go_sem]
            have q4 : wf.cell? ⟨wr.heap.size, 4, none⟩ = some (iv f.w) := by rw [← hwf]; simp [go_sem]
            have q5 : wf.cell? ⟨wr.heap.size, 5, none⟩ = some (iv f.h) := by rw [← hwf]; simp [go_sem]
            have l27 : wr.heap.size < wf.heap.size := by omega
            have lBo : wT.heap.size ≤ wf.heap.size := by omega
            clear szf
            have HOf := hide (OwnL.gr HO2.out gf)
            have HO1f := hide (OwnL.gr HO.out gf)
            have HRf := hide (HR.out.to gf)
            have HLT := hide (fun b h => (own_lt HO2.out b h).1)
            go_upto_region 17 with fail
            clear hwf xl x0 x1 x2 x3 x4 x5 x6 x7 xf yl y0 y1 y2 y3 y4 y5 y6 y7 yf r0 r1 r2 r3 r4 r5 HR HO HO2
            obtain ⟨yl, y0, y1, y2, y3, y4, y5, y6, y7, yf⟩ := HRf.out.ko
            go_wp2_with (refine wpList_app2 rfl _ _ _ rfl hoL wT.heap.size 29 6 48 elHo (by decide) M1 ⟨f.fa - 1, f.kd, f.x, f.y, f.w, f.h⟩ M2 HM2.out (.slice A2 M1.length d2) rfl (OwnL.gr HOf.out (Gr.alloc (Gr.refl _) _)) ⟨wf.heap.size, 0, none⟩ 1 rfl rfl (rd1_ho wf ⟨f.fa - 1, f.kd, f.x, f.y, f.w, f.h⟩) (one_ho ⟨f.fa - 1, f.kd, f.x, f.y, f.w, f.h⟩) (by omega) (by decide) (by simp only [World.size_alloc]; omega) ?_; intro gg cap1 w8 hO8 hG8 hgr8 hown8 hlt8; have KO8 := (HRf.out.to (Gr.alloc (Gr.refl _) _)).ko.grown hgr8 (fun e => by have := HLT.out _ e.symm; omega); obtain ⟨vl, v0, v1, v2, v3, v4, v5, v6, v7, vf⟩ := KO8)
            have g8 : Gr w w8 := hG8 _ (HRf.out.gr.trans (Gr.alloc (Gr.refl _) _)) (by omega)
            have R8 := hide ((HRf.out.to (Gr.alloc (Gr.refl _) _)).app7 hgr8 (fun b hb => by have := HLT.out _ hb; omega) hBo g8 (.slice (some ⟨gg, 0, none⟩) M2.length cap1))
            have O8 := hide (own_set1 (B := Bo) (i := 7) hO8 (by omega) (.slice (some ⟨gg, 0, none⟩) M2.length cap1))
            have P8 := hide (own_set1 (B := Bo) (i := 7) (own_grw (OwnL.gr HO1f.out (Gr.alloc (Gr.refl _) _)) hgr8 (fun b hb e => by have := HBT.out b hb; have := HLT.out b e.symm; omega)) (by omega) (.slice (some ⟨gg, 0, none⟩) M2.length cap1))
            have s8 : wT.heap.size ≤ (w8.setCell ⟨Bo, 7, none⟩ (.slice (some ⟨gg, 0, none⟩) M2.length cap1)).heap.size := by
              rw [World.size_setCell]
              have := hgr8.size
              simp only [World.size_alloc] at this
              omega
            go_roundw
            case rel => exact ⟨k + 1, some ⟨gg, 0, none⟩, cap1, M2, by omega, by go_num, by rw [RA.out, HMM.out]; exact HM2.out, R8, P8, O8, s8⟩
            case measure => simp only [intOf]; omega
          · have HY := hide (show loH ((i : Int) + 1) f = f by unfold loH; rw [if_neg hlt])
            obtain ⟨wf, hwf⟩ : ∃ wf, wr.alloc (.cells #[iv f.fa, iv f.kd, iv f.x, iv f.y, iv f.w, iv f.h] 29) = wf := ⟨_, rfl⟩
            have gf : Gr wr wf := by rw [← hwf]; exact Gr.alloc (Gr.refl _) _
            have szf : wf.heap.size = wr.heap.size + 1 := by rw [← hwf]; simp
            have RA := hide (show (p.ho.take (k + 1)).map (loH ((i : Int) + 1)) = (p.ho.take k).map (loH ((i : Int) + 1)) ++ [f] by rw [take_snoc HF.out, List.map_append]; show _ ++ [loH ((i : Int) + 1) f] = _; rw [HY.out])
            obtain ⟨M2, hM2⟩ : ∃ M, M1 ++ [f] = M := ⟨_, rfl⟩
            have HM2 := hide hM2
            clear hM2
            have q0 : wf.cell? ⟨wr.heap.size, 0, none⟩ = some (iv f.fa) := by rw [← hwf]; simp [go_sem]
            have q1 : wf.cell? ⟨wr.heap.size, 1, none⟩ = some (iv f.kd) := by rw [← hwf]; simp [go_sem]
            have q2 : wf.cell? ⟨wr.heap.size, 2, none⟩ = some (iv f.x) := by rw [← hwf]; simp [go_sem]
            have q3 : wf.cell? ⟨wr.heap.size, 3, none⟩ = some (iv f.y) := by rw [← hwf]; simp [go_sem]
            have q4 : wf.cell? ⟨wr.heap.size, 4, none⟩ = some (iv f.w) := by rw [← hwf]; simp [go_sem]
            have q5 : wf.cell? ⟨wr.heap.size, 5, none⟩ = some (iv f.h) := by rw [← hwf]; simp [go_sem]
            have l27 : wr.heap.size < wf.heap.size := by omega
            have lBo : wT.heap.size ≤ wf.heap.size := by omega
            clear szf
            have HOf := hide (OwnL.gr HO2.out gf)
            have HO1f := hide (OwnL.gr HO.out gf)
            have HRf := hide (HR.out.to gf)
            have HLT := hide (fun b h => (own_lt HO2.out b h).1)
            go_upto_region 17 with fail
            clear hwf xl x0 x1 x2 x3 x4 x5 x6 x7 xf yl y0 y1 y2 y3 y4 y5 y6 y7 yf r0 r1 r2 r3 r4 r5 HR HO HO2
            obtain ⟨yl, y0, y1, y2, y3, y4, y5, y6, y7, yf⟩ := HRf.out.ko
            go_wp2_with (refine wpList_app2 rfl _ _ _ rfl hoL wT.heap.size 29 6 48 elHo (by decide) M1 f M2 HM2.out (.slice A2 M1.length d2) rfl (OwnL.gr HOf.out (Gr.alloc (Gr.refl _) _)) ⟨wf.heap.size, 0, none⟩ 1 rfl rfl (rd1_ho wf f) (one_ho f) (by omega) (by decide) (by simp only [World.size_alloc]; omega) ?_; intro gg cap1 w8 hO8 hG8 hgr8 hown8 hlt8; have KO8 := (HRf.out.to (Gr.alloc (Gr.refl _) _)).ko.grown hgr8 (fun e => by have := HLT.out _ e.symm; omega); obtain ⟨vl, v0, v1, v2, v3, v4, v5, v6, v7, vf⟩ := KO8)
            have g8 : Gr w w8 := hG8 _ (HRf.out.gr.trans (Gr.alloc (Gr.refl _) _)) (by omega)
            have R8 := hide ((HRf.out.to (Gr.alloc (Gr.refl _) _)).app7 hgr8 (fun b hb => by have := HLT.out _ hb; omega) hBo g8 (.slice (some ⟨gg, 0, none⟩) M2.length cap1))
            have O8 := hide (own_set1 (B := Bo) (i := 7) hO8 (by omega) (.slice (some ⟨gg, 0, none⟩) M2.length cap1))
            have P8 := hide (own_set1 (B := Bo) (i := 7) (own_grw (OwnL.gr HO1f.out (Gr.alloc (Gr.refl _) _)) hgr8 (fun b hb e => by have := HBT.out b hb; have := HLT.out b e.symm; omega)) (by omega) (.slice (some ⟨gg, 0, none⟩) M2.length cap1))
            have s8 : wT.heap.size ≤ (w8.setCell ⟨Bo, 7, none⟩ (.slice (some ⟨gg, 0, none⟩) M2.length cap1)).heap.size := by
              rw [World.size_setCell]
              have := hgr8.size
              simp only [World.size_alloc] at this
              omega
            go_roundw
            case rel => exact ⟨k + 1, some ⟨gg, 0, none⟩, cap1, M2, by omega, by go_num, by rw [RA.out, HMM.out]; exact HM2.out, R8, P8, O8, s8⟩
            case measure => simp only [intOf]; omega
        · obtain rfl : k = p.ho.length := by omega
          have HME := hide (show p.ho.map (loH ((i : Int) + 1)) = M1 by have := HMM.out; rwa [List.take_length] at this)
          obtain ⟨zl, z0, z1, z2, z3, z4, z5, z6, z7, zf⟩ := HR.out.kr
          go_wp2_with fail
          simp only [HLE.out, HME.out]
          exact edRr_fin (base := Bo + 1) (q := ⟨p.nm, p.mt, p.ga, p.gr, p.wd, p.ht, L, M1⟩) rfl rfl rfl rfl HR.out.kr (by omega) ⟨by omega, by omega⟩ HO.out (HO2.out.weak lT0) (fun b h1 h2 => by have := HBT.out b h1; have := (own_lt HO2.out b h2).1; omega) gW
end Go.Proofs.Ytefjgfglommefaa
set_option linter.unusedVariables false
set_option linter.unusedSimpArgs false
namespace Go.Proofs.Ytefjgfglommefaa
set_option linter.unusedVariables false
set_option linter.unusedSimpArgs false
open Go Go.ChangeShapes Go.WideShapes Go.ChangeAt Go.RowKit Go.Deep

theorem res8e {a : Act} {w : World} {B : Nat} {a0 a1 a2 a3 a4 a5 a6 a7 : Value} (ht : a.tmps[4]?.getD undef = .pointer (some ⟨B, 0, none⟩)) (h : Bx8 w B a0 a1 a2 a3 a4 a5 a6 a7) : (results Try.f20 a.tmps).run Try.prog w = .ok (.agg #[a0, a1, a2, a3, a4, a5, a6, a7]) w := by
  obtain ⟨h0, h1, h2, h3, h4, h5, h6, h7, h8, h9⟩ := h
  simp [results, Try.results20, go_sem, ht, h1, h2, h3, h4, h5, h6, h7, h8]
theorem edRe_fin {w W : World} {q : Pa} {a : Act} {base B : Nat} {A' : Option Addr} {c' : Nat} {B' : Option Addr} {d' n m : Nat} (hn : q.fl.length = n) (hm : q.ho.length = m) {b0 b1 b2 b3 b4 b5 b6 b7 : Value} (ht : a.tmps[4]?.getD undef = .pointer (some ⟨B, 0, none⟩)) (hd : a.defers = []) (hK : Bx8 W B b0 b1 b2 b3 b4 b5 b6 b7) (hb : w.heap.size ≤ base) (hB : w.heap.size ≤ B ∧ B < base) (o1 : OwnL W base 27 7 flL (.slice A' n c') q.fl) (o2 : OwnL W base 29 6 hoL (.slice B' m d') q.ho) (dj : DJ (.slice A' n c') (.slice B' m d')) (g : Gr w W) :
    bodyPost Try.prog Try.f20 (fun e w' => EdR w w' q e) .ret a (st8 W B (.string q.nm) (.string q.mt) (iv q.ga) (iv q.gr) (iv q.wd) (iv q.ht) (.slice A' n c') (.slice B' m d')) :=
  by subst hn hm; exact bodyPost_ret (res8e ht (hK.st _ _ _ _ _ _ _ _)) hd (edR_end _ _ _ _ _ _ _ _ hb hB o1 o2 dj g)
theorem edRe_find {w W : World} {q : Pa} {a : Act} {base B : Nat} {A' : Option Addr} {c' : Nat} {B' : Option Addr} {d' n m : Nat} (hn : q.fl.length = n) (hm : q.ho.length = m) {b0 b1 b2 b3 b4 b5 b6 b7 : Value} (ht : a.tmps[4]?.getD undef = .pointer (some ⟨B, 0, none⟩)) (hd : a.defers = []) (hK : Bx8 W B b0 b1 b2 b3 b4 b5 b6 b7) (hb : w.heap.size ≤ base) (hB : w.heap.size ≤ B ∧ B < base) (o1 : OwnL W base 27 7 flL (.slice A' n c') q.fl) (o2 : OwnL W base 29 6 hoL (.slice B' m d') q.ho) (dj : DJ (.slice A' n c') (.slice B' m d')) (g : Gr w W) :
    bodyPost Try.prog Try.f20 (fun e w' => EdR w w' q e) .ret a (st8 W B (.string q.nm) (.string q.mt) (iv q.ga) (iv q.gr) (iv q.wd) (iv q.ht) (.slice A' n c') (.slice B' m d')).drew := by
  subst hn hm
  obtain ⟨A2, c2, B2, d2, he, p1, p2, p3, p4⟩ := edR_end (q := q) (.string q.nm) (.string q.mt) (iv q.ga) (iv q.gr) (iv q.wd) (iv q.ht) (.slice A' q.fl.length c') (.slice B' q.ho.length d') hb hB o1 o2 dj g
  exact bodyPost_ret (res8e ht (hK.st _ _ _ _ _ _ _ _).drew) hd ⟨A2, c2, B2, d2, he, own_kb p1 (Kb.refl (lo := w.heap.size) (hi := (st8 W B (.string q.nm) (.string q.mt) (iv q.ga) (iv q.gr) (iv q.wd) (iv q.ht) (.slice A' q.fl.length c') (.slice B' q.ho.length d')).heap.size) _).drew (Nat.le_refl _) (Nat.le_refl _), own_kb p2 (Kb.refl (lo := w.heap.size) (hi := (st8 W B (.string q.nm) (.string q.mt) (iv q.ga) (iv q.gr) (iv q.wd) (iv q.ht) (.slice A' q.fl.length c') (.slice B' q.ho.length d')).heap.size) _).drew (Nat.le_refl _) (Nat.le_refl _), p3, p4.drew⟩
/-- the variables of edited: the part, the edit, the result, what grows -/
structure RmE (w wr : World) (Bo : Nat) (p : Pa) (A : Option Addr) (c : Nat) (B : Option Addr) (d : Nat) (x : Ed) (u v : Value) : Prop where
  gr : Gr w wr
  sz : Bo < wr.heap.size
  kp : Bx8 wr w.heap.size (.string p.nm) (.string p.mt) (iv p.ga) (iv p.gr) (iv p.wd) (iv p.ht) (.slice A p.fl.length c) (.slice B p.ho.length d)
  ke : BxE wr (w.heap.size + 1) x
  kr : Bx8 wr (w.heap.size + 1 + 1) (.string ⟨#[]⟩) (.string ⟨#[]⟩) (iv 0) (iv 0) (iv 0) (iv 0) (.slice none 0 0) (.slice none 0 0)
  ko : Bx8 wr Bo (.string p.nm) (.string p.mt) (iv p.ga) (iv p.gr) (iv p.wd) (iv p.ht) u v
theorem RmE.to {w wr wx : World} {Bo : Nat} {p : Pa} {A : Option Addr} {c : Nat} {B : Option Addr} {d : Nat} {x : Ed} {u v : Value} (h : RmE w wr Bo p A c B d x u v) (g : Gr wr wx) : RmE w wx Bo p A c B d x u v :=
  ⟨h.gr.trans g, Nat.lt_of_lt_of_le h.sz g.size, h.kp.gr g, h.ke.gr g, h.kr.gr g, h.ko.gr g⟩
theorem BxE.blk {w w' : World} {B : Nat} {x : Ed} (h : BxE w B x) (hb : w'.heap[B]? = w.heap[B]?) : BxE w' B x := by
  have hc : ∀ o, w'.cell? ⟨B, o, none⟩ = w.cell? ⟨B, o, none⟩ := fun o => World.cell?_of_block (a := ⟨B, o, none⟩) hb
  exact ⟨cell_lt (by rw [(hc 0).trans h.c0]; rfl), (hc 0).trans h.c0, (hc 1).trans h.c1, (hc 2).trans h.c2, (hc 3).trans h.c3, (hc 4).trans h.c4, (hc 5).trans h.c5, (hc 6).trans h.c6, (hc 7).trans h.c7, (hc 8).trans h.c8, (hc 9).trans h.c9, (hc 10).trans h.c10, (hc 11).trans h.c11, (hc 12).trans h.c12, (hc 13).trans h.c13, (hc 14).trans h.c14, (hc 15).trans h.c15, (hc 16).trans h.c16⟩
theorem RmE.set7 {w wr : World} {Bo : Nat} {p : Pa} {A : Option Addr} {c : Nat} {B : Option Addr} {d : Nat} {x : Ed} {u v : Value} (h : RmE w wr Bo p A c B d x u v) (hw : w.heap.size + 1 + 1 < Bo) (z : Value) : RmE w (wr.setCell ⟨Bo, 7, none⟩ z) Bo p A c B d x u z :=
  ⟨Gr.setCell h.gr (by dsimp only; omega) _, by rw [World.size_setCell]; exact h.sz, h.kp.set1 (by omega) _, h.ke.blk (Below.heap_setCell wr ⟨Bo, 7, none⟩ z (w.heap.size + 1) (by show w.heap.size + 1 ≠ Bo; omega)), h.kr.set1 (by omega) _, h.ko.put7 _⟩
theorem RmE.grown {w wr wx : World} {Bo : Nat} {p : Pa} {A : Option Addr} {c : Nat} {B : Option Addr} {d : Nat} {x : Ed} {u v : Value} {row : Option Nat} (h : RmE w wr Bo p A c B d x u v) (hg : wr.grownBy wx row) (hr : ∀ b, row = some b → Bo < b) (hw : w.heap.size + 1 + 1 < Bo) (g : Gr w wx) : RmE w wx Bo p A c B d x u v :=
  ⟨g, Nat.lt_of_lt_of_le h.sz hg.size, h.kp.grown hg (fun e => by have := hr _ e.symm; omega), h.ke.blk (hg.block _ h.ke.lt (fun e => by have := hr _ e.symm; omega)), h.kr.grown hg (fun e => by have := hr _ e.symm; omega), h.ko.grown hg (fun e => by have := hr _ e.symm; omega)⟩
set_option maxHeartbeats 8000000 in
set_option maxRecDepth 100000 in
theorem rEdited_any (p : Pa) (A B : Option Addr) (c d : Nat) (x : Ed) (w : World) (hP : PaW w p A c B d) (hv : valE p = 0) (hc : ceE p x = 0) :
    Calls Try.prog 20 #[pav p A c B d, edv x] w fun e w' => EdR w w' (edP p x) e := by
  have HC := hide (fun (w' : World) (g : Gr w w') => copyD_any p A B c d w' (hP.gr g))
  have hG := good_of hv
  have n1 := hG.nfl
  have n2 := hG.nho
  have HRM := hide (fun (i : Nat) (hi : i < p.fl.length) (w' : World) (g : Gr w w') => remove_any p A B c d i w' (hP.gr g) hi (fun f hf => by
    obtain ⟨j, hj⟩ := List.mem_iff_getElem?.1 hf
    have := pa_le hv hj
    have := (List.getElem?_eq_some_iff.1 hj).1
    omega) (fun f hf => by have := fa_le hv f hf; omega))
  have HP := hide hP
  have hce := ce_zero hc
  clear hP hv hc hG
  obtain ⟨k, xi, fl, ho, ww, hh⟩ := x
  dsimp only at hce
  obtain ⟨w0, hw0⟩ : ∃ w0, ((w.alloc (.cells #[.string p.nm, .string p.mt, iv p.ga, iv p.gr, iv p.wd, iv p.ht, .slice A p.fl.length c, .slice B p.ho.length d] 25)).alloc (.cells #[iv k, iv xi, .string fl.nm, iv fl.pa, iv fl.sd, iv fl.o, iv fl.wd, iv fl.ln, iv fl.an, iv ho.fa, iv ho.kd, iv ho.x, iv ho.y, iv ho.w, iv ho.h, iv ww, iv hh] 31)).alloc (.cells #[.string ⟨#[]⟩, .string ⟨#[]⟩, iv 0, iv 0, iv 0, iv 0, .slice none 0 0, .slice none 0 0] 25) = w0 := ⟨_, rfl⟩
  have gw0 : Gr w w0 := by rw [← hw0]; exact Gr.alloc (Gr.alloc (Gr.alloc (Gr.refl _) _) _) _
  have s0 : w0.heap.size = w.heap.size + 3 := by rw [← hw0]; simp
  have kp : Bx8 w0 w.heap.size (.string p.nm) (.string p.mt) (iv p.ga) (iv p.gr) (iv p.wd) (iv p.ht) (.slice A p.fl.length c) (.slice B p.ho.length d) := by rw [← hw0]; constructor <;> simp [go_sem]
  have ke : BxE w0 (w.heap.size + 1) ⟨k, xi, fl, ho, ww, hh⟩ := by rw [← hw0]; constructor <;> simp [go_sem]
  have kr : Bx8 w0 (w.heap.size + 1 + 1) (.string ⟨#[]⟩) (.string ⟨#[]⟩) (iv 0) (iv 0) (iv 0) (iv 0) (.slice none 0 0) (.slice none 0 0) := by rw [← hw0]; constructor <;> simp [go_sem]
  obtain ⟨xl, x0, x1, x2, x3, x4, x5, x6, x7, xf⟩ := id kp
  have KP := hide kp
  have KE := hide ke
  have KR := hide kr
  clear kp ke kr
  go_enter Try.func20, Try.ntmps20
  go_upto_region 1 with fail
  clear hw0
  go_wp2_with fail
  refine (HC.out _ gw0).mono ?_
  rintro e w1 ⟨A1, c1, B1, d1, rfl, o1, o2, dj, g1⟩
  have z1 := g1.size
  clear xl x0 x1 x2 x3 x4 x5 x6 x7 xf HC
  go_upto_region 2 with fail
  generalize hW : World.alloc w1 _ = W
  have g1W : Gr w1 W := by rw [← hW]; exact Gr.alloc (Gr.refl _) _
  have sW : W.heap.size = w1.heap.size + 1 := by rw [← hW]; simp
  have ko : Bx8 W w1.heap.size (.string p.nm) (.string p.mt) (iv p.ga) (iv p.gr) (iv p.wd) (iv p.ht) (.slice A1 p.fl.length c1) (.slice B1 p.ho.length d1) := by rw [← hW]; constructor <;> simp [go_sem]
  have KO := hide ko
  have KPW := hide ((KP.out.gr g1).gr g1W)
  have KEW := hide ((KE.out.gr g1).gr g1W)
  have KRW := hide ((KR.out.gr g1).gr g1W)
  have O1 := hide (OwnL.gr o1 g1W)
  have O2 := hide (OwnL.gr o2 g1W)
  have HN1 := hide (fun b h => (own_lt o1 b h))
  have HN2 := hide (fun b h => (own_lt o2 b h))
  have DJ1 := hide dj
  have gW : Gr w W := (gw0.trans g1).trans g1W
  clear hW ko KP KE KR o1 o2 dj g1W g1
  generalize w1.heap.size = Bo at *
  have E0 := KEW.out.c0
  have E1 := KEW.out.c1
  have el := KEW.out.lt
  dsimp only at E0 E1
  obtain ⟨xl, x0, x1, x2, x3, x4, x5, x6, x7, xf⟩ := KO.out
  obtain ⟨yl, y0, y1, y2, y3, y4, y5, y6, y7, yf⟩ := KRW.out
  rcases hce with rfl | rfl | rfl | ⟨rfl, i, hxi, hi⟩ | ⟨rfl, ⟨i, hxi, hi⟩, hu⟩ | ⟨rfl, i, hxi, hi⟩
  · -- the base is set
    have HE := hide (show edP p ⟨1, xi, fl, ho, ww, hh⟩ = ⟨p.nm, p.mt, p.ga, p.gr, ww, hh, p.fl, p.ho⟩ by unfold edP; simp)
    have e15 := KEW.out.c15
    have e16 := KEW.out.c16
    dsimp only at e15 e16
    go_upto_region 3 with fail
    go_region
    all_goals
      go_wp2_with fail
      simp only [HE.out]
      exact edRe_find (base := w0.heap.size) (q := ⟨p.nm, p.mt, p.ga, p.gr, ww, hh, p.fl, p.ho⟩) rfl rfl rfl rfl (KRW.out.set2 (by omega) _ _) (by omega) ⟨by omega, by omega⟩ (own_other (own_other O1.out (fun e => by have := (HN1.out _ e).2; omega) _) (fun e => by have := (HN1.out _ e).2; omega) _) (own_other (own_other O2.out (fun e => by have := (HN2.out _ e).2; omega) _) (fun e => by have := (HN2.out _ e).2; omega) _) DJ1.out (Gr.setCell (Gr.setCell gW (by dsimp only; omega) _) (by dsimp only; omega) _)
  · -- kind 3
    have HE := hide (show edP p ⟨3, xi, fl, ho, ww, hh⟩ = ⟨p.nm, p.mt, p.ga, p.gr, p.wd, p.ht, p.fl ++ [fl], p.ho⟩ by unfold edP; simp)
    have e2 := KEW.out.c2
    have e3 := KEW.out.c3
    have e4 := KEW.out.c4
    have e5 := KEW.out.c5
    have e6 := KEW.out.c6
    have e7 := KEW.out.c7
    have e8 := KEW.out.c8
    dsimp only at e2 e3 e4 e5 e6 e7 e8
    obtain ⟨M2, hM2⟩ : ∃ M, p.fl ++ [fl] = M := ⟨_, rfl⟩
    rw [hM2] at HE
    have HM := hide hM2
    have lW : w0.heap.size ≤ W.heap.size := by omega
    have lB : Bo < W.heap.size := by omega
    have l1 : w.heap.size + 1 < W.heap.size := by omega
    clear hM2 sW
    have gal : Gr W (W.alloc (.cells #[.string fl.nm, iv fl.pa, iv fl.sd, iv fl.o, iv fl.wd, iv fl.ln, iv fl.an] 27)) := Gr.alloc (Gr.refl _) _
    go_wp2_with (refine wpList_app2 rfl _ _ _ rfl flL w0.heap.size 27 7 64 elFl (by decide) p.fl fl M2 HM.out (.slice A1 p.fl.length c1) rfl (OwnL.gr O1.out gal) ⟨W.heap.size, 0, none⟩ 1 rfl rfl (rd1_fl W fl) (one_fl fl) (by omega) (by decide) (by simp only [World.size_alloc]; omega) ?_; intro gg cap1 w8 hO8 hG8 hgr8 hown8 hlt8; have KP8 := (KO.out.gr gal).grown hgr8 (fun e => by have := (HN1.out _ e.symm).2; omega); have KR8 := (KRW.out.gr gal).grown hgr8 (fun e => by have := (HN1.out _ e.symm).1; omega); have KE8 := hide KR8; have ke0 : w8.cell? ⟨w.heap.size + 1, 0, none⟩ = some (iv 3) := (World.cell?_of_block (a := ⟨w.heap.size + 1, 0, none⟩) (hgr8.block (w.heap.size + 1) (by simp only [World.size_alloc]; omega) (fun e => by have := (HN1.out _ e.symm).1; omega))).trans ((gal.cell _ _ l1).trans E0); have kel : w.heap.size + 1 < w8.heap.size := Nat.lt_of_lt_of_le (by simp only [World.size_alloc]; omega) hgr8.size; obtain ⟨k0, z0, z1', z2, z3, z4, z5, z6, z7, zf⟩ := KP8; obtain ⟨k1, t0, t1, t2, t3, t4, t5, t6, t7, tf⟩ := KR8)
    simp only [HE.out]
    have g8 : Gr w w8 := hG8 _ (gW.trans gal) (by omega)
    have hgb : ¬ gg = Bo := fun e => by
      rcases hown8 with h | h
      · have := (HN1.out _ h).2; omega
      · simp only [World.size_alloc] at h; omega
    have d8 : DJ (.slice (some ⟨gg, 0, none⟩) M2.length cap1) (.slice B1 p.ho.length d1) := fun b h1 h2 => by
      obtain rfl : gg = b := by simpa [Value.ownBlock] using h1
      rcases hown8 with h | h
      · exact DJ1.out _ h h2
      · have := (HN2.out _ h2).2
        simp only [World.size_alloc] at h
        omega
    have o8 := own_grw (O2.out.gr gal) hgr8 (fun b hb e => DJ1.out b e.symm hb)
    exact edRe_fin (base := w0.heap.size) (q := ⟨p.nm, p.mt, p.ga, p.gr, p.wd, p.ht, M2, p.ho⟩) rfl rfl rfl rfl (KE8.out.set1 (by omega) _) (by omega) ⟨by omega, by omega⟩ (own_other hO8 (fun e => hgb (by simpa [Value.ownBlock] using e)) _) (own_other o8 (fun e => by have := (HN2.out _ e).2; omega) _) d8 (Gr.setCell g8 (by dsimp only; omega) _)
  · -- kind 5
    have HE := hide (show edP p ⟨5, xi, fl, ho, ww, hh⟩ = ⟨p.nm, p.mt, p.ga, p.gr, p.wd, p.ht, p.fl, p.ho ++ [ho]⟩ by unfold edP; simp)
    have e9 := KEW.out.c9
    have e10 := KEW.out.c10
    have e11 := KEW.out.c11
    have e12 := KEW.out.c12
    have e13 := KEW.out.c13
    have e14 := KEW.out.c14
    dsimp only at e9 e10 e11 e12 e13 e14
    obtain ⟨M2, hM2⟩ : ∃ M, p.ho ++ [ho] = M := ⟨_, rfl⟩
    rw [hM2] at HE
    have HM := hide hM2
    have lW : w0.heap.size ≤ W.heap.size := by omega
    have lB : Bo < W.heap.size := by omega
    have l1 : w.heap.size + 1 < W.heap.size := by omega
    clear hM2 sW
    have gal : Gr W (W.alloc (.cells #[iv ho.fa, iv ho.kd, iv ho.x, iv ho.y, iv ho.w, iv ho.h] 29)) := Gr.alloc (Gr.refl _) _
    go_wp2_with (refine wpList_app2 rfl _ _ _ rfl hoL w0.heap.size 29 6 48 elHo (by decide) p.ho ho M2 HM.out (.slice B1 p.ho.length d1) rfl (OwnL.gr O2.out gal) ⟨W.heap.size, 0, none⟩ 1 rfl rfl (rd1_ho W ho) (one_ho ho) (by omega) (by decide) (by simp only [World.size_alloc]; omega) ?_; intro gg cap1 w8 hO8 hG8 hgr8 hown8 hlt8; have KP8 := (KO.out.gr gal).grown hgr8 (fun e => by have := (HN2.out _ e.symm).2; omega); have KR8 := (KRW.out.gr gal).grown hgr8 (fun e => by have := (HN2.out _ e.symm).1; omega); have KE8 := hide KR8; have ke0 : w8.cell? ⟨w.heap.size + 1, 0, none⟩ = some (iv 5) := (World.cell?_of_block (a := ⟨w.heap.size + 1, 0, none⟩) (hgr8.block (w.heap.size + 1) (by simp only [World.size_alloc]; omega) (fun e => by have := (HN2.out _ e.symm).1; omega))).trans ((gal.cell _ _ l1).trans E0); have kel : w.heap.size + 1 < w8.heap.size := Nat.lt_of_lt_of_le (by simp only [World.size_alloc]; omega) hgr8.size; obtain ⟨k0, z0, z1', z2, z3, z4, z5, z6, z7, zf⟩ := KP8; obtain ⟨k1, t0, t1, t2, t3, t4, t5, t6, t7, tf⟩ := KR8)
    simp only [HE.out]
    have g8 : Gr w w8 := hG8 _ (gW.trans gal) (by omega)
    have hgb : ¬ gg = Bo := fun e => by
      rcases hown8 with h | h
      · have := (HN2.out _ h).2; omega
      · simp only [World.size_alloc] at h; omega
    have d8 : DJ (.slice A1 p.fl.length c1) (.slice (some ⟨gg, 0, none⟩) M2.length cap1) := fun b h1 h2 => by
      obtain rfl : gg = b := by simpa [Value.ownBlock] using h2
      rcases hown8 with h | h
      · exact DJ1.out _ h1 h
      · have := (HN1.out _ h1).2
        simp only [World.size_alloc] at h
        omega
    have o8 := own_grw (O1.out.gr gal) hgr8 (fun b hb e => DJ1.out b hb e.symm)
    exact edRe_fin (base := w0.heap.size) (q := ⟨p.nm, p.mt, p.ga, p.gr, p.wd, p.ht, p.fl, M2⟩) rfl rfl rfl rfl (KE8.out.set1 (by omega) _) (by omega) ⟨by omega, by omega⟩ (own_other o8 (fun e => by have := (HN1.out _ e).2; omega) _) (own_other hO8 (fun e => hgb (by simpa [Value.ownBlock] using e)) _) d8 (Gr.setCell g8 (by dsimp only; omega) _)
  · -- kind 2
    subst hxi
    have HE := hide (show edP p ⟨2, (i : Int), fl, ho, ww, hh⟩ = ⟨p.nm, p.mt, p.ga, p.gr, p.wd, p.ht, p.fl.set i fl, p.ho⟩ by unfold edP; simp)
    have e2 := KEW.out.c2
    have e3 := KEW.out.c3
    have e4 := KEW.out.c4
    have e5 := KEW.out.c5
    have e6 := KEW.out.c6
    have e7 := KEW.out.c7
    have e8 := KEW.out.c8
    dsimp only at e2 e3 e4 e5 e6 e7 e8
    obtain ⟨f, hf⟩ : ∃ f, p.fl[i]? = some f := ⟨_, List.getElem?_eq_getElem hi⟩
    obtain ⟨b, hA, hb, hbl, hcl, hfz⟩ := own_at0 (c := flL) (s := 7) (fun _ => rfl) O1.out hf
    subst hA
    have c0 := hcl 0 (.string f.nm) (by omega) rfl
    have c1' := hcl 1 (iv f.pa) (by omega) rfl
    have c2 := hcl 2 (iv f.sd) (by omega) rfl
    have c3 := hcl 3 (iv f.o) (by omega) rfl
    have c4 := hcl 4 (iv f.wd) (by omega) rfl
    have c5 := hcl 5 (iv f.ln) (by omega) rfl
    have c6 := hcl 6 (iv f.an) (by omega) rfl
    rw [Nat.add_zero] at c0
    have hbB := (HN1.out b rfl).2
    have hneo : ¬ Bo = b := by omega
    have hnee : ¬ w.heap.size + 1 = b := by omega
    have hne2 : ¬ w.heap.size + 1 + 1 = b := by omega
    have hi0 : (0 : Int) ≤ (i : Int) := by omega
    have hi1 : (i : Int) < (p.fl.length : Int) := by omega
    have lB : Bo < W.heap.size := by omega
    clear sW
    obtain ⟨W2, hW2⟩ : ∃ W2, W.setCells b (i * 7) (flL fl) = W2 := ⟨_, rfl⟩
    have OP := hide (own_put (c := flL) (s := 7) (fun _ => rfl) O1.out hi fl)
    have OT := hide (But.own (But.over b (flL fl) (i * 7) W) O2.out (fun e => DJ1.out b rfl e))
    have OG := hide (gr_over (a := w) (show w.heap.size ≤ b by omega) (flL fl) (i * 7) gW)
    have OK := hide (KRW.out.blk ((But.over b (flL fl) (i * 7) W).block (w.heap.size + 1 + 1) hne2))
    have OK2 := hide (KO.out.blk ((But.over b (flL fl) (i * 7) W).block Bo hneo))
    have OK3 := hide ((World.cell?_of_block (a := ⟨w.heap.size + 1, 0, none⟩) ((But.over b (flL fl) (i * 7) W).block (w.heap.size + 1) hnee)).trans E0)
    have OS := hide ((But.over b (flL fl) (i * 7) W).size)
    rw [hW2] at OP OT OG OK OK2 OK3 OS
    have hW3 : ((((((W.setCell ⟨b, i * 7, none⟩ (.string fl.nm)).setCell ⟨b, i * 7 + 1, none⟩ (iv fl.pa)).setCell ⟨b, i * 7 + 2, none⟩ (iv fl.sd)).setCell ⟨b, i * 7 + 3, none⟩ (iv fl.o)).setCell ⟨b, i * 7 + 4, none⟩ (iv fl.wd)).setCell ⟨b, i * 7 + 5, none⟩ (iv fl.ln)).setCell ⟨b, i * 7 + 6, none⟩ (iv fl.an) = W2 := hW2
    clear hcl hf hW2
    have l2 : w.heap.size + 1 < W2.heap.size := by rw [OS.out]; omega
    have m0 := OK3.out
    obtain ⟨vl, v0, v1, v2, v3, v4, v5, v6, v7, vf⟩ := OK2.out
    obtain ⟨tl, t0, t1, t2, t3, t4, t5, t6, t7, tf⟩ := OK.out
    go_upto_region 6 with fail
    clear hW3 xl x0 x1 x2 x3 x4 x5 x6 x7 xf yl y0 y1 y2 y3 y4 y5 y6 y7 yf c0 c1' c2 c3 c4 c5 c6 hfz E0
    go_wp2_with fail
    simp only [HE.out]
    have hl : (p.fl.set i fl).length = p.fl.length := List.length_set
    exact edRe_fin (W := W2) (base := w0.heap.size) (q := ⟨p.nm, p.mt, p.ga, p.gr, p.wd, p.ht, p.fl.set i fl, p.ho⟩) hl rfl rfl rfl OK.out (by omega) ⟨by omega, by omega⟩ OP.out OT.out DJ1.out OG.out
  · -- kind 4: remove
    subst hxi
    have HE := hide (show edP p ⟨4, (i : Int), fl, ho, ww, hh⟩ = ⟨p.nm, p.mt, p.ga, p.gr, p.wd, p.ht, (p.fl.eraseIdx i).map (loF ((i : Int) + 1)), p.ho.map (loH ((i : Int) + 1))⟩ by unfold edP; simp)
    have HR := hide (HRM.out i hi)
    obtain ⟨v0, v1, v2, v3, v4, v5, v6, v7, v8, v9⟩ := KPW.out
    clear HRM
    go_wp2_with fail
    refine (HR.out _ gW).mono ?_
    rintro e w9 ⟨A5, c5, B5, d5, rfl, o5, p5, dj5, g9⟩
    have KR9 := hide (KRW.out.gr g9)
    obtain ⟨k1, t0, t1, t2, t3, t4, t5, t6, t7, tf⟩ := KR9.out
    have lW : w.heap.size + 1 + 1 < W.heap.size := by omega
    go_wp2_with fail
    simp only [HE.out]
    have o6 : OwnL w9 W.heap.size 27 7 flL (.slice A5 (p.fl.eraseIdx i).length c5) ((p.fl.eraseIdx i).map (loF ((i : Int) + 1))) := by simpa only [List.length_map] using o5
    have p6 : OwnL w9 W.heap.size 29 6 hoL (.slice B5 p.ho.length d5) (p.ho.map (loH ((i : Int) + 1))) := by simpa only [List.length_map] using p5
    have dj6 : DJ (.slice A5 (p.fl.eraseIdx i).length c5) (.slice B5 p.ho.length d5) := by simpa only [List.length_map] using dj5
    exact edRe_fin (base := W.heap.size) (q := ⟨p.nm, p.mt, p.ga, p.gr, p.wd, p.ht, (p.fl.eraseIdx i).map (loF ((i : Int) + 1)), p.ho.map (loH ((i : Int) + 1))⟩) (List.length_map _) (List.length_map _) rfl rfl KR9.out (by omega) ⟨by omega, by omega⟩ o6 p6 dj6 (gW.trans g9)
  · -- kind 6
    subst hxi
    have HE := hide (show edP p ⟨6, (i : Int), fl, ho, ww, hh⟩ = ⟨p.nm, p.mt, p.ga, p.gr, p.wd, p.ht, p.fl, p.ho.eraseIdx i⟩ by unfold edP; simp)
    obtain ⟨i1, hi1, hy0, hy1, hy2⟩ := info_parts infoHo
    have hBo : w.heap.size + 1 + 1 < Bo := by omega
    have lB : Bo < W.heap.size := by omega
    have R0 := hide (RmE.set7 (p := p) (x := ⟨6, (i : Int), fl, ho, ww, hh⟩) ⟨gW, lB, KPW.out, KEW.out, KRW.out, KO.out⟩ hBo (.slice none 0 0))
    have P0 := hide (own_other (g := Bo) (i := 7) O1.out (fun e => by have := (HN1.out _ e).2; omega) (.slice none 0 0))
    obtain ⟨WS, hWS⟩ : ∃ WS, W.setCell ⟨Bo, 7, none⟩ (.slice none 0 0) = WS := ⟨_, rfl⟩
    have sWS : W.heap.size = WS.heap.size := by rw [← hWS]; simp
    rw [hWS] at R0 P0
    have HBT := hide (fun (b : Nat) (h : (Value.slice A1 p.fl.length c1).ownBlock = some b) => (show b < WS.heap.size by have := (HN1.out b h).2; omega))
    go_upto_region 14 with fail
    clear hWS xl x0 x1 x2 x3 x4 x5 x6 x7 xf yl y0 y1 y2 y3 y4 y5 y6 y7 yf E0 E1 el KO KPW KEW KRW O1 O2 DJ1 HRM
    obtain ⟨xl, x0, x1, x2, x3, x4, x5, x6, x7, xf⟩ := R0.out.kp
    obtain ⟨yl, y0, y1, y2, y3, y4, y5, y6, y7, yf⟩ := R0.out.ko
    go_wp2_with fail
    go_loopw [6] (fun iv' wr => ∃ (k : Nat) (A2 : Option Addr) (d2 m : Nat) (M1 : List Ho), k ≤ p.ho.length ∧ iv' = iv k ∧ m ≤ 1000 ∧ Hid (M1.length = m) ∧ Hid (rmL (fun y => y) p.ho i k = M1) ∧ Hid (RmE w wr Bo p A c B d ⟨6, (i : Int), fl, ho, ww, hh⟩ (.slice A1 p.fl.length c1) (.slice A2 m d2)) ∧ Hid (OwnL wr w0.heap.size 27 7 flL (.slice A1 p.fl.length c1) p.fl) ∧ Hid (OwnL wr WS.heap.size 29 6 hoL (.slice A2 m d2) M1) ∧ WS.heap.size ≤ wr.heap.size) (fun i' _ => p.ho.length - (intOf i').toNat)
    case atStart => exact ⟨0, none, 0, 0, [], by omega, rfl, by omega, rfl, rm_zero _ _ _, R0, P0, own_nil _ _ _ _ _, Nat.le_refl _⟩
    case round =>
      clear xl x0 x1 x2 x3 x4 x5 x6 x7 xf yl y0 y1 y2 y3 y4 y5 y6 y7 yf R0 P0 gW
      obtain ⟨k, A2, d2, m, M1, hk, rfl, hm, HML, HM, HR, HO, HO2, lT⟩ := hrel
      have gW := HR.out.gr
      obtain ⟨xl, x0, x1, x2, x3, x4, x5, x6, x7, xf⟩ := HR.out.kp
      obtain ⟨yl, y0, y1, y2, y3, y4, y5, y6, y7, yf⟩ := HR.out.ko
      have E1 := HR.out.ke.c1
      have el := HR.out.ke.lt
      dsimp only at E1
      have szr := HR.out.sz
      by_cases hkl : k < p.ho.length
      · obtain ⟨f, hf⟩ : ∃ f, p.ho[k]? = some f := ⟨_, List.getElem?_eq_getElem hkl⟩
        obtain ⟨b, off, hA, r0, r1, r2, r3, r4, r5⟩ := HP.out.ho.rd.ho hf
        subst hA
        have hb : b < w.heap.size := cell_lt (by rw [r0]; rfl)
        have r0 := (gW.cell _ _ hb).trans r0
        have r1 := (gW.cell _ _ hb).trans r1
        have r2 := (gW.cell _ _ hb).trans r2
        have r3 := (gW.cell _ _ hb).trans r3
        have r4 := (gW.cell _ _ hb).trans r4
        have r5 := (gW.cell _ _ hb).trans r5
        have hbr : b < wr.heap.size := by omega
        have HF := hide hf
        have hk0 : (0 : Int) ≤ (k : Int) := by omega
        have hk1 : (k : Int) < (p.ho.length : Int) := by omega
        have V6 : IntKind.i64.wrap ((k : Int) + 1) = (k : Int) + 1 := IntWalk.i64_in _ (by omega)
        clear hf
        by_cases hki : k = i
        · subst hki
          have hne : ((k : Int) != (k : Int)) = false := by simp
          have RS := hide (rm_skip (g := fun y : Ho => y) HF.out)
          go_wp2
          go_roundw
          case rel => exact ⟨k + 1, A2, d2, m, M1, by omega, by go_num, hm, HML, by rw [RS.out]; exact HM, HR, HO, HO2, lT⟩
          case measure => simp only [intOf]; omega
        · have hne : ((k : Int) != (i : Int)) = true := by rw [bne_iff_ne]; omega
          have RA := hide (show rmL (fun y : Ho => y) p.ho i (k + 1) = M1 ++ [f] by rw [rm_add HF.out hki, HM.out])
          have HLT := hide (fun (b : Nat) (h : (Value.slice A2 m d2).ownBlock = some b) => (own_lt HO2.out b h).1)
          have FIN := hide (show ∀ (w8 : World) (gg cap1 : Nat), w8.ownsRow WS.heap.size 29 6 (.slice (some ⟨gg, 0, none⟩) (m + 1) cap1) (m + 1) (M1.flatMap hoL ++ hoL f) → OwnL w8 WS.heap.size 29 6 hoL (.slice (some ⟨gg, 0, none⟩) (m + 1) cap1) (M1 ++ [f]) by
            intro w8 gg cap1 h
            unfold OwnL
            rw [fm_snoc, List.length_append, HML.out]
            exact h)
          have HOW := hide (show World.ownsRow wr WS.heap.size 29 6 (.slice A2 m d2) m (M1.flatMap hoL) by
            have := HO2.out
            unfold OwnL at this
            rwa [HML.out] at this)
          have HMM := hide (show (M1 ++ [f]).length = m + 1 by rw [List.length_append, HML.out]; rfl)
          clear HO2
          generalize hFL : M1.flatMap hoL = FL at *
          clear hFL
          have hm1 : m ≤ k := by
            have := rm_len (fun y : Ho => y) p.ho i k
            rw [HM.out, HML.out] at this
            exact this
          go_upto_region 18 with fail
          go_region_law (first
            | (refine step_append_lies _ (by rfl) _ _ _ (by rfl) WS.heap.size 29 i1 _ 6 48 Try.underlying23 hi1 hy0 hy1 hy2 rfl (by omega) _ m FL (by rfl) (own_gr HOW.out (by repeat (first | with_reducible exact Gr.refl _ | with_reducible assumption | with_reducible refine Gr.alloc ?_ _ | with_reducible refine Gr.drewN ?_ _ | with_reducible refine Gr.drew ?_ | with_reducible refine Gr.setCell ?_ (by first | (dsimp only; omega) | (simp only [World.size_alloc]; omega) | (with_reducible refine Gr.size ?_; (repeat (first | with_reducible exact Gr.refl _ | with_reducible assumption | with_reducible refine Gr.alloc ?_ _ | with_reducible refine Gr.drewN ?_ _ | with_reducible refine Gr.drew ?_ | with_reducible refine Gr.trans ?_ (by with_reducible assumption))); done)) _ | with_reducible refine Gr.trans ?_ (by with_reducible assumption)))) _ 1 1 (hoL f) (by rfl) (by rfl) (rd1_ho _ f) (one_ho _) (by omega) (by unfold maxLen; omega) (by omega) (Nat.le_trans lT (Gr.size (by repeat (first | with_reducible exact Gr.refl _ | with_reducible assumption | with_reducible refine Gr.alloc ?_ _ | with_reducible refine Gr.drewN ?_ _ | with_reducible refine Gr.drew ?_ | with_reducible refine Gr.setCell ?_ (by first | (dsimp only; omega) | (simp only [World.size_alloc]; omega) | (with_reducible refine Gr.size ?_; (repeat (first | with_reducible exact Gr.refl _ | with_reducible assumption | with_reducible refine Gr.alloc ?_ _ | with_reducible refine Gr.drewN ?_ _ | with_reducible refine Gr.drew ?_ | with_reducible refine Gr.trans ?_ (by with_reducible assumption))); done)) _ | with_reducible refine Gr.trans ?_ (by with_reducible assumption))))) _ rfl ?_; intro gg cap1 w8 hown8 hgrow hat hlt; (have k8 := Bx8.grown (HR.out.ko.gr (by repeat (first | with_reducible exact Gr.refl _ | with_reducible assumption | with_reducible refine Gr.alloc ?_ _ | with_reducible refine Gr.drewN ?_ _ | with_reducible refine Gr.drew ?_ | with_reducible refine Gr.setCell ?_ (by first | (dsimp only; omega) | (simp only [World.size_alloc]; omega) | (with_reducible refine Gr.size ?_; (repeat (first | with_reducible exact Gr.refl _ | with_reducible assumption | with_reducible refine Gr.alloc ?_ _ | with_reducible refine Gr.drewN ?_ _ | with_reducible refine Gr.drew ?_ | with_reducible refine Gr.trans ?_ (by with_reducible assumption))); done)) _ | with_reducible refine Gr.trans ?_ (by with_reducible assumption)))) hgrow (fun e => by have := HLT.out _ e.symm; omega)); obtain ⟨v0, v1, v2, v3, v4, v5, v6, v7, v8, v9⟩ := k8))
          all_goals
            have R8 := RmE.grown (HR.out.to (show Gr wr _ from (by repeat (first | with_reducible exact Gr.refl _ | with_reducible assumption | with_reducible refine Gr.alloc ?_ _ | with_reducible refine Gr.drewN ?_ _ | with_reducible refine Gr.drew ?_ | with_reducible refine Gr.setCell ?_ (by first | (dsimp only; omega) | (simp only [World.size_alloc]; omega) | (with_reducible refine Gr.size ?_; (repeat (first | with_reducible exact Gr.refl _ | with_reducible assumption | with_reducible refine Gr.alloc ?_ _ | with_reducible refine Gr.drewN ?_ _ | with_reducible refine Gr.drew ?_ | with_reducible refine Gr.trans ?_ (by with_reducible assumption))); done)) _ | with_reducible refine Gr.trans ?_ (by with_reducible assumption))))) hgrow (fun b hb => by have := HLT.out _ hb; omega) hBo (Gr.grown (show Gr w _ from gW.trans (by repeat (first | with_reducible exact Gr.refl _ | with_reducible assumption | with_reducible refine Gr.alloc ?_ _ | with_reducible refine Gr.drewN ?_ _ | with_reducible refine Gr.drew ?_ | with_reducible refine Gr.setCell ?_ (by first | (dsimp only; omega) | (simp only [World.size_alloc]; omega) | (with_reducible refine Gr.size ?_; (repeat (first | with_reducible exact Gr.refl _ | with_reducible assumption | with_reducible refine Gr.alloc ?_ _ | with_reducible refine Gr.drewN ?_ _ | with_reducible refine Gr.drew ?_ | with_reducible refine Gr.trans ?_ (by with_reducible assumption))); done)) _ | with_reducible refine Gr.trans ?_ (by with_reducible assumption)))) hgrow (fun k hk => by have := HLT.out _ hk; omega))
            have R9 := hide (R8.set7 hBo (.slice (some ⟨gg, 0, none⟩) (m + 1) cap1))
            have O8 := hide (own_set1 (B := Bo) (i := 7) (FIN.out w8 gg cap1 hown8) (by omega) (.slice (some ⟨gg, 0, none⟩) (m + 1) cap1))
            have P8 := hide (own_other (g := Bo) (i := 7) (own_grw (OwnL.gr HO.out (show Gr wr _ from (by repeat (first | with_reducible exact Gr.refl _ | with_reducible assumption | with_reducible refine Gr.alloc ?_ _ | with_reducible refine Gr.drewN ?_ _ | with_reducible refine Gr.drew ?_ | with_reducible refine Gr.setCell ?_ (by first | (dsimp only; omega) | (simp only [World.size_alloc]; omega) | (with_reducible refine Gr.size ?_; (repeat (first | with_reducible exact Gr.refl _ | with_reducible assumption | with_reducible refine Gr.alloc ?_ _ | with_reducible refine Gr.drewN ?_ _ | with_reducible refine Gr.drew ?_ | with_reducible refine Gr.trans ?_ (by with_reducible assumption))); done)) _ | with_reducible refine Gr.trans ?_ (by with_reducible assumption))))) hgrow (fun b hb e => by have := HBT.out b hb; have := HLT.out b e.symm; omega)) (fun e => by have := (HN1.out _ e).2; omega) (.slice (some ⟨gg, 0, none⟩) (m + 1) cap1))
            have s8 : WS.heap.size ≤ (w8.setCell ⟨Bo, 7, none⟩ (.slice (some ⟨gg, 0, none⟩) (m + 1) cap1)).heap.size := by
              rw [World.size_setCell]
              exact Nat.le_trans lT (Nat.le_trans (Gr.size (show Gr wr _ from (by repeat (first | with_reducible exact Gr.refl _ | with_reducible assumption | with_reducible refine Gr.alloc ?_ _ | with_reducible refine Gr.drewN ?_ _ | with_reducible refine Gr.drew ?_ | with_reducible refine Gr.setCell ?_ (by first | (dsimp only; omega) | (simp only [World.size_alloc]; omega) | (with_reducible refine Gr.size ?_; (repeat (first | with_reducible exact Gr.refl _ | with_reducible assumption | with_reducible refine Gr.alloc ?_ _ | with_reducible refine Gr.drewN ?_ _ | with_reducible refine Gr.drew ?_ | with_reducible refine Gr.trans ?_ (by with_reducible assumption))); done)) _ | with_reducible refine Gr.trans ?_ (by with_reducible assumption))))) (World.grownBy.size hgrow))
            clear hown8 hgrow hat hlt FIN HOW R8 HR HO
            go_wp2
            go_roundw
            case rel => exact ⟨k + 1, some ⟨gg, 0, none⟩, cap1, m + 1, M1 ++ [f], by omega, by go_num, by omega, HMM, RA, R9, P8, O8, s8⟩
            case measure => simp only [intOf]; omega
      · obtain rfl : k = p.ho.length := by omega
        have HME := hide (show p.ho.eraseIdx i = M1 by have := HM.out; rw [rm_all] at this; simpa using this)
        obtain ⟨zl, z0, z1, z2, z3, z4, z5, z6, z7, zf⟩ := HR.out.kr
        go_wp2_with fail
        simp only [HE.out, HME.out]
        exact edRe_fin (base := w0.heap.size) (q := ⟨p.nm, p.mt, p.ga, p.gr, p.wd, p.ht, p.fl, M1⟩) rfl HML.out rfl rfl HR.out.kr (by omega) ⟨by omega, by omega⟩ HO.out (HO2.out.weak (by omega)) (fun b h1 h2 => by have := HBT.out b h1; have := (own_lt HO2.out b h2).1; omega) gW
end Go.Proofs.Ytefjgfglommefaa
set_option linter.unusedVariables false
set_option linter.unusedSimpArgs false
namespace Go.Proofs.Ytefjgfglommefaa
set_option linter.unusedVariables false
set_option linter.unusedSimpArgs false
open Go Go.ChangeShapes Go.WideShapes Go.ChangeAt Go.RowKit Go.Deep

theorem rres9 {a : Act} {w : World} {B : Nat} {u a0 a1 a2 a3 a4 a5 a6 a7 : Value} (ht : a.tmps[4]?.getD undef = .pointer (some ⟨B, 0, none⟩)) (hu : a.tmps[5]?.getD undef = u) (h : Bx8 w B a0 a1 a2 a3 a4 a5 a6 a7) : (results Try.f9 a.tmps).run Try.prog w = .ok (.tuple #[.agg #[a0, a1, a2, a3, a4, a5, a6, a7], u]) w := by
  obtain ⟨h0, h1, h2, h3, h4, h5, h6, h7, h8, h9⟩ := h
  simp [results, Try.results9, go_sem, ht, hu, h1, h2, h3, h4, h5, h6, h7, h8]
theorem rapR_fin {w W : World} {q : Pa} {E : Int} {a : Act} {B : Nat} {A' : Option Addr} {c' : Nat} {B' : Option Addr} {d' lo : Nat} {b0 b1 b2 b3 b4 b5 b6 b7 : Value} (ht : a.tmps[4]?.getD undef = .pointer (some ⟨B, 0, none⟩)) (hu : a.tmps[5]?.getD undef = iv E) (hd : a.defers = []) (hK : Bx8 W B b0 b1 b2 b3 b4 b5 b6 b7) (hB : w.heap.size ≤ B ∧ B < lo) (o1 : OwnL W lo 27 7 flL (.slice A' q.fl.length c') q.fl) (o2 : OwnL W lo 29 6 hoL (.slice B' q.ho.length d') q.ho) (dj : DJ (.slice A' q.fl.length c') (.slice B' q.ho.length d')) (g : Gr w W) :
    bodyPost Try.prog Try.f9 (fun e w' => ApR w w' q E e) .ret a (st8 W B (.string q.nm) (.string q.mt) (iv q.ga) (iv q.gr) (iv q.wd) (iv q.ht) (.slice A' q.fl.length c') (.slice B' q.ho.length d')) :=
  bodyPost_ret (rres9 ht hu (hK.st _ _ _ _ _ _ _ _)) hd ⟨A', c', B', d', rfl, (own_st8 o1 hB.2 _ _ _ _ _ _ _ _).weak (by omega), (own_st8 o2 hB.2 _ _ _ _ _ _ _ _).weak (by omega), dj, gr_st8 g hB.1 _ _ _ _ _ _ _ _⟩
theorem rapR_nof {w W : World} {E : Int} {a : Act} {B : Nat} {b0 b1 b2 b3 b4 b5 b6 b7 : Value} (ht : a.tmps[4]?.getD undef = .pointer (some ⟨B, 0, none⟩)) (hu : a.tmps[5]?.getD undef = iv E) (hd : a.defers = []) (hK : Bx8 W B b0 b1 b2 b3 b4 b5 b6 b7) (hB : w.heap.size ≤ B) (g : Gr w W) :
    bodyPost Try.prog Try.f9 (fun e w' => ApR w w' paN E e) .ret a (st8 W B (.string ⟨#[]⟩) (.string ⟨#[]⟩) (iv 0) (iv 0) (iv 0) (iv 0) (.slice none 0 0) (.slice none 0 0)) :=
  bodyPost_ret (rres9 ht hu (hK.st _ _ _ _ _ _ _ _)) hd (apR_no E _ _ _ _ _ _ _ _ g hB)
set_option maxHeartbeats 8000000 in
set_option maxRecDepth 100000 in
theorem rApply_val (p : Pa) (A B : Option Addr) (c d : Nat) (x : Ed) (w : World) (hP : PaW w p A c B d) (hv : ¬ valE p = 0) :
    Calls Try.prog 9 #[pav p A c B d, edv x] w fun e w' => ApR w w' (apP p x) (apE p x) e := by
  have HV := hide (fun (w' : World) (g : Gr w w') => rValidate_any p A B c d w' (hP.gr g))
  have q1 : apE p x = valE p := apE_val hv
  have q2 : apP p x = paN := apP_no (by rw [q1]; exact hv)
  rw [q1, q2]
  clear hP q1 q2
  generalize valE p = vE at *
  have hne : (vE != 0) = true := by simpa using hv
  obtain ⟨k, xi, fl, ho, ww, hh⟩ := x
  obtain ⟨w0, hw0⟩ : ∃ w0, ((w.alloc (.cells #[.string p.nm, .string p.mt, iv p.ga, iv p.gr, iv p.wd, iv p.ht, .slice A p.fl.length c, .slice B p.ho.length d] 25)).alloc (.cells #[iv k, iv xi, .string fl.nm, iv fl.pa, iv fl.sd, iv fl.o, iv fl.wd, iv fl.ln, iv fl.an, iv ho.fa, iv ho.kd, iv ho.x, iv ho.y, iv ho.w, iv ho.h, iv ww, iv hh] 31)).alloc (.cells #[.string ⟨#[]⟩, .string ⟨#[]⟩, iv 0, iv 0, iv 0, iv 0, .slice none 0 0, .slice none 0 0] 25) = w0 := ⟨_, rfl⟩
  have gw0 : Gr w w0 := by rw [← hw0]; exact Gr.alloc (Gr.alloc (Gr.alloc (Gr.refl _) _) _) _
  have s0 : w0.heap.size = w.heap.size + 3 := by rw [← hw0]; simp
  have kp : Bx8 w0 w.heap.size (.string p.nm) (.string p.mt) (iv p.ga) (iv p.gr) (iv p.wd) (iv p.ht) (.slice A p.fl.length c) (.slice B p.ho.length d) := by rw [← hw0]; constructor <;> simp [go_sem]
  have ke : BxE w0 (w.heap.size + 1) ⟨k, xi, fl, ho, ww, hh⟩ := by rw [← hw0]; constructor <;> simp [go_sem]
  have kr : Bx8 w0 (w.heap.size + 1 + 1) (.string ⟨#[]⟩) (.string ⟨#[]⟩) (iv 0) (iv 0) (iv 0) (iv 0) (.slice none 0 0) (.slice none 0 0) := by rw [← hw0]; constructor <;> simp [go_sem]
  have KP := hide kp
  have KE := hide ke
  have KR := hide kr
  clear ke kr
  clear kp
  obtain ⟨xl, x0, x1, x2, x3, x4, x5, x6, x7, xf⟩ := KP.out
  go_enter Try.func9, Try.ntmps9
  go_upto_region 1 with fail
  clear hw0
  go_wp2_with fail
  refine (HV.out _ gw0).mono ?_
  rintro e w1 ⟨rfl, g1⟩
  have z1 := g1.size
  have gw1 : Gr w w1 := gw0.trans g1
  have KP1 := hide (KP.out.gr g1)
  have KE1 := hide (KE.out.gr g1)
  have KR1 := hide (KR.out.gr g1)
  clear xl x0 x1 x2 x3 x4 x5 x6 x7 xf KP KE KR HV
  obtain ⟨tl, t0, t1, t2, t3, t4, t5, t6, t7, tf⟩ := KR1.out
  go_wp2_with fail
  exact rapR_nof rfl rfl rfl KR1.out (by omega) gw1
set_option maxHeartbeats 8000000 in
set_option maxRecDepth 100000 in
theorem rApply_kind (p : Pa) (A B : Option Addr) (c d : Nat) (x : Ed) (w : World) (hP : PaW w p A c B d) (hv : valE p = 0) (hk : wiB x.k 1 6 = false) (hc : ceE p x = 1) :
    Calls Try.prog 9 #[pav p A c B d, edv x] w fun e w' => ApR w w' (apP p x) (apE p x) e := by
  have HV := hide (fun (w' : World) (g : Gr w w') => rValidate_any p A B c d w' (hP.gr g))
  have HU := hide (fun (w' : World) (g : Gr w w') => rused_any p A B c d (x.i + 1) w' (hP.gr g))
  have n1 := hP.fl.len
  have n2 := hP.ho.len
  have w1' : IntKind.i64.wrap ((p.fl.length : Int) - 1) = (p.fl.length : Int) - 1 := by rw [IntKind.wrap_i64]; omega
  have w2' : IntKind.i64.wrap ((p.ho.length : Int) - 1) = (p.ho.length : Int) - 1 := by rw [IntKind.wrap_i64]; omega
  have q1 : apE p x = 1 := (apE_ce hv (by rw [hc]; decide)).trans hc
  have q2 : apP p x = paN := apP_no (by rw [q1]; decide)
  rw [q1, q2]
  rw [hv] at HV
  clear hP q1 q2 hc hv
  obtain ⟨k, xi, fl, ho, ww, hh⟩ := x
  dsimp only at *
  have HW := hide (fun w' => rwithin_any k 1 6 w')
  rw [hk] at HW
  clear hk
  obtain ⟨w0, hw0⟩ : ∃ w0, ((w.alloc (.cells #[.string p.nm, .string p.mt, iv p.ga, iv p.gr, iv p.wd, iv p.ht, .slice A p.fl.length c, .slice B p.ho.length d] 25)).alloc (.cells #[iv k, iv xi, .string fl.nm, iv fl.pa, iv fl.sd, iv fl.o, iv fl.wd, iv fl.ln, iv fl.an, iv ho.fa, iv ho.kd, iv ho.x, iv ho.y, iv ho.w, iv ho.h, iv ww, iv hh] 31)).alloc (.cells #[.string ⟨#[]⟩, .string ⟨#[]⟩, iv 0, iv 0, iv 0, iv 0, .slice none 0 0, .slice none 0 0] 25) = w0 := ⟨_, rfl⟩
  have gw0 : Gr w w0 := by rw [← hw0]; exact Gr.alloc (Gr.alloc (Gr.alloc (Gr.refl _) _) _) _
  have s0 : w0.heap.size = w.heap.size + 3 := by rw [← hw0]; simp
  have kp : Bx8 w0 w.heap.size (.string p.nm) (.string p.mt) (iv p.ga) (iv p.gr) (iv p.wd) (iv p.ht) (.slice A p.fl.length c) (.slice B p.ho.length d) := by rw [← hw0]; constructor <;> simp [go_sem]
  have ke : BxE w0 (w.heap.size + 1) ⟨k, xi, fl, ho, ww, hh⟩ := by rw [← hw0]; constructor <;> simp [go_sem]
  have kr : Bx8 w0 (w.heap.size + 1 + 1) (.string ⟨#[]⟩) (.string ⟨#[]⟩) (iv 0) (iv 0) (iv 0) (iv 0) (.slice none 0 0) (.slice none 0 0) := by rw [← hw0]; constructor <;> simp [go_sem]
  have KP := hide kp
  have KE := hide ke
  have KR := hide kr
  clear ke kr
  clear kp
  obtain ⟨xl, x0, x1, x2, x3, x4, x5, x6, x7, xf⟩ := KP.out
  go_enter Try.func9, Try.ntmps9
  go_upto_region 1 with fail
  clear hw0
  go_wp2_with fail
  refine (HV.out _ gw0).mono ?_
  rintro e w1 ⟨rfl, g1⟩
  have z1 := g1.size
  have gw1 : Gr w w1 := gw0.trans g1
  have KP1 := hide (KP.out.gr g1)
  have KE1 := hide (KE.out.gr g1)
  have KR1 := hide (KR.out.gr g1)
  clear xl x0 x1 x2 x3 x4 x5 x6 x7 xf KP KE KR HV
  obtain ⟨tl, t0, t1, t2, t3, t4, t5, t6, t7, tf⟩ := KR1.out
  obtain ⟨xl, x0, x1, x2, x3, x4, x5, x6, x7, xf⟩ := KP1.out
  obtain ⟨el, e0, e1, e2, e3, e4, e5, e6, e7, e8, e9, e10, e11, e12, e13, e14, e15, e16⟩ := KE1.out
  dsimp only at e0 e1
  clear e2 e3 e4 e5 e6 e7 e8 e9 e10 e11 e12 e13 e14 e15 e16
  go_wp2_with fail
  refine (HW.out _).mono ?_
  rintro e _ ⟨rfl, rfl⟩
  go_wp2_with fail
  exact rapR_nof rfl rfl rfl KR1.out (by omega) gw1
set_option maxHeartbeats 8000000 in
set_option maxRecDepth 100000 in
theorem rApply_none2 (p : Pa) (A B : Option Addr) (c d : Nat) (x : Ed) (w : World) (hP : PaW w p A c B d) (hv : valE p = 0) (hk : x.k = 2) (hi : wiB x.i 0 ((p.fl.length : Int) - 1) = false) (hc : ceE p x = 5) :
    Calls Try.prog 9 #[pav p A c B d, edv x] w fun e w' => ApR w w' (apP p x) (apE p x) e := by
  have HV := hide (fun (w' : World) (g : Gr w w') => rValidate_any p A B c d w' (hP.gr g))
  have HU := hide (fun (w' : World) (g : Gr w w') => rused_any p A B c d (x.i + 1) w' (hP.gr g))
  have n1 := hP.fl.len
  have n2 := hP.ho.len
  have w1' : IntKind.i64.wrap ((p.fl.length : Int) - 1) = (p.fl.length : Int) - 1 := by rw [IntKind.wrap_i64]; omega
  have w2' : IntKind.i64.wrap ((p.ho.length : Int) - 1) = (p.ho.length : Int) - 1 := by rw [IntKind.wrap_i64]; omega
  have q1 : apE p x = 5 := (apE_ce hv (by rw [hc]; decide)).trans hc
  have q2 : apP p x = paN := apP_no (by rw [q1]; decide)
  rw [q1, q2]
  rw [hv] at HV
  clear hP q1 q2 hc hv
  obtain ⟨k, xi, fl, ho, ww, hh⟩ := x
  dsimp only at *
  subst hk
  have HW := hide (fun w' => rwithin_any 2 1 6 w')
  rw [show wiB 2 1 6 = true by decide] at HW
  have HI := hide (fun w' => rwithin_any xi 0 ((p.fl.length : Int) - 1) w')
  rw [hi] at HI
  clear hi
  obtain ⟨w0, hw0⟩ : ∃ w0, ((w.alloc (.cells #[.string p.nm, .string p.mt, iv p.ga, iv p.gr, iv p.wd, iv p.ht, .slice A p.fl.length c, .slice B p.ho.length d] 25)).alloc (.cells #[iv 2, iv xi, .string fl.nm, iv fl.pa, iv fl.sd, iv fl.o, iv fl.wd, iv fl.ln, iv fl.an, iv ho.fa, iv ho.kd, iv ho.x, iv ho.y, iv ho.w, iv ho.h, iv ww, iv hh] 31)).alloc (.cells #[.string ⟨#[]⟩, .string ⟨#[]⟩, iv 0, iv 0, iv 0, iv 0, .slice none 0 0, .slice none 0 0] 25) = w0 := ⟨_, rfl⟩
  have gw0 : Gr w w0 := by rw [← hw0]; exact Gr.alloc (Gr.alloc (Gr.alloc (Gr.refl _) _) _) _
  have s0 : w0.heap.size = w.heap.size + 3 := by rw [← hw0]; simp
  have kp : Bx8 w0 w.heap.size (.string p.nm) (.string p.mt) (iv p.ga) (iv p.gr) (iv p.wd) (iv p.ht) (.slice A p.fl.length c) (.slice B p.ho.length d) := by rw [← hw0]; constructor <;> simp [go_sem]
  have ke : BxE w0 (w.heap.size + 1) ⟨2, xi, fl, ho, ww, hh⟩ := by rw [← hw0]; constructor <;> simp [go_sem]
  have kr : Bx8 w0 (w.heap.size + 1 + 1) (.string ⟨#[]⟩) (.string ⟨#[]⟩) (iv 0) (iv 0) (iv 0) (iv 0) (.slice none 0 0) (.slice none 0 0) := by rw [← hw0]; constructor <;> simp [go_sem]
  have KP := hide kp
  have KE := hide ke
  have KR := hide kr
  clear ke kr
  clear kp
  obtain ⟨xl, x0, x1, x2, x3, x4, x5, x6, x7, xf⟩ := KP.out
  go_enter Try.func9, Try.ntmps9
  go_upto_region 1 with fail
  clear hw0
  go_wp2_with fail
  refine (HV.out _ gw0).mono ?_
  rintro e w1 ⟨rfl, g1⟩
  have z1 := g1.size
  have gw1 : Gr w w1 := gw0.trans g1
  have KP1 := hide (KP.out.gr g1)
  have KE1 := hide (KE.out.gr g1)
  have KR1 := hide (KR.out.gr g1)
  clear xl x0 x1 x2 x3 x4 x5 x6 x7 xf KP KE KR HV
  obtain ⟨tl, t0, t1, t2, t3, t4, t5, t6, t7, tf⟩ := KR1.out
  obtain ⟨xl, x0, x1, x2, x3, x4, x5, x6, x7, xf⟩ := KP1.out
  obtain ⟨el, e0, e1, e2, e3, e4, e5, e6, e7, e8, e9, e10, e11, e12, e13, e14, e15, e16⟩ := KE1.out
  dsimp only at e0 e1
  clear e2 e3 e4 e5 e6 e7 e8 e9 e10 e11 e12 e13 e14 e15 e16
  go_wp2_with fail
  refine (HW.out _).mono ?_
  rintro e _ ⟨rfl, rfl⟩
  go_wp2_with fail
  refine (HI.out _).mono ?_
  rintro e _ ⟨rfl, rfl⟩
  go_wp2_with fail
  exact rapR_nof rfl rfl rfl KR1.out (by omega) gw1
set_option maxHeartbeats 8000000 in
set_option maxRecDepth 100000 in
theorem rApply_none4 (p : Pa) (A B : Option Addr) (c d : Nat) (x : Ed) (w : World) (hP : PaW w p A c B d) (hv : valE p = 0) (hk : x.k = 4) (hi : wiB x.i 0 ((p.fl.length : Int) - 1) = false) (hc : ceE p x = 5) :
    Calls Try.prog 9 #[pav p A c B d, edv x] w fun e w' => ApR w w' (apP p x) (apE p x) e := by
  have HV := hide (fun (w' : World) (g : Gr w w') => rValidate_any p A B c d w' (hP.gr g))
  have HU := hide (fun (w' : World) (g : Gr w w') => rused_any p A B c d (x.i + 1) w' (hP.gr g))
  have n1 := hP.fl.len
  have n2 := hP.ho.len
  have w1' : IntKind.i64.wrap ((p.fl.length : Int) - 1) = (p.fl.length : Int) - 1 := by rw [IntKind.wrap_i64]; omega
  have w2' : IntKind.i64.wrap ((p.ho.length : Int) - 1) = (p.ho.length : Int) - 1 := by rw [IntKind.wrap_i64]; omega
  have q1 : apE p x = 5 := (apE_ce hv (by rw [hc]; decide)).trans hc
  have q2 : apP p x = paN := apP_no (by rw [q1]; decide)
  rw [q1, q2]
  rw [hv] at HV
  clear hP q1 q2 hc hv
  obtain ⟨k, xi, fl, ho, ww, hh⟩ := x
  dsimp only at *
  subst hk
  have HW := hide (fun w' => rwithin_any 4 1 6 w')
  rw [show wiB 4 1 6 = true by decide] at HW
  have HI := hide (fun w' => rwithin_any xi 0 ((p.fl.length : Int) - 1) w')
  rw [hi] at HI
  clear hi
  obtain ⟨w0, hw0⟩ : ∃ w0, ((w.alloc (.cells #[.string p.nm, .string p.mt, iv p.ga, iv p.gr, iv p.wd, iv p.ht, .slice A p.fl.length c, .slice B p.ho.length d] 25)).alloc (.cells #[iv 4, iv xi, .string fl.nm, iv fl.pa, iv fl.sd, iv fl.o, iv fl.wd, iv fl.ln, iv fl.an, iv ho.fa, iv ho.kd, iv ho.x, iv ho.y, iv ho.w, iv ho.h, iv ww, iv hh] 31)).alloc (.cells #[.string ⟨#[]⟩, .string ⟨#[]⟩, iv 0, iv 0, iv 0, iv 0, .slice none 0 0, .slice none 0 0] 25) = w0 := ⟨_, rfl⟩
  have gw0 : Gr w w0 := by rw [← hw0]; exact Gr.alloc (Gr.alloc (Gr.alloc (Gr.refl _) _) _) _
  have s0 : w0.heap.size = w.heap.size + 3 := by rw [← hw0]; simp
  have kp : Bx8 w0 w.heap.size (.string p.nm) (.string p.mt) (iv p.ga) (iv p.gr) (iv p.wd) (iv p.ht) (.slice A p.fl.length c) (.slice B p.ho.length d) := by rw [← hw0]; constructor <;> simp [go_sem]
  have ke : BxE w0 (w.heap.size + 1) ⟨4, xi, fl, ho, ww, hh⟩ := by rw [← hw0]; constructor <;> simp [go_sem]
  have kr : Bx8 w0 (w.heap.size + 1 + 1) (.string ⟨#[]⟩) (.string ⟨#[]⟩) (iv 0) (iv 0) (iv 0) (iv 0) (.slice none 0 0) (.slice none 0 0) := by rw [← hw0]; constructor <;> simp [go_sem]
  have KP := hide kp
  have KE := hide ke
  have KR := hide kr
  clear ke kr
  clear kp
  obtain ⟨xl, x0, x1, x2, x3, x4, x5, x6, x7, xf⟩ := KP.out
  go_enter Try.func9, Try.ntmps9
  go_upto_region 1 with fail
  clear hw0
  go_wp2_with fail
  refine (HV.out _ gw0).mono ?_
  rintro e w1 ⟨rfl, g1⟩
  have z1 := g1.size
  have gw1 : Gr w w1 := gw0.trans g1
  have KP1 := hide (KP.out.gr g1)
  have KE1 := hide (KE.out.gr g1)
  have KR1 := hide (KR.out.gr g1)
  clear xl x0 x1 x2 x3 x4 x5 x6 x7 xf KP KE KR HV
  obtain ⟨tl, t0, t1, t2, t3, t4, t5, t6, t7, tf⟩ := KR1.out
  obtain ⟨xl, x0, x1, x2, x3, x4, x5, x6, x7, xf⟩ := KP1.out
  obtain ⟨el, e0, e1, e2, e3, e4, e5, e6, e7, e8, e9, e10, e11, e12, e13, e14, e15, e16⟩ := KE1.out
  dsimp only at e0 e1
  clear e2 e3 e4 e5 e6 e7 e8 e9 e10 e11 e12 e13 e14 e15 e16
  go_wp2_with fail
  refine (HW.out _).mono ?_
  rintro e _ ⟨rfl, rfl⟩
  go_wp2_with fail
  refine (HI.out _).mono ?_
  rintro e _ ⟨rfl, rfl⟩
  go_wp2_with fail
  exact rapR_nof rfl rfl rfl KR1.out (by omega) gw1
set_option maxHeartbeats 8000000 in
set_option maxRecDepth 100000 in
theorem rApply_none6 (p : Pa) (A B : Option Addr) (c d : Nat) (x : Ed) (w : World) (hP : PaW w p A c B d) (hv : valE p = 0) (hk : x.k = 6) (hi : wiB x.i 0 ((p.ho.length : Int) - 1) = false) (hc : ceE p x = 5) :
    Calls Try.prog 9 #[pav p A c B d, edv x] w fun e w' => ApR w w' (apP p x) (apE p x) e := by
  have HV := hide (fun (w' : World) (g : Gr w w') => rValidate_any p A B c d w' (hP.gr g))
  have HU := hide (fun (w' : World) (g : Gr w w') => rused_any p A B c d (x.i + 1) w' (hP.gr g))
  have n1 := hP.fl.len
  have n2 := hP.ho.len
  have w1' : IntKind.i64.wrap ((p.fl.length : Int) - 1) = (p.fl.length : Int) - 1 := by rw [IntKind.wrap_i64]; omega
  have w2' : IntKind.i64.wrap ((p.ho.length : Int) - 1) = (p.ho.length : Int) - 1 := by rw [IntKind.wrap_i64]; omega
  have q1 : apE p x = 5 := (apE_ce hv (by rw [hc]; decide)).trans hc
  have q2 : apP p x = paN := apP_no (by rw [q1]; decide)
  rw [q1, q2]
  rw [hv] at HV
  clear hP q1 q2 hc hv
  obtain ⟨k, xi, fl, ho, ww, hh⟩ := x
  dsimp only at *
  subst hk
  have HW := hide (fun w' => rwithin_any 6 1 6 w')
  rw [show wiB 6 1 6 = true by decide] at HW
  have HI := hide (fun w' => rwithin_any xi 0 ((p.ho.length : Int) - 1) w')
  rw [hi] at HI
  clear hi
  obtain ⟨w0, hw0⟩ : ∃ w0, ((w.alloc (.cells #[.string p.nm, .string p.mt, iv p.ga, iv p.gr, iv p.wd, iv p.ht, .slice A p.fl.length c, .slice B p.ho.length d] 25)).alloc (.cells #[iv 6, iv xi, .string fl.nm, iv fl.pa, iv fl.sd, iv fl.o, iv fl.wd, iv fl.ln, iv fl.an, iv ho.fa, iv ho.kd, iv ho.x, iv ho.y, iv ho.w, iv ho.h, iv ww, iv hh] 31)).alloc (.cells #[.string ⟨#[]⟩, .string ⟨#[]⟩, iv 0, iv 0, iv 0, iv 0, .slice none 0 0, .slice none 0 0] 25) = w0 := ⟨_, rfl⟩
  have gw0 : Gr w w0 := by rw [← hw0]; exact Gr.alloc (Gr.alloc (Gr.alloc (Gr.refl _) _) _) _
  have s0 : w0.heap.size = w.heap.size + 3 := by rw [← hw0]; simp
  have kp : Bx8 w0 w.heap.size (.string p.nm) (.string p.mt) (iv p.ga) (iv p.gr) (iv p.wd) (iv p.ht) (.slice A p.fl.length c) (.slice B p.ho.length d) := by rw [← hw0]; constructor <;> simp [go_sem]
  have ke : BxE w0 (w.heap.size + 1) ⟨6, xi, fl, ho, ww, hh⟩ := by rw [← hw0]; constructor <;> simp [go_sem]
  have kr : Bx8 w0 (w.heap.size + 1 + 1) (.string ⟨#[]⟩) (.string ⟨#[]⟩) (iv 0) (iv 0) (iv 0) (iv 0) (.slice none 0 0) (.slice none 0 0) := by rw [← hw0]; constructor <;> simp [go_sem]
  have KP := hide kp
  have KE := hide ke
  have KR := hide kr
  clear ke kr
  clear kp
  obtain ⟨xl, x0, x1, x2, x3, x4, x5, x6, x7, xf⟩ := KP.out
  go_enter Try.func9, Try.ntmps9
  go_upto_region 1 with fail
  clear hw0
  go_wp2_with fail
  refine (HV.out _ gw0).mono ?_
  rintro e w1 ⟨rfl, g1⟩
  have z1 := g1.size
  have gw1 : Gr w w1 := gw0.trans g1
  have KP1 := hide (KP.out.gr g1)
  have KE1 := hide (KE.out.gr g1)
  have KR1 := hide (KR.out.gr g1)
  clear xl x0 x1 x2 x3 x4 x5 x6 x7 xf KP KE KR HV
  obtain ⟨tl, t0, t1, t2, t3, t4, t5, t6, t7, tf⟩ := KR1.out
  obtain ⟨xl, x0, x1, x2, x3, x4, x5, x6, x7, xf⟩ := KP1.out
  obtain ⟨el, e0, e1, e2, e3, e4, e5, e6, e7, e8, e9, e10, e11, e12, e13, e14, e15, e16⟩ := KE1.out
  dsimp only at e0 e1
  clear e2 e3 e4 e5 e6 e7 e8 e9 e10 e11 e12 e13 e14 e15 e16
  go_wp2_with fail
  refine (HW.out _).mono ?_
  rintro e _ ⟨rfl, rfl⟩
  go_wp2_with fail
  refine (HI.out _).mono ?_
  rintro e _ ⟨rfl, rfl⟩
  go_wp2_with fail
  exact rapR_nof rfl rfl rfl KR1.out (by omega) gw1
set_option maxHeartbeats 8000000 in
set_option maxRecDepth 100000 in
theorem rApply_used (p : Pa) (A B : Option Addr) (c d : Nat) (x : Ed) (w : World) (hP : PaW w p A c B d) (hv : valE p = 0) (hk : x.k = 4) (hi : wiB x.i 0 ((p.fl.length : Int) - 1) = true) (hu : usB p (x.i + 1) = true) (hc : ceE p x = 12) :
    Calls Try.prog 9 #[pav p A c B d, edv x] w fun e w' => ApR w w' (apP p x) (apE p x) e := by
  have HV := hide (fun (w' : World) (g : Gr w w') => rValidate_any p A B c d w' (hP.gr g))
  have HU := hide (fun (w' : World) (g : Gr w w') => rused_any p A B c d (x.i + 1) w' (hP.gr g))
  have n1 := hP.fl.len
  have n2 := hP.ho.len
  have w1' : IntKind.i64.wrap ((p.fl.length : Int) - 1) = (p.fl.length : Int) - 1 := by rw [IntKind.wrap_i64]; omega
  have w2' : IntKind.i64.wrap ((p.ho.length : Int) - 1) = (p.ho.length : Int) - 1 := by rw [IntKind.wrap_i64]; omega
  have q1 : apE p x = 12 := (apE_ce hv (by rw [hc]; decide)).trans hc
  have q2 : apP p x = paN := apP_no (by rw [q1]; decide)
  rw [q1, q2]
  rw [hv] at HV
  clear hP q1 q2 hc hv
  obtain ⟨k, xi, fl, ho, ww, hh⟩ := x
  dsimp only at *
  subst hk
  have HW := hide (fun w' => rwithin_any 4 1 6 w')
  rw [show wiB 4 1 6 = true by decide] at HW
  have HI := hide (fun w' => rwithin_any xi 0 ((p.fl.length : Int) - 1) w')
  obtain ⟨i0, i1⟩ := wiB_iff.1 hi
  have hwr : IntKind.i64.wrap (xi + 1) = xi + 1 := by rw [IntKind.wrap_i64]; omega
  rw [hi] at HI
  rw [hu] at HU
  clear hi hu
  obtain ⟨w0, hw0⟩ : ∃ w0, ((w.alloc (.cells #[.string p.nm, .string p.mt, iv p.ga, iv p.gr, iv p.wd, iv p.ht, .slice A p.fl.length c, .slice B p.ho.length d] 25)).alloc (.cells #[iv 4, iv xi, .string fl.nm, iv fl.pa, iv fl.sd, iv fl.o, iv fl.wd, iv fl.ln, iv fl.an, iv ho.fa, iv ho.kd, iv ho.x, iv ho.y, iv ho.w, iv ho.h, iv ww, iv hh] 31)).alloc (.cells #[.string ⟨#[]⟩, .string ⟨#[]⟩, iv 0, iv 0, iv 0, iv 0, .slice none 0 0, .slice none 0 0] 25) = w0 := ⟨_, rfl⟩
  have gw0 : Gr w w0 := by rw [← hw0]; exact Gr.alloc (Gr.alloc (Gr.alloc (Gr.refl _) _) _) _
  have s0 : w0.heap.size = w.heap.size + 3 := by rw [← hw0]; simp
  have kp : Bx8 w0 w.heap.size (.string p.nm) (.string p.mt) (iv p.ga) (iv p.gr) (iv p.wd) (iv p.ht) (.slice A p.fl.length c) (.slice B p.ho.length d) := by rw [← hw0]; constructor <;> simp [go_sem]
  have ke : BxE w0 (w.heap.size + 1) ⟨4, xi, fl, ho, ww, hh⟩ := by rw [← hw0]; constructor <;> simp [go_sem]
  have kr : Bx8 w0 (w.heap.size + 1 + 1) (.string ⟨#[]⟩) (.string ⟨#[]⟩) (iv 0) (iv 0) (iv 0) (iv 0) (.slice none 0 0) (.slice none 0 0) := by rw [← hw0]; constructor <;> simp [go_sem]
  have KP := hide kp
  have KE := hide ke
  have KR := hide kr
  clear ke kr
  clear kp
  obtain ⟨xl, x0, x1, x2, x3, x4, x5, x6, x7, xf⟩ := KP.out
  go_enter Try.func9, Try.ntmps9
  go_upto_region 1 with fail
  clear hw0
  go_wp2_with fail
  refine (HV.out _ gw0).mono ?_
  rintro e w1 ⟨rfl, g1⟩
  have z1 := g1.size
  have gw1 : Gr w w1 := gw0.trans g1
  have KP1 := hide (KP.out.gr g1)
  have KE1 := hide (KE.out.gr g1)
  have KR1 := hide (KR.out.gr g1)
  clear xl x0 x1 x2 x3 x4 x5 x6 x7 xf KP KE KR HV
  obtain ⟨tl, t0, t1, t2, t3, t4, t5, t6, t7, tf⟩ := KR1.out
  obtain ⟨xl, x0, x1, x2, x3, x4, x5, x6, x7, xf⟩ := KP1.out
  obtain ⟨el, e0, e1, e2, e3, e4, e5, e6, e7, e8, e9, e10, e11, e12, e13, e14, e15, e16⟩ := KE1.out
  dsimp only at e0 e1
  clear e2 e3 e4 e5 e6 e7 e8 e9 e10 e11 e12 e13 e14 e15 e16
  go_wp2_with fail
  refine (HW.out _).mono ?_
  rintro e _ ⟨rfl, rfl⟩
  go_wp2_with fail
  refine (HI.out _).mono ?_
  rintro e _ ⟨rfl, rfl⟩
  go_wp2_with fail
  refine (HU.out _ gw1).mono ?_
  rintro e w2 ⟨rfl, g2⟩
  have z2 := g2.size
  have gw2 : Gr w w2 := gw1.trans g2
  have KR2 := hide (KR1.out.gr g2)
  obtain ⟨ul, u0, u1, u2, u3, u4, u5, u6, u7, uf⟩ := KR2.out
  go_wp2_with fail
  exact rapR_nof rfl rfl rfl KR2.out (by omega) gw2
set_option maxHeartbeats 8000000 in
set_option maxRecDepth 100000 in
theorem rApply_k1 (p : Pa) (A B : Option Addr) (c d : Nat) (x : Ed) (w : World) (hP : PaW w p A c B d) (hx : x.fl.nm.size ≤ 1000) (hv : valE p = 0) (hk : x.k = 1)  (hc : ceE p x = 0) :
    Calls Try.prog 9 #[pav p A c B d, edv x] w fun e w' => ApR w w' (apP p x) (apE p x) e := by
  have HV := hide (fun (w' : World) (g : Gr w w') => rValidate_any p A B c d w' (hP.gr g))
  have HU := hide (fun (w' : World) (g : Gr w w') => rused_any p A B c d (x.i + 1) w' (hP.gr g))
  have n1 := hP.fl.len
  have n2 := hP.ho.len
  have w1' : IntKind.i64.wrap ((p.fl.length : Int) - 1) = (p.fl.length : Int) - 1 := by rw [IntKind.wrap_i64]; omega
  have w2' : IntKind.i64.wrap ((p.ho.length : Int) - 1) = (p.ho.length : Int) - 1 := by rw [IntKind.wrap_i64]; omega
  have HED := hide (fun (w' : World) (g : Gr w w') => rEdited_any p A B c d x w' (hP.gr g) hv hc)
  have HPW := hide (fun (w' : World) (A' B' : Option Addr) (c' d' lo1 lo2 : Nat) (h1 : OwnL w' lo1 27 7 flL (.slice A' (edP p x).fl.length c') (edP p x).fl) (h2 : OwnL w' lo2 29 6 hoL (.slice B' (edP p x).ho.length d') (edP p x).ho) => ed_paw hP hx hv h1 h2)
  have hE3 : apE p x = valE (edP p x) := apE_ed hv hc
  have HV2 := hide (fun (w' : World) (A' B' : Option Addr) (c' d' : Nat) (h : PaW w' (edP p x) A' c' B' d') => rValidate_any (edP p x) A' B' c' d' w' h)
  rw [← hE3] at HV2
  have HE4 := hide (fun (h : apE p x = 0) => apP_ok h)
  have HE5 := hide (fun (h : ¬ apE p x = 0) => apP_no h)
  rw [hv] at HV
  clear hP hx hE3 hc hv
  generalize apE p x = aE at *
  generalize apP p x = aP at *
  generalize edP p x = q at *
  obtain ⟨k, xi, fl, ho, ww, hh⟩ := x
  dsimp only at *
  subst hk
  have HW := hide (fun w' => rwithin_any 1 1 6 w')
  rw [show wiB 1 1 6 = true by decide] at HW
  obtain ⟨w0, hw0⟩ : ∃ w0, ((w.alloc (.cells #[.string p.nm, .string p.mt, iv p.ga, iv p.gr, iv p.wd, iv p.ht, .slice A p.fl.length c, .slice B p.ho.length d] 25)).alloc (.cells #[iv 1, iv xi, .string fl.nm, iv fl.pa, iv fl.sd, iv fl.o, iv fl.wd, iv fl.ln, iv fl.an, iv ho.fa, iv ho.kd, iv ho.x, iv ho.y, iv ho.w, iv ho.h, iv ww, iv hh] 31)).alloc (.cells #[.string ⟨#[]⟩, .string ⟨#[]⟩, iv 0, iv 0, iv 0, iv 0, .slice none 0 0, .slice none 0 0] 25) = w0 := ⟨_, rfl⟩
  have gw0 : Gr w w0 := by rw [← hw0]; exact Gr.alloc (Gr.alloc (Gr.alloc (Gr.refl _) _) _) _
  have s0 : w0.heap.size = w.heap.size + 3 := by rw [← hw0]; simp
  have kp : Bx8 w0 w.heap.size (.string p.nm) (.string p.mt) (iv p.ga) (iv p.gr) (iv p.wd) (iv p.ht) (.slice A p.fl.length c) (.slice B p.ho.length d) := by rw [← hw0]; constructor <;> simp [go_sem]
  have ke : BxE w0 (w.heap.size + 1) ⟨1, xi, fl, ho, ww, hh⟩ := by rw [← hw0]; constructor <;> simp [go_sem]
  have kr : Bx8 w0 (w.heap.size + 1 + 1) (.string ⟨#[]⟩) (.string ⟨#[]⟩) (iv 0) (iv 0) (iv 0) (iv 0) (.slice none 0 0) (.slice none 0 0) := by rw [← hw0]; constructor <;> simp [go_sem]
  have KP := hide kp
  have KE := hide ke
  have KR := hide kr
  clear ke kr
  clear kp
  obtain ⟨xl, x0, x1, x2, x3, x4, x5, x6, x7, xf⟩ := KP.out
  go_enter Try.func9, Try.ntmps9
  go_upto_region 1 with fail
  clear hw0
  go_wp2_with fail
  refine (HV.out _ gw0).mono ?_
  rintro e w1 ⟨rfl, g1⟩
  have z1 := g1.size
  have gw1 : Gr w w1 := gw0.trans g1
  have KP1 := hide (KP.out.gr g1)
  have KE1 := hide (KE.out.gr g1)
  have KR1 := hide (KR.out.gr g1)
  clear xl x0 x1 x2 x3 x4 x5 x6 x7 xf KP KE KR HV
  obtain ⟨xl, x0, x1, x2, x3, x4, x5, x6, x7, xf⟩ := KP1.out
  obtain ⟨el, e0, e1, e2, e3, e4, e5, e6, e7, e8, e9, e10, e11, e12, e13, e14, e15, e16⟩ := KE1.out
  dsimp only at e0 e1
  clear e2 e3 e4 e5 e6 e7 e8 e9 e10 e11 e12 e13 e14 e15 e16
  go_wp2_with fail
  refine (HW.out _).mono ?_
  rintro e _ ⟨rfl, rfl⟩
  go_upto_region 12 with fail
  go_wp2_with (refine wpList_loadE rfl _ rfl _ _ rfl KE1.out ?_)
  refine (HED.out _ gw1).mono ?_
  rintro e w2 ⟨A1, c1, B1, d1, rfl, o1, o2, dj, g2⟩
  clear xl x0 x1 x2 x3 x4 x5 x6 x7 xf KP1 KE1 el e0 e1
  have gw2 : Gr w w2 := gw1.trans g2
  have KR2 := hide (KR1.out.gr g2)
  have hpw := HPW.out _ _ _ _ _ _ _ o1 o2
  have HPQ := hide hpw
  have O1 := hide o1
  have O2 := hide o2
  have z2 := g2.size
  clear o1 o2 hpw HPW HED
  go_wp2_with fail
  refine (HV2.out _ A1 B1 c1 d1 (HPQ.out.gr (Gr.alloc (Gr.refl _) _))).mono ?_
  rintro e w3 ⟨rfl, g3⟩
  have gq4 : Gr w2 w3 := (Gr.alloc (Gr.refl _) _).trans g3
  have gw4 : Gr w w3 := gw2.trans gq4
  have KR4 := hide (KR2.out.gr gq4)
  obtain ⟨tl, t0, t1, t2, t3, t4, t5, t6, t7, tf⟩ := KR4.out
  have HQB : Bx8 w3 w2.heap.size (.string q.nm) (.string q.mt) (iv q.ga) (iv q.gr) (iv q.wd) (iv q.ht) (.slice A1 q.fl.length c1) (.slice B1 q.ho.length d1) := by
    have k0 : Bx8 (w2.alloc (.cells #[.string q.nm, .string q.mt, iv q.ga, iv q.gr, iv q.wd, iv q.ht, .slice A1 q.fl.length c1, .slice B1 q.ho.length d1] 25)) w2.heap.size (.string q.nm) (.string q.mt) (iv q.ga) (iv q.gr) (iv q.wd) (iv q.ht) (.slice A1 q.fl.length c1) (.slice B1 q.ho.length d1) := by constructor <;> simp [go_sem]
    exact k0.gr g3
  obtain ⟨vl, v0, v1, v2, v3, v4, v5, v6, v7, vf⟩ := HQB
  by_cases ha : aE = 0
  · subst ha
    have HQ := hide (HE4.out rfl)
    clear HE4 HE5
    go_wp2_with fail
    simp only [HQ.out]
    exact rapR_fin rfl rfl rfl KR4.out ⟨by omega, (by omega : w.heap.size + 1 + 1 < w1.heap.size)⟩ (O1.out.gr gq4) (O2.out.gr gq4) dj gw4
  · have hna : (aE != 0) = true := by simpa using ha
    have hq5 := HE5.out ha
    have HQ := hide hq5
    clear ha hq5 HE4 HE5
    go_wp2_with fail
    simp only [HQ.out]
    exact rapR_nof rfl rfl rfl KR4.out (by omega) gw4
set_option maxHeartbeats 8000000 in
set_option maxRecDepth 100000 in
theorem rApply_k3 (p : Pa) (A B : Option Addr) (c d : Nat) (x : Ed) (w : World) (hP : PaW w p A c B d) (hx : x.fl.nm.size ≤ 1000) (hv : valE p = 0) (hk : x.k = 3)  (hc : ceE p x = 0) :
    Calls Try.prog 9 #[pav p A c B d, edv x] w fun e w' => ApR w w' (apP p x) (apE p x) e := by
  have HV := hide (fun (w' : World) (g : Gr w w') => rValidate_any p A B c d w' (hP.gr g))
  have HU := hide (fun (w' : World) (g : Gr w w') => rused_any p A B c d (x.i + 1) w' (hP.gr g))
  have n1 := hP.fl.len
  have n2 := hP.ho.len
  have w1' : IntKind.i64.wrap ((p.fl.length : Int) - 1) = (p.fl.length : Int) - 1 := by rw [IntKind.wrap_i64]; omega
  have w2' : IntKind.i64.wrap ((p.ho.length : Int) - 1) = (p.ho.length : Int) - 1 := by rw [IntKind.wrap_i64]; omega
  have HED := hide (fun (w' : World) (g : Gr w w') => rEdited_any p A B c d x w' (hP.gr g) hv hc)
  have HPW := hide (fun (w' : World) (A' B' : Option Addr) (c' d' lo1 lo2 : Nat) (h1 : OwnL w' lo1 27 7 flL (.slice A' (edP p x).fl.length c') (edP p x).fl) (h2 : OwnL w' lo2 29 6 hoL (.slice B' (edP p x).ho.length d') (edP p x).ho) => ed_paw hP hx hv h1 h2)
  have hE3 : apE p x = valE (edP p x) := apE_ed hv hc
  have HV2 := hide (fun (w' : World) (A' B' : Option Addr) (c' d' : Nat) (h : PaW w' (edP p x) A' c' B' d') => rValidate_any (edP p x) A' B' c' d' w' h)
  rw [← hE3] at HV2
  have HE4 := hide (fun (h : apE p x = 0) => apP_ok h)
  have HE5 := hide (fun (h : ¬ apE p x = 0) => apP_no h)
  rw [hv] at HV
  clear hP hx hE3 hc hv
  generalize apE p x = aE at *
  generalize apP p x = aP at *
  generalize edP p x = q at *
  obtain ⟨k, xi, fl, ho, ww, hh⟩ := x
  dsimp only at *
  subst hk
  have HW := hide (fun w' => rwithin_any 3 1 6 w')
  rw [show wiB 3 1 6 = true by decide] at HW
  obtain ⟨w0, hw0⟩ : ∃ w0, ((w.alloc (.cells #[.string p.nm, .string p.mt, iv p.ga, iv p.gr, iv p.wd, iv p.ht, .slice A p.fl.length c, .slice B p.ho.length d] 25)).alloc (.cells #[iv 3, iv xi, .string fl.nm, iv fl.pa, iv fl.sd, iv fl.o, iv fl.wd, iv fl.ln, iv fl.an, iv ho.fa, iv ho.kd, iv ho.x, iv ho.y, iv ho.w, iv ho.h, iv ww, iv hh] 31)).alloc (.cells #[.string ⟨#[]⟩, .string ⟨#[]⟩, iv 0, iv 0, iv 0, iv 0, .slice none 0 0, .slice none 0 0] 25) = w0 := ⟨_, rfl⟩
  have gw0 : Gr w w0 := by rw [← hw0]; exact Gr.alloc (Gr.alloc (Gr.alloc (Gr.refl _) _) _) _
  have s0 : w0.heap.size = w.heap.size + 3 := by rw [← hw0]; simp
  have kp : Bx8 w0 w.heap.size (.string p.nm) (.string p.mt) (iv p.ga) (iv p.gr) (iv p.wd) (iv p.ht) (.slice A p.fl.length c) (.slice B p.ho.length d) := by rw [← hw0]; constructor <;> simp [go_sem]
  have ke : BxE w0 (w.heap.size + 1) ⟨3, xi, fl, ho, ww, hh⟩ := by rw [← hw0]; constructor <;> simp [go_sem]
  have kr : Bx8 w0 (w.heap.size + 1 + 1) (.string ⟨#[]⟩) (.string ⟨#[]⟩) (iv 0) (iv 0) (iv 0) (iv 0) (.slice none 0 0) (.slice none 0 0) := by rw [← hw0]; constructor <;> simp [go_sem]
  have KP := hide kp
  have KE := hide ke
  have KR := hide kr
  clear ke kr
  clear kp
  obtain ⟨xl, x0, x1, x2, x3, x4, x5, x6, x7, xf⟩ := KP.out
  go_enter Try.func9, Try.ntmps9
  go_upto_region 1 with fail
  clear hw0
  go_wp2_with fail
  refine (HV.out _ gw0).mono ?_
  rintro e w1 ⟨rfl, g1⟩
  have z1 := g1.size
  have gw1 : Gr w w1 := gw0.trans g1
  have KP1 := hide (KP.out.gr g1)
  have KE1 := hide (KE.out.gr g1)
  have KR1 := hide (KR.out.gr g1)
  clear xl x0 x1 x2 x3 x4 x5 x6 x7 xf KP KE KR HV
  obtain ⟨xl, x0, x1, x2, x3, x4, x5, x6, x7, xf⟩ := KP1.out
  obtain ⟨el, e0, e1, e2, e3, e4, e5, e6, e7, e8, e9, e10, e11, e12, e13, e14, e15, e16⟩ := KE1.out
  dsimp only at e0 e1
  clear e2 e3 e4 e5 e6 e7 e8 e9 e10 e11 e12 e13 e14 e15 e16
  go_wp2_with fail
  refine (HW.out _).mono ?_
  rintro e _ ⟨rfl, rfl⟩
  go_upto_region 12 with fail
  go_wp2_with (refine wpList_loadE rfl _ rfl _ _ rfl KE1.out ?_)
  refine (HED.out _ gw1).mono ?_
  rintro e w2 ⟨A1, c1, B1, d1, rfl, o1, o2, dj, g2⟩
  clear xl x0 x1 x2 x3 x4 x5 x6 x7 xf KP1 KE1 el e0 e1
  have gw2 : Gr w w2 := gw1.trans g2
  have KR2 := hide (KR1.out.gr g2)
  have hpw := HPW.out _ _ _ _ _ _ _ o1 o2
  have HPQ := hide hpw
  have O1 := hide o1
  have O2 := hide o2
  have z2 := g2.size
  clear o1 o2 hpw HPW HED
  go_wp2_with fail
  refine (HV2.out _ A1 B1 c1 d1 (HPQ.out.gr (Gr.alloc (Gr.refl _) _))).mono ?_
  rintro e w3 ⟨rfl, g3⟩
  have gq4 : Gr w2 w3 := (Gr.alloc (Gr.refl _) _).trans g3
  have gw4 : Gr w w3 := gw2.trans gq4
  have KR4 := hide (KR2.out.gr gq4)
  obtain ⟨tl, t0, t1, t2, t3, t4, t5, t6, t7, tf⟩ := KR4.out
  have HQB : Bx8 w3 w2.heap.size (.string q.nm) (.string q.mt) (iv q.ga) (iv q.gr) (iv q.wd) (iv q.ht) (.slice A1 q.fl.length c1) (.slice B1 q.ho.length d1) := by
    have k0 : Bx8 (w2.alloc (.cells #[.string q.nm, .string q.mt, iv q.ga, iv q.gr, iv q.wd, iv q.ht, .slice A1 q.fl.length c1, .slice B1 q.ho.length d1] 25)) w2.heap.size (.string q.nm) (.string q.mt) (iv q.ga) (iv q.gr) (iv q.wd) (iv q.ht) (.slice A1 q.fl.length c1) (.slice B1 q.ho.length d1) := by constructor <;> simp [go_sem]
    exact k0.gr g3
  obtain ⟨vl, v0, v1, v2, v3, v4, v5, v6, v7, vf⟩ := HQB
  by_cases ha : aE = 0
  · subst ha
    have HQ := hide (HE4.out rfl)
    clear HE4 HE5
    go_wp2_with fail
    simp only [HQ.out]
    exact rapR_fin rfl rfl rfl KR4.out ⟨by omega, (by omega : w.heap.size + 1 + 1 < w1.heap.size)⟩ (O1.out.gr gq4) (O2.out.gr gq4) dj gw4
  · have hna : (aE != 0) = true := by simpa using ha
    have hq5 := HE5.out ha
    have HQ := hide hq5
    clear ha hq5 HE4 HE5
    go_wp2_with fail
    simp only [HQ.out]
    exact rapR_nof rfl rfl rfl KR4.out (by omega) gw4
set_option maxHeartbeats 8000000 in
set_option maxRecDepth 100000 in
theorem rApply_k5 (p : Pa) (A B : Option Addr) (c d : Nat) (x : Ed) (w : World) (hP : PaW w p A c B d) (hx : x.fl.nm.size ≤ 1000) (hv : valE p = 0) (hk : x.k = 5)  (hc : ceE p x = 0) :
    Calls Try.prog 9 #[pav p A c B d, edv x] w fun e w' => ApR w w' (apP p x) (apE p x) e := by
  have HV := hide (fun (w' : World) (g : Gr w w') => rValidate_any p A B c d w' (hP.gr g))
  have HU := hide (fun (w' : World) (g : Gr w w') => rused_any p A B c d (x.i + 1) w' (hP.gr g))
  have n1 := hP.fl.len
  have n2 := hP.ho.len
  have w1' : IntKind.i64.wrap ((p.fl.length : Int) - 1) = (p.fl.length : Int) - 1 := by rw [IntKind.wrap_i64]; omega
  have w2' : IntKind.i64.wrap ((p.ho.length : Int) - 1) = (p.ho.length : Int) - 1 := by rw [IntKind.wrap_i64]; omega
  have HED := hide (fun (w' : World) (g : Gr w w') => rEdited_any p A B c d x w' (hP.gr g) hv hc)
  have HPW := hide (fun (w' : World) (A' B' : Option Addr) (c' d' lo1 lo2 : Nat) (h1 : OwnL w' lo1 27 7 flL (.slice A' (edP p x).fl.length c') (edP p x).fl) (h2 : OwnL w' lo2 29 6 hoL (.slice B' (edP p x).ho.length d') (edP p x).ho) => ed_paw hP hx hv h1 h2)
  have hE3 : apE p x = valE (edP p x) := apE_ed hv hc
  have HV2 := hide (fun (w' : World) (A' B' : Option Addr) (c' d' : Nat) (h : PaW w' (edP p x) A' c' B' d') => rValidate_any (edP p x) A' B' c' d' w' h)
  rw [← hE3] at HV2
  have HE4 := hide (fun (h : apE p x = 0) => apP_ok h)
  have HE5 := hide (fun (h : ¬ apE p x = 0) => apP_no h)
  rw [hv] at HV
  clear hP hx hE3 hc hv
  generalize apE p x = aE at *
  generalize apP p x = aP at *
  generalize edP p x = q at *
  obtain ⟨k, xi, fl, ho, ww, hh⟩ := x
  dsimp only at *
  subst hk
  have HW := hide (fun w' => rwithin_any 5 1 6 w')
  rw [show wiB 5 1 6 = true by decide] at HW
  obtain ⟨w0, hw0⟩ : ∃ w0, ((w.alloc (.cells #[.string p.nm, .string p.mt, iv p.ga, iv p.gr, iv p.wd, iv p.ht, .slice A p.fl.length c, .slice B p.ho.length d] 25)).alloc (.cells #[iv 5, iv xi, .string fl.nm, iv fl.pa, iv fl.sd, iv fl.o, iv fl.wd, iv fl.ln, iv fl.an, iv ho.fa, iv ho.kd, iv ho.x, iv ho.y, iv ho.w, iv ho.h, iv ww, iv hh] 31)).alloc (.cells #[.string ⟨#[]⟩, .string ⟨#[]⟩, iv 0, iv 0, iv 0, iv 0, .slice none 0 0, .slice none 0 0] 25) = w0 := ⟨_, rfl⟩
  have gw0 : Gr w w0 := by rw [← hw0]; exact Gr.alloc (Gr.alloc (Gr.alloc (Gr.refl _) _) _) _
  have s0 : w0.heap.size = w.heap.size + 3 := by rw [← hw0]; simp
  have kp : Bx8 w0 w.heap.size (.string p.nm) (.string p.mt) (iv p.ga) (iv p.gr) (iv p.wd) (iv p.ht) (.slice A p.fl.length c) (.slice B p.ho.length d) := by rw [← hw0]; constructor <;> simp [go_sem]
  have ke : BxE w0 (w.heap.size + 1) ⟨5, xi, fl, ho, ww, hh⟩ := by rw [← hw0]; constructor <;> simp [go_sem]
  have kr : Bx8 w0 (w.heap.size + 1 + 1) (.string ⟨#[]⟩) (.string ⟨#[]⟩) (iv 0) (iv 0) (iv 0) (iv 0) (.slice none 0 0) (.slice none 0 0) := by rw [← hw0]; constructor <;> simp [go_sem]
  have KP := hide kp
  have KE := hide ke
  have KR := hide kr
  clear ke kr
  clear kp
  obtain ⟨xl, x0, x1, x2, x3, x4, x5, x6, x7, xf⟩ := KP.out
  go_enter Try.func9, Try.ntmps9
  go_upto_region 1 with fail
  clear hw0
  go_wp2_with fail
  refine (HV.out _ gw0).mono ?_
  rintro e w1 ⟨rfl, g1⟩
  have z1 := g1.size
  have gw1 : Gr w w1 := gw0.trans g1
  have KP1 := hide (KP.out.gr g1)
  have KE1 := hide (KE.out.gr g1)
  have KR1 := hide (KR.out.gr g1)
  clear xl x0 x1 x2 x3 x4 x5 x6 x7 xf KP KE KR HV
  obtain ⟨xl, x0, x1, x2, x3, x4, x5, x6, x7, xf⟩ := KP1.out
  obtain ⟨el, e0, e1, e2, e3, e4, e5, e6, e7, e8, e9, e10, e11, e12, e13, e14, e15, e16⟩ := KE1.out
  dsimp only at e0 e1
  clear e2 e3 e4 e5 e6 e7 e8 e9 e10 e11 e12 e13 e14 e15 e16
  go_wp2_with fail
  refine (HW.out _).mono ?_
  rintro e _ ⟨rfl, rfl⟩
  go_upto_region 12 with fail
  go_wp2_with (refine wpList_loadE rfl _ rfl _ _ rfl KE1.out ?_)
  refine (HED.out _ gw1).mono ?_
  rintro e w2 ⟨A1, c1, B1, d1, rfl, o1, o2, dj, g2⟩
  clear xl x0 x1 x2 x3 x4 x5 x6 x7 xf KP1 KE1 el e0 e1
  have gw2 : Gr w w2 := gw1.trans g2
  have KR2 := hide (KR1.out.gr g2)
  have hpw := HPW.out _ _ _ _ _ _ _ o1 o2
  have HPQ := hide hpw
  have O1 := hide o1
  have O2 := hide o2
  have z2 := g2.size
  clear o1 o2 hpw HPW HED
  go_wp2_with fail
  refine (HV2.out _ A1 B1 c1 d1 (HPQ.out.gr (Gr.alloc (Gr.refl _) _))).mono ?_
  rintro e w3 ⟨rfl, g3⟩
  have gq4 : Gr w2 w3 := (Gr.alloc (Gr.refl _) _).trans g3
  have gw4 : Gr w w3 := gw2.trans gq4
  have KR4 := hide (KR2.out.gr gq4)
  obtain ⟨tl, t0, t1, t2, t3, t4, t5, t6, t7, tf⟩ := KR4.out
  have HQB : Bx8 w3 w2.heap.size (.string q.nm) (.string q.mt) (iv q.ga) (iv q.gr) (iv q.wd) (iv q.ht) (.slice A1 q.fl.length c1) (.slice B1 q.ho.length d1) := by
    have k0 : Bx8 (w2.alloc (.cells #[.string q.nm, .string q.mt, iv q.ga, iv q.gr, iv q.wd, iv q.ht, .slice A1 q.fl.length c1, .slice B1 q.ho.length d1] 25)) w2.heap.size (.string q.nm) (.string q.mt) (iv q.ga) (iv q.gr) (iv q.wd) (iv q.ht) (.slice A1 q.fl.length c1) (.slice B1 q.ho.length d1) := by constructor <;> simp [go_sem]
    exact k0.gr g3
  obtain ⟨vl, v0, v1, v2, v3, v4, v5, v6, v7, vf⟩ := HQB
  by_cases ha : aE = 0
  · subst ha
    have HQ := hide (HE4.out rfl)
    clear HE4 HE5
    go_wp2_with fail
    simp only [HQ.out]
    exact rapR_fin rfl rfl rfl KR4.out ⟨by omega, (by omega : w.heap.size + 1 + 1 < w1.heap.size)⟩ (O1.out.gr gq4) (O2.out.gr gq4) dj gw4
  · have hna : (aE != 0) = true := by simpa using ha
    have hq5 := HE5.out ha
    have HQ := hide hq5
    clear ha hq5 HE4 HE5
    go_wp2_with fail
    simp only [HQ.out]
    exact rapR_nof rfl rfl rfl KR4.out (by omega) gw4
set_option maxHeartbeats 8000000 in
set_option maxRecDepth 100000 in
theorem rApply_k2 (p : Pa) (A B : Option Addr) (c d : Nat) (x : Ed) (w : World) (hP : PaW w p A c B d) (hx : x.fl.nm.size ≤ 1000) (hv : valE p = 0) (hk : x.k = 2) (hi : wiB x.i 0 ((p.fl.length : Int) - 1) = true) (hc : ceE p x = 0) :
    Calls Try.prog 9 #[pav p A c B d, edv x] w fun e w' => ApR w w' (apP p x) (apE p x) e := by
  have HV := hide (fun (w' : World) (g : Gr w w') => rValidate_any p A B c d w' (hP.gr g))
  have HU := hide (fun (w' : World) (g : Gr w w') => rused_any p A B c d (x.i + 1) w' (hP.gr g))
  have n1 := hP.fl.len
  have n2 := hP.ho.len
  have w1' : IntKind.i64.wrap ((p.fl.length : Int) - 1) = (p.fl.length : Int) - 1 := by rw [IntKind.wrap_i64]; omega
  have w2' : IntKind.i64.wrap ((p.ho.length : Int) - 1) = (p.ho.length : Int) - 1 := by rw [IntKind.wrap_i64]; omega
  have HED := hide (fun (w' : World) (g : Gr w w') => rEdited_any p A B c d x w' (hP.gr g) hv hc)
  have HPW := hide (fun (w' : World) (A' B' : Option Addr) (c' d' lo1 lo2 : Nat) (h1 : OwnL w' lo1 27 7 flL (.slice A' (edP p x).fl.length c') (edP p x).fl) (h2 : OwnL w' lo2 29 6 hoL (.slice B' (edP p x).ho.length d') (edP p x).ho) => ed_paw hP hx hv h1 h2)
  have hE3 : apE p x = valE (edP p x) := apE_ed hv hc
  have HV2 := hide (fun (w' : World) (A' B' : Option Addr) (c' d' : Nat) (h : PaW w' (edP p x) A' c' B' d') => rValidate_any (edP p x) A' B' c' d' w' h)
  rw [← hE3] at HV2
  have HE4 := hide (fun (h : apE p x = 0) => apP_ok h)
  have HE5 := hide (fun (h : ¬ apE p x = 0) => apP_no h)
  rw [hv] at HV
  clear hP hx hE3 hc hv
  generalize apE p x = aE at *
  generalize apP p x = aP at *
  generalize edP p x = q at *
  obtain ⟨k, xi, fl, ho, ww, hh⟩ := x
  dsimp only at *
  subst hk
  have HW := hide (fun w' => rwithin_any 2 1 6 w')
  rw [show wiB 2 1 6 = true by decide] at HW
  have HI := hide (fun w' => rwithin_any xi 0 ((p.fl.length : Int) - 1) w')
  obtain ⟨i0, i1⟩ := wiB_iff.1 hi
  have hwr : IntKind.i64.wrap (xi + 1) = xi + 1 := by rw [IntKind.wrap_i64]; omega
  rw [hi] at HI
  clear hi
  obtain ⟨w0, hw0⟩ : ∃ w0, ((w.alloc (.cells #[.string p.nm, .string p.mt, iv p.ga, iv p.gr, iv p.wd, iv p.ht, .slice A p.fl.length c, .slice B p.ho.length d] 25)).alloc (.cells #[iv 2, iv xi, .string fl.nm, iv fl.pa, iv fl.sd, iv fl.o, iv fl.wd, iv fl.ln, iv fl.an, iv ho.fa, iv ho.kd, iv ho.x, iv ho.y, iv ho.w, iv ho.h, iv ww, iv hh] 31)).alloc (.cells #[.string ⟨#[]⟩, .string ⟨#[]⟩, iv 0, iv 0, iv 0, iv 0, .slice none 0 0, .slice none 0 0] 25) = w0 := ⟨_, rfl⟩
  have gw0 : Gr w w0 := by rw [← hw0]; exact Gr.alloc (Gr.alloc (Gr.alloc (Gr.refl _) _) _) _
  have s0 : w0.heap.size = w.heap.size + 3 := by rw [← hw0]; simp
  have kp : Bx8 w0 w.heap.size (.string p.nm) (.string p.mt) (iv p.ga) (iv p.gr) (iv p.wd) (iv p.ht) (.slice A p.fl.length c) (.slice B p.ho.length d) := by rw [← hw0]; constructor <;> simp [go_sem]
  have ke : BxE w0 (w.heap.size + 1) ⟨2, xi, fl, ho, ww, hh⟩ := by rw [← hw0]; constructor <;> simp [go_sem]
  have kr : Bx8 w0 (w.heap.size + 1 + 1) (.string ⟨#[]⟩) (.string ⟨#[]⟩) (iv 0) (iv 0) (iv 0) (iv 0) (.slice none 0 0) (.slice none 0 0) := by rw [← hw0]; constructor <;> simp [go_sem]
  have KP := hide kp
  have KE := hide ke
  have KR := hide kr
  clear ke kr
  clear kp
  obtain ⟨xl, x0, x1, x2, x3, x4, x5, x6, x7, xf⟩ := KP.out
  go_enter Try.func9, Try.ntmps9
  go_upto_region 1 with fail
  clear hw0
  go_wp2_with fail
  refine (HV.out _ gw0).mono ?_
  rintro e w1 ⟨rfl, g1⟩
  have z1 := g1.size
  have gw1 : Gr w w1 := gw0.trans g1
  have KP1 := hide (KP.out.gr g1)
  have KE1 := hide (KE.out.gr g1)
  have KR1 := hide (KR.out.gr g1)
  clear xl x0 x1 x2 x3 x4 x5 x6 x7 xf KP KE KR HV
  obtain ⟨xl, x0, x1, x2, x3, x4, x5, x6, x7, xf⟩ := KP1.out
  obtain ⟨el, e0, e1, e2, e3, e4, e5, e6, e7, e8, e9, e10, e11, e12, e13, e14, e15, e16⟩ := KE1.out
  dsimp only at e0 e1
  clear e2 e3 e4 e5 e6 e7 e8 e9 e10 e11 e12 e13 e14 e15 e16
  go_wp2_with fail
  refine (HW.out _).mono ?_
  rintro e _ ⟨rfl, rfl⟩
  go_wp2_with fail
  refine (HI.out _).mono ?_
  rintro e _ ⟨rfl, rfl⟩
  go_upto_region 12 with fail
  go_wp2_with (refine wpList_loadE rfl _ rfl _ _ rfl KE1.out ?_)
  refine (HED.out _ gw1).mono ?_
  rintro e w2 ⟨A1, c1, B1, d1, rfl, o1, o2, dj, g2⟩
  clear xl x0 x1 x2 x3 x4 x5 x6 x7 xf KP1 KE1 el e0 e1
  have gw2 : Gr w w2 := gw1.trans g2
  have KR2 := hide (KR1.out.gr g2)
  have hpw := HPW.out _ _ _ _ _ _ _ o1 o2
  have HPQ := hide hpw
  have O1 := hide o1
  have O2 := hide o2
  have z2 := g2.size
  clear o1 o2 hpw HPW HED
  go_wp2_with fail
  refine (HV2.out _ A1 B1 c1 d1 (HPQ.out.gr (Gr.alloc (Gr.refl _) _))).mono ?_
  rintro e w3 ⟨rfl, g3⟩
  have gq4 : Gr w2 w3 := (Gr.alloc (Gr.refl _) _).trans g3
  have gw4 : Gr w w3 := gw2.trans gq4
  have KR4 := hide (KR2.out.gr gq4)
  obtain ⟨tl, t0, t1, t2, t3, t4, t5, t6, t7, tf⟩ := KR4.out
  have HQB : Bx8 w3 w2.heap.size (.string q.nm) (.string q.mt) (iv q.ga) (iv q.gr) (iv q.wd) (iv q.ht) (.slice A1 q.fl.length c1) (.slice B1 q.ho.length d1) := by
    have k0 : Bx8 (w2.alloc (.cells #[.string q.nm, .string q.mt, iv q.ga, iv q.gr, iv q.wd, iv q.ht, .slice A1 q.fl.length c1, .slice B1 q.ho.length d1] 25)) w2.heap.size (.string q.nm) (.string q.mt) (iv q.ga) (iv q.gr) (iv q.wd) (iv q.ht) (.slice A1 q.fl.length c1) (.slice B1 q.ho.length d1) := by constructor <;> simp [go_sem]
    exact k0.gr g3
  obtain ⟨vl, v0, v1, v2, v3, v4, v5, v6, v7, vf⟩ := HQB
  by_cases ha : aE = 0
  · subst ha
    have HQ := hide (HE4.out rfl)
    clear HE4 HE5
    go_wp2_with fail
    simp only [HQ.out]
    exact rapR_fin rfl rfl rfl KR4.out ⟨by omega, (by omega : w.heap.size + 1 + 1 < w1.heap.size)⟩ (O1.out.gr gq4) (O2.out.gr gq4) dj gw4
  · have hna : (aE != 0) = true := by simpa using ha
    have hq5 := HE5.out ha
    have HQ := hide hq5
    clear ha hq5 HE4 HE5
    go_wp2_with fail
    simp only [HQ.out]
    exact rapR_nof rfl rfl rfl KR4.out (by omega) gw4
set_option maxHeartbeats 8000000 in
set_option maxRecDepth 100000 in
theorem rApply_k4 (p : Pa) (A B : Option Addr) (c d : Nat) (x : Ed) (w : World) (hP : PaW w p A c B d) (hx : x.fl.nm.size ≤ 1000) (hv : valE p = 0) (hk : x.k = 4) (hi : wiB x.i 0 ((p.fl.length : Int) - 1) = true) (hu : usB p (x.i + 1) = false) (hc : ceE p x = 0) :
    Calls Try.prog 9 #[pav p A c B d, edv x] w fun e w' => ApR w w' (apP p x) (apE p x) e := by
  have HV := hide (fun (w' : World) (g : Gr w w') => rValidate_any p A B c d w' (hP.gr g))
  have HU := hide (fun (w' : World) (g : Gr w w') => rused_any p A B c d (x.i + 1) w' (hP.gr g))
  have n1 := hP.fl.len
  have n2 := hP.ho.len
  have w1' : IntKind.i64.wrap ((p.fl.length : Int) - 1) = (p.fl.length : Int) - 1 := by rw [IntKind.wrap_i64]; omega
  have w2' : IntKind.i64.wrap ((p.ho.length : Int) - 1) = (p.ho.length : Int) - 1 := by rw [IntKind.wrap_i64]; omega
  have HED := hide (fun (w' : World) (g : Gr w w') => rEdited_any p A B c d x w' (hP.gr g) hv hc)
  have HPW := hide (fun (w' : World) (A' B' : Option Addr) (c' d' lo1 lo2 : Nat) (h1 : OwnL w' lo1 27 7 flL (.slice A' (edP p x).fl.length c') (edP p x).fl) (h2 : OwnL w' lo2 29 6 hoL (.slice B' (edP p x).ho.length d') (edP p x).ho) => ed_paw hP hx hv h1 h2)
  have hE3 : apE p x = valE (edP p x) := apE_ed hv hc
  have HV2 := hide (fun (w' : World) (A' B' : Option Addr) (c' d' : Nat) (h : PaW w' (edP p x) A' c' B' d') => rValidate_any (edP p x) A' B' c' d' w' h)
  rw [← hE3] at HV2
  have HE4 := hide (fun (h : apE p x = 0) => apP_ok h)
  have HE5 := hide (fun (h : ¬ apE p x = 0) => apP_no h)
  rw [hv] at HV
  clear hP hx hE3 hc hv
  generalize apE p x = aE at *
  generalize apP p x = aP at *
  generalize edP p x = q at *
  obtain ⟨k, xi, fl, ho, ww, hh⟩ := x
  dsimp only at *
  subst hk
  have HW := hide (fun w' => rwithin_any 4 1 6 w')
  rw [show wiB 4 1 6 = true by decide] at HW
  have HI := hide (fun w' => rwithin_any xi 0 ((p.fl.length : Int) - 1) w')
  obtain ⟨i0, i1⟩ := wiB_iff.1 hi
  have hwr : IntKind.i64.wrap (xi + 1) = xi + 1 := by rw [IntKind.wrap_i64]; omega
  rw [hi] at HI
  clear hi
  rw [hu] at HU
  clear hu
  obtain ⟨w0, hw0⟩ : ∃ w0, ((w.alloc (.cells #[.string p.nm, .string p.mt, iv p.ga, iv p.gr, iv p.wd, iv p.ht, .slice A p.fl.length c, .slice B p.ho.length d] 25)).alloc (.cells #[iv 4, iv xi, .string fl.nm, iv fl.pa, iv fl.sd, iv fl.o, iv fl.wd, iv fl.ln, iv fl.an, iv ho.fa, iv ho.kd, iv ho.x, iv ho.y, iv ho.w, iv ho.h, iv ww, iv hh] 31)).alloc (.cells #[.string ⟨#[]⟩, .string ⟨#[]⟩, iv 0, iv 0, iv 0, iv 0, .slice none 0 0, .slice none 0 0] 25) = w0 := ⟨_, rfl⟩
  have gw0 : Gr w w0 := by rw [← hw0]; exact Gr.alloc (Gr.alloc (Gr.alloc (Gr.refl _) _) _) _
  have s0 : w0.heap.size = w.heap.size + 3 := by rw [← hw0]; simp
  have kp : Bx8 w0 w.heap.size (.string p.nm) (.string p.mt) (iv p.ga) (iv p.gr) (iv p.wd) (iv p.ht) (.slice A p.fl.length c) (.slice B p.ho.length d) := by rw [← hw0]; constructor <;> simp [go_sem]
  have ke : BxE w0 (w.heap.size + 1) ⟨4, xi, fl, ho, ww, hh⟩ := by rw [← hw0]; constructor <;> simp [go_sem]
  have kr : Bx8 w0 (w.heap.size + 1 + 1) (.string ⟨#[]⟩) (.string ⟨#[]⟩) (iv 0) (iv 0) (iv 0) (iv 0) (.slice none 0 0) (.slice none 0 0) := by rw [← hw0]; constructor <;> simp [go_sem]
  have KP := hide kp
  have KE := hide ke
  have KR := hide kr
  clear ke kr
  clear kp
  obtain ⟨xl, x0, x1, x2, x3, x4, x5, x6, x7, xf⟩ := KP.out
  go_enter Try.func9, Try.ntmps9
  go_upto_region 1 with fail
  clear hw0
  go_wp2_with fail
  refine (HV.out _ gw0).mono ?_
  rintro e w1 ⟨rfl, g1⟩
  have z1 := g1.size
  have gw1 : Gr w w1 := gw0.trans g1
  have KP1 := hide (KP.out.gr g1)
  have KE1 := hide (KE.out.gr g1)
  have KR1 := hide (KR.out.gr g1)
  clear xl x0 x1 x2 x3 x4 x5 x6 x7 xf KP KE KR HV
  obtain ⟨xl, x0, x1, x2, x3, x4, x5, x6, x7, xf⟩ := KP1.out
  obtain ⟨el, e0, e1, e2, e3, e4, e5, e6, e7, e8, e9, e10, e11, e12, e13, e14, e15, e16⟩ := KE1.out
  dsimp only at e0 e1
  clear e2 e3 e4 e5 e6 e7 e8 e9 e10 e11 e12 e13 e14 e15 e16
  go_wp2_with fail
  refine (HW.out _).mono ?_
  rintro e _ ⟨rfl, rfl⟩
  go_wp2_with fail
  refine (HI.out _).mono ?_
  rintro e _ ⟨rfl, rfl⟩
  go_wp2_with fail
  refine (HU.out _ gw1).mono ?_
  rintro e w2 ⟨rfl, g2⟩
  have z2 := g2.size
  have gw2 : Gr w w2 := gw1.trans g2
  have KP2 := hide (KP1.out.gr g2)
  have KE2 := hide (KE1.out.gr g2)
  have KR2 := hide (KR1.out.gr g2)
  clear xl x0 x1 x2 x3 x4 x5 x6 x7 xf el e0 e1 KP1 KE1 KR1
  obtain ⟨xl, x0, x1, x2, x3, x4, x5, x6, x7, xf⟩ := KP2.out
  go_wp2_with (refine wpList_loadE rfl _ rfl _ _ rfl KE2.out ?_)
  refine (HED.out _ gw2).mono ?_
  rintro e w3 ⟨A1, c1, B1, d1, rfl, o1, o2, dj, g3⟩
  clear xl x0 x1 x2 x3 x4 x5 x6 x7 xf KP2 KE2
  have gw3 : Gr w w3 := gw2.trans g3
  have KR3 := hide (KR2.out.gr g3)
  have hpw := HPW.out _ _ _ _ _ _ _ o1 o2
  have HPQ := hide hpw
  have O1 := hide o1
  have O2 := hide o2
  have z3 := g3.size
  clear o1 o2 hpw HPW HED
  go_wp2_with fail
  refine (HV2.out _ A1 B1 c1 d1 (HPQ.out.gr (Gr.alloc (Gr.refl _) _))).mono ?_
  rintro e w4 ⟨rfl, g4⟩
  have gq4 : Gr w3 w4 := (Gr.alloc (Gr.refl _) _).trans g4
  have gw4 : Gr w w4 := gw3.trans gq4
  have KR4 := hide (KR3.out.gr gq4)
  obtain ⟨tl, t0, t1, t2, t3, t4, t5, t6, t7, tf⟩ := KR4.out
  have HQB : Bx8 w4 w3.heap.size (.string q.nm) (.string q.mt) (iv q.ga) (iv q.gr) (iv q.wd) (iv q.ht) (.slice A1 q.fl.length c1) (.slice B1 q.ho.length d1) := by
    have k0 : Bx8 (w3.alloc (.cells #[.string q.nm, .string q.mt, iv q.ga, iv q.gr, iv q.wd, iv q.ht, .slice A1 q.fl.length c1, .slice B1 q.ho.length d1] 25)) w3.heap.size (.string q.nm) (.string q.mt) (iv q.ga) (iv q.gr) (iv q.wd) (iv q.ht) (.slice A1 q.fl.length c1) (.slice B1 q.ho.length d1) := by constructor <;> simp [go_sem]
    exact k0.gr g4
  obtain ⟨vl, v0, v1, v2, v3, v4, v5, v6, v7, vf⟩ := HQB
  by_cases ha : aE = 0
  · subst ha
    have HQ := hide (HE4.out rfl)
    clear HE4 HE5
    go_wp2_with fail
    simp only [HQ.out]
    exact rapR_fin rfl rfl rfl KR4.out ⟨by omega, (by omega : w.heap.size + 1 + 1 < w2.heap.size)⟩ (O1.out.gr gq4) (O2.out.gr gq4) dj gw4
  · have hna : (aE != 0) = true := by simpa using ha
    have hq5 := HE5.out ha
    have HQ := hide hq5
    clear ha hq5 HE4 HE5
    go_wp2_with fail
    simp only [HQ.out]
    exact rapR_nof rfl rfl rfl KR4.out (by omega) gw4
set_option maxHeartbeats 8000000 in
set_option maxRecDepth 100000 in
theorem rApply_k6 (p : Pa) (A B : Option Addr) (c d : Nat) (x : Ed) (w : World) (hP : PaW w p A c B d) (hx : x.fl.nm.size ≤ 1000) (hv : valE p = 0) (hk : x.k = 6) (hi : wiB x.i 0 ((p.ho.length : Int) - 1) = true) (hc : ceE p x = 0) :
    Calls Try.prog 9 #[pav p A c B d, edv x] w fun e w' => ApR w w' (apP p x) (apE p x) e := by
  have HV := hide (fun (w' : World) (g : Gr w w') => rValidate_any p A B c d w' (hP.gr g))
  have HU := hide (fun (w' : World) (g : Gr w w') => rused_any p A B c d (x.i + 1) w' (hP.gr g))
  have n1 := hP.fl.len
  have n2 := hP.ho.len
  have w1' : IntKind.i64.wrap ((p.fl.length : Int) - 1) = (p.fl.length : Int) - 1 := by rw [IntKind.wrap_i64]; omega
  have w2' : IntKind.i64.wrap ((p.ho.length : Int) - 1) = (p.ho.length : Int) - 1 := by rw [IntKind.wrap_i64]; omega
  have HED := hide (fun (w' : World) (g : Gr w w') => rEdited_any p A B c d x w' (hP.gr g) hv hc)
  have HPW := hide (fun (w' : World) (A' B' : Option Addr) (c' d' lo1 lo2 : Nat) (h1 : OwnL w' lo1 27 7 flL (.slice A' (edP p x).fl.length c') (edP p x).fl) (h2 : OwnL w' lo2 29 6 hoL (.slice B' (edP p x).ho.length d') (edP p x).ho) => ed_paw hP hx hv h1 h2)
  have hE3 : apE p x = valE (edP p x) := apE_ed hv hc
  have HV2 := hide (fun (w' : World) (A' B' : Option Addr) (c' d' : Nat) (h : PaW w' (edP p x) A' c' B' d') => rValidate_any (edP p x) A' B' c' d' w' h)
  rw [← hE3] at HV2
  have HE4 := hide (fun (h : apE p x = 0) => apP_ok h)
  have HE5 := hide (fun (h : ¬ apE p x = 0) => apP_no h)
  rw [hv] at HV
  clear hP hx hE3 hc hv
  generalize apE p x = aE at *
  generalize apP p x = aP at *
  generalize edP p x = q at *
  obtain ⟨k, xi, fl, ho, ww, hh⟩ := x
  dsimp only at *
  subst hk
  have HW := hide (fun w' => rwithin_any 6 1 6 w')
  rw [show wiB 6 1 6 = true by decide] at HW
  have HI := hide (fun w' => rwithin_any xi 0 ((p.ho.length : Int) - 1) w')
  obtain ⟨i0, i1⟩ := wiB_iff.1 hi
  have hwr : IntKind.i64.wrap (xi + 1) = xi + 1 := by rw [IntKind.wrap_i64]; omega
  rw [hi] at HI
  clear hi
  obtain ⟨w0, hw0⟩ : ∃ w0, ((w.alloc (.cells #[.string p.nm, .string p.mt, iv p.ga, iv p.gr, iv p.wd, iv p.ht, .slice A p.fl.length c, .slice B p.ho.length d] 25)).alloc (.cells #[iv 6, iv xi, .string fl.nm, iv fl.pa, iv fl.sd, iv fl.o, iv fl.wd, iv fl.ln, iv fl.an, iv ho.fa, iv ho.kd, iv ho.x, iv ho.y, iv ho.w, iv ho.h, iv ww, iv hh] 31)).alloc (.cells #[.string ⟨#[]⟩, .string ⟨#[]⟩, iv 0, iv 0, iv 0, iv 0, .slice none 0 0, .slice none 0 0] 25) = w0 := ⟨_, rfl⟩
  have gw0 : Gr w w0 := by rw [← hw0]; exact Gr.alloc (Gr.alloc (Gr.alloc (Gr.refl _) _) _) _
  have s0 : w0.heap.size = w.heap.size + 3 := by rw [← hw0]; simp
  have kp : Bx8 w0 w.heap.size (.string p.nm) (.string p.mt) (iv p.ga) (iv p.gr) (iv p.wd) (iv p.ht) (.slice A p.fl.length c) (.slice B p.ho.length d) := by rw [← hw0]; constructor <;> simp [go_sem]
  have ke : BxE w0 (w.heap.size + 1) ⟨6, xi, fl, ho, ww, hh⟩ := by rw [← hw0]; constructor <;> simp [go_sem]
  have kr : Bx8 w0 (w.heap.size + 1 + 1) (.string ⟨#[]⟩) (.string ⟨#[]⟩) (iv 0) (iv 0) (iv 0) (iv 0) (.slice none 0 0) (.slice none 0 0) := by rw [← hw0]; constructor <;> simp [go_sem]
  have KP := hide kp
  have KE := hide ke
  have KR := hide kr
  clear ke kr
  clear kp
  obtain ⟨xl, x0, x1, x2, x3, x4, x5, x6, x7, xf⟩ := KP.out
  go_enter Try.func9, Try.ntmps9
  go_upto_region 1 with fail
  clear hw0
  go_wp2_with fail
  refine (HV.out _ gw0).mono ?_
  rintro e w1 ⟨rfl, g1⟩
  have z1 := g1.size
  have gw1 : Gr w w1 := gw0.trans g1
  have KP1 := hide (KP.out.gr g1)
  have KE1 := hide (KE.out.gr g1)
  have KR1 := hide (KR.out.gr g1)
  clear xl x0 x1 x2 x3 x4 x5 x6 x7 xf KP KE KR HV
  obtain ⟨xl, x0, x1, x2, x3, x4, x5, x6, x7, xf⟩ := KP1.out
  obtain ⟨el, e0, e1, e2, e3, e4, e5, e6, e7, e8, e9, e10, e11, e12, e13, e14, e15, e16⟩ := KE1.out
  dsimp only at e0 e1
  clear e2 e3 e4 e5 e6 e7 e8 e9 e10 e11 e12 e13 e14 e15 e16
  go_wp2_with fail
  refine (HW.out _).mono ?_
  rintro e _ ⟨rfl, rfl⟩
  go_wp2_with fail
  refine (HI.out _).mono ?_
  rintro e _ ⟨rfl, rfl⟩
  go_upto_region 12 with fail
  go_wp2_with (refine wpList_loadE rfl _ rfl _ _ rfl KE1.out ?_)
  refine (HED.out _ gw1).mono ?_
  rintro e w2 ⟨A1, c1, B1, d1, rfl, o1, o2, dj, g2⟩
  clear xl x0 x1 x2 x3 x4 x5 x6 x7 xf KP1 KE1 el e0 e1
  have gw2 : Gr w w2 := gw1.trans g2
  have KR2 := hide (KR1.out.gr g2)
  have hpw := HPW.out _ _ _ _ _ _ _ o1 o2
  have HPQ := hide hpw
  have O1 := hide o1
  have O2 := hide o2
  have z2 := g2.size
  clear o1 o2 hpw HPW HED
  go_wp2_with fail
  refine (HV2.out _ A1 B1 c1 d1 (HPQ.out.gr (Gr.alloc (Gr.refl _) _))).mono ?_
  rintro e w3 ⟨rfl, g3⟩
  have gq4 : Gr w2 w3 := (Gr.alloc (Gr.refl _) _).trans g3
  have gw4 : Gr w w3 := gw2.trans gq4
  have KR4 := hide (KR2.out.gr gq4)
  obtain ⟨tl, t0, t1, t2, t3, t4, t5, t6, t7, tf⟩ := KR4.out
  have HQB : Bx8 w3 w2.heap.size (.string q.nm) (.string q.mt) (iv q.ga) (iv q.gr) (iv q.wd) (iv q.ht) (.slice A1 q.fl.length c1) (.slice B1 q.ho.length d1) := by
    have k0 : Bx8 (w2.alloc (.cells #[.string q.nm, .string q.mt, iv q.ga, iv q.gr, iv q.wd, iv q.ht, .slice A1 q.fl.length c1, .slice B1 q.ho.length d1] 25)) w2.heap.size (.string q.nm) (.string q.mt) (iv q.ga) (iv q.gr) (iv q.wd) (iv q.ht) (.slice A1 q.fl.length c1) (.slice B1 q.ho.length d1) := by constructor <;> simp [go_sem]
    exact k0.gr g3
  obtain ⟨vl, v0, v1, v2, v3, v4, v5, v6, v7, vf⟩ := HQB
  by_cases ha : aE = 0
  · subst ha
    have HQ := hide (HE4.out rfl)
    clear HE4 HE5
    go_wp2_with fail
    simp only [HQ.out]
    exact rapR_fin rfl rfl rfl KR4.out ⟨by omega, (by omega : w.heap.size + 1 + 1 < w1.heap.size)⟩ (O1.out.gr gq4) (O2.out.gr gq4) dj gw4
  · have hna : (aE != 0) = true := by simpa using ha
    have hq5 := HE5.out ha
    have HQ := hide hq5
    clear ha hq5 HE4 HE5
    go_wp2_with fail
    simp only [HQ.out]
    exact rapR_nof rfl rfl rfl KR4.out (by omega) gw4
theorem rApply_any (p : Pa) (A B : Option Addr) (c d : Nat) (x : Ed) (w : World) (hP : PaW w p A c B d) (hx : x.fl.nm.size ≤ 1000) :
    Calls Try.prog 9 #[pav p A c B d, edv x] w fun e w' => ApR w w' (apP p x) (apE p x) e := by
  by_cases hv : valE p = 0
  case neg => exact rApply_val p A B c d x w hP hv
  case pos =>
  by_cases k1 : x.k = 1
  · exact rApply_k1 p A B c d x w hP hx hv k1 (by unfold ceE; rw [if_pos (.inl k1)])
  by_cases k3 : x.k = 3
  · exact rApply_k3 p A B c d x w hP hx hv k3 (by unfold ceE; rw [if_pos (.inr (.inl k3))])
  by_cases k5 : x.k = 5
  · exact rApply_k5 p A B c d x w hP hx hv k5 (by unfold ceE; rw [if_pos (.inr (.inr k5))])
  have h0 : ¬ (x.k = 1 ∨ x.k = 3 ∨ x.k = 5) := by omega
  by_cases k2 : x.k = 2
  · cases hi : wiB x.i 0 ((p.fl.length : Int) - 1) with
    | true => exact rApply_k2 p A B c d x w hP hx hv k2 hi (by unfold ceE; rw [if_neg h0, if_pos k2, hi]; rfl)
    | false => exact rApply_none2 p A B c d x w hP hv k2 hi (by unfold ceE; rw [if_neg h0, if_pos k2, hi]; rfl)
  by_cases k4 : x.k = 4
  · cases hi : wiB x.i 0 ((p.fl.length : Int) - 1) with
    | true =>
      cases hu : usB p (x.i + 1) with
      | true => exact rApply_used p A B c d x w hP hv k4 hi hu (by unfold ceE; rw [if_neg h0, if_neg k2, if_pos k4, hi, hu]; rfl)
      | false => exact rApply_k4 p A B c d x w hP hx hv k4 hi hu (by unfold ceE; rw [if_neg h0, if_neg k2, if_pos k4, hi, hu]; rfl)
    | false => exact rApply_none4 p A B c d x w hP hv k4 hi (by unfold ceE; rw [if_neg h0, if_neg k2, if_pos k4, hi]; rfl)
  by_cases k6 : x.k = 6
  · cases hi : wiB x.i 0 ((p.ho.length : Int) - 1) with
    | true => exact rApply_k6 p A B c d x w hP hx hv k6 hi (by unfold ceE; rw [if_neg h0, if_neg k2, if_neg k4, if_pos k6, hi]; rfl)
    | false => exact rApply_none6 p A B c d x w hP hv k6 hi (by unfold ceE; rw [if_neg h0, if_neg k2, if_neg k4, if_pos k6, hi]; rfl)
  have hw : wiB x.k 1 6 = false := by
    cases h : wiB x.k 1 6 with
    | false => rfl
    | true => obtain ⟨a1, a2⟩ := wiB_iff.1 h; omega
  exact rApply_kind p A B c d x w hP hv hw (by unfold ceE; rw [if_neg h0, if_neg k2, if_neg k4, if_neg k6])
end Go.Proofs.Ytefjgfglommefaa
set_option linter.unusedVariables false
set_option linter.unusedSimpArgs false
namespace Go.Proofs.Ytefjgfglommefaa
set_option linter.unusedVariables false
set_option linter.unusedSimpArgs false
open Go Go.ChangeShapes Go.WideShapes Go.ChangeAt Go.RowKit Go.Deep

theorem apP_paW {w w' : World} {p : Pa} {x : Ed} {A B A' B' : Option Addr} {c d c' d' lo1 lo2 : Nat} (hP : PaW w p A c B d) (hx : x.fl.nm.size ≤ 1000) (h1 : OwnL w' lo1 27 7 flL (.slice A' (apP p x).fl.length c') (apP p x).fl) (h2 : OwnL w' lo2 29 6 hoL (.slice B' (apP p x).ho.length d') (apP p x).ho) : PaW w' (apP p x) A' c' B' d' := by
  by_cases h : apE p x = 0
  · rw [apP_ok h] at h1 h2 ⊢
    exact ed_paw hP hx (apE_zero h).1 h1 h2
  · rw [apP_no h] at h1 h2 ⊢
    exact paW_of h1 h2 (by simp [paN]) (by simp [paN]) (fun y hy => by simp [paN] at hy) (by decide) (by decide)
/-- what the law puts into the part that came back -/
def spF (f : Fl) : Fl := ⟨⟨#[115, 112, 111, 105, 108, 116]⟩, f.pa, f.sd, f.o, f.wd, f.ln, f.an⟩
def spH (f : Ho) : Ho := ⟨f.fa, f.kd, -1, f.y, f.w, f.h⟩
/-- the law's variables while it spoils the part that came back -/
structure SpW (w wr : World) (Bo Ba l1 l3 : Nat) (p q : Pa) (A B A1 B1 A2 B2 : Option Addr) (c d c1 d1 c2 d2 : Nat) (xs : List Fl) (ys : List Ho) : Prop where
  gr : Gr w wr
  kp : Bx8 wr w.heap.size (.string p.nm) (.string p.mt) (iv p.ga) (iv p.gr) (iv p.wd) (iv p.ht) (.slice A p.fl.length c) (.slice B p.ho.length d)
  ko : Bx8 wr Bo (.string p.nm) (.string p.mt) (iv p.ga) (iv p.gr) (iv p.wd) (iv p.ht) (.slice A1 p.fl.length c1) (.slice B1 p.ho.length d1)
  ka : Bx8 wr Ba (.string q.nm) (.string q.mt) (iv q.ga) (iv q.gr) (iv q.wd) (iv q.ht) (.slice A2 q.fl.length c2) (.slice B2 q.ho.length d2)
  o1 : OwnL wr l1 27 7 flL (.slice A1 p.fl.length c1) p.fl
  o2 : OwnL wr l1 29 6 hoL (.slice B1 p.ho.length d1) p.ho
  o3 : OwnL wr l3 27 7 flL (.slice A2 q.fl.length c2) xs
  o4 : OwnL wr l3 29 6 hoL (.slice B2 q.ho.length d2) ys
/-- where the rows lie: the copy's below, those that came back between the two variables -/
structure SpB (w : World) (Bo Ba l3 : Nat) (nf nh mf mh : Nat) (A1 B1 A2 B2 : Option Addr) (c1 d1 c2 d2 : Nat) : Prop where
  s0 : w.heap.size < Bo
  s1 : Bo < l3
  b1 : ∀ b, (Value.slice A1 nf c1).ownBlock = some b → b < l3
  b2 : ∀ b, (Value.slice B1 nh d1).ownBlock = some b → b < l3
  b3 : ∀ b, (Value.slice A2 mf c2).ownBlock = some b → b < Ba
  b4 : ∀ b, (Value.slice B2 mh d2).ownBlock = some b → b < Ba
  dj : DJ (.slice A2 mf c2) (.slice B2 mh d2)
theorem SpW.to {w wr wx : World} {Bo Ba l1 l3 : Nat} {p q : Pa} {A B A1 B1 A2 B2 : Option Addr} {c d c1 d1 c2 d2 : Nat} {xs : List Fl} {ys : List Ho} (h : SpW w wr Bo Ba l1 l3 p q A B A1 B1 A2 B2 c d c1 d1 c2 d2 xs ys) (g : Gr wr wx) : SpW w wx Bo Ba l1 l3 p q A B A1 B1 A2 B2 c d c1 d1 c2 d2 xs ys :=
  ⟨h.gr.trans g, h.kp.gr g, h.ko.gr g, h.ka.gr g, h.o1.gr g, h.o2.gr g, h.o3.gr g, h.o4.gr g⟩
theorem SpW.put3 {w wr : World} {Bo Ba l1 l3 : Nat} {p q : Pa} {A B A1 B1 B2 : Option Addr} {b c d c1 d1 c2 d2 i : Nat} {xs xs' : List Fl} {ys : List Ho} {v : Value} (h : SpW w wr Bo Ba l1 l3 p q A B A1 B1 (some ⟨b, 0, none⟩) B2 c d c1 d1 c2 d2 xs ys) (H : SpB w Bo Ba l3 p.fl.length p.ho.length q.fl.length q.ho.length A1 B1 (some ⟨b, 0, none⟩) B2 c1 d1 c2 d2) (hb : l3 ≤ b)
    (ho : OwnL (wr.setCell ⟨b, i, none⟩ v) l3 27 7 flL (.slice (some ⟨b, 0, none⟩) q.fl.length c2) xs') : SpW w (wr.setCell ⟨b, i, none⟩ v) Bo Ba l1 l3 p q A B A1 B1 (some ⟨b, 0, none⟩) B2 c d c1 d1 c2 d2 xs' ys := by
  have h3 := H.b3 b rfl
  have := H.s0
  have := H.s1
  exact ⟨Gr.setCell h.gr (by dsimp only; omega) _, h.kp.set1 (by omega) _, h.ko.set1 (by omega) _, h.ka.set1 (by omega) _, own_other h.o1 (fun e => by have := H.b1 b e; omega) _, own_other h.o2 (fun e => by have := H.b2 b e; omega) _, ho, own_other h.o4 (fun e => H.dj b rfl e) _⟩
theorem SpW.put4 {w wr : World} {Bo Ba l1 l3 : Nat} {p q : Pa} {A B A1 B1 A2 : Option Addr} {b c d c1 d1 c2 d2 i : Nat} {xs : List Fl} {ys ys' : List Ho} {v : Value} (h : SpW w wr Bo Ba l1 l3 p q A B A1 B1 A2 (some ⟨b, 0, none⟩) c d c1 d1 c2 d2 xs ys) (H : SpB w Bo Ba l3 p.fl.length p.ho.length q.fl.length q.ho.length A1 B1 A2 (some ⟨b, 0, none⟩) c1 d1 c2 d2) (hb : l3 ≤ b)
    (ho : OwnL (wr.setCell ⟨b, i, none⟩ v) l3 29 6 hoL (.slice (some ⟨b, 0, none⟩) q.ho.length d2) ys') : SpW w (wr.setCell ⟨b, i, none⟩ v) Bo Ba l1 l3 p q A B A1 B1 A2 (some ⟨b, 0, none⟩) c d c1 d1 c2 d2 xs ys' := by
  have h3 := H.b4 b rfl
  have := H.s0
  have := H.s1
  exact ⟨Gr.setCell h.gr (by dsimp only; omega) _, h.kp.set1 (by omega) _, h.ko.set1 (by omega) _, h.ka.set1 (by omega) _, own_other h.o1 (fun e => by have := H.b1 b e; omega) _, own_other h.o2 (fun e => by have := H.b2 b e; omega) _, own_other h.o3 (fun e => H.dj b e rfl) _, ho⟩
set_option maxRecDepth 100000 in
set_option maxHeartbeats 16000000 in
theorem applies_walk (p : Pa) (A B : Option Addr) (c d : Nat) (x : Ed) (w : World) (hX : PaX w p A c B d) (hx : x.fl.nm.size ≤ maxLen) :
    Calls Try.prog 3 #[pav p A c B d, edv x] w fun e w' => e = .returned (.bool true) ∧ Gr w w' := by
  unfold maxLen at hx
  have HBG := hide (fun (w' : World) (g : Gr w w') => big_any p A B c d w' (hX.gr g))
  cases hb : bgB p with
  | true =>
    rw [hb] at HBG
    clear hb hX
    obtain ⟨k, xi, fl, ho, ww, hh⟩ := x
    go_enter Try.func3, Try.ntmps3
    go_wp2_with fail
    refine (HBG.out _ (by repeat (first | with_reducible exact Gr.refl _ | with_reducible assumption | with_reducible refine Gr.alloc ?_ _ | with_reducible refine Gr.drewN ?_ _ | with_reducible refine Gr.drew ?_ | with_reducible refine Gr.setCell ?_ (by first | (dsimp only; omega) | (simp only [World.size_alloc]; omega) | (with_reducible refine Gr.size ?_; (repeat (first | with_reducible exact Gr.refl _ | with_reducible assumption | with_reducible refine Gr.alloc ?_ _ | with_reducible refine Gr.drewN ?_ _ | with_reducible refine Gr.drew ?_ | with_reducible refine Gr.trans ?_ (by with_reducible assumption))); done)) _ | with_reducible refine Gr.trans ?_ (by with_reducible assumption)))).mono ?_
    rintro e w1 ⟨rfl, g1⟩
    go_wp2_with (first | (go_at_call 6; refine (known_any _).mono ?_; rintro e w1 ⟨rfl, g1⟩; obtain ⟨X1, Y1, c1, f1⟩ := g1.use))
    go_ret
    exact ⟨rfl, (by repeat (first | with_reducible exact Gr.refl _ | with_reducible assumption | with_reducible refine Gr.alloc ?_ _ | with_reducible refine Gr.drewN ?_ _ | with_reducible refine Gr.drew ?_ | with_reducible refine Gr.setCell ?_ (by first | (dsimp only; omega) | (simp only [World.size_alloc]; omega) | (with_reducible refine Gr.size ?_; (repeat (first | with_reducible exact Gr.refl _ | with_reducible assumption | with_reducible refine Gr.alloc ?_ _ | with_reducible refine Gr.drewN ?_ _ | with_reducible refine Gr.drew ?_ | with_reducible refine Gr.trans ?_ (by with_reducible assumption))); done)) _ | with_reducible refine Gr.trans ?_ (by with_reducible assumption)))⟩
  | false =>
    have hP := hX.small hb
    have hbb := hb
    have hXX := hX
    rw [hb] at HBG
    clear hb hX
    by_cases hn : 300 < x.fl.nm.size
    · obtain ⟨k, xi, fl, ho, ww, hh⟩ := x
      dsimp only at hn hx
      have hnb : decide (300 < fl.nm.size) = true := by simpa using hn
      have hnb' : decide ((300 : Int) < (fl.nm.size : Int)) = true := by simp only [decide_eq_true_iff]; omega
      clear hP
      go_enter Try.func3, Try.ntmps3
      go_wp2_with fail
      refine (HBG.out _ (by repeat (first | with_reducible exact Gr.refl _ | with_reducible assumption | with_reducible refine Gr.alloc ?_ _ | with_reducible refine Gr.drewN ?_ _ | with_reducible refine Gr.drew ?_ | with_reducible refine Gr.setCell ?_ (by first | (dsimp only; omega) | (simp only [World.size_alloc]; omega) | (with_reducible refine Gr.size ?_; (repeat (first | with_reducible exact Gr.refl _ | with_reducible assumption | with_reducible refine Gr.alloc ?_ _ | with_reducible refine Gr.drewN ?_ _ | with_reducible refine Gr.drew ?_ | with_reducible refine Gr.trans ?_ (by with_reducible assumption))); done)) _ | with_reducible refine Gr.trans ?_ (by with_reducible assumption)))).mono ?_
      rintro e w1 ⟨rfl, g1⟩
      obtain ⟨X1, Y1, x1, f1⟩ := g1.use
      have z1 := g1.size
      simp only [World.size_alloc] at z1
      have l1 : w.heap.size + 1 < w1.heap.size := by omega
      have l0 : w.heap.size < w1.heap.size := by omega
      go_wp2_with (first | (go_at_call 6; refine (known_any _).mono ?_; rintro e w1 ⟨rfl, g1⟩; obtain ⟨X1, Y1, c1, f1⟩ := g1.use))
      go_ret
      exact ⟨rfl, (by repeat (first | with_reducible exact Gr.refl _ | with_reducible assumption | with_reducible refine Gr.alloc ?_ _ | with_reducible refine Gr.drewN ?_ _ | with_reducible refine Gr.drew ?_ | with_reducible refine Gr.setCell ?_ (by first | (dsimp only; omega) | (simp only [World.size_alloc]; omega) | (with_reducible refine Gr.size ?_; (repeat (first | with_reducible exact Gr.refl _ | with_reducible assumption | with_reducible refine Gr.alloc ?_ _ | with_reducible refine Gr.drewN ?_ _ | with_reducible refine Gr.drew ?_ | with_reducible refine Gr.trans ?_ (by with_reducible assumption))); done)) _ | with_reducible refine Gr.trans ?_ (by with_reducible assumption)))⟩
    · have HCP := hide (fun (w' : World) (g : Gr w w') => copyD_any p A B c d w' (hP.gr g))
      have HAP := hide (fun (w' : World) (A' B' : Option Addr) (c' d' : Nat) (hq : PaW w' p A' c' B' d') => Apply_any p A' B' c' d' x w' hq (by omega))
      have HRA := hide (fun (w' : World) (g : Gr w w') => rApply_any p A B c d x w' (hP.gr g) (by omega))
      have HOP := hide (fun (w' : World) (A' B' : Option Addr) (c' d' lo1 lo2 : Nat) (h1 : OwnL w' lo1 27 7 flL (.slice A' p.fl.length c') p.fl) (h2 : OwnL w' lo2 29 6 hoL (.slice B' p.ho.length d') p.ho) => paW_of h1 h2 hP.fl.len hP.ho.len hP.fl.nm hP.nm hP.mt)
      have HEQ := hide (fun (w' : World) (A' B' : Option Addr) (c' d' : Nat) (hq : PaW w' p A' c' B' d') (g : Gr w w') => rEqual_any p p A' B' A B c' d' c d w' hq (hP.gr g))
      have HAQ := hide (fun (w' : World) (A' B' A2 B2 : Option Addr) (c' d' c2 d2 : Nat) (h1 : PaW w' (apP p x) A' c' B' d') (h2 : PaW w' (apP p x) A2 c2 B2 d2) => rEqual_any (apP p x) (apP p x) A' B' A2 B2 c' d' c2 d2 w' h1 h2)
      rw [eqB_self] at HEQ HAQ
      -- the names of what comes back
      have HPA := hide (fun (w' : World) (A' B' : Option Addr) (c' d' lo1 lo2 : Nat) (h1 : OwnL w' lo1 27 7 flL (.slice A' (apP p x).fl.length c') (apP p x).fl) (h2 : OwnL w' lo2 29 6 hoL (.slice B' (apP p x).ho.length d') (apP p x).ho) => apP_paW hP (by omega) h1 h2)
      clear hP hXX hbb
      generalize apE p x = aE at *
      generalize apP p x = q at *
      obtain ⟨k, xi, fl, ho, ww, hh⟩ := x
      dsimp only at hn hx
      have hnb : decide (300 < fl.nm.size) = false := by simpa using hn
      have hnb' : decide ((300 : Int) < (fl.nm.size : Int)) = false := by simp only [decide_eq_false_iff_not]; omega
      obtain ⟨w0, hw0⟩ : ∃ w0, (w.alloc (.cells #[.string p.nm, .string p.mt, iv p.ga, iv p.gr, iv p.wd, iv p.ht, .slice A p.fl.length c, .slice B p.ho.length d] 25)).alloc (.cells #[iv k, iv xi, .string fl.nm, iv fl.pa, iv fl.sd, iv fl.o, iv fl.wd, iv fl.ln, iv fl.an, iv ho.fa, iv ho.kd, iv ho.x, iv ho.y, iv ho.w, iv ho.h, iv ww, iv hh] 31) = w0 := ⟨_, rfl⟩
      have gw0 : Gr w w0 := by rw [← hw0]; exact Gr.alloc (Gr.alloc (Gr.refl _) _) _
      have s0 : w0.heap.size = w.heap.size + 2 := by rw [← hw0]; simp
      have kp : Bx8 w0 w.heap.size (.string p.nm) (.string p.mt) (iv p.ga) (iv p.gr) (iv p.wd) (iv p.ht) (.slice A p.fl.length c) (.slice B p.ho.length d) := by rw [← hw0]; constructor <;> simp [go_sem]
      have ke : BxE w0 (w.heap.size + 1) ⟨k, xi, fl, ho, ww, hh⟩ := by rw [← hw0]; constructor <;> simp [go_sem]
      have KP := hide kp
      have KE := hide ke
      clear ke
      obtain ⟨xl, x0, x1, x2, x3, x4, x5, x6, x7, xf⟩ := kp
      go_enter Try.func3, Try.ntmps3
      go_upto_region 1 with fail
      clear hw0
      go_wp2_with fail
      refine (HBG.out _ gw0).mono ?_
      rintro e w1 ⟨rfl, g1⟩
      have gw1 : Gr w w1 := gw0.trans g1
      have KP1 := hide (KP.out.gr g1)
      have KE1 := hide (KE.out.gr g1)
      clear xl x0 x1 x2 x3 x4 x5 x6 x7 xf KP KE HBG
      obtain ⟨xl, x0, x1, x2, x3, x4, x5, x6, x7, xf⟩ := KP1.out
      have e2 := KE1.out.c2
      have el := KE1.out.lt
      dsimp only at e2
      go_wp2_with fail
      refine (HCP.out _ gw1).mono ?_
      rintro e w2 ⟨A1, c1, B1, d1, rfl, o1, o2, dj1, g2⟩
      have gw2 : Gr w w2 := gw1.trans g2
      have z1 := g1.size
      have z2 := g2.size
      have O1 := hide o1
      have O2 := hide o2
      have HO := hide (HOP.out _ _ _ _ _ _ _ o1 o2)
      have KP2 := hide (KP1.out.gr g2)
      have KE2 := hide (KE1.out.gr g2)
      clear xl x0 x1 x2 x3 x4 x5 x6 x7 xf e2 el KP1 KE1 HCP
      clear o1 o2
      go_upto_region 4 with fail
      generalize hW3 : World.alloc w2 _ = w3
      have g23 : Gr w2 w3 := by rw [← hW3]; exact Gr.alloc (Gr.refl _) _
      have z3 : w3.heap.size = w2.heap.size + 1 := by rw [← hW3]; simp
      have KO3 := hide (show Bx8 w3 w2.heap.size (.string p.nm) (.string p.mt) (iv p.ga) (iv p.gr) (iv p.wd) (iv p.ht) (.slice A1 p.fl.length c1) (.slice B1 p.ho.length d1) by rw [← hW3]; constructor <;> simp [go_sem])
      have KP3 := hide (KP2.out.gr g23)
      have KE3 := hide (KE2.out.gr g23)
      have gw3 : Gr w w3 := gw2.trans g23
      clear hW3
      obtain ⟨xl, x0, x1, x2, x3, x4, x5, x6, x7, xf⟩ := KO3.out
      go_wp2_with (refine wpList_loadE rfl _ rfl _ _ rfl KE3.out ?_)
      refine (HAP.out _ _ _ _ _ (HO.out.gr g23)).mono ?_
      rintro e w4 ⟨A2, c2, B2, d2, rfl, o3, o4, dj2, g4⟩
      have gw4 : Gr w w4 := gw3.trans g4
      have z4 := g4.size
      have O3 := hide o3
      have O4 := hide o4
      have KO4 := hide (KO3.out.gr g4)
      have KP4 := hide (KP3.out.gr g4)
      have KE4 := hide (KE3.out.gr g4)
      have PA4 := hide (HPA.out _ _ _ _ _ _ _ o3 o4)
      clear xl x0 x1 x2 x3 x4 x5 x6 x7 xf KO3 KP3 KE3 HAP o3 o4
      go_upto_region 5 with fail
      generalize hW5 : World.alloc w4 _ = w5
      have g45 : Gr w4 w5 := by rw [← hW5]; exact Gr.alloc (Gr.refl _) _
      have z5 : w5.heap.size = w4.heap.size + 1 := by rw [← hW5]; simp
      have KA5 := hide (show Bx8 w5 w4.heap.size (.string q.nm) (.string q.mt) (iv q.ga) (iv q.gr) (iv q.wd) (iv q.ht) (.slice A2 q.fl.length c2) (.slice B2 q.ho.length d2) by rw [← hW5]; constructor <;> simp [go_sem])
      have KP5 := hide (KP4.out.gr g45)
      have KE5 := hide (KE4.out.gr g45)
      have KO5 := hide (KO4.out.gr g45)
      have gw5 : Gr w w5 := gw4.trans g45
      clear hW5 KP4 KE4 KO4
      obtain ⟨xl, x0, x1, x2, x3, x4, x5, x6, x7, xf⟩ := KP5.out
      go_wp2_with (refine wpList_loadE rfl _ rfl _ _ rfl KE5.out ?_)
      refine (HRA.out _ gw5).mono ?_
      rintro e w6 ⟨A3, c3, B3, d3, rfl, o5, o6, dj3, g6⟩
      have gw6 : Gr w w6 := gw5.trans g6
      have z6 := g6.size
      have PB6 := hide (HPA.out _ _ _ _ _ _ _ o5 o6)
      have KP6 := hide (KP5.out.gr g6)
      have KO6 := hide (KO5.out.gr g6)
      have KA6 := hide (KA5.out.gr g6)
      clear xl x0 x1 x2 x3 x4 x5 x6 x7 xf KP5 KE5 KO5 KA5 HRA o5 o6 dj3
      go_upto_region 6 with fail
      generalize hW7 : World.alloc w6 _ = w7
      have g67 : Gr w6 w7 := by rw [← hW7]; exact Gr.alloc (Gr.refl _) _
      have KB7 := hide (show Bx8 w7 w6.heap.size (.string q.nm) (.string q.mt) (iv q.ga) (iv q.gr) (iv q.wd) (iv q.ht) (.slice A3 q.fl.length c3) (.slice B3 q.ho.length d3) by rw [← hW7]; constructor <;> simp [go_sem])
      have KP7 := hide (KP6.out.gr g67)
      have KO7 := hide (KO6.out.gr g67)
      have KA7 := hide (KA6.out.gr g67)
      have g47 : Gr w4 w7 := g45.trans (g6.trans g67)
      clear hW7 KP6 KO6 KA6
      obtain ⟨xl, x0, x1, x2, x3, x4, x5, x6, x7, xf⟩ := KA7.out
      obtain ⟨yl, y0, y1, y2, y3, y4, y5, y6, y7, yf⟩ := KB7.out
      go_wp2_with fail
      refine (HAQ.out _ A2 B2 A3 B3 c2 d2 c3 d3 (PA4.out.gr g47) (PB6.out.gr g67)).mono ?_
      rintro e w8 ⟨rfl, g8⟩
      have g48 : Gr w4 w8 := g47.trans g8
      have SP := hide (show SpW w w8 w2.heap.size w4.heap.size w1.heap.size w3.heap.size p q A B A1 B1 A2 B2 c d c1 d1 c2 d2 q.fl q.ho from ⟨gw4.trans g48, KP7.out.gr g8, KO7.out.gr g8, KA7.out.gr g8, O1.out.gr (g23.trans (g4.trans g48)), O2.out.gr (g23.trans (g4.trans g48)), O3.out.gr g48, O4.out.gr g48⟩)
      have SB := hide (show SpB w w2.heap.size w4.heap.size w3.heap.size p.fl.length p.ho.length q.fl.length q.ho.length A1 B1 A2 B2 c1 d1 c2 d2 from ⟨by have := gw0.size; omega, by omega, fun b h => by have := (own_lt O1.out b h).2; omega, fun b h => by have := (own_lt O2.out b h).2; omega, fun b h => (own_lt O3.out b h).2, fun b h => (own_lt O4.out b h).2, dj2⟩)
      have nq1 := PA4.out.fl.len
      have nq2 := PA4.out.ho.len
      clear xl x0 x1 x2 x3 x4 x5 x6 x7 xf yl y0 y1 y2 y3 y4 y5 y6 y7 yf KP7 KO7 KA7 KB7 O1 O2 O3 O4 PA4 PB6 HAQ HPA HO dj1 dj2
      go_wp2_with fail
      go_loopw [11] (fun i wr => ∃ k : Nat, k ≤ q.fl.length ∧ i = iv k ∧ Hid (SpW w wr w2.heap.size w4.heap.size w1.heap.size w3.heap.size p q A B A1 B1 A2 B2 c d c1 d1 c2 d2 (mixG spF q.fl k) q.ho)) (fun i _ => q.fl.length - (intOf i).toNat)
      case atStart => exact ⟨0, by omega, rfl, by rw [mixG_zero]; exact SP⟩
      case round =>
        clear SP
        obtain ⟨k, hk, rfl, SP⟩ := hrel
        obtain ⟨xl, x0, x1, x2, x3, x4, x5, x6, x7, xf⟩ := SP.out.ka
        have hk0 : (0 : Int) ≤ (k : Int) := by omega
        by_cases hkl : k < q.fl.length
        · obtain ⟨f, hf⟩ : ∃ f, q.fl[k]? = some f := ⟨_, List.getElem?_eq_getElem hkl⟩
          obtain ⟨b, rfl, hb, hbl, hcl, hfz⟩ := own_at (c := flL) (s := 7) (fun _ => rfl) SP.out.o3 hf
          have y1 := hcl 0 (.string f.nm) (by omega) rfl
          have yf := hfz (k * 7)
          have HS := hide (SP.out.put3 (i := k * 7 + 0) SB.out hb (own_mix (c := flL) (s := 7) (f := spF) (fun _ => rfl) (o := 0) (v := .string ⟨#[115, 112, 111, 105, 108, 116]⟩) SP.out.o3 hf (by omega) rfl))
          rw [Nat.add_zero] at HS y1
          have hk1 : (k : Int) < (q.fl.length : Int) := by omega
          have V6 : IntKind.i64.wrap ((k : Int) + 1) = (k : Int) + 1 := IntWalk.i64_in _ (by omega)
          clear hcl hfz hf
          go_wp2
          go_roundw
          case rel => exact ⟨k + 1, by omega, by go_num, HS⟩
          case measure => simp only [intOf]; omega
        · obtain rfl : k = q.fl.length := by omega
          rw [mixG_end] at SP
          go_wp2_with fail
          clear xl x0 x1 x2 x3 x4 x5 x6 x7 xf
          go_loopw [12] (fun i wr => ∃ k : Nat, k ≤ q.ho.length ∧ i = iv k ∧ Hid (SpW w wr w2.heap.size w4.heap.size w1.heap.size w3.heap.size p q A B A1 B1 A2 B2 c d c1 d1 c2 d2 (q.fl.map spF) (mixG spH q.ho k))) (fun i _ => q.ho.length - (intOf i).toNat)
          case atStart => exact ⟨0, by omega, rfl, by rw [mixG_zero]; exact SP⟩
          case round =>
            clear SP
            obtain ⟨k, hk, rfl, SP⟩ := hrel
            obtain ⟨xl, x0, x1, x2, x3, x4, x5, x6, x7, xf⟩ := SP.out.ka
            have hk0 : (0 : Int) ≤ (k : Int) := by omega
            by_cases hkl : k < q.ho.length
            · obtain ⟨f, hf⟩ : ∃ f, q.ho[k]? = some f := ⟨_, List.getElem?_eq_getElem hkl⟩
              obtain ⟨b, rfl, hb, hbl, hcl, hfz⟩ := own_at (c := hoL) (s := 6) (fun _ => rfl) SP.out.o4 hf
              have y1 := hcl 2 (iv f.x) (by omega) rfl
              have yf := hfz (k * 6 + 2)
              have HS := hide (SP.out.put4 (i := k * 6 + 2) SB.out hb (own_mix (c := hoL) (s := 6) (f := spH) (fun _ => rfl) (o := 2) (v := iv (-1)) SP.out.o4 hf (by omega) rfl))
              have hk1 : (k : Int) < (q.ho.length : Int) := by omega
              have V6 : IntKind.i64.wrap ((k : Int) + 1) = (k : Int) + 1 := IntWalk.i64_in _ (by omega)
              clear hcl hfz hf
              go_wp2
              go_roundw
              case rel => exact ⟨k + 1, by omega, by go_num, HS⟩
              case measure => simp only [intOf]; omega
            · obtain rfl : k = q.ho.length := by omega
              have hP9 := HOP.out _ _ _ _ _ _ _ SP.out.o1 SP.out.o2
              have HP9 := hide hP9
              obtain ⟨ol, u0, u1, u2, u3, u4, u5, u6, u7, uf⟩ := SP.out.ko
              obtain ⟨pl, v0, v1, v2, v3, v4, v5, v6, v7, vf⟩ := SP.out.kp
              clear hP9
              go_wp2_with fail
              refine (HEQ.out _ A1 B1 c1 d1 HP9.out SP.out.gr).mono ?_
              rintro e w10 ⟨rfl, g10⟩
              have gw10 : Gr w w10 := SP.out.gr.trans g10
              go_wp2_with (first | (go_at_call 6; refine (known_any _).mono ?_; rintro e w1 ⟨rfl, g1⟩; obtain ⟨X1, Y1, c1, f1⟩ := g1.use))
              go_ret
              exact ⟨rfl, gw10.trans (by repeat (first | with_reducible exact Gr.refl _ | with_reducible assumption | with_reducible refine Gr.alloc ?_ _ | with_reducible refine Gr.drewN ?_ _ | with_reducible refine Gr.drew ?_ | with_reducible refine Gr.setCell ?_ (by first | (dsimp only; omega) | (simp only [World.size_alloc]; omega) | (with_reducible refine Gr.size ?_; (repeat (first | with_reducible exact Gr.refl _ | with_reducible assumption | with_reducible refine Gr.alloc ?_ _ | with_reducible refine Gr.drewN ?_ _ | with_reducible refine Gr.drew ?_ | with_reducible refine Gr.trans ?_ (by with_reducible assumption))); done)) _ | with_reducible refine Gr.trans ?_ (by with_reducible assumption)))⟩
end Go.Proofs.Ytefjgfglommefaa
set_option linter.unusedVariables false
set_option linter.unusedSimpArgs false
namespace Go.Proofs.Ytefjgfglommefaa
set_option linter.unusedVariables false
set_option linter.unusedSimpArgs false
open Go Go.ChangeShapes Go.WideShapes Go.ChangeAt Go.RowKit Go.Deep


set_option maxRecDepth 100000 in
theorem partApplies_spec : LawSpec Rows.partAppliesSpec 2 := ⟨rfl, fun H ds h => by
  match ds, h with
  | [_, _], _ => rfl⟩
set_option maxRecDepth 100000 in
theorem partApplies_lifted (os : Os) (started : os.Started) (H : Type) (enc : TypeId × Value → H) :
    ReturnsInHanded {} Try.checked os 3 .any (Rows.partAppliesSpec.pre6 enc Try.prog Try.f3 Rows.partAppliesRow.domain false) (Rows.partAppliesSpec.post enc Try.prog Try.f3 false true false false) := by
  refine returnsInHanded_of_change_sized (C := Try.checked) own started (by kernel_rfl) Try.func3
    (ChangeSpec.witness6 (enc := enc) (C := Try.checked) false ⟨#[], #[.agg #[.string ⟨#[]⟩, .string ⟨#[]⟩, .int .i64 0, .int .i64 0, .int .i64 0, .int .i64 0, .slice none 0 0, .slice none 0 0], .agg #[.int .i64 0, .int .i64 0, .string ⟨#[]⟩, .int .i64 0, .int .i64 0, .int .i64 0, .int .i64 0, .int .i64 0, .int .i64 0, .int .i64 0, .int .i64 0, .int .i64 0, .int .i64 0, .int .i64 0, .int .i64 0, .int .i64 0, .int .i64 0]], []⟩ 8 (by kernel_rfl) (by kernel_rfl) (by kernel_rfl) (by kernel_rfl)) ?_
  intro W base args ds gs before hval0 hW _ hreach0 _
  have hreach : (DataW.weightsEach Try.prog (Try.f3.params.toList ++ Rows.partAppliesSpec.plain.varTypes Try.prog) (ds ++ gs)).all (· ≤ reachBytes) = true := hreach0
  clear hreach0
  refine law_step (n := 2) partApplies_spec (by kernel_rfl) laidOut Try.underlying4 (by kernel_rfl) (by kernel_rfl) hW ?_
  have hval : ∀ (j : Nat) t v, Try.f3.params[j]? = some t → args[j]? = some v → Value.okWide Try.prog W .any base t v := hval0
  have hlt0 : ∀ x ∈ before, x.block < W.heap.size := fun x hx => hW.lt x hx
  obtain ⟨p, q, hA0, hV, rfl, hfz, hnd⟩ := hW
  have hA : DataW.TrodAll enc Try.prog W 0 (fun _ => true) true Try.f3.params.toList args.toList ds p := hA0
  rw [Try.params3] at hA hval
  obtain ⟨v0, vs0, d0, ds0, p0, q0, hargs, rfl, rfl, h0, r0⟩ := trodAll_cons hA
  obtain ⟨v1, vs1, d1, ds1, p1, q1, rfl, rfl, rfl, h1, r1⟩ := trodAll_cons r0
  obtain ⟨rfl, rfl, rfl⟩ := trodAll_nil r1
  obtain rfl : args = #[v0, v1] := by cases args; simp_all
  obtain ⟨p0, A0, c0, B0, e0, rfl, rF0, rH0, i0, n0, m0⟩ := open_part (hval 0 _ _ rfl rfl) h0
  obtain ⟨x0, rfl, hx0⟩ := open_edit (hval 1 _ _ rfl rfl) h1
  exact applies_walk p0 A0 B0 c0 e0 x0 W ⟨rF0, rH0, i0, n0, m0⟩ hx0
theorem partApplies_holds : Rows.PartAppliesSaid :=
  OpenClaim.holds_of_wide 3 Try.f3 rfl rfl rfl rfl rfl rfl rfl ⟨rfl, rfl, rfl, rfl, rfl⟩ rfl rfl rfl rfl rfl (by kernel_rfl) Try.func3 (by kernel_rfl)
    (of_decide_eq_true (by kernel_rfl)) (by unfold Func.isWrapper; rw [if_neg (of_decide_eq_false (by kernel_rfl))]; exact ⟨rfl, rfl⟩)
    (fun os started H enc _ => partApplies_lifted os started H enc)

end Go.Proofs.Ytefjgfglommefaa
