/-
  Parts copied, in the reference.
-/
import Derived.Test.YtpmomgfepkegnaaLaw3
set_option linter.unusedVariables false
set_option linter.unusedSimpArgs false
namespace Go.Proofs.Ytpmomgfepkegnaa
set_option linter.unusedVariables false
set_option linter.unusedSimpArgs false
open Go Go.ChangeShapes Go.WideShapes Go.ChangeAt Go.RowKit Go.Deep

theorem infoFl : (Try.prog.info? 55).map (fun i => (i.zero, i.size, i.bytes)) = some (some (.agg #[.string ⟨#[]⟩, .int .i64 0, .int .i64 0, .int .i64 0, .int .i64 0, .int .i64 0, .int .i64 0]), 7, 64) := by kernel_rfl
theorem infoHo : (Try.prog.info? 57).map (fun i => (i.zero, i.size, i.bytes)) = some (some (.agg #[.int .i64 0, .int .i64 0, .int .i64 0, .int .i64 0, .int .i64 0, .int .i64 0]), 6, 48) := by kernel_rfl
theorem one_fl (f : Fl) : ∀ u ∈ flL f, u.oneCell' = true := by
  intro u hu
  simp at hu
  rcases hu with rfl | rfl | rfl | rfl | rfl | rfl | rfl <;> rfl
theorem one_ho (f : Ho) : ∀ u ∈ hoL f, u.oneCell' = true := by
  intro u hu
  simp at hu
  rcases hu with rfl | rfl | rfl | rfl | rfl | rfl <;> rfl
theorem rd1_fl (w : World) (f : Fl) : ∀ j u, (flL f)[j]? = some u → (w.alloc (.cells #[.string f.nm, iv f.pa, iv f.sd, iv f.o, iv f.wd, iv f.ln, iv f.an] 55)).cell? ((⟨w.heap.size, 0, none⟩ : Addr).add j) = some u := by
  intro j u hu
  rw [addr_add, Nat.zero_add, (Made.new w #[.string f.nm, iv f.pa, iv f.sd, iv f.o, iv f.wd, iv f.ln, iv f.an] 55).2.1 j]
  simpa using hu
theorem rd1_ho (w : World) (f : Ho) : ∀ j u, (hoL f)[j]? = some u → (w.alloc (.cells #[iv f.fa, iv f.kd, iv f.x, iv f.y, iv f.w, iv f.h] 57)).cell? ((⟨w.heap.size, 0, none⟩ : Addr).add j) = some u := by
  intro j u hu
  rw [addr_add, Nat.zero_add, (Made.new w #[iv f.fa, iv f.kd, iv f.x, iv f.y, iv f.w, iv f.h] 57).2.1 j]
  simpa using hu
theorem own_nil {α : Type} (w : World) (base : Nat) (e : TypeId) (k : Nat) (c : α → List Value) : OwnL w base e k c (.slice none 0 0) [] := ⟨by simp, .inl ⟨rfl, rfl⟩⟩
theorem Made.grown {w w' : World} {B lo : Nat} {z : Array Value} {row : Option Nat} (h : Made w B z) (hg : w.grownBy w' row) (hr : ∀ k, row = some k → lo ≤ k) (hB : B < lo) : Made w' B z := by
  have hne : some B ≠ row := fun e => by have := hr B e.symm; omega
  refine ⟨?_, fun o => (hg.cell_far ⟨B, o, none⟩ h.1 hne).trans (h.2.1 o), fun o => (hg.frozen_far ⟨B, o, none⟩ h.1 hne).trans (h.2.2 o)⟩
  have hb := hg.block B h.1 hne
  have h1 := h.1
  refine Nat.not_le.1 fun hle => ?_
  rw [Array.getElem?_eq_none hle, Array.getElem?_eq_getElem h1] at hb
  cases hb
theorem Made.setAt {w : World} {B : Nat} {z z' : Array Value} (h : Made w B z) (i : Nat) (hi : i < z.size) (v : Value) (e : z' = z.setIfInBounds i v) : Made (w.setCell ⟨B, i, none⟩ v) B z' := by
  subst e
  obtain ⟨h0, h1, h2⟩ := h
  refine ⟨by simpa using h0, fun o => ?_, fun o => ?_⟩
  · have e1 := h1 i
    rw [Array.getElem?_eq_getElem hi] at e1
    have e2 := h1 o
    by_cases ho : o = i
    · subst ho
      simp [go_sem, e1, hi]
    · have ho' : ¬ i = o := fun e => ho e.symm
      simp [go_sem, e2, ho, ho', Array.getElem?_setIfInBounds]
  · have := h2 o
    simp [go_sem, this]
theorem own_far {w : World} {base : Nat} {e : TypeId} {k n : Nat} {v : Value} {xs : List Value} (h : w.ownsRow base e k v n xs) {a : Addr} (ha : a.block < base) (u : Value) : (w.setCell a u).ownsRow base e k v n xs := by
  obtain ⟨h0, h1 | ⟨b, cap, cur, h1, hb, h2, h3⟩⟩ := id h
  · exact ⟨h0, .inl h1⟩
  · refine ⟨h0, .inr ⟨b, cap, cur, h1, hb, ?_, h3⟩⟩
    rw [← h2]
    exact Below.heap_setCell w a u b (by omega)
theorem own_grown {w w' : World} {base lo : Nat} {e : TypeId} {k n : Nat} {v : Value} {xs : List Value} {row : Option Nat} (h : w.ownsRow base e k v n xs) (hg : w.grownBy w' row) (hr : ∀ k, row = some k → lo ≤ k) (hv : ∀ k, v.ownBlock = some k → k < lo) : w'.ownsRow base e k v n xs := by
  obtain ⟨h0, h1 | ⟨b, cap, cur, h1, hb, h2, h3⟩⟩ := id h
  · exact ⟨h0, .inl h1⟩
  · refine ⟨h0, .inr ⟨b, cap, cur, h1, hb, ?_, h3⟩⟩
    have hbl : b < lo := hv b (by rw [h1]; rfl)
    have hlt : b < w.heap.size := (Array.getElem?_eq_some_iff.1 h2).1
    rw [← h2]
    exact hg.block b hlt (fun e => by have := hr b e.symm; omega)
theorem take_snoc {α : Type} {l : List α} {k : Nat} {x : α} (h : l[k]? = some x) : l.take (k + 1) = l.take k ++ [x] := by
  rw [List.take_add_one, h]
  rfl
abbrev paZ (p : Pa) (A B : Option Addr) (n c m d : Nat) : Array Value := #[.string p.nm, .string p.mt, iv p.ga, iv p.gr, iv p.wd, iv p.ht, .slice A n c, .slice B m d]
set_option maxRecDepth 100000 in
set_option maxHeartbeats 4000000 in
theorem copy_any (p : Pa) (A B : Option Addr) (c d : Nat) (w : World) (hP : PaW w p A c B d) :
    Calls Try.prog 17 #[pav p A c B d] w fun e w' => ∃ A' c' B' d', e = .returned (pav p A' c' B' d') ∧ OwnL w' w.heap.size 55 7 flL (.slice A' p.fl.length c') p.fl ∧ OwnL w' w.heap.size 57 6 hoL (.slice B' p.ho.length d') p.ho ∧ Gr w w' := by
  obtain ⟨i0, hi0, hz0, hz1, hz2⟩ := info_parts infoFl
  obtain ⟨i1, hi1, hy0, hy1, hy2⟩ := info_parts infoHo
  have n1 := hP.fl.len
  have n2 := hP.ho.len
  have HP := hide hP
  clear hP
  go_enter Try.func17, Try.ntmps17
  go_upto_region 3 with fail
  have g0 : Gr ((w.alloc (.cells #[.string p.nm, .string p.mt, iv p.ga, iv p.gr, iv p.wd, iv p.ht, .slice A p.fl.length c, .slice B p.ho.length d] 25)).alloc (.cells #[.string ⟨#[]⟩, .string ⟨#[]⟩, iv 0, iv 0, iv 0, iv 0, .slice none 0 0, .slice none 0 0] 25)) (((w.alloc (.cells #[.string p.nm, .string p.mt, iv p.ga, iv p.gr, iv p.wd, iv p.ht, .slice A p.fl.length c, .slice B p.ho.length d] 25)).alloc (.cells #[.string ⟨#[]⟩, .string ⟨#[]⟩, iv 0, iv 0, iv 0, iv 0, .slice none 0 0, .slice none 0 0] 25)).alloc (.cells (paZ p none none 0 0 0 0) 25)) := Gr.alloc (Gr.refl _) _
  have m0 := Made.new ((w.alloc (.cells #[.string p.nm, .string p.mt, iv p.ga, iv p.gr, iv p.wd, iv p.ht, .slice A p.fl.length c, .slice B p.ho.length d] 25)).alloc (.cells #[.string ⟨#[]⟩, .string ⟨#[]⟩, iv 0, iv 0, iv 0, iv 0, .slice none 0 0, .slice none 0 0] 25)) (paZ p none none 0 0 0 0) 25
  rw [World.size_alloc, World.size_alloc] at m0
  go_wp2
  generalize hwS : World.alloc (World.alloc (World.alloc _ _) _) _ = wS at *
  clear hwS
  go_loopw [4] (fun i wr => ∃ (k : Nat) (A' : Option Addr) (d' : Nat), k ≤ p.fl.length ∧ i = iv k ∧ Gr ((w.alloc (.cells #[.string p.nm, .string p.mt, iv p.ga, iv p.gr, iv p.wd, iv p.ht, .slice A p.fl.length c, .slice B p.ho.length d] 25)).alloc (.cells #[.string ⟨#[]⟩, .string ⟨#[]⟩, iv 0, iv 0, iv 0, iv 0, .slice none 0 0, .slice none 0 0] 25)) wr ∧ Hid (OwnL wr (w.heap.size + 3) 55 7 flL (.slice A' k d') (p.fl.take k)) ∧ Hid (Made wr (w.heap.size + 1 + 1) (paZ p A' none k d' 0 0))) (fun i _ => p.fl.length - (intOf i).toNat)
  case atStart => exact ⟨0, none, 0, by omega, rfl, g0, by rw [List.take_zero]; exact own_nil _ _ _ _ _, m0⟩
  case round =>
    obtain ⟨k, A1, d1, hk, rfl, g, HO, HM⟩ := hrel
    have gW : Gr w wr := (by repeat (first | with_reducible exact Gr.refl _ | with_reducible assumption | with_reducible refine Gr.alloc ?_ _ | with_reducible refine Gr.drewN ?_ _ | with_reducible refine Gr.drew ?_ | with_reducible refine Gr.setCell ?_ (by first | (dsimp only; omega) | (simp only [World.size_alloc]; omega) | (with_reducible refine Gr.size ?_; (repeat (first | with_reducible exact Gr.refl _ | with_reducible assumption | with_reducible refine Gr.alloc ?_ _ | with_reducible refine Gr.drewN ?_ _ | with_reducible refine Gr.drew ?_ | with_reducible refine Gr.trans ?_ (by with_reducible assumption))); done)) _ | with_reducible refine Gr.trans ?_ (by with_reducible assumption)))
    obtain ⟨Xr, Yr, cr, fr⟩ := g.use
    obtain ⟨M0, M1, M2⟩ := id HM.out
    have zr := M0
    have l0 : w.heap.size < wr.heap.size := by omega
    have lb : w.heap.size + 3 ≤ wr.heap.size := by omega
    by_cases hkl : k < p.fl.length
    · obtain ⟨f, hf⟩ : ∃ f, p.fl[k]? = some f := ⟨_, List.getElem?_eq_getElem hkl⟩
      obtain ⟨b, off, rfl, x0, x1, x2, x3, x4, x5, x6⟩ := HP.out.fl.rd.fl hf
      have hb : b < w.heap.size := cell_lt (by rw [x0]; rfl)
      have hbr : b < wr.heap.size := by omega
      have hk0 : (0 : Int) ≤ (k : Int) := by omega
      have hk1 : (k : Int) < (p.fl.length : Int) := by omega
      have hlen : (p.fl.take k).length = k := by rw [List.length_take]; omega
      have FIN := hide (show ∀ (w8 : World) (gg cap1 : Nat), w8.ownsRow (w.heap.size + 3) 55 7 (.slice (some ⟨gg, 0, none⟩) (k + 1) cap1) (k + 1) ((p.fl.take k).flatMap flL ++ flL f) → OwnL w8 (w.heap.size + 3) 55 7 flL (.slice (some ⟨gg, 0, none⟩) (k + 1) cap1) (p.fl.take (k + 1)) by
        intro w8 gg cap1 h
        unfold OwnL
        rw [take_snoc hf, fm_snoc, List.length_append, hlen]
        exact h)
      have HOW := hide (show World.ownsRow wr (w.heap.size + 3) 55 7 (.slice A1 k d1) k ((p.fl.take k).flatMap flL) by
        have := HO.out
        unfold OwnL at this
        rwa [hlen] at this)
      clear hf hlen HO
      generalize (p.fl.take k).flatMap flL = FL at *
      go_upto_region 6 with fail
      go_region_law (first
        | (refine step_append_lies _ (by rfl) _ _ _ (by rfl) (w.heap.size + 3) 55 i0 _ 7 64 Try.underlying22 hi0 hz0 hz1 hz2 rfl (by omega) _ k FL (by rfl) (own_gr HOW.out (by repeat (first | with_reducible exact Gr.refl _ | with_reducible assumption | with_reducible refine Gr.alloc ?_ _ | with_reducible refine Gr.drewN ?_ _ | with_reducible refine Gr.drew ?_ | with_reducible refine Gr.setCell ?_ (by first | (dsimp only; omega) | (simp only [World.size_alloc]; omega) | (with_reducible refine Gr.size ?_; (repeat (first | with_reducible exact Gr.refl _ | with_reducible assumption | with_reducible refine Gr.alloc ?_ _ | with_reducible refine Gr.drewN ?_ _ | with_reducible refine Gr.drew ?_ | with_reducible refine Gr.trans ?_ (by with_reducible assumption))); done)) _ | with_reducible refine Gr.trans ?_ (by with_reducible assumption)))) _ 1 1 (flL f) (by rfl) (by rfl) (rd1_fl _ f) (one_fl _) (by omega) (by unfold maxLen; omega) (by omega) (Nat.le_trans lb (Gr.size (by repeat (first | with_reducible exact Gr.refl _ | with_reducible assumption | with_reducible refine Gr.alloc ?_ _ | with_reducible refine Gr.drewN ?_ _ | with_reducible refine Gr.drew ?_ | with_reducible refine Gr.setCell ?_ (by first | (dsimp only; omega) | (simp only [World.size_alloc]; omega) | (with_reducible refine Gr.size ?_; (repeat (first | with_reducible exact Gr.refl _ | with_reducible assumption | with_reducible refine Gr.alloc ?_ _ | with_reducible refine Gr.drewN ?_ _ | with_reducible refine Gr.drew ?_ | with_reducible refine Gr.trans ?_ (by with_reducible assumption))); done)) _ | with_reducible refine Gr.trans ?_ (by with_reducible assumption))))) _ rfl ?_; intro gg cap1 w8 hown8 hgrow hat hlt; (have m8 := Made.grown (HM.out.gr (by repeat (first | with_reducible exact Gr.refl _ | with_reducible assumption | with_reducible refine Gr.alloc ?_ _ | with_reducible refine Gr.drewN ?_ _ | with_reducible refine Gr.drew ?_ | with_reducible refine Gr.setCell ?_ (by first | (dsimp only; omega) | (simp only [World.size_alloc]; omega) | (with_reducible refine Gr.size ?_; (repeat (first | with_reducible exact Gr.refl _ | with_reducible assumption | with_reducible refine Gr.alloc ?_ _ | with_reducible refine Gr.drewN ?_ _ | with_reducible refine Gr.drew ?_ | with_reducible refine Gr.trans ?_ (by with_reducible assumption))); done)) _ | with_reducible refine Gr.trans ?_ (by with_reducible assumption)))) hgrow (fun k hk => (World.ownsRow.lt HOW.out k hk).1) (by omega)); obtain ⟨m80, m81, m82⟩ := id m8))
      all_goals
        have ho8 := hide (FIN.out w8 gg cap1 hown8)
        have g8 := Gr.grown (show Gr _ _ from g.trans (by repeat (first | with_reducible exact Gr.refl _ | with_reducible assumption | with_reducible refine Gr.alloc ?_ _ | with_reducible refine Gr.drewN ?_ _ | with_reducible refine Gr.drew ?_ | with_reducible refine Gr.setCell ?_ (by first | (dsimp only; omega) | (simp only [World.size_alloc]; omega) | (with_reducible refine Gr.size ?_; (repeat (first | with_reducible exact Gr.refl _ | with_reducible assumption | with_reducible refine Gr.alloc ?_ _ | with_reducible refine Gr.drewN ?_ _ | with_reducible refine Gr.drew ?_ | with_reducible refine Gr.trans ?_ (by with_reducible assumption))); done)) _ | with_reducible refine Gr.trans ?_ (by with_reducible assumption)))) hgrow (fun k hk => by have := (World.ownsRow.lt HOW.out k hk).1; simp only [World.size_alloc]; omega)
        have o9 := hide (show OwnL (w8.setCell ⟨w.heap.size + 1 + 1, 6, none⟩ (.slice (some ⟨gg, 0, none⟩) (k + 1) cap1)) (w.heap.size + 3) 55 7 flL (.slice (some ⟨gg, 0, none⟩) (k + 1) cap1) (p.fl.take (k + 1)) from own_far ho8.out (by dsimp only; omega) _)
        have m9 := hide (show Made (w8.setCell ⟨w.heap.size + 1 + 1, 6, none⟩ (.slice (some ⟨gg, 0, none⟩) (k + 1) cap1)) (w.heap.size + 1 + 1) (paZ p (some ⟨gg, 0, none⟩) none (k + 1) cap1 0 0) from Made.setAt m8 6 (by simp) _ rfl)
        clear hown8 hgrow hat hlt FIN HOW m8 m80 m81 m82 HM M0 M1 M2
        go_wp2
        go_roundw
        case rel => exact ⟨k + 1, _, _, by omega, by go_num, Gr.setCell g8 (by simp only [World.size_alloc]; omega) _, o9.out, m9.out⟩
        case measure => simp only [intOf]; omega
    · obtain rfl : k = p.fl.length := by omega
      rw [List.take_length] at HO
      have HB := hide (fun k (h : (Value.slice A1 p.fl.length d1).ownBlock = some k) => (World.ownsRow.lt (show World.ownsRow wr (w.heap.size + 3) 55 7 (.slice A1 p.fl.length d1) p.fl.length (p.fl.flatMap flL) from HO.out) k h).2)
      go_wp2
      clear cr fr M0 M1 M2
      obtain ⟨wT, rfl⟩ : ∃ wT, wT = wr := ⟨_, rfl⟩
      go_loopw [5] (fun i wr => ∃ (k : Nat) (A' : Option Addr) (d' : Nat), k ≤ p.ho.length ∧ i = iv k ∧ Gr ((w.alloc (.cells #[.string p.nm, .string p.mt, iv p.ga, iv p.gr, iv p.wd, iv p.ht, .slice A p.fl.length c, .slice B p.ho.length d] 25)).alloc (.cells #[.string ⟨#[]⟩, .string ⟨#[]⟩, iv 0, iv 0, iv 0, iv 0, .slice none 0 0, .slice none 0 0] 25)) wr ∧ wT.heap.size ≤ wr.heap.size ∧ Hid (OwnL wr (w.heap.size + 3) 55 7 flL (.slice A1 p.fl.length d1) p.fl) ∧ Hid (OwnL wr wT.heap.size 57 6 hoL (.slice A' k d') (p.ho.take k)) ∧ Hid (Made wr (w.heap.size + 1 + 1) (paZ p A1 A' p.fl.length d1 k d'))) (fun i _ => p.ho.length - (intOf i).toNat)
      case atStart => exact ⟨0, none, 0, by omega, rfl, g, Nat.le_refl _, HO.out, by rw [List.take_zero]; exact own_nil _ _ _ _ _, HM.out⟩
      case round =>
        clear HO HM g gW
        obtain ⟨k, A2, d2, hk, rfl, g, lT, HO, HO2, HM⟩ := hrel
        have gW : Gr w wr := (by repeat (first | with_reducible exact Gr.refl _ | with_reducible assumption | with_reducible refine Gr.alloc ?_ _ | with_reducible refine Gr.drewN ?_ _ | with_reducible refine Gr.drew ?_ | with_reducible refine Gr.setCell ?_ (by first | (dsimp only; omega) | (simp only [World.size_alloc]; omega) | (with_reducible refine Gr.size ?_; (repeat (first | with_reducible exact Gr.refl _ | with_reducible assumption | with_reducible refine Gr.alloc ?_ _ | with_reducible refine Gr.drewN ?_ _ | with_reducible refine Gr.drew ?_ | with_reducible refine Gr.trans ?_ (by with_reducible assumption))); done)) _ | with_reducible refine Gr.trans ?_ (by with_reducible assumption)))
        obtain ⟨Xr, Yr, cr, fr⟩ := g.use
        obtain ⟨M0, M1, M2⟩ := id HM.out
        have lb2 : w.heap.size + 3 ≤ wT.heap.size := lb
        by_cases hkl : k < p.ho.length
        · obtain ⟨f, hf⟩ : ∃ f, p.ho[k]? = some f := ⟨_, List.getElem?_eq_getElem hkl⟩
          obtain ⟨b, off, rfl, x0, x1, x2, x3, x4, x5⟩ := HP.out.ho.rd.ho hf
          have hb : b < w.heap.size := cell_lt (by rw [x0]; rfl)
          have hbr : b < wr.heap.size := by omega
          have hk0 : (0 : Int) ≤ (k : Int) := by omega
          have hk1 : (k : Int) < (p.ho.length : Int) := by omega
          have hlen : (p.ho.take k).length = k := by rw [List.length_take]; omega
          have FIN := hide (show ∀ (w8 : World) (gg cap1 : Nat), w8.ownsRow wT.heap.size 57 6 (.slice (some ⟨gg, 0, none⟩) (k + 1) cap1) (k + 1) ((p.ho.take k).flatMap hoL ++ hoL f) → OwnL w8 wT.heap.size 57 6 hoL (.slice (some ⟨gg, 0, none⟩) (k + 1) cap1) (p.ho.take (k + 1)) by
            intro w8 gg cap1 h
            unfold OwnL
            rw [take_snoc hf, fm_snoc, List.length_append, hlen]
            exact h)
          have HOW := hide (show World.ownsRow wr wT.heap.size 57 6 (.slice A2 k d2) k ((p.ho.take k).flatMap hoL) by
            have := HO2.out
            unfold OwnL at this
            rwa [hlen] at this)
          clear hf hlen HO2
          generalize (p.ho.take k).flatMap hoL = FL at *
          go_upto_region 10 with fail
          go_region_law (first
            | (refine step_append_lies _ (by rfl) _ _ _ (by rfl) wT.heap.size 57 i1 _ 6 48 Try.underlying23 hi1 hy0 hy1 hy2 rfl (by omega) _ k FL (by rfl) (own_gr HOW.out (by repeat (first | with_reducible exact Gr.refl _ | with_reducible assumption | with_reducible refine Gr.alloc ?_ _ | with_reducible refine Gr.drewN ?_ _ | with_reducible refine Gr.drew ?_ | with_reducible refine Gr.setCell ?_ (by first | (dsimp only; omega) | (simp only [World.size_alloc]; omega) | (with_reducible refine Gr.size ?_; (repeat (first | with_reducible exact Gr.refl _ | with_reducible assumption | with_reducible refine Gr.alloc ?_ _ | with_reducible refine Gr.drewN ?_ _ | with_reducible refine Gr.drew ?_ | with_reducible refine Gr.trans ?_ (by with_reducible assumption))); done)) _ | with_reducible refine Gr.trans ?_ (by with_reducible assumption)))) _ 1 1 (hoL f) (by rfl) (by rfl) (rd1_ho _ f) (one_ho _) (by omega) (by unfold maxLen; omega) (by omega) (Nat.le_trans lT (Gr.size (by repeat (first | with_reducible exact Gr.refl _ | with_reducible assumption | with_reducible refine Gr.alloc ?_ _ | with_reducible refine Gr.drewN ?_ _ | with_reducible refine Gr.drew ?_ | with_reducible refine Gr.setCell ?_ (by first | (dsimp only; omega) | (simp only [World.size_alloc]; omega) | (with_reducible refine Gr.size ?_; (repeat (first | with_reducible exact Gr.refl _ | with_reducible assumption | with_reducible refine Gr.alloc ?_ _ | with_reducible refine Gr.drewN ?_ _ | with_reducible refine Gr.drew ?_ | with_reducible refine Gr.trans ?_ (by with_reducible assumption))); done)) _ | with_reducible refine Gr.trans ?_ (by with_reducible assumption))))) _ rfl ?_; intro gg cap1 w8 hown8 hgrow hat hlt; (have m8 := Made.grown (HM.out.gr (by repeat (first | with_reducible exact Gr.refl _ | with_reducible assumption | with_reducible refine Gr.alloc ?_ _ | with_reducible refine Gr.drewN ?_ _ | with_reducible refine Gr.drew ?_ | with_reducible refine Gr.setCell ?_ (by first | (dsimp only; omega) | (simp only [World.size_alloc]; omega) | (with_reducible refine Gr.size ?_; (repeat (first | with_reducible exact Gr.refl _ | with_reducible assumption | with_reducible refine Gr.alloc ?_ _ | with_reducible refine Gr.drewN ?_ _ | with_reducible refine Gr.drew ?_ | with_reducible refine Gr.trans ?_ (by with_reducible assumption))); done)) _ | with_reducible refine Gr.trans ?_ (by with_reducible assumption)))) hgrow (fun k hk => (World.ownsRow.lt HOW.out k hk).1) (by omega)); obtain ⟨m80, m81, m82⟩ := id m8; (have q8 := hide (own_grown (own_gr HO.out (show Gr wr _ from (by repeat (first | with_reducible exact Gr.refl _ | with_reducible assumption | with_reducible refine Gr.alloc ?_ _ | with_reducible refine Gr.drewN ?_ _ | with_reducible refine Gr.drew ?_ | with_reducible refine Gr.setCell ?_ (by first | (dsimp only; omega) | (simp only [World.size_alloc]; omega) | (with_reducible refine Gr.size ?_; (repeat (first | with_reducible exact Gr.refl _ | with_reducible assumption | with_reducible refine Gr.alloc ?_ _ | with_reducible refine Gr.drewN ?_ _ | with_reducible refine Gr.drew ?_ | with_reducible refine Gr.trans ?_ (by with_reducible assumption))); done)) _ | with_reducible refine Gr.trans ?_ (by with_reducible assumption))))) hgrow (fun k hk => (World.ownsRow.lt HOW.out k hk).1) HB.out))))
          all_goals
            have ho8 := hide (FIN.out w8 gg cap1 hown8)
            have g8 := Gr.grown (show Gr _ _ from g.trans (by repeat (first | with_reducible exact Gr.refl _ | with_reducible assumption | with_reducible refine Gr.alloc ?_ _ | with_reducible refine Gr.drewN ?_ _ | with_reducible refine Gr.drew ?_ | with_reducible refine Gr.setCell ?_ (by first | (dsimp only; omega) | (simp only [World.size_alloc]; omega) | (with_reducible refine Gr.size ?_; (repeat (first | with_reducible exact Gr.refl _ | with_reducible assumption | with_reducible refine Gr.alloc ?_ _ | with_reducible refine Gr.drewN ?_ _ | with_reducible refine Gr.drew ?_ | with_reducible refine Gr.trans ?_ (by with_reducible assumption))); done)) _ | with_reducible refine Gr.trans ?_ (by with_reducible assumption)))) hgrow (fun k hk => by have := (World.ownsRow.lt HOW.out k hk).1; simp only [World.size_alloc]; omega)
            have q9 := hide (show OwnL (w8.setCell ⟨w.heap.size + 1 + 1, 7, none⟩ (.slice (some ⟨gg, 0, none⟩) (k + 1) cap1)) (w.heap.size + 3) 55 7 flL (.slice A1 p.fl.length d1) p.fl from own_far q8.out (by dsimp only; omega) _)
            have o9 := hide (show OwnL (w8.setCell ⟨w.heap.size + 1 + 1, 7, none⟩ (.slice (some ⟨gg, 0, none⟩) (k + 1) cap1)) wT.heap.size 57 6 hoL (.slice (some ⟨gg, 0, none⟩) (k + 1) cap1) (p.ho.take (k + 1)) from own_far ho8.out (by dsimp only; omega) _)
            have m9 := hide (show Made (w8.setCell ⟨w.heap.size + 1 + 1, 7, none⟩ (.slice (some ⟨gg, 0, none⟩) (k + 1) cap1)) (w.heap.size + 1 + 1) (paZ p A1 (some ⟨gg, 0, none⟩) p.fl.length d1 (k + 1) cap1) from Made.setAt m8 7 (by simp) _ rfl)
            have s9 : wT.heap.size ≤ (w8.setCell ⟨w.heap.size + 1 + 1, 7, none⟩ (.slice (some ⟨gg, 0, none⟩) (k + 1) cap1)).heap.size := by
              rw [World.size_setCell]
              exact Nat.le_trans lT (Nat.le_trans (Gr.size (show Gr wr _ from (by repeat (first | with_reducible exact Gr.refl _ | with_reducible assumption | with_reducible refine Gr.alloc ?_ _ | with_reducible refine Gr.drewN ?_ _ | with_reducible refine Gr.drew ?_ | with_reducible refine Gr.setCell ?_ (by first | (dsimp only; omega) | (simp only [World.size_alloc]; omega) | (with_reducible refine Gr.size ?_; (repeat (first | with_reducible exact Gr.refl _ | with_reducible assumption | with_reducible refine Gr.alloc ?_ _ | with_reducible refine Gr.drewN ?_ _ | with_reducible refine Gr.drew ?_ | with_reducible refine Gr.trans ?_ (by with_reducible assumption))); done)) _ | with_reducible refine Gr.trans ?_ (by with_reducible assumption))))) (World.grownBy.size hgrow))
            clear hown8 hgrow hat hlt FIN HOW m8 m80 m81 m82 HM M0 M1 M2 q8 ho8
            go_wp2
            go_roundw
            case rel => exact ⟨k + 1, _, _, by omega, by go_num, Gr.setCell g8 (by simp only [World.size_alloc]; omega) _, s9, q9.out, o9.out, m9.out⟩
            case measure => simp only [intOf]; omega
        · obtain rfl : k = p.ho.length := by omega
          rw [List.take_length] at HO2
          have zw : w.heap.size + 1 < wr.heap.size := by omega
          have O1 := hide (HO.out.weak (show w.heap.size + 2 ≤ w.heap.size + 3 by omega))
          have O2 := hide (HO2.out.weak (show w.heap.size + 2 ≤ wT.heap.size by omega))
          clear HO HO2 HB cr fr
          have hp7 : wr.cell? ⟨w.heap.size, 7, none⟩ = some (.slice B p.ho.length d) := (g.cell _ 7 (by simp only [World.size_alloc]; omega)).trans (by simp [go_sem])
          have e0 : wr.cell? ⟨w.heap.size + 1 + 1, 0, none⟩ = some (.string p.nm) := M1 0
          have e1 : wr.cell? ⟨w.heap.size + 1 + 1, 1, none⟩ = some (.string p.mt) := M1 1
          have e2 : wr.cell? ⟨w.heap.size + 1 + 1, 2, none⟩ = some (iv p.ga) := M1 2
          have e3 : wr.cell? ⟨w.heap.size + 1 + 1, 3, none⟩ = some (iv p.gr) := M1 3
          have e4 : wr.cell? ⟨w.heap.size + 1 + 1, 4, none⟩ = some (iv p.wd) := M1 4
          have e5 : wr.cell? ⟨w.heap.size + 1 + 1, 5, none⟩ = some (iv p.ht) := M1 5
          have e6 : wr.cell? ⟨w.heap.size + 1 + 1, 6, none⟩ = some (.slice A1 p.fl.length d1) := M1 6
          have e7 : wr.cell? ⟨w.heap.size + 1 + 1, 7, none⟩ = some (.slice A2 p.ho.length d2) := M1 7
          have r0 : wr.cell? ⟨w.heap.size + 1, 0, none⟩ = some (.string ⟨#[]⟩) := (g.cell _ 0 (by simp)).trans (by simp [go_sem])
          have q0 : wr.frozen? ⟨w.heap.size + 1, 0, none⟩ = false := (g.frozen _ 0 (by simp)).trans (by simp [go_sem])
          have r1 : wr.cell? ⟨w.heap.size + 1, 1, none⟩ = some (.string ⟨#[]⟩) := (g.cell _ 1 (by simp)).trans (by simp [go_sem])
          have q1 : wr.frozen? ⟨w.heap.size + 1, 1, none⟩ = false := (g.frozen _ 1 (by simp)).trans (by simp [go_sem])
          have r2 : wr.cell? ⟨w.heap.size + 1, 2, none⟩ = some (iv 0) := (g.cell _ 2 (by simp)).trans (by simp [go_sem])
          have q2 : wr.frozen? ⟨w.heap.size + 1, 2, none⟩ = false := (g.frozen _ 2 (by simp)).trans (by simp [go_sem])
          have r3 : wr.cell? ⟨w.heap.size + 1, 3, none⟩ = some (iv 0) := (g.cell _ 3 (by simp)).trans (by simp [go_sem])
          have q3 : wr.frozen? ⟨w.heap.size + 1, 3, none⟩ = false := (g.frozen _ 3 (by simp)).trans (by simp [go_sem])
          have r4 : wr.cell? ⟨w.heap.size + 1, 4, none⟩ = some (iv 0) := (g.cell _ 4 (by simp)).trans (by simp [go_sem])
          have q4 : wr.frozen? ⟨w.heap.size + 1, 4, none⟩ = false := (g.frozen _ 4 (by simp)).trans (by simp [go_sem])
          have r5 : wr.cell? ⟨w.heap.size + 1, 5, none⟩ = some (iv 0) := (g.cell _ 5 (by simp)).trans (by simp [go_sem])
          have q5 : wr.frozen? ⟨w.heap.size + 1, 5, none⟩ = false := (g.frozen _ 5 (by simp)).trans (by simp [go_sem])
          have r6 : wr.cell? ⟨w.heap.size + 1, 6, none⟩ = some (.slice none 0 0) := (g.cell _ 6 (by simp)).trans (by simp [go_sem])
          have q6 : wr.frozen? ⟨w.heap.size + 1, 6, none⟩ = false := (g.frozen _ 6 (by simp)).trans (by simp [go_sem])
          have r7 : wr.cell? ⟨w.heap.size + 1, 7, none⟩ = some (.slice none 0 0) := (g.cell _ 7 (by simp only [World.size_alloc]; omega)).trans (by simp [go_sem])
          have q7 : wr.frozen? ⟨w.heap.size + 1, 7, none⟩ = false := (g.frozen _ 7 (by simp)).trans (by simp [go_sem])
          clear M1 M2
          go_wp2
          refine bodyPost_ret (v := pav p A1 d1 A2 d2) (by simp [results, Try.results17, go_sem, *]) rfl ⟨A1, d1, A2, d2, rfl, ?_, ?_, ?_⟩
          · refine OwnL.weak (lo := w.heap.size) (base := w.heap.size + 2) ?_ (by omega)
            unfold OwnL
            repeat (with_reducible refine own_far ?_ (by dsimp only; omega) _)
            exact O1.out
          · refine OwnL.weak (lo := w.heap.size) (base := w.heap.size + 2) ?_ (by omega)
            unfold OwnL
            repeat (with_reducible refine own_far ?_ (by dsimp only; omega) _)
            exact O2.out
          · exact (by repeat (first | with_reducible exact Gr.refl _ | with_reducible assumption | with_reducible refine Gr.alloc ?_ _ | with_reducible refine Gr.drewN ?_ _ | with_reducible refine Gr.drew ?_ | with_reducible refine Gr.setCell ?_ (by first | (dsimp only; omega) | (simp only [World.size_alloc]; omega) | (with_reducible refine Gr.size ?_; (repeat (first | with_reducible exact Gr.refl _ | with_reducible assumption | with_reducible refine Gr.alloc ?_ _ | with_reducible refine Gr.drewN ?_ _ | with_reducible refine Gr.drew ?_ | with_reducible refine Gr.trans ?_ (by with_reducible assumption))); done)) _ | with_reducible refine Gr.trans ?_ (by with_reducible assumption)))
end Go.Proofs.Ytpmomgfepkegnaa
