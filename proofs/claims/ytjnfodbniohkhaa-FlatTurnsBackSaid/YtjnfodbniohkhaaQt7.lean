/-
  FlatTurnsBack: the law.
-/
import Derived.Test.YtjnfodbniohkhaaQt6
import Derived.Test.YtjnfodbniohkhaaSf7
import Derived.Test.YtjnfodbniohkhaaSfo
import Derived.Test.YtjnfodbniohkhaaRat5
set_option linter.unusedVariables false
set_option linter.unusedSimpArgs false
namespace Go.Proofs.Ytjnfodbniohkhaa
set_option linter.unusedVariables false
set_option linter.unusedSimpArgs false
open Go Go.ChangeShapes Go.WideShapes Go.ChangeAt Go.RowKit Go.Deep

namespace RG
theorem Settle_any (A1 A2 A3 A4 : Option Addr) (c1 c2 c3 c4 : Nat) (F : Pat) (w : World) (hF : PatW w A1 c1 A2 c2 A3 c3 A4 c4 F) (n4 : F.b.length ≤ 400) :
    Calls Try.prog 7 #[ptv A1 F.r.length c1 A2 F.c.length c2 A3 F.f.length c3 A4 F.b.length c4] w fun e w' => QrP w w' (qtP F 0) (qtE F 0) e := by
  have HQ := hide (fun (w' : World) (g : Gr w w') => Quarter_any A1 A2 A3 A4 c1 c2 c3 c4 F 0 w' (hF.gr g) (by omega) n4)
  clear hF
  generalize qtP F 0 = G at *
  generalize qtE F 0 = E at *
  obtain ⟨w0, hw0⟩ : ∃ w0, (w.alloc (.cells #[.slice A1 F.r.length c1, .slice A2 F.c.length c2, .slice A3 F.f.length c3, .slice A4 F.b.length c4] 25)).alloc (.cells #[.slice none 0 0, .slice none 0 0, .slice none 0 0, .slice none 0 0] 25) = w0 := ⟨_, rfl⟩
  have gw0 : Gr w w0 := by rw [← hw0]; exact Gr.alloc (Gr.alloc (Gr.refl _) _) _
  have s0 : w0.heap.size = w.heap.size + 2 := by rw [← hw0]; simp
  have k1 : w0.cell? ⟨w.heap.size, 0, none⟩ = some (.slice A1 F.r.length c1) ∧ w0.cell? ⟨w.heap.size, 1, none⟩ = some (.slice A2 F.c.length c2) ∧ w0.cell? ⟨w.heap.size, 2, none⟩ = some (.slice A3 F.f.length c3) ∧ w0.cell? ⟨w.heap.size, 3, none⟩ = some (.slice A4 F.b.length c4) := by rw [← hw0]; simp [go_sem]
  have k2 : (∀ j, w0.frozen? ⟨w.heap.size + 1, j, none⟩ = false) ∧ w0.cell? ⟨w.heap.size + 1, 0, none⟩ = some (.slice none 0 0) ∧ w0.cell? ⟨w.heap.size + 1, 1, none⟩ = some (.slice none 0 0) ∧ w0.cell? ⟨w.heap.size + 1, 2, none⟩ = some (.slice none 0 0) ∧ w0.cell? ⟨w.heap.size + 1, 3, none⟩ = some (.slice none 0 0) := by rw [← hw0]; simp [go_sem]
  have HK2 := hide k2
  obtain ⟨k10, k11, k12, k13⟩ := k1
  clear k2
  go_enter Try.func7, Try.ntmps7
  go_upto_region 1 with fail
  clear hw0
  go_wp2_with fail
  refine (HQ.out _ gw0).mono ?_
  rintro e w1 ⟨D1, D2, D3, D4, q1, q2, q3, q4, rfl, hP, hf, g1⟩
  have hs := g1.size
  have p0 : w1.frozen? ⟨w.heap.size + 1, 0, none⟩ = false := (g1.frozen _ _ (by omega)).trans (HK2.out.1 0)
  have p1 : w1.frozen? ⟨w.heap.size + 1, 1, none⟩ = false := (g1.frozen _ _ (by omega)).trans (HK2.out.1 1)
  have p2 : w1.frozen? ⟨w.heap.size + 1, 2, none⟩ = false := (g1.frozen _ _ (by omega)).trans (HK2.out.1 2)
  have p3 : w1.frozen? ⟨w.heap.size + 1, 3, none⟩ = false := (g1.frozen _ _ (by omega)).trans (HK2.out.1 3)
  have d0 : w1.cell? ⟨w.heap.size + 1, 0, none⟩ = some (.slice none 0 0) := (g1.cell _ _ (by omega)).trans HK2.out.2.1
  have d1 : w1.cell? ⟨w.heap.size + 1, 1, none⟩ = some (.slice none 0 0) := (g1.cell _ _ (by omega)).trans HK2.out.2.2.1
  have d2 : w1.cell? ⟨w.heap.size + 1, 2, none⟩ = some (.slice none 0 0) := (g1.cell _ _ (by omega)).trans HK2.out.2.2.2.1
  have d3 : w1.cell? ⟨w.heap.size + 1, 3, none⟩ = some (.slice none 0 0) := (g1.cell _ _ (by omega)).trans HK2.out.2.2.2.2
  have HP := hide hP
  have HF := hide hf
  have HG := hide (gw0.trans g1)
  have hlt : w.heap.size + 1 < w1.heap.size := by omega
  have hle : w.heap.size ≤ w.heap.size + 1 := by omega
  clear hP hf g1 HQ k10 k11 k12 k13
  go_wp2_with fail
  refine bodyPost_ret (v := sle (ptv D1 G.r.length q1 D2 G.c.length q2 D3 G.f.length q3 D4 G.b.length q4) E) (by simp [results, Try.results7, go_sem, *]) rfl ?_
  have hne : ∀ b, w0.heap.size ≤ b → b ≠ w.heap.size + 1 := fun b hb => by omega
  refine ⟨D1, D2, D3, D4, q1, q2, q3, q4, rfl, pat_keep HP.out HF.out fun b o hb => by
    have := hne b hb
    rw [cell_set _ this, cell_set _ this, cell_set _ this, cell_set _ this], ⟨fun hl a ha => Nat.le_trans gw0.size (HF.out.1 hl a ha), fun hl a ha => Nat.le_trans gw0.size (HF.out.2.1 hl a ha), fun hl a ha => Nat.le_trans gw0.size (HF.out.2.2.1 hl a ha), fun hl a ha => Nat.le_trans gw0.size (HF.out.2.2.2 hl a ha)⟩, ?_⟩
  exact Gr.setCell (Gr.setCell (Gr.setCell (Gr.setCell HG.out (p := ⟨w.heap.size + 1, 0, none⟩) hle _) (p := ⟨w.heap.size + 1, 1, none⟩) hle _) (p := ⟨w.heap.size + 1, 2, none⟩) hle _) (p := ⟨w.heap.size + 1, 3, none⟩) hle _
/-- what the law needs of the turned pattern -/
theorem qt_ok {F : Pat} {t : Nat} (h : qtE F t = 0) : chE F = 0 ∧ qtP F t = qtF F t ∧ lmB (qtF F t) = true := by
  have hc : chE F = 0 := by
    unfold qtE at h
    split at h
    · assumption
    · cases h
  have hl : lmB (qtF F t) = true := by
    unfold qtE at h
    rw [if_pos hc] at h
    split at h
    · assumption
    · cases h
  exact ⟨hc, if_pos h, hl⟩
theorem qt_len (F : Pat) (t : Nat) : (qtF F t).r.length = F.r.length ∧ (qtF F t).c.length = F.c.length ∧ (qtF F t).f.length = F.f.length ∧ (qtF F t).b.length = F.b.length := by
  simp [qtF, stF, patM, List.length_zipWith]
theorem ch_ok {F : Pat} (h : (1 ≤ F.r.length ∧ F.r.length ≤ 48) ∧ F.c.length ≤ 48 ∧ F.f.length ≤ 48 ∧ lmB F = true) : chE F = 0 := if_pos h
theorem qt_ch {F : Pat} {t : Nat} (h : qtE F t = 0) : chE (qtF F t) = 0 ∧ sfV (qtF F t) = sfV F := by
  obtain ⟨hc, _, hl⟩ := qt_ok h
  obtain ⟨⟨l1, l2⟩, l3, l4, l5⟩ := ch_yes hc
  obtain ⟨k1, k2, k3, _⟩ := qt_len F t
  obtain ⟨i1, i2, i3, _⟩ := lm_in l5
  obtain ⟨j1, _, _, _⟩ := lm_in hl
  have e : chE (qtF F t) = 0 := ch_ok ⟨⟨by omega, by omega⟩, by omega, by omega, hl⟩
  refine ⟨e, ?_⟩
  unfold sfV
  rw [if_pos e, if_pos hc]
  exact qt_srf i1 i2 i3 j1
theorem nn_ch {F : Pat} (h : chE F = 0) : nnB F ∧ 0 < F.r.length := by
  obtain ⟨⟨l1, l2⟩, l3, l4, l5⟩ := ch_yes h
  obtain ⟨i1, i2, i3, _⟩ := lm_in l5
  exact ⟨⟨fun r hr => ⟨Int.le_of_lt (i1 r hr).w, Int.le_of_lt (i1 r hr).h⟩, fun r hr => ⟨Int.le_of_lt (i2 r hr).w, Int.le_of_lt (i2 r hr).h⟩, fun r hr => ⟨Int.le_of_lt (i3 r hr).w, Int.le_of_lt (i3 r hr).h⟩⟩, by omega⟩
/-- turns add up, as the law asks -/
theorem qt_back {F : Pat} {a b : Nat} (ha : a ≤ 3) (hb : b ≤ 3) (h : qtE F a = 0) (hy : qtE (qtF F a) b = 0) (hz : qtE F ((a + b) % 4) = 0) (ho : oB F = true) : qtP (qtF F a) b = qtP F ((a + b) % 4) := by
  obtain ⟨hc, _, _⟩ := qt_ok h
  obtain ⟨n1, n2⟩ := nn_ch hc
  rw [(qt_ok hy).2.1, (qt_ok hz).2.1, qt_qt n1 ho n2, qt_mod n1 (by omega) ho]
end RG
end Go.Proofs.Ytjnfodbniohkhaa
