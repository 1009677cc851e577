/-
  GeomSweepHolds: whether a point lies in a polygon, and the walk.
-/
import Derived.Test.YtloefohekhkehaaDoorSw5L
import Derived.Test.YtloefohekhkehaaDoorHolds2
set_option linter.unusedVariables false
set_option linter.unusedSimpArgs false
namespace Go.Proofs.YtloefohekhkehaaDoor
set_option linter.unusedVariables false
set_option linter.unusedSimpArgs false
open Go Go.ChangeShapes Go.WideShapes Go.ChangeAt Go.RowKit Go.Deep

def insA (hs : List Pt) (p : Pt) (i : Nat) : Bool := match hs[i]?, hs[(i + 1) % hs.length]? with
  | some a, some b => decide (0 ≤ orP a b p)
  | _, _ => true
def insB (hs : List Pt) (p : Pt) : Bool := (List.range hs.length).all (insA hs p)
theorem insA_at {hs : List Pt} {p a b : Pt} {i r : Nat} (ha : hs[i]? = some a) (hr : r = (i + 1) % hs.length) (hb : hs[r]? = some b) : insA hs p i = decide (0 ≤ orP a b p) := by
  subst hr
  unfold insA
  rw [ha, hb]
theorem insB_no {hs : List Pt} {p : Pt} {i : Nat} (hi : i < hs.length) (h : insA hs p i = false) : insB hs p = false := by
  unfold insB
  rw [List.all_eq_false]
  exact ⟨i, List.mem_range.2 hi, by simp [h]⟩
theorem insB_yes {hs : List Pt} {p : Pt} (h : ∀ i, i < hs.length → insA hs p i = true) : insB hs p = true := by
  unfold insB
  rw [List.all_eq_true]
  exact fun i hi => h i (List.mem_range.1 hi)
set_option maxHeartbeats 1000000 in
set_option maxRecDepth 100000 in
theorem inside_any (A : Option Addr) (c : Nat) (hs : List Pt) (p : Pt) (w : World) (hx : Rd w A hs) (hB : ∀ q ∈ hs, pB q = true) (hp : pB p = true) (h3 : 3 ≤ hs.length) (h24 : hs.length ≤ 24) :
    Calls Tryd.prog 10 #[.slice A hs.length c, pv p] w fun e w' => e = .returned (.bool (insB hs p)) ∧ Gr w w' := by
  have HX := hide hx
  have HB := hide hB
  clear hx hB
  have h3i : (2 : Int) < (hs.length : Int) := by omega
  have z0 : ((hs.length : Int) == 0) = false := by rw [beq_eq_false_iff_ne]; omega
  go_enter Tryd.func10, Tryd.ntmps10
  go_wp2
  have g0 : Gr w (w.alloc (.cells #[iv p.1, iv p.2.1, iv p.2.2.1, iv p.2.2.2] 34)) := Gr.alloc (Gr.refl _) _
  obtain ⟨BX, hBX⟩ : ∃ BX, w.heap.size = BX := ⟨_, rfl⟩
  have HC := hide (cells_new4 w p)
  have HP4 := hide (show ∀ w', Gr (w.alloc (.cells #[iv p.1, iv p.2.1, iv p.2.2.1, iv p.2.2.2] 34)) w' → w'.cell? ⟨BX, 0, none⟩ = some (iv p.1) ∧ w'.cell? ⟨BX, 1, none⟩ = some (iv p.2.1) ∧ w'.cell? ⟨BX, 2, none⟩ = some (iv p.2.2.1) ∧ w'.cell? ⟨BX, 3, none⟩ = some (iv p.2.2.2) from by
    intro w' g
    rw [← hBX]
    have hl : w.heap.size < (w.alloc (.cells #[iv p.1, iv p.2.1, iv p.2.2.1, iv p.2.2.2] 34)).heap.size := by simp
    exact ⟨(g.cell _ _ hl).trans (by simp [go_sem]), (g.cell _ _ hl).trans (by simp [go_sem]), (g.cell _ _ hl).trans (by simp [go_sem]), (g.cell _ _ hl).trans (by simp [go_sem])⟩)
  simp only [hBX]
  generalize w.alloc (.cells #[iv p.1, iv p.2.1, iv p.2.2.1, iv p.2.2.2] 34) = w1 at *
  clear hBX HC
  go_loopw [5] (fun i wr => ∃ k : Nat, k ≤ hs.length ∧ i = iv k ∧ Gr w1 wr ∧ Hid (∀ j, j < k → insA hs p j = true)) (fun i _ => hs.length - (intOf i).toNat)
  case atStart => exact ⟨0, by omega, rfl, Gr.refl _, hide (fun j h => absurd h (Nat.not_lt_zero j))⟩
  case round =>
    obtain ⟨k, hk, rfl, g, HS⟩ := hrel
    by_cases hlt : k < hs.length
    · obtain ⟨a, ha⟩ : ∃ a, hs[k]? = some a := ⟨_, List.getElem?_eq_getElem hlt⟩
      obtain ⟨r, hr⟩ : ∃ r, r = (k + 1) % hs.length := ⟨_, rfl⟩
      have hrl : r < hs.length := hr ▸ Nat.mod_lt _ (by omega)
      obtain ⟨b, hb⟩ : ∃ b, hs[r]? = some b := ⟨_, List.getElem?_eq_getElem hrl⟩
      have HIA := hide (insA_at (p := p) ha hr hb)
      have t1 : Int.tmod ((k : Int) + 1) (hs.length : Int) = (r : Int) := by rw [hr, Int.tmod_eq_emod_of_nonneg (by omega)]; simp
      have HPa := HB.out a (List.mem_of_getElem? ha)
      have HPb := HB.out b (List.mem_of_getElem? hb)
      obtain ⟨ba, oa, rfl, a0, a1, a2, a3⟩ := (HX.out.gr (g0.trans g)) k a ha
      obtain ⟨bb, ob, e, b0, b1, b2, b3⟩ := (HX.out.gr (g0.trans g)) r b hb
      cases e
      obtain ⟨p0, p1, p2, p3⟩ := HP4.out wr g
      have m1 : IntKind.i64.wrap ((k : Int) + 1) = (k : Int) + 1 := IntWalk.i64_in _ (by omega)
      have m3 : IntKind.i64.wrap (r : Int) = (r : Int) := IntWalk.i64_in _ (by omega)
      have hk0 : (0 : Int) ≤ (k : Int) := by omega
      have hk1 : (k : Int) < (hs.length : Int) := by omega
      have hr0 : (0 : Int) ≤ (r : Int) := by omega
      have hr1 : (r : Int) < (hs.length : Int) := by omega
      have HOR := hide (fun w' => orient_pts a b p w' HPa HPb hp)
      clear ha hb hr
      go_upto_region 4 with fail
      have GC := @GrW.cell
      refine wp_region_grw _ (by kernel_rfl) (by kernel_rfl) (Gr.refl _) ?_
      repeat (go_big_quiet_step ((first | (go_at_call 19; exact quiet_grw (orient_pts _ _ _ _ HPa HPb hp)))))
      refine wpQuiet_nil ?_
      intro wq hwq
      obtain ⟨gq, hwq'⟩ := hwq
      subst hwq'
      clear GC
      have gq1 := gq.gr
      generalize gq.w = wq at gq1 ⊢
      obtain ⟨Xq, Yq, cq, fq⟩ := gq1.use
      have sq := gq1.size
      (try simp only [World.size_alloc, World.size_setCell, World.heap_drewN] at sq)
      by_cases hn : 0 ≤ orP a b p
      · have HS' := hide (show ∀ j, j < k + 1 → insA hs p j = true by
          intro j hj
          rcases Nat.lt_or_ge j k with h | h
          · exact HS.out j h
          · obtain rfl : j = k := by omega
            rw [HIA.out]
            exact decide_eq_true hn)
        have hn' : ¬ orP a b p < 0 := by omega
        clear hn
        go_wp2
        go_roundw
        case rel => exact ⟨k + 1, by omega, by go_num, g.trans gq1, HS'⟩
        case measure => simp only [intOf]; omega
      · have HE := hide (insB_no (hs := hs) (p := p) hlt (by rw [HIA.out]; exact decide_eq_false hn))
        have hn' : orP a b p < 0 := by omega
        clear hn
        go_wp2
        go_ret
        exact ⟨ret_bool HE.out.symm, g0.trans (g.trans gq1)⟩
    · obtain rfl : k = hs.length := by omega
      have HE := hide (insB_yes HS.out)
      go_upto_region 7 with fail
      have GC := @GrW.cell
      refine wp_region_grw _ (by kernel_rfl) (by kernel_rfl) (Gr.refl _) ?_
      repeat (go_big_quiet_step ((first | fail)))
      refine wpQuiet_nil ?_
      intro wq hwq
      obtain ⟨gq, hwq'⟩ := hwq
      subst hwq'
      clear GC
      have gq1 := gq.gr
      generalize gq.w = wq at gq1 ⊢
      obtain ⟨Xq, Yq, cq, fq⟩ := gq1.use
      have sq := gq1.size
      (try simp only [World.size_alloc, World.size_setCell, World.heap_drewN] at sq)
      go_wp2
      go_ret
      exact ⟨ret_bool HE.out.symm, g0.trans (g.trans gq1)⟩
end Go.Proofs.YtloefohekhkehaaDoor
