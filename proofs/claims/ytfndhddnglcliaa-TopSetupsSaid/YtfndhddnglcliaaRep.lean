/-
  Stations that are empty: slices.Repeat of one element.
-/
import Derived.Test.YtfndhddnglcliaaSb8
import Derived.Laws.CopyOwn
set_option linter.unusedVariables false
set_option linter.unusedSimpArgs false
namespace Go.Proofs.Ytfndhddnglcliaa
set_option linter.unusedVariables false
set_option linter.unusedSimpArgs false
open Go Go.ChangeShapes Go.WideShapes Go.ChangeAt Go.RowKit Go.Deep

theorem mul64_any (n : Nat) (w : World) (h1 : 1 ≤ n) (h3 : n ≤ 3) :
    Calls Try.prog 49 #[uv 1, uv n] w fun e w' => e = .returned (.tuple #[uv 0, uv n]) ∧ w = w' := by
  rcases (by omega : n = 1 ∨ n = 2 ∨ n = 3) with rfl | rfl | rfl
  all_goals
    go_enter Try.func49, Try.ntmps49
    go_wp2
    go_ret2
    exact ⟨by kernel_rfl, rfl⟩
theorem mul_any (n : Nat) (w : World) (h1 : 1 ≤ n) (h3 : n ≤ 3) :
    Calls Try.prog 45 #[uv 1, uv n] w fun e w' => e = .returned (.tuple #[uv 0, uv n]) ∧ w = w' := by
  have HM := hide (fun w => mul64_any n w h1 h3)
  go_enter Try.func45, Try.ntmps45
  go_wp2_with (first | (go_at_call 49; refine (HM.out _).mono ?_; rintro e w1 ⟨rfl, rfl⟩))
  go_ret2
  exact ⟨rfl, rfl⟩
/-- k stations of n are empty -/
def emR (n k : Nat) : List Value := List.replicate k (iv (-1)) ++ List.replicate (n - k) (iv 0)
theorem emR_len {n k : Nat} (h : k ≤ n) : (emR n k).length = n := by
  unfold emR
  rw [List.length_append, List.length_replicate, List.length_replicate]
  omega
theorem emR_zero (n : Nat) : emR n 0 = List.replicate n (iv 0) := by simp [emR]
theorem emR_all (n : Nat) : emR n n = List.replicate n (iv (-1)) := by simp [emR]
theorem emR_step {n k m : Nat} (h : k + m ≤ n) : splice (emR n k) k (List.replicate m (iv (-1))) = emR n (k + m) := by
  unfold splice emR
  rw [List.take_append_of_le_length (by simp), List.take_of_length_le (by simp), List.drop_append, List.length_replicate, List.length_replicate]
  rw [List.drop_eq_nil_of_le (by simp), List.nil_append, List.drop_replicate, ← List.append_assoc, List.replicate_append_replicate]
  congr 2
  omega
theorem emR_at {n k i : Nat} (h : i < k) : (emR n k)[i]? = some (iv (-1)) := by
  unfold emR
  rw [List.getElem?_append_left (by simpa using h), List.getElem?_replicate, if_pos h]
theorem info_int : ∃ i, Try.prog.info? 3 = some i ∧ i.zero = some (iv 0) ∧ i.size = 1 ∧ i.bytes = 8 := by
  have hi : (Try.prog.info? 3).map (fun i => (i.zero, i.size, i.bytes)) = some (some (iv 0), 1, 8) := by kernel_rfl
  cases e1 : Try.prog.info? 3 with
  | none => rw [e1] at hi; cases hi
  | some i =>
    rw [e1] at hi
    simp only [Option.map_some, Option.some.injEq, Prod.mk.injEq] at hi
    exact ⟨i, rfl, hi.1, hi.2.1, hi.2.2⟩
theorem size_int : (Try.prog.info? 3).map (·.size) = some 1 := by kernel_rfl
theorem own_row {w : World} {base e B n : Nat} {xs : List Value} (h : w.ownsRow base e 1 (.slice (some ⟨B, 0, none⟩) n n) n xs) : w.heap[B]? = some (.cells xs.toArray e (0, 0)) := by
  rcases h.2 with ⟨h', _⟩ | ⟨g, cap, cur, h1, _, h2, _, _, h5, h6⟩
  · simp at h'
  · simp only [Value.slice.injEq, Option.some.injEq, Addr.mk.injEq, and_true, true_and] at h1
    obtain ⟨rfl, rfl⟩ := h1
    have : cur.toList = xs := by rw [← h6, List.take_of_length_le (by rw [Array.length_toList, h5]; exact Nat.le_refl _)]
    rw [h2, ← this]
theorem row_cells {w : World} {B : Nat} {e : TypeId} {xs : List Value} (h : w.heap[B]? = some (.cells xs.toArray e (0, 0))) (i : Nat) : w.cell? ⟨B, i, none⟩ = xs[i]? := by
  have := cell_of_row w B i xs.toArray e (0, 0) h
  simpa using this
set_option maxRecDepth 100000 in
set_option maxHeartbeats 2000000 in
theorem repeat_any (B0 : Nat) (n : Nat) (w : World) (h1 : 1 ≤ n) (h3 : n ≤ 3) (hb : w.cell? ⟨B0, 0, none⟩ = some (iv (-1))) :
    Calls Try.prog 37 #[.slice (some ⟨B0, 0, none⟩) 1 1, iv n] w fun e w' => ∃ B, e = .returned (.slice (some ⟨B, 0, none⟩) n n) ∧ w'.heap[B]? = some (.cells (List.replicate n (iv (-1))).toArray 3 (0, 0)) ∧ w.heap.size ≤ B ∧ Gr w w' := by
  have HM := hide (fun w => mul_any n w h1 h3)
  have hn1 : IntKind.u64.wrap (n : Int) = (n : Int) := u64_in (by omega)
  have hn2 : wrap64 (n : Int) = (n : Int) := by unfold wrap64; omega
  have hn3 : (0 : Int) ≤ (n : Int) := by omega
  have hn4 : decide ((9223372036854775807 : Int) < (n : Int)) = false := by rw [decide_eq_false_iff_not]; omega
  have HB := hide (fun (w' : World) (g : Gr w w') => (g.cell B0 0 (cell_lt (by rw [hb]; rfl))).trans hb)
  obtain ⟨i0, hi0, hz0, hsz0, hby0⟩ := info_int
  clear hb
  go_enter Try.func37, Try.ntmps37
  go_upto_region 7 with (first | (go_at_call 45; refine (HM.out _).mono ?_; rintro e w1 ⟨rfl, rfl⟩) | (refine wpList_make_full w rfl _ _ _ rfl w.heap.size 3 i0 (iv 0) 1 elInt.und hi0 hz0 hsz0 .i64 .i64 _ _ n rfl rfl rfl rfl (by rw [hby0]; omega) (by unfold maxLen; omega) (Nat.le_refl _) ?_; intro w1 hown1 hg1))
  have g1 : Gr w w1 := Gr.grown (Gr.refl _) hg1 (fun k hk => by cases hk)
  have hrow1 := own_row hown1
  rw [show (madeCells (iv 0).cells (n * 1)).toList = emR n 0 by rw [emR_zero, Nat.mul_one]; exact toList_madeCells_one _ _] at hrow1
  have hsrc := HB.out w1 g1
  obtain ⟨G, hG⟩ : ∃ G, w.heap.size = G := ⟨_, rfl⟩
  have hwG : w.heap.size ≤ G := by omega
  rw [hG] at hrow1
  simp only [hG]
  have HR1 := hide hrow1
  clear hown1 hg1 hrow1 hi0 hz0 hsz0 hby0 hG
  go_wp2_with (refine wpList_copy_splice rfl _ _ _ _ rfl 3 elInt.und size_int _ _ _ _ _ _ rfl rfl G 0 (emR n 0) 3 HR1.out (List.replicate 1 (iv (-1))) (by show 1 = min 1 n; omega) (fun _ => ⟨rfl, _, rfl, news1 hsrc⟩) (by rw [emR_len (Nat.zero_le _)]; exact h1) (by intro v hv; simp at hv; subst hv; rfl) w.heap.size w g1 hwG ?_; intro w2 hr2 hb2)
  have hr2' := hr2.out
  rw [emR_step (show 0 + 1 ≤ n by omega)] at hr2'
  have HR2 := hide (show w2.heap[G]? = some (.cells (emR n 1).toArray 3 (0, 0)) from hr2')
  clear HR1 hr2 hr2' hsrc
  go_loopw [8] (fun v wr => ∃ k : Nat, 1 ≤ k ∧ k ≤ n ∧ v = iv k ∧ Gr w wr ∧ Hid (wr.heap[G]? = some (.cells (emR n k).toArray 3 (0, 0)))) (fun v _ => n - (intOf v).toNat)
  case atStart => exact ⟨1, by omega, h1, rfl, hb2, HR2⟩
  case round =>
    clear HR2
    obtain ⟨k, k1, k2, rfl, g, HR⟩ := hrel
    by_cases hkn : k < n
    · have a1 : (0 : Int) ≤ (k : Int) := by omega
      have a2 : (k : Int) ≤ (n : Int) := by omega
      have hsr := hide (fun i (hi : i < k) => (row_cells HR.out i).trans (emR_at hi))
      go_upto_region 9 with fail
      have c1 := hide (show (List.replicate (min k (n - k)) (iv (-1))).length = Nat.min k (n - k) by simp)
      have c2 := hide (show 0 < (List.replicate (min k (n - k)) (iv (-1))).length → some (⟨G, k, none⟩ : Addr) = some ⟨G, k, none⟩ ∧ ∃ ad, some (⟨G, 0, none⟩ : Addr) = some ad ∧ ∀ j v, (List.replicate (min k (n - k)) (iv (-1)))[j]? = some v → wr.cell? (ad.add j) = some v from
        fun _ => ⟨rfl, _, rfl, by
          intro j v hj
          rw [addr_add, Nat.zero_add]
          rw [List.getElem?_replicate] at hj
          split at hj
          · rw [hsr.out j (by omega)]; exact hj
          · cases hj⟩)
      have c3 := hide (show k + (List.replicate (min k (n - k)) (iv (-1))).length ≤ (emR n k).length by rw [emR_len k2]; simp; omega)
      have c4 := hide (show ∀ v ∈ List.replicate (min k (n - k)) (iv (-1)), v.oneCell' = true by intro v hv; rw [List.mem_replicate] at hv; rw [hv.2]; rfl)
      have c5 := hide (emR_step (n := n) (k := k) (m := min k (n - k)) (by omega))
      have hmk : 1 ≤ min k (n - k) := by omega
      have hmn : k + min k (n - k) ≤ n := by omega
      have c6 := hide (show (List.replicate (min k (n - k)) (iv (-1))).length = min k (n - k) by simp)
      generalize hcs : List.replicate (min k (n - k)) (iv (-1)) = cs at *
      generalize hmm : min k (n - k) = m at *
      generalize emR n k = row at *
      generalize hrn : n - k = rn at *
      have HRN := hide hrn
      clear hcs hmm hrn hsr
      go_region_law (refine step_copy_splice rfl (.tmp 41) (.tmp 44) 30 30 rfl 3 elInt.und size_int (some ⟨G, k, none⟩) (some ⟨G, 0, none⟩) rn rn k n (by simp [Act.eval, Act.put]; exact ⟨by omega, HRN.out⟩) (by simp [Act.eval, Act.put]) G k row 3 HR.out cs c1.out c2.out c3.out c4.out w.heap.size w g.drew hwG ?_; intro w3 hr3 hb3)
      all_goals
        have hr3' := hr3.out
        rw [c5.out] at hr3'
        have HR' := hide hr3'
        clear hr3 hr3'
        rw [c6.out]
        have W9 : IntKind.i64.wrap ((k : Int) + (m : Int)) = (k : Int) + (m : Int) := IntWalk.i64_in _ (by omega)
        go_wp2
        go_roundw
        case rel => exact ⟨k + m, by omega, hmn, by go_num, hb3, HR'⟩
        case measure => simp only [intOf]; omega
    · obtain rfl : k = n := by omega
      have HE := hide (show wr.heap[G]? = some (.cells (List.replicate k (iv (-1))).toArray 3 (0, 0)) by rw [← emR_all]; exact HR.out)
      go_wp2
      go_ret
      exact ⟨G, rfl, HE.out, hwG, g⟩
theorem empty_any (n : Nat) (w : World) (h1 : 1 ≤ n) (h3 : n ≤ 3) :
    Calls Try.prog 21 #[iv n] w fun e w' => ∃ B, e = .returned (.slice (some ⟨B, 0, none⟩) n n) ∧ w'.heap[B]? = some (.cells (List.replicate n (iv (-1))).toArray 3 (0, 0)) ∧ w.heap.size ≤ B ∧ Gr w w' := by
  have HR := hide (fun (w : World) hb => repeat_any w.heap.size n (w.alloc (.cells #[.int .i64 (-1)] 3)) h1 h3 hb)
  go_enter Try.func21, Try.ntmps21
  go_wp2_with fail
  refine (HR.out _ (by simp [go_sem])).mono ?_
  rintro e w1 ⟨B, rfl, hr, hB, g1⟩
  have HB := hide hr
  clear hr
  simp only [World.size_alloc] at hB
  go_wp2
  go_ret
  exact ⟨B, rfl, HB.out, by omega, (by repeat (first | with_reducible exact Gr.refl _ | with_reducible assumption | with_reducible refine Gr.alloc ?_ _ | with_reducible refine Gr.drewN ?_ _ | with_reducible refine Gr.drew ?_ | with_reducible refine Gr.setCell ?_ (by first | (dsimp only; omega) | (simp only [World.size_alloc]; omega) | (with_reducible refine Gr.size ?_; (repeat (first | with_reducible exact Gr.refl _ | with_reducible assumption | with_reducible refine Gr.alloc ?_ _ | with_reducible refine Gr.drewN ?_ _ | with_reducible refine Gr.drew ?_ | with_reducible refine Gr.trans ?_ (by with_reducible assumption))); done)) _ | with_reducible refine Gr.trans ?_ (by with_reducible assumption)))⟩
end Go.Proofs.Ytfndhddnglcliaa
