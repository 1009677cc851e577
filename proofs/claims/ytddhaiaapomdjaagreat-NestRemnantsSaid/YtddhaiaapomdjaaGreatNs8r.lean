/-
  Nests: two lists of rectangles joined: make, then copy twice.
-/
import Derived.Test.YtddhaiaapomdjaaGreatNs7r
import Derived.Test.YtddhaiaapomdjaaGreatCpy
set_option linter.unusedVariables false
set_option linter.unusedSimpArgs false
namespace Go.Proofs.YtddhaiaapomdjaaGreat
set_option linter.unusedVariables false
set_option linter.unusedSimpArgs false
open Go Go.ChangeShapes Go.WideShapes Go.ChangeAt Go.RowKit Go.Deep

namespace RG
theorem own_rowN {w : World} {base e k B n : Nat} {xs : List Value} (h : w.ownsRow base e k (.slice (some ⟨B, 0, none⟩) n n) n xs) : w.heap[B]? = some (.cells xs.toArray e (0, 0)) := by
  rcases h.2 with ⟨h', _⟩ | ⟨g, cap, cur, h1, _, h2, _, _, h5, h6⟩
  · simp at h'
  · simp only [Value.slice.injEq, Option.some.injEq, Addr.mk.injEq, and_true, true_and] at h1
    obtain ⟨rfl, rfl⟩ := h1
    have : cur.toList = xs := by rw [← h6, List.take_of_length_le (by rw [Array.length_toList, h5]; exact Nat.le_refl _)]
    rw [h2, ← this]
theorem size_rect : (Tryz.prog.info? 70).map (·.size) = some 4 := by kernel_rfl
theorem rcL_len (r : Rc) : (rcL r).length = 4 := rfl
theorem rc_one (l : List Rc) : ∀ v ∈ l.flatMap rcL, v.oneCell' = true := by
  intro v hv
  obtain ⟨r, _, h⟩ := List.mem_flatMap.1 hv
  simp at h
  rcases h with rfl | rfl | rfl | rfl <;> rfl
theorem sl_src {w : World} {A : Option Addr} {c : Nat} {l : List Rc} (h : SlR w A c l) (h0 : 0 < (l.flatMap rcL).length) : ∃ ad, A = some ad ∧ ∀ j v, (l.flatMap rcL)[j]? = some v → w.cell? (ad.add j) = some v := by
  have hl := fm_len rcL_len l
  obtain ⟨r0, hr0⟩ : ∃ r, l[0]? = some r := ⟨_, List.getElem?_eq_getElem (by omega)⟩
  obtain ⟨b, off, rfl, _⟩ := h.at_ hr0
  refine ⟨_, rfl, ?_⟩
  intro j v hj
  have hjl : j < l.length * 4 := by
    have := (List.getElem?_eq_some_iff.1 hj).1
    omega
  obtain ⟨r, hr⟩ : ∃ r, l[j / 4]? = some r := ⟨_, List.getElem?_eq_getElem (by omega)⟩
  have h2 := fm_at rcL_len l (j / 4) r (j % 4) hr (by omega)
  rw [show j / 4 * 4 + j % 4 = j by omega, hj] at h2
  obtain ⟨b', off', hA, x0, x1, x2, x3⟩ := h.at_ hr
  cases hA
  rw [addr_add]
  rcases (by omega : j % 4 = 0 ∨ j % 4 = 1 ∨ j % 4 = 2 ∨ j % 4 = 3) with k | k | k | k <;> rw [k] at h2 <;> simp at h2 <;> subst h2
  · rw [show off + j = off + j / 4 * 4 by omega]; exact x0
  · rw [show off + j = off + j / 4 * 4 + 1 by omega]; exact x1
  · rw [show off + j = off + j / 4 * 4 + 2 by omega]; exact x2
  · rw [show off + j = off + j / 4 * 4 + 3 by omega]; exact x3
theorem sp_1 {zs xs : List Value} : splice zs 0 xs = xs ++ zs.drop xs.length := by simp [splice]
theorem sp_2 {zs xs ys : List Value} (h : zs.length = xs.length + ys.length) : splice (xs ++ zs.drop xs.length) xs.length ys = xs ++ ys := by
  unfold splice
  rw [List.take_left', List.drop_append, List.drop_eq_nil_of_le (by omega), List.nil_append]
  · rw [List.drop_drop, List.drop_eq_nil_of_le (by omega), List.append_nil]
  · rfl
theorem sl_row {w : World} {B : Nat} {l : List Rc} {t : TypeId} (h : w.heap[B]? = some (.cells (l.flatMap rcL).toArray t (0, 0))) : RdL w 4 rcL (some ⟨B, 0, none⟩) l := by
  intro i x hi
  refine ⟨B, 0, rfl, at_of ?_⟩
  intro j v hv
  have hj : j < 4 := (List.getElem?_eq_some_iff.1 hv).1
  have h1 := cell_of_row w B (i * 4 + j) _ t (0, 0) h
  rw [Nat.zero_add, h1]
  have h2 := fm_at rcL_len l i x j hi hj
  simp only [List.getElem?_toArray]
  rw [h2, hv]
set_option maxHeartbeats 2000000 in
set_option maxRecDepth 100000 in
theorem join_any (A : Option Addr) (c : Nat) (l : List Rc) (B : Option Addr) (d : Nat) (m : List Rc) (w : World) (hl : SlR w A c l) (hm : SlR w B d m) (h1 : l.length ≤ 1000) (h2 : m.length ≤ 1000) :
    Calls Tryz.prog 48 #[.slice A l.length c, .slice B m.length d] w fun e w' => ∃ D, e = .returned (.slice D (l ++ m).length (l ++ m).length) ∧ SlR w' D (l ++ m).length (l ++ m) ∧ Gr w w' := by
  obtain ⟨i0, z0, hi0, hz0, hsz0, hby0, hzc0⟩ := elRect.inf
  have n1 := hl.cap
  have n2 := hl.capB
  have n3 := hm.cap
  have n4 := hm.capB
  have HL := hide hl
  have HM := hide hm
  have W1 : IntKind.i64.wrap ((l.length : Int) + (m.length : Int)) = ((l.length + m.length : Nat) : Int) := by rw [IntWalk.i64_in _ (by omega)]; omega
  clear hl hm
  go_enter Tryz.func48, Tryz.ntmps48
  go_upto_region 2 with (refine wpList_make_full w rfl _ _ _ rfl w.heap.size 70 i0 z0 4 elRect.und hi0 hz0 hsz0 .i64 .i64 _ _ (l.length + m.length) rfl rfl rfl rfl (by rw [hby0]; omega) (by unfold maxLen; omega) (Nat.le_refl _) ?_; intro w1 hown1 hg1)
  have g1 : Gr w w1 := Gr.grown (Gr.refl _) hg1 (fun k hk => by cases hk)
  have hrow1 := own_rowN hown1
  have lL := fm_len rcL_len l
  have lM := fm_len rcL_len m
  have HSL := hide (fun (w' : World) (g : Gr w w') => sl_src (HL.out.gr g))
  have HSM := hide (fun (w' : World) (g : Gr w w') => sl_src (HM.out.gr g))
  have HOL := hide (rc_one l)
  have HOM := hide (rc_one m)
  have HFM := hide (show (l ++ m).flatMap rcL = l.flatMap rcL ++ m.flatMap rcL by rw [List.flatMap_append])
  obtain ⟨X, hX⟩ : ∃ X, l.flatMap rcL = X := ⟨_, rfl⟩
  obtain ⟨Y, hY⟩ : ∃ Y, m.flatMap rcL = Y := ⟨_, rfl⟩
  rw [hX] at lL HSL HOL HFM
  rw [hY] at lM HSM HOM HFM
  clear hX hY
  obtain ⟨zs, hzs, hzl⟩ : ∃ zs, (madeCells z0.cells ((l.length + m.length) * 4)).toList = zs ∧ zs.length = X.length + Y.length := ⟨_, rfl, by rw [Array.length_toList, size_madeCells]; omega⟩
  rw [hzs] at hrow1
  obtain ⟨G, hG⟩ : ∃ G, w.heap.size = G := ⟨_, rfl⟩
  have hwG : w.heap.size ≤ G := by omega
  rw [hG] at hrow1
  simp only [hG]
  have HR1 := hide hrow1
  clear hown1 hg1 hrow1 hi0 hz0 hsz0 hby0 hzc0 hzs hG
  go_upto_region 3 with (refine wpList_copyN rfl _ _ _ _ rfl 70 4 (by decide) elRect.und size_rect _ _ _ _ _ _ rfl rfl G 0 zs 70 HR1.out X (by rw [lL]; congr 1; show min _ _ = _; omega) (fun h => ⟨rfl, HSL.out _ g1 h⟩) (by omega) HOL.out w.heap.size w g1 hwG ?_; intro w2 HR2 hb2)
  have HR2' := hide (show w2.heap[G]? = some (.cells (X ++ zs.drop X.length).toArray 70 (0, 0)) by have := HR2.out; rwa [sp_1] at this)
  have hzd : (X ++ zs.drop X.length).length = X.length + Y.length := by rw [List.length_append, List.length_drop]; omega
  have HSP := hide (sp_2 hzl)
  clear HR1 HR2
  obtain ⟨U, hU⟩ : ∃ U, X ++ zs.drop X.length = U := ⟨_, rfl⟩
  rw [hU] at HR2' hzd HSP
  clear hU
  go_wp2_with (refine wpList_copyN rfl _ _ _ _ rfl 70 4 (by decide) elRect.und size_rect _ _ _ _ _ _ rfl rfl G X.length U 70 HR2'.out Y (by rw [lM]; congr 1; show min _ _ = _; omega) (fun h => by exact ⟨by rw [lL]; first | rfl | exact if_neg (by intro e; rw [e, List.length_nil] at lM; omega), HSM.out _ hb2 h⟩) (by omega) HOM.out w.heap.size w hb2 hwG ?_; intro w3 HR3 hb3)
  all_goals
    have hk : SlR w3 (some ⟨G, 0, none⟩) (l ++ m).length (l ++ m) := ⟨sl_row (by rw [HFM.out]; have := HR3.out; rwa [HSP.out] at this), Nat.le_refl _, by rw [List.length_append]; omega⟩
    clear HR3 HSP HFM HR2'
  · subst h
    rw [List.append_nil] at hk
    go_ret
    exact ⟨_, rfl, hk, hb3⟩
  · rw [List.length_append] at hk
    go_ret
    exact ⟨_, rfl, hk, hb3⟩
end RG
end Go.Proofs.YtddhaiaapomdjaaGreat
