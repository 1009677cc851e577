/-
  Best of the reference.
-/
import Derived.Test.YtjdiepnbchcnoaaBst5
import Derived.Test.YtjdiepnbchcnoaaFew3
set_option linter.unusedVariables false
set_option linter.unusedSimpArgs false
namespace Go.Proofs.Ytjdiepnbchcnoaa
set_option linter.unusedVariables false
set_option linter.unusedSimpArgs false
open Go Go.ChangeShapes Go.WideShapes Go.ChangeAt Go.RowKit Go.Deep

theorem dig_len : ∀ n c, (dig n c).length = n
  | 0, _ => rfl
  | n + 1, c => by rw [dig, List.length_append, dig_len]; rfl
def dgt (n c j : Nat) : Nat := c / 4 ^ (n - 1 - j) % 4
theorem dig_at : ∀ {n c j : Nat}, j < n → (dig n c)[j]? = some ((dgt n c j : Nat) : Int)
  | 0, _, _, h => absurd h (Nat.not_lt_zero _)
  | n + 1, c, j, h => by
    unfold dig
    rcases Nat.lt_succ_iff_lt_or_eq.1 h with h | rfl
    · rw [List.getElem?_append_left (by rw [dig_len]; exact h), dig_at h]
      unfold dgt
      rw [Nat.div_div_eq_div_mul, show n + 1 - 1 - j = (n - 1 - j) + 1 by omega, Nat.pow_succ']
    · rw [List.getElem?_append_right (by rw [dig_len]; omega), dig_len]
      unfold dgt
      simp
/-- the last digits are written -/
def dgF (n c k j : Nat) : Value := if k ≤ j then iv (dgt n c j) else iv 0
theorem info_intZ : ∃ i, Try.prog.info? 3 = some i ∧ i.zero = some (iv 0) ∧ i.size = 1 ∧ i.bytes = 8 := by
  have hi : (Try.prog.info? 3).map (fun i => (i.zero, i.size, i.bytes)) = some (some (iv 0), 1, 8) := by kernel_rfl
  cases e1 : Try.prog.info? 3 with
  | none => rw [e1] at hi; cases hi
  | some i =>
    rw [e1] at hi
    simp only [Option.map_some, Option.some.injEq, Prod.mk.injEq] at hi
    exact ⟨i, rfl, hi.1, hi.2.1, hi.2.2⟩
theorem made_i (n j : Nat) (h : j < n * 1) : (madeCells (iv 0).cells (n * 1)).toList[j]? = some (iv 0) := by
  unfold madeCells
  simp only [Array.toList_map, Array.toList_range, List.getElem?_map]
  rw [List.getElem?_range h]
  have h0 : j % 1 = 0 := by omega
  simp [Value.cells, h0]
theorem own_blkI {w : World} {base B n : Nat} {e : TypeId} {d : Nat} {xs : List Value} {v : Value} (h : w.ownsRow base e 1 (.slice (some ⟨B, 0, none⟩) n d) n xs) (hx : ∀ j, j < n * 1 → xs[j]? = some v) (h0 : B < w.heap.size) : Blk w B (fun _ => v) n := by
  refine ⟨h0, fun j hj => ⟨?_, World.ownsRow.frozenAt h j⟩⟩
  rw [World.ownsRow.cellAt h j (by omega), hx j (by omega)]
theorem dg_set {w : World} {B n c k : Nat} (h : Blk w B (dgF n c (k + 1)) n) (hk : k < n) : Blk (w.setCell ⟨B, k, none⟩ (iv (dgt n c k))) B (dgF n c k) n := by
  refine (Blk.set h (iv (dgt n c k)) rfl hk).congr fun i hi => ?_
  unfold dgF
  by_cases e : i = k
  · subst e
    rw [if_pos rfl, if_pos (Nat.le_refl _)]
  · rw [if_neg e]
    by_cases e2 : k ≤ i
    · rw [if_pos e2, if_pos (by omega)]
    · rw [if_neg e2, if_neg (by omega)]
theorem dg_sli {w : World} {B n c : Nat} (h : Blk w B (dgF n c 0) n) (hn : n ≤ 4) : SlI w (some ⟨B, 0, none⟩) n (dig n c) :=
  Blk.sli (Blk.congr h fun i hi => by
    unfold dgF
    rw [if_pos (Nat.zero_le _), List.getD_eq_getElem?_getD, dig_at hi]
    rfl) (dig_len n c) (by omega)
def bsS' (js : List Jb) (q : Nat) (st : List Int × Nat) (c : Nat) : List Int × Nat := match ordC js.length c with | none => st | some o => bsF js q st o
theorem bsS_all {js : List Jb} {q : Nat} (h4 : js.length ≤ 4) (st : List Int × Nat) : (List.range 256).foldl (bsS' js q) st = (exts js.length js.length []).foldl (bsF js q) st := by
  rw [← codes js.length h4, fold_code]
  rfl
theorem bsS_none {js : List Jb} {q C : Nat} {st : List Int × Nat} (h : ordC js.length C = none) : bsS' js q st C = st := by unfold bsS'; rw [h]
theorem bsS_some {js : List Jb} {q C : Nat} {st : List Int × Nat} {o : List Int} (h : ordC js.length C = some o) : bsS' js q st C = bsF js q st o := by unfold bsS'; rw [h]
theorem fold_next {js : List Jb} {q C : Nat} {st st' : List Int × Nat} (h : st = (List.range C).foldl (bsS' js q) ([], 1000)) (e : bsS' js q st C = st') : st' = (List.range (C + 1)).foldl (bsS' js q) ([], 1000) := by
  rw [List.range_succ, List.foldl_append, ← h, ← e]
  rfl
set_option maxRecDepth 100000 in
set_option maxHeartbeats 4000000 in
theorem rBest_any (A : Option Addr) (c : Nat) (js : List Jb) (s : Int) (w : World) (hj : SlJ w A c js) (hwd : wdB js = false) :
    Calls Try.prog 15 #[.slice A js.length c, iv s] w fun e w' => ∃ A' d, e = .returned (bev (.slice A' (beL js s).length d) (beN js s) (beE js s)) ∧ SlI w' A' d (beL js s) ∧ Gr w w' := by
  obtain ⟨hw1, hw2⟩ := wd_ok hwd
  have n1 := hj.cap
  have n2 := hj.capB
  have HV := hide (fun (w' : World) (g : Gr w w') => jobsError_any A c js w' (hj.gr g))
  have HVS := hide (fun w' : World => rwithin_any s 1 3 w')
  have HCT := hide (fun (w' : World) (g : Gr w w') => rtotal_any A c js w' (hj.gr g) (by omega) (fun j hj => (hw2 j hj).1))
  have hT := toN_le (fun j hj => (hw2 j hj).1) js.length
  rw [List.take_length] at hT
  by_cases h0 : joE js = 0
  · have h4 := joE_len h0
    cases hws : wiB s 1 3 with
    | false =>
      have HE := hide (beE_2 h0 hws)
      have HB := hide (be_bad (js := js) (s := s) (by rw [HE.out]; decide))
      rw [h0] at HV
      rw [hws] at HVS
      rw [HE.out, HB.out.1, HB.out.2]
      clear h0 hws hj hwd hw2
      go_enter Try.func15, Try.ntmps15
      go_wp2_with (first | (go_at_call 37; refine (HV.out _ (by repeat (first | with_reducible exact Gr.refl _ | with_reducible assumption | with_reducible refine Gr.alloc ?_ _ | with_reducible refine Gr.drewN ?_ _ | with_reducible refine Gr.drew ?_ | with_reducible refine Gr.setCell ?_ (by first | (dsimp only; omega) | (simp only [World.size_alloc]; omega) | (with_reducible refine Gr.size ?_; (repeat (first | with_reducible exact Gr.refl _ | with_reducible assumption | with_reducible refine Gr.alloc ?_ _ | with_reducible refine Gr.drewN ?_ _ | with_reducible refine Gr.drew ?_ | with_reducible refine Gr.trans ?_ (by with_reducible assumption))); done)) _ | with_reducible refine Gr.trans ?_ (by with_reducible assumption)))).mono ?_; rintro e w1 ⟨rfl, g1⟩; obtain ⟨X1, Y1, c1, f1⟩ := g1.use) | (go_at_call 38; refine (HVS.out _).mono ?_; rintro e w1 ⟨rfl, rfl⟩))
      go_ret3
      exact ⟨none, 0, rfl, sli_nil _, (by repeat (first | with_reducible exact Gr.refl _ | with_reducible assumption | with_reducible refine Gr.alloc ?_ _ | with_reducible refine Gr.drewN ?_ _ | with_reducible refine Gr.drew ?_ | with_reducible refine Gr.setCell ?_ (by first | (dsimp only; omega) | (simp only [World.size_alloc]; omega) | (with_reducible refine Gr.size ?_; (repeat (first | with_reducible exact Gr.refl _ | with_reducible assumption | with_reducible refine Gr.alloc ?_ _ | with_reducible refine Gr.drewN ?_ _ | with_reducible refine Gr.drew ?_ | with_reducible refine Gr.trans ?_ (by with_reducible assumption))); done)) _ | with_reducible refine Gr.trans ?_ (by with_reducible assumption)))⟩
    | true =>
      by_cases ht : 24 < toN js
      · have HE := hide (beE_3 h0 hws ht)
        have HB := hide (be_bad (js := js) (s := s) (by rw [HE.out]; decide))
        have hd : decide ((toN js : Int) > 24) = true := by rw [decide_eq_true_eq]; omega
        rw [h0] at HV
        rw [hws] at HVS
        rw [HE.out, HB.out.1, HB.out.2]
        clear h0 hws hj hwd hw2
        go_enter Try.func15, Try.ntmps15
        go_wp2_with (first | (go_at_call 37; refine (HV.out _ (by repeat (first | with_reducible exact Gr.refl _ | with_reducible assumption | with_reducible refine Gr.alloc ?_ _ | with_reducible refine Gr.drewN ?_ _ | with_reducible refine Gr.drew ?_ | with_reducible refine Gr.setCell ?_ (by first | (dsimp only; omega) | (simp only [World.size_alloc]; omega) | (with_reducible refine Gr.size ?_; (repeat (first | with_reducible exact Gr.refl _ | with_reducible assumption | with_reducible refine Gr.alloc ?_ _ | with_reducible refine Gr.drewN ?_ _ | with_reducible refine Gr.drew ?_ | with_reducible refine Gr.trans ?_ (by with_reducible assumption))); done)) _ | with_reducible refine Gr.trans ?_ (by with_reducible assumption)))).mono ?_; rintro e w1 ⟨rfl, g1⟩; obtain ⟨X1, Y1, c1, f1⟩ := g1.use) | (go_at_call 38; refine (HVS.out _).mono ?_; rintro e w1 ⟨rfl, rfl⟩) | (go_at_call 39; refine (HCT.out _ (by repeat (first | with_reducible exact Gr.refl _ | with_reducible assumption | with_reducible refine Gr.alloc ?_ _ | with_reducible refine Gr.drewN ?_ _ | with_reducible refine Gr.drew ?_ | with_reducible refine Gr.setCell ?_ (by first | (dsimp only; omega) | (simp only [World.size_alloc]; omega) | (with_reducible refine Gr.size ?_; (repeat (first | with_reducible exact Gr.refl _ | with_reducible assumption | with_reducible refine Gr.alloc ?_ _ | with_reducible refine Gr.drewN ?_ _ | with_reducible refine Gr.drew ?_ | with_reducible refine Gr.trans ?_ (by with_reducible assumption))); done)) _ | with_reducible refine Gr.trans ?_ (by with_reducible assumption)))).mono ?_; rintro e w1 ⟨rfl, rfl⟩))
        go_ret3
        exact ⟨none, 0, rfl, sli_nil _, (by repeat (first | with_reducible exact Gr.refl _ | with_reducible assumption | with_reducible refine Gr.alloc ?_ _ | with_reducible refine Gr.drewN ?_ _ | with_reducible refine Gr.drew ?_ | with_reducible refine Gr.setCell ?_ (by first | (dsimp only; omega) | (simp only [World.size_alloc]; omega) | (with_reducible refine Gr.size ?_; (repeat (first | with_reducible exact Gr.refl _ | with_reducible assumption | with_reducible refine Gr.alloc ?_ _ | with_reducible refine Gr.drewN ?_ _ | with_reducible refine Gr.drew ?_ | with_reducible refine Gr.trans ?_ (by with_reducible assumption))); done)) _ | with_reducible refine Gr.trans ?_ (by with_reducible assumption)))⟩
      · have hq := wiB_iff.1 hws
        obtain ⟨q, rfl⟩ : ∃ q : Nat, s = q := ⟨s.toNat, by omega⟩
        have HE := hide (beE_4 h0 hws ht)
        have HB := hide (show beL js (q : Int) = (bsR js q).1 ∧ beN js (q : Int) = (bsR js q).2 by unfold beL beN; rw [if_pos HE.out, if_pos HE.out]; exact ⟨rfl, rfl⟩)
        have HFS := hide (show (List.range 256).foldl (bsS' js q) ([], 1000) = bsR js q by rw [bsS_all h4]; exact fold_start (a := []) (b := []) h0 (by omega) (by omega) (by decide))
        have hd : decide ((toN js : Int) > 24) = false := by rw [decide_eq_false_iff_not]; omega
        have HPM := hide (fun (B : Nat) (l : List Int) (w' : World) (hl : SlI w' (some ⟨B, 0, none⟩) js.length l) => permutation_any (some ⟨B, 0, none⟩) js.length l js.length w' hl h4)
        have HJN := hide (fun (B : Nat) (l : List Int) (w' : World) (g : Gr w w') (hl : SlI w' (some ⟨B, 0, none⟩) js.length l) (hp : pmB l js.length = true) => rjoin_any A c js (some ⟨B, 0, none⟩) js.length l w' (hj.gr g) hl hwd h4 hp)
        have HJK := hide (fun (l : List Int) (xs : List Nd) (hp : pmB l js.length = true) (hx : xs.map (·.l) = jnL js l) => vaE_ok (jn_ok h0 hp (by omega) hx))
        obtain ⟨iz, hi, hz, hsz, hby⟩ := info_intZ
        rw [h0] at HV
        rw [hws] at HVS
        rw [HE.out, HB.out.1, HB.out.2]
        clear h0 hws hj hwd hw2
        go_enter Try.func15, Try.ntmps15
        go_wp2_with (first | (go_at_call 37; refine (HV.out _ (by repeat (first | with_reducible exact Gr.refl _ | with_reducible assumption | with_reducible refine Gr.alloc ?_ _ | with_reducible refine Gr.drewN ?_ _ | with_reducible refine Gr.drew ?_ | with_reducible refine Gr.setCell ?_ (by first | (dsimp only; omega) | (simp only [World.size_alloc]; omega) | (with_reducible refine Gr.size ?_; (repeat (first | with_reducible exact Gr.refl _ | with_reducible assumption | with_reducible refine Gr.alloc ?_ _ | with_reducible refine Gr.drewN ?_ _ | with_reducible refine Gr.drew ?_ | with_reducible refine Gr.trans ?_ (by with_reducible assumption))); done)) _ | with_reducible refine Gr.trans ?_ (by with_reducible assumption)))).mono ?_; rintro e w1 ⟨rfl, g1⟩; obtain ⟨X1, Y1, c1, f1⟩ := g1.use) | (go_at_call 38; refine (HVS.out _).mono ?_; rintro e w1 ⟨rfl, rfl⟩) | (go_at_call 39; refine (HCT.out _ (by repeat (first | with_reducible exact Gr.refl _ | with_reducible assumption | with_reducible refine Gr.alloc ?_ _ | with_reducible refine Gr.drewN ?_ _ | with_reducible refine Gr.drew ?_ | with_reducible refine Gr.setCell ?_ (by first | (dsimp only; omega) | (simp only [World.size_alloc]; omega) | (with_reducible refine Gr.size ?_; (repeat (first | with_reducible exact Gr.refl _ | with_reducible assumption | with_reducible refine Gr.alloc ?_ _ | with_reducible refine Gr.drewN ?_ _ | with_reducible refine Gr.drew ?_ | with_reducible refine Gr.trans ?_ (by with_reducible assumption))); done)) _ | with_reducible refine Gr.trans ?_ (by with_reducible assumption)))).mono ?_; rintro e w1 ⟨rfl, rfl⟩))
        go_loopw [9, 10, 11] (fun b m i wr => ∃ (C : Nat) (st : List Int × Nat) (Ab : Option Addr) (d : Nat), C ≤ 256 ∧ i = iv C ∧ b = .slice Ab st.1.length d ∧ m = iv st.2 ∧ Gr w wr ∧ Hid (SlI wr Ab d st.1 ∧ st = (List.range C).foldl (bsS' js q) ([], 1000))) (fun _ _ i _ => 256 - (intOf i).toNat)
        case atStart => exact ⟨0, ([], 1000), none, 0, by omega, rfl, rfl, rfl, (by repeat (first | with_reducible exact Gr.refl _ | with_reducible assumption | with_reducible refine Gr.alloc ?_ _ | with_reducible refine Gr.drewN ?_ _ | with_reducible refine Gr.drew ?_ | with_reducible refine Gr.setCell ?_ (by first | (dsimp only; omega) | (simp only [World.size_alloc]; omega) | (with_reducible refine Gr.size ?_; (repeat (first | with_reducible exact Gr.refl _ | with_reducible assumption | with_reducible refine Gr.alloc ?_ _ | with_reducible refine Gr.drewN ?_ _ | with_reducible refine Gr.drew ?_ | with_reducible refine Gr.trans ?_ (by with_reducible assumption))); done)) _ | with_reducible refine Gr.trans ?_ (by with_reducible assumption))), hide ⟨sli_nil _, rfl⟩⟩
        case round =>
          obtain ⟨C, st, Ab, d, hC, rfl, rfl, rfl, g, HS⟩ := hrel
          by_cases hCl : C < 256
          · have hC' : decide ((C : Int) < 256) = true := by rw [decide_eq_true_eq]; omega
            obtain ⟨wo, rfl⟩ : ∃ wo, wo = wr := ⟨_, rfl⟩
            have W0 : IntKind.i64.wrap ((js.length : Int) - 1) = (js.length : Int) - 1 := IntWalk.i64_in _ (by omega)
            go_wp2_with (refine wpList_make_full wo rfl _ _ _ rfl wo.heap.size 3 iz (iv 0) 1 elInt.und hi hz hsz .i64 .i64 _ _ js.length rfl rfl rfl rfl (by rw [hby]; omega) (by unfold maxLen; omega) (Nat.le_refl _) ?_; intro w5 hown5 hg5)
            have g5 : Gr wo w5 := Gr.grown (Gr.refl _) hg5 (fun k hk => by cases hk)
            have sB := (World.ownsRow.lt hown5 _ rfl).2
            have HB5 := hide (show Blk w5 wo.heap.size (dgF js.length C js.length) js.length from Blk.congr (own_blkI hown5 (fun j hj => made_i js.length j hj) sB) (fun i hi => by unfold dgF; rw [if_neg (by omega)]))
            clear hown5 hg5
            obtain ⟨B, hB⟩ : ∃ B, wo.heap.size = B := ⟨_, rfl⟩
            have hBw : w.heap.size ≤ B := by have := g.size; omega
            have hBo : wo.heap.size ≤ B := by omega
            rw [hB] at HB5 sB
            simp only [hB]
            clear hB
            go_loopw [13, 14] (fun r i wr => ∃ k : Nat, k ≤ js.length ∧ i = .int .i64 ((k : Int) - 1) ∧ r = iv (C / 4 ^ (js.length - k) : Nat) ∧ Gr wo wr ∧ Hid (Blk wr B (dgF js.length C k) js.length)) (fun _ i _ => (intOf i + 1).toNat)
            case atStart => exact ⟨js.length, by omega, rfl, by simp, g5, HB5⟩
            case round =>
              clear HB5 g5 sB
              obtain ⟨k, hk, rfl, rfl, g2, HD⟩ := hrel
              by_cases hk0 : k = 0
              · subst hk0
                rw [show js.length - 0 = js.length by omega]
                have gwr : Gr w wr := g.trans g2
                have hbl := HD.out.1
                have HSL := hide (fun (w' : World) (g' : Gr wr w') => (dg_sli HD.out h4).gr g')
                by_cases hR : C / 4 ^ js.length > 0
                · have HN := hide (bsS_none (js := js) (q := q) (C := C) (st := st) (show ordC js.length C = none by unfold ordC; rw [if_pos (.inl hR)]))
                  have HFN := hide (fold_next HS.out.2 HN.out)
                  generalize C / 4 ^ js.length = R at *
                  have hd1 : decide ((R : Int) > 0) = true := by rw [decide_eq_true_eq]; omega
                  have hd2 : decide (0 < (R : Int)) = true := by rw [decide_eq_true_eq]; omega
                  have hd3 : decide (0 < R) = true := by rw [decide_eq_true_eq]; omega
                  clear hR
                  go_wp2
                  go_roundw
                  case rel => exact ⟨C + 1, st, Ab, d, by omega, by go_num, rfl, rfl, gwr, hide ⟨HS.out.1.gr g2, HFN.out⟩⟩
                  case measure => simp only [intOf]; omega
                · rw [Nat.eq_zero_of_not_pos hR]
                  have HP := hide (by
                    have := HPM.out B (dig js.length C) wr (HSL.out wr (Gr.refl _))
                    rw [dig_len] at this
                    exact this)
                  cases hp : pmB (dig js.length C) js.length with
                  | false =>
                    have HN := hide (bsS_none (js := js) (q := q) (C := C) (st := st) (show ordC js.length C = none by unfold ordC; rw [if_pos (.inr hp)]))
                    have HFN := hide (fold_next HS.out.2 HN.out)
                    rw [hp] at HP
                    clear hp hR
                    go_wp2_with (first | (go_at_call 40; refine (HP.out).mono ?_; rintro e w1 ⟨rfl, g1⟩; obtain ⟨X1, Y1, c1, f1⟩ := g1.use))
                    go_roundw
                    case rel => exact ⟨C + 1, st, Ab, d, by omega, by go_num, rfl, rfl, gwr.trans g1, hide ⟨HS.out.1.gr (g2.trans g1), HFN.out⟩⟩
                    case measure => simp only [intOf]; omega
                  | true =>
                    have HN := hide (bsS_some (js := js) (q := q) (C := C) (st := st) (show ordC js.length C = some (dig js.length C) by unfold ordC; rw [if_neg (by rintro (h | h); exact hR h; rw [hp] at h; cases h)]))
                    have HJ := hide (fun (w' : World) (g' : Gr wr w') => by
                      have := HJN.out B (dig js.length C) w' (gwr.trans g') (HSL.out w' g') hp
                      rw [dig_len] at this
                      exact this)
                    have HVX := hide (fun xs hx => HJK.out (dig js.length C) xs hp hx)
                    have hq1 : 1 ≤ q := by omega
                    have hq3 : q ≤ 3 := by omega
                    rw [hp] at HP
                    clear hp hR HPM HJN HJK
                    go_wp2_with (first | (go_at_call 40; refine (HP.out).mono ?_; rintro e w1 ⟨rfl, g1⟩; obtain ⟨X1, Y1, c1, f1⟩ := g1.use))
                    refine (HJ.out _ g1).mono ?_
                    rintro e w7 ⟨A7, d7, xs, rfl, hxs, hO7, g7⟩
                    have hxv := HVX.out xs hxs
                    have HFW := hide (fewest_any A7 d7 xs q w7 hO7.sln hxv.2 hxv.1 hq1 hq3)
                    rw [mks_R hxs, show LS.outl q ((jnL js (dig js.length C)).map mk) 0 = leR q (jnL js (dig js.length C)) from rfl] at HFW
                    have HF := hide (show bsS' js q st C = if leR q (jnL js (dig js.length C)) < st.2 then (dig js.length C, leR q (jnL js (dig js.length C))) else st from HN.out)
                    clear hxs hO7 hxv
                    generalize leR q (jnL js (dig js.length C)) = m at *
                    by_cases hlt : m < st.2
                    · have hlt' : decide (m < st.2) = true := decide_eq_true hlt
                      have HFN := hide (fold_next HS.out.2 (show bsS' js q st C = (dig js.length C, m) by rw [HF.out, if_pos hlt]))
                      clear hlt HF HN
                      go_wp2_with fail
                      refine HFW.out.mono ?_
                      rintro e w8 ⟨rfl, g8⟩
                      go_wp2
                      go_roundw
                      case rel => exact ⟨C + 1, (dig js.length C, m), some ⟨B, 0, none⟩, js.length, by omega, by go_num, by rw [dig_len], rfl, ((gwr.trans g1).trans g7).trans g8, hide ⟨HSL.out _ ((g1.trans g7).trans g8), HFN.out⟩⟩
                      case measure => simp only [intOf]; omega
                    · have hlt' : decide (m < st.2) = false := decide_eq_false hlt
                      have HFN := hide (fold_next HS.out.2 (show bsS' js q st C = st by rw [HF.out, if_neg hlt]))
                      clear hlt HF HN
                      go_wp2_with fail
                      refine HFW.out.mono ?_
                      rintro e w8 ⟨rfl, g8⟩
                      go_wp2
                      go_roundw
                      case rel => exact ⟨C + 1, st, Ab, d, by omega, by go_num, rfl, rfl, ((gwr.trans g1).trans g7).trans g8, hide ⟨HS.out.1.gr (((g2.trans g1).trans g7).trans g8), HFN.out⟩⟩
                      case measure => simp only [intOf]; omega
              · obtain ⟨t, rfl⟩ : ∃ t, k = t + 1 := ⟨k - 1, by omega⟩
                have htn : t < js.length := by omega
                rw [show ((t + 1 : Nat) : Int) - 1 = (t : Int) by omega]
                have HR1 := hide (show C / 4 ^ (js.length - (t + 1)) % 4 = dgt js.length C t by unfold dgt; rw [show js.length - (t + 1) = js.length - 1 - t by omega])
                have HR2 := hide (show C / 4 ^ (js.length - (t + 1)) / 4 = C / 4 ^ (js.length - t) by rw [Nat.div_div_eq_div_mul, ← Nat.pow_succ, show (js.length - (t + 1)).succ = js.length - t by omega])
                have hRl : C / 4 ^ (js.length - (t + 1)) ≤ C := Nat.div_le_self _ _
                generalize C / 4 ^ (js.length - (t + 1)) = R at *
                have hb0 := (HD.out.2 t htn).1
                have hb1 := (HD.out.2 t htn).2
                have hb2 := HD.out.1
                have ht0 : (0 : Int) ≤ (t : Int) := by omega
                have ht1 : (t : Int) < (js.length : Int) := by omega
                have e1 := hide (show (R : Int) % 4 = ((dgt js.length C t : Nat) : Int) by rw [← HR1.out]; simp)
                have e2 := hide (show (R : Int) / 4 = ((C / 4 ^ (js.length - t) : Nat) : Int) by rw [← HR2.out]; simp)
                have HD' := hide (dg_set HD.out htn)
                clear HR1 HR2
                go_wp2
                go_roundw
                case rel => exact ⟨t, by omega, rfl, by rw [← e2.out], Gr.setCell g2 (by dsimp only; omega) _, hide (by first | exact HD'.out | (rw [e1.out]; exact HD'.out))⟩
                case measure => simp only [intOf]; omega
          · obtain rfl : C = 256 := by omega
            have HFF := hide (show st = bsR js q by rw [HS.out.2, HFS.out])
            go_wp2
            go_ret3
            exact ⟨Ab, d, by rw [← HFF.out]; rfl, by rw [← HFF.out]; exact HS.out.1, (by repeat (first | with_reducible exact Gr.refl _ | with_reducible assumption | with_reducible refine Gr.alloc ?_ _ | with_reducible refine Gr.drewN ?_ _ | with_reducible refine Gr.drew ?_ | with_reducible refine Gr.setCell ?_ (by first | (dsimp only; omega) | (simp only [World.size_alloc]; omega) | (with_reducible refine Gr.size ?_; (repeat (first | with_reducible exact Gr.refl _ | with_reducible assumption | with_reducible refine Gr.alloc ?_ _ | with_reducible refine Gr.drewN ?_ _ | with_reducible refine Gr.drew ?_ | with_reducible refine Gr.trans ?_ (by with_reducible assumption))); done)) _ | with_reducible refine Gr.trans ?_ (by with_reducible assumption)))⟩
  · have HE := hide (beE_1 (s := s) h0)
    have HB := hide (be_bad (js := js) (s := s) (by rw [HE.out]; exact h0))
    have h1 : (joE js != 0) = true := by simpa using h0
    rw [HE.out, HB.out.1, HB.out.2]
    generalize joE js = e0 at *
    clear h0 hj hwd hw2
    go_enter Try.func15, Try.ntmps15
    go_wp2_with (first | (go_at_call 37; refine (HV.out _ (by repeat (first | with_reducible exact Gr.refl _ | with_reducible assumption | with_reducible refine Gr.alloc ?_ _ | with_reducible refine Gr.drewN ?_ _ | with_reducible refine Gr.drew ?_ | with_reducible refine Gr.setCell ?_ (by first | (dsimp only; omega) | (simp only [World.size_alloc]; omega) | (with_reducible refine Gr.size ?_; (repeat (first | with_reducible exact Gr.refl _ | with_reducible assumption | with_reducible refine Gr.alloc ?_ _ | with_reducible refine Gr.drewN ?_ _ | with_reducible refine Gr.drew ?_ | with_reducible refine Gr.trans ?_ (by with_reducible assumption))); done)) _ | with_reducible refine Gr.trans ?_ (by with_reducible assumption)))).mono ?_; rintro e w1 ⟨rfl, g1⟩; obtain ⟨X1, Y1, c1, f1⟩ := g1.use))
    go_ret3
    exact ⟨none, 0, rfl, sli_nil _, (by repeat (first | with_reducible exact Gr.refl _ | with_reducible assumption | with_reducible refine Gr.alloc ?_ _ | with_reducible refine Gr.drewN ?_ _ | with_reducible refine Gr.drew ?_ | with_reducible refine Gr.setCell ?_ (by first | (dsimp only; omega) | (simp only [World.size_alloc]; omega) | (with_reducible refine Gr.size ?_; (repeat (first | with_reducible exact Gr.refl _ | with_reducible assumption | with_reducible refine Gr.alloc ?_ _ | with_reducible refine Gr.drewN ?_ _ | with_reducible refine Gr.drew ?_ | with_reducible refine Gr.trans ?_ (by with_reducible assumption))); done)) _ | with_reducible refine Gr.trans ?_ (by with_reducible assumption)))⟩
end Go.Proofs.Ytjdiepnbchcnoaa
