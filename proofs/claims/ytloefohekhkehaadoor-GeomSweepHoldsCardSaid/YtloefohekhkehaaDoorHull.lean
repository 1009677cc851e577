/-
  hull at points: a way around.
-/
import Derived.Test.YtloefohekhkehaaDoorChain
import Derived.Test.YtloefohekhkehaaDoorHullF
import Derived.Deep.AppendLies
import Derived.Deep.RegionHeld3
namespace Go.Proofs.YtloefohekhkehaaDoor
set_option linter.unusedVariables false
set_option linter.unusedSimpArgs false
open Go Go.ChangeShapes Go.WideShapes Go.ChangeAt Go.RowKit Go.Deep

theorem G.scan_two {s : List G.V} (hs : s.Pairwise G.L) (h : 2 ≤ s.length) : 2 ≤ (G.scan s).length ∧ 2 ≤ (G.scan s.reverse).length := by
  match s, h with
  | x :: y :: s, _ =>
    obtain ⟨m, t, e1, l1, _, _, _, r, a, l5, l6, _⟩ := G.lower (by simp) hs
    obtain ⟨b, u, e2, u1, _, _, _, _, q, n, u6, u7⟩ := G.upper (by simp) hs
    have hxy : G.L x y := by rw [List.pairwise_cons] at hs; exact hs.1 y (by simp)
    have key : ∀ z, G.Le z x → G.Le y z → False := fun z h1 h2 => ((hxy.le_l h2).le_l h1).irrefl
    constructor
    · rw [e1]
      cases t with
      | nil =>
        have : r = [] := by cases r with | nil => rfl | cons _ r => simp at l5
        subst this
        simp at l5
        subst l5
        exact (key m (l6 x (by simp)) (l1 y (by simp))).elim
      | cons _ _ => simp
    · rw [e2]
      cases u with
      | nil =>
        have : q = [] := by cases q with | nil => rfl | cons _ q => simp at u6
        subst this
        simp at u6
        subst u6
        exact (key b (u1 x (by simp)) (u7 y (by simp))).elim
      | cons _ _ => simp
def hullP (s : List Pt) : List Pt := if s.length = 1 then s else (scanP s).reverse.dropLast ++ (scanP s.reverse).reverse.dropLast
theorem hullP_map (s : List Pt) : (hullP s).map vOf = G.hullOf (s.map vOf) := by
  unfold hullP G.hullOf
  rw [List.length_map]
  by_cases c : s.length = 1
  · rw [if_pos c, if_pos c]
  · rw [if_neg c, if_neg c, List.map_append, ← List.map_reverse, ← scanP_map, ← scanP_map, ← List.map_reverse, ← List.map_reverse, ← List.map_dropLast, ← List.map_dropLast]
theorem own_other {a b : World} {base : Nat} {v : Value} {xs : List Pt} (h : Own a base v xs) {g : Nat} (hg : g < base) (hk : ∀ k, k < a.heap.size → k ≠ g → b.heap[k]? = a.heap[k]?) : Own b base v xs := by
  obtain ⟨h1, h2⟩ := h
  refine ⟨h1, ?_⟩
  rcases h2 with h2 | ⟨k, cap, cur, e, hb, hh, h3⟩
  · exact .inl h2
  · exact .inr ⟨k, cap, cur, e, hb, by rw [hk k (Array.getElem?_eq_some_iff.1 hh).1 (by omega)]; exact hh, h3⟩
theorem OwnAt.rd {w : World} {base g cap : Nat} {xs : List Pt} (h : OwnAt w base g cap xs) : Rd w (some ⟨g, 0, none⟩) xs := (Own.rd (n := xs.length) (c := cap) h).2
theorem own_dropLast {w : World} {base g cap : Nat} {xs : List Pt} (h : OwnAt w base g cap xs) : OwnAt w base g cap xs.dropLast := by
  by_cases c : xs = []
  · subst c; exact h
  · rw [← List.dropLast_concat_getLast c] at h
    exact h.pop
theorem OwnAt.news {w : World} {base g cap : Nat} {xs : List Pt} (h : OwnAt w base g cap xs) : ∀ j u, (flat xs)[j]? = some u → w.cell? ((⟨g, 0, none⟩ : Addr).add j) = some u := World.ownsRow.cells h rfl
theorem flat_one (xs : List Pt) : ∀ u ∈ flat xs, u.oneCell' = true := by
  intro u hu
  simp only [flat, List.mem_flatMap] at hu
  obtain ⟨p, _, hu⟩ := hu
  simp at hu
  rcases hu with rfl | rfl | rfl | rfl <;> rfl

theorem chain_pts (A : Option Addr) (c : Nat) (xs : List Pt) (w : World) (hx : Rd w A xs) (hp : ∀ p ∈ xs, PIn p) (lx : xs.length ≤ 1000000) (h2 : 2 ≤ (scanP xs).length) :
    Calls Tryd.prog 25 #[.slice A xs.length c] w fun e w' => ∃ g cap zs, e = .returned (.slice (some ⟨g, 0, none⟩) zs.length cap) ∧ zs = (scanP xs).reverse ∧ OwnAt w' w.heap.size g cap zs ∧ Gr w w' ∧ zs.length ≤ cap ∧ cap ≤ maxLen ∧ 2 ≤ zs.length ∧ zs.length ≤ xs.length := by
  refine (chain_any A c xs w hx hp lx).mono ?_
  rintro e w' ⟨v, rfl, ho, hg⟩
  obtain ⟨g, cap, rfl, h3, h4, h5⟩ := ho.form (by simp; omega)
  exact ⟨g, cap, _, rfl, rfl, h3, hg, h4, h5, by simpa using h2, by simpa using scanP_len xs⟩
theorem OwnAt.mono {w : World} {b b' g cap : Nat} {xs : List Pt} (h : OwnAt w b g cap xs) (hb : b' ≤ b) : OwnAt w b' g cap xs := by
  obtain ⟨h1, h2⟩ := h
  refine ⟨h1, ?_⟩
  rcases h2 with h2 | ⟨k, c, cur, e, hh, h3⟩
  · exact .inl h2
  · exact .inr ⟨k, c, cur, e, by omega, h3⟩

set_option maxHeartbeats 200000 in
set_option maxRecDepth 100000 in
theorem hull_any (A : Option Addr) (c : Nat) (xs : List Pt) (w : World) (hx : Rd w A xs) (hp : ∀ p ∈ xs, PIn p) (h0 : 0 < xs.length) (lx : xs.length ≤ 1000) :
    Calls Tryd.prog 13 #[.slice A xs.length c] w fun e w' => ∃ v ys, e = .returned v ∧ Own w' w.heap.size v ys ∧ Gr w w' ∧ ∃ a t, ys = a :: t ∧ G.Run (xs.map vOf) (vOf a) (t.map vOf) := by
  obtain ⟨i0, hi0, hz0, hz1, hz2⟩ := info_parts infoPt
  have HX := hide hx
  have HP := hide hp
  have H0 := hide h0
  clear hx hp h0
  go_enter Tryd.func13, Tryd.ntmps13
  go_upto_region 2 with (go_at_call 23; refine (sortUnique_any _ _ _ _ HX.out HP.out H0.out (by omega)).mono ?_; rintro e w1 ⟨g, cap, ys, rfl, ho, g1, hs, hm, hl⟩; (have HO := hide ho); (have HS := hide hs); (have HM := hide hm); clear ho hs hm)
  have HN : Hid (ys ≠ []) := by
    intro e
    subst e
    obtain ⟨x, hx⟩ := List.exists_mem_of_length_pos H0.out
    have := (HM.out x).2 hx
    simp at this
  have hrun : ∃ a t, hullP ys = a :: t ∧ G.Run (xs.map vOf) (vOf a) (t.map vOf) := by
    obtain ⟨a, t, e, r⟩ := G.hullOf_run (s := ys.map vOf) (by simpa using HN.out) HS.out
    rw [← hullP_map] at e
    have r' := r.congr (k := xs.map vOf) (fun x => by
      simp only [List.mem_map]
      exact ⟨fun ⟨p, h1, h2⟩ => ⟨p, (HM.out p).2 h1, h2⟩, fun ⟨p, h1, h2⟩ => ⟨p, (HM.out p).1 h1, h2⟩⟩)
    cases hh : hullP ys with
    | nil => rw [hh] at e; cases e
    | cons p q =>
      rw [hh] at e
      rw [List.map_cons] at e
      injection e with e1 e2
      exact ⟨p, q, rfl, by rw [e1, e2]; exact r'⟩
  have HR := hide hrun
  clear hrun
  by_cases hone : ys.length = 1
  · have hh : hullP ys = ys := by unfold hullP; rw [if_pos hone]
    have HH := hide hh
    have hob : (((ys.length : Int) == 1) = true) := by simp [hone]
    clear hh
    go_wp2
    go_ret
    exact ⟨_, _, rfl, HO.out.own, g1, by rw [← HH.out]; exact HR.out⟩
  · have hob : (((ys.length : Int) == 1) = false) := by simp; omega
    have htwo : 2 ≤ ys.length := by
      have := List.length_pos_iff.2 HN.out
      omega
    obtain ⟨t1, t2⟩ := G.scan_two HS.out (by simpa using htwo)
    rw [← scanP_map, List.length_map] at t1
    rw [← List.map_reverse, ← scanP_map, List.length_map] at t2
    have HPY : Hid (∀ p ∈ ys, PIn p) := fun p h => HP.out p ((HM.out p).1 h)
    have HPR : Hid (∀ p ∈ ys.reverse, PIn p) := fun p h => HPY.out p (by simpa using h)
    have HLR : Hid (ys.reverse.length = ys.length) := List.length_reverse
    have HLY : Hid (ys.length ≤ 1000000) := Nat.le_trans hl (by omega)
    have HLZ : Hid (ys.reverse.length ≤ 1000000) := by rw [HLR.out]; exact HLY.out
    have HT1 := hide t1
    have HT2 := hide t2
    clear t1 t2
    have hc1 := chain_pts _ cap _ _ HO.out.rd HPY.out HLY.out HT1.out
    go_upto_region 5 with (go_at_call 25; refine hc1.mono ?_; rintro e w2 ⟨gl, cl, lo, rfl, hlo, hol, g2, hl1, hl2, hl3, hl4⟩; (have HLO := hide hlo); (have HOL := hide hol); clear hlo hol)
    go_upto_region 6 with (go_at_call 26; refine (reverse_pts g cap ys w2 w (HO.out.own.gr g2) (g1.trans g2) HPY.out HLY.out).mono ?_; rintro e w3 ⟨rfl, hor, g3, hk⟩; (have HOR := hide hor); (have HOL3 := hide (own_other HOL.out HO.out.lt.2 hk)); clear hor hk)
    have hc2 := chain_pts _ cap _ _ HOR.out.rd HPR.out HLZ.out HT2.out
    rw [HLR.out] at hc2
    go_upto_region 7 with (go_at_call 25; refine hc2.mono ?_; rintro e w4 ⟨gu, cu, up, rfl, hup, hou, g4, hu1, hu2, hu3, hu4⟩; (have HUP := hide hup); (have HOU := hide hou); clear hup hou)
    have hg4 := g3.trans g4
    have hlo4 : OwnAt w4 w.heap.size gl cl lo.dropLast := own_dropLast (OwnAt.mono (Own.gr HOL3.out g4) g1.size)
    have hup4 := own_dropLast HOU.out
    have dl : lo.dropLast.length = lo.length - 1 := by simp
    have du : up.dropLast.length = up.length - 1 := by simp
    have hA : w4.ownsRow w.heap.size 34 4 (.slice (some ⟨gl, 0, none⟩) (lo.length - 1) cl) (lo.length - 1) (flat lo.dropLast) := by rw [← dl]; exact hlo4
    have HA := hide hA
    have HB : Hid ((flat up.dropLast).length = (up.length - 1) * 4) := by unfold Hid; rw [flat_length, du]
    have HC := hide hup4.news
    have HD := hide (flat_one up.dropLast)
    have HE : Hid (lo.length - 1 + (up.length - 1) ≤ maxLen) := by unfold Hid maxLen; have := HLR.out; omega
    have HF : Hid ((lo.length - 1 + (up.length - 1)) * 32 ≤ 140737488355328) := by unfold Hid; have := HLR.out; omega
    have HG : Hid (w.heap.size ≤ w4.heap.size) := hg4.size
    have i1 : lo.length - 1 ≤ cl := by omega
    have j1 : up.length - 1 ≤ cu := by omega
    have HLL : Hid (lo.length - 1 ≤ 1000) := by unfold Hid; omega
    have HUU : Hid (up.length - 1 ≤ 1000) := by unfold Hid; have := HLR.out; omega
    have hll2 : 1 ≤ lo.length - 1 := by omega
    have huu2 : 1 ≤ up.length - 1 := by omega
    have HHL : Hid ((hullP ys).length = lo.length - 1 + (up.length - 1)) := by unfold Hid hullP; rw [if_neg hone, ← HLO.out, ← HUP.out]; simp
    obtain ⟨n1, hn1⟩ : ∃ n1, lo.length = n1 + 1 := ⟨lo.length - 1, by omega⟩
    obtain ⟨n2, hn2⟩ : ∃ n2, up.length = n2 + 1 := ⟨up.length - 1, by omega⟩
    have e1 : lo.length - 1 = n1 := by omega
    have e2 : up.length - 1 = n2 := by omega
    clear hl1 hu1 hl4 hu4 hl3 hu3
    clear hlo4 hup4 dl du hA hc1 hc2 HOL HOL3 HOU
    rw [e1] at i1 HLL hll2 HHL HA HE HF
    rw [e2] at j1 HUU huu2 HHL HB HE HF
    rw [hn1, hn2]
    clear e1 e2
    have i2 : IntKind.i64.wrap (((n1 + 1 : Nat) : Int) - 1) = (n1 : Int) := by rw [show ((n1 + 1 : Nat) : Int) - 1 = (n1 : Int) by omega]; exact IntWalk.i64_in _ (by have := HLL.out; omega)
    have i3 : IntKind.i64.wrap ((n1 : Int) + 1 - 1) = (n1 : Int) := by rw [show (n1 : Int) + 1 - 1 = (n1 : Int) by omega]; exact IntWalk.i64_in _ (by have := HLL.out; omega)
    have i4 : IntKind.i64.wrap (n1 : Int) = (n1 : Int) := IntWalk.i64_in _ (by have := HLL.out; omega)
    have j2 : IntKind.i64.wrap (((n2 + 1 : Nat) : Int) - 1) = (n2 : Int) := by rw [show ((n2 + 1 : Nat) : Int) - 1 = (n2 : Int) by omega]; exact IntWalk.i64_in _ (by have := HUU.out; omega)
    have j3 : IntKind.i64.wrap ((n2 : Int) + 1 - 1) = (n2 : Int) := by rw [show (n2 : Int) + 1 - 1 = (n2 : Int) by omega]; exact IntWalk.i64_in _ (by have := HUU.out; omega)
    have j4 : IntKind.i64.wrap (n2 : Int) = (n2 : Int) := IntWalk.i64_in _ (by have := HUU.out; omega)
    go_region_held3 (fun w' => True) (first | exact trivial) ((refine step_append_lies _ (by rfl) _ _ _ (by rfl) w.heap.size 34 i0 _ 4 32 Tryd.underlying29 hi0 hz0 hz1 hz2 rfl (by omega) _ n1 (flat lo.dropLast) (by rfl) (World.ownsRow.drew HA.out) ⟨gu, 0, none⟩ n2 cu (flat up.dropLast) (by rfl) HB.out HC.out HD.out (by omega) HE.out HF.out HG.out _ rfl ?_; intro gg cap1 w5 hown5 hgrow hat hlt))
    all_goals
      have hh : hullP ys = lo.dropLast ++ up.dropLast := by unfold hullP; rw [if_neg hone, ← HLO.out, ← HUP.out]
      have hl5 := HHL.out
      have ho5 : Own w5 w.heap.size (.slice (some ⟨gg, 0, none⟩) (n1 + n2) cap1) (hullP ys) := by
        unfold Own
        rw [hl5, hh, flat_append]
        exact hown5
      have hg5 : Gr w w5 := (Gr.drew hg4).grown hgrow (fun k hk => (World.ownsRow.lt HA.out k hk).1)
      have HO5 := hide ho5
      clear hh hl5 ho5 hown5 hat hlt hgrow
      go_wp2
      go_ret
      exact ⟨_, _, rfl, HO5.out, hg5, HR.out⟩
end Go.Proofs.YtloefohekhkehaaDoor
