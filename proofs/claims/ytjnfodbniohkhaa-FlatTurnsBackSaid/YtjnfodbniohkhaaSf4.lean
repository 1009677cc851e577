/-
  Surfaces: verticals and covered of the code.
-/
import Derived.Test.YtjnfodbniohkhaaSf3
import Derived.WalkLawsBesides
set_option linter.unusedVariables false
set_option linter.unusedSimpArgs false
namespace Go.Proofs.Ytjnfodbniohkhaa
set_option linter.unusedVariables false
set_option linter.unusedSimpArgs false
open Go Go.ChangeShapes Go.WideShapes Go.ChangeAt Go.RowKit Go.Deep

namespace RG
set_option maxHeartbeats 4000000 in
set_option maxRecDepth 100000 in
theorem verticals_any (A : Option Addr) (c : Nat) (l : List Rc) (w : World) (hl : SlR w A c l) (hv : ∀ r ∈ l, InM 1048576 r) (h0 : l ≠ []) (hn : l.length ≤ 400) :
    Calls Try.prog 24 #[.slice A l.length c] w fun e w' => ∃ D q, e = .returned (.slice D (lnX l).length q) ∧ SlI w' D q (lnX l) ∧ Gr w w' := by
  have HL := hide hl
  have n1 := hl.cap
  have n2 := hl.capB
  have HV := hide hv
  have HNE := hide (show flX l ≠ [] by
    intro e
    cases l with
    | nil => exact h0 rfl
    | cons r l => simp [flX] at e)
  have HSX := hide (srt_flX l)
  have hfl : (flX l).length ≤ 800 := by
    have : ∀ l : List Rc, (flX l).length = 2 * l.length := by
      intro l
      induction l with
      | nil => rfl
      | cons r l ih => unfold flX at ih ⊢; rw [List.flatMap_cons, List.length_append, ih]; simp; omega
    rw [this]
    omega
  clear hl hv h0
  go_enter Try.func24, Try.ntmps24
  go_wp2
  go_loopw [3, 8] (fun xv i wr => ∃ (k : Nat) (O : List Int) (A1 : Option Addr) (d1 : Nat), k ≤ l.length ∧ i = iv k ∧ xv = .slice A1 O.length d1 ∧ Gr w wr ∧ Hid (OwnL wr w.heap.size 3 1 inL (.slice A1 O.length d1) O) ∧ Hid (O = flX (l.take k)) ∧ O.length ≤ 2 * k) (fun _ i _ => l.length - (intOf i).toNat)
  case atStart => exact ⟨0, [], none, 0, by omega, rfl, rfl, Gr.refl _, own_nil _ _ _ _ _, rfl, by simp⟩
  case round =>
    obtain ⟨k, O, A1, d1, hk, rfl, rfl, g, HO, HE, hO⟩ := hrel
    by_cases hkl : k < l.length
    · obtain ⟨r, hr⟩ : ∃ r, l[k]? = some r := ⟨_, List.getElem?_eq_getElem hkl⟩
      obtain ⟨b2, o2, hA, y0, y1, y2, y3⟩ := (HL.out.gr g).at_ hr
      have hb := HV.out r (List.mem_of_getElem? hr)
      have m1 := hb.w
      have m2 := hb.h
      have m3 := hb.x
      have m4 := hb.y
      have m5 := hb.x'
      have m6 := hb.y'
      have hk0 : (0 : Int) ≤ (k : Int) := by omega
      have hk1 : (k : Int) < (l.length : Int) := by omega
      have sg := g.size
      obtain ⟨O2, hO2⟩ : ∃ O2, O ++ [r.x, r.x + r.w] = O2 := ⟨_, rfl⟩
      have HO2 := hide hO2
      have HE2 := hide (show O2 = flX (l.take (k + 1)) by rw [take_at hr, flX_snoc, ← HE.out]; exact hO2.symm)
      have hO2l : O2.length ≤ 2 * (k + 1) := by rw [← hO2]; simp; omega
      have hO2e : O2.length = O.length + 2 := by rw [← hO2]; simp
      have HOl := hide hO2e
      subst hA
      clear hO2 hO2e hr hb HE
      have s1 : IntKind.i64.wrap (r.x + r.w) = r.x + r.w := IntWalk.i64_in _ (by omega)
      go_wp2_with (refine wpList_appZ rfl _ _ _ rfl inL w.heap.size 3 1 8 elInt (by decide) O [r.x, r.x + r.w] O2 HO2.out _ rfl (HO.out.gr (Gr.alloc (Gr.alloc (Gr.refl _) _) _)) ⟨wr.heap.size + 1, 0, none⟩ 2 2 rfl rfl (by decide) (fun _ => rfl) (newsN _ #[iv r.x, iv (r.x + r.w)] 3 _ (by simp)) (one2 _ _) (by omega) (by decide) (by simp only [World.size_alloc]; omega) ?_; intro gg cap1 w8 hO8 hG8 hgw8 hat8 hlt8)
      have g8 : Gr w w8 := hG8 _ (Gr.alloc (Gr.alloc g _) _) (Nat.le_refl _)
      have HO8 := hide hO8
      clear hO8 hG8 hgw8 hat8 HO
      go_roundw
      case rel => exact ⟨k + 1, O2, some ⟨gg, 0, none⟩, cap1, by omega, by go_num, rfl, g8, HO8, HE2, by omega⟩
      case measure => simp only [intOf]; omega
    · obtain rfl : k = l.length := by omega
      rw [List.take_length] at HE
      have hk1 : ¬ ((l.length : Int) < (l.length : Int)) := by omega
      have hE := HE.out
      subst hE
      clear HE
      go_wp2_with fail
      refine (sortN A1 d1 (flX l) wr w HO.out g HNE.out (by omega)).mono ?_
      rintro e w2 ⟨rfl, ys, hperm, hs, ho2, g2⟩
      have HK := hide (sc_srt hperm hs)
      have hle := hperm.length_eq
      have HO2 := hide ho2
      have HLE := hide hle
      rw [← HLE.out]
      clear ho2 hperm hs hle HO
      go_wp2_with fail
      refine (compactN A1 d1 ys w2 w HO2.out g2 (by have := HLE.out; omega)).mono ?_
      rintro e w3 ⟨rfl, ho3, g3⟩
      rw [HK.out, HSX.out] at ho3
      rw [HK.out, HSX.out]
      have HO3 := hide (own_sli ho3)
      clear ho3 HK HSX
      go_wp2
      go_ret
      exact ⟨A1, d1, rfl, HO3.out, g3⟩
theorem swp_bd {M : Int} (hM : 0 ≤ M) : ∀ {l : List Rc} {s t : Int}, (∀ r ∈ l, 0 < r.h ∧ -M ≤ r.y ∧ r.y + r.h ≤ M) → -M ≤ t → t ≤ M → s ≤ swp l s t ∧ swp l s t ≤ s + 2 * M * l.length ∧ True
  | [], s, t, _, _, _ => by simp [swp]
  | r :: l, s, t, hr, h1, h2 => by
    obtain ⟨r1, r2, r3⟩ := hr r (by simp)
    have ih := swp_bd hM (l := l) (s := s + max 0 (r.y + r.h - max r.y t)) (t := max t (r.y + r.h)) (fun r hr' => hr r (by simp [hr'])) (by omega) (by omega)
    have e : swp (r :: l) s t = swp l (s + max 0 (r.y + r.h - max r.y t)) (max t (r.y + r.h)) := rfl
    rw [e]
    have e2 : 2 * M * ((r :: l).length : Int) = 2 * M * (l.length : Int) + 2 * M := by
      simp only [List.length_cons]
      rw [show ((l.length + 1 : Nat) : Int) = (l.length : Int) + 1 by omega, Int.mul_add, Int.mul_one]
    rw [e2]
    refine ⟨by omega, by omega, trivial⟩
/-- the sweep so far -/
def swS (l : List Rc) (s t : Int) (k : Nat) : Int := (l.take k).foldl (fun a r => (a.1 + max 0 (r.y + r.h - max r.y a.2), max a.2 (r.y + r.h))) (s, t) |>.1
def swT (l : List Rc) (s t : Int) (k : Nat) : Int := (l.take k).foldl (fun a r => (a.1 + max 0 (r.y + r.h - max r.y a.2), max a.2 (r.y + r.h))) (s, t) |>.2
theorem sw_fold : ∀ (l : List Rc) (s t : Int), (l.foldl (fun a r => (a.1 + max 0 (r.y + r.h - max r.y a.2), max a.2 (r.y + r.h))) (s, t)).1 = swp l s t
  | [], s, t => rfl
  | r :: l, s, t => by rw [List.foldl_cons]; exact sw_fold l _ _
theorem sw_succ {l : List Rc} {s t : Int} {k : Nat} {r : Rc} (h : l[k]? = some r) : swS l s t (k + 1) = swS l s t k + max 0 (r.y + r.h - max r.y (swT l s t k)) ∧ swT l s t (k + 1) = max (swT l s t k) (r.y + r.h) := by
  unfold swS swT
  rw [take_at h, List.foldl_append]
  exact ⟨rfl, rfl⟩
theorem sw_bd {l : List Rc} {s t M : Int} (h : ∀ r ∈ l, 0 < r.h ∧ -M ≤ r.y ∧ r.y + r.h ≤ M) (h1 : -M ≤ t) (h2 : t ≤ M) (hM : 0 ≤ M) : ∀ k, (s ≤ swS l s t k ∧ swS l s t k ≤ s + 2 * M * k) ∧ -M ≤ swT l s t k ∧ swT l s t k ≤ M
  | 0 => by unfold swS swT; simp; omega
  | k + 1 => by
    obtain ⟨⟨i1, i2⟩, i3, i4⟩ := sw_bd (s := s) (t := t) h h1 h2 hM k
    have e2 : 2 * M * ((k + 1 : Nat) : Int) = 2 * M * (k : Int) + 2 * M := by rw [show ((k + 1 : Nat) : Int) = (k : Int) + 1 by omega, Int.mul_add, Int.mul_one]
    cases hz : l[k]? with
    | none =>
      have e : l.take (k + 1) = l.take k := by
        have := List.getElem?_eq_none_iff.1 hz
        rw [List.take_of_length_le (by omega), List.take_of_length_le (by omega)]
      unfold swS swT at *
      rw [e, e2]
      omega
    | some r =>
      obtain ⟨e3, e4⟩ := sw_succ (s := s) (t := t) hz
      obtain ⟨r1, r2, r3⟩ := h r (List.mem_of_getElem? hz)
      rw [e3, e4, e2]
      omega
theorem sw_all (l : List Rc) (s t : Int) : swS l s t l.length = swp l s t := by
  unfold swS
  rw [List.take_length]
  exact sw_fold l s t
theorem cxL_snoc {l : List Rc} {x : Int} {k : Nat} {r : Rc} (h : l[k]? = some r) : cxL (l.take (k + 1)) x = if (decide (r.x ≤ x) && decide (x < r.x + r.w)) then cxL (l.take k) x ++ [r] else cxL (l.take k) x := by
  unfold cxL
  rw [take_at h, List.filter_append]
  cases hb : (decide (r.x ≤ x) && decide (x < r.x + r.w)) <;> simp [List.filter_cons, hb]
set_option maxHeartbeats 8000000 in
set_option maxRecDepth 100000 in
theorem covered_any (A : Option Addr) (c : Nat) (l : List Rc) (x : Int) (w : World) (hl : SlR w A c l) (hv : ∀ r ∈ l, InM 1048576 r) (hn : l.length ≤ 400) :
    Calls Try.prog 25 #[.slice A l.length c, iv x] w fun e w' => e = .returned (iv (colS 1048576 l x)) ∧ Gr w w' := by
  have HL := hide hl
  have n1 := hl.cap
  have n2 := hl.capB
  have HV := hide hv
  have HCS := hide (fun (k : Nat) (r : Rc) (h : l[k]? = some r) => cxL_snoc (x := x) h)
  have HSW := hide (fun (ys : List Rc) (hp : ys.Perm (cxL l x)) (hs : ys.Pairwise (fun a b => a.y ≤ b.y)) => swp_col (M := 1048576) hv (fun r => hp.mem_iff) hs)
  have HCI := hide (show ∀ r ∈ cxL l x, r ∈ l from fun r hr => (List.mem_filter.1 hr).1)
  have hcl : (cxL l x).length ≤ 400 := Nat.le_trans (List.length_filter_le _ _) hn
  clear hl hv
  go_enter Try.func25, Try.ntmps25
  go_wp2
  go_loopw [5, 14] (fun xv i wr => ∃ (k : Nat) (O : List Rc) (A1 : Option Addr) (d1 : Nat), k ≤ l.length ∧ i = iv k ∧ xv = .slice A1 O.length d1 ∧ Gr w wr ∧ Hid (OwnL wr w.heap.size 55 4 rcL (.slice A1 O.length d1) O) ∧ Hid (O = cxL (l.take k) x) ∧ O.length ≤ k) (fun _ i _ => l.length - (intOf i).toNat)
  case atStart => exact ⟨0, [], none, 0, by omega, rfl, rfl, Gr.refl _, own_nil _ _ _ _ _, rfl, by simp⟩
  case round =>
    obtain ⟨k, O, A1, d1, hk, rfl, rfl, g, HO, HE, hO⟩ := hrel
    by_cases hkl : k < l.length
    · obtain ⟨r, hr⟩ : ∃ r, l[k]? = some r := ⟨_, List.getElem?_eq_getElem hkl⟩
      obtain ⟨b2, o2, hA, y0, y1, y2, y3⟩ := (HL.out.gr g).at_ hr
      have hb := HV.out r (List.mem_of_getElem? hr)
      have m1 := hb.w
      have m2 := hb.h
      have m3 := hb.x
      have m4 := hb.y
      have m5 := hb.x'
      have m6 := hb.y'
      have hk0 : (0 : Int) ≤ (k : Int) := by omega
      have hk1 : (k : Int) < (l.length : Int) := by omega
      have sg := g.size
      have HN := hide (HCS.out k r hr)
      subst hA
      have s1 : IntKind.i64.wrap (r.x + r.w) = r.x + r.w := IntWalk.i64_in _ (by omega)
      clear hr hb
      by_cases hin : r.x ≤ x ∧ x < r.x + r.w
      · obtain ⟨i1, i2⟩ := hin
        have j1 : decide (r.x ≤ x) = true := by simpa using i1
        have j2 : decide (x < r.x + r.w) = true := by simpa using i2
        obtain ⟨O2, hO2⟩ : ∃ O2, O ++ [r] = O2 := ⟨_, rfl⟩
        have HO2 := hide hO2
        have HE2 := hide (show O2 = cxL (l.take (k + 1)) x by rw [HN.out, j1, j2, ← HE.out]; exact hO2.symm)
        have hO2e : O2.length ≤ k + 1 := by rw [← hO2]; simp; omega
        clear hO2 HE HN
        go_wp2_with (refine wpList_appZ rfl _ _ _ rfl rcL w.heap.size 55 4 32 elRect (by decide) O [r] O2 HO2.out _ rfl (HO.out.gr (Gr.alloc (Gr.alloc (Gr.refl _) _) _)) ⟨wr.heap.size + 1, 0, none⟩ 1 1 rfl rfl (by decide) (fun _ => rfl) (newsN _ #[iv r.x, iv r.y, iv r.w, iv r.h] 55 _ (by simp)) (one_all [r]) (by omega) (by decide) (by simp only [World.size_alloc]; omega) ?_; intro gg cap1 w8 hO8 hG8 hgw8 hat8 hlt8)
        have g8 : Gr w w8 := hG8 _ (Gr.alloc (Gr.alloc g _) _) (Nat.le_refl _)
        have HO8 := hide hO8
        clear hO8 hG8 hgw8 hat8 HO
        go_roundw
        case rel => exact ⟨k + 1, O2, some ⟨gg, 0, none⟩, cap1, by omega, by go_num, rfl, g8, HO8, HE2, by omega⟩
        case measure => simp only [intOf]; omega
      · have hno : (decide (r.x ≤ x) && decide (x < r.x + r.w)) = false := by
          rw [Bool.and_eq_false_iff, decide_eq_false_iff_not, decide_eq_false_iff_not]
          omega
        have HE2 := hide (show O = cxL (l.take (k + 1)) x by rw [HN.out, hno, HE.out]; rfl)
        have g8 : Gr w (wr.alloc (.cells #[iv r.x, iv r.y, iv r.w, iv r.h] 55)) := Gr.alloc g _
        have HO8 := hide (HO.out.gr (Gr.alloc (Gr.refl wr) (.cells #[iv r.x, iv r.y, iv r.w, iv r.h] 55)))
        clear HE HN HO
        by_cases i1 : r.x ≤ x
        · have j1 : decide (r.x ≤ x) = true := by simpa using i1
          have j2 : decide (x < r.x + r.w) = false := by simp only [decide_eq_false_iff_not]; omega
          clear hno i1 hin
          go_wp2
          go_roundw
          case rel => exact ⟨k + 1, O, A1, d1, by omega, by go_num, rfl, g8, HO8, HE2, by omega⟩
          case measure => simp only [intOf]; omega
        · have j1 : decide (r.x ≤ x) = false := by simpa using i1
          clear hno i1 hin
          go_wp2
          go_roundw
          case rel => exact ⟨k + 1, O, A1, d1, by omega, by go_num, rfl, g8, HO8, HE2, by omega⟩
          case measure => simp only [intOf]; omega
    · obtain rfl : k = l.length := by omega
      rw [List.take_length] at HE
      have hk1 : ¬ ((l.length : Int) < (l.length : Int)) := by omega
      have hE := HE.out
      subst hE
      clear HE HCS
      have HSR := hide (sortR A1 d1 (cxL l x) wr w HO.out g (by omega))
      go_wp2_with fail
      refine HSR.out.mono ?_
      rintro e w2 ⟨rfl, ys, hperm, hs, ho2, g2⟩
      have HK := hide (HSW.out ys hperm hs)
      have hyl : ys.length ≤ 400 := by rw [hperm.length_eq]; exact hcl
      have HLE := hide hperm.length_eq
      have HYI := hide (show ∀ r ∈ ys, InM 1048576 r from fun r hr => HV.out r (HCI.out r (hperm.mem_iff.1 hr)))
      have HB := hide (sw_bd (l := ys) (s := 0) (t := -1048576) (M := 1048576) (fun r hr => ⟨(HYI.out r hr).h, (HYI.out r hr).y, (HYI.out r hr).y'⟩) (by omega) (by omega) (by omega))
      have HSS := hide (fun (k : Nat) (r : Rc) (h : ys[k]? = some r) => sw_succ (s := 0) (t := -1048576) h)
      have HO2 := hide ho2
      have HYS := hide (own_slr ho2)
      have m1 := HYS.out.cap
      have m2 := HYS.out.capB
      rw [← HLE.out]
      clear ho2 hperm hs HO HSW HSR
      go_wp2_with fail
      go_loopw [8, 9, 40] (fun sv tv i wr => ∃ k : Nat, k ≤ ys.length ∧ i = iv k ∧ sv = iv (swS ys 0 (-1048576) k) ∧ tv = iv (swT ys 0 (-1048576) k) ∧ Gr w2 wr) (fun _ _ i _ => ys.length - (intOf i).toNat)
      case atStart => exact ⟨0, by omega, rfl, rfl, rfl, Gr.refl _⟩
      case round =>
        obtain ⟨k, hk, rfl, rfl, rfl, g3⟩ := hrel
        by_cases hkl : k < ys.length
        · obtain ⟨r, hr⟩ : ∃ r, ys[k]? = some r := ⟨_, List.getElem?_eq_getElem hkl⟩
          obtain ⟨b2, o2, hA, y0, y1, y2, y3⟩ := (HYS.out.gr g3).at_ hr
          have hb := HYI.out r (List.mem_of_getElem? hr)
          have p1 := hb.h
          have p2 := hb.y
          have p3 := hb.y'
          obtain ⟨⟨b1, b2'⟩, b3, b4⟩ := HB.out k
          have HN := hide (HSS.out k r hr)
          have hk0 : (0 : Int) ≤ (k : Int) := by omega
          have hk1 : (k : Int) < (ys.length : Int) := by omega
          have hkb : (k : Int) ≤ 400 := by omega
          subst hA
          generalize swS ys 0 (-1048576) k = S at *
          generalize swT ys 0 (-1048576) k = T at *
          have s1 : IntKind.i64.wrap (r.y + r.h) = r.y + r.h := IntWalk.i64_in _ (by omega)
          have s2 : IntKind.i64.wrap (r.y + r.h - max r.y T) = r.y + r.h - max r.y T := IntWalk.i64_in _ (by omega)
          have s3 : IntKind.i64.wrap (S + max 0 (r.y + r.h - max r.y T)) = S + max 0 (r.y + r.h - max r.y T) := IntWalk.i64_in _ (by omega)
          clear hr hb
          go_wp2
          go_roundw
          case rel => exact ⟨k + 1, by omega, by go_num, by rw [HN.out.1], by rw [HN.out.2], g3.trans (Gr.alloc (Gr.refl _) _)⟩
          case measure => simp only [intOf]; omega
        · obtain rfl : k = ys.length := by omega
          have hk1 : ¬ ((ys.length : Int) < (ys.length : Int)) := by omega
          go_wp2
          go_ret
          exact ⟨ret_iv (by rw [sw_all]; exact HK.out), g2.trans g3⟩
end RG
end Go.Proofs.Ytjnfodbniohkhaa
