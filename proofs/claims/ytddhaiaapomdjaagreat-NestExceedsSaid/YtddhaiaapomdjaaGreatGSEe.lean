/-
 The builtin copy at slices whose elements are of several cells: a law of the walk.
 Nests: two lists of rectangles joined: make, then copy twice.
 Nests: the blocks of a sheet; rectangles that touch; the least corner of a list.
 Nests: a rectangle that lies strictly inside of one of a list.
 Nests: two elements of a list for which a function holds.
-/
import Derived.Laws.CopyOwn
import Derived.Test.YtddhaiaapomdjaaGreatNs7e
set_option linter.unusedVariables false
set_option linter.unusedSimpArgs false
namespace Go.Proofs.YtddhaiaapomdjaaGreat
set_option linter.unusedVariables false
set_option linter.unusedSimpArgs false
open Go Go.RowKit

namespace RG
theorem copy_rowN {P : Program} (w : World) (dT sT ty elem : TypeId) (sz : Nat) (g o dLen dCap : Nat) (a : Addr) (sLen sCap : Nat) (cur : Array Value) (t : TypeId) (cs : List Value)
  (hu : P.underlying dT = some (.slice elem)) (hs : (P.info? elem).map (·.size) = some sz)
  (hg : w.heap[g]? = some (.cells cur t (0, 0))) (hn : Nat.min sLen dLen * sz = cs.length)
  (hsrc : ∀ j v, cs[j]? = some v → w.cell? (a.add j) = some v) (hfit : o + cs.length ≤ cur.size) (h1 : ∀ v ∈ cs, v.oneCell' = true) :
  (Builtin.copy_ #[dT, sT] ty #[.slice (some ⟨g, o, none⟩) dLen dCap, .slice (some a) sLen sCap]).run P w =
   .ok (goInt (Nat.min sLen dLen)) (w.setRow g (cur.toList.take o ++ cs ++ cur.toList.drop (o + cs.length)).toArray) := by
 have hl := run_loadCells_list (P := P) w a cs hsrc
 have hst := run_storeCells_at P g o t cs 0 cur w hg (by simpa using hfit) h1
 cases hq : P.info? elem with
 | none => simp [hq] at hs
 | some i =>
  have hi : i.size = sz := by simpa [hq] using hs
  simp [Builtin.copy_, run_underlying hu, Builtin.lenOf, Builtin.firstCells, sizeOf, typeInfo, hq, hi, hn, hl, hst]
theorem copy_noneN {P : Program} (w : World) (dT sT ty elem : TypeId) (sz : Nat) (d a : Option Addr) (dLen dCap sLen sCap : Nat) (hu : P.underlying dT = some (.slice elem)) (hs : (P.info? elem).map (·.size) = some sz) (hn : Nat.min sLen dLen = 0) :
  (Builtin.copy_ #[dT, sT] ty #[.slice d dLen dCap, .slice a sLen sCap]).run P w = .ok (goInt 0) w := by
 cases hq : P.info? elem with
 | none => simp [hq] at hs
 | some i =>
  have hl : ∀ (x : Addr), (loadCells x 0).run P w = .ok #[] w := fun x => by simpa using run_loadCells_list (P := P) w x [] (by simp)
  cases d <;> cases a <;> simp [Builtin.copy_, run_underlying hu, Builtin.lenOf, Builtin.firstCells, sizeOf, typeInfo, hq, hn, storeCells, hl]
theorem wpList_copyN {P : Program} {w : World} {ops : Array Oper} {rest : List Oper} {o : Oper} {a : Act} {Q : Exit → Act → World → Prop} (hgd : o.guard = none) (d s : Operand) (dT sT : TypeId)
  (ho : o.op = .call { callee := .builtin .copy, args := #[d, s], argTypes := #[dT, sT] }) (elem : TypeId) (sz : Nat) (hz : 0 < sz) (hu : P.underlying dT = some (.slice elem)) (hsz : (P.info? elem).map (·.size) = some sz)
  (dp sp : Option Addr) (dLen dCap sLen sCap : Nat) (hd : a.eval d = .slice dp dLen dCap) (hs : a.eval s = .slice sp sLen sCap)
  (g off : Nat) (cur : List Value) (t : TypeId) (hg : w.heap[g]? = some (.cells cur.toArray t (0, 0))) (cs : List Value) (hn : Nat.min sLen dLen * sz = cs.length)
  (hpos : 0 < cs.length → dp = some ⟨g, off, none⟩ ∧ ∃ ad, sp = some ad ∧ ∀ j v, cs[j]? = some v → w.cell? (ad.add j) = some v)
  (hfit : off + cs.length ≤ cur.length) (h1 : ∀ v ∈ cs, v.oneCell' = true) (B : Nat) (w0 : World) (hb : Below B w0 w) (hBg : B ≤ g)
  (h : ∀ w', Hid (w'.heap[g]? = some (.cells (splice cur off cs).toArray t (0, 0))) → Below B w0 w' → wpList P ops Q rest (a.put o.dst (goInt (Nat.min sLen dLen))) w') :
  wpList P ops Q (o :: rest) a w := by
 refine wpList_plain hgd fun K hK => ?_
 by_cases h0 : cs.length = 0
 ·obtain rfl : cs = [] := List.eq_nil_of_length_eq_zero h0
  have hm : Nat.min sLen dLen = 0 := by
   rcases Nat.mul_eq_zero.1 (hn.trans rfl) with k | k
   ·exact k
   ·omega
  rw [hm] at h
  have hrun := copy_noneN (P := P) w dT sT o.type elem sz dp sp dLen dCap sLen sCap hu hsz hm
  unfold Oper.wp
  simp [execOp, ho, resolve, invoke, builtin, hd, hs, hrun, Result.andThen]
  exact hK _ _ (h w (show _ = _ by simpa [splice] using hg) hb)
 ·obtain ⟨rfl, ad, rfl, hsrc⟩ := hpos (by omega)
  have hrun := copy_rowN (P := P) w dT sT o.type elem sz g off dLen dCap ad sLen sCap cur.toArray t cs hu hsz hg hn hsrc (by simpa using hfit) h1
  unfold Oper.wp
  simp [execOp, ho, resolve, invoke, builtin, hd, hs, hrun, Result.andThen]
  exact hK _ _ (by
   have := h (w.setRow g (cur.take off ++ (cs ++ cur.drop (off + cs.length))).toArray) (show _ = _ by simpa [splice] using setRow_heap w g _ _ t _ hg) (below_setRow hb hBg _)
   simpa using this)
end RG
end Go.Proofs.YtddhaiaapomdjaaGreat
set_option linter.unusedVariables false
set_option linter.unusedSimpArgs false
namespace Go.Proofs.YtddhaiaapomdjaaGreat
set_option linter.unusedVariables false
set_option linter.unusedSimpArgs false
open Go Go.ChangeShapes Go.WideShapes Go.ChangeAt Go.RowKit Go.Deep

namespace RG
theorem own_rowN {w : World} {base e k B n : Nat} {xs : List Value} (h : w.ownsRow base e k (.slice (some ⟨B, 0, none⟩) n n) n xs) : w.heap[B]? = some (.cells xs.toArray e (0, 0)) := by
 rcases h.2 with ⟨h', _⟩ | ⟨g, cap, cur, h1, _, h2, _, _, h5, h6⟩
 ·simp at h'
 ·simp only [Value.slice.injEq, Option.some.injEq, Addr.mk.injEq, and_true, true_and] at h1
  obtain ⟨rfl, rfl⟩ := h1
  have : cur.toList = xs := by rw [← h6, List.take_of_length_le (by rw [Array.length_toList, h5]; exact Nat.le_refl _)]
  rw [h2, ← this]
theorem size_rect : (Tryz.prog.info? 70).map (·.size) = some 4 := by kernel_rfl
theorem rcL_len (r : Rc) : (rcL r).length = 4 := rfl
theorem rc_one (l : List Rc) : ∀ v ∈ l.flatMap rcL, v.oneCell' = true := by
 intro v hv
 obtain ⟨r, _, h⟩ := List.mem_flatMap.1 hv
 simp at h
 rcases h with rfl | rfl | rfl | rfl <;> rfl
theorem sl_src {w : World} {A : Option Addr} {c : Nat} {l : List Rc} (h : SlR w A c l) (h0 : 0 < (l.flatMap rcL).length) : ∃ ad, A = some ad ∧ ∀ j v, (l.flatMap rcL)[j]? = some v → w.cell? (ad.add j) = some v := by
 have hl := fm_len rcL_len l
 obtain ⟨r0, hr0⟩ : ∃ r, l[0]? = some r := ⟨_, List.getElem?_eq_getElem (by omega)⟩
 obtain ⟨b, off, rfl, _⟩ := h.at_ hr0
 refine ⟨_, rfl, ?_⟩
 intro j v hj
 have hjl : j < l.length * 4 := by
  have := (List.getElem?_eq_some_iff.1 hj).1
  omega
 obtain ⟨r, hr⟩ : ∃ r, l[j / 4]? = some r := ⟨_, List.getElem?_eq_getElem (by omega)⟩
 have h2 := fm_at rcL_len l (j / 4) r (j % 4) hr (by omega)
 rw [show j / 4 * 4 + j % 4 = j by omega, hj] at h2
 obtain ⟨b', off', hA, x0, x1, x2, x3⟩ := h.at_ hr
 cases hA
 rw [addr_add]
 rcases (by omega : j % 4 = 0 ∨ j % 4 = 1 ∨ j % 4 = 2 ∨ j % 4 = 3) with k | k | k | k <;> rw [k] at h2 <;> simp at h2 <;> subst h2
 ·rw [show off + j = off + j / 4 * 4 by omega]; exact x0
 ·rw [show off + j = off + j / 4 * 4 + 1 by omega]; exact x1
 ·rw [show off + j = off + j / 4 * 4 + 2 by omega]; exact x2
 ·rw [show off + j = off + j / 4 * 4 + 3 by omega]; exact x3
theorem sp_1 {zs xs : List Value} : splice zs 0 xs = xs ++ zs.drop xs.length := by simp [splice]
theorem sp_2 {zs xs ys : List Value} (h : zs.length = xs.length + ys.length) : splice (xs ++ zs.drop xs.length) xs.length ys = xs ++ ys := by
 unfold splice
 rw [List.take_left', List.drop_append, List.drop_eq_nil_of_le (by omega), List.nil_append]
 ·rw [List.drop_drop, List.drop_eq_nil_of_le (by omega), List.append_nil]
 ·rfl
theorem sl_row {w : World} {B : Nat} {l : List Rc} {t : TypeId} (h : w.heap[B]? = some (.cells (l.flatMap rcL).toArray t (0, 0))) : RdL w 4 rcL (some ⟨B, 0, none⟩) l := by
 intro i x hi
 refine ⟨B, 0, rfl, at_of ?_⟩
 intro j v hv
 have hj : j < 4 := (List.getElem?_eq_some_iff.1 hv).1
 have h1 := cell_of_row w B (i * 4 + j) _ t (0, 0) h
 rw [Nat.zero_add, h1]
 have h2 := fm_at rcL_len l i x j hi hj
 simp only [List.getElem?_toArray]
 rw [h2, hv]
set_option maxHeartbeats 2000000 in
set_option maxRecDepth 100000 in
theorem join_any (A : Option Addr) (c : Nat) (l : List Rc) (B : Option Addr) (d : Nat) (m : List Rc) (w : World) (hl : SlR w A c l) (hm : SlR w B d m) (h1 : l.length ≤ 1000) (h2 : m.length ≤ 1000) :
  Calls Tryz.prog 48 #[.slice A l.length c, .slice B m.length d] w fun e w' => ∃ D, e = .returned (.slice D (l ++ m).length (l ++ m).length) ∧ SlR w' D (l ++ m).length (l ++ m) ∧ Gr w w' := by
 obtain ⟨i0, z0, hi0, hz0, hsz0, hby0, hzc0⟩ := elRect.inf
 have n1 := hl.cap
 have n2 := hl.capB
 have n3 := hm.cap
 have n4 := hm.capB
 have HL := hide hl
 have HM := hide hm
 have W1 : IntKind.i64.wrap ((l.length : Int) + (m.length : Int)) = ((l.length + m.length : Nat) : Int) := by rw [IntWalk.i64_in _ (by omega)]; omega
 clear hl hm
 go_enter Tryz.func48, Tryz.ntmps48
 go_upto_region 2 with (refine wpList_make_full w rfl _ _ _ rfl w.heap.size 70 i0 z0 4 elRect.und hi0 hz0 hsz0 .i64 .i64 _ _ (l.length + m.length) rfl rfl rfl rfl (by rw [hby0]; omega) (by unfold maxLen; omega) (Nat.le_refl _) ?_; intro w1 hown1 hg1)
 have g1 : Gr w w1 := Gr.grown (Gr.refl _) hg1 (fun k hk => by cases hk)
 have hrow1 := own_rowN hown1
 have lL := fm_len rcL_len l
 have lM := fm_len rcL_len m
 have HSL := hide (fun (w' : World) (g : Gr w w') => sl_src (HL.out.gr g))
 have HSM := hide (fun (w' : World) (g : Gr w w') => sl_src (HM.out.gr g))
 have HOL := hide (rc_one l)
 have HOM := hide (rc_one m)
 have HFM := hide (show (l ++ m).flatMap rcL = l.flatMap rcL ++ m.flatMap rcL by rw [List.flatMap_append])
 obtain ⟨X, hX⟩ : ∃ X, l.flatMap rcL = X := ⟨_, rfl⟩
 obtain ⟨Y, hY⟩ : ∃ Y, m.flatMap rcL = Y := ⟨_, rfl⟩
 rw [hX] at lL HSL HOL HFM
 rw [hY] at lM HSM HOM HFM
 clear hX hY
 obtain ⟨zs, hzs, hzl⟩ : ∃ zs, (madeCells z0.cells ((l.length + m.length) * 4)).toList = zs ∧ zs.length = X.length + Y.length := ⟨_, rfl, by rw [Array.length_toList, size_madeCells]; omega⟩
 rw [hzs] at hrow1
 obtain ⟨G, hG⟩ : ∃ G, w.heap.size = G := ⟨_, rfl⟩
 have hwG : w.heap.size ≤ G := by omega
 rw [hG] at hrow1
 simp only [hG]
 have HR1 := hide hrow1
 clear hown1 hg1 hrow1 hi0 hz0 hsz0 hby0 hzc0 hzs hG
 go_upto_region 3 with (refine wpList_copyN rfl _ _ _ _ rfl 70 4 (by decide) elRect.und size_rect _ _ _ _ _ _ rfl rfl G 0 zs 70 HR1.out X (by rw [lL]; congr 1; show min _ _ = _; omega) (fun h => ⟨rfl, HSL.out _ g1 h⟩) (by omega) HOL.out w.heap.size w g1 hwG ?_; intro w2 HR2 hb2)
 have HR2' := hide (show w2.heap[G]? = some (.cells (X ++ zs.drop X.length).toArray 70 (0, 0)) by have := HR2.out; rwa [sp_1] at this)
 have hzd : (X ++ zs.drop X.length).length = X.length + Y.length := by rw [List.length_append, List.length_drop]; omega
 have HSP := hide (sp_2 hzl)
 clear HR1 HR2
 obtain ⟨U, hU⟩ : ∃ U, X ++ zs.drop X.length = U := ⟨_, rfl⟩
 rw [hU] at HR2' hzd HSP
 clear hU
 go_wp2_with (refine wpList_copyN rfl _ _ _ _ rfl 70 4 (by decide) elRect.und size_rect _ _ _ _ _ _ rfl rfl G X.length U 70 HR2'.out Y (by rw [lM]; congr 1; show min _ _ = _; omega) (fun h => by exact ⟨by rw [lL]; first | rfl | exact if_neg (by intro e; rw [e, List.length_nil] at lM; omega), HSM.out _ hb2 h⟩) (by omega) HOM.out w.heap.size w hb2 hwG ?_; intro w3 HR3 hb3)
 all_goals
  have hk : SlR w3 (some ⟨G, 0, none⟩) (l ++ m).length (l ++ m) := ⟨sl_row (by rw [HFM.out]; have := HR3.out; rwa [HSP.out] at this), Nat.le_refl _, by rw [List.length_append]; omega⟩
  clear HR3 HSP HFM HR2'
 ·subst h
  rw [List.append_nil] at hk
  go_ret
  exact ⟨_, rfl, hk, hb3⟩
 ·rw [List.length_append] at hk
  go_ret
  exact ⟨_, rfl, hk, hb3⟩
end RG
end Go.Proofs.YtddhaiaapomdjaaGreat
set_option linter.unusedVariables false
set_option linter.unusedSimpArgs false
namespace Go.Proofs.YtddhaiaapomdjaaGreat
set_option linter.unusedVariables false
set_option linter.unusedSimpArgs false
open Go Go.ChangeShapes Go.WideShapes Go.ChangeAt Go.RowKit Go.Deep

namespace RG
set_option maxHeartbeats 1000000 in
theorem blocks_any (nm mt : ByteArray) (ga gr wd ht : Int) (A : Option Addr) (c : Nat) (l : List Rc) (B : Option Addr) (d : Nat) (m : List Rc) (w : World) (hl : SlR w A c l) (hm : SlR w B d m) (h1 : l.length ≤ 1000) (h2 : m.length ≤ 1000) :
  Calls Tryz.prog 44 #[shv nm mt ga gr wd ht (.slice A l.length c) (.slice B m.length d)] w fun e w' => ∃ D, e = .returned (.slice D (l ++ m).length (l ++ m).length) ∧ SlR w' D (l ++ m).length (l ++ m) ∧ Gr w w' := by
 have HJ := hide (fun (w' : World) (g : Gr w w') => join_any A c l B d m w' (hl.gr g) (hm.gr g) h1 h2)
 clear hl hm
 go_enter Tryz.func44, Tryz.ntmps44
 go_wp2_with fail
 refine (HJ.out _ (by with_reducible repeat (first | exact Gr.refl _ | assumption | refine Gr.alloc ?_ _ | refine Gr.drewN ?_ _ | refine Gr.drew ?_ | refine Gr.setCell ?_ (by first | (dsimp only; omega) | (simp only [World.size_alloc]; omega)) _ | refine Gr.trans ?_ (by assumption)))).mono ?_
 rintro e w2 ⟨D, rfl, hD, g2⟩
 have HD := hide hD
 clear hD
 go_wp2
 go_ret
 have hk := HD.out
 rw [List.length_append] at hk
 first | exact ⟨D, rfl, hk, (by with_reducible repeat (first | exact Gr.refl _ | assumption | refine Gr.alloc ?_ _ | refine Gr.drewN ?_ _ | refine Gr.drew ?_ | refine Gr.setCell ?_ (by first | (dsimp only; omega) | (simp only [World.size_alloc]; omega)) _ | refine Gr.trans ?_ (by assumption)))⟩ | exact ⟨D, by rw [List.length_append]; rfl, by rw [List.length_append]; exact hk, (by with_reducible repeat (first | exact Gr.refl _ | assumption | refine Gr.alloc ?_ _ | refine Gr.drewN ?_ _ | refine Gr.drew ?_ | refine Gr.setCell ?_ (by first | (dsimp only; omega) | (simp only [World.size_alloc]; omega)) _ | refine Gr.trans ?_ (by assumption)))⟩
set_option maxHeartbeats 1000000 in
theorem touch_any (r s : Rc) (w : World) :
  Calls Tryz.prog 65 #[rcv r, rcv s] w fun e w' => e = .returned (.bool (diR r s == 0)) ∧ Gr w w' := by
 have HD := hide (fun w' => Distance_any r.x r.y r.w r.h s.x s.y s.w s.h w')
 rw [show diV r.x r.y r.w r.h s.x s.y s.w s.h = diR r s from rfl] at HD
 go_enter Tryz.func65, Tryz.ntmps65
 go_wp2_with (first | (go_at_call 104; refine (HD.out _).mono ?_; rintro e w1 ⟨rfl, g1⟩; obtain ⟨X1, Y1, c1, f1⟩ := g1.use))
 go_ret
 exact ⟨ret_bool (by simp [*]), (by with_reducible repeat (first | exact Gr.refl _ | assumption | refine Gr.alloc ?_ _ | refine Gr.drewN ?_ _ | refine Gr.drew ?_ | refine Gr.setCell ?_ (by first | (dsimp only; omega) | (simp only [World.size_alloc]; omega)) _ | refine Gr.trans ?_ (by assumption)))⟩
end RG
end Go.Proofs.YtddhaiaapomdjaaGreat
set_option linter.unusedVariables false
set_option linter.unusedSimpArgs false
namespace Go.Proofs.YtddhaiaapomdjaaGreat
set_option linter.unusedVariables false
set_option linter.unusedSimpArgs false
open Go Go.ChangeShapes Go.WideShapes Go.ChangeAt Go.RowKit Go.Deep

namespace RG
def stB (r s : Rc) : Bool := isR r ⟨s.x + 1, s.y + 1, s.w - 2, s.h - 2⟩
set_option maxHeartbeats 2000000 in
set_option maxRecDepth 100000 in
theorem isStrictlyInside_any (r : Rc) (A : Option Addr) (c : Nat) (l : List Rc) (w : World) (hl : SlR w A c l) (hv : ∀ s ∈ l, vrR s = true) :
  Calls Tryz.prog 103 #[rcv r, .slice A l.length c] w fun e w' => e = .returned (.bool (l.any (stB r))) ∧ Gr w w' := by
 have n1 := hl.cap
 have n2 := hl.capB
 have HL := hide hl
 have HV := hide hv
 clear hl hv
 go_enter Tryz.func103, Tryz.ntmps103
 go_wp2
 have g0 : Gr w (w.alloc (.cells #[iv r.x, iv r.y, iv r.w, iv r.h] 70)) := Gr.alloc (Gr.refl _) _
 have HB := hide (fun (w' : World) (g : Gr (w.alloc (.cells #[iv r.x, iv r.y, iv r.w, iv r.h] 70)) w') => box4 g)
 generalize w.alloc (.cells #[iv r.x, iv r.y, iv r.w, iv r.h] 70) = w1 at *
 go_loopw [9] (fun i wr => ∃ k : Nat, k ≤ l.length ∧ i = iv k ∧ Gr w1 wr ∧ Hid (∀ (j : Nat) (s : Rc), j < k → l[j]? = some s → stB r s = false)) (fun i _ => l.length - (intOf i).toNat)
 case atStart => exact ⟨0, by omega, rfl, Gr.refl _, hide (fun j r h => absurd h (Nat.not_lt_zero j))⟩
 case round =>
  obtain ⟨k, hk, rfl, g, HS⟩ := hrel
  by_cases hkl : k < l.length
  ·obtain ⟨s, hs⟩ : ∃ s, l[k]? = some s := ⟨_, List.getElem?_eq_getElem hkl⟩
   obtain ⟨b, o, rfl, x0, x1, x2, x3⟩ := (HL.out.gr (g0.trans g)).at_ hs
   obtain ⟨hb, p0, p1, p2, p3⟩ := HB.out wr g
   obtain ⟨⟨⟨a1, a2⟩, ⟨a3, a4⟩, ⟨a5, a6⟩, a7, a8⟩, _⟩ := vr_lims (HV.out s (List.mem_of_getElem? hs))
   have W1 : IntKind.i64.wrap (s.x + 1) = s.x + 1 := IntWalk.i64_in _ (by omega)
   have W2 : IntKind.i64.wrap (s.y + 1) = s.y + 1 := IntWalk.i64_in _ (by omega)
   have W3 : IntKind.i64.wrap (s.w - 2) = s.w - 2 := IntWalk.i64_in _ (by omega)
   have W4 : IntKind.i64.wrap (s.h - 2) = s.h - 2 := IntWalk.i64_in _ (by omega)
   clear a1 a2 a3 a4 a5 a6 a7 a8
   have hbl : b < wr.heap.size := cell_lt (by rw [x0]; rfl)
   have HR := hide hs
   have hk0 : (0 : Int) ≤ (k : Int) := by omega
   have hk1 : (k : Int) < (l.length : Int) := by omega
   have HI := hide (fun w' => Inside_any r.x r.y r.w r.h (s.x + 1) (s.y + 1) (s.w - 2) (s.h - 2) w')
   rw [show isB r.x r.y r.w r.h (s.x + 1) (s.y + 1) (s.w - 2) (s.h - 2) = stB r s from rfl] at HI
   clear hs
   cases hv : stB r s with
   | false =>
    have HS' := hide (show ∀ (j : Nat) (s : Rc), j < k + 1 → l[j]? = some s → stB r s = false by
     intro j q hj hq
     rcases Nat.lt_or_ge j k with h | h
     ·exact HS.out j q h hq
     ·obtain rfl : j = k := by omega
      rw [HR.out] at hq
      obtain rfl := Option.some.inj hq
      exact hv)
    rw [hv] at HI
    clear hv
    go_wp2_with (first | (go_at_call 133; refine (HI.out _).mono ?_; rintro e w1 ⟨rfl, g1⟩; obtain ⟨X1, Y1, c1, f1⟩ := g1.use))
    go_roundw
    case rel => exact ⟨k + 1, by omega, by go_num, (by with_reducible repeat (first | exact Gr.refl _ | assumption | refine Gr.alloc ?_ _ | refine Gr.drewN ?_ _ | refine Gr.drew ?_ | refine Gr.setCell ?_ (by first | (dsimp only; omega) | (simp only [World.size_alloc]; omega)) _ | refine Gr.trans ?_ (by assumption))), HS'⟩
    case measure => simp only [intOf]; omega
   | true =>
    have HE := hide (show l.any (stB r) = true by
     rw [List.any_eq_true]
     exact ⟨s, List.mem_of_getElem? HR.out, hv⟩)
    rw [hv] at HI
    clear hv
    go_wp2_with (first | (go_at_call 133; refine (HI.out _).mono ?_; rintro e w1 ⟨rfl, g1⟩; obtain ⟨X1, Y1, c1, f1⟩ := g1.use))
    go_ret
    exact ⟨ret_bool HE.out.symm, (by with_reducible repeat (first | exact Gr.refl _ | assumption | refine Gr.alloc ?_ _ | refine Gr.drewN ?_ _ | refine Gr.drew ?_ | refine Gr.setCell ?_ (by first | (dsimp only; omega) | (simp only [World.size_alloc]; omega)) _ | refine Gr.trans ?_ (by assumption)))⟩
  ·obtain rfl : k = l.length := by omega
   have HE := hide (show l.any (stB r) = false by
    rw [List.any_eq_false]
    intro s hs
    obtain ⟨j, hj⟩ := List.mem_iff_getElem?.1 hs
    rw [HS.out j s (List.getElem?_eq_some_iff.1 hj).1 hj]
    decide)
   go_wp2
   go_ret
   exact ⟨ret_bool HE.out.symm, (by with_reducible repeat (first | exact Gr.refl _ | assumption | refine Gr.alloc ?_ _ | refine Gr.drewN ?_ _ | refine Gr.drew ?_ | refine Gr.setCell ?_ (by first | (dsimp only; omega) | (simp only [World.size_alloc]; omega)) _ | refine Gr.trans ?_ (by assumption)))⟩
end RG
end Go.Proofs.YtddhaiaapomdjaaGreat
set_option linter.unusedVariables false
set_option linter.unusedSimpArgs false
namespace Go.Proofs.YtddhaiaapomdjaaGreat
set_option linter.unusedVariables false
set_option linter.unusedSimpArgs false
open Go Go.ChangeShapes Go.WideShapes Go.ChangeAt Go.RowKit Go.Deep

namespace RG
def pjB (p : Rc → Rc → Bool) (l : List Rc) (j i : Nat) : Bool := match l[j]?, l[i]? with
 | some a, some b => p a b
 | _, _ => false
def apB (p : Rc → Rc → Bool) (l : List Rc) : Bool := (List.range l.length).any fun i => (List.range i).any fun j => pjB p l j i
theorem pjB_at {p : Rc → Rc → Bool} {l : List Rc} {i j : Nat} {a b : Rc} (h : l[j]? = some a) (k : l[i]? = some b) : pjB p l j i = p a b := by simp [pjB, h, k]
theorem apB_yes {p : Rc → Rc → Bool} {l : List Rc} {i j : Nat} {a b : Rc} (h : l[j]? = some a) (k : l[i]? = some b) (hj : j < i) (q : p a b = true) : apB p l = true := by
 unfold apB
 rw [List.any_eq_true]
 refine ⟨i, List.mem_range.2 (List.getElem?_eq_some_iff.1 k).1, ?_⟩
 rw [List.any_eq_true]
 exact ⟨j, List.mem_range.2 hj, by rw [pjB_at h k]; exact q⟩
theorem apB_no {p : Rc → Rc → Bool} {l : List Rc} (h : ∀ (i j : Nat), i < l.length → j < i → pjB p l j i = false) : apB p l = false := by
 unfold apB
 rw [List.any_eq_false]
 intro i hi
 rw [List.any_eq_true]
 rintro ⟨j, hj, q⟩
 rw [h i j (List.mem_range.1 hi) (List.mem_range.1 hj)] at q
 cases q
set_option maxHeartbeats 4000000 in
set_option maxRecDepth 100000 in
theorem anyPairO_any (A : Option Addr) (c : Nat) (l : List Rc) (w : World) (hl : SlR w A c l) :
  Calls Tryz.prog 45 #[.slice A l.length c, .func (.func 46) #[] #[]] w fun e w' => e = .returned (.bool (apB ovQ l)) ∧ Gr w w' := by
 have n1 := hl.cap
 have n2 := hl.capB
 have HL := hide hl
 clear hl
 go_enter Tryz.func45, Tryz.ntmps45
 go_wp2
 go_loopw [11] (fun i wr => ∃ k : Nat, k ≤ l.length ∧ i = iv k ∧ Gr w wr ∧ Hid (∀ (i j : Nat), i < k → j < i → pjB ovQ l j i = false)) (fun i _ => l.length - (intOf i).toNat)
 case atStart => exact ⟨0, by omega, rfl, Gr.refl _, hide (fun i j h _ => absurd h (Nat.not_lt_zero _))⟩
 case round =>
  obtain ⟨k, hk, rfl, g, HS⟩ := hrel
  by_cases hkl : k < l.length
  ·obtain ⟨r, hr⟩ : ∃ r, l[k]? = some r := ⟨_, List.getElem?_eq_getElem hkl⟩
   obtain ⟨b, o, rfl, x0, x1, x2, x3⟩ := (HL.out.gr g).at_ hr
   have hbl : b < wr.heap.size := cell_lt (by rw [x0]; rfl)
   have HR := hide hr
   have hk0 : (0 : Int) ≤ (k : Int) := by omega
   have hk1 : (k : Int) < (l.length : Int) := by omega
   have hk2 : (k : Int) ≤ (c : Int) := by omega
   clear hr
   go_wp2
   have g1 : Gr wr (wr.alloc (.cells #[iv r.x, iv r.y, iv r.w, iv r.h] 70)) := Gr.alloc (Gr.refl _) _
   have HB := hide (fun (w' : World) (g : Gr (wr.alloc (.cells #[iv r.x, iv r.y, iv r.w, iv r.h] 70)) w') => box4 g)
   generalize wr.alloc (.cells #[iv r.x, iv r.y, iv r.w, iv r.h] 70) = w1 at *
   go_loopw [20] (fun i wr2 => ∃ j : Nat, j ≤ k ∧ i = iv j ∧ Gr w1 wr2 ∧ Hid (∀ (i : Nat), i < j → pjB ovQ l i k = false)) (fun i _ => k - (intOf i).toNat)
   case atStart => exact ⟨0, by omega, rfl, Gr.refl _, hide (fun j h => absurd h (Nat.not_lt_zero j))⟩
   case round =>
    obtain ⟨j, hj, rfl, g2, HT⟩ := hrel
    by_cases hjl : j < k
    ·obtain ⟨s, hs⟩ : ∃ s, l[j]? = some s := ⟨_, List.getElem?_eq_getElem (by omega)⟩
     obtain ⟨b2, o2, hA, y0, y1, y2, y3⟩ := (HL.out.gr ((g.trans g1).trans g2)).at_ hs
     cases hA
     have hbl2 : b < wr.heap.size := cell_lt (by rw [y0]; rfl)
     obtain ⟨hb, p0, p1, p2, p3⟩ := HB.out wr g2
     have HSS := hide hs
     have hj0 : (0 : Int) ≤ (j : Int) := by omega
     have hj1 : (j : Int) < (k : Int) := by omega
     have HI := hide (fun w' => show Calls Tryz.prog 46 #[rc s.x s.y s.w s.h, rc r.x r.y r.w r.h] w' fun e w2 => e = .returned (.bool (ovQ s r)) ∧ Gr w' w2 from Overlap_any s.x s.y s.w s.h r.x r.y r.w r.h w')
     clear hs
     cases hv : ovQ s r with
     | true =>
      have HE := hide (apB_yes (p := ovQ) HSS.out HR.out hjl hv)
      rw [hv] at HI
      clear hv
      go_wp2_with (first | (go_at_call 46; refine (HI.out _).mono ?_; rintro e w1 ⟨rfl, g1⟩; obtain ⟨X1, Y1, c1, f1⟩ := g1.use))
      go_ret
      exact ⟨ret_bool HE.out.symm, (by with_reducible repeat (first | exact Gr.refl _ | assumption | refine Gr.alloc ?_ _ | refine Gr.drewN ?_ _ | refine Gr.drew ?_ | refine Gr.setCell ?_ (by first | (dsimp only; omega) | (simp only [World.size_alloc]; omega)) _ | refine Gr.trans ?_ (by assumption)))⟩
     | false =>
      have HT' := hide (show ∀ (i : Nat), i < j + 1 → pjB ovQ l i k = false by
       intro i hi
       rcases Nat.lt_or_ge i j with h | h
       ·exact HT.out i h
       ·obtain rfl : i = j := by omega
        rw [pjB_at HSS.out HR.out]
        exact hv)
      rw [hv] at HI
      clear hv
      go_wp2_with (first | (go_at_call 46; refine (HI.out _).mono ?_; rintro e w1 ⟨rfl, g1⟩; obtain ⟨X1, Y1, c1, f1⟩ := g1.use))
      go_roundw
      case rel => exact ⟨j + 1, by omega, by go_num, (by with_reducible repeat (first | exact Gr.refl _ | assumption | refine Gr.alloc ?_ _ | refine Gr.drewN ?_ _ | refine Gr.drew ?_ | refine Gr.setCell ?_ (by first | (dsimp only; omega) | (simp only [World.size_alloc]; omega)) _ | refine Gr.trans ?_ (by assumption))), HT'⟩
      case measure => simp only [intOf]; omega
    ·obtain rfl : j = k := by omega
     have HS' := hide (show ∀ (i m : Nat), i < j + 1 → m < i → pjB ovQ l m i = false by
      intro i m hi hm
      rcases Nat.lt_or_ge i j with h | h
      ·exact HS.out i m h hm
      ·obtain rfl : i = j := by omega
       exact HT.out m hm)
     go_wp2
     go_roundw
     case rel => exact ⟨j + 1, by omega, by go_num, (by with_reducible repeat (first | exact Gr.refl _ | assumption | refine Gr.alloc ?_ _ | refine Gr.drewN ?_ _ | refine Gr.drew ?_ | refine Gr.setCell ?_ (by first | (dsimp only; omega) | (simp only [World.size_alloc]; omega)) _ | refine Gr.trans ?_ (by assumption))), HS'⟩
     case measure => simp only [intOf]; omega
  ·obtain rfl : k = l.length := by omega
   have HE := hide (apB_no (p := ovQ) HS.out)
   go_wp2
   go_ret
   exact ⟨ret_bool HE.out.symm, (by with_reducible repeat (first | exact Gr.refl _ | assumption | refine Gr.alloc ?_ _ | refine Gr.drewN ?_ _ | refine Gr.drew ?_ | refine Gr.setCell ?_ (by first | (dsimp only; omega) | (simp only [World.size_alloc]; omega)) _ | refine Gr.trans ?_ (by assumption)))⟩
def toR (r s : Rc) : Bool := diR r s == 0
set_option maxHeartbeats 4000000 in
set_option maxRecDepth 100000 in
theorem anyPairT_any (A : Option Addr) (c : Nat) (l : List Rc) (w : World) (hl : SlR w A c l) :
  Calls Tryz.prog 45 #[.slice A l.length c, .func (.func 65) #[] #[]] w fun e w' => e = .returned (.bool (apB toR l)) ∧ Gr w w' := by
 have n1 := hl.cap
 have n2 := hl.capB
 have HL := hide hl
 clear hl
 go_enter Tryz.func45, Tryz.ntmps45
 go_wp2
 go_loopw [11] (fun i wr => ∃ k : Nat, k ≤ l.length ∧ i = iv k ∧ Gr w wr ∧ Hid (∀ (i j : Nat), i < k → j < i → pjB toR l j i = false)) (fun i _ => l.length - (intOf i).toNat)
 case atStart => exact ⟨0, by omega, rfl, Gr.refl _, hide (fun i j h _ => absurd h (Nat.not_lt_zero _))⟩
 case round =>
  obtain ⟨k, hk, rfl, g, HS⟩ := hrel
  by_cases hkl : k < l.length
  ·obtain ⟨r, hr⟩ : ∃ r, l[k]? = some r := ⟨_, List.getElem?_eq_getElem hkl⟩
   obtain ⟨b, o, rfl, x0, x1, x2, x3⟩ := (HL.out.gr g).at_ hr
   have hbl : b < wr.heap.size := cell_lt (by rw [x0]; rfl)
   have HR := hide hr
   have hk0 : (0 : Int) ≤ (k : Int) := by omega
   have hk1 : (k : Int) < (l.length : Int) := by omega
   have hk2 : (k : Int) ≤ (c : Int) := by omega
   clear hr
   go_wp2
   have g1 : Gr wr (wr.alloc (.cells #[iv r.x, iv r.y, iv r.w, iv r.h] 70)) := Gr.alloc (Gr.refl _) _
   have HB := hide (fun (w' : World) (g : Gr (wr.alloc (.cells #[iv r.x, iv r.y, iv r.w, iv r.h] 70)) w') => box4 g)
   generalize wr.alloc (.cells #[iv r.x, iv r.y, iv r.w, iv r.h] 70) = w1 at *
   go_loopw [20] (fun i wr2 => ∃ j : Nat, j ≤ k ∧ i = iv j ∧ Gr w1 wr2 ∧ Hid (∀ (i : Nat), i < j → pjB toR l i k = false)) (fun i _ => k - (intOf i).toNat)
   case atStart => exact ⟨0, by omega, rfl, Gr.refl _, hide (fun j h => absurd h (Nat.not_lt_zero j))⟩
   case round =>
    obtain ⟨j, hj, rfl, g2, HT⟩ := hrel
    by_cases hjl : j < k
    ·obtain ⟨s, hs⟩ : ∃ s, l[j]? = some s := ⟨_, List.getElem?_eq_getElem (by omega)⟩
     obtain ⟨b2, o2, hA, y0, y1, y2, y3⟩ := (HL.out.gr ((g.trans g1).trans g2)).at_ hs
     cases hA
     have hbl2 : b < wr.heap.size := cell_lt (by rw [y0]; rfl)
     obtain ⟨hb, p0, p1, p2, p3⟩ := HB.out wr g2
     have HSS := hide hs
     have hj0 : (0 : Int) ≤ (j : Int) := by omega
     have hj1 : (j : Int) < (k : Int) := by omega
     have HI := hide (fun w' => show Calls Tryz.prog 65 #[rc s.x s.y s.w s.h, rc r.x r.y r.w r.h] w' fun e w2 => e = .returned (.bool (toR s r)) ∧ Gr w' w2 from touch_any s r w')
     clear hs
     cases hv : toR s r with
     | true =>
      have HE := hide (apB_yes (p := toR) HSS.out HR.out hjl hv)
      rw [hv] at HI
      clear hv
      go_wp2_with (first | (go_at_call 65; refine (HI.out _).mono ?_; rintro e w1 ⟨rfl, g1⟩; obtain ⟨X1, Y1, c1, f1⟩ := g1.use))
      go_ret
      exact ⟨ret_bool HE.out.symm, (by with_reducible repeat (first | exact Gr.refl _ | assumption | refine Gr.alloc ?_ _ | refine Gr.drewN ?_ _ | refine Gr.drew ?_ | refine Gr.setCell ?_ (by first | (dsimp only; omega) | (simp only [World.size_alloc]; omega)) _ | refine Gr.trans ?_ (by assumption)))⟩
     | false =>
      have HT' := hide (show ∀ (i : Nat), i < j + 1 → pjB toR l i k = false by
       intro i hi
       rcases Nat.lt_or_ge i j with h | h
       ·exact HT.out i h
       ·obtain rfl : i = j := by omega
        rw [pjB_at HSS.out HR.out]
        exact hv)
      rw [hv] at HI
      clear hv
      go_wp2_with (first | (go_at_call 65; refine (HI.out _).mono ?_; rintro e w1 ⟨rfl, g1⟩; obtain ⟨X1, Y1, c1, f1⟩ := g1.use))
      go_roundw
      case rel => exact ⟨j + 1, by omega, by go_num, (by with_reducible repeat (first | exact Gr.refl _ | assumption | refine Gr.alloc ?_ _ | refine Gr.drewN ?_ _ | refine Gr.drew ?_ | refine Gr.setCell ?_ (by first | (dsimp only; omega) | (simp only [World.size_alloc]; omega)) _ | refine Gr.trans ?_ (by assumption))), HT'⟩
      case measure => simp only [intOf]; omega
    ·obtain rfl : j = k := by omega
     have HS' := hide (show ∀ (i m : Nat), i < j + 1 → m < i → pjB toR l m i = false by
      intro i m hi hm
      rcases Nat.lt_or_ge i j with h | h
      ·exact HS.out i m h hm
      ·obtain rfl : i = j := by omega
       exact HT.out m hm)
     go_wp2
     go_roundw
     case rel => exact ⟨j + 1, by omega, by go_num, (by with_reducible repeat (first | exact Gr.refl _ | assumption | refine Gr.alloc ?_ _ | refine Gr.drewN ?_ _ | refine Gr.drew ?_ | refine Gr.setCell ?_ (by first | (dsimp only; omega) | (simp only [World.size_alloc]; omega)) _ | refine Gr.trans ?_ (by assumption))), HS'⟩
     case measure => simp only [intOf]; omega
  ·obtain rfl : k = l.length := by omega
   have HE := hide (apB_no (p := toR) HS.out)
   go_wp2
   go_ret
   exact ⟨ret_bool HE.out.symm, (by with_reducible repeat (first | exact Gr.refl _ | assumption | refine Gr.alloc ?_ _ | refine Gr.drewN ?_ _ | refine Gr.drew ?_ | refine Gr.setCell ?_ (by first | (dsimp only; omega) | (simp only [World.size_alloc]; omega)) _ | refine Gr.trans ?_ (by assumption)))⟩
end RG
end Go.Proofs.YtddhaiaapomdjaaGreat
