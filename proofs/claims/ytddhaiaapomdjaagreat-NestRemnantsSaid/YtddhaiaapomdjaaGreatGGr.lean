/-
  Nests, plain: the turns of a piece that have a place, and the first of their places.
  Nests: whether a piece may be cut from a sheet, on both sides.
  Nests: the first placement of a piece on a sheet, of the code (fit).
  Nests: Fit of the code: errors, then the first placement.
  Nests: Fit, of the code.
-/
import Derived.Test.YtddhaiaapomdjaaGreatGEr
import Derived.Test.YtddhaiaapomdjaaGreatGFr
import Derived.Test.YtddhaiaapomdjaaGreatNs2r
set_option linter.unusedVariables false
set_option linter.unusedSimpArgs false
namespace Go.Proofs.YtddhaiaapomdjaaGreat
set_option linter.unusedVariables false
set_option linter.unusedSimpArgs false
open Go Go.ChangeShapes Go.WideShapes Go.ChangeAt Go.RowKit Go.Deep

namespace RG
theorem arBr_small {r o : Rc} {g : Int} (hr : vrR r = true) (ho : vrR o = true) (h0 : 0 ≤ g) (h1 : g ≤ 14400) : (-9000000 ≤ (arBr r o g).l ∧ (arBr r o g).l ≤ 9000000) ∧ (-9000000 ≤ (arBr r o g).r ∧ (arBr r o g).r ≤ 9000000) ∧ (-9000000 ≤ (arBr r o g).b ∧ (arBr r o g).b ≤ 9000000) ∧ (-9000000 ≤ (arBr r o g).t ∧ (arBr r o g).t ≤ 9000000) := by
  have a := vrR_iff.1 hr
  have b := vrR_iff.1 ho
  have a1 := a.w; have a2 := a.h; have a3 := a.x; have a4 := a.y; have a5 := a.x'; have a6 := a.y'
  have b1 := b.w; have b2 := b.h; have b3 := b.x; have b4 := b.y; have b5 := b.x'; have b6 := b.y'
  simp only [arBr]
  omega
theorem fdB_small {l hard soft : List Rc} {t : St} (v1 : ∀ r ∈ l, vrR r = true) (v2 : ∀ r ∈ hard, vrR r = true) (v3 : ∀ r ∈ soft, vrR r = true) (h0 : 0 ≤ t.g) (h1 : t.g ≤ 14400) : BrS (fdB l hard soft t) := by
  intro b hb
  unfold fdB fdB1 at hb
  rw [List.mem_flatMap] at hb
  obtain ⟨r, hr, hb⟩ := hb
  have hvr := v1 r hr
  rcases List.mem_append.1 hb with h | h
  · obtain ⟨o, ho, rfl⟩ := List.mem_map.1 h
    have := arBr_small (g := 0) hvr (v2 o ho) (by omega) (by omega)
    omega
  · obtain ⟨o, ho, hb⟩ := List.mem_flatMap.1 h
    have k0 := arBr_small (g := 0) hvr (v3 o ho) (by omega) (by omega)
    have k1 := arBr_small (g := 1) hvr (v3 o ho) (by omega) (by omega)
    have kg := arBr_small (g := t.g) hvr (v3 o ho) h0 h1
    unfold ucBr at hb
    split at hb
    · simp only [List.mem_cons, List.not_mem_nil, or_false] at hb
      rcases hb with rfl | rfl | rfl | rfl | rfl <;> first | omega | (dsimp only; omega)
    · simp only [List.mem_cons, List.not_mem_nil, or_false] at hb
      subst hb
      omega
theorem fsO_perm {f : Br} {C all : List Br} {o : Option (Int × Int)} (hp : C.Perm (kpL f all)) (h : FsO f all o) : FsO f C o := by
  have k : ∀ x y, FreeP f C x y ↔ FreeP f all x y := fun x y => free_keep (fun b => hp.mem_iff) x y
  exact ⟨fun x y e => ⟨(k x y).2 (h.yes x y e).1, fun x' y' hf => (h.yes x y e).2 x' y' ((k x' y').1 hf)⟩, fun e x y hf => h.no e x y ((k x y).1 hf)⟩
theorem brS_perm {f : Br} {C all : List Br} (hp : C.Perm (kpL f all)) (h : BrS all) : BrS C := fun b hb => h b (List.mem_filter.1 (hp.mem_iff.1 hb)).1
/-- the turns below k that have a place -/
def tsL (o : Nat → Option (Int × Int)) : Nat → List (Fin 4)
  | 0 => []
  | k + 1 => if h : k < 4 ∧ (o k).isSome = true then tsL o k ++ [⟨k, h.1⟩] else tsL o k
theorem mem_tsL {o : Nat → Option (Int × Int)} {t : Fin 4} : ∀ {k : Nat}, t ∈ tsL o k ↔ t.val < k ∧ (o t.val).isSome = true
  | 0 => by simp [tsL]
  | k + 1 => by
    unfold tsL
    split
    · rename_i h
      rw [List.mem_append, mem_tsL, List.mem_singleton, Fin.ext_iff]
      constructor
      · rintro (⟨h1, h2⟩ | h1)
        · exact ⟨by omega, h2⟩
        · dsimp only at h1
          rw [h1]
          exact ⟨by omega, h.2⟩
      · rintro ⟨h1, h2⟩
        by_cases e : t.val = k
        · exact .inr e
        · exact .inl ⟨by omega, h2⟩
    · rename_i h
      rw [mem_tsL]
      constructor
      · rintro ⟨h1, h2⟩
        exact ⟨by omega, h2⟩
      · rintro ⟨h1, h2⟩
        refine ⟨?_, h2⟩
        by_cases e : t.val = k
        · rw [e] at h2
          exact absurd ⟨by omega, h2⟩ h
        · omega
theorem tsL_len (o : Nat → Option (Int × Int)) : ∀ k, (tsL o k).length ≤ k
  | 0 => by simp [tsL]
  | k + 1 => by
    have := tsL_len o k
    unfold tsL
    split
    · rw [List.length_append, List.length_singleton]; omega
    · omega
theorem tsL_no {o : Nat → Option (Int × Int)} {k : Nat} (h : o k = none) : tsL o (k + 1) = tsL o k := by
  rw [tsL, dif_neg (by rw [h]; simp)]
theorem tsL_yes {o : Nat → Option (Int × Int)} {k : Nat} {p : Int × Int} (hk : k < 4) (h : o k = some p) : tsL o (k + 1) = tsL o k ++ [⟨k, hk⟩] := by
  rw [tsL, dif_pos ⟨hk, by rw [h]; rfl⟩]
/-- the first of the places of all turns -/
structure FtO (o : Nat → Option (Int × Int)) (r : Option (Nat × Int × Int)) : Prop where
  yes : ∀ t x y, r = some (t, x, y) → t < 4 ∧ o t = some (x, y) ∧ ∀ t' x' y', t' < 4 → o t' = some (x', y') → y < y' ∨ y = y' ∧ (x < x' ∨ x = x' ∧ t ≤ t')
  no : r = none → ∀ t, t < 4 → o t = none
def plX (o : Nat → Option (Int × Int)) (k t : Nat) : Int := if t < k then ((o t).getD (0, 0)).1 else 0
def plY (o : Nat → Option (Int × Int)) (k t : Nat) : Int := if t < k then ((o t).getD (0, 0)).2 else 0
theorem pl_at {o : Nat → Option (Int × Int)} {k t : Nat} {x y : Int} (h : o t = some (x, y)) (hk : t < k) : plX o k t = x ∧ plY o k t = y := by
  unfold plX plY
  rw [if_pos hk, if_pos hk, h]
  exact ⟨rfl, rfl⟩
theorem ftO_none {o : Nat → Option (Int × Int)} {r : Option (Nat × Int × Int)} (h : FtO o r) (e : tsL o 4 = []) : r = none := by
  cases r with
  | none => rfl
  | some q =>
    obtain ⟨t, x, y⟩ := q
    obtain ⟨h1, h2, _⟩ := h.yes t x y rfl
    have : (⟨t, h1⟩ : Fin 4) ∈ tsL o 4 := mem_tsL.2 ⟨h1, by rw [h2]; rfl⟩
    rw [e] at this
    simp at this
theorem ftO_head {o : Nat → Option (Int × Int)} {r : Option (Nat × Int × Int)} (h : FtO o r) {u : Fin 4} {us : List (Fin 4)} (hp : (u :: us).Perm (tsL o 4)) (hs : (u :: us).Pairwise (fun a b => ¬ cmO (plX o 4) (plY o 4) b.val a.val < 0)) :
    r = some (u.val, plX o 4 u.val, plY o 4 u.val) := by
  have hm : ∀ t : Fin 4, t ∈ u :: us ↔ (o t.val).isSome = true := fun t => by
    rw [hp.mem_iff, mem_tsL]
    exact ⟨fun h => h.2, fun h => ⟨t.isLt, h⟩⟩
  have hu : (o u.val).isSome = true := (hm u).1 List.mem_cons_self
  obtain ⟨⟨x0, y0⟩, hq⟩ := Option.isSome_iff_exists.1 hu
  have eu := pl_at (k := 4) hq u.isLt
  cases r with
  | none => have := h.no rfl u.val u.isLt; rw [this] at hu; cases hu
  | some q =>
    obtain ⟨t, x, y⟩ := q
    obtain ⟨h1, h2, h3⟩ := h.yes t x y rfl
    have et := pl_at (k := 4) h2 h1
    have a := h3 u.val x0 y0 u.isLt hq
    have b : (⟨t, h1⟩ : Fin 4) ∈ u :: us := (hm _).2 (by show (o t).isSome = true; rw [h2]; rfl)
    rcases List.mem_cons.1 b with c | c
    · have ct : t = u.val := by rw [← c]
      subst ct
      rw [et.1, et.2]
    · have d := (List.pairwise_cons.1 hs).1 _ c
      rw [cmO_lt] at d
      dsimp only at d
      rw [et.1, et.2, eu.1, eu.2] at d
      have : t = u.val ∧ x = x0 ∧ y = y0 := by omega
      rw [eu.1, eu.2, this.1, this.2.1, this.2.2]
/-- the places so far, where they lie -/
structure PlK (w : World) (B : Nat) (o : Nat → Option (Int × Int)) (k : Nat) : Prop where
  x : ∀ t, t < 4 → w.cell? ⟨B, t * 2, none⟩ = some (iv (plX o k t))
  y : ∀ t, t < 4 → w.cell? ⟨B, t * 2 + 1, none⟩ = some (iv (plY o k t))
  f : ∀ i, w.frozen? ⟨B, i, none⟩ = false
  lt : B < w.heap.size
theorem PlK.gr {w w' : World} {B : Nat} {o : Nat → Option (Int × Int)} {k : Nat} (h : PlK w B o k) (g : Gr w w') : PlK w' B o k :=
  ⟨fun t ht => (g.cell _ _ h.lt).trans (h.x t ht), fun t ht => (g.cell _ _ h.lt).trans (h.y t ht), fun i => (g.frozen _ _ h.lt).trans (h.f i), Nat.lt_of_lt_of_le h.lt g.size⟩
theorem PlK.kx {X : Nat → Prop} {w w' : World} {B : Nat} {o : Nat → Option (Int × Int)} {k : Nat} (h : PlK w B o k) (g : Kx X w w') (hn : ¬ X B) : PlK w' B o k :=
  ⟨fun t ht => (g.cell h.lt hn _).trans (h.x t ht), fun t ht => (g.cell h.lt hn _).trans (h.y t ht), fun i => (g.frozen h.lt hn _).trans (h.f i), Nat.lt_of_lt_of_le h.lt g.size⟩
theorem PlK.pls {w : World} {B : Nat} {o : Nat → Option (Int × Int)} {k : Nat} (h : PlK w B o k) : Pls w B (plX o k) (plY o k) := ⟨h.x, h.y, h.lt⟩
theorem PlK.no {w : World} {B : Nat} {o : Nat → Option (Int × Int)} {k : Nat} (h : PlK w B o k) (e : o k = none) : PlK w B o (k + 1) := by
  have hx : plX o (k + 1) = plX o k := by
    funext t
    unfold plX
    by_cases c : t < k
    · rw [if_pos c, if_pos (by omega)]
    · rw [if_neg c]
      split
      · obtain rfl : t = k := by omega
        rw [e]; rfl
      · rfl
  have hy : plY o (k + 1) = plY o k := by
    funext t
    unfold plY
    by_cases c : t < k
    · rw [if_pos c, if_pos (by omega)]
    · rw [if_neg c]
      split
      · obtain rfl : t = k := by omega
        rw [e]; rfl
      · rfl
  exact ⟨by rw [hx]; exact h.x, by rw [hy]; exact h.y, h.f, h.lt⟩
theorem PlK.yes {w : World} {B : Nat} {o : Nat → Option (Int × Int)} {k : Nat} {x y : Int} (h : PlK w B o k) (e : o k = some (x, y)) (hk : k < 4) : PlK ((w.setCell ⟨B, k * 2, none⟩ (iv x)).setCell ⟨B, k * 2 + 1, none⟩ (iv y)) B o (k + 1) := by
  have old : ∀ t, t ≠ k → plX o (k + 1) t = plX o k t ∧ plY o (k + 1) t = plY o k t := fun t ht => by
    unfold plX plY
    by_cases c : t < k
    · rw [if_pos c, if_pos (by omega), if_pos c, if_pos (by omega)]; exact ⟨rfl, rfl⟩
    · rw [if_neg c, if_neg (by omega), if_neg c, if_neg (by omega)]; exact ⟨rfl, rfl⟩
  have new := pl_at (k := k + 1) e (Nat.lt_succ_self k)
  refine ⟨fun t ht => ?_, fun t ht => ?_, fun i => ?_, ?_⟩
  · by_cases c : t = k
    · subst c
      rw [new.1]
      have := h.x t ht
      simp [go_sem, this]
    · rw [(old t c).1, ← h.x t ht]
      have h1 : t * 2 ≠ k * 2 + 1 := by omega
      have h2 : t * 2 ≠ k * 2 := by omega
      simp [go_sem, h1, h2, c]
  · by_cases c : t = k
    · subst c
      rw [new.2]
      have := h.y t ht
      simp [go_sem, this]
    · rw [(old t c).2, ← h.y t ht]
      have h1 : t * 2 + 1 ≠ k * 2 + 1 := by omega
      have h2 : t * 2 + 1 ≠ k * 2 := by omega
      simp [go_sem, h1, h2, c]
  · simp [go_sem, h.f i]
  · simpa using h.lt
end RG
end Go.Proofs.YtddhaiaapomdjaaGreat
set_option linter.unusedVariables false
set_option linter.unusedSimpArgs false
namespace Go.Proofs.YtddhaiaapomdjaaGreat
set_option linter.unusedVariables false
set_option linter.unusedSimpArgs false
open Go Go.ChangeShapes Go.WideShapes Go.ChangeAt Go.RowKit Go.Deep

namespace RG
/-- the grain of a piece that is turned follows that of a sheet -/
def gfB (p s t : Int) : Bool := p == 0 || s == 0 || ((p == s) == (t.tmod 2 == 0))
theorem grainFits_any (p s t : Int) (w : World) (h0 : 0 ≤ t) (h3 : t ≤ 3) :
    Calls Tryz.prog 105 #[iv p, iv s, iv t] w fun e w' => e = .returned (.bool (gfB p s t)) ∧ w = w' := by
  have ht : t = 0 ∨ t = 1 ∨ t = 2 ∨ t = 3 := by omega
  rcases ht with rfl | rfl | rfl | rfl <;>
  · go_enter Tryz.func105, Tryz.ntmps105
    go_wp2
    all_goals
      go_ret
      exact ⟨ret_bool (by simp [gfB, *] <;> simp only [beq_iff_eq, beq_eq_false_iff_ne, ne_eq] at * <;> first | omega | rfl | (intros; simp_all; try first | omega | rfl)), rfl⟩
def alB (mt mt' : ByteArray) (ga ga' gr gr' t : Int) : Bool := decide (mt.toList = mt'.toList) && (ga == ga' && (wiB t 0 3 && gfB gr gr' t))
set_option maxHeartbeats 2000000 in
theorem Allowed_any (nm mt : ByteArray) (ga gr : Int) (v4 v5 v6 : Value) (nm' mt' : ByteArray) (ga' gr' : Int) (u4 u5 u6 u7 : Value) (t : Int) (w : World) :
    Calls Tryz.prog 66 #[.agg #[.string nm, .string mt, iv ga, iv gr, v4, v5, v6], .agg #[.string nm', .string mt', iv ga', iv gr', u4, u5, u6, u7], iv t] w fun e w' => e = .returned (.bool (alB mt mt' ga ga' gr gr' t)) ∧ Gr w w' := by
  cases h : wiB t 0 3 with
  | true =>
    obtain ⟨h0, h3⟩ := wiB_iff.1 h
    go_enter Tryz.func66, Tryz.ntmps66
    go_wp2_with (first | (go_at_call 60; refine (nwithin_any _ _ _ _).mono ?_; rintro e w1 ⟨rfl, rfl⟩) | (go_at_call 105; refine (grainFits_any _ _ _ _ (by omega) (by omega)).mono ?_; rintro e w1 ⟨rfl, rfl⟩))
    all_goals
      go_ret
      exact ⟨ret_bool (by simp [alB, *] <;> simp only [beq_iff_eq, beq_eq_false_iff_ne, ne_eq] at * <;> first | omega | rfl | (intros; simp_all; try first | omega | rfl)), (by with_reducible repeat (first | exact Gr.refl _ | assumption | refine Gr.alloc ?_ _ | refine Gr.drewN ?_ _ | refine Gr.drew ?_ | refine Gr.setCell ?_ (by first | (dsimp only; omega) | (simp only [World.size_alloc]; omega) | (refine Gr.size ?_; (repeat (first | exact Gr.refl _ | assumption | refine Gr.alloc ?_ _ | refine Gr.drewN ?_ _ | refine Gr.drew ?_ | refine Gr.trans ?_ (by assumption))); done)) _ | refine Gr.trans ?_ (by assumption)))⟩
  | false =>
    go_enter Tryz.func66, Tryz.ntmps66
    go_wp2_with (first | (go_at_call 60; refine (nwithin_any _ _ _ _).mono ?_; rintro e w1 ⟨rfl, rfl⟩))
    all_goals
      go_ret
      exact ⟨ret_bool (by simp [alB, *] <;> simp only [beq_iff_eq, beq_eq_false_iff_ne, ne_eq] at * <;> first | omega | rfl | (intros; simp_all; try first | omega | rfl)), (by with_reducible repeat (first | exact Gr.refl _ | assumption | refine Gr.alloc ?_ _ | refine Gr.drewN ?_ _ | refine Gr.drew ?_ | refine Gr.setCell ?_ (by first | (dsimp only; omega) | (simp only [World.size_alloc]; omega) | (refine Gr.size ?_; (repeat (first | exact Gr.refl _ | assumption | refine Gr.alloc ?_ _ | refine Gr.drewN ?_ _ | refine Gr.drew ?_ | refine Gr.trans ?_ (by assumption))); done)) _ | refine Gr.trans ?_ (by assumption)))⟩
end RG
end Go.Proofs.YtddhaiaapomdjaaGreat
set_option linter.unusedVariables false
set_option linter.unusedSimpArgs false
namespace Go.Proofs.YtddhaiaapomdjaaGreat
set_option linter.unusedVariables false
set_option linter.unusedSimpArgs false
open Go Go.ChangeShapes Go.WideShapes Go.ChangeAt Go.RowKit Go.Deep

namespace RG
theorem mv0 (l : List Rc) : l.map (mvR 0 0) = l := by
  have : (mvR 0 0 : Rc → Rc) = id := by
    funext r
    simp [mvR]
  rw [this, List.map_id]
/-- the inner block of a sheet -/
abbrev inmR (wd ht m : Int) : Rc := ⟨m, m, wd - 2 * m, ht - 2 * m⟩
/-- the place of each turn -/
structure TnO (wd ht : Int) (al : Nat → Bool) (rs hard soft : List Rc) (t : St) (o : Nat → Option (Int × Int)) : Prop where
  no : ∀ k, k < 4 → al k = false → o k = none
  yes : ∀ k, k < 4 → al k = true → FsO (fdV (inmR wd ht t.m) (tnL rs k rs)) (fdB (tnL rs k rs) hard soft t) (o k)
theorem made5 (w : World) (a1 a2 a3 a4 a5 : Array Value) (t1 t2 t3 t4 t5 : TypeId) (W : World) (hW : W = ((((w.alloc (.cells a1 t1)).alloc (.cells a2 t2)).alloc (.cells a3 t3)).alloc (.cells a4 t4)).alloc (.cells a5 t5)) :
    (Made W w.heap.size a1 ∧ Made W (w.heap.size + 1) a2 ∧ Made W (w.heap.size + 1 + 1) a3 ∧ Made W (w.heap.size + 1 + 1 + 1) a4 ∧ Made W (w.heap.size + 1 + 1 + 1 + 1) a5) ∧ W.heap.size = w.heap.size + 1 + 1 + 1 + 1 + 1 ∧ Gr w W := by
  subst hW
  have e1 := World.size_alloc w (.cells a1 t1)
  have e2 := World.size_alloc (w.alloc (.cells a1 t1)) (.cells a2 t2)
  have e3 := World.size_alloc ((w.alloc (.cells a1 t1)).alloc (.cells a2 t2)) (.cells a3 t3)
  have e4 := World.size_alloc (((w.alloc (.cells a1 t1)).alloc (.cells a2 t2)).alloc (.cells a3 t3)) (.cells a4 t4)
  have e5 := World.size_alloc ((((w.alloc (.cells a1 t1)).alloc (.cells a2 t2)).alloc (.cells a3 t3)).alloc (.cells a4 t4)) (.cells a5 t5)
  have m1 := Made.new w a1 t1
  have m2 := Made.new (w.alloc (.cells a1 t1)) a2 t2
  have m3 := Made.new ((w.alloc (.cells a1 t1)).alloc (.cells a2 t2)) a3 t3
  have m4 := Made.new (((w.alloc (.cells a1 t1)).alloc (.cells a2 t2)).alloc (.cells a3 t3)) a4 t4
  have m5 := Made.new ((((w.alloc (.cells a1 t1)).alloc (.cells a2 t2)).alloc (.cells a3 t3)).alloc (.cells a4 t4)) a5 t5
  rw [e1] at m2 e2
  rw [e2] at m3 e3
  rw [e3] at m4 e4
  rw [e4] at m5 e5
  exact ⟨⟨m1.gr (by with_reducible repeat (first | exact Gr.refl _ | assumption | refine Gr.alloc ?_ _ | refine Gr.drewN ?_ _ | refine Gr.drew ?_ | refine Gr.setCell ?_ (by first | (dsimp only; omega) | (simp only [World.size_alloc]; omega) | (refine Gr.size ?_; (repeat (first | exact Gr.refl _ | assumption | refine Gr.alloc ?_ _ | refine Gr.drewN ?_ _ | refine Gr.drew ?_ | refine Gr.trans ?_ (by assumption))); done)) _ | refine Gr.trans ?_ (by assumption))), m2.gr (by with_reducible repeat (first | exact Gr.refl _ | assumption | refine Gr.alloc ?_ _ | refine Gr.drewN ?_ _ | refine Gr.drew ?_ | refine Gr.setCell ?_ (by first | (dsimp only; omega) | (simp only [World.size_alloc]; omega) | (refine Gr.size ?_; (repeat (first | exact Gr.refl _ | assumption | refine Gr.alloc ?_ _ | refine Gr.drewN ?_ _ | refine Gr.drew ?_ | refine Gr.trans ?_ (by assumption))); done)) _ | refine Gr.trans ?_ (by assumption))), m3.gr (by with_reducible repeat (first | exact Gr.refl _ | assumption | refine Gr.alloc ?_ _ | refine Gr.drewN ?_ _ | refine Gr.drew ?_ | refine Gr.setCell ?_ (by first | (dsimp only; omega) | (simp only [World.size_alloc]; omega) | (refine Gr.size ?_; (repeat (first | exact Gr.refl _ | assumption | refine Gr.alloc ?_ _ | refine Gr.drewN ?_ _ | refine Gr.drew ?_ | refine Gr.trans ?_ (by assumption))); done)) _ | refine Gr.trans ?_ (by assumption))), m4.gr (by with_reducible repeat (first | exact Gr.refl _ | assumption | refine Gr.alloc ?_ _ | refine Gr.drewN ?_ _ | refine Gr.drew ?_ | refine Gr.setCell ?_ (by first | (dsimp only; omega) | (simp only [World.size_alloc]; omega) | (refine Gr.size ?_; (repeat (first | exact Gr.refl _ | assumption | refine Gr.alloc ?_ _ | refine Gr.drewN ?_ _ | refine Gr.drew ?_ | refine Gr.trans ?_ (by assumption))); done)) _ | refine Gr.trans ?_ (by assumption))), m5⟩, e5, (by with_reducible repeat (first | exact Gr.refl _ | assumption | refine Gr.alloc ?_ _ | refine Gr.drewN ?_ _ | refine Gr.drew ?_ | refine Gr.setCell ?_ (by first | (dsimp only; omega) | (simp only [World.size_alloc]; omega) | (refine Gr.size ?_; (repeat (first | exact Gr.refl _ | assumption | refine Gr.alloc ?_ _ | refine Gr.drewN ?_ _ | refine Gr.drew ?_ | refine Gr.trans ?_ (by assumption))); done)) _ | refine Gr.trans ?_ (by assumption)))⟩
def ftv : Option (Nat × Int × Int) → Value
  | some (t, x, y) => .tuple #[atv 0 0 x y t, .bool true]
  | none => .tuple #[atv 0 0 0 0 0, .bool false]
/-- what a sheet that is valid has -/
structure ShG (s : ShT) : Prop where
  wd : 1 ≤ s.wd ∧ s.wd ≤ 1048576
  ht : 1 ≤ s.ht ∧ s.ht ≤ 1048576
  n : (s.cl ++ s.us).length ≤ 52
  v : ∀ r ∈ s.cl ++ s.us, vrR r = true
set_option maxHeartbeats 8000000 in
set_option maxRecDepth 100000 in
theorem fit_any (s : ShT) (A : Option Addr) (c : Nat) (L : List RS) (p : Pc) (b : Bool) (t : St) (o : Nat → Option (Int × Int)) (r : Option (Nat × Int × Int)) (w : World) (hs : ShW w s) (hT : SlRR w A c L) (hp : PcW w p) (hb : CoB p.r b) (h0 : vpE p b = 0)
    (hS : ShG s) (hg : 0 ≤ t.g ∧ t.g ≤ 14400) (hm : 0 ≤ t.m ∧ t.m ≤ 14400) (hL : L.length ≤ 1000) (hN : (allR L).length ≤ 1000) (v3 : ∀ r ∈ allR L, vrR r = true)
    (ho : TnO s.wd s.ht (fun k => alB p.mt s.mt p.ga s.ga p.gr s.gr k) p.r (s.cl ++ s.us) (allR L) t o) (hr : FtO o r) :
    Calls Tryz.prog 27 #[s.v, .slice A L.length c, p.v, stvv t] w fun e w' => e = .returned (ftv r) ∧ Gr w w' := by
  have HS := hide hs
  have HT := hide hT
  have HG := (vpE_good h0).1
  have HAL := hide (fun (k : Nat) (w' : World) => Allowed_any p.nm p.mt p.ga p.gr (.slice p.rA p.r.length p.rc) (.slice p.cA p.c.length p.cc) (.slice p.fA p.f.length p.fc) s.nm s.mt s.ga s.gr (iv s.wd) (iv s.ht) (.slice s.cA s.cl.length s.cc) (.slice s.uA s.us.length s.uc) k w')
  have HPU := hide (fun (k : Nat) (hk : k < 4) (w' : World) (gq : Gr w w') => show Calls Tryz.prog 67 #[p.v, atv 0 0 0 0 k] w' fun e w'' => PutOk p.nm p.mt p.ga p.gr (tnL p.r k p.r) (tnL p.r k p.c) (tnL p.r k p.f) w' w'' e from by
    have h := Put_ok p b 0 0 0 0 k w' (hp.gr gq) hb h0 (by omega) (by omega) (by omega)
    rw [mv0, mv0, mv0] at h
    have hv := HG.va k
    refine h.mono fun e w'' h => ?_
    unfold PutR at h
    rw [hv.1, hv.2.1, hv.2.2] at h
    exact h)
  have HFI := hide (fun (k : Nat) (hk : k < 4) (B : Option Addr) (d : Nat) (w' : World) (gq : Gr w w') (hl : SlR w' B d (tnL p.r k p.r)) => fieldOf_any s t A c L B d (tnL p.r k p.r) w' (hs.gr gq) (hT.gr gq) hl hS.wd hS.ht hg hm hL hN hS.n (by unfold tnL; rw [List.length_map]; have := HG.n1; omega) (vaB_iff.1 (HG.va k).1) hS.v v3)
  have HFS := hide (fun (k : Nat) (hk : k < 4) (ha : alB p.mt s.mt p.ga s.ga p.gr s.gr k = true) (D : Option Addr) (q : Nat) (C : List Br) (w' : World) (hc : SlBr w' D q C) (hpm : C.Perm (kpL (fdV ⟨t.m, t.m, s.wd - 2 * t.m, s.ht - 2 * t.m⟩ (tnL p.r k p.r)) (fdB (tnL p.r k p.r) (s.cl ++ s.us) (allR L) t))) (hup : BrUp C) => show Calls Tryz.prog 69 #[fdv (fdV ⟨t.m, t.m, s.wd - 2 * t.m, s.ht - 2 * t.m⟩ (tnL p.r k p.r)) D C.length q] w' fun e w'' => e = .returned (fsv (o k)) ∧ Gr w' w'' from
    first_any _ D q C (o k) w' hc (brS_perm hpm (fdB_small (vaB_iff.1 (HG.va k).1) hS.v v3 hg.1 hg.2)) hup (by
      have e1 := hpm.length_eq
      have e2 := kpL_len (fdV ⟨t.m, t.m, s.wd - 2 * t.m, s.ht - 2 * t.m⟩ (tnL p.r k p.r)) (fdB (tnL p.r k p.r) (s.cl ++ s.us) (allR L) t)
      have e3 := fdB_len (hard := s.cl ++ s.us) (soft := allR L) (t := t) (m := 5052) (by have := hS.n; omega) (tnL p.r k p.r)
      have e4 : (tnL p.r k p.r).length ≤ 12 := by unfold tnL; rw [List.length_map]; exact HG.n1
      omega) (fsO_perm hpm (ho.yes k hk ha)))
  have HNO := hide ho.no
  have HRH := hide (fun (u : Fin 4) (us : List (Fin 4)) => ftO_head (us := us) (u := u) hr)
  have HRN := hide (ftO_none hr)
  obtain ⟨nm, mt, ga, gr, wd, ht, cA, cc, cl, uA, uc, us⟩ := s
  obtain ⟨nm', mt', ga', gr', rA, rc, rl, cA', cc', cl', fA, fc, fl⟩ := p
  obtain ⟨g, m, cm⟩ := t
  dsimp only at HAL HPU HFI HFS HNO
  clear hs hT hp hb h0 hS hg hm hL hN v3 ho hr HG HS HT
  go_enter Tryz.func27, Tryz.ntmps27
  go_wp2_with fail
  obtain ⟨wl, hwl⟩ : ∃ W, W = ((((w.alloc (.cells #[.string nm, .string mt, iv ga, iv gr, iv wd, iv ht, .slice cA cl.length cc, .slice uA us.length uc] 24)).alloc (.cells #[.string nm', .string mt', iv ga', iv gr', .slice rA rl.length rc, .slice cA' cl'.length cc', .slice fA fl.length fc] 27)).alloc (.cells #[iv g, iv m, .bool cm] 29)).alloc (.cells #[iv 0, iv 0, iv 0, iv 0, iv 0] 33)).alloc (.cells #[iv 0, iv 0, iv 0, iv 0, iv 0, iv 0, iv 0, iv 0] 112) := ⟨_, rfl⟩
  obtain ⟨⟨M4, M6, M7, M8, MP⟩, hsz, gwl⟩ := made5 w _ _ _ _ _ _ _ _ _ _ wl hwl
  rw [← hwl]
  clear hwl
  generalize hb10 : w.heap.size + 1 + 1 + 1 + 1 = b10 at *
  generalize hb8 : w.heap.size + 1 + 1 + 1 = b8 at *
  generalize hb7 : w.heap.size + 1 + 1 = b7 at *
  generalize hb6 : w.heap.size + 1 = b6 at *
  generalize hb4 : w.heap.size = b4 at M4 ⊢
  have HB := hide (And.intro M4 (And.intro M6 M7))
  have H8 := hide M8
  have HP0 := hide (show PlK wl b10 o 0 from ⟨fun t ht => by
      rw [MP.2.1]
      show _ = some (iv (if t < 0 then _ else 0))
      rw [if_neg (Nat.not_lt_zero _)]
      match t, ht with
      | 0, _ => rfl
      | 1, _ => rfl
      | 2, _ => rfl
      | 3, _ => rfl, fun t ht => by
      rw [MP.2.1]
      show _ = some (iv (if t < 0 then _ else 0))
      rw [if_neg (Nat.not_lt_zero _)]
      match t, ht with
      | 0, _ => rfl
      | 1, _ => rfl
      | 2, _ => rfl
      | 3, _ => rfl, MP.2.2, MP.1⟩)
  clear M4 M6 M7 M8 MP
  go_loopw [11, 18] (fun tv i wr => ∃ (k : Nat) (ts : List (Fin 4)) (D : Option Addr) (q : Nat), k ≤ 4 ∧ i = iv k ∧ tv = .slice D ts.length q ∧ Hid (ts = tsL o k) ∧ Hid (PlK wr b10 o k) ∧ Hid (OwnL wr wl.heap.size 3 1 inL (.slice D ts.length q) (ts.map fun t => (t.val : Int))) ∧ Hid (Kx (fun i => i = b10) wl wr)) (fun _ i _ => 4 - (intOf i).toNat)
  case atStart => exact ⟨0, [], none, 0, by omega, rfl, rfl, hide rfl, HP0, hide (own_nil _ _ _ _ _), hide (Kx.refl _ _)⟩
  case round =>
    clear HP0
    obtain ⟨k, ts, D, q, hk, rfl, rfl, hts, HP, HO, HK⟩ := hrel
    have gw : Gr w wr := HK.out.toGr gwl (fun i hi => by omega)
    have HBr := hide (And.intro (Made.kx HB.out.1 HK.out (by omega)) (And.intro (Made.kx HB.out.2.1 HK.out (by omega)) (Made.kx HB.out.2.2 HK.out (by omega))))
    have hswl := HK.out.size
    by_cases hk4 : k < 4
    · have hki : (k : Int) < 4 := by omega
      have hk0 : (0 : Int) ≤ (k : Int) := by omega
      have hlts : ts.length ≤ 4 := by rw [hts.out]; exact Nat.le_trans (tsL_len o k) hk
      obtain ⟨l4, y4, _⟩ := HBr.out.1.gr (Gr.refl wr)
      have a40 := y4 0
      have a41 := y4 1
      have a42 := y4 2
      have a43 := y4 3
      have a44 := y4 4
      have a45 := y4 5
      have a46 := y4 6
      have a47 := y4 7
      clear y4
      obtain ⟨l6, y6, _⟩ := HBr.out.2.1.gr (Gr.refl wr)
      have a60 := y6 0
      have a61 := y6 1
      have a62 := y6 2
      have a63 := y6 3
      have a64 := y6 4
      have a65 := y6 5
      have a66 := y6 6
      clear y6
      obtain ⟨l7, y7, _⟩ := HBr.out.2.2.gr (Gr.refl wr)
      have a70 := y7 0
      have a71 := y7 1
      have a72 := y7 2
      clear y7
      have HA := hide (HAL.out k)
      cases hal : alB mt' mt ga' ga gr' gr k with
      | false =>
        have hno := HNO.out k hk4 hal
        rw [hal] at HA
        clear hal
        go_wp2_with (go_at_call 66; refine (HA.out _).mono ?_; rintro e w1 ⟨rfl, g1⟩)
        go_roundw
        case rel => exact ⟨k + 1, ts, D, q, by omega, by go_num, rfl, by exact hide (by rw [hts.out, tsL_no hno]), hide ((HP.out.no hno).gr (by with_reducible repeat (first | exact Gr.refl _ | assumption | refine Gr.alloc ?_ _ | refine Gr.drewN ?_ _ | refine Gr.drew ?_ | refine Gr.setCell ?_ (by first | (dsimp only; omega) | (simp only [World.size_alloc]; omega) | (refine Gr.size ?_; (repeat (first | exact Gr.refl _ | assumption | refine Gr.alloc ?_ _ | refine Gr.drewN ?_ _ | refine Gr.drew ?_ | refine Gr.trans ?_ (by assumption))); done)) _ | refine Gr.trans ?_ (by assumption)))), hide (HO.out.gr (by with_reducible repeat (first | exact Gr.refl _ | assumption | refine Gr.alloc ?_ _ | refine Gr.drewN ?_ _ | refine Gr.drew ?_ | refine Gr.setCell ?_ (by first | (dsimp only; omega) | (simp only [World.size_alloc]; omega) | (refine Gr.size ?_; (repeat (first | exact Gr.refl _ | assumption | refine Gr.alloc ?_ _ | refine Gr.drewN ?_ _ | refine Gr.drew ?_ | refine Gr.trans ?_ (by assumption))); done)) _ | refine Gr.trans ?_ (by assumption)))), hide (HK.out.gr (by with_reducible repeat (first | exact Gr.refl _ | assumption | refine Gr.alloc ?_ _ | refine Gr.drewN ?_ _ | refine Gr.drew ?_ | refine Gr.setCell ?_ (by first | (dsimp only; omega) | (simp only [World.size_alloc]; omega) | (refine Gr.size ?_; (repeat (first | exact Gr.refl _ | assumption | refine Gr.alloc ?_ _ | refine Gr.drewN ?_ _ | refine Gr.drew ?_ | refine Gr.trans ?_ (by assumption))); done)) _ | refine Gr.trans ?_ (by assumption))))⟩
        case measure => simp only [intOf]; omega
      | true =>
        have HF := hide (HFS.out k hk4 hal)
        rw [hal] at HA
        clear hal
        go_wp2_with fail
        refine (HA.out _).mono ?_
        rintro e w1 ⟨rfl, g1⟩
        clear l4 l6 l7 a40 a41 a42 a43 a44 a45 a46 a47 a60 a61 a62 a63 a64 a65 a66 a70 a71 a72
        obtain ⟨l4, y4, _⟩ := HBr.out.1.gr g1
        have a40 := y4 0
        have a41 := y4 1
        have a42 := y4 2
        have a43 := y4 3
        have a44 := y4 4
        have a45 := y4 5
        have a46 := y4 6
        have a47 := y4 7
        clear y4
        obtain ⟨l6, y6, _⟩ := HBr.out.2.1.gr g1
        have a60 := y6 0
        have a61 := y6 1
        have a62 := y6 2
        have a63 := y6 3
        have a64 := y6 4
        have a65 := y6 5
        have a66 := y6 6
        clear y6
        obtain ⟨l7, y7, _⟩ := HBr.out.2.2.gr g1
        have a70 := y7 0
        have a71 := y7 1
        have a72 := y7 2
        clear y7
        go_wp2_with fail
        refine (HPU.out k hk4 _ (gw.trans g1)).mono ?_
        rintro e w2 ⟨D1, D2, D3, q1, q2, q3, rfl, ⟨s1, _, _⟩, _, g2⟩
        have g12 := g1.trans g2
        have HS1 := hide s1
        clear s1
        clear l4 l6 l7 a40 a41 a42 a43 a44 a45 a46 a47 a60 a61 a62 a63 a64 a65 a66 a70 a71 a72
        obtain ⟨l4, y4, _⟩ := HBr.out.1.gr g12
        have a40 := y4 0
        have a41 := y4 1
        have a42 := y4 2
        have a43 := y4 3
        have a44 := y4 4
        have a45 := y4 5
        have a46 := y4 6
        have a47 := y4 7
        clear y4
        obtain ⟨l6, y6, _⟩ := HBr.out.2.1.gr g12
        have a60 := y6 0
        have a61 := y6 1
        have a62 := y6 2
        have a63 := y6 3
        have a64 := y6 4
        have a65 := y6 5
        have a66 := y6 6
        clear y6
        obtain ⟨l7, y7, _⟩ := HBr.out.2.2.gr g12
        have a70 := y7 0
        have a71 := y7 1
        have a72 := y7 2
        clear y7
        go_wp2_with fail
        refine (HFI.out k hk4 D1 q1 _ (by with_reducible repeat (first | exact Gr.refl _ | assumption | refine Gr.alloc ?_ _ | refine Gr.drewN ?_ _ | refine Gr.drew ?_ | refine Gr.setCell ?_ (by first | (dsimp only; omega) | (simp only [World.size_alloc]; omega) | (refine Gr.size ?_; (repeat (first | exact Gr.refl _ | assumption | refine Gr.alloc ?_ _ | refine Gr.drewN ?_ _ | refine Gr.drew ?_ | refine Gr.trans ?_ (by assumption))); done)) _ | refine Gr.trans ?_ (by assumption))) (HS1.out.gr (by with_reducible repeat (first | exact Gr.refl _ | assumption | refine Gr.alloc ?_ _ | refine Gr.drewN ?_ _ | refine Gr.drew ?_ | refine Gr.setCell ?_ (by first | (dsimp only; omega) | (simp only [World.size_alloc]; omega) | (refine Gr.size ?_; (repeat (first | exact Gr.refl _ | assumption | refine Gr.alloc ?_ _ | refine Gr.drewN ?_ _ | refine Gr.drew ?_ | refine Gr.trans ?_ (by assumption))); done)) _ | refine Gr.trans ?_ (by assumption))))).mono ?_
        rintro e w5 ⟨D5, q5, C5, rfl, hsl, hperm, hup, g5⟩
        have HF5 := hide (HF.out D5 q5 C5 w5 hsl hperm hup)
        have g15 : Gr wr w5 := (by with_reducible repeat (first | exact Gr.refl _ | assumption | refine Gr.alloc ?_ _ | refine Gr.drewN ?_ _ | refine Gr.drew ?_ | refine Gr.setCell ?_ (by first | (dsimp only; omega) | (simp only [World.size_alloc]; omega) | (refine Gr.size ?_; (repeat (first | exact Gr.refl _ | assumption | refine Gr.alloc ?_ _ | refine Gr.drewN ?_ _ | refine Gr.drew ?_ | refine Gr.trans ?_ (by assumption))); done)) _ | refine Gr.trans ?_ (by assumption)))
        clear l4 l6 l7 a40 a41 a42 a43 a44 a45 a46 a47 a60 a61 a62 a63 a64 a65 a66 a70 a71 a72
        clear hsl hperm hup g5 HF
        obtain ⟨l4, y4, _⟩ := HBr.out.1.gr g15
        have a40 := y4 0
        have a41 := y4 1
        have a42 := y4 2
        have a43 := y4 3
        have a44 := y4 4
        have a45 := y4 5
        have a46 := y4 6
        have a47 := y4 7
        clear y4
        obtain ⟨l6, y6, _⟩ := HBr.out.2.1.gr g15
        have a60 := y6 0
        have a61 := y6 1
        have a62 := y6 2
        have a63 := y6 3
        have a64 := y6 4
        have a65 := y6 5
        have a66 := y6 6
        clear y6
        obtain ⟨l7, y7, _⟩ := HBr.out.2.2.gr g15
        have a70 := y7 0
        have a71 := y7 1
        have a72 := y7 2
        clear y7
        cases hok : o k with
        | none =>
          rw [hok, show fsv none = .tuple #[.agg #[iv 0, iv 0], .bool false] from rfl] at HF5
          go_wp2_with fail
          refine HF5.out.mono ?_
          rintro e w6 ⟨rfl, g6⟩
          go_wp2
          go_roundw
          case rel => exact ⟨k + 1, ts, D, q, by omega, by go_num, rfl, by exact hide (by rw [hts.out, tsL_no hok]), hide ((HP.out.no hok).gr (by with_reducible repeat (first | exact Gr.refl _ | assumption | refine Gr.alloc ?_ _ | refine Gr.drewN ?_ _ | refine Gr.drew ?_ | refine Gr.setCell ?_ (by first | (dsimp only; omega) | (simp only [World.size_alloc]; omega) | (refine Gr.size ?_; (repeat (first | exact Gr.refl _ | assumption | refine Gr.alloc ?_ _ | refine Gr.drewN ?_ _ | refine Gr.drew ?_ | refine Gr.trans ?_ (by assumption))); done)) _ | refine Gr.trans ?_ (by assumption)))), hide (HO.out.gr (by with_reducible repeat (first | exact Gr.refl _ | assumption | refine Gr.alloc ?_ _ | refine Gr.drewN ?_ _ | refine Gr.drew ?_ | refine Gr.setCell ?_ (by first | (dsimp only; omega) | (simp only [World.size_alloc]; omega) | (refine Gr.size ?_; (repeat (first | exact Gr.refl _ | assumption | refine Gr.alloc ?_ _ | refine Gr.drewN ?_ _ | refine Gr.drew ?_ | refine Gr.trans ?_ (by assumption))); done)) _ | refine Gr.trans ?_ (by assumption)))), hide (HK.out.gr (by with_reducible repeat (first | exact Gr.refl _ | assumption | refine Gr.alloc ?_ _ | refine Gr.drewN ?_ _ | refine Gr.drew ?_ | refine Gr.setCell ?_ (by first | (dsimp only; omega) | (simp only [World.size_alloc]; omega) | (refine Gr.size ?_; (repeat (first | exact Gr.refl _ | assumption | refine Gr.alloc ?_ _ | refine Gr.drewN ?_ _ | refine Gr.drew ?_ | refine Gr.trans ?_ (by assumption))); done)) _ | refine Gr.trans ?_ (by assumption))))⟩
          case measure => simp only [intOf]; omega
        | some pt =>
          obtain ⟨x, y⟩ := pt
          rw [hok, show fsv (some (x, y)) = .tuple #[.agg #[iv x, iv y], .bool true] from rfl] at HF5
          go_wp2_with fail
          refine HF5.out.mono ?_
          rintro e w6 ⟨rfl, g6⟩
          have g16 : Gr wr w6 := g15.trans g6
          have HP6 := hide (HP.out.gr g16)
          have HO6 := hide (HO.out.gr g16)
          have HK6 := hide (HK.out.gr g16)
          have r0 := HP6.out.x k hk4
          have r1 := HP6.out.y k hk4
          have r2 := HP6.out.f (k * 2)
          have r3 := HP6.out.f (k * 2 + 1)
          have r4 := HP6.out.lt
          go_upto_region 12 with fail
          have HP7 := hide ((HP6.out.yes hok hk4).gr (show Gr _ (((w6.setCell ⟨b10, k * 2, none⟩ (iv x)).setCell ⟨b10, k * 2 + 1, none⟩ (iv y)).alloc (.cells #[iv x, iv y] 110)) from Gr.alloc (Gr.refl _) _))
          have hblo : b10 < wl.heap.size := by omega
          have HO7 := hide ((own_setK (own_setK HO6.out (k * 2) (iv x) hblo) (k * 2 + 1) (iv y) hblo).gr (show Gr _ (((w6.setCell ⟨b10, k * 2, none⟩ (iv x)).setCell ⟨b10, k * 2 + 1, none⟩ (iv y)).alloc (.cells #[iv x, iv y] 110)) from Gr.alloc (Gr.refl _) _))
          have HK7 := hide (((HK6.out.set (k * 2) (iv x) (.inl rfl)).set (k * 2 + 1) (iv y) (.inl rfl)).gr (show Gr _ (((w6.setCell ⟨b10, k * 2, none⟩ (iv x)).setCell ⟨b10, k * 2 + 1, none⟩ (iv y)).alloc (.cells #[iv x, iv y] 110)) from Gr.alloc (Gr.refl _) _))
          have hs8 : wl.heap.size ≤ (((w6.setCell ⟨b10, k * 2, none⟩ (iv x)).setCell ⟨b10, k * 2 + 1, none⟩ (iv y)).alloc (.cells #[iv x, iv y] 110)).heap.size := HK7.out.size
          clear l4 l6 l7 a40 a41 a42 a43 a44 a45 a46 a47 a60 a61 a62 a63 a64 a65 a66 a70 a71 a72 r0 r1 r2 r3 r4 g6 g16 HP6 HO6 HK6
          generalize ((w6.setCell ⟨b10, k * 2, none⟩ (iv x)).setCell ⟨b10, k * 2 + 1, none⟩ (iv y)).alloc (.cells #[iv x, iv y] 110) = w8 at *
          have HROW := hide (fun i (hi : (Value.slice D ts.length q).ownBlock = some i) => (World.ownsRow.lt HO7.out i hi).1)
          obtain ⟨O2, hO2⟩ : ∃ O2, (ts.map fun t => (t.val : Int)) ++ [(k : Int)] = O2 := ⟨_, rfl⟩
          have HO2 := hide hO2
          have HT2 := hide (show ts ++ [(⟨k, hk4⟩ : Fin 4)] = tsL o (k + 1) by rw [tsL_yes hk4 hok, hts.out])
          have HM2 := hide (show O2 = (ts ++ [(⟨k, hk4⟩ : Fin 4)]).map (fun t : Fin 4 => (t.val : Int)) by rw [← hO2, List.map_append]; rfl)
          have HL2 := hide (show O2.length = (ts ++ [(⟨k, hk4⟩ : Fin 4)]).length by rw [HM2.out, List.length_map])
          clear hO2
          go_wp2_with (refine wpList_app1 rfl _ _ _ rfl inL wl.heap.size 3 1 8 elInt (by decide) (ts.map fun t => (t.val : Int)) (k : Int) O2 HO2.out _ rfl (OwnL.gr HO7.out (by with_reducible repeat (first | exact Gr.refl _ | assumption | refine Gr.alloc ?_ _ | refine Gr.drewN ?_ _ | refine Gr.drew ?_ | refine Gr.setCell ?_ (by first | (dsimp only; omega) | (simp only [World.size_alloc]; omega) | (refine Gr.size ?_; (repeat (first | exact Gr.refl _ | assumption | refine Gr.alloc ?_ _ | refine Gr.drewN ?_ _ | refine Gr.drew ?_ | refine Gr.trans ?_ (by assumption))); done)) _ | refine Gr.trans ?_ (by assumption)))) _ 1 rfl rfl (by intro j u hu; refine newsA w8 #[iv k] 3 j u ?_; exact hu) (by intro u hu; simp at hu; subst hu; rfl) (by rw [List.length_map]; omega) (by decide) (by simp only [World.size_alloc]; omega) ?_; intro gg cap1 w9 hO9 _ hgrow hgb hg9)
          have HO9 := hide hO9
          have HK9 := hide (Kx.grown (HK7.out.gr (Gr.alloc (Gr.refl _) _)) hgrow (fun i hi => .inr (HROW.out i hi)))
          have HP9 := hide (PlK.kx (HP7.out.gr (Gr.alloc (Gr.refl _) _)) (Kx.grown (X := fun i => (Value.slice D ts.length q).ownBlock = some i) (Kx.refl _ _) hgrow (fun i hi => .inl hi)) (fun e => by have := HROW.out _ e; omega))
          clear hgrow hO9
          go_roundw
          case rel => exact ⟨k + 1, ts ++ [⟨k, hk4⟩], some ⟨gg, 0, none⟩, cap1, by omega, by go_num, by rw [HL2.out], HT2, HP9, hide (by have := HO9.out; rw [HL2.out, HM2.out] at this; exact this), HK9⟩
          case measure => simp only [intOf]; omega
    · obtain rfl : k = 4 := by omega
      have hlts : ts.length ≤ 4 := by rw [hts.out]; exact tsL_len o 4
      obtain ⟨l8, y8, z8⟩ := Made.kx H8.out HK.out (by omega)
      have a80 := y8 0
      have a81 := y8 1
      have a82 := y8 2
      have a83 := y8 3
      have a84 := y8 4
      have b80 := z8 0
      have b81 := z8 1
      have b82 := z8 2
      have b83 := z8 3
      have b84 := z8 4
      clear y8 z8 HAL HPU HFI HFS HNO HB HBr
      cases ts with
      | nil =>
        have HE := hide (HRN.out hts.out.symm)
        go_wp2
        refine bodyPost_ret (v := ftv r) (by rw [HE.out]; simp [results, Tryz.results27, go_sem, ftv, *]) rfl ⟨rfl, (by with_reducible repeat (first | exact Gr.refl _ | assumption | refine Gr.alloc ?_ _ | refine Gr.drewN ?_ _ | refine Gr.drew ?_ | refine Gr.setCell ?_ (by first | (dsimp only; omega) | (simp only [World.size_alloc]; omega) | (refine Gr.size ?_; (repeat (first | exact Gr.refl _ | assumption | refine Gr.alloc ?_ _ | refine Gr.drewN ?_ _ | refine Gr.drew ?_ | refine Gr.trans ?_ (by assumption))); done)) _ | refine Gr.trans ?_ (by assumption)))⟩
      | cons u0 us0 =>
        have hne : ¬ ((((u0 :: us0).length : Nat) : Int) = 0) := by rw [List.length_cons]; omega
        have HSO := hide (sortT D q wl.heap.size b10 (plX o 4) (plY o 4) (u0 :: us0) wr HO.out HP.out.pls (by omega) (by simp) hlts)
        have HROW := hide (fun i (hi : D.map Addr.block = some i) => World.ownsRow.lt HO.out i ((own_map HO.out).2 hi))
        obtain ⟨tz, htz⟩ : ∃ tz, u0 :: us0 = tz := ⟨_, rfl⟩
        rw [htz] at HSO hne hlts hts HO ⊢
        clear htz
        go_wp2_with fail
        refine HSO.out.mono ?_
        rintro e ws ⟨rfl, us2, hpm, hsr, ho2, hk2⟩
        have hlen := hpm.length_eq
        have htpos : 0 < tz.length := by omega
        obtain ⟨u, us3, rfl⟩ : ∃ u us3, us2 = u :: us3 := by
          cases us2 with
          | nil => simp at hlen; omega
          | cons u us3 => exact ⟨u, us3, rfl⟩
        have HR2 := hide (HRH.out u us3 (by rw [← hts.out]; exact hpm) hsr)
        obtain ⟨gg, og, hD, x0, _⟩ := (own_sli ho2).rd 0 (u.val : Int) (by simp)
        subst hD
        rw [Nat.zero_mul, Nat.add_zero] at x0
        have hggl : gg < ws.heap.size := cell_lt (by rw [x0]; rfl)
        have hgr := (HROW.out gg rfl).1
        have hu4 : (u.val : Int) < 4 := by have := u.isLt; omega
        have hu0 : (0 : Int) ≤ (u.val : Int) := by omega
        have ht0 : (0 : Int) < (tz.length : Int) := by omega
        have hb10D : ¬ (fun i => ((some (⟨gg, og, none⟩ : Addr)).map Addr.block) = some i) b10 := fun e => by
          have : gg = b10 := by simpa using e
          omega
        have hb8D : ¬ (fun i => ((some (⟨gg, og, none⟩ : Addr)).map Addr.block) = some i) b8 := fun e => by
          have : gg = b8 := by simpa using e
          omega
        have hPs := PlK.kx HP.out hk2 hb10D
        have x1 := hPs.x u.val u.isLt
        have x2 := hPs.y u.val u.isLt
        have x3 := hPs.lt
        have gws : Gr w ws := (HK.out.trans hk2 (fun i hi h => by
          have := HROW.out i h
          omega)).toGr gwl (fun i hi => by omega)
        obtain ⟨l8', y8, z8⟩ := Made.kx (Made.kx H8.out HK.out (by omega)) hk2 hb8D
        clear a80 a81 a82 a83 a84 b80 b81 b82 b83 b84 l8
        have a80 := y8 0
        have a81 := y8 1
        have a82 := y8 2
        have a83 := y8 3
        have a84 := y8 4
        have b80 := z8 0
        have b81 := z8 1
        have b82 := z8 2
        have b83 := z8 3
        have b84 := z8 4
        clear y8 z8 hPs hk2 ho2 hpm hsr HSO HO HP hb10D hb8D
        generalize plX o 4 u.val = px at *
        generalize plY o 4 u.val = py at *
        generalize u.val = uu at *
        go_wp2_with fail
        go_region
        go_wp2
        refine bodyPost_ret (v := ftv r) (by rw [HR2.out]; simp [results, Tryz.results27, go_sem, ftv, *]) rfl ⟨rfl, ?_⟩
        have hx : (fun _ : Nat => False) b8 ∨ w.heap.size ≤ b8 := .inr (by omega)
        exact (((((((Kx.of_gr (X := fun _ => False) gws).set 0 _ hx).set 1 _ hx).set 2 _ hx).set 3 _ hx).set 4 _ hx).toGr (Gr.refl _) (fun i hi => absurd hi id)).trans (by with_reducible repeat (first | exact Gr.refl _ | assumption | refine Gr.alloc ?_ _ | refine Gr.drewN ?_ _ | refine Gr.drew ?_ | refine Gr.setCell ?_ (by first | (dsimp only; omega) | (simp only [World.size_alloc]; omega) | (refine Gr.size ?_; (repeat (first | exact Gr.refl _ | assumption | refine Gr.alloc ?_ _ | refine Gr.drewN ?_ _ | refine Gr.drew ?_ | refine Gr.trans ?_ (by assumption))); done)) _ | refine Gr.trans ?_ (by assumption)))
end RG
end Go.Proofs.YtddhaiaapomdjaaGreat
set_option linter.unusedVariables false
set_option linter.unusedSimpArgs false
namespace Go.Proofs.YtddhaiaapomdjaaGreat
set_option linter.unusedVariables false
set_option linter.unusedSimpArgs false
open Go Go.ChangeShapes Go.WideShapes Go.ChangeAt Go.RowKit Go.Deep

namespace RG
def bigB (x : RS) : Bool := decide (12 < x.l.length)
/-- the error of the rectangles that are taken -/
def ctE (L : List RS) : Int := if 8 < L.length then 4 else if L.any bigB = true then 4 else if vasB L = true then 0 else 1
theorem any_ye {α : Type} {p : α → Bool} {l : List α} {k : Nat} {r : α} (h : l[k]? = some r) (q : p r = true) : l.any p = true := List.any_eq_true.2 ⟨r, List.mem_of_getElem? h, q⟩
theorem any_nn {α : Type} {p : α → Bool} {l : List α} (h : ∀ (j : Nat) (r : α), j < l.length → l[j]? = some r → p r = false) : l.any p = false := by
  rw [List.any_eq_false]
  intro r hr
  obtain ⟨j, hj⟩ := List.mem_iff_getElem?.1 hr
  simp [h j r (List.getElem?_eq_some_iff.1 hj).1 hj]
set_option maxHeartbeats 4000000 in
set_option maxRecDepth 100000 in
theorem checkTaken_any (A : Option Addr) (c : Nat) (L : List RS) (w : World) (hl : SlRR w A c L) :
    Calls Tryz.prog 24 #[.slice A L.length c] w fun e w' => e = .returned (iv (ctE L)) ∧ Gr w w' := by
  have n1 := hl.cap
  have n2 := hl.capB
  have HL := hide hl
  have HV := hide (fun (w' : World) (g : Gr w w') => validRects_any A c L w' (hl.gr g))
  have HC := hide (show ctE L = if 8 < L.length then 4 else if L.any bigB = true then 4 else if vasB L = true then 0 else 1 from rfl)
  clear hl
  by_cases h8 : 8 < L.length
  · have h8' : (8 : Int) < (L.length : Int) := by omega
    have HE := hide (show ctE L = 4 by rw [HC.out, if_pos h8])
    go_enter Tryz.func24, Tryz.ntmps24
    go_wp2
    go_ret
    exact ⟨ret_iv HE.out.symm, (by with_reducible repeat (first | exact Gr.refl _ | assumption | refine Gr.alloc ?_ _ | refine Gr.drewN ?_ _ | refine Gr.drew ?_ | refine Gr.setCell ?_ (by first | (dsimp only; omega) | (simp only [World.size_alloc]; omega) | (refine Gr.size ?_; (repeat (first | exact Gr.refl _ | assumption | refine Gr.alloc ?_ _ | refine Gr.drewN ?_ _ | refine Gr.drew ?_ | refine Gr.trans ?_ (by assumption))); done)) _ | refine Gr.trans ?_ (by assumption)))⟩
  · have h8' : ¬ ((8 : Int) < (L.length : Int)) := by omega
    go_enter Tryz.func24, Tryz.ntmps24
    go_wp2
    go_loopw [10] (fun i wr => ∃ k : Nat, k ≤ L.length ∧ i = iv k ∧ Gr w wr ∧ Hid (∀ (j : Nat) (x : RS), j < k → L[j]? = some x → bigB x = false)) (fun i _ => L.length - (intOf i).toNat)
    case atStart => exact ⟨0, by omega, rfl, Gr.refl _, hide (fun j r h => absurd h (Nat.not_lt_zero j))⟩
    case round =>
      obtain ⟨k, hk, rfl, g, HS⟩ := hrel
      by_cases hkl : k < L.length
      · obtain ⟨XA, xc, xl, hx⟩ : ∃ XA xc xl, L[k]? = some ⟨XA, xc, xl⟩ := ⟨_, _, _, List.getElem?_eq_getElem hkl⟩
        obtain ⟨b, o, hA, x0, hm⟩ := (HL.out.gr g).at_ hx
        subst hA
        dsimp only at x0 hm
        have HR := hide hx
        have hk0 : (0 : Int) ≤ (k : Int) := by omega
        have hk1 : (k : Int) < (L.length : Int) := by omega
        clear hx hm
        by_cases hb : 12 < xl.length
        · have hb' : (12 : Int) < (xl.length : Int) := by omega
          have HE := hide (show ctE L = 4 by rw [HC.out, if_neg h8, if_pos (any_ye HR.out (decide_eq_true hb))])
          go_wp2
          go_ret
          exact ⟨ret_iv HE.out.symm, (by with_reducible repeat (first | exact Gr.refl _ | assumption | refine Gr.alloc ?_ _ | refine Gr.drewN ?_ _ | refine Gr.drew ?_ | refine Gr.setCell ?_ (by first | (dsimp only; omega) | (simp only [World.size_alloc]; omega) | (refine Gr.size ?_; (repeat (first | exact Gr.refl _ | assumption | refine Gr.alloc ?_ _ | refine Gr.drewN ?_ _ | refine Gr.drew ?_ | refine Gr.trans ?_ (by assumption))); done)) _ | refine Gr.trans ?_ (by assumption)))⟩
        · have hb' : ¬ ((12 : Int) < (xl.length : Int)) := by omega
          have HS' := hide (show ∀ (j : Nat) (x : RS), j < k + 1 → L[j]? = some x → bigB x = false by
            intro j x hj hq
            rcases Nat.lt_or_ge j k with h | h
            · exact HS.out j x h hq
            · obtain rfl : j = k := by omega
              rw [HR.out] at hq
              obtain rfl := Option.some.inj hq
              exact decide_eq_false hb)
          go_wp2
          go_roundw
          case rel => exact ⟨k + 1, by omega, by go_num, (by with_reducible repeat (first | exact Gr.refl _ | assumption | refine Gr.alloc ?_ _ | refine Gr.drewN ?_ _ | refine Gr.drew ?_ | refine Gr.setCell ?_ (by first | (dsimp only; omega) | (simp only [World.size_alloc]; omega) | (refine Gr.size ?_; (repeat (first | exact Gr.refl _ | assumption | refine Gr.alloc ?_ _ | refine Gr.drewN ?_ _ | refine Gr.drew ?_ | refine Gr.trans ?_ (by assumption))); done)) _ | refine Gr.trans ?_ (by assumption))), HS'⟩
          case measure => simp only [intOf]; omega
      · obtain rfl : k = L.length := by omega
        have HNB := hide (any_nn HS.out)
        have HVV := hide (HV.out _ g)
        cases hv : vasB L with
        | true =>
          have HE := hide (show ctE L = 0 by rw [HC.out, if_neg h8, if_neg (by rw [HNB.out]; decide), if_pos hv])
          rw [hv] at HVV
          go_wp2_with (first | (go_at_call 61; refine (HVV.out).mono ?_; rintro e w1 ⟨rfl, g1⟩; obtain ⟨X1, Y1, c1, f1⟩ := g1.use; have z1 := g1.size; (try simp only [World.size_alloc, World.size_setCell, World.heap_drewN, Nat.add_one_le_iff] at z1); (try have l0 : w.heap.size < w1.heap.size := by omega); (try have l1 : w.heap.size + 1 < w1.heap.size := by omega); (try have l2 : w.heap.size + 1 + 1 < w1.heap.size := by omega)))
          go_ret
          exact ⟨ret_iv HE.out.symm, (by with_reducible repeat (first | exact Gr.refl _ | assumption | refine Gr.alloc ?_ _ | refine Gr.drewN ?_ _ | refine Gr.drew ?_ | refine Gr.setCell ?_ (by first | (dsimp only; omega) | (simp only [World.size_alloc]; omega) | (refine Gr.size ?_; (repeat (first | exact Gr.refl _ | assumption | refine Gr.alloc ?_ _ | refine Gr.drewN ?_ _ | refine Gr.drew ?_ | refine Gr.trans ?_ (by assumption))); done)) _ | refine Gr.trans ?_ (by assumption)))⟩
        | false =>
          have HE := hide (show ctE L = 1 by rw [HC.out, if_neg h8, if_neg (by rw [HNB.out]; decide), if_neg (by rw [hv]; decide)])
          rw [hv] at HVV
          go_wp2_with (first | (go_at_call 61; refine (HVV.out).mono ?_; rintro e w1 ⟨rfl, g1⟩; obtain ⟨X1, Y1, c1, f1⟩ := g1.use; have z1 := g1.size; (try simp only [World.size_alloc, World.size_setCell, World.heap_drewN, Nat.add_one_le_iff] at z1); (try have l0 : w.heap.size < w1.heap.size := by omega); (try have l1 : w.heap.size + 1 < w1.heap.size := by omega); (try have l2 : w.heap.size + 1 + 1 < w1.heap.size := by omega)))
          go_ret
          exact ⟨ret_iv HE.out.symm, (by with_reducible repeat (first | exact Gr.refl _ | assumption | refine Gr.alloc ?_ _ | refine Gr.drewN ?_ _ | refine Gr.drew ?_ | refine Gr.setCell ?_ (by first | (dsimp only; omega) | (simp only [World.size_alloc]; omega) | (refine Gr.size ?_; (repeat (first | exact Gr.refl _ | assumption | refine Gr.alloc ?_ _ | refine Gr.drewN ?_ _ | refine Gr.drew ?_ | refine Gr.trans ?_ (by assumption))); done)) _ | refine Gr.trans ?_ (by assumption)))⟩
theorem vsE_good {s : ShT} (h : vsE s = 0) : ShG s := by
  unfold vsE at h
  by_cases h1 : (nameB s.nm.toList && nameB s.mt.toList) = true
  · rw [if_pos h1] at h
    by_cases h2 : (knB s.ga s.gr && (wiB s.wd 1 1048576 && wiB s.ht 1 1048576)) = true
    · rw [if_pos h2] at h
      by_cases h3 : 4 < s.cl.length ∨ 48 < s.us.length
      · rw [if_pos h3] at h; omega
      · rw [if_neg h3] at h
        unfold coE at h
        by_cases h4 : vaB (s.cl ++ s.us) = true
        · simp only [Bool.and_eq_true] at h2
          exact ⟨wiB_iff.1 h2.2.1, wiB_iff.1 h2.2.2, by rw [List.length_append]; omega, vaB_iff.1 h4⟩
        · rw [if_neg h4] at h; omega
    · rw [if_neg h2] at h; omega
  · rw [if_neg h1] at h; omega
theorem ctE_good {L : List RS} (h : ctE L = 0) : L.length ≤ 8 ∧ (allR L).length ≤ 96 ∧ ∀ r ∈ allR L, vrR r = true := by
  unfold ctE at h
  by_cases h1 : 8 < L.length
  · rw [if_pos h1] at h; omega
  · rw [if_neg h1] at h
    by_cases h2 : L.any bigB = true
    · rw [if_pos h2] at h; omega
    · rw [if_neg h2] at h
      by_cases h3 : vasB L = true
      · have h2' : ∀ x ∈ L, x.l.length ≤ 12 := fun x hx => by
          refine Nat.not_lt.1 fun c => h2 (List.any_eq_true.2 ⟨x, hx, decide_eq_true c⟩)
        have hlen : ∀ M : List RS, (∀ x ∈ M, x.l.length ≤ 12) → (allR M).length ≤ M.length * 12 := by
          intro M
          induction M with
          | nil => intro _; simp [allR]
          | cons x M ih =>
            intro hM
            have e : allR (x :: M) = x.l ++ allR M := rfl
            have := ih fun y hy => hM y (List.mem_cons_of_mem _ hy)
            have := hM x List.mem_cons_self
            rw [e, List.length_append, List.length_cons]
            omega
        refine ⟨by omega, by have := hlen L h2'; omega, fun r hr => ?_⟩
        unfold allR at hr
        obtain ⟨x, hx, hrx⟩ := List.mem_flatMap.1 hr
        unfold vasB at h3
        rw [List.all_eq_true] at h3
        exact vaB_iff.1 (h3 x hx) r hrx
      · rw [if_neg h3] at h; omega
end RG
end Go.Proofs.YtddhaiaapomdjaaGreat
set_option linter.unusedVariables false
set_option linter.unusedSimpArgs false
namespace Go.Proofs.YtddhaiaapomdjaaGreat
set_option linter.unusedVariables false
set_option linter.unusedSimpArgs false
open Go Go.ChangeShapes Go.WideShapes Go.ChangeAt Go.RowKit Go.Deep

namespace RG
/-- the error of Fit -/
def fiE (s : ShT) (L : List RS) (p : Pc) (b : Bool) (t : St) : Int := if vsE s ≠ 0 then vsE s else if ctE L ≠ 0 then ctE L else if vpE p b ≠ 0 then vpE p b else if vtB t = true then 0 else 1
def fatv : Option (Nat × Int × Int) → Value
  | some (t, x, y) => atv 0 0 x y t
  | none => atv 0 0 0 0 0
theorem ftv_eq (r : Option (Nat × Int × Int)) : ftv r = .tuple #[fatv r, .bool r.isSome] := by
  rcases r with _ | ⟨t, x, y⟩ <;> rfl
theorem fiE_good {s : ShT} {L : List RS} {p : Pc} {b : Bool} {t : St} (h : fiE s L p b t = 0) : vsE s = 0 ∧ ctE L = 0 ∧ vpE p b = 0 ∧ vtB t = true := by
  unfold fiE at h
  by_cases e1 : vsE s = 0
  · rw [if_neg (by simpa using e1)] at h
    by_cases e2 : ctE L = 0
    · rw [if_neg (by simpa using e2)] at h
      by_cases e3 : vpE p b = 0
      · rw [if_neg (by simpa using e3)] at h
        by_cases e4 : vtB t = true
        · exact ⟨e1, e2, e3, e4⟩
        · rw [if_neg e4] at h; omega
      · rw [if_pos e3] at h; exact absurd h e3
    · rw [if_pos e2] at h; exact absurd h e2
  · rw [if_pos e1] at h; exact absurd h e1
theorem vtB_iff {t : St} : vtB t = true ↔ (0 ≤ t.g ∧ t.g ≤ 14400) ∧ 0 ≤ t.m ∧ t.m ≤ 14400 := by
  unfold vtB
  rw [Bool.and_eq_true, wiB_iff, wiB_iff]
set_option maxHeartbeats 8000000 in
set_option maxRecDepth 100000 in
theorem Fit_good (s : ShT) (A : Option Addr) (c : Nat) (L : List RS) (p : Pc) (b : Bool) (t : St) (o : Nat → Option (Int × Int)) (r : Option (Nat × Int × Int)) (w : World) (hs : ShW w s) (hT : SlRR w A c L) (hp : PcW w p) (hb : CoB p.r b) (h0 : fiE s L p b t = 0)
    (ho : TnO s.wd s.ht (fun k => alB p.mt s.mt p.ga s.ga p.gr s.gr k) p.r (s.cl ++ s.us) (allR L) t o) (hr : FtO o r) :
    Calls Tryz.prog 7 #[s.v, .slice A L.length c, p.v, stvv t] w fun e w' => e = .returned (.tuple #[fatv r, .bool r.isSome, iv 0]) ∧ Gr w w' := by
  obtain ⟨z1, z2, z3, z4⟩ := fiE_good h0
  obtain ⟨l1, l2, l3⟩ := ctE_good z2
  have HFI := hide (fun (w' : World) (g : Gr w w') => fit_any s A c L p b t o r w' (hs.gr g) (hT.gr g) (hp.gr g) hb z3 (vsE_good z1) (vtB_iff.1 z4).1 (vtB_iff.1 z4).2 (by omega) (by omega) l3 ho hr)
  have H1 := hide (fun (w' : World) (g : Gr w w') => ValidateSheet_any s w' (hs.gr g))
  have H2 := hide (fun (w' : World) (g : Gr w w') => checkTaken_any A c L w' (hT.gr g))
  have H3 := hide (fun (w' : World) (g : Gr w w') => ValidatePiece_any p b w' (hp.gr g) hb)
  have H4 := hide (fun (w' : World) => ValidSettings_any t w')
  rw [z1] at H1
  rw [z2] at H2
  rw [z3] at H3
  rw [z4] at H4
  rw [ftv_eq] at HFI
  clear hs hT hp hb h0 ho hr z1 z2 z3 z4 l1 l2 l3
  obtain ⟨nm, mt, ga, gr, wd, ht, cA, cc, cl, uA, uc, us⟩ := s
  obtain ⟨nm', mt', ga', gr', rA, rc, rl, cA', cc', cl', fA, fc, fl⟩ := p
  obtain ⟨g, m, cm⟩ := t
  obtain ⟨F, hF⟩ : ∃ F, r.isSome = F := ⟨_, rfl⟩
  rw [hF] at HFI ⊢
  obtain ⟨v0, v1, v2, v3, v4, hV⟩ : ∃ v0 v1 v2 v3 v4, fatv r = atv v0 v1 v2 v3 v4 := by
    rcases r with _ | ⟨t, x, y⟩
    · exact ⟨_, _, _, _, _, rfl⟩
    · exact ⟨_, _, _, _, _, rfl⟩
  rw [hV] at HFI ⊢
  clear hF hV
  go_enter Tryz.func7, Tryz.ntmps7
  go_wp2_with (first | (go_at_call 23; refine (H1.out _ (by with_reducible repeat (first | exact Gr.refl _ | assumption | refine Gr.alloc ?_ _ | refine Gr.drewN ?_ _ | refine Gr.drew ?_ | refine Gr.setCell ?_ (by first | (dsimp only; omega) | (simp only [World.size_alloc]; omega) | (refine Gr.size ?_; (repeat (first | exact Gr.refl _ | assumption | refine Gr.alloc ?_ _ | refine Gr.drewN ?_ _ | refine Gr.drew ?_ | refine Gr.trans ?_ (by assumption))); done)) _ | refine Gr.trans ?_ (by assumption)))).mono ?_; rintro e w1 ⟨rfl, g1⟩; obtain ⟨X1, Y1, c1, f1⟩ := g1.use; have z1 := g1.size; (try simp only [World.size_alloc, World.size_setCell, World.heap_drewN, Nat.add_one_le_iff] at z1); (try have l0 : w.heap.size < w1.heap.size := by omega); (try have l1 : w.heap.size + 1 < w1.heap.size := by omega); (try have l2 : w.heap.size + 1 + 1 < w1.heap.size := by omega)) | (go_at_call 24; refine (H2.out _ (by with_reducible repeat (first | exact Gr.refl _ | assumption | refine Gr.alloc ?_ _ | refine Gr.drewN ?_ _ | refine Gr.drew ?_ | refine Gr.setCell ?_ (by first | (dsimp only; omega) | (simp only [World.size_alloc]; omega) | (refine Gr.size ?_; (repeat (first | exact Gr.refl _ | assumption | refine Gr.alloc ?_ _ | refine Gr.drewN ?_ _ | refine Gr.drew ?_ | refine Gr.trans ?_ (by assumption))); done)) _ | refine Gr.trans ?_ (by assumption)))).mono ?_; rintro e w1 ⟨rfl, g1⟩; obtain ⟨X1, Y1, c1, f1⟩ := g1.use; have z1 := g1.size; (try simp only [World.size_alloc, World.size_setCell, World.heap_drewN, Nat.add_one_le_iff] at z1); (try have l0 : w.heap.size < w1.heap.size := by omega); (try have l1 : w.heap.size + 1 < w1.heap.size := by omega); (try have l2 : w.heap.size + 1 + 1 < w1.heap.size := by omega)) | (go_at_call 25; refine (H3.out _ (by with_reducible repeat (first | exact Gr.refl _ | assumption | refine Gr.alloc ?_ _ | refine Gr.drewN ?_ _ | refine Gr.drew ?_ | refine Gr.setCell ?_ (by first | (dsimp only; omega) | (simp only [World.size_alloc]; omega) | (refine Gr.size ?_; (repeat (first | exact Gr.refl _ | assumption | refine Gr.alloc ?_ _ | refine Gr.drewN ?_ _ | refine Gr.drew ?_ | refine Gr.trans ?_ (by assumption))); done)) _ | refine Gr.trans ?_ (by assumption)))).mono ?_; rintro e w1 ⟨rfl, g1⟩; obtain ⟨X1, Y1, c1, f1⟩ := g1.use; have z1 := g1.size; (try simp only [World.size_alloc, World.size_setCell, World.heap_drewN, Nat.add_one_le_iff] at z1); (try have l0 : w.heap.size < w1.heap.size := by omega); (try have l1 : w.heap.size + 1 < w1.heap.size := by omega); (try have l2 : w.heap.size + 1 + 1 < w1.heap.size := by omega)) | (go_at_call 26; refine (H4.out _).mono ?_; rintro e w1 ⟨rfl, g1⟩; obtain ⟨X1, Y1, c1, f1⟩ := g1.use; have z1 := g1.size; (try simp only [World.size_alloc, World.size_setCell, World.heap_drewN, Nat.add_one_le_iff] at z1); (try have l0 : w.heap.size < w1.heap.size := by omega); (try have l1 : w.heap.size + 1 < w1.heap.size := by omega); (try have l2 : w.heap.size + 1 + 1 < w1.heap.size := by omega)) | (go_at_call 27; refine (HFI.out _ (by with_reducible repeat (first | exact Gr.refl _ | assumption | refine Gr.alloc ?_ _ | refine Gr.drewN ?_ _ | refine Gr.drew ?_ | refine Gr.setCell ?_ (by first | (dsimp only; omega) | (simp only [World.size_alloc]; omega) | (refine Gr.size ?_; (repeat (first | exact Gr.refl _ | assumption | refine Gr.alloc ?_ _ | refine Gr.drewN ?_ _ | refine Gr.drew ?_ | refine Gr.trans ?_ (by assumption))); done)) _ | refine Gr.trans ?_ (by assumption)))).mono ?_; rintro e w9 ⟨rfl, g9⟩; obtain ⟨X9, Y9, c9, f9⟩ := g9.use; have z9 := g9.size; (have l9 : w.heap.size + 1 + 1 + 1 < w9.heap.size := by omega)))
  refine bodyPost_ret (v := .tuple #[atv v0 v1 v2 v3 v4, .bool F, iv 0]) (by simp [results, Tryz.results7, go_sem, *]) rfl ⟨rfl, (by with_reducible repeat (first | exact Gr.refl _ | assumption | refine Gr.alloc ?_ _ | refine Gr.drewN ?_ _ | refine Gr.drew ?_ | refine Gr.setCell ?_ (by first | (dsimp only; omega) | (simp only [World.size_alloc]; omega) | (refine Gr.size ?_; (repeat (first | exact Gr.refl _ | assumption | refine Gr.alloc ?_ _ | refine Gr.drewN ?_ _ | refine Gr.drew ?_ | refine Gr.trans ?_ (by assumption))); done)) _ | refine Gr.trans ?_ (by assumption)))⟩
end RG
end Go.Proofs.YtddhaiaapomdjaaGreat
