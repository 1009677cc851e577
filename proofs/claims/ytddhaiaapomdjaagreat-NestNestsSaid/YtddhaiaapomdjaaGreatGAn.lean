/-
  Nests, plain: bars in a field of places; the first place that is in no bar.
  Nests, plain: at which places a rectangle is in the way of another one.
  Nests, plain: the field of a piece: its free places are those at which the piece lies well and clear.
  Regions, plainly: numbers in ascending order, each once; what Compact leaves; a row of the call's own that has been sorted or cut.
  Surfaces of flat patterns, plainly: a column swept from below, the columns added up, the grid without its cuts.
  Regions: the empty grid with the lines of all sides, in the code.
  Surfaces: slices.Concat of lists of rectangles.
  Surfaces: verticals and covered of the code.
  Flat patterns as they come: where they lie; inLimits and check of the code.
  Regions: the document's grid in memory, its area, MakeGrid.
  Regions: Size of the document's grid.
  Flat patterns: check of the code.
  Flat patterns: Whole of the document.
  Surfaces: a grid of the document's that is stored over.
  Surfaces: Surface of the document.
  Surfaces: the library's sorts: of numbers; of rectangles by Y; room for rectangles.
-/
import Derived.Test.YtddhaiaapomdjaaGreatRgcn
import Derived.Test.YtddhaiaapomdjaaGreatNs4n
import Derived.Test.YtddhaiaapomdjaaGreatRgmn
import Derived.Lib.SlicesCompact
import Derived.Shelf.SlSortCmp.Insertion
import Derived.Shelf.Slices.CompactI
import Derived.Test.YtddhaiaapomdjaaGreatRg3n
import Derived.Deep.OwnRows
import Derived.WalkLawsBesides
import Derived.Deep.RegionHeld3
import Derived.Test.YtddhaiaapomdjaaGreatLayFn
set_option linter.unusedVariables false
set_option linter.unusedSimpArgs false
namespace Go.Proofs.YtddhaiaapomdjaaGreat
set_option linter.unusedVariables false
set_option linter.unusedSimpArgs false
open Go Go.ChangeShapes Go.WideShapes Go.ChangeAt Go.RowKit Go.Deep

namespace RG
structure Br where
  l : Int
  r : Int
  b : Int
  t : Int
def inBr (b : Br) (x y : Int) : Prop := b.l ≤ x ∧ x ≤ b.r ∧ b.b ≤ y ∧ y ≤ b.t
def fxV (y : Int) : List Br → Int → Int
  | [], x => x
  | b :: bs, x => if x < b.l then x else fxV y bs (if b.b ≤ y ∧ y ≤ b.t then max x (b.r + 1) else x)
def BrUp (l : List Br) : Prop := l.Pairwise fun a b => a.l ≤ b.l
theorem fxV_ge (y : Int) : ∀ (bs : List Br) (x : Int), x ≤ fxV y bs x
  | [], x => Int.le_refl _
  | b :: bs, x => by
    unfold fxV
    split
    · exact Int.le_refl _
    · refine Int.le_trans ?_ (fxV_ge y bs _)
      split <;> omega
theorem fxV_not (y : Int) : ∀ (bs : List Br) (x : Int), BrUp bs → ∀ b ∈ bs, ¬ inBr b (fxV y bs x) y
  | b :: bs, x, hu, c, hc => by
    have hu' := List.pairwise_cons.1 hu
    unfold fxV
    split
    · rename_i h
      rcases List.mem_cons.1 hc with e | e
      · subst e; unfold inBr; omega
      · have := hu'.1 c e; unfold inBr; omega
    · rename_i h
      rcases List.mem_cons.1 hc with e | e
      · subst e
        intro hi
        unfold inBr at hi
        rw [if_pos ⟨hi.2.2.1, hi.2.2.2⟩] at hi
        have := fxV_ge y bs (max x (c.r + 1))
        omega
      · exact fxV_not y bs _ hu'.2 c e
theorem fxV_in (y : Int) : ∀ (bs : List Br) (x z : Int), x ≤ z → z < fxV y bs x → ∃ b ∈ bs, inBr b z y
  | [], x, z, h1, h2 => by unfold fxV at h2; omega
  | b :: bs, x, z, h1, h2 => by
    unfold fxV at h2
    split at h2
    · omega
    · rename_i h
      split at h2
      · rename_i k
        by_cases hz : z ≤ b.r
        · exact ⟨b, List.mem_cons_self, by unfold inBr; omega⟩
        · obtain ⟨c, hc, hi⟩ := fxV_in y bs _ z (by omega) h2
          exact ⟨c, List.mem_cons_of_mem _ hc, hi⟩
      · obtain ⟨c, hc, hi⟩ := fxV_in y bs _ z h1 h2
        exact ⟨c, List.mem_cons_of_mem _ hc, hi⟩
def FreeP (f : Br) (bs : List Br) (x y : Int) : Prop := inBr f x y ∧ ∀ b ∈ bs, ¬ inBr b x y
theorem drop_to (f : Br) (bs : List Br) (x : Int) : ∀ (n : Nat) (y : Int), y = f.b + n → FreeP f bs x y → ∃ z, (z = f.b ∨ ∃ b ∈ bs, z = b.t + 1) ∧ z ≤ y ∧ FreeP f bs x z
  | 0, y, e, h => ⟨y, .inl (by omega), Int.le_refl _, h⟩
  | n + 1, y, e, h => by
    by_cases k : FreeP f bs x (y - 1)
    · obtain ⟨z, h1, h2, h3⟩ := drop_to f bs x n (y - 1) (by omega) k
      exact ⟨z, h1, by omega, h3⟩
    · refine ⟨y, .inr ?_, Int.le_refl _, h⟩
      obtain ⟨hf, hb⟩ := h
      have : ∃ b ∈ bs, inBr b x (y - 1) := by
        refine Classical.byContradiction fun hn => k ⟨?_, fun b hb' hi => hn ⟨b, hb', hi⟩⟩
        unfold inBr at hf ⊢
        omega
      obtain ⟨b, hb', hi⟩ := this
      refine ⟨b, hb', ?_⟩
      have := hb b hb'
      unfold inBr at this hi
      omega
structure RowsOf (f : Br) (bs : List Br) (ys : List Int) : Prop where
  up : ys.Pairwise (· < ·)
  mem : ∀ y, y ∈ ys ↔ (y = f.b ∨ ∃ b ∈ bs, y = b.t + 1) ∧ f.b ≤ y ∧ y ≤ f.t
def fsY (f : Br) (bs : List Br) (ys : List Int) : Option Int := ys.find? fun y => decide (fxV y bs f.l ≤ f.r)
theorem find_up {p : Int → Bool} {y : Int} : ∀ {ys : List Int}, ys.Pairwise (· < ·) → ys.find? p = some y → y ∈ ys ∧ p y = true ∧ ∀ z ∈ ys, p z = true → y ≤ z
  | [], _, h => by simp at h
  | a :: ys, hu, h => by
    have hu' := List.pairwise_cons.1 hu
    rw [List.find?_cons] at h
    cases ha : p a with
    | true =>
      rw [ha] at h
      obtain rfl := Option.some.inj h
      refine ⟨List.mem_cons_self, ha, fun z hz _ => ?_⟩
      rcases List.mem_cons.1 hz with e | e
      · omega
      · have := hu'.1 z e; omega
    | false =>
      rw [ha] at h
      obtain ⟨h1, h2, h3⟩ := find_up hu'.2 h
      refine ⟨List.mem_cons_of_mem _ h1, h2, fun z hz hp => ?_⟩
      rcases List.mem_cons.1 hz with e | e
      · rw [e, ha] at hp; cases hp
      · exact h3 z e hp
theorem fs_some {f : Br} {bs : List Br} {ys : List Int} (hb : BrUp bs) (hr : RowsOf f bs ys) {y : Int} (h : fsY f bs ys = some y) :
    FreeP f bs (fxV y bs f.l) y ∧ ∀ x' y', FreeP f bs x' y' → y < y' ∨ y = y' ∧ fxV y bs f.l ≤ x' := by
  obtain ⟨h1, h2, h3⟩ := find_up hr.up h
  have m1 := (hr.mem y).1 h1
  have h2' : fxV y bs f.l ≤ f.r := by simpa using h2
  have hge := fxV_ge y bs f.l
  refine ⟨⟨by unfold inBr; omega, fxV_not y bs f.l hb⟩, fun x' y' hf => ?_⟩
  have low : ∀ z, FreeP f bs x' z → fxV z bs f.l ≤ x' := fun z hz => by
    refine Int.not_lt.1 fun hlt => ?_
    obtain ⟨b, hb', hi⟩ := fxV_in z bs f.l x' hz.1.1 hlt
    exact hz.2 b hb' hi
  obtain ⟨z, c1, c2, c3⟩ := drop_to f bs x' (y' - f.b).toNat y' (by have := hf.1; unfold inBr at this; omega) hf
  have hz : z ∈ ys := (hr.mem z).2 ⟨c1, by have := c3.1; unfold inBr at this; omega⟩
  have hle := h3 z hz (by have := low z c3; have := c3.1; unfold inBr at this; simp; omega)
  by_cases e : y < y'
  · exact .inl e
  · right
    have : y = z := by omega
    subst this
    exact ⟨by omega, low y c3⟩
theorem fs_none {f : Br} {bs : List Br} {ys : List Int} (hr : RowsOf f bs ys) (h : fsY f bs ys = none) (x' y' : Int) : ¬ FreeP f bs x' y' := by
  intro hf
  obtain ⟨z, c1, c2, c3⟩ := drop_to f bs x' (y' - f.b).toNat y' (by have := hf.1; unfold inBr at this; omega) hf
  have hz : z ∈ ys := (hr.mem z).2 ⟨c1, by have := c3.1; unfold inBr at this; omega⟩
  have := List.find?_eq_none.1 h z hz
  simp only [decide_eq_true_eq] at this
  obtain ⟨b, hb', hi⟩ := fxV_in z bs f.l x' c3.1.1 (by have := c3.1; unfold inBr at this; omega)
  exact c3.2 b hb' hi
end RG
end Go.Proofs.YtddhaiaapomdjaaGreat
set_option linter.unusedVariables false
set_option linter.unusedSimpArgs false
namespace Go.Proofs.YtddhaiaapomdjaaGreat
set_option linter.unusedVariables false
set_option linter.unusedSimpArgs false
open Go Go.ChangeShapes Go.WideShapes Go.ChangeAt Go.RowKit Go.Deep

namespace RG
theorem vr_pos {r : Rc} (h : vrR r = true) : 0 < r.w ∧ 0 < r.h := ⟨(vrR_iff.1 h).w, (vrR_iff.1 h).h⟩
theorem vrR_ovB (r s : Rc) : ovQ r s = ((vrR r && vrR s) && (soB r.x r.w s.x s.w && soB r.y r.h s.y s.h)) := rfl
theorem vrR_diV (r s : Rc) : diR r s = if vrR r && vrR s then diM (poV (gaV r.x (r.x + r.w) s.x (s.x + s.w))) (poV (gaV r.y (r.y + r.h) s.y (s.y + s.h))) else 0 := rfl
def mvR (x y : Int) (r : Rc) : Rc := ⟨r.x + x, r.y + y, r.w, r.h⟩
def arBr (r o : Rc) (g : Int) : Br := ⟨o.x - g - r.x - r.w + 1, o.x + o.w + g - r.x - 1, o.y - g - r.y - r.h + 1, o.y + o.h + g - r.y - 1⟩
def ucBr (r o : Rc) (t : St) : List Br :=
  if t.c then [arBr r o 0, ⟨(arBr r o t.g).l, (arBr r o t.g).r, (arBr r o t.g).b, (arBr r o 1).b - 1⟩, ⟨(arBr r o t.g).l, (arBr r o t.g).r, (arBr r o 1).t + 1, (arBr r o t.g).t⟩, ⟨(arBr r o t.g).l, (arBr r o 1).l - 1, (arBr r o 1).b, (arBr r o 1).t⟩, ⟨(arBr r o 1).r + 1, (arBr r o t.g).r, (arBr r o 1).b, (arBr r o 1).t⟩]
  else [arBr r o t.g]
theorem ovQ_br {r o : Rc} {x y : Int} (h1 : vrR (mvR x y r) = true) (h2 : vrR o = true) : ovQ (mvR x y r) o = true ↔ inBr (arBr r o 0) x y := by
  rw [vrR_ovB, h1, h2]
  simp only [soB, Bool.and_eq_true, Bool.and_self, Bool.true_and, decide_eq_true_eq]
  simp only [mvR, arBr, inBr]
  omega
theorem diR_lt {r o : Rc} {x y g : Int} (h1 : vrR (mvR x y r) = true) (h2 : vrR o = true) (hg : 0 < g) : diR (mvR x y r) o < g ↔ inBr (arBr r o g) x y := by
  obtain ⟨a, b⟩ := vr_pos h1
  obtain ⟨c, d⟩ := vr_pos h2
  rw [vrR_diV, h1, h2]
  simp only [mvR, arBr, inBr, Bool.and_self, if_true, diM, poV, gaV] at a b ⊢
  omega
theorem ucB_br {r o : Rc} {t : St} {x y : Int} (h1 : vrR (mvR x y r) = true) (h2 : vrR o = true) (hg : 0 ≤ t.g) : ucB t (mvR x y r) o = true ↔ ∃ b ∈ ucBr r o t, inBr b x y := by
  have e0 := ovQ_br h1 h2
  have e1 := diR_lt h1 h2 (g := 1) (by decide)
  obtain ⟨p1, p2⟩ := vr_pos h1
  obtain ⟨p3, p4⟩ := vr_pos h2
  have hn : 0 ≤ diR (mvR x y r) o := by
    rw [vrR_diV, h1, h2]
    simp only [Bool.and_self, if_true, diM, poV]
    omega
  have eg : 0 < t.g → (diR (mvR x y r) o < t.g ↔ inBr (arBr r o t.g) x y) := diR_lt h1 h2
  unfold ucB
  generalize diR (mvR x y r) o = d at *
  generalize ovQ (mvR x y r) o = q at *
  simp only [Bool.or_eq_true, Bool.and_eq_true, Bool.not_eq_true', Bool.and_eq_false_iff, decide_eq_true_eq, decide_eq_false_iff_not]
  simp only [mvR] at p1 p2
  unfold ucBr
  cases hc : t.c with
  | false =>
    simp only [Bool.false_eq_true, if_false, List.mem_singleton, exists_eq_left, true_or, and_true]
    rw [e0]
    by_cases h0 : 0 < t.g
    · rw [eg h0]
      simp only [inBr, arBr]
      omega
    · have : t.g = 0 := by omega
      rw [this]
      constructor
      · rintro (h | h)
        · exact h
        · omega
      · exact .inl
  | true =>
    simp only [if_true, List.mem_cons, List.not_mem_nil, or_false, exists_eq_or_imp, exists_eq_left, Bool.true_eq_false, false_or]
    rw [e0]
    by_cases h0 : 0 < t.g
    · rw [eg h0, show ¬ d = 0 ↔ ¬ inBr (arBr r o 1) x y by rw [← e1]; omega]
      simp only [inBr, arBr]
      omega
    · have : t.g = 0 := by omega
      rw [this]
      simp only [inBr, arBr]
      omega
end RG
end Go.Proofs.YtddhaiaapomdjaaGreat
set_option linter.unusedVariables false
set_option linter.unusedSimpArgs false
namespace Go.Proofs.YtddhaiaapomdjaaGreat
set_option linter.unusedVariables false
set_option linter.unusedSimpArgs false
open Go Go.ChangeShapes Go.WideShapes Go.ChangeAt Go.RowKit Go.Deep

namespace RG
def fdR (z : Int) (l : List Rc) : Int := l.foldl (fun a r => min a (z - r.x - r.w)) z
def fdT (z : Int) (l : List Rc) : Int := l.foldl (fun a r => min a (z - r.y - r.h)) z
def fdV (i : Rc) (l : List Rc) : Br := ⟨i.x, fdR (i.x + i.w) l, i.y, fdT (i.y + i.h) l⟩
def fdB1 (hard soft : List Rc) (t : St) (r : Rc) : List Br := hard.map (fun o => arBr r o 0) ++ soft.flatMap (fun o => ucBr r o t)
def fdB (l hard soft : List Rc) (t : St) : List Br := l.flatMap (fdB1 hard soft t)
def kpB (f b : Br) : Bool := decide (max b.l f.l ≤ min b.r f.r) && decide (max b.b f.b ≤ min b.t f.t)
def kpL (f : Br) (l : List Br) : List Br := l.filter (kpB f)
theorem fold_min {f : Rc → Int} : ∀ {l : List Rc} {z x : Int}, x ≤ l.foldl (fun a r => min a (f r)) z ↔ x ≤ z ∧ ∀ r ∈ l, x ≤ f r
  | [], z, x => by simp
  | r :: l, z, x => by
    rw [List.foldl_cons, fold_min]
    constructor
    · rintro ⟨h1, h2⟩
      refine ⟨by omega, fun s hs => ?_⟩
      rcases List.mem_cons.1 hs with e | e
      · subst e; omega
      · exact h2 s e
    · rintro ⟨h1, h2⟩
      have := h2 r List.mem_cons_self
      exact ⟨by omega, fun s hs => h2 s (List.mem_cons_of_mem _ hs)⟩
theorem free_keep {f : Br} {all bs : List Br} (hp : ∀ b, b ∈ bs ↔ b ∈ kpL f all) (x y : Int) : FreeP f bs x y ↔ FreeP f all x y := by
  constructor
  · rintro ⟨h1, h2⟩
    refine ⟨h1, fun b hb hi => ?_⟩
    by_cases hk : kpB f b = true
    · exact h2 b ((hp b).2 (List.mem_filter.2 ⟨hb, hk⟩)) hi
    · refine hk ?_
      unfold inBr at h1 hi
      simp only [kpB, Bool.and_eq_true, decide_eq_true_eq]
      omega
  · rintro ⟨h1, h2⟩
    exact ⟨h1, fun b hb => h2 b (List.mem_filter.1 ((hp b).1 hb)).1⟩
structure PlP (i : Rc) (hard soft : List Rc) (t : St) (l : List Rc) (x y : Int) : Prop where
  ins : ∀ r ∈ l, isR (mvR x y r) i = true
  hard : ∀ r ∈ l, ∀ o ∈ hard, ovQ (mvR x y r) o = false
  soft : ∀ r ∈ l, ∀ o ∈ soft, ucB t (mvR x y r) o = false
structure AtO (l : List Rc) : Prop where
  v : ∀ r ∈ l, vrR r = true
  px : ∀ r ∈ l, 0 ≤ r.x
  py : ∀ r ∈ l, 0 ≤ r.y
  zx : ∃ r ∈ l, r.x = 0
  zy : ∃ r ∈ l, r.y = 0
theorem isR_iff (r s : Rc) : isR r s = true ↔ (vrR r = true ∧ vrR s = true) ∧ (s.x ≤ r.x ∧ r.x + r.w ≤ s.x + s.w) ∧ s.y ≤ r.y ∧ r.y + r.h ≤ s.y + s.h := by
  show ((vrR r && vrR s) && (siB r.x r.w s.x s.w && siB r.y r.h s.y s.h)) = true ↔ _
  simp only [siB, Bool.and_eq_true, decide_eq_true_eq]
theorem place_iff {i : Rc} {hard soft : List Rc} {t : St} {l : List Rc} (ho : AtO l) (hi0 : 0 ≤ i.x ∧ 0 ≤ i.y) (hi1 : i.x + i.w ≤ 1048576 ∧ i.y + i.h ≤ 1048576) (hh : ∀ o ∈ hard, vrR o = true) (hs : ∀ o ∈ soft, vrR o = true) (hg : 0 ≤ t.g) (x y : Int) :
    FreeP (fdV i l) (fdB l hard soft t) x y ↔ PlP i hard soft t l x y := by
  have hfd : inBr (fdV i l) x y ↔ (i.x ≤ x ∧ i.y ≤ y) ∧ (x ≤ i.x + i.w ∧ y ≤ i.y + i.h) ∧ ∀ r ∈ l, x ≤ i.x + i.w - r.x - r.w ∧ y ≤ i.y + i.h - r.y - r.h := by
    unfold inBr fdV fdR fdT
    simp only []
    rw [fold_min, fold_min]
    constructor
    · rintro ⟨h1, ⟨h2, h3⟩, h4, h5, h6⟩
      exact ⟨⟨h1, h4⟩, ⟨h2, h5⟩, fun r hr => ⟨h3 r hr, h6 r hr⟩⟩
    · rintro ⟨⟨h1, h4⟩, ⟨h2, h5⟩, h⟩
      exact ⟨h1, ⟨h2, fun r hr => (h r hr).1⟩, h4, h5, fun r hr => (h r hr).2⟩
  have hval : inBr (fdV i l) x y → ∀ r ∈ l, vrR (mvR x y r) = true := fun h r hr => by
    obtain ⟨⟨a1, a2⟩, _, a3⟩ := hfd.1 h
    have b1 := a3 r hr
    have b2 := ho.px r hr
    have b3 := ho.py r hr
    have b4 := vr_pos (ho.v r hr)
    rw [vrR_iff]
    unfold mvR
    constructor <;> (simp only []; omega)
  have hins : inBr (fdV i l) x y ↔ ∀ r ∈ l, isR (mvR x y r) i = true := by
    constructor
    · intro h r hr
      obtain ⟨⟨a1, a2⟩, ⟨a4, a5⟩, a3⟩ := hfd.1 h
      have b1 := a3 r hr
      have b2 := ho.px r hr
      have b3 := ho.py r hr
      have b4 := vr_pos (ho.v r hr)
      rw [isR_iff]
      refine ⟨⟨hval h r hr, ?_⟩, ?_⟩
      · rw [vrR_iff]
        constructor <;> omega
      · simp only [mvR]
        omega
    · intro h
      rw [hfd]
      obtain ⟨r, hr, hx⟩ := ho.zx
      obtain ⟨s, hs', hy⟩ := ho.zy
      have h1 := (isR_iff _ _).1 (h r hr)
      have h2 := (isR_iff _ _).1 (h s hs')
      have b4 := vr_pos (ho.v r hr)
      have b5 := vr_pos (ho.v s hs')
      simp only [mvR] at h1 h2
      refine ⟨by omega, by omega, fun q hq => ?_⟩
      have h3 := (isR_iff _ _).1 (h q hq)
      simp only [mvR] at h3
      omega
  have hmem : ∀ b, b ∈ fdB l hard soft t ↔ ∃ r ∈ l, (∃ o ∈ hard, b = arBr r o 0) ∨ ∃ o ∈ soft, b ∈ ucBr r o t := by
    intro b
    simp only [fdB, fdB1, List.mem_flatMap, List.mem_append, List.mem_map]
    constructor
    · rintro ⟨r, hr, ⟨o, h1, rfl⟩ | h⟩
      · exact ⟨r, hr, .inl ⟨o, h1, rfl⟩⟩
      · exact ⟨r, hr, .inr h⟩
    · rintro ⟨r, hr, ⟨o, h1, rfl⟩ | h⟩
      · exact ⟨r, hr, .inl ⟨o, h1, rfl⟩⟩
      · exact ⟨r, hr, .inr h⟩
  constructor
  · rintro ⟨h1, h2⟩
    have hv := hval h1
    refine ⟨hins.1 h1, fun r hr o hO => ?_, fun r hr o hO => ?_⟩
    · rw [Bool.eq_false_iff]
      intro e
      exact h2 _ ((hmem _).2 ⟨r, hr, .inl ⟨o, hO, rfl⟩⟩) ((ovQ_br (hv r hr) (hh o hO)).1 e)
    · rw [Bool.eq_false_iff]
      intro e
      obtain ⟨b, hb, hi⟩ := (ucB_br (hv r hr) (hs o hO) hg).1 e
      exact h2 b ((hmem _).2 ⟨r, hr, .inr ⟨o, hO, hb⟩⟩) hi
  · rintro ⟨h1, h2, h3⟩
    have hf := hins.2 h1
    have hv := hval hf
    refine ⟨hf, fun b hb hi => ?_⟩
    obtain ⟨r, hr, ⟨o, hO, rfl⟩ | ⟨o, hO, hb'⟩⟩ := (hmem b).1 hb
    · have := (ovQ_br (hv r hr) (hh o hO)).2 hi
      rw [h2 r hr o hO] at this
      cases this
    · have := (ucB_br (hv r hr) (hs o hO) hg).2 ⟨b, hb', hi⟩
      rw [h3 r hr o hO] at this
      cases this
end RG
end Go.Proofs.YtddhaiaapomdjaaGreat
set_option linter.unusedVariables false
set_option linter.unusedSimpArgs false
namespace Go.Proofs.YtddhaiaapomdjaaGreat
set_option linter.unusedVariables false
set_option linter.unusedSimpArgs false
open Go Go.ChangeShapes Go.WideShapes Go.ChangeAt Go.RowKit Go.Deep

namespace RG
section
open Go.Lib
theorem mem_compactI (xs : List Int) (p : Int) : p ∈ compact xs ↔ p ∈ xs := by
  have hm : p ∈ compact xs ↔ ∃ j, j < xs.length ∧ keeps xs.toArray j = true ∧ xs.toArray[j]! = p := by
    unfold compact compactUpTo
    simp only [List.mem_map, List.mem_filter, List.mem_range]
    exact ⟨fun ⟨j, ⟨a, b⟩, c⟩ => ⟨j, a, b, c⟩, fun ⟨j, a, b, c⟩ => ⟨j, ⟨a, b⟩, c⟩⟩
  rw [hm]
  constructor
  · rintro ⟨j, a, _, rfl⟩
    have : xs.toArray[j]! = xs[j] := by rw [getElem!_pos xs.toArray j (by simpa using a)]; simp
    rw [this]
    exact List.getElem_mem a
  · intro h
    obtain ⟨j, hj, e⟩ := List.getElem_of_mem h
    have key : ∀ j, j < xs.length → xs.toArray[j]! = p → ∃ j, j < xs.length ∧ keeps xs.toArray j = true ∧ xs.toArray[j]! = p := by
      intro j
      induction j with
      | zero => exact fun a b => ⟨0, a, keeps_lt_one _ 0 (by omega), b⟩
      | succ j ih =>
        intro a b
        by_cases c : xs.toArray[j + 1]! = xs.toArray[j]!
        · exact ih (by omega) (by rw [← c]; exact b)
        · exact ⟨j + 1, a, keeps_pos (by simpa using c), b⟩
    exact key j hj (by rw [getElem!_pos xs.toArray j (by simpa using hj)]; simpa using e)
theorem compactI_up (xs : List Int) (h : xs.Pairwise (· ≤ ·)) : Up (compact xs) := by
  have hle : ∀ i j, i ≤ j → j < xs.length → xs.toArray[i]! ≤ xs.toArray[j]! := by
    intro i j hij hj
    by_cases e : i = j
    · subst e; exact Int.le_refl _
    · rw [List.pairwise_iff_getElem] at h
      have := h i j (by omega) hj (by omega)
      rw [getElem!_pos xs.toArray i (by simp; omega), getElem!_pos xs.toArray j (by simpa using hj)]
      simpa using this
  unfold Up compact compactUpTo
  rw [List.pairwise_map, List.pairwise_filter]
  refine List.Pairwise.imp_of_mem ?_ (List.pairwise_lt_range (n := xs.length))
  intro i j hi hj hij _ kj
  rw [List.mem_range] at hj
  have h1 := hle i (j - 1) (by omega) (by omega)
  have h2 := hle (j - 1) j (by omega) hj
  have hne : xs.toArray[j]! ≠ xs.toArray[j - 1]! := by
    have : j ≠ 0 := by omega
    simpa [keeps, this] using kj
  omega
theorem compactI_len (xs : List Int) : (compact xs).length ≤ xs.length := by
  unfold compact compactUpTo
  rw [List.length_map]
  exact Nat.le_trans (List.length_filter_le _ _) (by simp)
end
theorem fm_inL (xs : List Int) : xs.flatMap inL = xs.map (Value.int .i64) := by
  induction xs with
  | nil => rfl
  | cons x xs ih => rw [List.flatMap_cons, ih]; rfl
theorem own_holds {w : World} {base g cap : Nat} {xs : List Int} (h : OwnL w base 3 1 inL (.slice (some ⟨g, 0, none⟩) xs.length cap) xs) : Go.Sort.Holds (Value.int .i64) w g 0 xs.toArray := by
  intro j hj
  have hj' : j < xs.length := by simpa using hj
  rw [Nat.zero_add]
  refine ⟨?_, World.ownsRow.frozenAt (h := h) j⟩
  rw [World.ownsRow.cellAt (h := h) j (by omega), fm_inL, List.getElem?_map, List.getElem?_eq_getElem hj', getElem!_pos _ j (by simpa using hj)]
  simp
theorem own_sorted {w : World} {base g cap n : Nat} {xs : List Int} {d : Array Int} (h : OwnL w base 3 1 inL (.slice (some ⟨g, 0, none⟩) xs.length cap) xs) (hl : d.size = xs.length) (m : Nat) (os : Array Obj) (hn : n = d.size) :
    OwnL (Go.Proofs.sortWorld (Value.int .i64) w g 0 m d os) base 3 1 inL (.slice (some ⟨g, 0, none⟩) n cap) d.toList := by
  subst hn
  unfold OwnL at *
  obtain ⟨h1, h2⟩ := h
  rcases h2 with ⟨h0, _⟩ | ⟨g', cap', cur, hv, hg, hh, hn, hcap, hsz, htake⟩
  · cases h0
  · cases hv
    refine ⟨by rw [fm_inL]; simp, .inr ⟨g, cap, Go.Sort.putCells (Value.int .i64) 0 d cur, by simp, hg, ?_, by simp; omega, hcap, by simpa [Go.Sort.putCells] using hsz, ?_⟩⟩
    · have hlt : g < w.heap.size := (Array.getElem?_eq_some_iff.1 hh).1
      unfold Go.Proofs.sortWorld Go.Sort.putRow
      rw [Go.Sort.heap_grow_old _ _ (by simpa [Go.Sort.mapBlock, Go.Sort.ahead] using hlt)]
      simp [Go.Sort.mapBlock, Go.Sort.ahead, Array.getElem?_modify, hh, Go.Sort.onCells]
    · rw [fm_inL]
      apply List.ext_getElem?
      intro j
      by_cases hj : j < d.size
      · have hjc : j < cur.size := by omega
        rw [List.getElem?_take, if_pos (by simpa using hj), Array.getElem?_toList]
        simp only [Go.Sort.putCells, Array.getElem?_mapIdx, Array.getElem?_eq_getElem hjc, Option.map_some]
        rw [if_pos (by omega), List.getElem?_map, Array.getElem?_toList, Array.getElem?_eq_getElem hj, Nat.sub_zero, getElem!_pos d j hj]
        rfl
      · rw [List.getElem?_take_eq_none (by simp; omega), List.getElem?_eq_none (by simp; omega)]
theorem gr_sorted {a b : World} {g : Nat} (h : Gr a b) (hg : a.heap.size ≤ g) (m : Nat) (d : Array Int) (os : Array Obj) : Gr a (Go.Proofs.sortWorld (Value.int .i64) b g 0 m d os) := by
  have hs := h.size
  refine ⟨h.os, h.tape, h.output, ?_, fun k hk => ?_⟩
  · unfold Go.Proofs.sortWorld Go.Sort.putRow
    simp [Go.Sort.grow, Go.Sort.mapBlock, Go.Sort.ahead]
    omega
  · unfold Go.Proofs.sortWorld Go.Sort.putRow
    rw [Go.Sort.heap_grow_old _ _ (by simp [Go.Sort.mapBlock, Go.Sort.ahead]; omega), ← Below.block h k hk]
    simp [Go.Sort.mapBlock, Go.Sort.ahead, Array.getElem?_modify, show g ≠ k by omega]
theorem own_cutI {w : World} {base g n cap : Nat} {xs ys : List Int} (h : OwnL w base 3 1 inL (.slice (some ⟨g, 0, none⟩) n cap) (xs ++ ys)) (hn : n = (xs ++ ys).length) : OwnL w base 3 1 inL (.slice (some ⟨g, 0, none⟩) xs.length cap) xs := by
  subst hn
  unfold OwnL at *
  obtain ⟨h1, h2⟩ := h
  rcases h2 with ⟨h0, _⟩ | ⟨g', cap', cur, hv, hg, hh, hn, hcap, hsz, htake⟩
  · cases h0
  · cases hv
    refine ⟨fm_len (c := inL) (fun _ => rfl) xs, .inr ⟨g, cap, cur, rfl, hg, hh, by rw [List.length_append] at hn; omega, hcap, hsz, ?_⟩⟩
    have e : (cur.toList.take ((xs ++ ys).length * 1)).take (xs.length * 1) = ((xs ++ ys).flatMap inL).take (xs.length * 1) := by rw [htake]
    rw [List.take_take, List.length_append, Nat.min_eq_left (by omega), List.flatMap_append, List.take_left' (fm_len (c := inL) (fun _ => rfl) xs)] at e
    exact e
theorem ltI (x y : Int) : ltOf Lib.compareInt x y = decide (x < y) := by
  unfold ltOf Lib.compareInt
  by_cases h1 : x < y
  · simp [h1]
  · by_cases h2 : y < x <;> simp [h1, h2]
end RG
end Go.Proofs.YtddhaiaapomdjaaGreat
set_option linter.unusedVariables false
set_option linter.unusedSimpArgs false
namespace Go.Proofs.YtddhaiaapomdjaaGreat
set_option linter.unusedVariables false
set_option linter.unusedSimpArgs false
open Go Go.ChangeShapes Go.WideShapes Go.ChangeAt Go.RowKit Go.Deep

namespace RG
def swp : List Rc → Int → Int → Int
  | [], s, _ => s
  | r :: l, s, t => swp l (s + max 0 (r.y + r.h - max r.y t)) (max t (r.y + r.h))
end RG
end Go.Proofs.YtddhaiaapomdjaaGreat
set_option linter.unusedVariables false
set_option linter.unusedSimpArgs false
namespace Go.Proofs.YtddhaiaapomdjaaGreat
set_option linter.unusedVariables false
set_option linter.unusedSimpArgs false
open Go Go.ChangeShapes Go.WideShapes Go.ChangeAt Go.RowKit Go.Deep

namespace RG
theorem Fld.grown {lo : Nat} {rb : Nat → Nat} {n : Nat} {w w' w2 : World} {row : Option Nat} (h : Fld lo rb n w w') (g : w'.grownBy w2 row) (hr : ∀ k, row = some k → w.heap.size ≤ k) : Fld lo rb n w w2 := by
  refine ⟨fun a ha hl => Gr.grown (h.below a ha hl) g (fun k hk => Nat.le_trans ha.size (hr k hk)), Nat.le_trans h.size g.size, fun b o hb hn => ?_⟩
  have hb2 := Nat.lt_of_lt_of_le hb h.size
  have hne : some b ≠ row := fun e => by
    have := hr b e.symm
    omega
  exact ⟨(g.cell_far ⟨b, o, none⟩ hb2 hne).trans (h.cell b o hb hn).1, (g.frozen_far ⟨b, o, none⟩ hb2 hne).trans (h.cell b o hb hn).2⟩
theorem allR_snoc {L : List RS} {k : Nat} {x : RS} (h : L[k]? = some x) : allR (L.take (k + 1)) = allR (L.take k) ++ x.l := by
  unfold allR
  rw [take_at h, List.flatMap_append]
  simp
abbrev rwL (n : Nat) (b : Nat) : List Value := [.slice (some ⟨b, 0, none⟩) n n]
structure Rws (w : World) (lo n : Nat) (F : Option Addr) (f : Nat) (bs : List Nat) : Prop where
  own : OwnL w lo 72 1 (rwL n) (.slice F bs.length f) bs
  cell : ∀ b ∈ bs, lo ≤ b ∧ b < w.heap.size ∧ ∀ j, j < n → w.cell? ⟨b, j, none⟩ = some (.bool false) ∧ w.frozen? ⟨b, j, none⟩ = false
  nd : bs.Nodup
  far : ∀ b ∈ bs, (Value.slice F bs.length f).ownBlock ≠ some b
theorem Rws.set {w : World} {lo n : Nat} {F : Option Addr} {f : Nat} {bs : List Nat} (h : Rws w lo n F f bs) {S : Nat} (hS : S < lo) (i : Nat) (v : Value) : Rws (w.setCell ⟨S, i, none⟩ v) lo n F f bs := by
  have hb : ∀ b, b ≠ S → (w.setCell ⟨S, i, none⟩ v).heap[b]? = w.heap[b]? := fun b hb => heap_setCell_other w ⟨S, i, none⟩ b v (fun e => hb (by simpa using e))
  refine ⟨?_, fun b hbm => ?_, h.nd, h.far⟩
  · obtain ⟨h0, h1 | ⟨b, cap, cur, h1, hb', h2, h3⟩⟩ := id h.own
    · exact ⟨h0, .inl h1⟩
    · exact ⟨h0, .inr ⟨b, cap, cur, h1, hb', (hb b (by omega)).trans h2, h3⟩⟩
  · obtain ⟨k1, k2, k3⟩ := h.cell b hbm
    exact ⟨k1, by simpa using k2, fun j hj => ⟨(World.cell?_of_block (hb b (by omega))).trans (k3 j hj).1, (World.frozen?_of_block (hb b (by omega))).trans (k3 j hj).2⟩⟩
theorem newsN (w : World) (cs : Array Value) (t : TypeId) (n : Nat) (h : n = w.heap.size) : ∀ j u, cs.toList[j]? = some u → (w.alloc (.cells cs t)).cell? ((⟨n, 0, none⟩ : Addr).add j) = some u := by
  subst h
  exact newsA w cs t
theorem GrM.weak {w : World} {lo up lo' up' : Nat} {X Y : List Int} {A B F : Option Addr} {a b f : Nat} {rb : Nat → Nat} {c : Nat → Nat → Bool} (h : GrM w lo up X Y A B F a b f rb c) (h1 : lo' ≤ lo) (h2 : up ≤ up') (h3 : up' ≤ w.heap.size) : GrM w lo' up' X Y A B F a b f rb c :=
  ⟨h.sx, h.sy, h.rows, h.cell, h.inj, fun x hx => ⟨Nat.le_trans h1 (h.lx x hx).1, Nat.lt_of_lt_of_le (h.lx x hx).2.1 h2, (h.lx x hx).2.2⟩, fun x hx => ⟨Nat.le_trans h1 (h.ly x hx).1, Nat.lt_of_lt_of_le (h.ly x hx).2.1 h2, (h.ly x hx).2.2⟩, fun x hx => ⟨Nat.le_trans h1 (h.lf x hx).1, Nat.lt_of_lt_of_le (h.lf x hx).2.1 h2, (h.lf x hx).2.2⟩, fun i hi => ⟨Nat.le_trans h1 (h.lr i hi).1, Nat.lt_of_lt_of_le (h.lr i hi).2 h2⟩, h3, h.cf, h.cfB, h.n1, h.n2⟩
theorem GrM.set {w : World} {lo up : Nat} {X Y : List Int} {A B F : Option Addr} {a b f : Nat} {rb : Nat → Nat} {c : Nat → Nat → Bool} (h : GrM w lo up X Y A B F a b f rb c) {S : Nat} (hS : S < lo) (i : Nat) (v : Value) : GrM (w.setCell ⟨S, i, none⟩ v) lo up X Y A B F a b f rb c :=
  h.keep (by simp) fun b o hb _ => by
    have hne : b ≠ S := by omega
    have e := heap_setCell_other w ⟨S, i, none⟩ b v (fun e => hne (by simpa using e))
    exact ⟨World.cell?_of_block e, World.frozen?_of_block e⟩
end RG
end Go.Proofs.YtddhaiaapomdjaaGreat
set_option linter.unusedVariables false
set_option linter.unusedSimpArgs false
namespace Go.Proofs.YtddhaiaapomdjaaGreat
set_option linter.unusedVariables false
set_option linter.unusedSimpArgs false
open Go Go.ChangeShapes Go.WideShapes Go.ChangeAt Go.RowKit Go.Deep

namespace RG
theorem run_append_zero {P : Program} (w : World) (t ty e : TypeId) (i : TypeInfo) (ht : P.underlying t = some (.slice e)) (hi : P.info? e = some i) (B : Option Addr) (n c : Nat) (hnc : n ≤ c) (X : Option Addr) (cc : Nat) :
    (Builtin.append_ #[t, t] ty #[.slice B n c, .slice X 0 cc]).run P w = .ok (.slice B n c) w := by
  have hz : (Builtin.firstCells i.size 0 (.slice X 0 cc)).run P w = .ok #[] w := by
    cases X with
    | none => exact run_firstCells_none w i.size 0 0 cc
    | some a => exact run_firstCells_some w i.size 0 a 0 cc [] (by simp) (by simp)
  cases B <;> simp [Builtin.append_, run_underlying ht, sizeOf, typeInfo, hi, Builtin.lenOf, hnc, hz, storeCells]
theorem wpList_app0 {P : Program} {w : World} {ops : Array Oper} {rest : List Oper} {o : Oper} {a : Act} {Q : Exit → Act → World → Prop} (hgd : o.guard = none) (s x : Operand) (t : TypeId)
    (ho : o.op = .call { callee := .builtin .append, args := #[s, x], argTypes := #[t, t] }) (e : TypeId) (k bts : Nat) (T : ElT P t e k bts) (B : Option Addr) (n c : Nat) (hs : a.eval s = .slice B n c) (hnc : n ≤ c) (X : Option Addr) (cc : Nat) (hx : a.eval x = .slice X 0 cc)
    (h : wpList P ops Q rest (a.put o.dst (.slice B n c)) w) : wpList P ops Q (o :: rest) a w := by
  obtain ⟨i, z, hi, hz, hsz, hby, hzs⟩ := T.inf
  refine wpList_plain hgd fun _ hK => ?_
  unfold Oper.wp execOp
  simp only [ho, resolve, invoke, builtin, Sem.run_bind, Sem.run_pure, Result.andThen_ok, List.map_toArray, List.map_cons, List.map_nil, hs, hx, run_append_zero w t o.type e i T.und hi B n c hnc X cc]
  exact hK _ _ h
theorem own_cap {α : Type} {c : α → List Value} {w : World} {base : Nat} {e : TypeId} {k n d : Nat} {A : Option Addr} {xs : List α} (h : OwnL w base e k c (.slice A n d) xs) : n ≤ d := by
  rcases h.2 with ⟨h1, h2⟩ | ⟨g, cap, cur, hv, hb, hh, hn, _⟩
  · cases h1
    exact Nat.le_refl _
  · cases hv
    exact hn
theorem growR (n : Nat) (w : World) (hn : n ≤ 1000000) :
    Calls Tryz.prog 128 #[.slice none 0 0, iv (n : Int)] w fun e w' => ∃ D q, e = .returned (.slice D 0 q) ∧ OwnL w' w.heap.size 70 4 rcL (.slice D 0 q) [] ∧ Gr w w' := by
  by_cases h0 : n = 0
  · subst h0
    refine (Go.Proofs.Any8.slices_Grow_room Tryz.layFGrow none 0 0 0 w (Nat.le_refl _) (by omega) (by omega) (Nat.le_refl _)).mono ?_
    rintro e w' ⟨rfl, rfl⟩
    exact ⟨none, 0, rfl, own_nil _ _ _ _ _, Gr.refl _⟩
  · obtain ⟨i, z, hi, hz, hsz, hby, hzs⟩ := elRect.inf
    refine (Go.Proofs.Any8.slices_Grow_grow Tryz.layFGrow i z hi hz (by omega) none 0 0 n [] w (Nat.le_refl _) (by omega) (by rw [hby]; omega) (by omega) (by simp) (fun _ => rfl) (fun a ha => by cases ha)).mono ?_
    rintro e w' ⟨rfl, rfl⟩
    have hG : 0 + n ≤ grownCap w (0 + n) 0 70 := grownCap_ge w _ _ _
    have hG2 := grownCap_le_maxLen w (0 + n) 0 70 (by unfold maxLen; omega)
    refine ⟨_, _, rfl, ?_, ?_⟩
    · refine ⟨by simp, .inr ⟨w.heap.size, _, (#[] ++ Builtin.zeroCells z.cells (0 + n - 0) ++ Builtin.zeroCells z.cells (grownCap w (0 + n) 0 70 - (0 + n))), rfl, Nat.le_refl _, heap_alloc_new w.drew _, Nat.zero_le _, hG2, ?_, by simp⟩⟩
      · simp only [Array.size_append, size_zeroCells, hzs]
        rw [Nat.zero_add] at hG
        simp
        show n * 4 + (grownCap w n 0 70 - n) * 4 = grownCap w n 0 70 * 4
        omega
    · exact Gr.alloc (Gr.drew (Gr.refl _)) _
theorem news_at {w : World} {A : Option Addr} {c : Nat} {l : List Rc} (h : SlR w A c l) {b off : Nat} (hA : A = some ⟨b, off, none⟩) : ∀ j u, (l.flatMap rcL)[j]? = some u → w.cell? ((⟨b, off, none⟩ : Addr).add j) = some u := by
  intro j u hu
  subst hA
  have hfl : (l.flatMap rcL).length = l.length * 4 := fm_len (c := rcL) (fun _ => rfl) l
  have hj := (List.getElem?_eq_some_iff.1 hu).1
  rw [hfl] at hj
  have hi : j / 4 < l.length := by omega
  obtain ⟨b', off', e, h0, h1, h2, h3⟩ := h.at_ (List.getElem?_eq_getElem hi)
  cases e
  have hr : j % 4 < 4 := Nat.mod_lt _ (by omega)
  have hf := fm_at (c := rcL) (k := 4) (fun _ => rfl) l (j / 4) _ (j % 4) (List.getElem?_eq_getElem hi) hr
  rw [show j / 4 * 4 + j % 4 = j by omega, hu] at hf
  rw [addr_add, show off + j = off + j / 4 * 4 + j % 4 by omega]
  generalize l[j / 4] = r at *
  generalize j / 4 * 4 = p at *
  generalize j % 4 = q at *
  match q, hr with
  | 0, _ => rw [Nat.add_zero, h0]; exact hf.symm
  | 1, _ => rw [h1]; exact hf.symm
  | 2, _ => rw [h2]; exact hf.symm
  | 3, _ => rw [h3]; exact hf.symm
theorem one_all (l : List Rc) : ∀ u ∈ l.flatMap rcL, u.oneCell' = true := by
  intro u hu
  obtain ⟨r, _, hr⟩ := List.mem_flatMap.1 hu
  exact one_rc r u hr
theorem allR_take (L : List RS) (k : Nat) : (allR (L.take k)).length ≤ (allR L).length := by
  have : allR L = allR (L.take k) ++ allR (L.drop k) := by
    unfold allR
    rw [← List.flatMap_append, List.take_append_drop]
  rw [this, List.length_append]
  omega
set_option maxHeartbeats 4000000 in
set_option maxRecDepth 100000 in
theorem Concat_any (A : Option Addr) (c : Nat) (L : List RS) (w : World) (hL : SlRR w A c L) (hn : L.length ≤ 1000) (hm : (allR L).length ≤ 1000) :
    Calls Tryz.prog 86 #[.slice A L.length c] w fun e w' => ∃ D q, e = .returned (.slice D (allR L).length q) ∧ OwnL w' w.heap.size 70 4 rcL (.slice D (allR L).length q) (allR L) ∧ Gr w w' := by
  have HL := hide hL
  have n1 := hL.cap
  have n2 := hL.capB
  have HSN := hide (fun (k : Nat) (x : RS) (h : L[k]? = some x) => allR_snoc h)
  have HTK := hide (fun k => allR_take L k)
  clear hL
  go_enter Tryz.func86, Tryz.ntmps86
  go_wp2
  go_loop [3, 11] (fun t i => ∃ k : Nat, k ≤ L.length ∧ i = iv k ∧ t = iv ((allR (L.take k)).length : Nat)) (fun _ i => L.length - (intOf i).toNat)
  case atStart => exact ⟨0, by omega, rfl, rfl⟩
  case round =>
    obtain ⟨k, hk, rfl, rfl⟩ := hrel
    by_cases hkl : k < L.length
    · obtain ⟨x, hx⟩ : ∃ x, L[k]? = some x := ⟨_, List.getElem?_eq_getElem hkl⟩
      obtain ⟨b, off, rfl, h0, hS⟩ := HL.out.at_ hx
      have hk0 : (0 : Int) ≤ (k : Int) := by omega
      have hk1 : (k : Int) < (L.length : Int) := by omega
      have e := HSN.out k x hx
      have t1 := HTK.out k
      have t2 := HTK.out (k + 1)
      have e2 : (allR (L.take (k + 1))).length = (allR (L.take k)).length + x.l.length := by rw [e, List.length_append]
      have HE := hide e2
      have s1 : IntKind.i64.wrap (((allR (L.take k)).length : Int) + (x.l.length : Int)) = ((allR (L.take k)).length : Int) + (x.l.length : Int) := IntWalk.i64_in _ (by omega)
      have s2 : ¬ ((allR (L.take k)).length : Int) + (x.l.length : Int) < 0 := by omega
      have s3 : IntKind.i64.wrap ((k : Int) + 1) = (k : Int) + 1 := IntWalk.i64_in _ (by omega)
      clear e e2 t1 t2 hx hS
      generalize (allR (L.take k)).length = p at *
      go_wp2
      go_round
      case rel => exact ⟨k + 1, by omega, by go_num, by rw [HE.out]; rfl⟩
      case measure => simp only [intOf]; omega
    · obtain rfl : k = L.length := by omega
      rw [List.take_length]
      go_wp2_with fail
      refine (growR (allR L).length w (by omega)).mono ?_
      rintro e w1 ⟨D0, q0, rfl, ho0, g0⟩
      have HO0 := hide ho0
      clear ho0
      go_wp2_with fail
      go_loopw [6, 27] (fun v i wr => ∃ (k : Nat) (D : Option Addr) (q : Nat), k ≤ L.length ∧ i = iv k ∧ v = .slice D (allR (L.take k)).length q ∧ OwnL wr w.heap.size 70 4 rcL (.slice D (allR (L.take k)).length q) (allR (L.take k)) ∧ Gr w wr) (fun _ i _ => L.length - (intOf i).toNat)
      case atStart => exact ⟨0, D0, q0, by omega, rfl, rfl, HO0.out, g0⟩
      case round =>
        obtain ⟨k, D, q, hk, rfl, rfl, ho, g⟩ := hrel
        have HO := hide ho
        clear ho
        by_cases hkl : k < L.length
        · obtain ⟨x, hx⟩ : ∃ x, L[k]? = some x := ⟨_, List.getElem?_eq_getElem hkl⟩
          obtain ⟨b, off, rfl, h0, hS⟩ := (HL.out.gr g).at_ hx
          have hk0 : (0 : Int) ≤ (k : Int) := by omega
          have hk1 : (k : Int) < (L.length : Int) := by omega
          have HE := hide (HSN.out k x hx)
          have t1 := HTK.out k
          have t2 := HTK.out (k + 1)
          have gz := g.size
          rw [HE.out, List.length_append] at t2
          have s3 : IntKind.i64.wrap ((k : Int) + 1) = (k : Int) + 1 := IntWalk.i64_in _ (by omega)
          obtain ⟨X, xc, xl⟩ := x
          simp only at h0 hS HE t2
          have HS := hide hS
          clear hS hx
          by_cases hz : xl = []
          · subst hz
            have HE2 : Hid (allR (L.take (k + 1)) = allR (L.take k)) := hide (by rw [HE.out, List.append_nil])
            have hcp := own_cap HO.out
            simp only [List.length_nil] at h0
            go_wp2_with (refine wpList_app0 rfl _ _ _ rfl 70 4 32 elRect D _ q rfl hcp X xc rfl ?_)
            go_roundw
            case rel => exact ⟨k + 1, D, q, by omega, by go_num, by rw [HE2.out], by rw [HE2.out]; exact HO.out, g⟩
            case measure => simp only [intOf]; omega
          · have hpos : 0 < xl.length := List.length_pos_iff.2 hz
            obtain ⟨b2, off2, hX, _⟩ := HS.out.at_ (List.getElem?_eq_getElem hpos)
            subst hX
            clear hz
            go_wp2_with (refine wpList_appZ rfl _ _ _ rfl rcL w.heap.size 70 4 32 elRect (by decide) _ xl _ HE.out.symm (.slice D (allR (L.take k)).length q) rfl HO.out ⟨b2, off2, none⟩ xl.length xc rfl rfl hpos (fun _ => rfl) (news_at HS.out rfl) (one_all xl) (by omega) (by decide) gz ?_; intro gg cap1 w8 hO8 hG8 hg8 hor hlt8)
            have G8 := hG8 _ g (Nat.le_refl _)
            have HO8 := hide hO8
            clear hO8 hG8 hg8
            go_roundw
            case rel => exact ⟨k + 1, some ⟨gg, 0, none⟩, cap1, by omega, by go_num, rfl, HO8.out, G8⟩
            case measure => simp only [intOf]; omega
        · obtain rfl : k = L.length := by omega
          rw [List.take_length] at HO ⊢
          have hk1 : ¬ ((L.length : Int) < (L.length : Int)) := by omega
          go_wp2
          go_ret
          exact ⟨D, q, rfl, HO.out, g⟩
end RG
end Go.Proofs.YtddhaiaapomdjaaGreat
set_option linter.unusedVariables false
set_option linter.unusedSimpArgs false
namespace Go.Proofs.YtddhaiaapomdjaaGreat
set_option linter.unusedVariables false
set_option linter.unusedSimpArgs false
open Go Go.ChangeShapes Go.WideShapes Go.ChangeAt Go.RowKit Go.Deep

namespace RG
end RG
end Go.Proofs.YtddhaiaapomdjaaGreat
set_option linter.unusedVariables false
set_option linter.unusedSimpArgs false
namespace Go.Proofs.YtddhaiaapomdjaaGreat
set_option linter.unusedVariables false
set_option linter.unusedSimpArgs false
open Go Go.ChangeShapes Go.WideShapes Go.ChangeAt Go.RowKit Go.Deep

namespace RG
structure Bd where
  f : Int
  p : Int
  a : Int
  b : Int
  c : Int
  d : Int
  n : Int
  e : Int
abbrev bdL (x : Bd) : List Value := [iv x.f, iv x.p, iv x.a, iv x.b, iv x.c, iv x.d, iv x.n, iv x.e]
structure SlB (w : World) (A : Option Addr) (c : Nat) (l : List Bd) : Prop where
  rd : RdL w 8 bdL A l
  cap : l.length ≤ c
  capB : c ≤ 9223372036854775807
theorem SlB.gr {w w' : World} {A : Option Addr} {c : Nat} {l : List Bd} (h : SlB w A c l) (g : Gr w w') : SlB w' A c l := ⟨h.rd.gr g, h.cap, h.capB⟩
theorem SlB.at_ {w : World} {A : Option Addr} {c : Nat} {l : List Bd} (h : SlB w A c l) {i : Nat} {z : Bd} (hi : l[i]? = some z) : ∃ b off, A = some ⟨b, off, none⟩ ∧ w.cell? ⟨b, off + i * 8, none⟩ = some (iv z.f) ∧ w.cell? ⟨b, off + i * 8 + 1, none⟩ = some (iv z.p) ∧ w.cell? ⟨b, off + i * 8 + 2, none⟩ = some (iv z.a) ∧ w.cell? ⟨b, off + i * 8 + 3, none⟩ = some (iv z.b) ∧ w.cell? ⟨b, off + i * 8 + 4, none⟩ = some (iv z.c) ∧ w.cell? ⟨b, off + i * 8 + 5, none⟩ = some (iv z.d) ∧ w.cell? ⟨b, off + i * 8 + 6, none⟩ = some (iv z.n) ∧ w.cell? ⟨b, off + i * 8 + 7, none⟩ = some (iv z.e) := by
  obtain ⟨b, off, e, h0, h1, h2, h3, h4, h5, h6, h7, _⟩ := h.rd i z hi
  exact ⟨b, off, e, h0, h1, h2, h3, h4, h5, h6, h7⟩
structure Pat where
  r : List Rc
  c : List Rc
  f : List Rc
  b : List Bd
structure PatW (w : World) (A1 : Option Addr) (c1 : Nat) (A2 : Option Addr) (c2 : Nat) (A3 : Option Addr) (c3 : Nat) (A4 : Option Addr) (c4 : Nat) (F : Pat) : Prop where
  r : SlR w A1 c1 F.r
  c : SlR w A2 c2 F.c
  f : SlR w A3 c3 F.f
  b : SlB w A4 c4 F.b
theorem PatW.gr {w w' : World} {A1 : Option Addr} {c1 : Nat} {A2 : Option Addr} {c2 : Nat} {A3 : Option Addr} {c3 : Nat} {A4 : Option Addr} {c4 : Nat} {F : Pat} (h : PatW w A1 c1 A2 c2 A3 c3 A4 c4 F) (g : Gr w w') : PatW w' A1 c1 A2 c2 A3 c3 A4 c4 F := ⟨h.r.gr g, h.c.gr g, h.f.gr g, h.b.gr g⟩
abbrev ptv (A1 : Option Addr) (n1 c1 : Nat) (A2 : Option Addr) (n2 c2 : Nat) (A3 : Option Addr) (n3 c3 : Nat) (A4 : Option Addr) (n4 c4 : Nat) : Value := .agg #[.slice A1 n1 c1, .slice A2 n2 c2, .slice A3 n3 c3, .slice A4 n4 c4]
def nsL (x : Bd) : List Int := [x.a, x.b, x.c, x.d]
def bdB (x : Bd) : Bool := (nsL x).all fun n => wiB n (-1048576) 1048576
def lmB (F : Pat) : Bool := (F.r.all vrR && F.c.all vrR && F.f.all vrR) && F.b.all bdB
theorem fwithin_any (n l m : Int) (w : World) : Calls Tryz.prog 126 #[iv n, iv l, iv m] w fun e w' => e = .returned (.bool (wiB n l m)) ∧ w = w' := by
  go_enter Tryz.func126, Tryz.ntmps126
  go_wp2
  all_goals
    go_ret
    exact ⟨ret_bool (by simp [wiB]; try omega), rfl⟩
theorem slRR_3 {w : World} {A B C : Option Addr} {c d q : Nat} {l m n : List Rc} (t : TypeId) (h : SlR w A c l) (k : SlR w B d m) (j : SlR w C q n) : SlRR (w.alloc (.cells #[.slice A l.length c, .slice B m.length d, .slice C n.length q] t)) (some ⟨w.heap.size, 0, none⟩) 3 [⟨A, c, l⟩, ⟨B, d, m⟩, ⟨C, q, n⟩] := by
  refine ⟨?_, ?_, by simp, by omega⟩
  · intro i x hi
    match i with
    | 0 =>
      simp only [List.getElem?_cons_zero, Option.some.injEq] at hi
      subst hi
      exact ⟨w.heap.size, 0, rfl, by simp [go_sem], trivial⟩
    | 1 =>
      simp only [List.getElem?_cons_succ, List.getElem?_cons_zero, Option.some.injEq] at hi
      subst hi
      exact ⟨w.heap.size, 0, rfl, by simp [go_sem], trivial⟩
    | 2 =>
      simp only [List.getElem?_cons_succ, List.getElem?_cons_zero, Option.some.injEq] at hi
      subst hi
      exact ⟨w.heap.size, 0, rfl, by simp [go_sem], trivial⟩
    | i + 3 => simp at hi
  · intro x hx
    simp only [List.mem_cons, List.not_mem_nil, or_false] at hx
    rcases hx with rfl | rfl | rfl
    · exact h.gr (Gr.alloc (Gr.refl _) _)
    · exact k.gr (Gr.alloc (Gr.refl _) _)
    · exact j.gr (Gr.alloc (Gr.refl _) _)
theorem sli_4 (w : World) (a b c d : Int) (t : TypeId) : SlI (w.alloc (.cells #[iv a, iv b, iv c, iv d] t)) (some ⟨w.heap.size, 0, none⟩) 4 [a, b, c, d] := by
  refine ⟨fun i p hp => ?_, by simp, by omega⟩
  refine ⟨w.heap.size, 0, rfl, ?_, trivial⟩
  match i with
  | 0 => simp only [List.getElem?_cons_zero, Option.some.injEq] at hp; subst hp; simp [go_sem]
  | 1 => simp only [List.getElem?_cons_succ, List.getElem?_cons_zero, Option.some.injEq] at hp; subst hp; simp [go_sem]
  | 2 => simp only [List.getElem?_cons_succ, List.getElem?_cons_zero, Option.some.injEq] at hp; subst hp; simp [go_sem]
  | 3 => simp only [List.getElem?_cons_succ, List.getElem?_cons_zero, Option.some.injEq] at hp; subst hp; simp [go_sem]
  | i + 4 => simp at hp
theorem all_no {α : Type} {p : α → Bool} {l : List α} {i : Nat} {x : α} (h : l[i]? = some x) (k : p x = false) : l.all p = false := by
  cases hh : l.all p with
  | false => rfl
  | true => rw [List.all_eq_true.1 hh x (List.mem_of_getElem? h)] at k; cases k
theorem all_yes {α : Type} {p : α → Bool} {l : List α} (h : ∀ (j : Nat) (s : α), j < l.length → l[j]? = some s → p s = true) : l.all p = true := by
  rw [List.all_eq_true]
  intro x hx
  obtain ⟨i, hi⟩ := List.mem_iff_getElem?.1 hx
  exact h i x (List.getElem?_eq_some_iff.1 hi).1 hi
theorem lm_rows (F : Pat) (A B C : Option Addr) (c d q : Nat) : lmB F = (([⟨A, c, F.r⟩, ⟨B, d, F.c⟩, ⟨C, q, F.f⟩] : List RS).all (fun x => x.l.all vrR) && F.b.all bdB) := by
  simp [lmB, Bool.and_assoc]
set_option maxHeartbeats 8000000 in
set_option maxRecDepth 100000 in
theorem inLimits_any (A1 A2 A3 A4 : Option Addr) (c1 c2 c3 c4 : Nat) (F : Pat) (w : World) (hF : PatW w A1 c1 A2 c2 A3 c3 A4 c4 F) :
    Calls Tryz.prog 127 #[ptv A1 F.r.length c1 A2 F.c.length c2 A3 F.f.length c3 A4 F.b.length c4] w fun e w' => e = .returned (.bool (lmB F)) ∧ Gr w w' := by
  have HF := hide hF
  have n7 := hF.b.cap
  have n8 := hF.b.capB
  have HLM := hide (lm_rows F A1 A2 A3 c1 c2 c3)
  have HLL := hide (fun (w' : World) (g : Gr w w') => slRR_3 (w := w') 22 (hF.r.gr g) (hF.c.gr g) (hF.f.gr g))
  obtain ⟨L, hL⟩ : ∃ L : List RS, [⟨A1, c1, F.r⟩, ⟨A2, c2, F.c⟩, ⟨A3, c3, F.f⟩] = L := ⟨_, rfl⟩
  rw [hL] at HLM HLL
  have hL3 : L.length = 3 := by rw [← hL]; rfl
  have HL3 := hide hL3
  clear hF hL hL3
  go_enter Tryz.func127, Tryz.ntmps127
  go_wp2_with fail
  have g0 : Gr w (w.alloc (.cells #[.slice A1 F.r.length c1, .slice A2 F.c.length c2, .slice A3 F.f.length c3, .slice A4 F.b.length c4] 86)) := Gr.alloc (Gr.refl _) _
  have HB4 := hide (fun (w' : World) (g : Gr (w.alloc (.cells #[.slice A1 F.r.length c1, .slice A2 F.c.length c2, .slice A3 F.f.length c3, .slice A4 F.b.length c4] 86)) w') => box4 g)
  have hs1 : (w.alloc (.cells #[.slice A1 F.r.length c1, .slice A2 F.c.length c2, .slice A3 F.f.length c3, .slice A4 F.b.length c4] 86)).heap.size = w.heap.size + 1 := by simp
  generalize w.alloc (.cells #[.slice A1 F.r.length c1, .slice A2 F.c.length c2, .slice A3 F.f.length c3, .slice A4 F.b.length c4] 86) = w1 at *
  have HL := hide (fun (w' : World) (g : Gr (w1.alloc (.cells #[.slice A1 F.r.length c1, .slice A2 F.c.length c2, .slice A3 F.f.length c3] 22)) w') => (HLL.out w1 g0).gr g)
  have g01 : Gr w1 (w1.alloc (.cells #[.slice A1 F.r.length c1, .slice A2 F.c.length c2, .slice A3 F.f.length c3] 22)) := Gr.alloc (Gr.refl _) _
  rw [hs1] at HL
  obtain ⟨B, hB⟩ : ∃ B, B = w.heap.size + 1 := ⟨_, rfl⟩
  rw [← hB] at HL
  simp only [← hB]
  generalize w1.alloc (.cells #[.slice A1 F.r.length c1, .slice A2 F.c.length c2, .slice A3 F.f.length c3] 22) = w2 at *
  have g02 := g0.trans g01
  clear hB HLL hs1
  go_loopw [19] (fun i wr => ∃ k : Nat, k ≤ L.length ∧ i = iv k ∧ Gr w2 wr ∧ Hid (∀ (j : Nat) (x : RS), j < k → L[j]? = some x → x.l.all vrR = true)) (fun i _ => L.length - (intOf i).toNat)
  case atStart => exact ⟨0, by omega, rfl, Gr.refl _, hide (fun j r h => absurd h (Nat.not_lt_zero j))⟩
  case round =>
    obtain ⟨k, hk, rfl, g, HS⟩ := hrel
    have hl3 := HL3.out
    by_cases hkl : k < L.length
    · obtain ⟨x, hx⟩ : ∃ x, L[k]? = some x := ⟨_, List.getElem?_eq_getElem hkl⟩
      obtain ⟨b, o, hA0, x0, hxl⟩ := (HL.out _ g).at_ hx
      cases hA0
      rw [Nat.zero_add] at x0
      have HX := hide hx
      have HXL := hide hxl
      have hk0 : (0 : Int) ≤ (k : Int) := by omega
      have hk1 : (k : Int) < (3 : Int) := by omega
      have hk1' : decide ((k : Int) < 3) = true := by simpa using hk1
      have hk2 : k < 3 := by omega
      have n3 := hxl.cap
      have n4 := hxl.capB
      clear hx hxl hl3
      go_wp2
      obtain ⟨wo, rfl⟩ : ∃ wo : World, wo = wr := ⟨_, rfl⟩
      go_loopw [25] (fun i wr => ∃ j : Nat, j ≤ x.l.length ∧ i = iv j ∧ Gr wo wr ∧ Hid (∀ (i : Nat) (r : Rc), i < j → x.l[i]? = some r → vrR r = true)) (fun i _ => x.l.length - (intOf i).toNat)
      case atStart => exact ⟨0, by omega, rfl, Gr.refl _, hide (fun j r h => absurd h (Nat.not_lt_zero j))⟩
      case round =>
        obtain ⟨j, hj, rfl, g2, HT⟩ := hrel
        by_cases hjl : j < x.l.length
        · obtain ⟨r, hr⟩ : ∃ r, x.l[j]? = some r := ⟨_, List.getElem?_eq_getElem hjl⟩
          obtain ⟨b2, o2, hA, y0, y1, y2, y3⟩ := (HXL.out.gr g2).at_ hr
          have HA := hide hA
          have HR := hide hr
          have hj0 : (0 : Int) ≤ (j : Int) := by omega
          have hj1 : (j : Int) < (x.l.length : Int) := by omega
          have HI := hide (fun w' => ValidRect_any r.x r.y r.w r.h w')
          rw [show vrB r.x r.y r.w r.h = vrR r from rfl] at HI
          clear hr
          rw [hA]
          clear hA
          cases hv : vrR r with
          | true =>
            have HT2 := hide (more (Q := fun r => vrR r = true) HT.out HR.out hv)
            rw [hv] at HI
            clear hv
            go_wp2_with (first | (go_at_call 90; refine (HI.out _).mono ?_; rintro e w1 ⟨rfl, g1⟩; obtain ⟨X1, Y1, c1, f1⟩ := g1.use))
            go_roundw
            case rel => exact ⟨j + 1, by omega, by go_num, g2.trans (by with_reducible repeat (first | exact Gr.refl _ | assumption | refine Gr.alloc ?_ _ | refine Gr.drewN ?_ _ | refine Gr.drew ?_ | refine Gr.setCell ?_ (by first | (dsimp only; omega) | (simp only [World.size_alloc]; omega)) _ | refine Gr.trans ?_ (by assumption))), HT2⟩
            case measure => simp only [intOf]; omega
          | false =>
            have HE := hide (show lmB F = false by
              rw [HLM.out, all_no HX.out (p := fun x : RS => x.l.all vrR) (all_no HR.out hv)]
              rfl)
            rw [hv] at HI
            clear hv
            go_wp2_with (first | (go_at_call 90; refine (HI.out _).mono ?_; rintro e w1 ⟨rfl, g1⟩; obtain ⟨X1, Y1, c1, f1⟩ := g1.use))
            go_ret
            exact ⟨ret_bool HE.out.symm, (g02.trans g).trans (g2.trans (by with_reducible repeat (first | exact Gr.refl _ | assumption | refine Gr.alloc ?_ _ | refine Gr.drewN ?_ _ | refine Gr.drew ?_ | refine Gr.setCell ?_ (by first | (dsimp only; omega) | (simp only [World.size_alloc]; omega)) _ | refine Gr.trans ?_ (by assumption))))⟩
        · obtain rfl : j = x.l.length := by omega
          have hj1 : ¬ ((x.l.length : Int) < (x.l.length : Int)) := by omega
          have HS2 := hide (more (Q := fun x => x.l.all vrR = true) HS.out HX.out (all_yes HT.out))
          go_wp2
          go_roundw
          case rel => exact ⟨k + 1, by omega, by go_num, g.trans g2, HS2⟩
          case measure => simp only [intOf]; omega
    · obtain rfl : k = L.length := by omega
      have HLA := hide (show lmB F = F.b.all bdB by rw [HLM.out, all_yes (p := fun x : RS => x.l.all vrR) HS.out, Bool.true_and])
      obtain ⟨s1, b0, b1, b2, b3⟩ := HB4.out _ (g01.trans g)
      have hk1 : ¬ ((L.length : Int) < (3 : Int)) := by omega
      have hk1' : decide ((L.length : Int) < 3) = false := by simpa using hk1
      clear HS HLM HB4 hl3
      go_wp2
      obtain ⟨w3, rfl⟩ : ∃ w0 : World, w0 = wr := ⟨_, rfl⟩
      have g03 := g02.trans g
      clear b0 b1 b2 b3 s1 g hk1 hk1'
      go_loopw [37] (fun i wr => ∃ k : Nat, k ≤ F.b.length ∧ i = iv k ∧ Gr w3 wr ∧ Hid (∀ (j : Nat) (x : Bd), j < k → F.b[j]? = some x → bdB x = true)) (fun i _ => F.b.length - (intOf i).toNat)
      case atStart => exact ⟨0, by omega, rfl, Gr.refl _, hide (fun j r h => absurd h (Nat.not_lt_zero j))⟩
      case round =>
        obtain ⟨k, hk, rfl, g, HS⟩ := hrel
        by_cases hkl : k < F.b.length
        · obtain ⟨x, hx⟩ : ∃ x, F.b[k]? = some x := ⟨_, List.getElem?_eq_getElem hkl⟩
          obtain ⟨b2, o2, hA, y0, y1, y2, y3, y4, y5, y6, y7⟩ := (HF.out.b.gr (g03.trans g)).at_ hx
          have HA := hide hA
          have HX := hide hx
          have hk0 : (0 : Int) ≤ (k : Int) := by omega
          have hk1 : (k : Int) < (F.b.length : Int) := by omega
          have s3 : IntKind.i64.wrap ((k : Int) + 1) = (k : Int) + 1 := IntWalk.i64_in _ (by omega)
          rw [hA]
          clear hx hA
          go_wp2
          obtain ⟨wo, rfl⟩ : ∃ wo : World, wo = wr := ⟨_, rfl⟩
          have gz : Gr wo (wo.alloc (.cells #[iv x.f, iv x.p, iv x.a, iv x.b, iv x.c, iv x.d, iv x.n, iv x.e] 185)) := Gr.alloc (Gr.refl _) _
          have HSI := hide (sli_4 (wo.alloc (.cells #[iv x.f, iv x.p, iv x.a, iv x.b, iv x.c, iv x.d, iv x.n, iv x.e] 185)) x.a x.b x.c x.d 3)
          have gy : Gr wo ((wo.alloc (.cells #[iv x.f, iv x.p, iv x.a, iv x.b, iv x.c, iv x.d, iv x.n, iv x.e] 185)).alloc (.cells #[iv x.a, iv x.b, iv x.c, iv x.d] 3)) := Gr.alloc gz _
          simp only [World.size_alloc] at HSI
          generalize (wo.alloc (.cells #[iv x.f, iv x.p, iv x.a, iv x.b, iv x.c, iv x.d, iv x.n, iv x.e] 185)).alloc (.cells #[iv x.a, iv x.b, iv x.c, iv x.d] 3) = w4 at *
          obtain ⟨ns, hns⟩ : ∃ ns, [x.a, x.b, x.c, x.d] = ns := ⟨_, rfl⟩
          have HNS := hide (show bdB x = ns.all (fun n => wiB n (-1048576) 1048576) by rw [← hns]; rfl)
          have hn4 : ns.length = 4 := by rw [← hns]; rfl
          have HN4 := hide hn4
          rw [hns] at HSI
          clear hns hn4 y0 y1 y2 y3 y4 y5 y6 y7 gz
          go_loopw [55] (fun i wr => ∃ j : Nat, j ≤ ns.length ∧ i = iv j ∧ Gr w4 wr ∧ Hid (∀ (i : Nat) (r : Int), i < j → ns[i]? = some r → wiB r (-1048576) 1048576 = true)) (fun i _ => ns.length - (intOf i).toNat)
          case atStart => exact ⟨0, by omega, rfl, Gr.refl _, hide (fun j r h => absurd h (Nat.not_lt_zero j))⟩
          case round =>
            obtain ⟨j, hj, rfl, g2, HT⟩ := hrel
            have hn4 := HN4.out
            by_cases hjl : j < ns.length
            · obtain ⟨r, hr⟩ : ∃ r, ns[j]? = some r := ⟨_, List.getElem?_eq_getElem hjl⟩
              obtain ⟨_, _, hA, y0⟩ := (HSI.out.gr g2).rd.in_ hr
              cases hA
              rw [Nat.zero_add] at y0
              have HR := hide hr
              have hj0 : (0 : Int) ≤ (j : Int) := by omega
              have hj1 : (j : Int) < (4 : Int) := by omega
              have hj1' : decide ((j : Int) < 4) = true := by simpa using hj1
              have hj2 : j < 4 := by omega
              have HI := hide (fun w' => fwithin_any r (-1048576) 1048576 w')
              clear hr hn4
              cases hv : wiB r (-1048576) 1048576 with
              | true =>
                have HT2 := hide (more (Q := fun r => wiB r (-1048576) 1048576 = true) HT.out HR.out hv)
                rw [hv] at HI
                clear hv
                go_wp2_with (first | (go_at_call 126; refine (HI.out _).mono ?_; rintro e w1 ⟨rfl, rfl⟩))
                go_roundw
                case rel => exact ⟨j + 1, by omega, by go_num, g2, HT2⟩
                case measure => simp only [intOf]; omega
              | false =>
                have HE := hide (show lmB F = false by
                  rw [HLA.out]
                  exact all_no HX.out (by rw [HNS.out]; exact all_no HR.out hv))
                rw [hv] at HI
                clear hv
                go_wp2_with (first | (go_at_call 126; refine (HI.out _).mono ?_; rintro e w1 ⟨rfl, rfl⟩))
                go_ret
                exact ⟨ret_bool HE.out.symm, (g03.trans g).trans (gy.trans g2)⟩
            · obtain rfl : j = ns.length := by omega
              have hj1 : ¬ ((ns.length : Int) < (4 : Int)) := by omega
              have hj1' : decide ((ns.length : Int) < 4) = false := by simpa using hj1
              have HS2 := hide (more (Q := fun x => bdB x = true) HS.out HX.out (by rw [HNS.out]; exact all_yes HT.out))
              clear hn4
              go_wp2
              go_roundw
              case rel => exact ⟨k + 1, by omega, by go_num, g.trans (gy.trans g2), HS2⟩
              case measure => simp only [intOf]; omega
        · obtain rfl : k = F.b.length := by omega
          have hk1 : ¬ ((F.b.length : Int) < (F.b.length : Int)) := by omega
          have HE := hide (show lmB F = true by rw [HLA.out]; exact all_yes HS.out)
          go_wp2
          go_ret
          exact ⟨ret_bool HE.out.symm, g03.trans g⟩
def chE (F : Pat) : Int := if (1 ≤ F.r.length ∧ F.r.length ≤ 48) ∧ F.c.length ≤ 48 ∧ F.f.length ≤ 48 ∧ lmB F = true then 0 else 1
end RG
end Go.Proofs.YtddhaiaapomdjaaGreat
set_option linter.unusedVariables false
set_option linter.unusedSimpArgs false
namespace Go.Proofs.YtddhaiaapomdjaaGreat
set_option linter.unusedVariables false
set_option linter.unusedSimpArgs false
open Go Go.ChangeShapes Go.WideShapes Go.ChangeAt Go.RowKit Go.Deep

namespace RG
structure RwO where
  A : Option Addr
  q : Nat
  l : List Bool
abbrev roL (x : RwO) : List Value := [.slice x.A x.l.length x.q]
structure Rwo (w : World) (lo : Nat) (F : Option Addr) (f : Nat) (xs : List RwO) : Prop where
  own : OwnL w lo 72 1 roL (.slice F xs.length f) xs
  el : ∀ x ∈ xs, RdL w 1 boL x.A x.l ∧ x.l.length ≤ x.q ∧ x.q ≤ 9223372036854775807
  far : ∀ x ∈ xs, ∀ a, x.A = some a → lo ≤ a.block ∧ a.block < w.heap.size ∧ (Value.slice F xs.length f).ownBlock ≠ some a.block
  ne : xs.Pairwise fun x y => ∀ a b, x.A = some a → y.A = some b → a.block ≠ b.block
  fz : ∀ x ∈ xs, ∀ a, x.A = some a → ∀ o, w.frozen? ⟨a.block, o, none⟩ = false
theorem Rwo.set {w : World} {lo : Nat} {F : Option Addr} {f : Nat} {xs : List RwO} (h : Rwo w lo F f xs) {S : Nat} (hS : S < lo) (i : Nat) (v : Value) : Rwo (w.setCell ⟨S, i, none⟩ v) lo F f xs := by
  have hb : ∀ b, b ≠ S → (w.setCell ⟨S, i, none⟩ v).heap[b]? = w.heap[b]? := fun b hb => heap_setCell_other w ⟨S, i, none⟩ b v (fun e => hb (by simpa using e))
  refine ⟨?_, fun x hx => ?_, fun x hx a ha => ?_, h.ne, fun x hx a ha o => by have := h.fz x hx a ha o; simpa [go_sem] using this⟩
  · obtain ⟨h0, h1 | ⟨b, cap, cur, h1, hb', h2, h3⟩⟩ := id h.own
    · exact ⟨h0, .inl h1⟩
    · exact ⟨h0, .inr ⟨b, cap, cur, h1, hb', (hb b (by omega)).trans h2, h3⟩⟩
  · obtain ⟨k1, k2⟩ := h.el x hx
    refine ⟨rdl_keep k1 fun a ha o => World.cell?_of_block (hb _ fun e => ?_), k2⟩
    have := (h.far x hx a ha).1
    have e' : a.block = S := e
    omega
  · obtain ⟨k1, k2, k3⟩ := h.far x hx a ha
    exact ⟨k1, by simpa using k2, k3⟩
theorem Rwo.gr {w w' : World} {lo : Nat} {F : Option Addr} {f : Nat} {xs : List RwO} (h : Rwo w lo F f xs) (g : Gr w w') : Rwo w' lo F f xs :=
  ⟨h.own.gr g, fun x hx => ⟨(h.el x hx).1.gr g, (h.el x hx).2⟩, fun x hx a ha => ⟨(h.far x hx a ha).1, Nat.lt_of_lt_of_le (h.far x hx a ha).2.1 g.size, (h.far x hx a ha).2.2⟩, h.ne, fun x hx a ha o => (g.frozen _ _ (h.far x hx a ha).2.1).trans (h.fz x hx a ha o)⟩
structure GrO (w : World) (X Y : List Int) (A B F : Option Addr) (a b f n : Nat) (R : Nat → Option Addr) (q : Nat → Nat) (c : Nat → Nat → Bool) : Prop where
  sx : SlI w A a X
  sy : SlI w B b Y
  hn : n = X.length - 1
  rows : ∀ i, i < n → ∃ bF, F = some ⟨bF, 0, none⟩ ∧ w.cell? ⟨bF, i, none⟩ = some (.slice (R i) (Y.length - 1) (q i))
  col : ∀ i j, i < n → j < Y.length - 1 → ∃ bR oR, R i = some ⟨bR, oR, none⟩ ∧ w.cell? ⟨bR, oR + j, none⟩ = some (.bool (c i j))
  cq : ∀ i, i < n → Y.length - 1 ≤ q i ∧ q i ≤ 9223372036854775807
  cf : n ≤ f
  cfB : f ≤ 9223372036854775807
  n1 : X.length ≤ 1000
  n2 : Y.length ≤ 1000
theorem GrO.gr {w w' : World} {X Y : List Int} {A B F : Option Addr} {a b f n : Nat} {R : Nat → Option Addr} {q : Nat → Nat} {c : Nat → Nat → Bool} (h : GrO w X Y A B F a b f n R q c) (g : Gr w w') : GrO w' X Y A B F a b f n R q c :=
  ⟨h.sx.gr g, h.sy.gr g, h.hn, fun i hi => by
    obtain ⟨bF, e, k⟩ := h.rows i hi
    exact ⟨bF, e, (g.cell _ _ (cell_lt (by rw [k]; rfl))).trans k⟩, fun i j hi hj => by
    obtain ⟨bR, oR, e, k⟩ := h.col i j hi hj
    exact ⟨bR, oR, e, (g.cell _ _ (cell_lt (by rw [k]; rfl))).trans k⟩, h.cq, h.cf, h.cfB, h.n1, h.n2⟩
def Fr (A B F : Option Addr) (X Y : List Int) (n : Nat) (R : Nat → Option Addr) (Q : Nat → Prop) : Prop :=
  (X ≠ [] → ∀ x, A = some x → Q x.block) ∧ (Y ≠ [] → ∀ x, B = some x → Q x.block) ∧ (0 < n → ∀ x, F = some x → Q x.block) ∧ ∀ i, i < n → 0 < Y.length - 1 → ∀ a, R i = some a → Q a.block
def Ow (w : World) (A B F : Option Addr) (X Y : List Int) (n : Nat) (R : Nat → Option Addr) : Prop :=
  ∀ i, i < n → ∀ a, R i = some a → (∀ o, w.frozen? ⟨a.block, o, none⟩ = false) ∧ (X ≠ [] → ∀ x, A = some x → x.block ≠ a.block) ∧ (Y ≠ [] → ∀ x, B = some x → x.block ≠ a.block) ∧ (∀ x, F = some x → x.block ≠ a.block) ∧ ∀ k, k < n → k ≠ i → ∀ b, R k = some b → b.block ≠ a.block
end RG
end Go.Proofs.YtddhaiaapomdjaaGreat
set_option linter.unusedVariables false
set_option linter.unusedSimpArgs false
namespace Go.Proofs.YtddhaiaapomdjaaGreat
set_option linter.unusedVariables false
set_option linter.unusedSimpArgs false
open Go Go.ChangeShapes Go.WideShapes Go.ChangeAt Go.RowKit Go.Deep

namespace RG
end RG
end Go.Proofs.YtddhaiaapomdjaaGreat
set_option linter.unusedVariables false
set_option linter.unusedSimpArgs false
namespace Go.Proofs.YtddhaiaapomdjaaGreat
set_option linter.unusedVariables false
set_option linter.unusedSimpArgs false
open Go Go.ChangeShapes Go.WideShapes Go.ChangeAt Go.RowKit Go.Deep

namespace RG
theorem ch_no {F : Pat} (h : ¬ ((1 ≤ F.r.length ∧ F.r.length ≤ 48) ∧ F.c.length ≤ 48 ∧ F.f.length ≤ 48 ∧ lmB F = true)) : chE F = 1 := if_neg h
theorem ch_yes {F : Pat} (h : chE F = 0) : (1 ≤ F.r.length ∧ F.r.length ≤ 48) ∧ F.c.length ≤ 48 ∧ F.f.length ≤ 48 ∧ lmB F = true := by
  unfold chE at h
  split at h
  · assumption
  · cases h
theorem ch_01 (F : Pat) : chE F = 0 ∨ chE F = 1 := by
  unfold chE
  split
  · exact .inl rfl
  · exact .inr rfl
theorem lm_in {F : Pat} (h : lmB F = true) : (∀ r ∈ F.r, InM 1048576 r) ∧ (∀ r ∈ F.c, InM 1048576 r) ∧ (∀ r ∈ F.f, InM 1048576 r) ∧ ∀ x ∈ F.b, bdB x = true := by
  unfold lmB at h
  simp only [Bool.and_eq_true, List.all_eq_true] at h
  exact ⟨fun r hr => vrR_iff.1 (h.1.1.1 r hr), fun r hr => vrR_iff.1 (h.1.1.2 r hr), fun r hr => vrR_iff.1 (h.1.2 r hr), h.2⟩
set_option maxHeartbeats 4000000 in
set_option maxRecDepth 100000 in
theorem check_any (A1 A2 A3 A4 : Option Addr) (c1 c2 c3 c4 : Nat) (F : Pat) (w : World) (hF : PatW w A1 c1 A2 c2 A3 c3 A4 c4 F) :
    Calls Tryz.prog 85 #[ptv A1 F.r.length c1 A2 F.c.length c2 A3 F.f.length c3 A4 F.b.length c4] w fun e w' => e = .returned (iv (chE F)) ∧ Gr w w' := by
  have HI := hide (fun (w' : World) (g : Gr w w') => inLimits_any A1 A2 A3 A4 c1 c2 c3 c4 F w' (hF.gr g))
  have HW := hide (fun w' => fwithin_any (F.r.length : Int) 1 48 w')
  have n1 := hF.r.cap
  have n2 := hF.r.capB
  have n3 := hF.c.cap
  have n4 := hF.c.capB
  have n5 := hF.f.cap
  have n6 := hF.f.capB
  clear hF
  by_cases h1 : 1 ≤ F.r.length ∧ F.r.length ≤ 48
  case neg =>
    have HE := hide (ch_no (F := F) fun h => h1 h.1)
    have e1 : wiB (F.r.length : Int) 1 48 = false := by
      cases hh : wiB (F.r.length : Int) 1 48 with
      | false => rfl
      | true => rw [wiB_iff] at hh; omega
    rw [e1] at HW
    clear h1 e1
    go_enter Tryz.func85, Tryz.ntmps85
    go_wp2_with (first | (go_at_call 126; refine (HW.out _).mono ?_; rintro e w1 ⟨rfl, rfl⟩))
    go_ret
    exact ⟨ret_iv HE.out.symm, (by with_reducible repeat (first | exact Gr.refl _ | assumption | refine Gr.alloc ?_ _ | refine Gr.drewN ?_ _ | refine Gr.drew ?_ | refine Gr.setCell ?_ (by first | (dsimp only; omega) | (simp only [World.size_alloc]; omega)) _ | refine Gr.trans ?_ (by assumption)))⟩
  case pos =>
  have e1 : wiB (F.r.length : Int) 1 48 = true := wiB_iff.2 (by omega)
  rw [e1] at HW
  clear e1
  by_cases h2 : F.c.length ≤ 48
  case neg =>
    have HE := hide (ch_no (F := F) fun h => h2 h.2.1)
    have e2 : decide ((48 : Int) < (F.c.length : Int)) = true := by simp only [decide_eq_true_iff]; omega
    have e2' : decide (48 < F.c.length) = true := by simp only [decide_eq_true_iff]; omega
    clear h1 h2
    go_enter Tryz.func85, Tryz.ntmps85
    go_wp2_with (first | (go_at_call 126; refine (HW.out _).mono ?_; rintro e w1 ⟨rfl, rfl⟩))
    go_ret
    exact ⟨ret_iv HE.out.symm, (by with_reducible repeat (first | exact Gr.refl _ | assumption | refine Gr.alloc ?_ _ | refine Gr.drewN ?_ _ | refine Gr.drew ?_ | refine Gr.setCell ?_ (by first | (dsimp only; omega) | (simp only [World.size_alloc]; omega)) _ | refine Gr.trans ?_ (by assumption)))⟩
  case pos =>
  have e2 : decide ((48 : Int) < (F.c.length : Int)) = false := by simp only [decide_eq_false_iff_not]; omega
  have e2' : decide (48 < F.c.length) = false := by simp only [decide_eq_false_iff_not]; omega
  by_cases h3 : F.f.length ≤ 48
  case neg =>
    have HE := hide (ch_no (F := F) fun h => h3 h.2.2.1)
    have e3 : decide ((48 : Int) < (F.f.length : Int)) = true := by simp only [decide_eq_true_iff]; omega
    have e3' : decide (48 < F.f.length) = true := by simp only [decide_eq_true_iff]; omega
    clear h1 h2 h3
    go_enter Tryz.func85, Tryz.ntmps85
    go_wp2_with (first | (go_at_call 126; refine (HW.out _).mono ?_; rintro e w1 ⟨rfl, rfl⟩))
    go_ret
    exact ⟨ret_iv HE.out.symm, (by with_reducible repeat (first | exact Gr.refl _ | assumption | refine Gr.alloc ?_ _ | refine Gr.drewN ?_ _ | refine Gr.drew ?_ | refine Gr.setCell ?_ (by first | (dsimp only; omega) | (simp only [World.size_alloc]; omega)) _ | refine Gr.trans ?_ (by assumption)))⟩
  case pos =>
  have e3 : decide ((48 : Int) < (F.f.length : Int)) = false := by simp only [decide_eq_false_iff_not]; omega
  have e3' : decide (48 < F.f.length) = false := by simp only [decide_eq_false_iff_not]; omega
  cases h4 : lmB F with
  | false =>
    have HE := hide (ch_no (F := F) fun h => by rw [h4] at h; cases h.2.2.2)
    rw [h4] at HI
    clear h1 h2 h3 h4
    go_enter Tryz.func85, Tryz.ntmps85
    go_wp2_with (first | (go_at_call 126; refine (HW.out _).mono ?_; rintro e w1 ⟨rfl, rfl⟩))
    refine (HI.out _ (Gr.alloc (Gr.refl _) _)).mono ?_
    rintro e w1 ⟨rfl, g1⟩
    go_wp2_with fail
    go_ret
    exact ⟨ret_iv HE.out.symm, (Gr.alloc (Gr.refl _) _).trans g1⟩
  | true =>
    have HE := hide (show chE F = 0 from if_pos ⟨h1, h2, h3, h4⟩)
    rw [h4] at HI
    clear h1 h2 h3 h4
    go_enter Tryz.func85, Tryz.ntmps85
    go_wp2_with (first | (go_at_call 126; refine (HW.out _).mono ?_; rintro e w1 ⟨rfl, rfl⟩))
    refine (HI.out _ (Gr.alloc (Gr.refl _) _)).mono ?_
    rintro e w1 ⟨rfl, g1⟩
    go_wp2_with fail
    go_ret
    exact ⟨ret_iv HE.out.symm, (Gr.alloc (Gr.refl _) _).trans g1⟩
end RG
end Go.Proofs.YtddhaiaapomdjaaGreat
set_option linter.unusedVariables false
set_option linter.unusedSimpArgs false
namespace Go.Proofs.YtddhaiaapomdjaaGreat
set_option linter.unusedVariables false
set_option linter.unusedSimpArgs false
open Go Go.ChangeShapes Go.WideShapes Go.ChangeAt Go.RowKit Go.Deep

namespace RG
end RG
end Go.Proofs.YtddhaiaapomdjaaGreat
set_option linter.unusedVariables false
set_option linter.unusedSimpArgs false
namespace Go.Proofs.YtddhaiaapomdjaaGreat
set_option linter.unusedVariables false
set_option linter.unusedSimpArgs false
open Go Go.ChangeShapes Go.WideShapes Go.ChangeAt Go.RowKit Go.Deep

namespace RG
def setB (c : Nat → Nat → Bool) (i j : Nat) (v : Bool) : Nat → Nat → Bool := fun p q => if p = i ∧ q = j then v else c p q
theorem sli_keep {w w' : World} {A : Option Addr} {a : Nat} {X : List Int} (h : SlI w A a X) (hk : X ≠ [] → ∀ x, A = some x → ∀ o, w'.cell? ⟨x.block, o, none⟩ = w.cell? ⟨x.block, o, none⟩) : SlI w' A a X := by
  by_cases hX : X = []
  · subst hX
    exact ⟨fun i x hx => by simp at hx, h.cap, h.capB⟩
  · exact ⟨rdl_keep h.rd (hk hX), h.cap, h.capB⟩
theorem GrO.keep {w w' : World} {X Y : List Int} {A B F : Option Addr} {a b f n : Nat} {R : Nat → Option Addr} {q : Nat → Nat} {c : Nat → Nat → Bool} (h : GrO w X Y A B F a b f n R q c) {Q : Nat → Prop} (hf : Fr A B F X Y n R Q) (hk : ∀ b o, Q b → w'.cell? ⟨b, o, none⟩ = w.cell? ⟨b, o, none⟩) : GrO w' X Y A B F a b f n R q c := by
  obtain ⟨f1, f2, f3, f4⟩ := hf
  refine ⟨sli_keep h.sx fun hX x hx o => hk _ _ (f1 hX x hx), sli_keep h.sy fun hX x hx o => hk _ _ (f2 hX x hx), h.hn, fun i hi => ?_, fun i j hi hj => ?_, h.cq, h.cf, h.cfB, h.n1, h.n2⟩
  · obtain ⟨bF, e, hc⟩ := h.rows i hi
    exact ⟨bF, e, (hk _ _ (f3 (by omega) _ e)).trans hc⟩
  · obtain ⟨bR, oR, e, hc⟩ := h.col i j hi hj
    exact ⟨bR, oR, e, (hk _ _ (f4 i hi (by omega) _ e)).trans hc⟩
theorem Fr.mono {A B F : Option Addr} {X Y : List Int} {n : Nat} {R : Nat → Option Addr} {Q Q' : Nat → Prop} (h : Fr A B F X Y n R Q) (k : ∀ b, Q b → Q' b) : Fr A B F X Y n R Q' :=
  ⟨fun hX x hx => k _ (h.1 hX x hx), fun hY x hx => k _ (h.2.1 hY x hx), fun hn x hx => k _ (h.2.2.1 hn x hx), fun i hi hy a ha => k _ (h.2.2.2 i hi hy a ha)⟩
theorem GrO.congr {w : World} {X Y : List Int} {A B F : Option Addr} {a b f n : Nat} {R : Nat → Option Addr} {q : Nat → Nat} {c d : Nat → Nat → Bool} (h : GrO w X Y A B F a b f n R q c) (e : ∀ i j, i < n → j < Y.length - 1 → c i j = d i j) : GrO w X Y A B F a b f n R q d :=
  ⟨h.sx, h.sy, h.hn, h.rows, fun i j hi hj => by rw [← e i j hi hj]; exact h.col i j hi hj, h.cq, h.cf, h.cfB, h.n1, h.n2⟩
theorem Ow.gr {w w' : World} {A B F : Option Addr} {X Y : List Int} {n : Nat} {R : Nat → Option Addr} (h : Ow w A B F X Y n R) (hs : ∀ i, i < n → ∀ a, R i = some a → a.block < w.heap.size) (g : Gr w w') : Ow w' A B F X Y n R := fun i hi a ha => by
  obtain ⟨h1, h2⟩ := h i hi a ha
  exact ⟨fun o => (g.frozen _ _ (hs i hi a ha)).trans (h1 o), h2⟩
theorem GrO.store {w : World} {X Y : List Int} {A B F : Option Addr} {a b f n : Nat} {R : Nat → Option Addr} {q : Nat → Nat} {c : Nat → Nat → Bool} (h : GrO w X Y A B F a b f n R q c) (o : Ow w A B F X Y n R) {i j bR oR : Nat} (hi : i < n) (hj : j < Y.length - 1) (hR : R i = some ⟨bR, oR, none⟩) (v : Bool) :
    GrO (w.setCell ⟨bR, oR + j, none⟩ (.bool v)) X Y A B F a b f n R q (setB c i j v) ∧ Ow (w.setCell ⟨bR, oR + j, none⟩ (.bool v)) A B F X Y n R := by
  have oth : ∀ b o, b ≠ bR → (w.setCell ⟨bR, oR + j, none⟩ (.bool v)).cell? ⟨b, o, none⟩ = w.cell? ⟨b, o, none⟩ := fun b o hb => World.cell?_of_block (heap_setCell_other w ⟨bR, oR + j, none⟩ b (.bool v) (fun e => hb (by simpa using e)))
  obtain ⟨o1, o2, o3, o4, o5⟩ := o i hi _ hR
  refine ⟨⟨sli_keep h.sx fun hX x hx o => oth _ _ (o2 hX x hx), sli_keep h.sy fun hX x hx o => oth _ _ (o3 hX x hx), h.hn, fun p hp => ?_, fun p s hp hs => ?_, h.cq, h.cf, h.cfB, h.n1, h.n2⟩, fun p hp a ha => ?_⟩
  · obtain ⟨bF, e, hc⟩ := h.rows p hp
    exact ⟨bF, e, (oth _ _ (o4 _ e)).trans hc⟩
  · obtain ⟨bP, oP, e, hc⟩ := h.col p s hp hs
    unfold setB
    by_cases e1 : p = i
    · subst e1
      rw [hR] at e
      cases e
      by_cases e2 : s = j
      · subst e2
        rw [if_pos ⟨rfl, rfl⟩]
        exact ⟨bR, oR, hR, World.cell?_setCell_same' _ _ _ (by rw [hc]; rfl)⟩
      · rw [if_neg (fun h => e2 h.2)]
        refine ⟨bR, oR, hR, ?_⟩
        rw [← hc]
        exact World.cell?_setCell_other (a := ⟨bR, oR + j, none⟩) (b := ⟨bR, oR + s, none⟩) (h := by intro h; injection h with _ h; omega) ..
    · rw [if_neg (fun h => e1 h.1)]
      exact ⟨bP, oP, e, (oth _ _ (o5 p hp e1 _ e)).trans hc⟩
  · obtain ⟨k1, k2⟩ := o p hp a ha
    exact ⟨fun o => by have := k1 o; simpa [go_sem] using this, k2⟩
end RG
end Go.Proofs.YtddhaiaapomdjaaGreat
set_option linter.unusedVariables false
set_option linter.unusedSimpArgs false
namespace Go.Proofs.YtddhaiaapomdjaaGreat
set_option linter.unusedVariables false
set_option linter.unusedSimpArgs false
open Go Go.ChangeShapes Go.WideShapes Go.ChangeAt Go.RowKit Go.Deep

namespace RG
structure Two (w0 wx : World) (X Y : List Int) (C1 C2 : Nat → Nat → Bool) (B1 B2 : Nat) (P1 P2 P3 : Option Addr) (p1 p2 p3 : Nat) (R : Nat → Option Addr) (q : Nat → Nat) (Q1 Q2 Q3 : Option Addr) (q1 q2 q3 : Nat) (R' : Nat → Option Addr) (q' : Nat → Nat) : Prop where
  g1 : GrO wx X Y P1 P2 P3 p1 p2 p3 (X.length - 1) R q C1
  o1 : 0 < Y.length - 1 → Ow wx P1 P2 P3 X Y (X.length - 1) R
  g2 : GrO wx X Y Q1 Q2 Q3 q1 q2 q3 (X.length - 1) R' q' C2
  f2 : Fr Q1 Q2 Q3 X Y (X.length - 1) R' (fun b => ∀ i, i < X.length - 1 → 0 < Y.length - 1 → ∀ a, R i = some a → b ≠ a.block)
  far : ∀ i, i < X.length - 1 → 0 < Y.length - 1 → ∀ a, R i = some a → w0.heap.size ≤ a.block ∧ a.block ≠ B1 ∧ a.block ≠ B2
  gr : Gr w0 wx
  l1 : B1 < wx.heap.size
  l2 : B2 < wx.heap.size
  h0 : wx.cell? ⟨B1, 0, none⟩ = some (.slice P1 X.length p1)
  h1 : wx.cell? ⟨B1, 1, none⟩ = some (.slice P2 Y.length p2)
  h2 : wx.cell? ⟨B1, 2, none⟩ = some (.slice P3 (X.length - 1) p3)
  k2 : wx.cell? ⟨B2, 2, none⟩ = some (.slice Q3 (X.length - 1) q3)
structure Kp (lo hi : Nat) (w w' : World) : Prop where
  cell : ∀ b o, lo ≤ b → b < hi → w'.cell? ⟨b, o, none⟩ = w.cell? ⟨b, o, none⟩
  fz : ∀ b o, lo ≤ b → b < hi → w'.frozen? ⟨b, o, none⟩ = w.frozen? ⟨b, o, none⟩
theorem Kp.refl {lo hi : Nat} (w : World) : Kp lo hi w w := ⟨fun _ _ _ _ => rfl, fun _ _ _ _ => rfl⟩
theorem Kp.gr {lo hi : Nat} {w w' w'' : World} (h : Kp lo hi w w') (g : Gr w' w'') (hs : hi ≤ w'.heap.size) : Kp lo hi w w'' :=
  ⟨fun b o h1 h2 => (g.cell _ _ (by omega)).trans (h.cell b o h1 h2), fun b o h1 h2 => (g.frozen _ _ (by omega)).trans (h.fz b o h1 h2)⟩
theorem Kp.alloc {lo hi : Nat} {w w' : World} (h : Kp lo hi w w') (hs : hi ≤ w'.heap.size) (x : Obj) : Kp lo hi w (w'.alloc x) := h.gr (Gr.alloc (Gr.refl _) _) hs
theorem Kp.drew {lo hi : Nat} {w w' : World} (h : Kp lo hi w w') : Kp lo hi w w'.drew := ⟨fun b o h1 h2 => by simp [go_sem, h.cell b o h1 h2], fun b o h1 h2 => by simp [go_sem, h.fz b o h1 h2]⟩
theorem Kp.setCell {lo hi B i : Nat} {w w' : World} (h : Kp lo hi w w') (hs : B < lo ∨ hi ≤ B) (v : Value) : Kp lo hi w (w'.setCell ⟨B, i, none⟩ v) := by
  refine ⟨fun b o h1 h2 => ?_, fun b o h1 h2 => ?_⟩
  · exact (World.cell?_of_block (heap_setCell_other w' ⟨B, i, none⟩ b v (fun e => by simp at e; omega))).trans (h.cell b o h1 h2)
  · have : b ≠ B := by omega
    simp [go_sem, h.fz b o h1 h2, this]
theorem Fr.and {A B F : Option Addr} {X Y : List Int} {n : Nat} {R : Nat → Option Addr} {Q Q' : Nat → Prop} (h : Fr A B F X Y n R Q) (k : Fr A B F X Y n R Q') : Fr A B F X Y n R (fun b => Q b ∧ Q' b) :=
  ⟨fun hX x hx => ⟨h.1 hX x hx, k.1 hX x hx⟩, fun hY x hx => ⟨h.2.1 hY x hx, k.2.1 hY x hx⟩, fun hn x hx => ⟨h.2.2.1 hn x hx, k.2.2.1 hn x hx⟩, fun i hi hy a ha => ⟨h.2.2.2 i hi hy a ha, k.2.2.2 i hi hy a ha⟩⟩
theorem Two.congr {w0 wx : World} {X Y : List Int} {c d C2 : Nat → Nat → Bool} {B1 B2 : Nat} {P1 P2 P3 : Option Addr} {p1 p2 p3 : Nat} {R : Nat → Option Addr} {q : Nat → Nat} {Q1 Q2 Q3 : Option Addr} {q1 q2 q3 : Nat} {R' : Nat → Option Addr} {q' : Nat → Nat}
    (h : Two w0 wx X Y c C2 B1 B2 P1 P2 P3 p1 p2 p3 R q Q1 Q2 Q3 q1 q2 q3 R' q') (e : ∀ i j, i < X.length - 1 → j < Y.length - 1 → c i j = d i j) : Two w0 wx X Y d C2 B1 B2 P1 P2 P3 p1 p2 p3 R q Q1 Q2 Q3 q1 q2 q3 R' q' :=
  ⟨h.g1.congr e, h.o1, h.g2, h.f2, h.far, h.gr, h.l1, h.l2, h.h0, h.h1, h.h2, h.k2⟩
theorem Two.store {w0 wx : World} {X Y : List Int} {c C2 : Nat → Nat → Bool} {B1 B2 : Nat} {P1 P2 P3 : Option Addr} {p1 p2 p3 : Nat} {R : Nat → Option Addr} {q : Nat → Nat} {Q1 Q2 Q3 : Option Addr} {q1 q2 q3 : Nat} {R' : Nat → Option Addr} {q' : Nat → Nat}
    (h : Two w0 wx X Y c C2 B1 B2 P1 P2 P3 p1 p2 p3 R q Q1 Q2 Q3 q1 q2 q3 R' q') {i j bR oR : Nat} (hi : i < X.length - 1) (hj : j < Y.length - 1) (hR : R i = some ⟨bR, oR, none⟩) :
    Two w0 (wx.setCell ⟨bR, oR + j, none⟩ (.bool false)) X Y (setB c i j false) C2 B1 B2 P1 P2 P3 p1 p2 p3 R q Q1 Q2 Q3 q1 q2 q3 R' q' := by
  have oth : ∀ b o, b ≠ bR → (wx.setCell ⟨bR, oR + j, none⟩ (.bool false)).cell? ⟨b, o, none⟩ = wx.cell? ⟨b, o, none⟩ := fun b o hb => World.cell?_of_block (heap_setCell_other wx ⟨bR, oR + j, none⟩ b (.bool false) (fun e => hb (by simpa using e)))
  have hy : 0 < Y.length - 1 := by omega
  obtain ⟨s1, s2⟩ := h.g1.store (h.o1 hy) hi hj hR false
  obtain ⟨f1, f2, f3⟩ := h.far i hi hy _ hR
  refine ⟨s1, fun _ => s2, h.g2.keep h.f2 fun b o hb => oth b o (hb i hi hy _ hR), h.f2, h.far, Gr.setCell (p := ⟨bR, oR + j, none⟩) h.gr (show w0.heap.size ≤ bR from f1) _, by simpa using h.l1, by simpa using h.l2, (oth _ _ (Ne.symm f2)).trans h.h0, (oth _ _ (Ne.symm f2)).trans h.h1, (oth _ _ (Ne.symm f2)).trans h.h2, (oth _ _ (Ne.symm f3)).trans h.k2⟩
end RG
end Go.Proofs.YtddhaiaapomdjaaGreat
set_option linter.unusedVariables false
set_option linter.unusedSimpArgs false
namespace Go.Proofs.YtddhaiaapomdjaaGreat
set_option linter.unusedVariables false
set_option linter.unusedSimpArgs false
open Go Go.ChangeShapes Go.WideShapes Go.ChangeAt Go.RowKit Go.Deep

namespace RG
instance : Inhabited Rc := ⟨⟨0, 0, 0, 0⟩⟩
def Gd (w w' : World) : Prop := Gr w w' ∧ w.drawn ≤ w'.drawn
theorem Gd.grow {w w' : World} (h : Gd w w') : ∃ q os, w' = Go.Sort.grow (w.drewN q) os := by
  obtain ⟨g, d⟩ := h
  refine ⟨w'.drawn - w.drawn, w'.heap.extract w.heap.size w'.heap.size, ?_⟩
  have hh : w'.heap = w.heap ++ w'.heap.extract w.heap.size w'.heap.size := by
    apply Array.ext_getElem?
    intro k
    by_cases hk : k < w.heap.size
    · rw [Array.getElem?_append_left hk]
      exact Below.block g k hk
    · have hs := g.size
      rw [Array.getElem?_append_right (by omega), Array.getElem?_extract]
      by_cases hk2 : k < w'.heap.size
      · rw [if_pos (by omega)]
        congr 1
        omega
      · rw [if_neg (by omega), Array.getElem?_eq_none (by omega)]
  obtain ⟨h1, h2, h3, h4, h5⟩ := g
  cases w
  cases w'
  simp only [World.drewN, Go.Sort.grow] at *
  subst h1 h2 h3
  simp only [World.mk.injEq, true_and, and_true]
  exact ⟨hh, by omega⟩
end RG
end Go.Proofs.YtddhaiaapomdjaaGreat
