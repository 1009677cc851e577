/-
  Nests, plain: bars in a field of places; the first place that is in no bar.
  Nests, plain: at which places a rectangle is in the way of another one.
  Nests, plain: the field of a piece: its free places are those at which the piece lies well and clear.
  Regions, plainly: numbers in ascending order, each once; what Compact leaves; a row of the call's own that has been sorted or cut.
  Surfaces of flat patterns, plainly: a column swept from below, the columns added up, the grid without its cuts.
  Surfaces: the library's sorts: of numbers; of rectangles by Y; room for rectangles.
  Regions: the empty grid with the lines of all sides, in the code.
  Surfaces: slices.Concat of lists of rectangles.
  Surfaces: verticals and covered of the code.
  Flat patterns as they come: where they lie; inLimits and check of the code.
  Regions: the document's grid in memory, its area, MakeGrid.
  Regions: Size of the document's grid.
  Flat patterns: check of the code.
  Flat patterns: Whole of the document.
  Surfaces: a grid of the document's that is stored over.
  Surfaces: Surface of the document.
-/
import Derived.Test.YtddhaiaapomdjaaGreatRgcr
import Derived.Test.YtddhaiaapomdjaaGreatNs4r
import Derived.Test.YtddhaiaapomdjaaGreatRgmr
import Derived.Lib.SlicesCompact
import Derived.Shelf.SlSortCmp.Insertion
import Derived.Shelf.Slices.CompactI
import Derived.Test.YtddhaiaapomdjaaGreatRg3r
import Derived.Test.YtddhaiaapomdjaaGreatLayF
import Derived.Deep.OwnRows
import Derived.WalkLawsBesides
import Derived.Deep.RegionHeld3
set_option linter.unusedVariables false
set_option linter.unusedSimpArgs false
namespace Go.Proofs.YtddhaiaapomdjaaGreat
set_option linter.unusedVariables false
set_option linter.unusedSimpArgs false
open Go Go.ChangeShapes Go.WideShapes Go.ChangeAt Go.RowKit Go.Deep

namespace RG
/-- a block of places at which a piece may not lie -/
structure Br where
  l : Int
  r : Int
  b : Int
  t : Int
def inBr (b : Br) (x y : Int) : Prop := b.l ≤ x ∧ x ≤ b.r ∧ b.b ≤ y ∧ y ≤ b.t
/-- the first X of a row, from x on, bars in ascending order of their left sides -/
def fxV (y : Int) : List Br → Int → Int
  | [], x => x
  | b :: bs, x => if x < b.l then x else fxV y bs (if b.b ≤ y ∧ y ≤ b.t then max x (b.r + 1) else x)
def BrUp (l : List Br) : Prop := l.Pairwise fun a b => a.l ≤ b.l
theorem fxV_ge (y : Int) : ∀ (bs : List Br) (x : Int), x ≤ fxV y bs x
  | [], x => Int.le_refl _
  | b :: bs, x => by
    unfold fxV
    split
    · exact Int.le_refl _
    · refine Int.le_trans ?_ (fxV_ge y bs _)
      split <;> omega
theorem fxV_not (y : Int) : ∀ (bs : List Br) (x : Int), BrUp bs → ∀ b ∈ bs, ¬ inBr b (fxV y bs x) y
  | b :: bs, x, hu, c, hc => by
    have hu' := List.pairwise_cons.1 hu
    unfold fxV
    split
    · rename_i h
      rcases List.mem_cons.1 hc with e | e
      · subst e; unfold inBr; omega
      · have := hu'.1 c e; unfold inBr; omega
    · rename_i h
      rcases List.mem_cons.1 hc with e | e
      · subst e
        intro hi
        unfold inBr at hi
        rw [if_pos ⟨hi.2.2.1, hi.2.2.2⟩] at hi
        have := fxV_ge y bs (max x (c.r + 1))
        omega
      · exact fxV_not y bs _ hu'.2 c e
theorem fxV_in (y : Int) : ∀ (bs : List Br) (x z : Int), x ≤ z → z < fxV y bs x → ∃ b ∈ bs, inBr b z y
  | [], x, z, h1, h2 => by unfold fxV at h2; omega
  | b :: bs, x, z, h1, h2 => by
    unfold fxV at h2
    split at h2
    · omega
    · rename_i h
      split at h2
      · rename_i k
        by_cases hz : z ≤ b.r
        · exact ⟨b, List.mem_cons_self, by unfold inBr; omega⟩
        · obtain ⟨c, hc, hi⟩ := fxV_in y bs _ z (by omega) h2
          exact ⟨c, List.mem_cons_of_mem _ hc, hi⟩
      · obtain ⟨c, hc, hi⟩ := fxV_in y bs _ z h1 h2
        exact ⟨c, List.mem_cons_of_mem _ hc, hi⟩
/-- a place of a field that is in no bar -/
def FreeP (f : Br) (bs : List Br) (x y : Int) : Prop := inBr f x y ∧ ∀ b ∈ bs, ¬ inBr b x y
theorem drop_to (f : Br) (bs : List Br) (x : Int) : ∀ (n : Nat) (y : Int), y = f.b + n → FreeP f bs x y → ∃ z, (z = f.b ∨ ∃ b ∈ bs, z = b.t + 1) ∧ z ≤ y ∧ FreeP f bs x z
  | 0, y, e, h => ⟨y, .inl (by omega), Int.le_refl _, h⟩
  | n + 1, y, e, h => by
    by_cases k : FreeP f bs x (y - 1)
    · obtain ⟨z, h1, h2, h3⟩ := drop_to f bs x n (y - 1) (by omega) k
      exact ⟨z, h1, by omega, h3⟩
    · refine ⟨y, .inr ?_, Int.le_refl _, h⟩
      obtain ⟨hf, hb⟩ := h
      have : ∃ b ∈ bs, inBr b x (y - 1) := by
        refine Classical.byContradiction fun hn => k ⟨?_, fun b hb' hi => hn ⟨b, hb', hi⟩⟩
        unfold inBr at hf ⊢
        omega
      obtain ⟨b, hb', hi⟩ := this
      refine ⟨b, hb', ?_⟩
      have := hb b hb'
      unfold inBr at this hi
      omega
/-- ascending, each once, what the rows of a field are -/
structure RowsOf (f : Br) (bs : List Br) (ys : List Int) : Prop where
  up : ys.Pairwise (· < ·)
  mem : ∀ y, y ∈ ys ↔ (y = f.b ∨ ∃ b ∈ bs, y = b.t + 1) ∧ f.b ≤ y ∧ y ≤ f.t
def fsY (f : Br) (bs : List Br) (ys : List Int) : Option Int := ys.find? fun y => decide (fxV y bs f.l ≤ f.r)
theorem find_up {p : Int → Bool} {y : Int} : ∀ {ys : List Int}, ys.Pairwise (· < ·) → ys.find? p = some y → y ∈ ys ∧ p y = true ∧ ∀ z ∈ ys, p z = true → y ≤ z
  | [], _, h => by simp at h
  | a :: ys, hu, h => by
    have hu' := List.pairwise_cons.1 hu
    rw [List.find?_cons] at h
    cases ha : p a with
    | true =>
      rw [ha] at h
      obtain rfl := Option.some.inj h
      refine ⟨List.mem_cons_self, ha, fun z hz _ => ?_⟩
      rcases List.mem_cons.1 hz with e | e
      · omega
      · have := hu'.1 z e; omega
    | false =>
      rw [ha] at h
      obtain ⟨h1, h2, h3⟩ := find_up hu'.2 h
      refine ⟨List.mem_cons_of_mem _ h1, h2, fun z hz hp => ?_⟩
      rcases List.mem_cons.1 hz with e | e
      · rw [e, ha] at hp; cases hp
      · exact h3 z e hp
/-- the first place of a field -/
theorem fs_some {f : Br} {bs : List Br} {ys : List Int} (hb : BrUp bs) (hr : RowsOf f bs ys) {y : Int} (h : fsY f bs ys = some y) :
    FreeP f bs (fxV y bs f.l) y ∧ ∀ x' y', FreeP f bs x' y' → y < y' ∨ y = y' ∧ fxV y bs f.l ≤ x' := by
  obtain ⟨h1, h2, h3⟩ := find_up hr.up h
  have m1 := (hr.mem y).1 h1
  have h2' : fxV y bs f.l ≤ f.r := by simpa using h2
  have hge := fxV_ge y bs f.l
  refine ⟨⟨by unfold inBr; omega, fxV_not y bs f.l hb⟩, fun x' y' hf => ?_⟩
  have low : ∀ z, FreeP f bs x' z → fxV z bs f.l ≤ x' := fun z hz => by
    refine Int.not_lt.1 fun hlt => ?_
    obtain ⟨b, hb', hi⟩ := fxV_in z bs f.l x' hz.1.1 hlt
    exact hz.2 b hb' hi
  obtain ⟨z, c1, c2, c3⟩ := drop_to f bs x' (y' - f.b).toNat y' (by have := hf.1; unfold inBr at this; omega) hf
  have hz : z ∈ ys := (hr.mem z).2 ⟨c1, by have := c3.1; unfold inBr at this; omega⟩
  have hle := h3 z hz (by have := low z c3; have := c3.1; unfold inBr at this; simp; omega)
  by_cases e : y < y'
  · exact .inl e
  · right
    have : y = z := by omega
    subst this
    exact ⟨by omega, low y c3⟩
theorem fs_none {f : Br} {bs : List Br} {ys : List Int} (hr : RowsOf f bs ys) (h : fsY f bs ys = none) (x' y' : Int) : ¬ FreeP f bs x' y' := by
  intro hf
  obtain ⟨z, c1, c2, c3⟩ := drop_to f bs x' (y' - f.b).toNat y' (by have := hf.1; unfold inBr at this; omega) hf
  have hz : z ∈ ys := (hr.mem z).2 ⟨c1, by have := c3.1; unfold inBr at this; omega⟩
  have := List.find?_eq_none.1 h z hz
  simp only [decide_eq_true_eq] at this
  obtain ⟨b, hb', hi⟩ := fxV_in z bs f.l x' c3.1.1 (by have := c3.1; unfold inBr at this; omega)
  exact c3.2 b hb' hi
end RG
end Go.Proofs.YtddhaiaapomdjaaGreat
set_option linter.unusedVariables false
set_option linter.unusedSimpArgs false
namespace Go.Proofs.YtddhaiaapomdjaaGreat
set_option linter.unusedVariables false
set_option linter.unusedSimpArgs false
open Go Go.ChangeShapes Go.WideShapes Go.ChangeAt Go.RowKit Go.Deep

namespace RG
theorem vr_pos {r : Rc} (h : vrR r = true) : 0 < r.w ∧ 0 < r.h := ⟨(vrR_iff.1 h).w, (vrR_iff.1 h).h⟩
theorem vrR_ovB (r s : Rc) : ovQ r s = ((vrR r && vrR s) && (soB r.x r.w s.x s.w && soB r.y r.h s.y s.h)) := rfl
theorem vrR_diV (r s : Rc) : diR r s = if vrR r && vrR s then diM (poV (gaV r.x (r.x + r.w) s.x (s.x + s.w))) (poV (gaV r.y (r.y + r.h) s.y (s.y + s.h))) else 0 := rfl
/-- a rectangle, moved -/
def mvR (x y : Int) (r : Rc) : Rc := ⟨r.x + x, r.y + y, r.w, r.h⟩
def arBr (r o : Rc) (g : Int) : Br := ⟨o.x - g - r.x - r.w + 1, o.x + o.w + g - r.x - 1, o.y - g - r.y - r.h + 1, o.y + o.h + g - r.y - 1⟩
def ucBr (r o : Rc) (t : St) : List Br :=
  if t.c then [arBr r o 0, ⟨(arBr r o t.g).l, (arBr r o t.g).r, (arBr r o t.g).b, (arBr r o 1).b - 1⟩, ⟨(arBr r o t.g).l, (arBr r o t.g).r, (arBr r o 1).t + 1, (arBr r o t.g).t⟩, ⟨(arBr r o t.g).l, (arBr r o 1).l - 1, (arBr r o 1).b, (arBr r o 1).t⟩, ⟨(arBr r o 1).r + 1, (arBr r o t.g).r, (arBr r o 1).b, (arBr r o 1).t⟩]
  else [arBr r o t.g]
theorem ovQ_br {r o : Rc} {x y : Int} (h1 : vrR (mvR x y r) = true) (h2 : vrR o = true) : ovQ (mvR x y r) o = true ↔ inBr (arBr r o 0) x y := by
  rw [vrR_ovB, h1, h2]
  simp only [soB, Bool.and_eq_true, Bool.and_self, Bool.true_and, decide_eq_true_eq]
  simp only [mvR, arBr, inBr]
  omega
theorem diR_lt {r o : Rc} {x y g : Int} (h1 : vrR (mvR x y r) = true) (h2 : vrR o = true) (hg : 0 < g) : diR (mvR x y r) o < g ↔ inBr (arBr r o g) x y := by
  obtain ⟨a, b⟩ := vr_pos h1
  obtain ⟨c, d⟩ := vr_pos h2
  rw [vrR_diV, h1, h2]
  simp only [mvR, arBr, inBr, Bool.and_self, if_true, diM, poV, gaV] at a b ⊢
  omega
theorem ucB_br {r o : Rc} {t : St} {x y : Int} (h1 : vrR (mvR x y r) = true) (h2 : vrR o = true) (hg : 0 ≤ t.g) : ucB t (mvR x y r) o = true ↔ ∃ b ∈ ucBr r o t, inBr b x y := by
  have e0 := ovQ_br h1 h2
  have e1 := diR_lt h1 h2 (g := 1) (by decide)
  obtain ⟨p1, p2⟩ := vr_pos h1
  obtain ⟨p3, p4⟩ := vr_pos h2
  have hn : 0 ≤ diR (mvR x y r) o := by
    rw [vrR_diV, h1, h2]
    simp only [Bool.and_self, if_true, diM, poV]
    omega
  have eg : 0 < t.g → (diR (mvR x y r) o < t.g ↔ inBr (arBr r o t.g) x y) := diR_lt h1 h2
  unfold ucB
  generalize diR (mvR x y r) o = d at *
  generalize ovQ (mvR x y r) o = q at *
  simp only [Bool.or_eq_true, Bool.and_eq_true, Bool.not_eq_true', Bool.and_eq_false_iff, decide_eq_true_eq, decide_eq_false_iff_not]
  simp only [mvR] at p1 p2
  unfold ucBr
  cases hc : t.c with
  | false =>
    simp only [Bool.false_eq_true, if_false, List.mem_singleton, exists_eq_left, true_or, and_true]
    rw [e0]
    by_cases h0 : 0 < t.g
    · rw [eg h0]
      simp only [inBr, arBr]
      omega
    · have : t.g = 0 := by omega
      rw [this]
      constructor
      · rintro (h | h)
        · exact h
        · omega
      · exact .inl
  | true =>
    simp only [if_true, List.mem_cons, List.not_mem_nil, or_false, exists_eq_or_imp, exists_eq_left, Bool.true_eq_false, false_or]
    rw [e0]
    by_cases h0 : 0 < t.g
    · rw [eg h0, show ¬ d = 0 ↔ ¬ inBr (arBr r o 1) x y by rw [← e1]; omega]
      simp only [inBr, arBr]
      omega
    · have : t.g = 0 := by omega
      rw [this]
      simp only [inBr, arBr]
      omega
end RG
end Go.Proofs.YtddhaiaapomdjaaGreat
set_option linter.unusedVariables false
set_option linter.unusedSimpArgs false
namespace Go.Proofs.YtddhaiaapomdjaaGreat
set_option linter.unusedVariables false
set_option linter.unusedSimpArgs false
open Go Go.ChangeShapes Go.WideShapes Go.ChangeAt Go.RowKit Go.Deep

namespace RG
/-- the field of a piece, and the bars before they are sorted -/
def fdR (z : Int) (l : List Rc) : Int := l.foldl (fun a r => min a (z - r.x - r.w)) z
def fdT (z : Int) (l : List Rc) : Int := l.foldl (fun a r => min a (z - r.y - r.h)) z
def fdV (i : Rc) (l : List Rc) : Br := ⟨i.x, fdR (i.x + i.w) l, i.y, fdT (i.y + i.h) l⟩
def fdB1 (hard soft : List Rc) (t : St) (r : Rc) : List Br := hard.map (fun o => arBr r o 0) ++ soft.flatMap (fun o => ucBr r o t)
def fdB (l hard soft : List Rc) (t : St) : List Br := l.flatMap (fdB1 hard soft t)
def kpB (f b : Br) : Bool := decide (max b.l f.l ≤ min b.r f.r) && decide (max b.b f.b ≤ min b.t f.t)
def kpL (f : Br) (l : List Br) : List Br := l.filter (kpB f)
theorem fold_min {f : Rc → Int} : ∀ {l : List Rc} {z x : Int}, x ≤ l.foldl (fun a r => min a (f r)) z ↔ x ≤ z ∧ ∀ r ∈ l, x ≤ f r
  | [], z, x => by simp
  | r :: l, z, x => by
    rw [List.foldl_cons, fold_min]
    constructor
    · rintro ⟨h1, h2⟩
      refine ⟨by omega, fun s hs => ?_⟩
      rcases List.mem_cons.1 hs with e | e
      · subst e; omega
      · exact h2 s e
    · rintro ⟨h1, h2⟩
      have := h2 r List.mem_cons_self
      exact ⟨by omega, fun s hs => h2 s (List.mem_cons_of_mem _ hs)⟩
theorem free_keep {f : Br} {all bs : List Br} (hp : ∀ b, b ∈ bs ↔ b ∈ kpL f all) (x y : Int) : FreeP f bs x y ↔ FreeP f all x y := by
  constructor
  · rintro ⟨h1, h2⟩
    refine ⟨h1, fun b hb hi => ?_⟩
    by_cases hk : kpB f b = true
    · exact h2 b ((hp b).2 (List.mem_filter.2 ⟨hb, hk⟩)) hi
    · refine hk ?_
      unfold inBr at h1 hi
      simp only [kpB, Bool.and_eq_true, decide_eq_true_eq]
      omega
  · rintro ⟨h1, h2⟩
    exact ⟨h1, fun b hb => h2 b (List.mem_filter.1 ((hp b).1 hb)).1⟩
/-- the piece lies well at a place, clear of what is there -/
structure PlP (i : Rc) (hard soft : List Rc) (t : St) (l : List Rc) (x y : Int) : Prop where
  ins : ∀ r ∈ l, isR (mvR x y r) i = true
  hard : ∀ r ∈ l, ∀ o ∈ hard, ovQ (mvR x y r) o = false
  soft : ∀ r ∈ l, ∀ o ∈ soft, ucB t (mvR x y r) o = false
/-- the rectangles of a piece that begins at 0, 0 -/
structure AtO (l : List Rc) : Prop where
  v : ∀ r ∈ l, vrR r = true
  px : ∀ r ∈ l, 0 ≤ r.x
  py : ∀ r ∈ l, 0 ≤ r.y
  zx : ∃ r ∈ l, r.x = 0
  zy : ∃ r ∈ l, r.y = 0
theorem isR_iff (r s : Rc) : isR r s = true ↔ (vrR r = true ∧ vrR s = true) ∧ (s.x ≤ r.x ∧ r.x + r.w ≤ s.x + s.w) ∧ s.y ≤ r.y ∧ r.y + r.h ≤ s.y + s.h := by
  show ((vrR r && vrR s) && (siB r.x r.w s.x s.w && siB r.y r.h s.y s.h)) = true ↔ _
  simp only [siB, Bool.and_eq_true, decide_eq_true_eq]
theorem place_iff {i : Rc} {hard soft : List Rc} {t : St} {l : List Rc} (ho : AtO l) (hi0 : 0 ≤ i.x ∧ 0 ≤ i.y) (hi1 : i.x + i.w ≤ 1048576 ∧ i.y + i.h ≤ 1048576) (hh : ∀ o ∈ hard, vrR o = true) (hs : ∀ o ∈ soft, vrR o = true) (hg : 0 ≤ t.g) (x y : Int) :
    FreeP (fdV i l) (fdB l hard soft t) x y ↔ PlP i hard soft t l x y := by
  have hfd : inBr (fdV i l) x y ↔ (i.x ≤ x ∧ i.y ≤ y) ∧ (x ≤ i.x + i.w ∧ y ≤ i.y + i.h) ∧ ∀ r ∈ l, x ≤ i.x + i.w - r.x - r.w ∧ y ≤ i.y + i.h - r.y - r.h := by
    unfold inBr fdV fdR fdT
    simp only []
    rw [fold_min, fold_min]
    constructor
    · rintro ⟨h1, ⟨h2, h3⟩, h4, h5, h6⟩
      exact ⟨⟨h1, h4⟩, ⟨h2, h5⟩, fun r hr => ⟨h3 r hr, h6 r hr⟩⟩
    · rintro ⟨⟨h1, h4⟩, ⟨h2, h5⟩, h⟩
      exact ⟨h1, ⟨h2, fun r hr => (h r hr).1⟩, h4, h5, fun r hr => (h r hr).2⟩
  have hval : inBr (fdV i l) x y → ∀ r ∈ l, vrR (mvR x y r) = true := fun h r hr => by
    obtain ⟨⟨a1, a2⟩, _, a3⟩ := hfd.1 h
    have b1 := a3 r hr
    have b2 := ho.px r hr
    have b3 := ho.py r hr
    have b4 := vr_pos (ho.v r hr)
    rw [vrR_iff]
    unfold mvR
    constructor <;> (simp only []; omega)
  have hins : inBr (fdV i l) x y ↔ ∀ r ∈ l, isR (mvR x y r) i = true := by
    constructor
    · intro h r hr
      obtain ⟨⟨a1, a2⟩, ⟨a4, a5⟩, a3⟩ := hfd.1 h
      have b1 := a3 r hr
      have b2 := ho.px r hr
      have b3 := ho.py r hr
      have b4 := vr_pos (ho.v r hr)
      rw [isR_iff]
      refine ⟨⟨hval h r hr, ?_⟩, ?_⟩
      · rw [vrR_iff]
        constructor <;> omega
      · simp only [mvR]
        omega
    · intro h
      rw [hfd]
      obtain ⟨r, hr, hx⟩ := ho.zx
      obtain ⟨s, hs', hy⟩ := ho.zy
      have h1 := (isR_iff _ _).1 (h r hr)
      have h2 := (isR_iff _ _).1 (h s hs')
      have b4 := vr_pos (ho.v r hr)
      have b5 := vr_pos (ho.v s hs')
      simp only [mvR] at h1 h2
      refine ⟨by omega, by omega, fun q hq => ?_⟩
      have h3 := (isR_iff _ _).1 (h q hq)
      simp only [mvR] at h3
      omega
  have hmem : ∀ b, b ∈ fdB l hard soft t ↔ ∃ r ∈ l, (∃ o ∈ hard, b = arBr r o 0) ∨ ∃ o ∈ soft, b ∈ ucBr r o t := by
    intro b
    simp only [fdB, fdB1, List.mem_flatMap, List.mem_append, List.mem_map]
    constructor
    · rintro ⟨r, hr, ⟨o, h1, rfl⟩ | h⟩
      · exact ⟨r, hr, .inl ⟨o, h1, rfl⟩⟩
      · exact ⟨r, hr, .inr h⟩
    · rintro ⟨r, hr, ⟨o, h1, rfl⟩ | h⟩
      · exact ⟨r, hr, .inl ⟨o, h1, rfl⟩⟩
      · exact ⟨r, hr, .inr h⟩
  constructor
  · rintro ⟨h1, h2⟩
    have hv := hval h1
    refine ⟨hins.1 h1, fun r hr o hO => ?_, fun r hr o hO => ?_⟩
    · rw [Bool.eq_false_iff]
      intro e
      exact h2 _ ((hmem _).2 ⟨r, hr, .inl ⟨o, hO, rfl⟩⟩) ((ovQ_br (hv r hr) (hh o hO)).1 e)
    · rw [Bool.eq_false_iff]
      intro e
      obtain ⟨b, hb, hi⟩ := (ucB_br (hv r hr) (hs o hO) hg).1 e
      exact h2 b ((hmem _).2 ⟨r, hr, .inr ⟨o, hO, hb⟩⟩) hi
  · rintro ⟨h1, h2, h3⟩
    have hf := hins.2 h1
    have hv := hval hf
    refine ⟨hf, fun b hb hi => ?_⟩
    obtain ⟨r, hr, ⟨o, hO, rfl⟩ | ⟨o, hO, hb'⟩⟩ := (hmem b).1 hb
    · have := (ovQ_br (hv r hr) (hh o hO)).2 hi
      rw [h2 r hr o hO] at this
      cases this
    · have := (ucB_br (hv r hr) (hs o hO) hg).2 ⟨b, hb', hi⟩
      rw [h3 r hr o hO] at this
      cases this
end RG
end Go.Proofs.YtddhaiaapomdjaaGreat
set_option linter.unusedVariables false
set_option linter.unusedSimpArgs false
namespace Go.Proofs.YtddhaiaapomdjaaGreat
set_option linter.unusedVariables false
set_option linter.unusedSimpArgs false
open Go Go.ChangeShapes Go.WideShapes Go.ChangeAt Go.RowKit Go.Deep

namespace RG
/-- the numbers of a list, each once, ascending -/
def srt (l : List Int) : List Int := l.foldl ins []
theorem srt_go {l : List Int} : ∀ {a : List Int}, Up a → Up (l.foldl ins a) ∧ ∀ x, x ∈ l.foldl ins a ↔ x ∈ a ∨ x ∈ l := by
  induction l with
  | nil => intro a h; exact ⟨h, fun x => by simp⟩
  | cons y l ih =>
    intro a h
    rw [List.foldl_cons]
    obtain ⟨h1, h2⟩ := ih (up_ins (n := y) h)
    refine ⟨h1, fun x => ?_⟩
    rw [h2, mem_ins, List.mem_cons, or_assoc]
theorem up_srt (l : List Int) : Up (srt l) := (srt_go List.Pairwise.nil).1
theorem mem_srt {l : List Int} {x : Int} : x ∈ srt l ↔ x ∈ l := by
  unfold srt
  rw [(srt_go List.Pairwise.nil).2]
  simp
theorem len_srt (l : List Int) : (srt l).length ≤ l.length := by
  have : ∀ (l a : List Int), (l.foldl ins a).length ≤ a.length + l.length := by
    intro l
    induction l with
    | nil => intro a; simp
    | cons y l ih =>
      intro a
      rw [List.foldl_cons]
      have h1 := ih (ins a y)
      have h2 := len_ins a y
      simp only [List.length_cons]
      omega
  have h := this l []
  simpa [srt] using h
theorem srt_flat {f g : Rc → Int} (l : List Rc) : srt (l.flatMap fun r => [f r, g r]) = l.foldl (fun a r => ins (ins a (f r)) (g r)) [] := by
  have : ∀ (l : List Rc) (a : List Int), (l.flatMap fun r => [f r, g r]).foldl ins a = l.foldl (fun a r => ins (ins a (f r)) (g r)) a := by
    intro l
    induction l with
    | nil => intro a; rfl
    | cons r l ih =>
      intro a
      rw [List.flatMap_cons, List.foldl_append, List.foldl_cons, ih]
      rfl
  exact this l []
def flX (l : List Rc) : List Int := l.flatMap fun r => [r.x, r.x + r.w]
def flY (l : List Rc) : List Int := l.flatMap fun r => [r.y, r.y + r.h]
theorem srt_flX (l : List Rc) : srt (flX l) = lnX l := srt_flat l
theorem srt_flY (l : List Rc) : srt (flY l) = lnY l := srt_flat l
/-- where a number stands -/
def idx (X : List Int) (n : Int) : Nat := X.countP fun x => decide (x < n)
theorem idx_at : ∀ {X : List Int} {i : Nat} {n : Int}, Up X → X[i]? = some n → idx X n = i
  | [], i, n, _, h => by simp at h
  | y :: X, 0, n, hu, h => by
    simp only [List.getElem?_cons_zero, Option.some.injEq] at h
    subst h
    have h' := List.pairwise_cons.1 hu
    unfold idx
    rw [List.countP_eq_zero]
    intro x hx
    rcases List.mem_cons.1 hx with rfl | hx
    · simp
    · have := h'.1 x hx
      simp
      omega
  | y :: X, i + 1, n, hu, h => by
    have h' := List.pairwise_cons.1 hu
    have hX : X[i]? = some n := by simpa using h
    have ih := idx_at h'.2 hX
    have := h'.1 n (List.mem_of_getElem? hX)
    unfold idx at ih ⊢
    rw [List.countP_cons, ih, if_pos (by simpa using this)]
theorem idx_mem {X : List Int} {n : Int} (hu : Up X) (h : n ∈ X) : X[idx X n]? = some n ∧ idx X n < X.length := by
  obtain ⟨i, hi⟩ := List.mem_iff_getElem?.1 h
  rw [idx_at hu hi]
  exact ⟨hi, (List.getElem?_eq_some_iff.1 hi).1⟩
section
open Go.Lib
theorem mem_compactI (xs : List Int) (p : Int) : p ∈ compact xs ↔ p ∈ xs := by
  have hm : p ∈ compact xs ↔ ∃ j, j < xs.length ∧ keeps xs.toArray j = true ∧ xs.toArray[j]! = p := by
    unfold compact compactUpTo
    simp only [List.mem_map, List.mem_filter, List.mem_range]
    exact ⟨fun ⟨j, ⟨a, b⟩, c⟩ => ⟨j, a, b, c⟩, fun ⟨j, a, b, c⟩ => ⟨j, ⟨a, b⟩, c⟩⟩
  rw [hm]
  constructor
  · rintro ⟨j, a, _, rfl⟩
    have : xs.toArray[j]! = xs[j] := by rw [getElem!_pos xs.toArray j (by simpa using a)]; simp
    rw [this]
    exact List.getElem_mem a
  · intro h
    obtain ⟨j, hj, e⟩ := List.getElem_of_mem h
    have key : ∀ j, j < xs.length → xs.toArray[j]! = p → ∃ j, j < xs.length ∧ keeps xs.toArray j = true ∧ xs.toArray[j]! = p := by
      intro j
      induction j with
      | zero => exact fun a b => ⟨0, a, keeps_lt_one _ 0 (by omega), b⟩
      | succ j ih =>
        intro a b
        by_cases c : xs.toArray[j + 1]! = xs.toArray[j]!
        · exact ih (by omega) (by rw [← c]; exact b)
        · exact ⟨j + 1, a, keeps_pos (by simpa using c), b⟩
    exact key j hj (by rw [getElem!_pos xs.toArray j (by simpa using hj)]; simpa using e)
theorem compactI_up (xs : List Int) (h : xs.Pairwise (· ≤ ·)) : Up (compact xs) := by
  have hle : ∀ i j, i ≤ j → j < xs.length → xs.toArray[i]! ≤ xs.toArray[j]! := by
    intro i j hij hj
    by_cases e : i = j
    · subst e; exact Int.le_refl _
    · rw [List.pairwise_iff_getElem] at h
      have := h i j (by omega) hj (by omega)
      rw [getElem!_pos xs.toArray i (by simp; omega), getElem!_pos xs.toArray j (by simpa using hj)]
      simpa using this
  unfold Up compact compactUpTo
  rw [List.pairwise_map, List.pairwise_filter]
  refine List.Pairwise.imp_of_mem ?_ (List.pairwise_lt_range (n := xs.length))
  intro i j hi hj hij _ kj
  rw [List.mem_range] at hj
  have h1 := hle i (j - 1) (by omega) (by omega)
  have h2 := hle (j - 1) j (by omega) hj
  have hne : xs.toArray[j]! ≠ xs.toArray[j - 1]! := by
    have : j ≠ 0 := by omega
    simpa [keeps, this] using kj
  omega
theorem compactI_len (xs : List Int) : (compact xs).length ≤ xs.length := by
  unfold compact compactUpTo
  rw [List.length_map]
  exact Nat.le_trans (List.length_filter_le _ _) (by simp)
end
theorem fm_inL (xs : List Int) : xs.flatMap inL = xs.map (Value.int .i64) := by
  induction xs with
  | nil => rfl
  | cons x xs ih => rw [List.flatMap_cons, ih]; rfl
theorem own_holds {w : World} {base g cap : Nat} {xs : List Int} (h : OwnL w base 3 1 inL (.slice (some ⟨g, 0, none⟩) xs.length cap) xs) : Go.Sort.Holds (Value.int .i64) w g 0 xs.toArray := by
  intro j hj
  have hj' : j < xs.length := by simpa using hj
  rw [Nat.zero_add]
  refine ⟨?_, World.ownsRow.frozenAt (h := h) j⟩
  rw [World.ownsRow.cellAt (h := h) j (by omega), fm_inL, List.getElem?_map, List.getElem?_eq_getElem hj', getElem!_pos _ j (by simpa using hj)]
  simp
theorem own_sorted {w : World} {base g cap n : Nat} {xs : List Int} {d : Array Int} (h : OwnL w base 3 1 inL (.slice (some ⟨g, 0, none⟩) xs.length cap) xs) (hl : d.size = xs.length) (m : Nat) (os : Array Obj) (hn : n = d.size) :
    OwnL (Go.Proofs.sortWorld (Value.int .i64) w g 0 m d os) base 3 1 inL (.slice (some ⟨g, 0, none⟩) n cap) d.toList := by
  subst hn
  unfold OwnL at *
  obtain ⟨h1, h2⟩ := h
  rcases h2 with ⟨h0, _⟩ | ⟨g', cap', cur, hv, hg, hh, hn, hcap, hsz, htake⟩
  · cases h0
  · cases hv
    refine ⟨by rw [fm_inL]; simp, .inr ⟨g, cap, Go.Sort.putCells (Value.int .i64) 0 d cur, by simp, hg, ?_, by simp; omega, hcap, by simpa [Go.Sort.putCells] using hsz, ?_⟩⟩
    · have hlt : g < w.heap.size := (Array.getElem?_eq_some_iff.1 hh).1
      unfold Go.Proofs.sortWorld Go.Sort.putRow
      rw [Go.Sort.heap_grow_old _ _ (by simpa [Go.Sort.mapBlock, Go.Sort.ahead] using hlt)]
      simp [Go.Sort.mapBlock, Go.Sort.ahead, Array.getElem?_modify, hh, Go.Sort.onCells]
    · rw [fm_inL]
      apply List.ext_getElem?
      intro j
      by_cases hj : j < d.size
      · have hjc : j < cur.size := by omega
        rw [List.getElem?_take, if_pos (by simpa using hj), Array.getElem?_toList]
        simp only [Go.Sort.putCells, Array.getElem?_mapIdx, Array.getElem?_eq_getElem hjc, Option.map_some]
        rw [if_pos (by omega), List.getElem?_map, Array.getElem?_toList, Array.getElem?_eq_getElem hj, Nat.sub_zero, getElem!_pos d j hj]
        rfl
      · rw [List.getElem?_take_eq_none (by simp; omega), List.getElem?_eq_none (by simp; omega)]
theorem gr_sorted {a b : World} {g : Nat} (h : Gr a b) (hg : a.heap.size ≤ g) (m : Nat) (d : Array Int) (os : Array Obj) : Gr a (Go.Proofs.sortWorld (Value.int .i64) b g 0 m d os) := by
  have hs := h.size
  refine ⟨h.os, h.tape, h.output, ?_, fun k hk => ?_⟩
  · unfold Go.Proofs.sortWorld Go.Sort.putRow
    simp [Go.Sort.grow, Go.Sort.mapBlock, Go.Sort.ahead]
    omega
  · unfold Go.Proofs.sortWorld Go.Sort.putRow
    rw [Go.Sort.heap_grow_old _ _ (by simp [Go.Sort.mapBlock, Go.Sort.ahead]; omega), ← Below.block h k hk]
    simp [Go.Sort.mapBlock, Go.Sort.ahead, Array.getElem?_modify, show g ≠ k by omega]
theorem own_cutI {w : World} {base g n cap : Nat} {xs ys : List Int} (h : OwnL w base 3 1 inL (.slice (some ⟨g, 0, none⟩) n cap) (xs ++ ys)) (hn : n = (xs ++ ys).length) : OwnL w base 3 1 inL (.slice (some ⟨g, 0, none⟩) xs.length cap) xs := by
  subst hn
  unfold OwnL at *
  obtain ⟨h1, h2⟩ := h
  rcases h2 with ⟨h0, _⟩ | ⟨g', cap', cur, hv, hg, hh, hn, hcap, hsz, htake⟩
  · cases h0
  · cases hv
    refine ⟨fm_len (c := inL) (fun _ => rfl) xs, .inr ⟨g, cap, cur, rfl, hg, hh, by rw [List.length_append] at hn; omega, hcap, hsz, ?_⟩⟩
    have e : (cur.toList.take ((xs ++ ys).length * 1)).take (xs.length * 1) = ((xs ++ ys).flatMap inL).take (xs.length * 1) := by rw [htake]
    rw [List.take_take, List.length_append, Nat.min_eq_left (by omega), List.flatMap_append, List.take_left' (fm_len (c := inL) (fun _ => rfl) xs)] at e
    exact e
theorem ltI (x y : Int) : ltOf Lib.compareInt x y = decide (x < y) := by
  unfold ltOf Lib.compareInt
  by_cases h1 : x < y
  · simp [h1]
  · by_cases h2 : y < x <;> simp [h1, h2]
theorem swoI : Go.Sort.SWO (ltOf Lib.compareInt) where
  irrefl x := by rw [ltI]; simp
  trans x y z h1 h2 := by rw [ltI] at *; simp at *; omega
  ntrans x y z h1 h2 := by rw [ltI] at *; simp at *; omega
end RG
end Go.Proofs.YtddhaiaapomdjaaGreat
set_option linter.unusedVariables false
set_option linter.unusedSimpArgs false
namespace Go.Proofs.YtddhaiaapomdjaaGreat
set_option linter.unusedVariables false
set_option linter.unusedSimpArgs false
open Go Go.ChangeShapes Go.WideShapes Go.ChangeAt Go.RowKit Go.Deep

namespace RG
/-- what the sweep of one column adds up -/
def swp : List Rc → Int → Int → Int
  | [], s, _ => s
  | r :: l, s, t => swp l (s + max 0 (r.y + r.h - max r.y t)) (max t (r.y + r.h))
def inY (r : Rc) (y : Int) : Bool := decide (r.y ≤ y) && decide (y < r.y + r.h)
def covY (l : List Rc) (y : Int) : Bool := l.any fun r => inY r y
theorem sm_span {M : Nat} {b c : Int} (h1 : -(M : Int) ≤ b) (h2 : c ≤ M) : sm (fun y => ib (decide (b ≤ y) && decide (y < c))) (-M) (2 * M) = max 0 (c - b) := by
  by_cases h : b ≤ c
  · rw [sm_part (b := b) (c := c) h1 h (by omega) (fun x hx => by
      rcases hx with hx | hx
      · rw [show decide (b ≤ x) = false by simp; omega]; rfl
      · rw [show decide (x < c) = false by simp; omega]; simp [ib]), sm_const (c := 1) (fun x h3 h4 => by
      rw [show decide (b ≤ x) = true by simp; omega, show decide (x < c) = true by simp; omega]; rfl)]
    omega
  · rw [sm_zero fun x _ _ => by
      by_cases h3 : b ≤ x
      · rw [show decide (x < c) = false by simp; omega]; simp [ib]
      · rw [show decide (b ≤ x) = false by simp; omega]; rfl]
    omega
theorem swp_eq {M : Nat} : ∀ {l : List Rc} {s t : Int}, l.Pairwise (fun a b => a.y ≤ b.y) → (∀ r ∈ l, 0 < r.h ∧ -(M : Int) ≤ r.y ∧ r.y + r.h ≤ M) → -(M : Int) ≤ t → t ≤ M →
    swp l s t = s + sm (fun y => ib (covY l y && decide (t ≤ y))) (-M) (2 * M)
  | [], s, t, _, _, _, _ => by
    have e := sm_zero (f := fun y => ib (covY [] y && decide (t ≤ y))) (a := -(M : Int)) (n := 2 * M) fun y _ _ => rfl
    rw [e]
    show s = s + 0
    omega
  | r :: l, s, t, hp, hr, h1, h2 => by
    obtain ⟨k1, k2⟩ := List.pairwise_cons.1 hp
    obtain ⟨r1, r2, r3⟩ := hr r (by simp)
    have ih := swp_eq (M := M) (l := l) (s := s + max 0 (r.y + r.h - max r.y t)) (t := max t (r.y + r.h)) k2 (fun r hr' => hr r (by simp [hr'])) (by omega) (by omega)
    show swp l _ _ = _
    rw [ih, ← sm_span (M := M) (b := max r.y t) (c := r.y + r.h) (by omega) r3, Int.add_assoc, ← sm_add]
    congr 1
    refine sm_congr fun y _ _ => ?_
    have key : covY l y = true → r.y ≤ y := by
      intro h
      obtain ⟨q, hq, hy⟩ := List.any_eq_true.1 h
      have := k1 q hq
      simp only [inY, Bool.and_eq_true, decide_eq_true_eq] at hy
      omega
    have e : covY (r :: l) y = (inY r y || covY l y) := rfl
    rw [e]
    have m1 : decide (max r.y t ≤ y) = (decide (r.y ≤ y) && decide (t ≤ y)) := by
      rw [Bool.eq_iff_iff]
      simp only [Bool.and_eq_true, decide_eq_true_eq]
      omega
    have m2 : decide (max t (r.y + r.h) ≤ y) = (decide (t ≤ y) && !decide (y < r.y + r.h)) := by
      rw [Bool.eq_iff_iff]
      simp only [Bool.and_eq_true, Bool.not_eq_true', decide_eq_true_eq, decide_eq_false_iff_not]
      omega
    rw [m1, m2]
    unfold inY
    cases hc : covY l y
    · generalize decide (r.y ≤ y) = a
      generalize decide (t ≤ y) = b
      generalize decide (y < r.y + r.h) = c
      cases a <;> cases b <;> cases c <;> rfl
    · rw [show decide (r.y ≤ y) = true by simpa using key hc]
      generalize decide (t ≤ y) = b
      generalize decide (y < r.y + r.h) = c
      cases b <;> cases c <;> rfl
def cxL (l : List Rc) (x : Int) : List Rc := l.filter fun r => decide (r.x ≤ x) && decide (x < r.x + r.w)
def colS (M : Nat) (l : List Rc) (x : Int) : Int := sm (fun y => ib (cov l x y)) (-M) (2 * M)
theorem col_cov {l k : List Rc} {x : Int} (hk : ∀ r, r ∈ k ↔ r ∈ cxL l x) (y : Int) : covY k y = cov l x y := by
  rw [Bool.eq_iff_iff]
  unfold covY cov
  rw [List.any_eq_true, List.any_eq_true]
  constructor
  · rintro ⟨r, hr, hy⟩
    have := (hk r).1 hr
    unfold cxL at this
    rw [List.mem_filter] at this
    simp only [Bool.and_eq_true, decide_eq_true_eq, inY] at this hy
    exact ⟨r, this.1, inR_iff.2 ⟨this.2.1, this.2.2, hy.1, hy.2⟩⟩
  · rintro ⟨r, hr, hy⟩
    obtain ⟨h1, h2, h3, h4⟩ := inR_iff.1 hy
    refine ⟨r, (hk r).2 ?_, by simp [inY, h3, h4]⟩
    unfold cxL
    rw [List.mem_filter]
    exact ⟨hr, by simp [h1, h2]⟩
/-- what the code finds of a column is how much of it is covered -/
theorem swp_col {M : Nat} {l k : List Rc} {x : Int} (h : ∀ r ∈ l, InM M r) (hk : ∀ r, r ∈ k ↔ r ∈ cxL l x) (hs : k.Pairwise (fun a b => a.y ≤ b.y)) : swp k 0 (-M) = colS M l x := by
  rw [swp_eq (M := M) hs (fun r hr => by
    have := (hk r).1 hr
    unfold cxL at this
    have hi := h r (List.mem_filter.1 this).1
    exact ⟨hi.h, hi.y, hi.y'⟩) (by omega) (by omega), Int.zero_add]
  refine sm_congr fun y h1 _ => ?_
  rw [col_cov hk, show decide (-(M : Int) ≤ y) = true by simpa using h1, Bool.and_true]
theorem colS_bd (M : Nat) (l : List Rc) (x : Int) : 0 ≤ colS M l x ∧ colS M l x ≤ 2 * M := by
  constructor
  · exact sm_nonneg fun _ _ _ => ib_nn _
  · have := sm_le (f := fun y => ib (cov l x y)) (g := fun _ => 1) (a := -(M : Int)) (n := 2 * M) fun y _ _ => ib_l1 _
    rw [sm_const (f := fun _ => 1) (c := 1) fun _ _ _ => rfl] at this
    unfold colS
    omega
/-- the area without that of the cuts -/
def srfV (M : Nat) (a b : List Rc) : Int := s2 M fun x y => ib (cov a x y && !cov b x y)
theorem srf_diff (M : Nat) (a b : List Rc) : ar M (a ++ b) = srfV M a b + ar M b := by
  unfold ar srfV
  rw [← s2_add]
  refine s2_congr fun x y _ _ _ _ => ?_
  rw [cov_app]
  cases cov a x y <;> cases cov b x y <;> rfl
theorem gs_sub (X : List Int) (f g : Int → Int) : ∀ k, gs X (fun x => f x - g x) k = gs X f k - gs X g k
  | 0 => rfl
  | k + 1 => by
    show gs X _ k + _ * (f _ - g _) = (gs X f k + _ * f _) - (gs X g k + _ * g _)
    rw [gs_sub X f g k, Int.mul_sub]
    omega
theorem colS_gs {M : Nat} {l m : List Rc} (h : ∀ r ∈ l, InM M r) (hm : ∀ r ∈ m, r ∈ l) : gs (lnX l) (colS M m) ((lnX l).length - 1) = ar M m := by
  symm
  show sm (fun x => colS M m x) _ _ = _
  refine sm_all (up_lnX l) (ln_in h).1 (fun i p q hp hq x h1 h2 => ?_) (fun x hx => ?_)
  · exact sm_congr fun y _ _ => by rw [cov_midX hm hp hq h1 h2]
  · exact sm_zero fun y _ _ => by rw [cov_outX hm hx]; rfl
/-- the columns added up -/
theorem srf_cols {M : Nat} {a b : List Rc} (ha : ∀ r ∈ a, InM M r) (hb : ∀ r ∈ b, InM M r) :
    gs (lnX (a ++ b)) (fun x => colS M (a ++ b) x - colS M b x) ((lnX (a ++ b)).length - 1) = srfV M a b := by
  have h : ∀ r ∈ a ++ b, InM M r := fun r hr => by
    rcases List.mem_append.1 hr with h | h
    · exact ha r h
    · exact hb r h
  rw [gs_sub, colS_gs h fun r hr => hr, colS_gs h fun r hr => List.mem_append_right _ hr, srf_diff]
  omega
end RG
end Go.Proofs.YtddhaiaapomdjaaGreat
set_option linter.unusedVariables false
set_option linter.unusedSimpArgs false
namespace Go.Proofs.YtddhaiaapomdjaaGreat
set_option linter.unusedVariables false
set_option linter.unusedSimpArgs false
open Go Go.ChangeShapes Go.WideShapes Go.ChangeAt Go.RowKit Go.Deep

namespace RG
instance : Inhabited Rc := ⟨⟨0, 0, 0, 0⟩⟩
def cmpY (r s : Rc) : Int := Lib.compareInt r.y s.y
theorem ltY (r s : Rc) : ltOf cmpY r s = decide (r.y < s.y) := ltI r.y s.y
theorem swoY : Go.Sort.SWO (ltOf cmpY) where
  irrefl x := by rw [ltY]; simp
  trans x y z h1 h2 := by rw [ltY] at *; simp at *; omega
  ntrans x y z h1 h2 := by rw [ltY] at *; simp at *; omega
/-- grown, and no draw taken back -/
def Gd (w w' : World) : Prop := Gr w w' ∧ w.drawn ≤ w'.drawn
theorem Gd.grow {w w' : World} (h : Gd w w') : ∃ q os, w' = Go.Sort.grow (w.drewN q) os := by
  obtain ⟨g, d⟩ := h
  refine ⟨w'.drawn - w.drawn, w'.heap.extract w.heap.size w'.heap.size, ?_⟩
  have hh : w'.heap = w.heap ++ w'.heap.extract w.heap.size w'.heap.size := by
    apply Array.ext_getElem?
    intro k
    by_cases hk : k < w.heap.size
    · rw [Array.getElem?_append_left hk]
      exact Below.block g k hk
    · have hs := g.size
      rw [Array.getElem?_append_right (by omega), Array.getElem?_extract]
      by_cases hk2 : k < w'.heap.size
      · rw [if_pos (by omega)]
        congr 1
        omega
      · rw [if_neg (by omega), Array.getElem?_eq_none (by omega)]
  obtain ⟨h1, h2, h3, h4, h5⟩ := g
  cases w
  cases w'
  simp only [World.drewN, Go.Sort.grow] at *
  subst h1 h2 h3
  simp only [World.mk.injEq, true_and, and_true]
  exact ⟨hh, by omega⟩
theorem cmpY_gd (r s : Rc) (w : World) : Calls Tryz.prog 132 #[rcv r, rcv s] w fun e w' => e = .returned (iv (cmpY r s)) ∧ Gd w w' := by
  have HC := hide (fun w' => Go.Proofs.Any.cmp_Compare_int Tryz.layFCmp r.y s.y w')
  obtain ⟨x, y, u, h⟩ := r
  obtain ⟨a, b, c, d⟩ := s
  dsimp only at *
  go_enter Tryz.func132, Tryz.ntmps132
  go_wp2_with (go_at_call 95; refine (HC.out _).mono ?_; rintro e w1 ⟨rfl, rfl⟩)
  go_ret
  exact ⟨rfl, (by with_reducible repeat (first | exact Gr.refl _ | assumption | refine Gr.alloc ?_ _ | refine Gr.drewN ?_ _ | refine Gr.drew ?_ | refine Gr.setCell ?_ (by first | (dsimp only; omega) | (simp only [World.size_alloc]; omega) | (refine Gr.size ?_; (repeat (first | exact Gr.refl _ | assumption | refine Gr.alloc ?_ _ | refine Gr.drewN ?_ _ | refine Gr.drew ?_ | refine Gr.trans ?_ (by assumption))); done)) _ | refine Gr.trans ?_ (by assumption))), Nat.le_refl _⟩
theorem lays_cmpY (blk off size : Nat) (w : World) : Go.Proofs.CmpLays Tryz.prog 132 #[] rcL 4 cmpY blk off size w :=
  fun _ _ _ _ x y => (cmpY_gd x y _).mono fun e w' ⟨h1, h2⟩ => ⟨h1, h2.grow⟩
theorem flatK_rc (d : Array Rc) : Go.Sort.flatK rcL 4 d = (d.toList.flatMap rcL).toArray := by
  have hfl : ∀ xs : List Rc, (xs.flatMap rcL).length = xs.length * 4 := fm_len (c := rcL) fun _ => rfl
  apply Array.ext
  · simp [hfl]
  · intro t h1 h2
    have h1' : t < d.size * 4 := by simpa using h1
    have e : (Go.Sort.flatK rcL 4 d)[t] = (rcL d[t / 4]!)[t % 4]! := by
      rw [← Go.Sort.get_flatK rcL 4 d t h1', getElem!_pos _ t h1]
    rw [e]
    have hi : t / 4 < d.size := by omega
    have hd : d.toList[t / 4]? = some d[t / 4]! := by
      rw [Array.getElem?_toList, Array.getElem?_eq_getElem hi, getElem!_pos d _ hi]
    have hr : t % 4 < 4 := Nat.mod_lt _ (by omega)
    have ht : t = t / 4 * 4 + t % 4 := by omega
    have hf := fm_at (c := rcL) (k := 4) (fun _ => rfl) d.toList (t / 4) _ (t % 4) hd hr
    have h2' : t < (d.toList.flatMap rcL).length := by simpa using h2
    rw [← ht, List.getElem?_eq_getElem h2'] at hf
    have hl : t % 4 < (rcL d[t / 4]!).length := by show t % 4 < 4; exact hr
    rw [List.getElem?_eq_getElem hl] at hf
    rw [getElem!_pos (rcL d[t / 4]!) (t % 4) hl]
    simpa using (Option.some.inj hf).symm
theorem own_holdsR {w : World} {base g cap : Nat} {xs : List Rc} (h : OwnL w base 70 4 rcL (.slice (some ⟨g, 0, none⟩) xs.length cap) xs) : Go.Sort.HoldsK rcL 4 w g 0 xs.toArray := by
  have hfl : ∀ xs : List Rc, (xs.flatMap rcL).length = xs.length * 4 := fm_len (c := rcL) fun _ => rfl
  unfold Go.Sort.HoldsK
  rw [flatK_rc]
  intro j hj
  have hj' : j < (xs.flatMap rcL).length := by simpa using hj
  rw [Nat.zero_add]
  refine ⟨?_, World.ownsRow.frozenAt (h := h) j⟩
  rw [World.ownsRow.cellAt (h := h) j (by rw [hfl] at hj'; exact hj'), List.getElem?_eq_getElem hj', getElem!_pos _ j hj]
  simp
theorem own_sortedR {w : World} {base g cap n : Nat} {xs : List Rc} {d : Array Rc} (h : OwnL w base 70 4 rcL (.slice (some ⟨g, 0, none⟩) xs.length cap) xs) (hl : d.size = xs.length) (m : Nat) (os : Array Obj) (hn : n = d.size) :
    OwnL (Go.Proofs.sortWorldK rcL 4 w g 0 m d os) base 70 4 rcL (.slice (some ⟨g, 0, none⟩) n cap) d.toList := by
  have hfl : ∀ xs : List Rc, (xs.flatMap rcL).length = xs.length * 4 := fm_len (c := rcL) fun _ => rfl
  subst hn
  unfold OwnL at *
  obtain ⟨h1, h2⟩ := h
  rcases h2 with ⟨h0, _⟩ | ⟨g', cap', cur, hv, hg, hh, hn, hcap, hsz, htake⟩
  · cases h0
  · cases hv
    refine ⟨by rw [hfl], .inr ⟨g, cap, Go.Sort.putCells id 0 (Go.Sort.flatK rcL 4 d) cur, by simp, hg, ?_, by simp; omega, hcap, by simpa [Go.Sort.putCells] using hsz, ?_⟩⟩
    · have hlt : g < w.heap.size := (Array.getElem?_eq_some_iff.1 hh).1
      unfold Go.Proofs.sortWorldK Go.Sort.putRowK
      rw [Go.Sort.heap_grow_old _ _ (by simpa [Go.Sort.putRow, Go.Sort.mapBlock, Go.Sort.ahead] using hlt)]
      simp [Go.Sort.putRow, Go.Sort.mapBlock, Go.Sort.ahead, Array.getElem?_modify, hh, Go.Sort.onCells]
    · rw [flatK_rc]
      apply List.ext_getElem?
      intro j
      have hfd : (d.toList.flatMap rcL).length = d.size * 4 := by rw [hfl, Array.length_toList]
      by_cases hj : j < d.size * 4
      · have hjl : j < (d.toList.flatMap rcL).length := by rw [hfd]; omega
        have hjc : j < cur.size := by omega
        rw [List.getElem?_take, if_pos (by simpa using hj), Array.getElem?_toList]
        simp only [Go.Sort.putCells, Array.getElem?_mapIdx, Array.getElem?_eq_getElem hjc, Option.map_some]
        rw [if_pos (by simpa using hjl), List.getElem?_eq_getElem hjl, getElem!_pos _ _ (by simpa using hjl)]
        simp
      · rw [List.getElem?_take_eq_none (by simp; omega), List.getElem?_eq_none (by rw [hfd]; omega)]
theorem gr_sortedR {a b : World} {g : Nat} (h : Gr a b) (hg : a.heap.size ≤ g) (m : Nat) (d : Array Rc) (os : Array Obj) : Gr a (Go.Proofs.sortWorldK rcL 4 b g 0 m d os) := by
  have hs := h.size
  refine ⟨h.os, h.tape, h.output, ?_, fun k hk => ?_⟩
  · unfold Go.Proofs.sortWorldK Go.Sort.putRowK
    simp [Go.Sort.grow, Go.Sort.putRow, Go.Sort.mapBlock, Go.Sort.ahead]
    omega
  · unfold Go.Proofs.sortWorldK Go.Sort.putRowK
    rw [Go.Sort.heap_grow_old _ _ (by simp [Go.Sort.putRow, Go.Sort.mapBlock, Go.Sort.ahead]; omega), ← Below.block h k hk]
    simp [Go.Sort.putRow, Go.Sort.mapBlock, Go.Sort.ahead, Array.getElem?_modify, show g ≠ k by omega]
/-- slices.SortFunc of rectangles by Y: the same ones, in that order -/
theorem sortR (D : Option Addr) (d : Nat) (xs : List Rc) (w w0 : World) (h : OwnL w w0.heap.size 70 4 rcL (.slice D xs.length d) xs) (g0 : Gr w0 w) (h1000 : xs.length ≤ 1000) :
    Calls Tryz.prog 131 #[.slice D xs.length d, .func (.func 132) #[] #[]] w fun e w' =>
      e = .returned (.tuple #[]) ∧ ∃ ys, ys.Perm xs ∧ ys.Pairwise (fun a b => a.y ≤ b.y) ∧ OwnL w' w0.heap.size 70 4 rcL (.slice D ys.length d) ys ∧ Gr w0 w' := by
  by_cases h0 : xs = []
  · subst h0
    refine (Go.Proofs.AnyF.slices_SortFunc_none (P := Tryz.prog) (ρ := Tryz.layFSortR_ren) { Tryz.layFSortR with } D d _ w).mono ?_
    rintro e w' ⟨rfl, rfl⟩
    exact ⟨rfl, [], List.Perm.refl _, List.Pairwise.nil, h, g0⟩
  · rcases h.2 with ⟨h1, h2⟩ | ⟨g, cap, cur, hv, hb, hh, _⟩
    · exact absurd (List.eq_nil_of_length_eq_zero h2) h0
    · cases hv
      have eg : ∀ args w, (callFunc 132 args).run Tryz.prog w = .ok (.enter 132 args) w := enters_of Tryz.func132 (by kernel_rfl) rfl
      have hcon := Go.Proofs.AnyQ.slices_SortFunc Tryz.layFSortR 4 Tryz.isAgg70 Tryz.sizeOf70 rcL (fun _ => rfl) (fun x v hv => one_rc x v hv) cmpY swoY 132 #[] g 0 d xs.toArray w eg (lays_cmpY g 0 _ w) (own_holdsR h) (Array.getElem?_eq_some_iff.1 hh).1 (by simp; omega)
      rw [List.size_toArray] at hcon
      refine hcon.mono ?_
      rintro e w' ⟨rfl, d', n, os, hperm, hsort, rfl⟩
      obtain ⟨p1, _, p3⟩ := hperm
      have p1' : d'.size = xs.length := by simpa using p1
      have pe : d'.toList.Perm xs := by
        have e1 : (d'.extract 0 xs.length) = d' := by rw [← p1']; simp
        have e2 : (xs.toArray.extract 0 xs.length) = xs.toArray := by simp
        rw [e1, e2] at p3
        simpa using p3
      refine ⟨rfl, d'.toList, pe, ?_, ?_, gr_sortedR g0 hb n d' os⟩
      · rw [List.pairwise_iff_getElem]
        intro i j hi hj hij
        have := hsort i j (Nat.zero_le _) hij (by simp at hj; omega)
        rw [ltY] at this
        rw [getElem!_pos d' i (by simpa using hi), getElem!_pos d' j (by simpa using hj)] at this
        simp at this ⊢
        omega
      · exact own_sortedR h p1' n os (by simp)
/-- slices.Sort of numbers -/
theorem sortN (D : Option Addr) (d : Nat) (xs : List Int) (w w0 : World) (h : OwnL w w0.heap.size 3 1 inL (.slice D xs.length d) xs) (g0 : Gr w0 w) (h0 : xs ≠ []) (h1000 : xs.length ≤ 1000) :
    Calls Tryz.prog 129 #[.slice D xs.length d] w fun e w' =>
      e = .returned (.tuple #[]) ∧ ∃ ys, ys.Perm xs ∧ ys.Pairwise (· ≤ ·) ∧ OwnL w' w0.heap.size 3 1 inL (.slice D ys.length d) ys ∧ Gr w0 w' := by
  rcases h.2 with ⟨h1, h2⟩ | ⟨g, cap, cur, hv, hb, hh, _⟩
  · exact absurd (List.eq_nil_of_length_eq_zero h2) h0
  · cases hv
    refine (Go.Proofs.Any.slices_Sort_int Tryz.layFSort g 0 d xs w (own_holds h) (Array.getElem?_eq_some_iff.1 hh).1 (by omega)).mono ?_
    rintro e w' ⟨rfl, n, os, rfl⟩
    have hp : (xs.mergeSort fun x y => decide (x ≤ y)).Perm xs := List.mergeSort_perm _ _
    refine ⟨rfl, _, hp, ?_, ?_, ?_⟩
    · have := List.pairwise_mergeSort (le := fun x y : Int => decide (x ≤ y)) (fun a b c h1 h2 => by simp at *; omega) (fun a b => by simp; omega) xs
      exact this.imp fun h => by simpa using h
    · have := own_sorted h (d := (xs.mergeSort fun x y => decide (x ≤ y)).toArray) (n := (xs.mergeSort fun x y => decide (x ≤ y)).length) (by simp) n os (by simp)
      exact this
    · exact gr_sorted g0 hb n _ os
/-- slices.Compact of numbers -/
theorem compactN (D : Option Addr) (d : Nat) (xs : List Int) (w w0 : World) (h : OwnL w w0.heap.size 3 1 inL (.slice D xs.length d) xs) (g0 : Gr w0 w) (h1000 : xs.length ≤ 1000) :
    Calls Tryz.prog 130 #[.slice D xs.length d] w fun e w' =>
      e = .returned (.slice D (Go.Lib.compact xs).length d) ∧ OwnL w' w0.heap.size 3 1 inL (.slice D (Go.Lib.compact xs).length d) (Go.Lib.compact xs) ∧ Gr w0 w' := by
  by_cases h0 : xs = []
  · subst h0
    refine (Go.Proofs.Any.slices_Compact_int_empty Tryz.layFCompact D d w).mono ?_
    rintro e w' ⟨rfl, rfl⟩
    exact ⟨rfl, h, g0⟩
  · rcases h.2 with ⟨h1, h2⟩ | ⟨g, cap, cur, hv, hb, hh, hn, _⟩
    · exact absurd (List.eq_nil_of_length_eq_zero h2) h0
    · cases hv
      have hcon := Go.Proofs.Any.slices_Compact_int Tryz.layFCompact g 0 d xs w (own_holds h) (by omega) hn
      refine hcon.mono ?_
      rintro e w' ⟨rfl, q, rfl⟩
      have hl := compactI_len xs
      have e1 : ∀ dd : Array Int, Go.Sort.putRow (Value.int .i64) (Go.Sort.ahead w q) g 0 dd = Go.Proofs.sortWorld (Value.int .i64) w g 0 q dd #[] := by
        intro dd
        unfold Go.Proofs.sortWorld
        rw [Go.Sort.grow_empty]
      rw [e1]
      refine ⟨rfl, own_cutI (ys := List.replicate (xs.length - (Go.Lib.compact xs).length) 0) (own_sorted h (by simp; omega) q #[] (n := xs.length) (by simp; omega)) (by simp; omega), gr_sorted g0 hb q _ #[]⟩
/-- what Sort and Compact leave of numbers -/
theorem sc_srt {xs ys : List Int} (hp : ys.Perm xs) (hs : ys.Pairwise (· ≤ ·)) : Go.Lib.compact ys = srt xs :=
  Up.ext (compactI_up _ hs) (up_srt _) fun x => by rw [mem_compactI, mem_srt]; exact hp.mem_iff
end RG
end Go.Proofs.YtddhaiaapomdjaaGreat
set_option linter.unusedVariables false
set_option linter.unusedSimpArgs false
namespace Go.Proofs.YtddhaiaapomdjaaGreat
set_option linter.unusedVariables false
set_option linter.unusedSimpArgs false
open Go Go.ChangeShapes Go.WideShapes Go.ChangeAt Go.RowKit Go.Deep

namespace RG
theorem cell_grown {w w' : World} {row : Option Nat} {b o : Nat} {v : Value} (h : w.cell? ⟨b, o, none⟩ = some v) (g : w.grownBy w' row) (hr : some b ≠ row) : w'.cell? ⟨b, o, none⟩ = some v :=
  (g.cell_far ⟨b, o, none⟩ (cell_lt (by rw [h]; rfl)) hr).trans h
theorem Fld.grown {lo : Nat} {rb : Nat → Nat} {n : Nat} {w w' w2 : World} {row : Option Nat} (h : Fld lo rb n w w') (g : w'.grownBy w2 row) (hr : ∀ k, row = some k → w.heap.size ≤ k) : Fld lo rb n w w2 := by
  refine ⟨fun a ha hl => Gr.grown (h.below a ha hl) g (fun k hk => Nat.le_trans ha.size (hr k hk)), Nat.le_trans h.size g.size, fun b o hb hn => ?_⟩
  have hb2 := Nat.lt_of_lt_of_le hb h.size
  have hne : some b ≠ row := fun e => by
    have := hr b e.symm
    omega
  exact ⟨(g.cell_far ⟨b, o, none⟩ hb2 hne).trans (h.cell b o hb hn).1, (g.frozen_far ⟨b, o, none⟩ hb2 hne).trans (h.cell b o hb hn).2⟩
theorem flX_snoc (l : List Rc) (r : Rc) : flX (l ++ [r]) = flX l ++ [r.x, r.x + r.w] := by simp [flX]
theorem flY_snoc (l : List Rc) (r : Rc) : flY (l ++ [r]) = flY l ++ [r.y, r.y + r.h] := by simp [flY]
theorem allR_snoc {L : List RS} {k : Nat} {x : RS} (h : L[k]? = some x) : allR (L.take (k + 1)) = allR (L.take k) ++ x.l := by
  unfold allR
  rw [take_at h, List.flatMap_append]
  simp
/-- two numbers in a block of their own -/
theorem news2 (w : World) (p q : Int) (t : TypeId) : ∀ j u, ([p, q].flatMap inL)[j]? = some u → (w.alloc (.cells #[iv p, iv q] t)).cell? ((⟨w.heap.size, 0, none⟩ : Addr).add j) = some u := fun j u h => newsA w #[iv p, iv q] t j u h
theorem one2 (p q : Int) : ∀ u ∈ [p, q].flatMap inL, u.oneCell' = true := by
  intro u hu
  simp at hu
  rcases hu with rfl | rfl <;> rfl
/-- rows of cells that are empty, and the row of these rows -/
abbrev rwL (n : Nat) (b : Nat) : List Value := [.slice (some ⟨b, 0, none⟩) n n]
structure Rws (w : World) (lo n : Nat) (F : Option Addr) (f : Nat) (bs : List Nat) : Prop where
  own : OwnL w lo 72 1 (rwL n) (.slice F bs.length f) bs
  cell : ∀ b ∈ bs, lo ≤ b ∧ b < w.heap.size ∧ ∀ j, j < n → w.cell? ⟨b, j, none⟩ = some (.bool false) ∧ w.frozen? ⟨b, j, none⟩ = false
  nd : bs.Nodup
  far : ∀ b ∈ bs, (Value.slice F bs.length f).ownBlock ≠ some b
theorem rws_nil (w : World) (lo n : Nat) : Rws w lo n none 0 [] := ⟨own_nil _ _ _ _ _, fun b hb => by simp at hb, List.nodup_nil, fun b hb => by simp at hb⟩
theorem Rws.next {w w2 w8 : World} {lo n : Nat} {F : Option Addr} {f gg cap b0 k : Nat} {bs : List Nat} (h : Rws w lo n F f bs) (hk : bs.length = k) (g : Gr w w2) (hlo : lo ≤ w.heap.size) (hb : w.heap.size ≤ b0) (hb2 : b0 < w2.heap.size)
    (hc : ∀ j, j < n → w2.cell? ⟨b0, j, none⟩ = some (.bool false) ∧ w2.frozen? ⟨b0, j, none⟩ = false)
    (ho : w8.ownsRow lo 72 1 (.slice (some ⟨gg, 0, none⟩) (k + 1) cap) (k + 1) (bs.flatMap (rwL n) ++ rwL n b0)) (hg : w2.grownBy w8 (Value.slice F k f).ownBlock) (hat : (Value.slice F k f).ownBlock = some gg ∨ gg = w2.heap.size) :
    Rws w8 lo n (some ⟨gg, 0, none⟩) cap (bs ++ [b0]) := by
  subst hk
  have hlt := fun k hk => World.ownsRow.lt h.own k hk
  have hF0 : (Value.slice F bs.length f).ownBlock ≠ some b0 := fun e => by have := (hlt _ e).2; omega
  refine ⟨?_, ?_, ?_, ?_⟩
  · unfold OwnL
    rw [List.flatMap_append, List.length_append]
    simpa using ho
  · intro b hbm
    have key : lo ≤ b ∧ b < w2.heap.size ∧ (some b ≠ (Value.slice F bs.length f).ownBlock) ∧ ∀ j, j < n → w2.cell? ⟨b, j, none⟩ = some (.bool false) ∧ w2.frozen? ⟨b, j, none⟩ = false := by
      rcases List.mem_append.1 hbm with k | k
      · obtain ⟨k1, k2, k3⟩ := h.cell b k
        exact ⟨k1, Nat.lt_of_lt_of_le k2 g.size, fun e => h.far b k e.symm, fun j hj => ⟨(g.cell _ _ k2).trans (k3 j hj).1, (g.frozen _ _ k2).trans (k3 j hj).2⟩⟩
      · rw [List.mem_singleton] at k
        subst k
        exact ⟨Nat.le_trans hlo hb, hb2, fun e => hF0 e.symm, hc⟩
    obtain ⟨k1, k2, k3, k4⟩ := key
    exact ⟨k1, Nat.lt_of_lt_of_le k2 hg.size, fun j hj => ⟨(hg.cell_far ⟨b, j, none⟩ k2 k3).trans (k4 j hj).1, (hg.frozen_far ⟨b, j, none⟩ k2 k3).trans (k4 j hj).2⟩⟩
  · rw [List.nodup_append]
    refine ⟨h.nd, by simp, fun x hx y hy e => ?_⟩
    rw [List.mem_singleton] at hy
    subst e hy
    have := (h.cell x hx).2.1
    omega
  · intro b hbm e
    have e' : gg = b := by simpa [Value.ownBlock] using e
    subst e'
    rcases List.mem_append.1 hbm with k | k
    · rcases hat with q | q
      · exact h.far _ k q
      · have := (h.cell _ k).2.1
        have := g.size
        omega
    · rw [List.mem_singleton] at k
      rcases hat with q | q
      · exact hF0 (k ▸ q)
      · omega
/-- a store below does not touch the rows -/
theorem Rws.set {w : World} {lo n : Nat} {F : Option Addr} {f : Nat} {bs : List Nat} (h : Rws w lo n F f bs) {S : Nat} (hS : S < lo) (i : Nat) (v : Value) : Rws (w.setCell ⟨S, i, none⟩ v) lo n F f bs := by
  have hb : ∀ b, b ≠ S → (w.setCell ⟨S, i, none⟩ v).heap[b]? = w.heap[b]? := fun b hb => heap_setCell_other w ⟨S, i, none⟩ b v (fun e => hb (by simpa using e))
  refine ⟨?_, fun b hbm => ?_, h.nd, h.far⟩
  · obtain ⟨h0, h1 | ⟨b, cap, cur, h1, hb', h2, h3⟩⟩ := id h.own
    · exact ⟨h0, .inl h1⟩
    · exact ⟨h0, .inr ⟨b, cap, cur, h1, hb', (hb b (by omega)).trans h2, h3⟩⟩
  · obtain ⟨k1, k2, k3⟩ := h.cell b hbm
    exact ⟨k1, by simpa using k2, fun j hj => ⟨(World.cell?_of_block (hb b (by omega))).trans (k3 j hj).1, (World.frozen?_of_block (hb b (by omega))).trans (k3 j hj).2⟩⟩
theorem made_grown {w w' : World} {B lo : Nat} {z : Array Value} {row : Option Nat} (h : Made w B z) (hg : w.grownBy w' row) (hr : ∀ k, row = some k → lo ≤ k) (hB : B < lo) : Made w' B z := by
  obtain ⟨h1, h2, h3⟩ := h
  have hne : some B ≠ row := fun e => by have := hr B e.symm; omega
  exact ⟨Nat.lt_of_lt_of_le h1 hg.size, fun o => (hg.cell_far ⟨B, o, none⟩ h1 hne).trans (h2 o), fun o => (hg.frozen_far ⟨B, o, none⟩ h1 hne).trans (h3 o)⟩
theorem made_set {w : World} {B : Nat} {z z' : Array Value} (h : Made w B z) (i : Nat) (hi : i < z.size) (v : Value) (e : z' = z.setIfInBounds i v) : Made (w.setCell ⟨B, i, none⟩ v) B z' := by
  subst e
  obtain ⟨h1, h2, h3⟩ := h
  refine ⟨by simpa using h1, fun o => ?_, fun o => ?_⟩
  · by_cases c : i = o
    · subst c
      rw [World.cell?_setCell_same' _ _ _ (by rw [h2, Array.getElem?_eq_getElem hi]; rfl), Array.getElem?_setIfInBounds_self_of_lt hi]
    · rw [World.cell?_setCell_other (a := ⟨B, i, none⟩) (b := ⟨B, o, none⟩) (h := by intro h; injection h with _ h; exact c h), h2, Array.getElem?_setIfInBounds_ne c]
  · rw [← h3 o]
    simp [go_sem]
theorem made_zero (w : World) (n : Nat) (t : TypeId) : ∀ j, j < n → (w.alloc (.cells (madeCells #[.bool false] n) t)).cell? ⟨w.heap.size, j, none⟩ = some (.bool false) ∧ (w.alloc (.cells (madeCells #[.bool false] n) t)).frozen? ⟨w.heap.size, j, none⟩ = false := by
  intro j hj
  obtain ⟨h1, h2, h3⟩ := Made.new w (madeCells #[.bool false] n) t
  refine ⟨?_, h3 j⟩
  rw [h2]
  simp [madeCells, hj, Nat.mod_one]
theorem made3 {w : World} {S : Nat} {a b c : Value} (h : Made w S #[a, b, c]) : w.cell? ⟨S, 0, none⟩ = some a ∧ w.cell? ⟨S, 1, none⟩ = some b ∧ w.cell? ⟨S, 2, none⟩ = some c ∧ w.frozen? ⟨S, 0, none⟩ = false ∧ w.frozen? ⟨S, 1, none⟩ = false ∧ w.frozen? ⟨S, 2, none⟩ = false :=
  ⟨h.2.1 0, h.2.1 1, h.2.1 2, h.2.2 0, h.2.2 1, h.2.2 2⟩
theorem nodup_at {l : List Nat} (h : l.Nodup) {i k p : Nat} (h1 : l[i]? = some p) (h2 : l[k]? = some p) : i = k := by
  obtain ⟨l1, e1⟩ := List.getElem?_eq_some_iff.1 h1
  obtain ⟨l2, e2⟩ := List.getElem?_eq_some_iff.1 h2
  have hp := List.pairwise_iff_getElem.1 h
  rcases Nat.lt_trichotomy i k with c | c | c
  · exact absurd (e1.trans e2.symm) (hp i k l1 l2 c)
  · exact c
  · exact absurd (e2.trans e1.symm) (hp k i l2 l1 c)
theorem newsN (w : World) (cs : Array Value) (t : TypeId) (n : Nat) (h : n = w.heap.size) : ∀ j u, cs.toList[j]? = some u → (w.alloc (.cells cs t)).cell? ((⟨n, 0, none⟩ : Addr).add j) = some u := by
  subst h
  exact newsA w cs t
theorem made_fld {lo B n : Nat} {rb : Nat → Nat} {w w' : World} {z : Array Value} (h : Made w B z) (k : Fld lo rb n w w') (hne : ∀ i, i < n → B ≠ rb i) : Made w' B z :=
  ⟨Nat.lt_of_lt_of_le h.1 k.size, fun o => (k.cell B o h.1 hne).1.trans (h.2.1 o), fun o => (k.cell B o h.1 hne).2.trans (h.2.2 o)⟩
theorem GrM.weak {w : World} {lo up lo' up' : Nat} {X Y : List Int} {A B F : Option Addr} {a b f : Nat} {rb : Nat → Nat} {c : Nat → Nat → Bool} (h : GrM w lo up X Y A B F a b f rb c) (h1 : lo' ≤ lo) (h2 : up ≤ up') (h3 : up' ≤ w.heap.size) : GrM w lo' up' X Y A B F a b f rb c :=
  ⟨h.sx, h.sy, h.rows, h.cell, h.inj, fun x hx => ⟨Nat.le_trans h1 (h.lx x hx).1, Nat.lt_of_lt_of_le (h.lx x hx).2.1 h2, (h.lx x hx).2.2⟩, fun x hx => ⟨Nat.le_trans h1 (h.ly x hx).1, Nat.lt_of_lt_of_le (h.ly x hx).2.1 h2, (h.ly x hx).2.2⟩, fun x hx => ⟨Nat.le_trans h1 (h.lf x hx).1, Nat.lt_of_lt_of_le (h.lf x hx).2.1 h2, (h.lf x hx).2.2⟩, fun i hi => ⟨Nat.le_trans h1 (h.lr i hi).1, Nat.lt_of_lt_of_le (h.lr i hi).2 h2⟩, h3, h.cf, h.cfB, h.n1, h.n2⟩
theorem GrM.set {w : World} {lo up : Nat} {X Y : List Int} {A B F : Option Addr} {a b f : Nat} {rb : Nat → Nat} {c : Nat → Nat → Bool} (h : GrM w lo up X Y A B F a b f rb c) {S : Nat} (hS : S < lo) (i : Nat) (v : Value) : GrM (w.setCell ⟨S, i, none⟩ v) lo up X Y A B F a b f rb c :=
  h.keep (by simp) fun b o hb _ => by
    have hne : b ≠ S := by omega
    have e := heap_setCell_other w ⟨S, i, none⟩ b v (fun e => hne (by simpa using e))
    exact ⟨World.cell?_of_block e, World.frozen?_of_block e⟩
/-- what is known when all rows are made -/
theorem grM_of {w5 wr : World} {lo S : Nat} {X Y : List Int} {A B F : Option Addr} {a b f : Nat} {bs : List Nat} (hX : OwnL w5 lo 3 1 inL (.slice A X.length a) X) (hY : OwnL w5 lo 3 1 inL (.slice B Y.length b) Y)
    (hXS : (Value.slice A X.length a).ownBlock ≠ some S) (hYS : (Value.slice B Y.length b).ownBlock ≠ some S) (hF : Fld S (fun _ => S) 1 w5 wr) (hR : Rws wr w5.heap.size Y.length F f bs) (hl : bs.length = X.length) (hlo : lo ≤ w5.heap.size) (h1 : X.length ≤ 1000) (h2 : Y.length ≤ 1000) :
    ∃ rb, GrM wr lo wr.heap.size X Y A B F a b f rb (fun _ _ => false) := by
  have lx := fun k hk => World.ownsRow.lt hX k hk
  have ly := fun k hk => World.ownsRow.lt hY k hk
  have kp : ∀ {Z : List Int} {C : Option Addr} {c : Nat}, OwnL w5 lo 3 1 inL (.slice C Z.length c) Z → (Value.slice C Z.length c).ownBlock ≠ some S → SlI wr C c Z := by
    intro Z C c h hne
    have hs := own_sli h
    refine ⟨rdl_keep hs.rd fun x hx o => ?_, hs.cap, hs.capB⟩
    subst hx
    rcases h.2 with ⟨q, _⟩ | ⟨g, cap, cur, q, h3, h4, _⟩
    · cases q
    · cases q
      refine (hF.cell _ _ (Array.getElem?_eq_some_iff.1 h4).1 fun i _ e => hne ?_).1
      simp [Value.ownBlock, e]
  have bA : ∀ {Z : List Int} {C : Option Addr} {c : Nat}, OwnL w5 lo 3 1 inL (.slice C Z.length c) Z → ∀ x, C = some x → lo ≤ x.block ∧ x.block < w5.heap.size := by
    intro Z C c h x hx
    subst hx
    rcases h.2 with ⟨q, _⟩ | ⟨g, cap, cur, q, h3, h4, _⟩
    · cases q
    · cases q
      exact ⟨h3, (Array.getElem?_eq_some_iff.1 h4).1⟩
  have hbs : ∀ i, i < X.length → ∃ b, bs[i]? = some b ∧ b ∈ bs := fun i hi => ⟨_, List.getElem?_eq_getElem (by omega), List.getElem_mem _⟩
  obtain ⟨_, hrd, hcap, hcapB⟩ := OwnL.rd (c := rwL Y.length) (fun _ => rfl) hR.own
  refine ⟨fun i => bs[i]?.getD 0, ⟨kp hX hXS, kp hY hYS, fun i hi => ?_, fun i j hi hj => ?_, fun i k hi hk e => ?_, fun x hx => ?_, fun x hx => ?_, fun x hx => ?_, fun i hi => ?_, Nat.le_refl _, by omega, by unfold maxLen at hcapB; omega, h1, h2⟩⟩
  · obtain ⟨p, hp, _⟩ := hbs i hi
    rcases hR.own.2 with ⟨_, q2⟩ | ⟨g, cap, cur, q, _⟩
    · omega
    · cases q
      obtain ⟨b', off', e, c0, _⟩ := hrd i p hp
      cases e
      exact ⟨g, rfl, by rw [hp]; simpa using c0⟩
  · obtain ⟨p, hp, hm⟩ := hbs i hi
    simp only [hp]
    exact (hR.cell p hm).2.2 j hj
  · obtain ⟨p, hp, _⟩ := hbs i hi
    obtain ⟨q, hq, _⟩ := hbs k hk
    simp only [hp, hq, Option.getD_some] at e
    subst e
    exact nodup_at hR.nd hp hq
  · obtain ⟨k1, k2⟩ := bA hX x hx
    refine ⟨k1, Nat.lt_of_lt_of_le k2 hF.size, fun i hi e => ?_⟩
    obtain ⟨p, hp, hm⟩ := hbs i hi
    simp only [hp, Option.getD_some] at e
    have := (hR.cell p hm).1
    omega
  · obtain ⟨k1, k2⟩ := bA hY x hx
    refine ⟨k1, Nat.lt_of_lt_of_le k2 hF.size, fun i hi e => ?_⟩
    obtain ⟨p, hp, hm⟩ := hbs i hi
    simp only [hp, Option.getD_some] at e
    have := (hR.cell p hm).1
    omega
  · subst hx
    rcases hR.own.2 with ⟨q, _⟩ | ⟨g, cap, cur, q, h3, h4, _⟩
    · cases q
    · cases q
      refine ⟨Nat.le_trans hlo h3, (Array.getElem?_eq_some_iff.1 h4).1, fun i hi e => ?_⟩
      obtain ⟨p, hp, hm⟩ := hbs i hi
      simp only [hp, Option.getD_some] at e
      exact hR.far p hm (by simp [Value.ownBlock, e])
  · obtain ⟨p, hp, hm⟩ := hbs i hi
    simp only [hp, Option.getD_some]
    obtain ⟨k1, k2, _⟩ := hR.cell p hm
    exact ⟨Nat.le_trans hlo k1, k2⟩
end RG
end Go.Proofs.YtddhaiaapomdjaaGreat
set_option linter.unusedVariables false
set_option linter.unusedSimpArgs false
namespace Go.Proofs.YtddhaiaapomdjaaGreat
set_option linter.unusedVariables false
set_option linter.unusedSimpArgs false
open Go Go.ChangeShapes Go.WideShapes Go.ChangeAt Go.RowKit Go.Deep

namespace RG
theorem run_append_zero {P : Program} (w : World) (t ty e : TypeId) (i : TypeInfo) (ht : P.underlying t = some (.slice e)) (hi : P.info? e = some i) (B : Option Addr) (n c : Nat) (hnc : n ≤ c) (X : Option Addr) (cc : Nat) :
    (Builtin.append_ #[t, t] ty #[.slice B n c, .slice X 0 cc]).run P w = .ok (.slice B n c) w := by
  have hz : (Builtin.firstCells i.size 0 (.slice X 0 cc)).run P w = .ok #[] w := by
    cases X with
    | none => exact run_firstCells_none w i.size 0 0 cc
    | some a => exact run_firstCells_some w i.size 0 a 0 cc [] (by simp) (by simp)
  cases B <;> simp [Builtin.append_, run_underlying ht, sizeOf, typeInfo, hi, Builtin.lenOf, hnc, hz, storeCells]
theorem wpList_app0 {P : Program} {w : World} {ops : Array Oper} {rest : List Oper} {o : Oper} {a : Act} {Q : Exit → Act → World → Prop} (hgd : o.guard = none) (s x : Operand) (t : TypeId)
    (ho : o.op = .call { callee := .builtin .append, args := #[s, x], argTypes := #[t, t] }) (e : TypeId) (k bts : Nat) (T : ElT P t e k bts) (B : Option Addr) (n c : Nat) (hs : a.eval s = .slice B n c) (hnc : n ≤ c) (X : Option Addr) (cc : Nat) (hx : a.eval x = .slice X 0 cc)
    (h : wpList P ops Q rest (a.put o.dst (.slice B n c)) w) : wpList P ops Q (o :: rest) a w := by
  obtain ⟨i, z, hi, hz, hsz, hby, hzs⟩ := T.inf
  refine wpList_plain hgd fun _ hK => ?_
  unfold Oper.wp execOp
  simp only [ho, resolve, invoke, builtin, Sem.run_bind, Sem.run_pure, Result.andThen_ok, List.map_toArray, List.map_cons, List.map_nil, hs, hx, run_append_zero w t o.type e i T.und hi B n c hnc X cc]
  exact hK _ _ h
theorem own_cap {α : Type} {c : α → List Value} {w : World} {base : Nat} {e : TypeId} {k n d : Nat} {A : Option Addr} {xs : List α} (h : OwnL w base e k c (.slice A n d) xs) : n ≤ d := by
  rcases h.2 with ⟨h1, h2⟩ | ⟨g, cap, cur, hv, hb, hh, hn, _⟩
  · cases h1
    exact Nat.le_refl _
  · cases hv
    exact hn
/-- room for so many rectangles, at a nil list -/
theorem growR (n : Nat) (w : World) (hn : n ≤ 1000000) :
    Calls Tryz.prog 128 #[.slice none 0 0, iv (n : Int)] w fun e w' => ∃ D q, e = .returned (.slice D 0 q) ∧ OwnL w' w.heap.size 70 4 rcL (.slice D 0 q) [] ∧ Gr w w' := by
  by_cases h0 : n = 0
  · subst h0
    refine (Go.Proofs.Any8.slices_Grow_room Tryz.layFGrow none 0 0 0 w (Nat.le_refl _) (by omega) (by omega) (Nat.le_refl _)).mono ?_
    rintro e w' ⟨rfl, rfl⟩
    exact ⟨none, 0, rfl, own_nil _ _ _ _ _, Gr.refl _⟩
  · obtain ⟨i, z, hi, hz, hsz, hby, hzs⟩ := elRect.inf
    refine (Go.Proofs.Any8.slices_Grow_grow Tryz.layFGrow i z hi hz (by omega) none 0 0 n [] w (Nat.le_refl _) (by omega) (by rw [hby]; omega) (by omega) (by simp) (fun _ => rfl) (fun a ha => by cases ha)).mono ?_
    rintro e w' ⟨rfl, rfl⟩
    have hG : 0 + n ≤ grownCap w (0 + n) 0 70 := grownCap_ge w _ _ _
    have hG2 := grownCap_le_maxLen w (0 + n) 0 70 (by unfold maxLen; omega)
    refine ⟨_, _, rfl, ?_, ?_⟩
    · refine ⟨by simp, .inr ⟨w.heap.size, _, (#[] ++ Builtin.zeroCells z.cells (0 + n - 0) ++ Builtin.zeroCells z.cells (grownCap w (0 + n) 0 70 - (0 + n))), rfl, Nat.le_refl _, heap_alloc_new w.drew _, Nat.zero_le _, hG2, ?_, by simp⟩⟩
      · simp only [Array.size_append, size_zeroCells, hzs]
        rw [Nat.zero_add] at hG
        simp
        show n * 4 + (grownCap w n 0 70 - n) * 4 = grownCap w n 0 70 * 4
        omega
    · exact Gr.alloc (Gr.drew (Gr.refl _)) _
theorem news_at {w : World} {A : Option Addr} {c : Nat} {l : List Rc} (h : SlR w A c l) {b off : Nat} (hA : A = some ⟨b, off, none⟩) : ∀ j u, (l.flatMap rcL)[j]? = some u → w.cell? ((⟨b, off, none⟩ : Addr).add j) = some u := by
  intro j u hu
  subst hA
  have hfl : (l.flatMap rcL).length = l.length * 4 := fm_len (c := rcL) (fun _ => rfl) l
  have hj := (List.getElem?_eq_some_iff.1 hu).1
  rw [hfl] at hj
  have hi : j / 4 < l.length := by omega
  obtain ⟨b', off', e, h0, h1, h2, h3⟩ := h.at_ (List.getElem?_eq_getElem hi)
  cases e
  have hr : j % 4 < 4 := Nat.mod_lt _ (by omega)
  have hf := fm_at (c := rcL) (k := 4) (fun _ => rfl) l (j / 4) _ (j % 4) (List.getElem?_eq_getElem hi) hr
  rw [show j / 4 * 4 + j % 4 = j by omega, hu] at hf
  rw [addr_add, show off + j = off + j / 4 * 4 + j % 4 by omega]
  generalize l[j / 4] = r at *
  generalize j / 4 * 4 = p at *
  generalize j % 4 = q at *
  match q, hr with
  | 0, _ => rw [Nat.add_zero, h0]; exact hf.symm
  | 1, _ => rw [h1]; exact hf.symm
  | 2, _ => rw [h2]; exact hf.symm
  | 3, _ => rw [h3]; exact hf.symm
theorem one_all (l : List Rc) : ∀ u ∈ l.flatMap rcL, u.oneCell' = true := by
  intro u hu
  obtain ⟨r, _, hr⟩ := List.mem_flatMap.1 hu
  exact one_rc r u hr
theorem allR_take (L : List RS) (k : Nat) : (allR (L.take k)).length ≤ (allR L).length := by
  have : allR L = allR (L.take k) ++ allR (L.drop k) := by
    unfold allR
    rw [← List.flatMap_append, List.take_append_drop]
  rw [this, List.length_append]
  omega
set_option maxHeartbeats 4000000 in
set_option maxRecDepth 100000 in
theorem Concat_any (A : Option Addr) (c : Nat) (L : List RS) (w : World) (hL : SlRR w A c L) (hn : L.length ≤ 1000) (hm : (allR L).length ≤ 1000) :
    Calls Tryz.prog 86 #[.slice A L.length c] w fun e w' => ∃ D q, e = .returned (.slice D (allR L).length q) ∧ OwnL w' w.heap.size 70 4 rcL (.slice D (allR L).length q) (allR L) ∧ Gr w w' := by
  have HL := hide hL
  have n1 := hL.cap
  have n2 := hL.capB
  have HSN := hide (fun (k : Nat) (x : RS) (h : L[k]? = some x) => allR_snoc h)
  have HTK := hide (fun k => allR_take L k)
  clear hL
  go_enter Tryz.func86, Tryz.ntmps86
  go_wp2
  go_loop [3, 11] (fun t i => ∃ k : Nat, k ≤ L.length ∧ i = iv k ∧ t = iv ((allR (L.take k)).length : Nat)) (fun _ i => L.length - (intOf i).toNat)
  case atStart => exact ⟨0, by omega, rfl, rfl⟩
  case round =>
    obtain ⟨k, hk, rfl, rfl⟩ := hrel
    by_cases hkl : k < L.length
    · obtain ⟨x, hx⟩ : ∃ x, L[k]? = some x := ⟨_, List.getElem?_eq_getElem hkl⟩
      obtain ⟨b, off, rfl, h0, hS⟩ := HL.out.at_ hx
      have hk0 : (0 : Int) ≤ (k : Int) := by omega
      have hk1 : (k : Int) < (L.length : Int) := by omega
      have e := HSN.out k x hx
      have t1 := HTK.out k
      have t2 := HTK.out (k + 1)
      have e2 : (allR (L.take (k + 1))).length = (allR (L.take k)).length + x.l.length := by rw [e, List.length_append]
      have HE := hide e2
      have s1 : IntKind.i64.wrap (((allR (L.take k)).length : Int) + (x.l.length : Int)) = ((allR (L.take k)).length : Int) + (x.l.length : Int) := IntWalk.i64_in _ (by omega)
      have s2 : ¬ ((allR (L.take k)).length : Int) + (x.l.length : Int) < 0 := by omega
      have s3 : IntKind.i64.wrap ((k : Int) + 1) = (k : Int) + 1 := IntWalk.i64_in _ (by omega)
      clear e e2 t1 t2 hx hS
      generalize (allR (L.take k)).length = p at *
      go_wp2
      go_round
      case rel => exact ⟨k + 1, by omega, by go_num, by rw [HE.out]; rfl⟩
      case measure => simp only [intOf]; omega
    · obtain rfl : k = L.length := by omega
      rw [List.take_length]
      go_wp2_with fail
      refine (growR (allR L).length w (by omega)).mono ?_
      rintro e w1 ⟨D0, q0, rfl, ho0, g0⟩
      have HO0 := hide ho0
      clear ho0
      go_wp2_with fail
      go_loopw [6, 27] (fun v i wr => ∃ (k : Nat) (D : Option Addr) (q : Nat), k ≤ L.length ∧ i = iv k ∧ v = .slice D (allR (L.take k)).length q ∧ OwnL wr w.heap.size 70 4 rcL (.slice D (allR (L.take k)).length q) (allR (L.take k)) ∧ Gr w wr) (fun _ i _ => L.length - (intOf i).toNat)
      case atStart => exact ⟨0, D0, q0, by omega, rfl, rfl, HO0.out, g0⟩
      case round =>
        obtain ⟨k, D, q, hk, rfl, rfl, ho, g⟩ := hrel
        have HO := hide ho
        clear ho
        by_cases hkl : k < L.length
        · obtain ⟨x, hx⟩ : ∃ x, L[k]? = some x := ⟨_, List.getElem?_eq_getElem hkl⟩
          obtain ⟨b, off, rfl, h0, hS⟩ := (HL.out.gr g).at_ hx
          have hk0 : (0 : Int) ≤ (k : Int) := by omega
          have hk1 : (k : Int) < (L.length : Int) := by omega
          have HE := hide (HSN.out k x hx)
          have t1 := HTK.out k
          have t2 := HTK.out (k + 1)
          have gz := g.size
          rw [HE.out, List.length_append] at t2
          have s3 : IntKind.i64.wrap ((k : Int) + 1) = (k : Int) + 1 := IntWalk.i64_in _ (by omega)
          obtain ⟨X, xc, xl⟩ := x
          simp only at h0 hS HE t2
          have HS := hide hS
          clear hS hx
          by_cases hz : xl = []
          · subst hz
            have HE2 : Hid (allR (L.take (k + 1)) = allR (L.take k)) := hide (by rw [HE.out, List.append_nil])
            have hcp := own_cap HO.out
            simp only [List.length_nil] at h0
            go_wp2_with (refine wpList_app0 rfl _ _ _ rfl 70 4 32 elRect D _ q rfl hcp X xc rfl ?_)
            go_roundw
            case rel => exact ⟨k + 1, D, q, by omega, by go_num, by rw [HE2.out], by rw [HE2.out]; exact HO.out, g⟩
            case measure => simp only [intOf]; omega
          · have hpos : 0 < xl.length := List.length_pos_iff.2 hz
            obtain ⟨b2, off2, hX, _⟩ := HS.out.at_ (List.getElem?_eq_getElem hpos)
            subst hX
            clear hz
            go_wp2_with (refine wpList_appZ rfl _ _ _ rfl rcL w.heap.size 70 4 32 elRect (by decide) _ xl _ HE.out.symm (.slice D (allR (L.take k)).length q) rfl HO.out ⟨b2, off2, none⟩ xl.length xc rfl rfl hpos (fun _ => rfl) (news_at HS.out rfl) (one_all xl) (by omega) (by decide) gz ?_; intro gg cap1 w8 hO8 hG8 hg8 hor hlt8)
            have G8 := hG8 _ g (Nat.le_refl _)
            have HO8 := hide hO8
            clear hO8 hG8 hg8
            go_roundw
            case rel => exact ⟨k + 1, some ⟨gg, 0, none⟩, cap1, by omega, by go_num, rfl, HO8.out, G8⟩
            case measure => simp only [intOf]; omega
        · obtain rfl : k = L.length := by omega
          rw [List.take_length] at HO ⊢
          have hk1 : ¬ ((L.length : Int) < (L.length : Int)) := by omega
          go_wp2
          go_ret
          exact ⟨D, q, rfl, HO.out, g⟩
end RG
end Go.Proofs.YtddhaiaapomdjaaGreat
set_option linter.unusedVariables false
set_option linter.unusedSimpArgs false
namespace Go.Proofs.YtddhaiaapomdjaaGreat
set_option linter.unusedVariables false
set_option linter.unusedSimpArgs false
open Go Go.ChangeShapes Go.WideShapes Go.ChangeAt Go.RowKit Go.Deep

namespace RG
set_option maxHeartbeats 4000000 in
set_option maxRecDepth 100000 in
theorem verticals_any (A : Option Addr) (c : Nat) (l : List Rc) (w : World) (hl : SlR w A c l) (hv : ∀ r ∈ l, InM 1048576 r) (h0 : l ≠ []) (hn : l.length ≤ 400) :
    Calls Tryz.prog 87 #[.slice A l.length c] w fun e w' => ∃ D q, e = .returned (.slice D (lnX l).length q) ∧ SlI w' D q (lnX l) ∧ Gr w w' := by
  have HL := hide hl
  have n1 := hl.cap
  have n2 := hl.capB
  have HV := hide hv
  have HNE := hide (show flX l ≠ [] by
    intro e
    cases l with
    | nil => exact h0 rfl
    | cons r l => simp [flX] at e)
  have HSX := hide (srt_flX l)
  have hfl : (flX l).length ≤ 800 := by
    have : ∀ l : List Rc, (flX l).length = 2 * l.length := by
      intro l
      induction l with
      | nil => rfl
      | cons r l ih => unfold flX at ih ⊢; rw [List.flatMap_cons, List.length_append, ih]; simp; omega
    rw [this]
    omega
  clear hl hv h0
  go_enter Tryz.func87, Tryz.ntmps87
  go_wp2
  go_loopw [3, 8] (fun xv i wr => ∃ (k : Nat) (O : List Int) (A1 : Option Addr) (d1 : Nat), k ≤ l.length ∧ i = iv k ∧ xv = .slice A1 O.length d1 ∧ Gr w wr ∧ Hid (OwnL wr w.heap.size 3 1 inL (.slice A1 O.length d1) O) ∧ Hid (O = flX (l.take k)) ∧ O.length ≤ 2 * k) (fun _ i _ => l.length - (intOf i).toNat)
  case atStart => exact ⟨0, [], none, 0, by omega, rfl, rfl, Gr.refl _, own_nil _ _ _ _ _, rfl, by simp⟩
  case round =>
    obtain ⟨k, O, A1, d1, hk, rfl, rfl, g, HO, HE, hO⟩ := hrel
    by_cases hkl : k < l.length
    · obtain ⟨r, hr⟩ : ∃ r, l[k]? = some r := ⟨_, List.getElem?_eq_getElem hkl⟩
      obtain ⟨b2, o2, hA, y0, y1, y2, y3⟩ := (HL.out.gr g).at_ hr
      have hb := HV.out r (List.mem_of_getElem? hr)
      have m1 := hb.w
      have m2 := hb.h
      have m3 := hb.x
      have m4 := hb.y
      have m5 := hb.x'
      have m6 := hb.y'
      have hk0 : (0 : Int) ≤ (k : Int) := by omega
      have hk1 : (k : Int) < (l.length : Int) := by omega
      have sg := g.size
      obtain ⟨O2, hO2⟩ : ∃ O2, O ++ [r.x, r.x + r.w] = O2 := ⟨_, rfl⟩
      have HO2 := hide hO2
      have HE2 := hide (show O2 = flX (l.take (k + 1)) by rw [take_at hr, flX_snoc, ← HE.out]; exact hO2.symm)
      have hO2l : O2.length ≤ 2 * (k + 1) := by rw [← hO2]; simp; omega
      have hO2e : O2.length = O.length + 2 := by rw [← hO2]; simp
      have HOl := hide hO2e
      subst hA
      clear hO2 hO2e hr hb HE
      have s1 : IntKind.i64.wrap (r.x + r.w) = r.x + r.w := IntWalk.i64_in _ (by omega)
      go_wp2_with (refine wpList_appZ rfl _ _ _ rfl inL w.heap.size 3 1 8 elInt (by decide) O [r.x, r.x + r.w] O2 HO2.out _ rfl (HO.out.gr (Gr.alloc (Gr.alloc (Gr.refl _) _) _)) ⟨wr.heap.size + 1, 0, none⟩ 2 2 rfl rfl (by decide) (fun _ => rfl) (newsN _ #[iv r.x, iv (r.x + r.w)] 3 _ (by simp)) (one2 _ _) (by omega) (by decide) (by simp only [World.size_alloc]; omega) ?_; intro gg cap1 w8 hO8 hG8 hgw8 hat8 hlt8)
      have g8 : Gr w w8 := hG8 _ (Gr.alloc (Gr.alloc g _) _) (Nat.le_refl _)
      have HO8 := hide hO8
      clear hO8 hG8 hgw8 hat8 HO
      go_roundw
      case rel => exact ⟨k + 1, O2, some ⟨gg, 0, none⟩, cap1, by omega, by go_num, rfl, g8, HO8, HE2, by omega⟩
      case measure => simp only [intOf]; omega
    · obtain rfl : k = l.length := by omega
      rw [List.take_length] at HE
      have hk1 : ¬ ((l.length : Int) < (l.length : Int)) := by omega
      have hE := HE.out
      subst hE
      clear HE
      go_wp2_with fail
      refine (sortN A1 d1 (flX l) wr w HO.out g HNE.out (by omega)).mono ?_
      rintro e w2 ⟨rfl, ys, hperm, hs, ho2, g2⟩
      have HK := hide (sc_srt hperm hs)
      have hle := hperm.length_eq
      have HO2 := hide ho2
      have HLE := hide hle
      rw [← HLE.out]
      clear ho2 hperm hs hle HO
      go_wp2_with fail
      refine (compactN A1 d1 ys w2 w HO2.out g2 (by have := HLE.out; omega)).mono ?_
      rintro e w3 ⟨rfl, ho3, g3⟩
      rw [HK.out, HSX.out] at ho3
      rw [HK.out, HSX.out]
      have HO3 := hide (own_sli ho3)
      clear ho3 HK HSX
      go_wp2
      go_ret
      exact ⟨A1, d1, rfl, HO3.out, g3⟩
/-- the sweep so far -/
def swS (l : List Rc) (s t : Int) (k : Nat) : Int := (l.take k).foldl (fun a r => (a.1 + max 0 (r.y + r.h - max r.y a.2), max a.2 (r.y + r.h))) (s, t) |>.1
def swT (l : List Rc) (s t : Int) (k : Nat) : Int := (l.take k).foldl (fun a r => (a.1 + max 0 (r.y + r.h - max r.y a.2), max a.2 (r.y + r.h))) (s, t) |>.2
theorem sw_fold : ∀ (l : List Rc) (s t : Int), (l.foldl (fun a r => (a.1 + max 0 (r.y + r.h - max r.y a.2), max a.2 (r.y + r.h))) (s, t)).1 = swp l s t
  | [], s, t => rfl
  | r :: l, s, t => by rw [List.foldl_cons]; exact sw_fold l _ _
theorem sw_succ {l : List Rc} {s t : Int} {k : Nat} {r : Rc} (h : l[k]? = some r) : swS l s t (k + 1) = swS l s t k + max 0 (r.y + r.h - max r.y (swT l s t k)) ∧ swT l s t (k + 1) = max (swT l s t k) (r.y + r.h) := by
  unfold swS swT
  rw [take_at h, List.foldl_append]
  exact ⟨rfl, rfl⟩
theorem sw_bd {l : List Rc} {s t M : Int} (h : ∀ r ∈ l, 0 < r.h ∧ -M ≤ r.y ∧ r.y + r.h ≤ M) (h1 : -M ≤ t) (h2 : t ≤ M) (hM : 0 ≤ M) : ∀ k, (s ≤ swS l s t k ∧ swS l s t k ≤ s + 2 * M * k) ∧ -M ≤ swT l s t k ∧ swT l s t k ≤ M
  | 0 => by unfold swS swT; simp; omega
  | k + 1 => by
    obtain ⟨⟨i1, i2⟩, i3, i4⟩ := sw_bd (s := s) (t := t) h h1 h2 hM k
    have e2 : 2 * M * ((k + 1 : Nat) : Int) = 2 * M * (k : Int) + 2 * M := by rw [show ((k + 1 : Nat) : Int) = (k : Int) + 1 by omega, Int.mul_add, Int.mul_one]
    cases hz : l[k]? with
    | none =>
      have e : l.take (k + 1) = l.take k := by
        have := List.getElem?_eq_none_iff.1 hz
        rw [List.take_of_length_le (by omega), List.take_of_length_le (by omega)]
      unfold swS swT at *
      rw [e, e2]
      omega
    | some r =>
      obtain ⟨e3, e4⟩ := sw_succ (s := s) (t := t) hz
      obtain ⟨r1, r2, r3⟩ := h r (List.mem_of_getElem? hz)
      rw [e3, e4, e2]
      omega
theorem sw_all (l : List Rc) (s t : Int) : swS l s t l.length = swp l s t := by
  unfold swS
  rw [List.take_length]
  exact sw_fold l s t
theorem cxL_snoc {l : List Rc} {x : Int} {k : Nat} {r : Rc} (h : l[k]? = some r) : cxL (l.take (k + 1)) x = if (decide (r.x ≤ x) && decide (x < r.x + r.w)) then cxL (l.take k) x ++ [r] else cxL (l.take k) x := by
  unfold cxL
  rw [take_at h, List.filter_append]
  cases hb : (decide (r.x ≤ x) && decide (x < r.x + r.w)) <;> simp [List.filter_cons, hb]
set_option maxHeartbeats 8000000 in
set_option maxRecDepth 100000 in
theorem covered_any (A : Option Addr) (c : Nat) (l : List Rc) (x : Int) (w : World) (hl : SlR w A c l) (hv : ∀ r ∈ l, InM 1048576 r) (hn : l.length ≤ 400) :
    Calls Tryz.prog 88 #[.slice A l.length c, iv x] w fun e w' => e = .returned (iv (colS 1048576 l x)) ∧ Gr w w' := by
  have HL := hide hl
  have n1 := hl.cap
  have n2 := hl.capB
  have HV := hide hv
  have HCS := hide (fun (k : Nat) (r : Rc) (h : l[k]? = some r) => cxL_snoc (x := x) h)
  have HSW := hide (fun (ys : List Rc) (hp : ys.Perm (cxL l x)) (hs : ys.Pairwise (fun a b => a.y ≤ b.y)) => swp_col (M := 1048576) hv (fun r => hp.mem_iff) hs)
  have HCI := hide (show ∀ r ∈ cxL l x, r ∈ l from fun r hr => (List.mem_filter.1 hr).1)
  have hcl : (cxL l x).length ≤ 400 := Nat.le_trans (List.length_filter_le _ _) hn
  clear hl hv
  go_enter Tryz.func88, Tryz.ntmps88
  go_wp2
  go_loopw [5, 14] (fun xv i wr => ∃ (k : Nat) (O : List Rc) (A1 : Option Addr) (d1 : Nat), k ≤ l.length ∧ i = iv k ∧ xv = .slice A1 O.length d1 ∧ Gr w wr ∧ Hid (OwnL wr w.heap.size 70 4 rcL (.slice A1 O.length d1) O) ∧ Hid (O = cxL (l.take k) x) ∧ O.length ≤ k) (fun _ i _ => l.length - (intOf i).toNat)
  case atStart => exact ⟨0, [], none, 0, by omega, rfl, rfl, Gr.refl _, own_nil _ _ _ _ _, rfl, by simp⟩
  case round =>
    obtain ⟨k, O, A1, d1, hk, rfl, rfl, g, HO, HE, hO⟩ := hrel
    by_cases hkl : k < l.length
    · obtain ⟨r, hr⟩ : ∃ r, l[k]? = some r := ⟨_, List.getElem?_eq_getElem hkl⟩
      obtain ⟨b2, o2, hA, y0, y1, y2, y3⟩ := (HL.out.gr g).at_ hr
      have hb := HV.out r (List.mem_of_getElem? hr)
      have m1 := hb.w
      have m2 := hb.h
      have m3 := hb.x
      have m4 := hb.y
      have m5 := hb.x'
      have m6 := hb.y'
      have hk0 : (0 : Int) ≤ (k : Int) := by omega
      have hk1 : (k : Int) < (l.length : Int) := by omega
      have sg := g.size
      have HN := hide (HCS.out k r hr)
      subst hA
      have s1 : IntKind.i64.wrap (r.x + r.w) = r.x + r.w := IntWalk.i64_in _ (by omega)
      clear hr hb
      by_cases hin : r.x ≤ x ∧ x < r.x + r.w
      · obtain ⟨i1, i2⟩ := hin
        have j1 : decide (r.x ≤ x) = true := by simpa using i1
        have j2 : decide (x < r.x + r.w) = true := by simpa using i2
        obtain ⟨O2, hO2⟩ : ∃ O2, O ++ [r] = O2 := ⟨_, rfl⟩
        have HO2 := hide hO2
        have HE2 := hide (show O2 = cxL (l.take (k + 1)) x by rw [HN.out, j1, j2, ← HE.out]; exact hO2.symm)
        have hO2e : O2.length ≤ k + 1 := by rw [← hO2]; simp; omega
        clear hO2 HE HN
        go_wp2_with (refine wpList_appZ rfl _ _ _ rfl rcL w.heap.size 70 4 32 elRect (by decide) O [r] O2 HO2.out _ rfl (HO.out.gr (Gr.alloc (Gr.alloc (Gr.refl _) _) _)) ⟨wr.heap.size + 1, 0, none⟩ 1 1 rfl rfl (by decide) (fun _ => rfl) (newsN _ #[iv r.x, iv r.y, iv r.w, iv r.h] 70 _ (by simp)) (one_all [r]) (by omega) (by decide) (by simp only [World.size_alloc]; omega) ?_; intro gg cap1 w8 hO8 hG8 hgw8 hat8 hlt8)
        have g8 : Gr w w8 := hG8 _ (Gr.alloc (Gr.alloc g _) _) (Nat.le_refl _)
        have HO8 := hide hO8
        clear hO8 hG8 hgw8 hat8 HO
        go_roundw
        case rel => exact ⟨k + 1, O2, some ⟨gg, 0, none⟩, cap1, by omega, by go_num, rfl, g8, HO8, HE2, by omega⟩
        case measure => simp only [intOf]; omega
      · have hno : (decide (r.x ≤ x) && decide (x < r.x + r.w)) = false := by
          rw [Bool.and_eq_false_iff, decide_eq_false_iff_not, decide_eq_false_iff_not]
          omega
        have HE2 := hide (show O = cxL (l.take (k + 1)) x by rw [HN.out, hno, HE.out]; rfl)
        have g8 : Gr w (wr.alloc (.cells #[iv r.x, iv r.y, iv r.w, iv r.h] 70)) := Gr.alloc g _
        have HO8 := hide (HO.out.gr (Gr.alloc (Gr.refl wr) (.cells #[iv r.x, iv r.y, iv r.w, iv r.h] 70)))
        clear HE HN HO
        by_cases i1 : r.x ≤ x
        · have j1 : decide (r.x ≤ x) = true := by simpa using i1
          have j2 : decide (x < r.x + r.w) = false := by simp only [decide_eq_false_iff_not]; omega
          clear hno i1 hin
          go_wp2
          go_roundw
          case rel => exact ⟨k + 1, O, A1, d1, by omega, by go_num, rfl, g8, HO8, HE2, by omega⟩
          case measure => simp only [intOf]; omega
        · have j1 : decide (r.x ≤ x) = false := by simpa using i1
          clear hno i1 hin
          go_wp2
          go_roundw
          case rel => exact ⟨k + 1, O, A1, d1, by omega, by go_num, rfl, g8, HO8, HE2, by omega⟩
          case measure => simp only [intOf]; omega
    · obtain rfl : k = l.length := by omega
      rw [List.take_length] at HE
      have hk1 : ¬ ((l.length : Int) < (l.length : Int)) := by omega
      have hE := HE.out
      subst hE
      clear HE HCS
      have HSR := hide (sortR A1 d1 (cxL l x) wr w HO.out g (by omega))
      go_wp2_with fail
      refine HSR.out.mono ?_
      rintro e w2 ⟨rfl, ys, hperm, hs, ho2, g2⟩
      have HK := hide (HSW.out ys hperm hs)
      have hyl : ys.length ≤ 400 := by rw [hperm.length_eq]; exact hcl
      have HLE := hide hperm.length_eq
      have HYI := hide (show ∀ r ∈ ys, InM 1048576 r from fun r hr => HV.out r (HCI.out r (hperm.mem_iff.1 hr)))
      have HB := hide (sw_bd (l := ys) (s := 0) (t := -1048576) (M := 1048576) (fun r hr => ⟨(HYI.out r hr).h, (HYI.out r hr).y, (HYI.out r hr).y'⟩) (by omega) (by omega) (by omega))
      have HSS := hide (fun (k : Nat) (r : Rc) (h : ys[k]? = some r) => sw_succ (s := 0) (t := -1048576) h)
      have HO2 := hide ho2
      have HYS := hide (own_slr ho2)
      have m1 := HYS.out.cap
      have m2 := HYS.out.capB
      rw [← HLE.out]
      clear ho2 hperm hs HO HSW HSR
      go_wp2_with fail
      go_loopw [8, 9, 40] (fun sv tv i wr => ∃ k : Nat, k ≤ ys.length ∧ i = iv k ∧ sv = iv (swS ys 0 (-1048576) k) ∧ tv = iv (swT ys 0 (-1048576) k) ∧ Gr w2 wr) (fun _ _ i _ => ys.length - (intOf i).toNat)
      case atStart => exact ⟨0, by omega, rfl, rfl, rfl, Gr.refl _⟩
      case round =>
        obtain ⟨k, hk, rfl, rfl, rfl, g3⟩ := hrel
        by_cases hkl : k < ys.length
        · obtain ⟨r, hr⟩ : ∃ r, ys[k]? = some r := ⟨_, List.getElem?_eq_getElem hkl⟩
          obtain ⟨b2, o2, hA, y0, y1, y2, y3⟩ := (HYS.out.gr g3).at_ hr
          have hb := HYI.out r (List.mem_of_getElem? hr)
          have p1 := hb.h
          have p2 := hb.y
          have p3 := hb.y'
          obtain ⟨⟨b1, b2'⟩, b3, b4⟩ := HB.out k
          have HN := hide (HSS.out k r hr)
          have hk0 : (0 : Int) ≤ (k : Int) := by omega
          have hk1 : (k : Int) < (ys.length : Int) := by omega
          have hkb : (k : Int) ≤ 400 := by omega
          subst hA
          generalize swS ys 0 (-1048576) k = S at *
          generalize swT ys 0 (-1048576) k = T at *
          have s1 : IntKind.i64.wrap (r.y + r.h) = r.y + r.h := IntWalk.i64_in _ (by omega)
          have s2 : IntKind.i64.wrap (r.y + r.h - max r.y T) = r.y + r.h - max r.y T := IntWalk.i64_in _ (by omega)
          have s3 : IntKind.i64.wrap (S + max 0 (r.y + r.h - max r.y T)) = S + max 0 (r.y + r.h - max r.y T) := IntWalk.i64_in _ (by omega)
          clear hr hb
          go_wp2
          go_roundw
          case rel => exact ⟨k + 1, by omega, by go_num, by rw [HN.out.1], by rw [HN.out.2], g3.trans (Gr.alloc (Gr.refl _) _)⟩
          case measure => simp only [intOf]; omega
        · obtain rfl : k = ys.length := by omega
          have hk1 : ¬ ((ys.length : Int) < (ys.length : Int)) := by omega
          go_wp2
          go_ret
          exact ⟨ret_iv (by rw [sw_all]; exact HK.out), g2.trans g3⟩
end RG
end Go.Proofs.YtddhaiaapomdjaaGreat
set_option linter.unusedVariables false
set_option linter.unusedSimpArgs false
namespace Go.Proofs.YtddhaiaapomdjaaGreat
set_option linter.unusedVariables false
set_option linter.unusedSimpArgs false
open Go Go.ChangeShapes Go.WideShapes Go.ChangeAt Go.RowKit Go.Deep

namespace RG
/-- a bend line: flange, parent, its line's ends, angle, deduction -/
structure Bd where
  f : Int
  p : Int
  a : Int
  b : Int
  c : Int
  d : Int
  n : Int
  e : Int
abbrev bdL (x : Bd) : List Value := [iv x.f, iv x.p, iv x.a, iv x.b, iv x.c, iv x.d, iv x.n, iv x.e]
structure SlB (w : World) (A : Option Addr) (c : Nat) (l : List Bd) : Prop where
  rd : RdL w 8 bdL A l
  cap : l.length ≤ c
  capB : c ≤ 9223372036854775807
theorem SlB.gr {w w' : World} {A : Option Addr} {c : Nat} {l : List Bd} (h : SlB w A c l) (g : Gr w w') : SlB w' A c l := ⟨h.rd.gr g, h.cap, h.capB⟩
theorem SlB.at_ {w : World} {A : Option Addr} {c : Nat} {l : List Bd} (h : SlB w A c l) {i : Nat} {z : Bd} (hi : l[i]? = some z) : ∃ b off, A = some ⟨b, off, none⟩ ∧ w.cell? ⟨b, off + i * 8, none⟩ = some (iv z.f) ∧ w.cell? ⟨b, off + i * 8 + 1, none⟩ = some (iv z.p) ∧ w.cell? ⟨b, off + i * 8 + 2, none⟩ = some (iv z.a) ∧ w.cell? ⟨b, off + i * 8 + 3, none⟩ = some (iv z.b) ∧ w.cell? ⟨b, off + i * 8 + 4, none⟩ = some (iv z.c) ∧ w.cell? ⟨b, off + i * 8 + 5, none⟩ = some (iv z.d) ∧ w.cell? ⟨b, off + i * 8 + 6, none⟩ = some (iv z.n) ∧ w.cell? ⟨b, off + i * 8 + 7, none⟩ = some (iv z.e) := by
  obtain ⟨b, off, e, h0, h1, h2, h3, h4, h5, h6, h7, _⟩ := h.rd i z hi
  exact ⟨b, off, e, h0, h1, h2, h3, h4, h5, h6, h7⟩
/-- a pattern: rectangles, cuts, forms, bend lines -/
structure Pat where
  r : List Rc
  c : List Rc
  f : List Rc
  b : List Bd
structure PatW (w : World) (A1 : Option Addr) (c1 : Nat) (A2 : Option Addr) (c2 : Nat) (A3 : Option Addr) (c3 : Nat) (A4 : Option Addr) (c4 : Nat) (F : Pat) : Prop where
  r : SlR w A1 c1 F.r
  c : SlR w A2 c2 F.c
  f : SlR w A3 c3 F.f
  b : SlB w A4 c4 F.b
theorem PatW.gr {w w' : World} {A1 : Option Addr} {c1 : Nat} {A2 : Option Addr} {c2 : Nat} {A3 : Option Addr} {c3 : Nat} {A4 : Option Addr} {c4 : Nat} {F : Pat} (h : PatW w A1 c1 A2 c2 A3 c3 A4 c4 F) (g : Gr w w') : PatW w' A1 c1 A2 c2 A3 c3 A4 c4 F := ⟨h.r.gr g, h.c.gr g, h.f.gr g, h.b.gr g⟩
abbrev ptv (A1 : Option Addr) (n1 c1 : Nat) (A2 : Option Addr) (n2 c2 : Nat) (A3 : Option Addr) (n3 c3 : Nat) (A4 : Option Addr) (n4 c4 : Nat) : Value := .agg #[.slice A1 n1 c1, .slice A2 n2 c2, .slice A3 n3 c3, .slice A4 n4 c4]
def nsL (x : Bd) : List Int := [x.a, x.b, x.c, x.d]
def bdB (x : Bd) : Bool := (nsL x).all fun n => wiB n (-1048576) 1048576
/-- all rectangles are valid and all ends of bend lines are in range -/
def lmB (F : Pat) : Bool := (F.r.all vrR && F.c.all vrR && F.f.all vrR) && F.b.all bdB
theorem fwithin_any (n l m : Int) (w : World) : Calls Tryz.prog 126 #[iv n, iv l, iv m] w fun e w' => e = .returned (.bool (wiB n l m)) ∧ w = w' := by
  go_enter Tryz.func126, Tryz.ntmps126
  go_wp2
  all_goals
    go_ret
    exact ⟨ret_bool (by simp [wiB]; try omega), rfl⟩
theorem slRR_3 {w : World} {A B C : Option Addr} {c d q : Nat} {l m n : List Rc} (t : TypeId) (h : SlR w A c l) (k : SlR w B d m) (j : SlR w C q n) : SlRR (w.alloc (.cells #[.slice A l.length c, .slice B m.length d, .slice C n.length q] t)) (some ⟨w.heap.size, 0, none⟩) 3 [⟨A, c, l⟩, ⟨B, d, m⟩, ⟨C, q, n⟩] := by
  refine ⟨?_, ?_, by simp, by omega⟩
  · intro i x hi
    match i with
    | 0 =>
      simp only [List.getElem?_cons_zero, Option.some.injEq] at hi
      subst hi
      exact ⟨w.heap.size, 0, rfl, by simp [go_sem], trivial⟩
    | 1 =>
      simp only [List.getElem?_cons_succ, List.getElem?_cons_zero, Option.some.injEq] at hi
      subst hi
      exact ⟨w.heap.size, 0, rfl, by simp [go_sem], trivial⟩
    | 2 =>
      simp only [List.getElem?_cons_succ, List.getElem?_cons_zero, Option.some.injEq] at hi
      subst hi
      exact ⟨w.heap.size, 0, rfl, by simp [go_sem], trivial⟩
    | i + 3 => simp at hi
  · intro x hx
    simp only [List.mem_cons, List.not_mem_nil, or_false] at hx
    rcases hx with rfl | rfl | rfl
    · exact h.gr (Gr.alloc (Gr.refl _) _)
    · exact k.gr (Gr.alloc (Gr.refl _) _)
    · exact j.gr (Gr.alloc (Gr.refl _) _)
theorem sli_4 (w : World) (a b c d : Int) (t : TypeId) : SlI (w.alloc (.cells #[iv a, iv b, iv c, iv d] t)) (some ⟨w.heap.size, 0, none⟩) 4 [a, b, c, d] := by
  refine ⟨fun i p hp => ?_, by simp, by omega⟩
  refine ⟨w.heap.size, 0, rfl, ?_, trivial⟩
  match i with
  | 0 => simp only [List.getElem?_cons_zero, Option.some.injEq] at hp; subst hp; simp [go_sem]
  | 1 => simp only [List.getElem?_cons_succ, List.getElem?_cons_zero, Option.some.injEq] at hp; subst hp; simp [go_sem]
  | 2 => simp only [List.getElem?_cons_succ, List.getElem?_cons_zero, Option.some.injEq] at hp; subst hp; simp [go_sem]
  | 3 => simp only [List.getElem?_cons_succ, List.getElem?_cons_zero, Option.some.injEq] at hp; subst hp; simp [go_sem]
  | i + 4 => simp at hp
theorem all_no {α : Type} {p : α → Bool} {l : List α} {i : Nat} {x : α} (h : l[i]? = some x) (k : p x = false) : l.all p = false := by
  cases hh : l.all p with
  | false => rfl
  | true => rw [List.all_eq_true.1 hh x (List.mem_of_getElem? h)] at k; cases k
theorem all_yes {α : Type} {p : α → Bool} {l : List α} (h : ∀ (j : Nat) (s : α), j < l.length → l[j]? = some s → p s = true) : l.all p = true := by
  rw [List.all_eq_true]
  intro x hx
  obtain ⟨i, hi⟩ := List.mem_iff_getElem?.1 hx
  exact h i x (List.getElem?_eq_some_iff.1 hi).1 hi
theorem lm_rows (F : Pat) (A B C : Option Addr) (c d q : Nat) : lmB F = (([⟨A, c, F.r⟩, ⟨B, d, F.c⟩, ⟨C, q, F.f⟩] : List RS).all (fun x => x.l.all vrR) && F.b.all bdB) := by
  simp [lmB, Bool.and_assoc]
set_option maxHeartbeats 8000000 in
set_option maxRecDepth 100000 in
theorem inLimits_any (A1 A2 A3 A4 : Option Addr) (c1 c2 c3 c4 : Nat) (F : Pat) (w : World) (hF : PatW w A1 c1 A2 c2 A3 c3 A4 c4 F) :
    Calls Tryz.prog 127 #[ptv A1 F.r.length c1 A2 F.c.length c2 A3 F.f.length c3 A4 F.b.length c4] w fun e w' => e = .returned (.bool (lmB F)) ∧ Gr w w' := by
  have HF := hide hF
  have n7 := hF.b.cap
  have n8 := hF.b.capB
  have HLM := hide (lm_rows F A1 A2 A3 c1 c2 c3)
  have HLL := hide (fun (w' : World) (g : Gr w w') => slRR_3 (w := w') 22 (hF.r.gr g) (hF.c.gr g) (hF.f.gr g))
  obtain ⟨L, hL⟩ : ∃ L : List RS, [⟨A1, c1, F.r⟩, ⟨A2, c2, F.c⟩, ⟨A3, c3, F.f⟩] = L := ⟨_, rfl⟩
  rw [hL] at HLM HLL
  have hL3 : L.length = 3 := by rw [← hL]; rfl
  have HL3 := hide hL3
  clear hF hL hL3
  go_enter Tryz.func127, Tryz.ntmps127
  go_wp2_with fail
  have g0 : Gr w (w.alloc (.cells #[.slice A1 F.r.length c1, .slice A2 F.c.length c2, .slice A3 F.f.length c3, .slice A4 F.b.length c4] 86)) := Gr.alloc (Gr.refl _) _
  have HB4 := hide (fun (w' : World) (g : Gr (w.alloc (.cells #[.slice A1 F.r.length c1, .slice A2 F.c.length c2, .slice A3 F.f.length c3, .slice A4 F.b.length c4] 86)) w') => box4 g)
  have hs1 : (w.alloc (.cells #[.slice A1 F.r.length c1, .slice A2 F.c.length c2, .slice A3 F.f.length c3, .slice A4 F.b.length c4] 86)).heap.size = w.heap.size + 1 := by simp
  generalize w.alloc (.cells #[.slice A1 F.r.length c1, .slice A2 F.c.length c2, .slice A3 F.f.length c3, .slice A4 F.b.length c4] 86) = w1 at *
  have HL := hide (fun (w' : World) (g : Gr (w1.alloc (.cells #[.slice A1 F.r.length c1, .slice A2 F.c.length c2, .slice A3 F.f.length c3] 22)) w') => (HLL.out w1 g0).gr g)
  have g01 : Gr w1 (w1.alloc (.cells #[.slice A1 F.r.length c1, .slice A2 F.c.length c2, .slice A3 F.f.length c3] 22)) := Gr.alloc (Gr.refl _) _
  rw [hs1] at HL
  obtain ⟨B, hB⟩ : ∃ B, B = w.heap.size + 1 := ⟨_, rfl⟩
  rw [← hB] at HL
  simp only [← hB]
  generalize w1.alloc (.cells #[.slice A1 F.r.length c1, .slice A2 F.c.length c2, .slice A3 F.f.length c3] 22) = w2 at *
  have g02 := g0.trans g01
  clear hB HLL hs1
  go_loopw [19] (fun i wr => ∃ k : Nat, k ≤ L.length ∧ i = iv k ∧ Gr w2 wr ∧ Hid (∀ (j : Nat) (x : RS), j < k → L[j]? = some x → x.l.all vrR = true)) (fun i _ => L.length - (intOf i).toNat)
  case atStart => exact ⟨0, by omega, rfl, Gr.refl _, hide (fun j r h => absurd h (Nat.not_lt_zero j))⟩
  case round =>
    obtain ⟨k, hk, rfl, g, HS⟩ := hrel
    have hl3 := HL3.out
    by_cases hkl : k < L.length
    · obtain ⟨x, hx⟩ : ∃ x, L[k]? = some x := ⟨_, List.getElem?_eq_getElem hkl⟩
      obtain ⟨b, o, hA0, x0, hxl⟩ := (HL.out _ g).at_ hx
      cases hA0
      rw [Nat.zero_add] at x0
      have HX := hide hx
      have HXL := hide hxl
      have hk0 : (0 : Int) ≤ (k : Int) := by omega
      have hk1 : (k : Int) < (3 : Int) := by omega
      have hk1' : decide ((k : Int) < 3) = true := by simpa using hk1
      have hk2 : k < 3 := by omega
      have n3 := hxl.cap
      have n4 := hxl.capB
      clear hx hxl hl3
      go_wp2
      obtain ⟨wo, rfl⟩ : ∃ wo : World, wo = wr := ⟨_, rfl⟩
      go_loopw [25] (fun i wr => ∃ j : Nat, j ≤ x.l.length ∧ i = iv j ∧ Gr wo wr ∧ Hid (∀ (i : Nat) (r : Rc), i < j → x.l[i]? = some r → vrR r = true)) (fun i _ => x.l.length - (intOf i).toNat)
      case atStart => exact ⟨0, by omega, rfl, Gr.refl _, hide (fun j r h => absurd h (Nat.not_lt_zero j))⟩
      case round =>
        obtain ⟨j, hj, rfl, g2, HT⟩ := hrel
        by_cases hjl : j < x.l.length
        · obtain ⟨r, hr⟩ : ∃ r, x.l[j]? = some r := ⟨_, List.getElem?_eq_getElem hjl⟩
          obtain ⟨b2, o2, hA, y0, y1, y2, y3⟩ := (HXL.out.gr g2).at_ hr
          have HA := hide hA
          have HR := hide hr
          have hj0 : (0 : Int) ≤ (j : Int) := by omega
          have hj1 : (j : Int) < (x.l.length : Int) := by omega
          have HI := hide (fun w' => ValidRect_any r.x r.y r.w r.h w')
          rw [show vrB r.x r.y r.w r.h = vrR r from rfl] at HI
          clear hr
          rw [hA]
          clear hA
          cases hv : vrR r with
          | true =>
            have HT2 := hide (more (Q := fun r => vrR r = true) HT.out HR.out hv)
            rw [hv] at HI
            clear hv
            go_wp2_with (first | (go_at_call 90; refine (HI.out _).mono ?_; rintro e w1 ⟨rfl, g1⟩; obtain ⟨X1, Y1, c1, f1⟩ := g1.use))
            go_roundw
            case rel => exact ⟨j + 1, by omega, by go_num, g2.trans (by with_reducible repeat (first | exact Gr.refl _ | assumption | refine Gr.alloc ?_ _ | refine Gr.drewN ?_ _ | refine Gr.drew ?_ | refine Gr.setCell ?_ (by first | (dsimp only; omega) | (simp only [World.size_alloc]; omega) | (refine Gr.size ?_; (repeat (first | exact Gr.refl _ | assumption | refine Gr.alloc ?_ _ | refine Gr.drewN ?_ _ | refine Gr.drew ?_ | refine Gr.trans ?_ (by assumption))); done)) _ | refine Gr.trans ?_ (by assumption))), HT2⟩
            case measure => simp only [intOf]; omega
          | false =>
            have HE := hide (show lmB F = false by
              rw [HLM.out, all_no HX.out (p := fun x : RS => x.l.all vrR) (all_no HR.out hv)]
              rfl)
            rw [hv] at HI
            clear hv
            go_wp2_with (first | (go_at_call 90; refine (HI.out _).mono ?_; rintro e w1 ⟨rfl, g1⟩; obtain ⟨X1, Y1, c1, f1⟩ := g1.use))
            go_ret
            exact ⟨ret_bool HE.out.symm, (g02.trans g).trans (g2.trans (by with_reducible repeat (first | exact Gr.refl _ | assumption | refine Gr.alloc ?_ _ | refine Gr.drewN ?_ _ | refine Gr.drew ?_ | refine Gr.setCell ?_ (by first | (dsimp only; omega) | (simp only [World.size_alloc]; omega) | (refine Gr.size ?_; (repeat (first | exact Gr.refl _ | assumption | refine Gr.alloc ?_ _ | refine Gr.drewN ?_ _ | refine Gr.drew ?_ | refine Gr.trans ?_ (by assumption))); done)) _ | refine Gr.trans ?_ (by assumption))))⟩
        · obtain rfl : j = x.l.length := by omega
          have hj1 : ¬ ((x.l.length : Int) < (x.l.length : Int)) := by omega
          have HS2 := hide (more (Q := fun x => x.l.all vrR = true) HS.out HX.out (all_yes HT.out))
          go_wp2
          go_roundw
          case rel => exact ⟨k + 1, by omega, by go_num, g.trans g2, HS2⟩
          case measure => simp only [intOf]; omega
    · obtain rfl : k = L.length := by omega
      have HLA := hide (show lmB F = F.b.all bdB by rw [HLM.out, all_yes (p := fun x : RS => x.l.all vrR) HS.out, Bool.true_and])
      obtain ⟨s1, b0, b1, b2, b3⟩ := HB4.out _ (g01.trans g)
      have hk1 : ¬ ((L.length : Int) < (3 : Int)) := by omega
      have hk1' : decide ((L.length : Int) < 3) = false := by simpa using hk1
      clear HS HLM HB4 hl3
      go_wp2
      obtain ⟨w3, rfl⟩ : ∃ w0 : World, w0 = wr := ⟨_, rfl⟩
      have g03 := g02.trans g
      clear b0 b1 b2 b3 s1 g hk1 hk1'
      go_loopw [37] (fun i wr => ∃ k : Nat, k ≤ F.b.length ∧ i = iv k ∧ Gr w3 wr ∧ Hid (∀ (j : Nat) (x : Bd), j < k → F.b[j]? = some x → bdB x = true)) (fun i _ => F.b.length - (intOf i).toNat)
      case atStart => exact ⟨0, by omega, rfl, Gr.refl _, hide (fun j r h => absurd h (Nat.not_lt_zero j))⟩
      case round =>
        obtain ⟨k, hk, rfl, g, HS⟩ := hrel
        by_cases hkl : k < F.b.length
        · obtain ⟨x, hx⟩ : ∃ x, F.b[k]? = some x := ⟨_, List.getElem?_eq_getElem hkl⟩
          obtain ⟨b2, o2, hA, y0, y1, y2, y3, y4, y5, y6, y7⟩ := (HF.out.b.gr (g03.trans g)).at_ hx
          have HA := hide hA
          have HX := hide hx
          have hk0 : (0 : Int) ≤ (k : Int) := by omega
          have hk1 : (k : Int) < (F.b.length : Int) := by omega
          have s3 : IntKind.i64.wrap ((k : Int) + 1) = (k : Int) + 1 := IntWalk.i64_in _ (by omega)
          rw [hA]
          clear hx hA
          go_wp2
          obtain ⟨wo, rfl⟩ : ∃ wo : World, wo = wr := ⟨_, rfl⟩
          have gz : Gr wo (wo.alloc (.cells #[iv x.f, iv x.p, iv x.a, iv x.b, iv x.c, iv x.d, iv x.n, iv x.e] 185)) := Gr.alloc (Gr.refl _) _
          have HSI := hide (sli_4 (wo.alloc (.cells #[iv x.f, iv x.p, iv x.a, iv x.b, iv x.c, iv x.d, iv x.n, iv x.e] 185)) x.a x.b x.c x.d 3)
          have gy : Gr wo ((wo.alloc (.cells #[iv x.f, iv x.p, iv x.a, iv x.b, iv x.c, iv x.d, iv x.n, iv x.e] 185)).alloc (.cells #[iv x.a, iv x.b, iv x.c, iv x.d] 3)) := Gr.alloc gz _
          simp only [World.size_alloc] at HSI
          generalize (wo.alloc (.cells #[iv x.f, iv x.p, iv x.a, iv x.b, iv x.c, iv x.d, iv x.n, iv x.e] 185)).alloc (.cells #[iv x.a, iv x.b, iv x.c, iv x.d] 3) = w4 at *
          obtain ⟨ns, hns⟩ : ∃ ns, [x.a, x.b, x.c, x.d] = ns := ⟨_, rfl⟩
          have HNS := hide (show bdB x = ns.all (fun n => wiB n (-1048576) 1048576) by rw [← hns]; rfl)
          have hn4 : ns.length = 4 := by rw [← hns]; rfl
          have HN4 := hide hn4
          rw [hns] at HSI
          clear hns hn4 y0 y1 y2 y3 y4 y5 y6 y7 gz
          go_loopw [55] (fun i wr => ∃ j : Nat, j ≤ ns.length ∧ i = iv j ∧ Gr w4 wr ∧ Hid (∀ (i : Nat) (r : Int), i < j → ns[i]? = some r → wiB r (-1048576) 1048576 = true)) (fun i _ => ns.length - (intOf i).toNat)
          case atStart => exact ⟨0, by omega, rfl, Gr.refl _, hide (fun j r h => absurd h (Nat.not_lt_zero j))⟩
          case round =>
            obtain ⟨j, hj, rfl, g2, HT⟩ := hrel
            have hn4 := HN4.out
            by_cases hjl : j < ns.length
            · obtain ⟨r, hr⟩ : ∃ r, ns[j]? = some r := ⟨_, List.getElem?_eq_getElem hjl⟩
              obtain ⟨_, _, hA, y0⟩ := (HSI.out.gr g2).rd.in_ hr
              cases hA
              rw [Nat.zero_add] at y0
              have HR := hide hr
              have hj0 : (0 : Int) ≤ (j : Int) := by omega
              have hj1 : (j : Int) < (4 : Int) := by omega
              have hj1' : decide ((j : Int) < 4) = true := by simpa using hj1
              have hj2 : j < 4 := by omega
              have HI := hide (fun w' => fwithin_any r (-1048576) 1048576 w')
              clear hr hn4
              cases hv : wiB r (-1048576) 1048576 with
              | true =>
                have HT2 := hide (more (Q := fun r => wiB r (-1048576) 1048576 = true) HT.out HR.out hv)
                rw [hv] at HI
                clear hv
                go_wp2_with (first | (go_at_call 126; refine (HI.out _).mono ?_; rintro e w1 ⟨rfl, rfl⟩))
                go_roundw
                case rel => exact ⟨j + 1, by omega, by go_num, g2, HT2⟩
                case measure => simp only [intOf]; omega
              | false =>
                have HE := hide (show lmB F = false by
                  rw [HLA.out]
                  exact all_no HX.out (by rw [HNS.out]; exact all_no HR.out hv))
                rw [hv] at HI
                clear hv
                go_wp2_with (first | (go_at_call 126; refine (HI.out _).mono ?_; rintro e w1 ⟨rfl, rfl⟩))
                go_ret
                exact ⟨ret_bool HE.out.symm, (g03.trans g).trans (gy.trans g2)⟩
            · obtain rfl : j = ns.length := by omega
              have hj1 : ¬ ((ns.length : Int) < (4 : Int)) := by omega
              have hj1' : decide ((ns.length : Int) < 4) = false := by simpa using hj1
              have HS2 := hide (more (Q := fun x => bdB x = true) HS.out HX.out (by rw [HNS.out]; exact all_yes HT.out))
              clear hn4
              go_wp2
              go_roundw
              case rel => exact ⟨k + 1, by omega, by go_num, g.trans (gy.trans g2), HS2⟩
              case measure => simp only [intOf]; omega
        · obtain rfl : k = F.b.length := by omega
          have hk1 : ¬ ((F.b.length : Int) < (F.b.length : Int)) := by omega
          have HE := hide (show lmB F = true by rw [HLA.out]; exact all_yes HS.out)
          go_wp2
          go_ret
          exact ⟨ret_bool HE.out.symm, g03.trans g⟩
/-- the error of a pattern -/
def chE (F : Pat) : Int := if (1 ≤ F.r.length ∧ F.r.length ≤ 48) ∧ F.c.length ≤ 48 ∧ F.f.length ≤ 48 ∧ lmB F = true then 0 else 1
end RG
end Go.Proofs.YtddhaiaapomdjaaGreat
set_option linter.unusedVariables false
set_option linter.unusedSimpArgs false
namespace Go.Proofs.YtddhaiaapomdjaaGreat
set_option linter.unusedVariables false
set_option linter.unusedSimpArgs false
open Go Go.ChangeShapes Go.WideShapes Go.ChangeAt Go.RowKit Go.Deep

namespace RG
/-- a column of cells where it lies -/
structure RwO where
  A : Option Addr
  q : Nat
  l : List Bool
abbrev roL (x : RwO) : List Value := [.slice x.A x.l.length x.q]
structure Rwo (w : World) (lo : Nat) (F : Option Addr) (f : Nat) (xs : List RwO) : Prop where
  own : OwnL w lo 72 1 roL (.slice F xs.length f) xs
  el : ∀ x ∈ xs, RdL w 1 boL x.A x.l ∧ x.l.length ≤ x.q ∧ x.q ≤ 9223372036854775807
  far : ∀ x ∈ xs, ∀ a, x.A = some a → lo ≤ a.block ∧ a.block < w.heap.size ∧ (Value.slice F xs.length f).ownBlock ≠ some a.block
  ne : xs.Pairwise fun x y => ∀ a b, x.A = some a → y.A = some b → a.block ≠ b.block
  fz : ∀ x ∈ xs, ∀ a, x.A = some a → ∀ o, w.frozen? ⟨a.block, o, none⟩ = false
theorem own_fz {α : Type} {c : α → List Value} {w : World} {base : Nat} {e : TypeId} {k n d : Nat} {A : Option Addr} {xs : List α} (h : OwnL w base e k c (.slice A n d) xs) : ∀ x, A = some x → ∀ o, w.frozen? ⟨x.block, o, none⟩ = false := by
  intro x hx o
  subst hx
  obtain ⟨h0, h1 | ⟨b, cap, cur, h1, hb, h2, _⟩⟩ := id h
  · cases h1.1
  · injection h1 with e1 e2 e3
    injection e1 with e1
    subst e1
    unfold World.frozen?
    simp only [h2]
    simp
theorem own_lt' {α : Type} {c : α → List Value} {w : World} {base : Nat} {e : TypeId} {k n d : Nat} {A : Option Addr} {xs : List α} (h : OwnL w base e k c (.slice A n d) xs) : ∀ x, A = some x → x.block < w.heap.size := by
  intro x hx
  subst hx
  obtain ⟨h0, h1 | ⟨b, cap, cur, h1, hb, h2, _⟩⟩ := id h
  · cases h1.1
  · injection h1 with e1 e2 e3
    injection e1 with e1
    subst e1
    exact (Array.getElem?_eq_some_iff.1 h2).1
/-- one column more -/
theorem Rwo.next {w w1 w2 w8 : World} {lo : Nat} {F : Option Addr} {f gg cap k : Nat} {xs ys : List RwO} {y : RwO} (h : Rwo w lo F f xs) (hk : xs.length = k) (g : Gr w w1) (hy : OwnL w1 w.heap.size 4 1 boL (.slice y.A y.l.length y.q) y.l) (hlo : lo ≤ w.heap.size) (g2 : Gr w1 w2) (hys : xs ++ [y] = ys)
    (ho : OwnL w8 lo 72 1 roL (.slice (some ⟨gg, 0, none⟩) ys.length cap) ys) (hg : w2.grownBy w8 (Value.slice F k f).ownBlock) (hat : (Value.slice F k f).ownBlock = some gg ∨ gg = w2.heap.size) :
    Rwo w8 lo (some ⟨gg, 0, none⟩) cap ys := by
  subst hk
  have hF := fun k hk => World.ownsRow.lt h.own k hk
  have hge := own_ge hy
  have hlt := own_lt' hy
  have s1 := g.size
  have s2 := g2.size
  have s8 := hg.size
  have hny : ∀ a, y.A = some a → some a.block ≠ (Value.slice F xs.length f).ownBlock := fun a ha e => by
    have := (hF _ e.symm).2
    have := hge a ha
    omega
  have rdk : ∀ {A : Option Addr} {l : List Bool}, RdL w2 1 boL A l → (∀ a, A = some a → a.block < w2.heap.size ∧ some a.block ≠ (Value.slice F xs.length f).ownBlock) → RdL w8 1 boL A l := fun h0 hh =>
    rdl_keep h0 fun x hx o => hg.cell_far ⟨x.block, o, none⟩ (hh x hx).1 (hh x hx).2
  refine ⟨ho, fun x hx => ?_, fun x hx a ha => ?_, ?_, fun x hx a ha o => ?_⟩
  rotate_left 2
  · rw [← hys, List.pairwise_append]
    refine ⟨h.ne, List.pairwise_singleton _ _, fun x hx z hz a b ha hb => ?_⟩
    rw [List.mem_singleton] at hz
    subst hz
    have q1 := (h.far x hx a ha).2.1
    have q2 := hge b hb
    omega
  · rw [← hys] at hx
    rcases List.mem_append.1 hx with hx | hx
    · have q := h.far x hx a ha
      rw [hg.frozen_far ⟨a.block, o, none⟩ (show a.block < w2.heap.size by omega) (fun e => q.2.2 e.symm), (g.trans g2).frozen _ _ q.2.1]
      exact h.fz x hx a ha o
    · rw [List.mem_singleton] at hx
      subst hx
      have q := hlt a ha
      rw [hg.frozen_far ⟨a.block, o, none⟩ (show a.block < w2.heap.size by omega) (hny a ha), g2.frozen _ _ q]
      exact own_fz hy a ha o
  · rw [← hys] at hx
    rcases List.mem_append.1 hx with hx | hx
    · obtain ⟨k1, k2, k3⟩ := h.el x hx
      refine ⟨rdk (k1.gr (g.trans g2)) fun a ha => ?_, k2, k3⟩
      have := h.far x hx a ha
      exact ⟨by omega, fun e => this.2.2 e.symm⟩
    · rw [List.mem_singleton] at hx
      subst hx
      obtain ⟨_, h1, h2, h3⟩ := OwnL.rd (c := boL) (fun _ => rfl) hy
      refine ⟨rdk (h1.gr g2) fun a ha => ?_, h2, by unfold maxLen at h3; omega⟩
      exact ⟨by have := hlt a ha; omega, hny a ha⟩
  · have e1 : (Value.slice (some ⟨gg, 0, none⟩) ys.length cap).ownBlock = some gg := rfl
    rw [e1]
    rw [← hys] at hx
    have key : lo ≤ a.block ∧ a.block < w2.heap.size ∧ some a.block ≠ (Value.slice F xs.length f).ownBlock := by
      rcases List.mem_append.1 hx with hx | hx
      · have := h.far x hx a ha
        exact ⟨this.1, by omega, fun e => this.2.2 e.symm⟩
      · rw [List.mem_singleton] at hx
        subst hx
        exact ⟨by have := hge a ha; omega, by have := hlt a ha; omega, hny a ha⟩
    refine ⟨key.1, by omega, fun e => ?_⟩
    have e' : gg = a.block := Option.some.inj e
    rcases hat with q | q
    · exact key.2.2 (by rw [q, e'])
    · omega
theorem Rwo.set {w : World} {lo : Nat} {F : Option Addr} {f : Nat} {xs : List RwO} (h : Rwo w lo F f xs) {S : Nat} (hS : S < lo) (i : Nat) (v : Value) : Rwo (w.setCell ⟨S, i, none⟩ v) lo F f xs := by
  have hb : ∀ b, b ≠ S → (w.setCell ⟨S, i, none⟩ v).heap[b]? = w.heap[b]? := fun b hb => heap_setCell_other w ⟨S, i, none⟩ b v (fun e => hb (by simpa using e))
  refine ⟨?_, fun x hx => ?_, fun x hx a ha => ?_, h.ne, fun x hx a ha o => by have := h.fz x hx a ha o; simpa [go_sem] using this⟩
  · obtain ⟨h0, h1 | ⟨b, cap, cur, h1, hb', h2, h3⟩⟩ := id h.own
    · exact ⟨h0, .inl h1⟩
    · exact ⟨h0, .inr ⟨b, cap, cur, h1, hb', (hb b (by omega)).trans h2, h3⟩⟩
  · obtain ⟨k1, k2⟩ := h.el x hx
    refine ⟨rdl_keep k1 fun a ha o => World.cell?_of_block (hb _ fun e => ?_), k2⟩
    have := (h.far x hx a ha).1
    have e' : a.block = S := e
    omega
  · obtain ⟨k1, k2, k3⟩ := h.far x hx a ha
    exact ⟨k1, by simpa using k2, k3⟩
theorem Rwo.gr {w w' : World} {lo : Nat} {F : Option Addr} {f : Nat} {xs : List RwO} (h : Rwo w lo F f xs) (g : Gr w w') : Rwo w' lo F f xs :=
  ⟨h.own.gr g, fun x hx => ⟨(h.el x hx).1.gr g, (h.el x hx).2⟩, fun x hx a ha => ⟨(h.far x hx a ha).1, Nat.lt_of_lt_of_le (h.far x hx a ha).2.1 g.size, (h.far x hx a ha).2.2⟩, h.ne, fun x hx a ha o => (g.frozen _ _ (h.far x hx a ha).2.1).trans (h.fz x hx a ha o)⟩
/-- the document's grid, read -/
structure GrO (w : World) (X Y : List Int) (A B F : Option Addr) (a b f n : Nat) (R : Nat → Option Addr) (q : Nat → Nat) (c : Nat → Nat → Bool) : Prop where
  sx : SlI w A a X
  sy : SlI w B b Y
  hn : n = X.length - 1
  rows : ∀ i, i < n → ∃ bF, F = some ⟨bF, 0, none⟩ ∧ w.cell? ⟨bF, i, none⟩ = some (.slice (R i) (Y.length - 1) (q i))
  col : ∀ i j, i < n → j < Y.length - 1 → ∃ bR oR, R i = some ⟨bR, oR, none⟩ ∧ w.cell? ⟨bR, oR + j, none⟩ = some (.bool (c i j))
  cq : ∀ i, i < n → Y.length - 1 ≤ q i ∧ q i ≤ 9223372036854775807
  cf : n ≤ f
  cfB : f ≤ 9223372036854775807
  n1 : X.length ≤ 1000
  n2 : Y.length ≤ 1000
theorem GrO.gr {w w' : World} {X Y : List Int} {A B F : Option Addr} {a b f n : Nat} {R : Nat → Option Addr} {q : Nat → Nat} {c : Nat → Nat → Bool} (h : GrO w X Y A B F a b f n R q c) (g : Gr w w') : GrO w' X Y A B F a b f n R q c :=
  ⟨h.sx.gr g, h.sy.gr g, h.hn, fun i hi => by
    obtain ⟨bF, e, k⟩ := h.rows i hi
    exact ⟨bF, e, (g.cell _ _ (cell_lt (by rw [k]; rfl))).trans k⟩, fun i j hi hj => by
    obtain ⟨bR, oR, e, k⟩ := h.col i j hi hj
    exact ⟨bR, oR, e, (g.cell _ _ (cell_lt (by rw [k]; rfl))).trans k⟩, h.cq, h.cf, h.cfB, h.n1, h.n2⟩
/-- each block of a grid's parts that are read has the property -/
def Fr (A B F : Option Addr) (X Y : List Int) (n : Nat) (R : Nat → Option Addr) (Q : Nat → Prop) : Prop :=
  (X ≠ [] → ∀ x, A = some x → Q x.block) ∧ (Y ≠ [] → ∀ x, B = some x → Q x.block) ∧ (0 < n → ∀ x, F = some x → Q x.block) ∧ ∀ i, i < n → 0 < Y.length - 1 → ∀ a, R i = some a → Q a.block
/-- a grid's columns are the call's own, each in a block of its own, apart from the rest -/
def Ow (w : World) (A B F : Option Addr) (X Y : List Int) (n : Nat) (R : Nat → Option Addr) : Prop :=
  ∀ i, i < n → ∀ a, R i = some a → (∀ o, w.frozen? ⟨a.block, o, none⟩ = false) ∧ (X ≠ [] → ∀ x, A = some x → x.block ≠ a.block) ∧ (Y ≠ [] → ∀ x, B = some x → x.block ≠ a.block) ∧ (∀ x, F = some x → x.block ≠ a.block) ∧ ∀ k, k < n → k ≠ i → ∀ b, R k = some b → b.block ≠ a.block
end RG
end Go.Proofs.YtddhaiaapomdjaaGreat
set_option linter.unusedVariables false
set_option linter.unusedSimpArgs false
namespace Go.Proofs.YtddhaiaapomdjaaGreat
set_option linter.unusedVariables false
set_option linter.unusedSimpArgs false
open Go Go.ChangeShapes Go.WideShapes Go.ChangeAt Go.RowKit Go.Deep

namespace RG
end RG
end Go.Proofs.YtddhaiaapomdjaaGreat
set_option linter.unusedVariables false
set_option linter.unusedSimpArgs false
namespace Go.Proofs.YtddhaiaapomdjaaGreat
set_option linter.unusedVariables false
set_option linter.unusedSimpArgs false
open Go Go.ChangeShapes Go.WideShapes Go.ChangeAt Go.RowKit Go.Deep

namespace RG
theorem ch_no {F : Pat} (h : ¬ ((1 ≤ F.r.length ∧ F.r.length ≤ 48) ∧ F.c.length ≤ 48 ∧ F.f.length ≤ 48 ∧ lmB F = true)) : chE F = 1 := if_neg h
theorem ch_yes {F : Pat} (h : chE F = 0) : (1 ≤ F.r.length ∧ F.r.length ≤ 48) ∧ F.c.length ≤ 48 ∧ F.f.length ≤ 48 ∧ lmB F = true := by
  unfold chE at h
  split at h
  · assumption
  · cases h
theorem ch_01 (F : Pat) : chE F = 0 ∨ chE F = 1 := by
  unfold chE
  split
  · exact .inl rfl
  · exact .inr rfl
theorem lm_in {F : Pat} (h : lmB F = true) : (∀ r ∈ F.r, InM 1048576 r) ∧ (∀ r ∈ F.c, InM 1048576 r) ∧ (∀ r ∈ F.f, InM 1048576 r) ∧ ∀ x ∈ F.b, bdB x = true := by
  unfold lmB at h
  simp only [Bool.and_eq_true, List.all_eq_true] at h
  exact ⟨fun r hr => vrR_iff.1 (h.1.1.1 r hr), fun r hr => vrR_iff.1 (h.1.1.2 r hr), fun r hr => vrR_iff.1 (h.1.2 r hr), h.2⟩
set_option maxHeartbeats 4000000 in
set_option maxRecDepth 100000 in
theorem check_any (A1 A2 A3 A4 : Option Addr) (c1 c2 c3 c4 : Nat) (F : Pat) (w : World) (hF : PatW w A1 c1 A2 c2 A3 c3 A4 c4 F) :
    Calls Tryz.prog 85 #[ptv A1 F.r.length c1 A2 F.c.length c2 A3 F.f.length c3 A4 F.b.length c4] w fun e w' => e = .returned (iv (chE F)) ∧ Gr w w' := by
  have HI := hide (fun (w' : World) (g : Gr w w') => inLimits_any A1 A2 A3 A4 c1 c2 c3 c4 F w' (hF.gr g))
  have HW := hide (fun w' => fwithin_any (F.r.length : Int) 1 48 w')
  have n1 := hF.r.cap
  have n2 := hF.r.capB
  have n3 := hF.c.cap
  have n4 := hF.c.capB
  have n5 := hF.f.cap
  have n6 := hF.f.capB
  clear hF
  by_cases h1 : 1 ≤ F.r.length ∧ F.r.length ≤ 48
  case neg =>
    have HE := hide (ch_no (F := F) fun h => h1 h.1)
    have e1 : wiB (F.r.length : Int) 1 48 = false := by
      cases hh : wiB (F.r.length : Int) 1 48 with
      | false => rfl
      | true => rw [wiB_iff] at hh; omega
    rw [e1] at HW
    clear h1 e1
    go_enter Tryz.func85, Tryz.ntmps85
    go_wp2_with (first | (go_at_call 126; refine (HW.out _).mono ?_; rintro e w1 ⟨rfl, rfl⟩))
    go_ret
    exact ⟨ret_iv HE.out.symm, (by with_reducible repeat (first | exact Gr.refl _ | assumption | refine Gr.alloc ?_ _ | refine Gr.drewN ?_ _ | refine Gr.drew ?_ | refine Gr.setCell ?_ (by first | (dsimp only; omega) | (simp only [World.size_alloc]; omega) | (refine Gr.size ?_; (repeat (first | exact Gr.refl _ | assumption | refine Gr.alloc ?_ _ | refine Gr.drewN ?_ _ | refine Gr.drew ?_ | refine Gr.trans ?_ (by assumption))); done)) _ | refine Gr.trans ?_ (by assumption)))⟩
  case pos =>
  have e1 : wiB (F.r.length : Int) 1 48 = true := wiB_iff.2 (by omega)
  rw [e1] at HW
  clear e1
  by_cases h2 : F.c.length ≤ 48
  case neg =>
    have HE := hide (ch_no (F := F) fun h => h2 h.2.1)
    have e2 : decide ((48 : Int) < (F.c.length : Int)) = true := by simp only [decide_eq_true_iff]; omega
    have e2' : decide (48 < F.c.length) = true := by simp only [decide_eq_true_iff]; omega
    clear h1 h2
    go_enter Tryz.func85, Tryz.ntmps85
    go_wp2_with (first | (go_at_call 126; refine (HW.out _).mono ?_; rintro e w1 ⟨rfl, rfl⟩))
    go_ret
    exact ⟨ret_iv HE.out.symm, (by with_reducible repeat (first | exact Gr.refl _ | assumption | refine Gr.alloc ?_ _ | refine Gr.drewN ?_ _ | refine Gr.drew ?_ | refine Gr.setCell ?_ (by first | (dsimp only; omega) | (simp only [World.size_alloc]; omega) | (refine Gr.size ?_; (repeat (first | exact Gr.refl _ | assumption | refine Gr.alloc ?_ _ | refine Gr.drewN ?_ _ | refine Gr.drew ?_ | refine Gr.trans ?_ (by assumption))); done)) _ | refine Gr.trans ?_ (by assumption)))⟩
  case pos =>
  have e2 : decide ((48 : Int) < (F.c.length : Int)) = false := by simp only [decide_eq_false_iff_not]; omega
  have e2' : decide (48 < F.c.length) = false := by simp only [decide_eq_false_iff_not]; omega
  by_cases h3 : F.f.length ≤ 48
  case neg =>
    have HE := hide (ch_no (F := F) fun h => h3 h.2.2.1)
    have e3 : decide ((48 : Int) < (F.f.length : Int)) = true := by simp only [decide_eq_true_iff]; omega
    have e3' : decide (48 < F.f.length) = true := by simp only [decide_eq_true_iff]; omega
    clear h1 h2 h3
    go_enter Tryz.func85, Tryz.ntmps85
    go_wp2_with (first | (go_at_call 126; refine (HW.out _).mono ?_; rintro e w1 ⟨rfl, rfl⟩))
    go_ret
    exact ⟨ret_iv HE.out.symm, (by with_reducible repeat (first | exact Gr.refl _ | assumption | refine Gr.alloc ?_ _ | refine Gr.drewN ?_ _ | refine Gr.drew ?_ | refine Gr.setCell ?_ (by first | (dsimp only; omega) | (simp only [World.size_alloc]; omega) | (refine Gr.size ?_; (repeat (first | exact Gr.refl _ | assumption | refine Gr.alloc ?_ _ | refine Gr.drewN ?_ _ | refine Gr.drew ?_ | refine Gr.trans ?_ (by assumption))); done)) _ | refine Gr.trans ?_ (by assumption)))⟩
  case pos =>
  have e3 : decide ((48 : Int) < (F.f.length : Int)) = false := by simp only [decide_eq_false_iff_not]; omega
  have e3' : decide (48 < F.f.length) = false := by simp only [decide_eq_false_iff_not]; omega
  cases h4 : lmB F with
  | false =>
    have HE := hide (ch_no (F := F) fun h => by rw [h4] at h; cases h.2.2.2)
    rw [h4] at HI
    clear h1 h2 h3 h4
    go_enter Tryz.func85, Tryz.ntmps85
    go_wp2_with (first | (go_at_call 126; refine (HW.out _).mono ?_; rintro e w1 ⟨rfl, rfl⟩))
    refine (HI.out _ (Gr.alloc (Gr.refl _) _)).mono ?_
    rintro e w1 ⟨rfl, g1⟩
    go_wp2_with fail
    go_ret
    exact ⟨ret_iv HE.out.symm, (Gr.alloc (Gr.refl _) _).trans g1⟩
  | true =>
    have HE := hide (show chE F = 0 from if_pos ⟨h1, h2, h3, h4⟩)
    rw [h4] at HI
    clear h1 h2 h3 h4
    go_enter Tryz.func85, Tryz.ntmps85
    go_wp2_with (first | (go_at_call 126; refine (HW.out _).mono ?_; rintro e w1 ⟨rfl, rfl⟩))
    refine (HI.out _ (Gr.alloc (Gr.refl _) _)).mono ?_
    rintro e w1 ⟨rfl, g1⟩
    go_wp2_with fail
    go_ret
    exact ⟨ret_iv HE.out.symm, (Gr.alloc (Gr.refl _) _).trans g1⟩
end RG
end Go.Proofs.YtddhaiaapomdjaaGreat
set_option linter.unusedVariables false
set_option linter.unusedSimpArgs false
namespace Go.Proofs.YtddhaiaapomdjaaGreat
set_option linter.unusedVariables false
set_option linter.unusedSimpArgs false
open Go Go.ChangeShapes Go.WideShapes Go.ChangeAt Go.RowKit Go.Deep

namespace RG
end RG
end Go.Proofs.YtddhaiaapomdjaaGreat
set_option linter.unusedVariables false
set_option linter.unusedSimpArgs false
namespace Go.Proofs.YtddhaiaapomdjaaGreat
set_option linter.unusedVariables false
set_option linter.unusedSimpArgs false
open Go Go.ChangeShapes Go.WideShapes Go.ChangeAt Go.RowKit Go.Deep

namespace RG
def setB (c : Nat → Nat → Bool) (i j : Nat) (v : Bool) : Nat → Nat → Bool := fun p q => if p = i ∧ q = j then v else c p q
theorem sli_keep {w w' : World} {A : Option Addr} {a : Nat} {X : List Int} (h : SlI w A a X) (hk : X ≠ [] → ∀ x, A = some x → ∀ o, w'.cell? ⟨x.block, o, none⟩ = w.cell? ⟨x.block, o, none⟩) : SlI w' A a X := by
  by_cases hX : X = []
  · subst hX
    exact ⟨fun i x hx => by simp at hx, h.cap, h.capB⟩
  · exact ⟨rdl_keep h.rd (hk hX), h.cap, h.capB⟩
theorem GrO.keep {w w' : World} {X Y : List Int} {A B F : Option Addr} {a b f n : Nat} {R : Nat → Option Addr} {q : Nat → Nat} {c : Nat → Nat → Bool} (h : GrO w X Y A B F a b f n R q c) {Q : Nat → Prop} (hf : Fr A B F X Y n R Q) (hk : ∀ b o, Q b → w'.cell? ⟨b, o, none⟩ = w.cell? ⟨b, o, none⟩) : GrO w' X Y A B F a b f n R q c := by
  obtain ⟨f1, f2, f3, f4⟩ := hf
  refine ⟨sli_keep h.sx fun hX x hx o => hk _ _ (f1 hX x hx), sli_keep h.sy fun hX x hx o => hk _ _ (f2 hX x hx), h.hn, fun i hi => ?_, fun i j hi hj => ?_, h.cq, h.cf, h.cfB, h.n1, h.n2⟩
  · obtain ⟨bF, e, hc⟩ := h.rows i hi
    exact ⟨bF, e, (hk _ _ (f3 (by omega) _ e)).trans hc⟩
  · obtain ⟨bR, oR, e, hc⟩ := h.col i j hi hj
    exact ⟨bR, oR, e, (hk _ _ (f4 i hi (by omega) _ e)).trans hc⟩
theorem Fr.mono {A B F : Option Addr} {X Y : List Int} {n : Nat} {R : Nat → Option Addr} {Q Q' : Nat → Prop} (h : Fr A B F X Y n R Q) (k : ∀ b, Q b → Q' b) : Fr A B F X Y n R Q' :=
  ⟨fun hX x hx => k _ (h.1 hX x hx), fun hY x hx => k _ (h.2.1 hY x hx), fun hn x hx => k _ (h.2.2.1 hn x hx), fun i hi hy a ha => k _ (h.2.2.2 i hi hy a ha)⟩
theorem GrO.congr {w : World} {X Y : List Int} {A B F : Option Addr} {a b f n : Nat} {R : Nat → Option Addr} {q : Nat → Nat} {c d : Nat → Nat → Bool} (h : GrO w X Y A B F a b f n R q c) (e : ∀ i j, i < n → j < Y.length - 1 → c i j = d i j) : GrO w X Y A B F a b f n R q d :=
  ⟨h.sx, h.sy, h.hn, h.rows, fun i j hi hj => by rw [← e i j hi hj]; exact h.col i j hi hj, h.cq, h.cf, h.cfB, h.n1, h.n2⟩
theorem Ow.gr {w w' : World} {A B F : Option Addr} {X Y : List Int} {n : Nat} {R : Nat → Option Addr} (h : Ow w A B F X Y n R) (hs : ∀ i, i < n → ∀ a, R i = some a → a.block < w.heap.size) (g : Gr w w') : Ow w' A B F X Y n R := fun i hi a ha => by
  obtain ⟨h1, h2⟩ := h i hi a ha
  exact ⟨fun o => (g.frozen _ _ (hs i hi a ha)).trans (h1 o), h2⟩
theorem GrO.store {w : World} {X Y : List Int} {A B F : Option Addr} {a b f n : Nat} {R : Nat → Option Addr} {q : Nat → Nat} {c : Nat → Nat → Bool} (h : GrO w X Y A B F a b f n R q c) (o : Ow w A B F X Y n R) {i j bR oR : Nat} (hi : i < n) (hj : j < Y.length - 1) (hR : R i = some ⟨bR, oR, none⟩) (v : Bool) :
    GrO (w.setCell ⟨bR, oR + j, none⟩ (.bool v)) X Y A B F a b f n R q (setB c i j v) ∧ Ow (w.setCell ⟨bR, oR + j, none⟩ (.bool v)) A B F X Y n R := by
  have oth : ∀ b o, b ≠ bR → (w.setCell ⟨bR, oR + j, none⟩ (.bool v)).cell? ⟨b, o, none⟩ = w.cell? ⟨b, o, none⟩ := fun b o hb => World.cell?_of_block (heap_setCell_other w ⟨bR, oR + j, none⟩ b (.bool v) (fun e => hb (by simpa using e)))
  obtain ⟨o1, o2, o3, o4, o5⟩ := o i hi _ hR
  refine ⟨⟨sli_keep h.sx fun hX x hx o => oth _ _ (o2 hX x hx), sli_keep h.sy fun hX x hx o => oth _ _ (o3 hX x hx), h.hn, fun p hp => ?_, fun p s hp hs => ?_, h.cq, h.cf, h.cfB, h.n1, h.n2⟩, fun p hp a ha => ?_⟩
  · obtain ⟨bF, e, hc⟩ := h.rows p hp
    exact ⟨bF, e, (oth _ _ (o4 _ e)).trans hc⟩
  · obtain ⟨bP, oP, e, hc⟩ := h.col p s hp hs
    unfold setB
    by_cases e1 : p = i
    · subst e1
      rw [hR] at e
      cases e
      by_cases e2 : s = j
      · subst e2
        rw [if_pos ⟨rfl, rfl⟩]
        exact ⟨bR, oR, hR, World.cell?_setCell_same' _ _ _ (by rw [hc]; rfl)⟩
      · rw [if_neg (fun h => e2 h.2)]
        refine ⟨bR, oR, hR, ?_⟩
        rw [← hc]
        exact World.cell?_setCell_other (a := ⟨bR, oR + j, none⟩) (b := ⟨bR, oR + s, none⟩) (h := by intro h; injection h with _ h; omega) ..
    · rw [if_neg (fun h => e1 h.1)]
      exact ⟨bP, oP, e, (oth _ _ (o5 p hp e1 _ e)).trans hc⟩
  · obtain ⟨k1, k2⟩ := o p hp a ha
    exact ⟨fun o => by have := k1 o; simpa [go_sem] using this, k2⟩
end RG
end Go.Proofs.YtddhaiaapomdjaaGreat
set_option linter.unusedVariables false
set_option linter.unusedSimpArgs false
namespace Go.Proofs.YtddhaiaapomdjaaGreat
set_option linter.unusedVariables false
set_option linter.unusedSimpArgs false
open Go Go.ChangeShapes Go.WideShapes Go.ChangeAt Go.RowKit Go.Deep

namespace RG
/-- two grids side by side, the first one the call's own; their headers at B1 and B2 -/
structure Two (w0 wx : World) (X Y : List Int) (C1 C2 : Nat → Nat → Bool) (B1 B2 : Nat) (P1 P2 P3 : Option Addr) (p1 p2 p3 : Nat) (R : Nat → Option Addr) (q : Nat → Nat) (Q1 Q2 Q3 : Option Addr) (q1 q2 q3 : Nat) (R' : Nat → Option Addr) (q' : Nat → Nat) : Prop where
  g1 : GrO wx X Y P1 P2 P3 p1 p2 p3 (X.length - 1) R q C1
  o1 : 0 < Y.length - 1 → Ow wx P1 P2 P3 X Y (X.length - 1) R
  g2 : GrO wx X Y Q1 Q2 Q3 q1 q2 q3 (X.length - 1) R' q' C2
  f2 : Fr Q1 Q2 Q3 X Y (X.length - 1) R' (fun b => ∀ i, i < X.length - 1 → 0 < Y.length - 1 → ∀ a, R i = some a → b ≠ a.block)
  far : ∀ i, i < X.length - 1 → 0 < Y.length - 1 → ∀ a, R i = some a → w0.heap.size ≤ a.block ∧ a.block ≠ B1 ∧ a.block ≠ B2
  gr : Gr w0 wx
  l1 : B1 < wx.heap.size
  l2 : B2 < wx.heap.size
  h0 : wx.cell? ⟨B1, 0, none⟩ = some (.slice P1 X.length p1)
  h1 : wx.cell? ⟨B1, 1, none⟩ = some (.slice P2 Y.length p2)
  h2 : wx.cell? ⟨B1, 2, none⟩ = some (.slice P3 (X.length - 1) p3)
  k2 : wx.cell? ⟨B2, 2, none⟩ = some (.slice Q3 (X.length - 1) q3)
/-- the blocks from lo to hi are as they were -/
structure Kp (lo hi : Nat) (w w' : World) : Prop where
  cell : ∀ b o, lo ≤ b → b < hi → w'.cell? ⟨b, o, none⟩ = w.cell? ⟨b, o, none⟩
  fz : ∀ b o, lo ≤ b → b < hi → w'.frozen? ⟨b, o, none⟩ = w.frozen? ⟨b, o, none⟩
theorem Kp.refl {lo hi : Nat} (w : World) : Kp lo hi w w := ⟨fun _ _ _ _ => rfl, fun _ _ _ _ => rfl⟩
theorem Kp.gr {lo hi : Nat} {w w' w'' : World} (h : Kp lo hi w w') (g : Gr w' w'') (hs : hi ≤ w'.heap.size) : Kp lo hi w w'' :=
  ⟨fun b o h1 h2 => (g.cell _ _ (by omega)).trans (h.cell b o h1 h2), fun b o h1 h2 => (g.frozen _ _ (by omega)).trans (h.fz b o h1 h2)⟩
theorem Kp.alloc {lo hi : Nat} {w w' : World} (h : Kp lo hi w w') (hs : hi ≤ w'.heap.size) (x : Obj) : Kp lo hi w (w'.alloc x) := h.gr (Gr.alloc (Gr.refl _) _) hs
theorem Kp.drew {lo hi : Nat} {w w' : World} (h : Kp lo hi w w') : Kp lo hi w w'.drew := ⟨fun b o h1 h2 => by simp [go_sem, h.cell b o h1 h2], fun b o h1 h2 => by simp [go_sem, h.fz b o h1 h2]⟩
theorem Kp.setCell {lo hi B i : Nat} {w w' : World} (h : Kp lo hi w w') (hs : B < lo ∨ hi ≤ B) (v : Value) : Kp lo hi w (w'.setCell ⟨B, i, none⟩ v) := by
  refine ⟨fun b o h1 h2 => ?_, fun b o h1 h2 => ?_⟩
  · exact (World.cell?_of_block (heap_setCell_other w' ⟨B, i, none⟩ b v (fun e => by simp at e; omega))).trans (h.cell b o h1 h2)
  · have : b ≠ B := by omega
    simp [go_sem, h.fz b o h1 h2, this]
theorem Fr.and {A B F : Option Addr} {X Y : List Int} {n : Nat} {R : Nat → Option Addr} {Q Q' : Nat → Prop} (h : Fr A B F X Y n R Q) (k : Fr A B F X Y n R Q') : Fr A B F X Y n R (fun b => Q b ∧ Q' b) :=
  ⟨fun hX x hx => ⟨h.1 hX x hx, k.1 hX x hx⟩, fun hY x hx => ⟨h.2.1 hY x hx, k.2.1 hY x hx⟩, fun hn x hx => ⟨h.2.2.1 hn x hx, k.2.2.1 hn x hx⟩, fun i hi hy a ha => ⟨h.2.2.2 i hi hy a ha, k.2.2.2 i hi hy a ha⟩⟩
theorem Two.congr {w0 wx : World} {X Y : List Int} {c d C2 : Nat → Nat → Bool} {B1 B2 : Nat} {P1 P2 P3 : Option Addr} {p1 p2 p3 : Nat} {R : Nat → Option Addr} {q : Nat → Nat} {Q1 Q2 Q3 : Option Addr} {q1 q2 q3 : Nat} {R' : Nat → Option Addr} {q' : Nat → Nat}
    (h : Two w0 wx X Y c C2 B1 B2 P1 P2 P3 p1 p2 p3 R q Q1 Q2 Q3 q1 q2 q3 R' q') (e : ∀ i j, i < X.length - 1 → j < Y.length - 1 → c i j = d i j) : Two w0 wx X Y d C2 B1 B2 P1 P2 P3 p1 p2 p3 R q Q1 Q2 Q3 q1 q2 q3 R' q' :=
  ⟨h.g1.congr e, h.o1, h.g2, h.f2, h.far, h.gr, h.l1, h.l2, h.h0, h.h1, h.h2, h.k2⟩
theorem Two.store {w0 wx : World} {X Y : List Int} {c C2 : Nat → Nat → Bool} {B1 B2 : Nat} {P1 P2 P3 : Option Addr} {p1 p2 p3 : Nat} {R : Nat → Option Addr} {q : Nat → Nat} {Q1 Q2 Q3 : Option Addr} {q1 q2 q3 : Nat} {R' : Nat → Option Addr} {q' : Nat → Nat}
    (h : Two w0 wx X Y c C2 B1 B2 P1 P2 P3 p1 p2 p3 R q Q1 Q2 Q3 q1 q2 q3 R' q') {i j bR oR : Nat} (hi : i < X.length - 1) (hj : j < Y.length - 1) (hR : R i = some ⟨bR, oR, none⟩) :
    Two w0 (wx.setCell ⟨bR, oR + j, none⟩ (.bool false)) X Y (setB c i j false) C2 B1 B2 P1 P2 P3 p1 p2 p3 R q Q1 Q2 Q3 q1 q2 q3 R' q' := by
  have oth : ∀ b o, b ≠ bR → (wx.setCell ⟨bR, oR + j, none⟩ (.bool false)).cell? ⟨b, o, none⟩ = wx.cell? ⟨b, o, none⟩ := fun b o hb => World.cell?_of_block (heap_setCell_other wx ⟨bR, oR + j, none⟩ b (.bool false) (fun e => hb (by simpa using e)))
  have hy : 0 < Y.length - 1 := by omega
  obtain ⟨s1, s2⟩ := h.g1.store (h.o1 hy) hi hj hR false
  obtain ⟨f1, f2, f3⟩ := h.far i hi hy _ hR
  refine ⟨s1, fun _ => s2, h.g2.keep h.f2 fun b o hb => oth b o (hb i hi hy _ hR), h.f2, h.far, Gr.setCell (p := ⟨bR, oR + j, none⟩) h.gr (show w0.heap.size ≤ bR from f1) _, by simpa using h.l1, by simpa using h.l2, (oth _ _ (Ne.symm f2)).trans h.h0, (oth _ _ (Ne.symm f2)).trans h.h1, (oth _ _ (Ne.symm f2)).trans h.h2, (oth _ _ (Ne.symm f3)).trans h.k2⟩
end RG
end Go.Proofs.YtddhaiaapomdjaaGreat
