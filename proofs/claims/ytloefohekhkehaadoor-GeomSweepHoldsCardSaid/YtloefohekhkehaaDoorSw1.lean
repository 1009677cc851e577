/-
  Spots in memory; slices of polygons of the call's own.
-/
import Derived.Test.YtloefohekhkehaaDoorHull2
import Derived.Test.YtloefohekhkehaaDoorMeet3
import Derived.Test.YtloefohekhkehaaDoorOpenPts
import Derived.Test.YtloefohekhkehaaDoorTurns2
set_option linter.unusedVariables false
set_option linter.unusedSimpArgs false
namespace Go.Proofs.YtloefohekhkehaaDoor
set_option linter.unusedVariables false
set_option linter.unusedSimpArgs false
open Go Go.ChangeShapes Go.WideShapes Go.ChangeAt Go.RowKit Go.Deep

abbrev Spt := Int × Int
/-- at the address A lie spots -/
def RdS (w : World) (A : Option Addr) (xs : List Spt) : Prop :=
  ∀ i p, xs[i]? = some p → ∃ b off, A = some ⟨b, off, none⟩ ∧ w.cell? ⟨b, off + i * 2, none⟩ = some (iv p.1) ∧ w.cell? ⟨b, off + i * 2 + 1, none⟩ = some (iv p.2)
theorem RdS.gr {a b : World} {A : Option Addr} {xs : List Spt} (h : RdS a A xs) (g : Gr a b) : RdS b A xs := by
  intro i p hp
  obtain ⟨k, off, e, h0, h1⟩ := h i p hp
  exact ⟨k, off, e, (g.cell _ _ (cell_lt (by rw [h0]; rfl))).trans h0, (g.cell _ _ (cell_lt (by rw [h1]; rfl))).trans h1⟩
set_option maxRecDepth 100000 in
theorem open_spots {base : Nat} {W : World} {H : Type} {enc : TypeId × Value → H} {v : Value} {d : DataW H} {ps : List MemPlace} (hv : Value.okWide Tryd.prog W .any base 22 v) (hd : DataW.Trod enc Tryd.prog W 0 (fun _ => true) true 22 v d ps) :
    ∃ (A : Option Addr) (c : Nat) (xs : List Spt), v = .slice A xs.length c ∧ RdS W A xs := by
  obtain ⟨A, len, cap, rfl⟩ := okWide_slice Tryd.underlying22 hv
  obtain ⟨fuel, h⟩ := hd
  rcases open_slice Tryd.underlying22 h with ⟨hc, _⟩ | ⟨a, len', cap', m, n, D, Pl, hc, _, hl, _, hm, _, hall⟩
  · have hc' : Value.slice A len cap = .slice none 0 0 := by simpa [Value.cells] using hc
    injection hc' with h1 h2 h3
    subst h1 h2 h3
    exact ⟨none, 0, [], rfl, fun i p hp => by simp at hp⟩
  · have hc' : Value.slice A len cap = .slice (some a) len' cap' := by simpa [Value.cells] using hc
    injection hc' with h1 h2 h3
    subst h1 h2 h3
    simp only [if_true] at hm
    have el : ∀ i, i < len → ∃ p : Spt, W.cell? ((a.add (i * 2)).add 0) = some (iv p.1) ∧ W.cell? ((a.add (i * 2)).add 1) = some (iv p.2) := by
      intro i hi
      obtain ⟨cs, h1, h2⟩ := hall i (by omega)
      rw [cellsSpot] at h1
      obtain ⟨zs, hz, hcs, _⟩ := intsSpot enc W 0 (fun _ => true) true _ _ _ h2
      obtain ⟨_, _, hat⟩ := World.cells?_some h1
      match zs, hz with
      | [z0, z1], _ =>
        subst hcs
        exact ⟨(z0, z1), hat 0 (by omega), hat 1 (by omega)⟩
    by_cases h0 : 0 < len
    · obtain ⟨z, c0, _⟩ := el 0 h0
      have hs : a.spot = none := cell_spot (w := W) (v := iv z.1) (by simpa [Addr.add] using c0)
      obtain ⟨b, off, sp⟩ := a
      simp only at hs
      subst hs
      let f : Nat → Spt := fun i => if hi : i < len then Classical.choose (el i hi) else (0, 0)
      refine ⟨some ⟨b, off, none⟩, cap, (List.range len).map f, by simp, fun i p hp => ?_⟩
      rw [List.getElem?_map] at hp
      by_cases hi : i < len
      · rw [List.getElem?_range hi] at hp
        simp only [Option.map_some, Option.some.injEq] at hp
        have e : f i = Classical.choose (el i hi) := dif_pos hi
        obtain ⟨k0, k1⟩ := Classical.choose_spec (el i hi)
        rw [← e, hp] at k0 k1
        simp only [addr_add, Nat.add_zero] at k0 k1
        exact ⟨b, off, rfl, k0, k1⟩
      · rw [List.getElem?_eq_none (by simpa using hi)] at hp
        simp at hp
    · have : len = 0 := by omega
      subst this
      exact ⟨some a, cap, [], rfl, fun i p hp => by simp at hp⟩
/-- a spot that is turned -/
def tnP (k : Nat) (s : Spt) : Pt := (tnA s.1 s.2 k, tnB s.1 s.2 k, tnC s.1 s.2 k, tnD s.1 s.2 k)
def SIn (xs : List Spt) : Prop := ∀ s ∈ xs, Lim 1000 s.1 ∧ Lim 1000 s.2
theorem tnP_in {xs : List Spt} (h : SIn xs) {k : Nat} : ∀ p ∈ xs.map (tnP k), PIn p := by
  intro p hp
  obtain ⟨s, hs, rfl⟩ := List.mem_map.1 hp
  obtain ⟨h1, h2⟩ := h s hs
  obtain ⟨m1, m2⟩ := tn_lim s.1 s.2 k h1 h2
  exact pIn_of (show pB (tnP k s) = true by unfold pB pinB tnP; simp [m1, m2])
/-- slices of polygons that the call owns: the outer row apart from the inner ones -/
structure OwP (w : World) (base : Nat) (v : Value) (ps : List PL) : Prop where
  row : w.ownsRow base 29 1 v ps.length (ps.map fun l => .slice l.1 l.2.1.length l.2.2)
  el : ∀ l ∈ ps, Rd w l.1 l.2.1 ∧ l.2.1.length ≤ 1000000
  far : ∀ l ∈ ps, ∀ a, l.1 = some a → v.ownBlock ≠ some a.block ∧ a.block < w.heap.size
theorem owP_nil (w : World) (base : Nat) : OwP w base (.slice none 0 0) [] := ⟨World.ownsRow_nil _ _ _ _, fun l hl => by simp at hl, fun l hl => by simp at hl⟩
theorem own_gr1 {w w' : World} {base : Nat} {e : TypeId} {k n : Nat} {v : Value} {xs : List Value} (h : w.ownsRow base e k v n xs) (g : Gr w w') : w'.ownsRow base e k v n xs := by
  obtain ⟨h0, h1 | ⟨b, cap, cur, h1, hb, h2, h3⟩⟩ := id h
  · exact ⟨h0, .inl h1⟩
  · refine ⟨h0, .inr ⟨b, cap, cur, h1, hb, ?_, h3⟩⟩
    rw [g.block b (Array.getElem?_eq_some_iff.1 h2).1]
    exact h2
theorem OwP.gr {w w' : World} {base : Nat} {v : Value} {ps : List PL} (h : OwP w base v ps) (g : Gr w w') : OwP w' base v ps :=
  ⟨own_gr1 h.row g, fun l hl => ⟨(h.el l hl).1.gr g, (h.el l hl).2⟩, fun l hl a ha => ⟨(h.far l hl a ha).1, Nat.lt_of_lt_of_le (h.far l hl a ha).2 g.size⟩⟩
theorem rd_grown {w w' : World} {A : Option Addr} {xs : List Pt} {row : Option Nat} (h : Rd w A xs) (hg : w.grownBy w' row) (hf : ∀ a, A = some a → row ≠ some a.block) : Rd w' A xs := by
  intro i p hp
  obtain ⟨b, off, e, h0, h1, h2, h3⟩ := h i p hp
  subst e
  have hne : some b ≠ row := fun e => hf _ rfl e.symm
  have hb := hg.block b (cell_lt (by rw [h0]; rfl)) hne
  exact ⟨b, off, rfl, (World.cell?_of_block hb).trans h0, (World.cell?_of_block hb).trans h1, (World.cell?_of_block hb).trans h2, (World.cell?_of_block hb).trans h3⟩
theorem own_lt {w : World} {base : Nat} {A : Option Addr} {n c : Nat} {xs : List Pt} (h : Own w base (.slice A n c) xs) {a : Addr} (ha : A = some a) : base ≤ a.block ∧ a.block < w.heap.size := by
  subst ha
  exact World.ownsRow.lt h a.block rfl
/-- one polygon more -/
theorem owP_next {w w2 w8 : World} {base : Nat} {v v' : Value} {ps : List PL} {A : Option Addr} {n : Nat} {ys : List Pt} (h : OwP w base v ps) (g2 : Gr w w2) (hr : Rd w2 A ys) (hl : ys.length ≤ 1000000) (hA : ∀ a, A = some a → w.heap.size ≤ a.block ∧ a.block < w2.heap.size)
    (ho : w8.ownsRow base 29 1 v' (ps.length + 1) ((ps.map fun l => Value.slice l.1 l.2.1.length l.2.2) ++ [.slice A ys.length n])) (hg : w2.grownBy w8 v.ownBlock) (hat : v'.ownBlock = v.ownBlock ∨ v'.ownBlock = some w2.heap.size) : OwP w8 base v' (ps ++ [(A, ys, n)]) := by
  have hv : ∀ k, v.ownBlock = some k → k < w.heap.size := fun k hk => (World.ownsRow.lt h.row k hk).2
  have f1 : ∀ a, A = some a → v.ownBlock ≠ some a.block := fun a ha e => by have := hv _ e; have := (hA a ha).1; omega
  refine ⟨?_, fun l hl' => ?_, fun l hl' a ha => ?_⟩
  · rw [List.length_append, List.map_append]
    exact ho
  · rcases List.mem_append.1 hl' with hl' | hl'
    · exact ⟨rd_grown ((h.el l hl').1.gr g2) hg (fun a ha => (h.far l hl' a ha).1), (h.el l hl').2⟩
    · rw [List.mem_singleton] at hl'
      subst hl'
      exact ⟨rd_grown hr hg f1, hl⟩
  · have hb : v.ownBlock ≠ some a.block ∧ a.block < w2.heap.size := by
      rcases List.mem_append.1 hl' with hl' | hl'
      · exact ⟨(h.far l hl' a ha).1, Nat.lt_of_lt_of_le (h.far l hl' a ha).2 g2.size⟩
      · rw [List.mem_singleton] at hl'
        subst hl'
        exact ⟨f1 a ha, (hA a ha).2⟩
    refine ⟨?_, Nat.lt_of_lt_of_le hb.2 hg.size⟩
    rcases hat with e | e
    · rw [e]
      exact hb.1
    · rw [e]
      intro e2
      have := Option.some.inj e2
      omega
/-- read -/
theorem OwP.rd {w : World} {base : Nat} {A : Option Addr} {n d : Nat} {ps : List PL} (h : OwP w base (.slice A n d) ps) : n = ps.length ∧ RdL w A ps := by
  obtain ⟨h0, ⟨h1, h2⟩ | ⟨g, cap, cur, h1, _, h2, h3, h4, h5, h6⟩⟩ := id h.row
  · have : ps = [] := List.eq_nil_of_length_eq_zero h2
    subst this
    injection h1 with _ h1 _
    exact ⟨h1, fun i p hp => by simp at hp⟩
  · have e := h1
    injection e with e1 e2 e3
    subst e1 e2
    refine ⟨rfl, fun i l hl => ?_⟩
    have hi : i < ps.length := (List.getElem?_eq_some_iff.1 hl).1
    have hc := World.ownsRow.cellAt (w := w) (h := (by rw [← e3]; exact h.row : w.ownsRow base 29 1 (.slice (some ⟨g, 0, none⟩) ps.length cap) ps.length (ps.map fun l => .slice l.1 l.2.1.length l.2.2))) i (by omega)
    rw [List.getElem?_map, hl] at hc
    exact ⟨⟨g, 0, rfl, by rw [Nat.zero_add]; exact hc⟩, h.el l (List.mem_of_getElem? hl)⟩
/-- the error of Sweep -/
def sinL (xs : List Spt) : Bool := xs.all fun s => sinB s.1 s.2
def swBad (n : Nat) (f t : Int) : Bool := decide (n = 0) || decide (12 < n) || decide (f < 0) || decide (6 < t) || decide (t < f)
def swE (xs : List Spt) (f t : Int) : Int := if swBad xs.length f t then 1 else if sinL xs then 0 else 1
theorem sin_in {xs : List Spt} (h : sinL xs = true) : SIn xs := fun s hs => slim_of (List.all_eq_true.1 h s hs)
/-- the points that the i-th polygon is the hull of -/
def swP (xs : List Spt) (f t i : Nat) : List Pt := if f = t then xs.map (tnP f) else xs.map (tnP (f + i)) ++ xs.map (tnP (f + i + 1))
def swN (f t : Nat) : Nat := if f = t then 1 else t - f
/-- polygons are the hulls -/
def SwR (xs : List Spt) (f t : Nat) (ps : List PL) : Prop := ∀ i l, ps[i]? = some l → ∃ a s, l.2.1 = a :: s ∧ G.Run ((swP xs f t i).map vOf) (vOf a) (s.map vOf)
end Go.Proofs.YtloefohekhkehaaDoor
