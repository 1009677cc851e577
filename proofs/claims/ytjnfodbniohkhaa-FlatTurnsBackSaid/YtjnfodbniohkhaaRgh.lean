/-
  Regions: the document's grid in memory, its area, MakeGrid.
-/
import Derived.Test.YtjnfodbniohkhaaRgn
set_option linter.unusedVariables false
set_option linter.unusedSimpArgs false
namespace Go.Proofs.Ytjnfodbniohkhaa
set_option linter.unusedVariables false
set_option linter.unusedSimpArgs false
open Go Go.ChangeShapes Go.WideShapes Go.ChangeAt Go.RowKit Go.Deep

namespace RG
theorem elBools : ElT Try.prog 64 4 1 1 := elT_of (.bool false) (by kernel_rfl) (by kernel_rfl) rfl
theorem elRowsO : ElT Try.prog 60 64 1 24 := elT_of (.slice none 0 0) (by kernel_rfl) (by kernel_rfl) rfl
/-- a column of cells where it lies -/
structure RwO where
  A : Option Addr
  q : Nat
  l : List Bool
abbrev roL (x : RwO) : List Value := [.slice x.A x.l.length x.q]
structure Rwo (w : World) (lo : Nat) (F : Option Addr) (f : Nat) (xs : List RwO) : Prop where
  own : OwnL w lo 64 1 roL (.slice F xs.length f) xs
  el : ∀ x ∈ xs, RdL w 1 boL x.A x.l ∧ x.l.length ≤ x.q ∧ x.q ≤ 9223372036854775807
  far : ∀ x ∈ xs, ∀ a, x.A = some a → lo ≤ a.block ∧ a.block < w.heap.size ∧ (Value.slice F xs.length f).ownBlock ≠ some a.block
  ne : xs.Pairwise fun x y => ∀ a b, x.A = some a → y.A = some b → a.block ≠ b.block
  fz : ∀ x ∈ xs, ∀ a, x.A = some a → ∀ o, w.frozen? ⟨a.block, o, none⟩ = false
theorem rwo_nil (w : World) (lo : Nat) : Rwo w lo none 0 [] := ⟨own_nil _ _ _ _ _, fun b hb => by simp at hb, fun b hb => by simp at hb, List.Pairwise.nil, fun b hb => by simp at hb⟩
theorem own_fz {α : Type} {c : α → List Value} {w : World} {base : Nat} {e : TypeId} {k n d : Nat} {A : Option Addr} {xs : List α} (h : OwnL w base e k c (.slice A n d) xs) : ∀ x, A = some x → ∀ o, w.frozen? ⟨x.block, o, none⟩ = false := by
  intro x hx o
  subst hx
  obtain ⟨h0, h1 | ⟨b, cap, cur, h1, hb, h2, _⟩⟩ := id h
  · cases h1.1
  · injection h1 with e1 e2 e3
    injection e1 with e1
    subst e1
    unfold World.frozen?
    simp only [h2]
    simp
theorem own_lt' {α : Type} {c : α → List Value} {w : World} {base : Nat} {e : TypeId} {k n d : Nat} {A : Option Addr} {xs : List α} (h : OwnL w base e k c (.slice A n d) xs) : ∀ x, A = some x → x.block < w.heap.size := by
  intro x hx
  subst hx
  obtain ⟨h0, h1 | ⟨b, cap, cur, h1, hb, h2, _⟩⟩ := id h
  · cases h1.1
  · injection h1 with e1 e2 e3
    injection e1 with e1
    subst e1
    exact (Array.getElem?_eq_some_iff.1 h2).1
/-- one column more -/
theorem Rwo.next {w w1 w2 w8 : World} {lo : Nat} {F : Option Addr} {f gg cap k : Nat} {xs ys : List RwO} {y : RwO} (h : Rwo w lo F f xs) (hk : xs.length = k) (g : Gr w w1) (hy : OwnL w1 w.heap.size 4 1 boL (.slice y.A y.l.length y.q) y.l) (hlo : lo ≤ w.heap.size) (g2 : Gr w1 w2) (hys : xs ++ [y] = ys)
    (ho : OwnL w8 lo 64 1 roL (.slice (some ⟨gg, 0, none⟩) ys.length cap) ys) (hg : w2.grownBy w8 (Value.slice F k f).ownBlock) (hat : (Value.slice F k f).ownBlock = some gg ∨ gg = w2.heap.size) :
    Rwo w8 lo (some ⟨gg, 0, none⟩) cap ys := by
  subst hk
  have hF := fun k hk => World.ownsRow.lt h.own k hk
  have hge := own_ge hy
  have hlt := own_lt' hy
  have s1 := g.size
  have s2 := g2.size
  have s8 := hg.size
  have hny : ∀ a, y.A = some a → some a.block ≠ (Value.slice F xs.length f).ownBlock := fun a ha e => by
    have := (hF _ e.symm).2
    have := hge a ha
    omega
  have rdk : ∀ {A : Option Addr} {l : List Bool}, RdL w2 1 boL A l → (∀ a, A = some a → a.block < w2.heap.size ∧ some a.block ≠ (Value.slice F xs.length f).ownBlock) → RdL w8 1 boL A l := fun h0 hh =>
    rdl_keep h0 fun x hx o => hg.cell_far ⟨x.block, o, none⟩ (hh x hx).1 (hh x hx).2
  refine ⟨ho, fun x hx => ?_, fun x hx a ha => ?_, ?_, fun x hx a ha o => ?_⟩
  rotate_left 2
  · rw [← hys, List.pairwise_append]
    refine ⟨h.ne, List.pairwise_singleton _ _, fun x hx z hz a b ha hb => ?_⟩
    rw [List.mem_singleton] at hz
    subst hz
    have q1 := (h.far x hx a ha).2.1
    have q2 := hge b hb
    omega
  · rw [← hys] at hx
    rcases List.mem_append.1 hx with hx | hx
    · have q := h.far x hx a ha
      rw [hg.frozen_far ⟨a.block, o, none⟩ (show a.block < w2.heap.size by omega) (fun e => q.2.2 e.symm), (g.trans g2).frozen _ _ q.2.1]
      exact h.fz x hx a ha o
    · rw [List.mem_singleton] at hx
      subst hx
      have q := hlt a ha
      rw [hg.frozen_far ⟨a.block, o, none⟩ (show a.block < w2.heap.size by omega) (hny a ha), g2.frozen _ _ q]
      exact own_fz hy a ha o
  · rw [← hys] at hx
    rcases List.mem_append.1 hx with hx | hx
    · obtain ⟨k1, k2, k3⟩ := h.el x hx
      refine ⟨rdk (k1.gr (g.trans g2)) fun a ha => ?_, k2, k3⟩
      have := h.far x hx a ha
      exact ⟨by omega, fun e => this.2.2 e.symm⟩
    · rw [List.mem_singleton] at hx
      subst hx
      obtain ⟨_, h1, h2, h3⟩ := OwnL.rd (c := boL) (fun _ => rfl) hy
      refine ⟨rdk (h1.gr g2) fun a ha => ?_, h2, by unfold maxLen at h3; omega⟩
      exact ⟨by have := hlt a ha; omega, hny a ha⟩
  · have e1 : (Value.slice (some ⟨gg, 0, none⟩) ys.length cap).ownBlock = some gg := rfl
    rw [e1]
    rw [← hys] at hx
    have key : lo ≤ a.block ∧ a.block < w2.heap.size ∧ some a.block ≠ (Value.slice F xs.length f).ownBlock := by
      rcases List.mem_append.1 hx with hx | hx
      · have := h.far x hx a ha
        exact ⟨this.1, by omega, fun e => this.2.2 e.symm⟩
      · rw [List.mem_singleton] at hx
        subst hx
        exact ⟨by have := hge a ha; omega, by have := hlt a ha; omega, hny a ha⟩
    refine ⟨key.1, by omega, fun e => ?_⟩
    have e' : gg = a.block := Option.some.inj e
    rcases hat with q | q
    · exact key.2.2 (by rw [q, e'])
    · omega
theorem Rwo.set {w : World} {lo : Nat} {F : Option Addr} {f : Nat} {xs : List RwO} (h : Rwo w lo F f xs) {S : Nat} (hS : S < lo) (i : Nat) (v : Value) : Rwo (w.setCell ⟨S, i, none⟩ v) lo F f xs := by
  have hb : ∀ b, b ≠ S → (w.setCell ⟨S, i, none⟩ v).heap[b]? = w.heap[b]? := fun b hb => heap_setCell_other w ⟨S, i, none⟩ b v (fun e => hb (by simpa using e))
  refine ⟨?_, fun x hx => ?_, fun x hx a ha => ?_, h.ne, fun x hx a ha o => by have := h.fz x hx a ha o; simpa [go_sem] using this⟩
  · obtain ⟨h0, h1 | ⟨b, cap, cur, h1, hb', h2, h3⟩⟩ := id h.own
    · exact ⟨h0, .inl h1⟩
    · exact ⟨h0, .inr ⟨b, cap, cur, h1, hb', (hb b (by omega)).trans h2, h3⟩⟩
  · obtain ⟨k1, k2⟩ := h.el x hx
    refine ⟨rdl_keep k1 fun a ha o => World.cell?_of_block (hb _ fun e => ?_), k2⟩
    have := (h.far x hx a ha).1
    have e' : a.block = S := e
    omega
  · obtain ⟨k1, k2, k3⟩ := h.far x hx a ha
    exact ⟨k1, by simpa using k2, k3⟩
theorem Rwo.gr {w w' : World} {lo : Nat} {F : Option Addr} {f : Nat} {xs : List RwO} (h : Rwo w lo F f xs) (g : Gr w w') : Rwo w' lo F f xs :=
  ⟨h.own.gr g, fun x hx => ⟨(h.el x hx).1.gr g, (h.el x hx).2⟩, fun x hx a ha => ⟨(h.far x hx a ha).1, Nat.lt_of_lt_of_le (h.far x hx a ha).2.1 g.size, (h.far x hx a ha).2.2⟩, h.ne, fun x hx a ha o => (g.frozen _ _ (h.far x hx a ha).2.1).trans (h.fz x hx a ha o)⟩
/-- the document's grid, read -/
structure GrO (w : World) (X Y : List Int) (A B F : Option Addr) (a b f n : Nat) (R : Nat → Option Addr) (q : Nat → Nat) (c : Nat → Nat → Bool) : Prop where
  sx : SlI w A a X
  sy : SlI w B b Y
  hn : n = X.length - 1
  rows : ∀ i, i < n → ∃ bF, F = some ⟨bF, 0, none⟩ ∧ w.cell? ⟨bF, i, none⟩ = some (.slice (R i) (Y.length - 1) (q i))
  col : ∀ i j, i < n → j < Y.length - 1 → ∃ bR oR, R i = some ⟨bR, oR, none⟩ ∧ w.cell? ⟨bR, oR + j, none⟩ = some (.bool (c i j))
  cq : ∀ i, i < n → Y.length - 1 ≤ q i ∧ q i ≤ 9223372036854775807
  cf : n ≤ f
  cfB : f ≤ 9223372036854775807
  n1 : X.length ≤ 1000
  n2 : Y.length ≤ 1000
abbrev goV (X Y : List Int) (A B F : Option Addr) (a b f n : Nat) : Value := .agg #[.slice A X.length a, .slice B Y.length b, .slice F n f]
theorem GrO.gr {w w' : World} {X Y : List Int} {A B F : Option Addr} {a b f n : Nat} {R : Nat → Option Addr} {q : Nat → Nat} {c : Nat → Nat → Bool} (h : GrO w X Y A B F a b f n R q c) (g : Gr w w') : GrO w' X Y A B F a b f n R q c :=
  ⟨h.sx.gr g, h.sy.gr g, h.hn, fun i hi => by
    obtain ⟨bF, e, k⟩ := h.rows i hi
    exact ⟨bF, e, (g.cell _ _ (cell_lt (by rw [k]; rfl))).trans k⟩, fun i j hi hj => by
    obtain ⟨bR, oR, e, k⟩ := h.col i j hi hj
    exact ⟨bR, oR, e, (g.cell _ _ (cell_lt (by rw [k]; rfl))).trans k⟩, h.cq, h.cf, h.cfB, h.n1, h.n2⟩
theorem fr_step {S n : Nat} {A D : Option Addr} (h : Hid (∀ x, A = some x → S < x.block)) (hf : ∀ x, D = some x → A = some x ∨ n ≤ x.block) (hn : S < n) : Hid (∀ x, D = some x → S < x.block) := fun x hx => by
  rcases hf x hx with k | k
  · exact h.out x k
  · exact Nat.lt_of_lt_of_le hn k
theorem sli_set {w : World} {A : Option Addr} {a S : Nat} {X : List Int} (h : SlI w A a X) (hs : ∀ x, A = some x → S < x.block) (i : Nat) (v : Value) : SlI (w.setCell ⟨S, i, none⟩ v) A a X := by
  refine ⟨rdl_keep h.rd fun x hx o => World.cell?_of_block (heap_setCell_other w ⟨S, i, none⟩ x.block v fun e => ?_), h.cap, h.capB⟩
  have := hs x hx
  have e' : x.block = S := by simpa using e
  omega
/-- a column of the grid -/
def colL (X Y : List Int) (m : List Rc) (i n : Nat) : List Bool := (List.range n).map (cel X Y m i)
theorem colL_snoc (X Y : List Int) (m : List Rc) (i n : Nat) {x y : Int} (hx : X[i]? = some x) (hy : Y[n]? = some y) : colL X Y m i n ++ [cov m x y] = colL X Y m i (n + 1) := by
  unfold colL
  rw [List.range_succ, List.map_append]
  simp [cel, hx, hy]
theorem colL_len (X Y : List Int) (m : List Rc) (i n : Nat) : (colL X Y m i n).length = n := by simp [colL]
theorem grO_of {w : World} {lo : Nat} {X Y : List Int} {A B F : Option Addr} {a b f n : Nat} {m : List Rc} {xs : List RwO} (hX : SlI w A a X) (hY : SlI w B b Y) (hR : Rwo w lo F f xs) (hl : xs.length = n) (hn : n = X.length - 1) (hc : ∀ i x, xs[i]? = some x → x.l = colL X Y m i (Y.length - 1)) (h1 : X.length ≤ 1000) (h2 : Y.length ≤ 1000) :
    GrO w X Y A B F a b f n (fun i => (xs[i]?).bind RwO.A) (fun i => ((xs[i]?).map RwO.q).getD 0) (cel X Y m) := by
  obtain ⟨_, hrd, hcap, hcapB⟩ := OwnL.rd (c := roL) (fun _ => rfl) hR.own
  have hbs : ∀ i, i < n → ∃ x, xs[i]? = some x ∧ x ∈ xs := fun i hi => ⟨_, List.getElem?_eq_getElem (by omega), List.getElem_mem _⟩
  refine ⟨hX, hY, hn, fun i hi => ?_, fun i j hi hj => ?_, fun i hi => ?_, by omega, by unfold maxLen at hcapB; omega, h1, h2⟩
  · obtain ⟨x, hx, hm⟩ := hbs i hi
    rcases hR.own.2 with ⟨_, q2⟩ | ⟨g, cap, cur, q, _⟩
    · omega
    · cases q
      obtain ⟨b', off', e, c0, _⟩ := hrd i x hx
      cases e
      refine ⟨g, rfl, ?_⟩
      rw [hx]
      have e := hc i x hx
      have el := colL_len X Y m i (Y.length - 1)
      rw [← e] at el
      simp only [Option.bind_some, Option.map_some, Option.getD_some]
      rw [← el]
      simpa using c0
  · obtain ⟨x, hx, hm⟩ := hbs i hi
    obtain ⟨k1, _⟩ := hR.el x hm
    have e := hc i x hx
    have hj' : x.l[j]? = some (cel X Y m i j) := by
      rw [e]
      unfold colL
      simp [hj]
    obtain ⟨b, o, e1, e2⟩ := k1.bo_ hj'
    exact ⟨b, o, by rw [hx]; exact e1, e2⟩
  · obtain ⟨x, hx, hm⟩ := hbs i hi
    obtain ⟨_, k2, k3⟩ := hR.el x hm
    have e := hc i x hx
    have el := colL_len X Y m i (Y.length - 1)
    rw [← e] at el
    rw [hx]
    simp only [Option.map_some, Option.getD_some]
    omega
/-- each block of a grid's parts that are read has the property -/
def Fr (A B F : Option Addr) (X Y : List Int) (n : Nat) (R : Nat → Option Addr) (Q : Nat → Prop) : Prop :=
  (X ≠ [] → ∀ x, A = some x → Q x.block) ∧ (Y ≠ [] → ∀ x, B = some x → Q x.block) ∧ (0 < n → ∀ x, F = some x → Q x.block) ∧ ∀ i, i < n → 0 < Y.length - 1 → ∀ a, R i = some a → Q a.block
/-- a grid's columns are the call's own, each in a block of its own, apart from the rest -/
def Ow (w : World) (A B F : Option Addr) (X Y : List Int) (n : Nat) (R : Nat → Option Addr) : Prop :=
  ∀ i, i < n → ∀ a, R i = some a → (∀ o, w.frozen? ⟨a.block, o, none⟩ = false) ∧ (X ≠ [] → ∀ x, A = some x → x.block ≠ a.block) ∧ (Y ≠ [] → ∀ x, B = some x → x.block ≠ a.block) ∧ (∀ x, F = some x → x.block ≠ a.block) ∧ ∀ k, k < n → k ≠ i → ∀ b, R k = some b → b.block ≠ a.block
theorem ow_of {w : World} {lo : Nat} {X Y : List Int} {A B F : Option Addr} {f n : Nat} {xs : List RwO} (hR : Rwo w lo F f xs) (hl : xs.length = n) (hA : X ≠ [] → ∀ x, A = some x → x.block < lo) (hB : Y ≠ [] → ∀ x, B = some x → x.block < lo) : Ow w A B F X Y n (fun i => (xs[i]?).bind RwO.A) := by
  intro i hi a ha
  obtain ⟨x, hx⟩ : ∃ x, xs[i]? = some x := ⟨_, List.getElem?_eq_getElem (by omega)⟩
  simp only [hx, Option.bind_some] at ha
  have hm := List.mem_of_getElem? hx
  obtain ⟨f1, f2, f3⟩ := hR.far x hm a ha
  refine ⟨hR.fz x hm a ha, fun h y hy => by have := hA h y hy; omega, fun h y hy => by have := hB h y hy; omega, fun y hy e => ?_, fun k hk hki b hb => ?_⟩
  · subst hy
    exact f3 (by rw [← e]; rfl)
  · obtain ⟨z, hz⟩ : ∃ x, xs[k]? = some x := ⟨_, List.getElem?_eq_getElem (by omega)⟩
    simp only [hz, Option.bind_some] at hb
    have hp := List.pairwise_iff_getElem.1 hR.ne
    obtain ⟨i1, i2⟩ := List.getElem?_eq_some_iff.1 hx
    obtain ⟨k1, k2⟩ := List.getElem?_eq_some_iff.1 hz
    rcases Nat.lt_or_gt_of_ne hki with q | q
    · exact hp k i k1 i1 q b a (by rw [k2]; exact hb) (by rw [i2]; exact ha)
    · exact (hp i k i1 k1 q a b (by rw [i2]; exact ha) (by rw [k2]; exact hb)).symm
theorem fr_of {w : World} {lo S : Nat} {X Y : List Int} {A B F : Option Addr} {f n : Nat} {xs : List RwO} (hR : Rwo w lo F f xs) (hl : xs.length = n) (hlo : S ≤ lo) (hA : ∀ x, A = some x → S ≤ x.block) (hB : ∀ x, B = some x → S ≤ x.block) : Fr A B F X Y n (fun i => (xs[i]?).bind RwO.A) (S ≤ ·) := by
  refine ⟨fun _ => hA, fun _ => hB, fun _ x hx => ?_, fun i hi _ a ha => ?_⟩
  · have := own_ge hR.own x hx
    omega
  · obtain ⟨x, hx⟩ : ∃ x, xs[i]? = some x := ⟨_, List.getElem?_eq_getElem (by omega)⟩
    simp only [hx, Option.bind_some] at ha
    have := (hR.far x (List.mem_of_getElem? hx) a ha).1
    omega
theorem sli_lt {w : World} {A : Option Addr} {a : Nat} {X : List Int} (h : SlI w A a X) (hx : X ≠ []) : ∀ x, A = some x → x.block < w.heap.size := by
  intro x e
  obtain ⟨p, hp⟩ : ∃ p, X[0]? = some p := ⟨_, List.getElem?_eq_getElem (List.length_pos_iff.2 hx)⟩
  obtain ⟨b, o, e', h0⟩ := h.rd.in_ hp
  rw [e] at e'
  cases e'
  exact cell_lt (by rw [h0]; rfl)
theorem sl_keep {w w' : World} {S : Nat} {A : Option Addr} {a : Nat} {X : List Int} (h : SlI w A a X) (hk : Fld S (fun _ => S) 1 w w') (hs : ∀ x, A = some x → S < x.block) : SlI w' A a X :=
  ⟨by
    intro i p hp
    obtain ⟨b, o, e, h0, _⟩ := h.rd i p hp
    have hb := cell_lt (w := w) (i := b) (o := o + i * 1) (by rw [h0]; rfl)
    have hs' := hs _ e
    refine ⟨b, o, e, (hk.cell b _ hb fun _ _ e => ?_).1.trans h0, trivial⟩
    have : S < b := hs'
    omega, h.cap, h.capB⟩
/-- what MakeGrid returns -/
def NewO (w : World) (X Y : List Int) (c : Nat → Nat → Bool) (e : Ending) (w' : World) : Prop := ∃ (A1 B1 F1 : Option Addr) (a b f : Nat) (R : Nat → Option Addr) (q : Nat → Nat), e = .returned (goV X Y A1 B1 F1 a b f (X.length - 1)) ∧ GrO w' X Y A1 B1 F1 a b f (X.length - 1) R q c ∧ Gr w w'
/-- what MakeGrid returns, and that it is the call's own -/
def NewO2 (w : World) (X Y : List Int) (c : Nat → Nat → Bool) (e : Ending) (w' : World) : Prop := ∃ (A1 B1 F1 : Option Addr) (a b f : Nat) (R : Nat → Option Addr) (q : Nat → Nat), e = .returned (goV X Y A1 B1 F1 a b f (X.length - 1)) ∧ GrO w' X Y A1 B1 F1 a b f (X.length - 1) R q c ∧ Ow w' A1 B1 F1 X Y (X.length - 1) R ∧ Fr A1 B1 F1 X Y (X.length - 1) R (w.heap.size ≤ ·) ∧ Gr w w'
set_option maxHeartbeats 8000000 in
set_option maxRecDepth 100000 in
theorem makeGrid2_any (A : Option Addr) (c : Nat) (l : List Rc) (B : Option Addr) (d : Nat) (m : List Rc) (w : World) (hl : SlR w A c l) (hm : SlR w B d m) (hv : ∀ r ∈ l, InM 1048576 r) (hv2 : ∀ r ∈ m, InM 1048576 r) (h96 : l.length ≤ 100) :
    Calls Try.prog 28 #[.slice A l.length c, .slice B m.length d] w (NewO2 w (lnX l) (lnY l) (cel (lnX l) (lnY l) m)) := by
  have n1 := hl.cap
  have n2 := hl.capB
  have n3 := hm.cap
  have n4 := hm.capB
  have HL := hide hl
  have HM := hide hm
  have HV := hide hv
  have HV2 := hide hv2
  clear hl hm hv hv2
  go_enter Try.func28, Try.ntmps28
  go_wp2
  have g0 : Gr w ((w.alloc (.cells #[.slice none 0 0, .slice none 0 0, .slice none 0 0] 62)).alloc (.cells #[.slice none 0 0, .slice none 0 0, .slice none 0 0] 62)) := Gr.alloc (Gr.alloc (Gr.refl _) _) _
  have mB := (Made.new w #[.slice none 0 0, .slice none 0 0, .slice none 0 0] 62).gr (show Gr _ ((w.alloc (.cells #[.slice none 0 0, .slice none 0 0, .slice none 0 0] 62)).alloc (.cells #[.slice none 0 0, .slice none 0 0, .slice none 0 0] 62)) from Gr.alloc (Gr.refl _) _)
  have mS := Made.new (w.alloc (.cells #[.slice none 0 0, .slice none 0 0, .slice none 0 0] 62)) #[.slice none 0 0, .slice none 0 0, .slice none 0 0] 62
  simp only [World.size_alloc] at mS
  have hs1 : ((w.alloc (.cells #[.slice none 0 0, .slice none 0 0, .slice none 0 0] 62)).alloc (.cells #[.slice none 0 0, .slice none 0 0, .slice none 0 0] 62)).heap.size = w.heap.size + 1 + 1 := by simp
  generalize (w.alloc (.cells #[.slice none 0 0, .slice none 0 0, .slice none 0 0] 62)).alloc (.cells #[.slice none 0 0, .slice none 0 0, .slice none 0 0] 62) = w1 at *
  obtain ⟨S, hS⟩ : ∃ S, w.heap.size + 1 = S := ⟨_, rfl⟩
  rw [hS] at mS hs1
  have hSw : w.heap.size < S := by omega
  have HMB := hide mB
  have HMS := hide mS
  have HS1 := hide hs1
  have hS1 : S < w1.heap.size := by omega
  simp only [hS]
  clear mB mS hs1 hS
  go_loopw [6] (fun i wr => ∃ (k : Nat) (X Y : List Int) (A1 B1 : Option Addr) (a b : Nat), k ≤ l.length ∧ i = iv k ∧ Fld S (fun _ => S) 1 w1 wr ∧ Hid (SlI wr A1 a X) ∧ Hid (SlI wr B1 b Y) ∧ Hid (∀ x, A1 = some x → S < x.block) ∧ Hid (∀ x, B1 = some x → S < x.block) ∧ Hid (Made wr S #[.slice A1 X.length a, .slice B1 Y.length b, .slice none 0 0]) ∧ Hid (X = lnX (l.take k) ∧ Y = lnY (l.take k))) (fun i _ => l.length - (intOf i).toNat)
  case atStart => exact ⟨0, [], [], none, none, 0, 0, by omega, rfl, Fld.refl _ _ _ _, ⟨fun i p hp => by simp at hp, by simp, by omega⟩, ⟨fun i p hp => by simp at hp, by simp, by omega⟩, (fun x hx => by cases hx), (fun x hx => by cases hx), HMS.out, ⟨rfl, rfl⟩⟩
  case round =>
    obtain ⟨k, X, Y, A1, B1, a, b, hk, rfl, hF, HX, HY, HXS, HYS, HMk, HE⟩ := hrel
    have HF := hide hF
    have szr := hF.size
    clear hF
    by_cases hkl : k < l.length
    · obtain ⟨r, hr⟩ : ∃ r, l[k]? = some r := ⟨_, List.getElem?_eq_getElem hkl⟩
      have gwr : Gr w wr := HF.out.below w g0 (by omega)
      obtain ⟨bl, ol, rfl, x0, x1, x2, x3⟩ := (HL.out.gr gwr).at_ hr
      have hb := HV.out r (List.mem_of_getElem? hr)
      have m1 := hb.w
      have m2 := hb.h
      have m3 := hb.x
      have m4 := hb.y
      have m5 := hb.x'
      have m6 := hb.y'
      have HR := hide hr
      have hk0 : (0 : Int) ≤ (k : Int) := by omega
      have hk1 : (k : Int) < (l.length : Int) := by omega
      have hX1 := len_lnX (l.take k)
      have hY1 := len_lnY (l.take k)
      rw [← HE.out.1, List.length_take] at hX1
      rw [← HE.out.2, List.length_take] at hY1
      have hX2 := len_ins X r.x
      have hY2 := len_ins Y r.y
      have HN1 := hide (show X.length ≤ 1000 by omega)
      have HN2 := hide (show (ins X r.x).length ≤ 1000 by omega)
      have HN3 := hide (show Y.length ≤ 1000 by omega)
      have HN4 := hide (show (ins Y r.y).length ≤ 1000 by omega)
      have HUX := hide (show Up X by rw [HE.out.1]; exact up_lnX _)
      have HUY := hide (show Up Y by rw [HE.out.2]; exact up_lnY _)
      have HE2 := hide (show ins (ins X r.x) (r.x + r.w) = lnX (l.take (k + 1)) ∧ ins (ins Y r.y) (r.y + r.h) = lnY (l.take (k + 1)) by
        unfold lnX lnY at HE ⊢
        rw [take_fold HR.out, take_fold HR.out, ← HE.out.1, ← HE.out.2]
        exact ⟨rfl, rfl⟩)
      obtain ⟨M0, M1, M2, M3, M4, M5⟩ := made3 HMk.out
      have s1 : IntKind.i64.wrap (r.x + r.w) = r.x + r.w := IntWalk.i64_in _ (by omega)
      have s2 : IntKind.i64.wrap (r.y + r.h) = r.y + r.h := IntWalk.i64_in _ (by omega)
      have hSr : S < wr.heap.size := by omega
      clear hr hb hX1 hY1 hX2 hY2 m1 m2 m3 m4 m5 m6
      have HX' := hide (fun (w' : World) (g : Gr wr w') => HX.out.gr g)
      go_upto_region 5 with fail
      go_cut [] from 10 to 57 (fun wx => ∃ (D : Option Addr) (d : Nat), Hid (SlI wx D d (ins (ins X r.x) (r.x + r.w))) ∧ Hid (∀ x, D = some x → S < x.block) ∧ Hid (SlI wx B1 b Y) ∧ Hid (Made wx S #[.slice D (ins (ins X r.x) (r.x + r.w)).length d, .slice B1 Y.length b, .slice none 0 0]) ∧ Hid (Fld S (fun _ => S) 1 w1 wx))
      case first =>
        go_region_law (go_simp; go_at_call 44; refine (insert_any _ _ _ _ _ (by first | exact HX.out.gr (by repeat (first | with_reducible exact Gr.refl _ | with_reducible assumption | with_reducible refine Gr.alloc ?_ _ | with_reducible refine Gr.drewN ?_ _ | with_reducible refine Gr.drew ?_ | with_reducible refine Gr.setCell ?_ (by first | (dsimp only; omega) | (simp only [World.size_alloc]; omega) | (with_reducible refine Gr.size ?_; (repeat (first | with_reducible exact Gr.refl _ | with_reducible assumption | with_reducible refine Gr.alloc ?_ _ | with_reducible refine Gr.drewN ?_ _ | with_reducible refine Gr.drew ?_ | with_reducible refine Gr.trans ?_ (by with_reducible assumption))); done)) _ | with_reducible refine Gr.trans ?_ (by with_reducible assumption))) | exact HS5.out.gr (by repeat (first | with_reducible exact Gr.refl _ | with_reducible assumption | with_reducible refine Gr.alloc ?_ _ | with_reducible refine Gr.drewN ?_ _ | with_reducible refine Gr.drew ?_ | with_reducible refine Gr.setCell ?_ (by first | (dsimp only; omega) | (simp only [World.size_alloc]; omega) | (with_reducible refine Gr.size ?_; (repeat (first | with_reducible exact Gr.refl _ | with_reducible assumption | with_reducible refine Gr.alloc ?_ _ | with_reducible refine Gr.drewN ?_ _ | with_reducible refine Gr.drew ?_ | with_reducible refine Gr.trans ?_ (by with_reducible assumption))); done)) _ | with_reducible refine Gr.trans ?_ (by with_reducible assumption)))) (by first | exact HUX.out | exact up_ins HUX.out) (by first | exact HN1.out | exact HN2.out)).mono ?_; rintro e w5 ⟨D5, d5, rfl, hs5, hf5, g5⟩; (have HS5 := hide hs5); (have HF5 := fr_step (by first | exact HXS | exact HF5) hf5 (Nat.lt_of_lt_of_le hSr (Gr.size (by repeat (first | with_reducible exact Gr.refl _ | with_reducible assumption | with_reducible refine Gr.alloc ?_ _ | with_reducible refine Gr.drewN ?_ _ | with_reducible refine Gr.drew ?_ | with_reducible refine Gr.setCell ?_ (by first | (dsimp only; omega) | (simp only [World.size_alloc]; omega) | (with_reducible refine Gr.size ?_; (repeat (first | with_reducible exact Gr.refl _ | with_reducible assumption | with_reducible refine Gr.alloc ?_ _ | with_reducible refine Gr.drewN ?_ _ | with_reducible refine Gr.drew ?_ | with_reducible refine Gr.trans ?_ (by with_reducible assumption))); done)) _ | with_reducible refine Gr.trans ?_ (by with_reducible assumption)))))); clear hs5 hf5; obtain ⟨X5, Y5, c5, f5⟩ := g5.use)
        all_goals
          have gz : Gr wr w5 := (by repeat (first | with_reducible exact Gr.refl _ | with_reducible assumption | with_reducible refine Gr.alloc ?_ _ | with_reducible refine Gr.drewN ?_ _ | with_reducible refine Gr.drew ?_ | with_reducible refine Gr.setCell ?_ (by first | (dsimp only; omega) | (simp only [World.size_alloc]; omega) | (with_reducible refine Gr.size ?_; (repeat (first | with_reducible exact Gr.refl _ | with_reducible assumption | with_reducible refine Gr.alloc ?_ _ | with_reducible refine Gr.drewN ?_ _ | with_reducible refine Gr.drew ?_ | with_reducible refine Gr.trans ?_ (by with_reducible assumption))); done)) _ | with_reducible refine Gr.trans ?_ (by with_reducible assumption)))
          go_wp2_with fail
          go_meet
          exact ⟨D5, d5, sli_set HS5.out HF5.out _ _, HF5, sli_set (HY.out.gr gz) HYS.out _ _, made_set (HMk.out.gr gz) 0 (by simp) _ rfl, (HF.out.gr gz).store (i := 0) (j := 0) (by decide) (Nat.le_refl _) _⟩
      case rest =>
        obtain ⟨D, d', HX2, HXS2, HY2, HM2, HF2⟩ := hcut
        have szc := HF2.out.size
        have HXf := hide (fun (w' : World) (g : Gr wc w') => HX2.out.gr g)
        have gwc : Gr w wc := HF2.out.below w g0 (by omega)
        obtain ⟨bl2, ol2, hAe, y0, y1, y2, y3⟩ := (HL.out.gr gwc).at_ HR.out
        cases hAe
        have HE3 := hide HE2.out.1
        obtain ⟨X2, hX2⟩ : ∃ X2, ins (ins X r.x) (r.x + r.w) = X2 := ⟨_, rfl⟩
        rw [hX2] at HX2 HM2 HE3
        have hSc : S < wc.heap.size := by omega
        clear hX2 HX HX' HXS HY HMk HF M0 M1 M2 M3 M4 M5 x0 x1 x2 x3 HN1 HN2 HUX szr hSr gwr HXf
        obtain ⟨M0, M1, M2, M3, M4, M5⟩ := made3 HM2.out
        go_upto_region 6 with fail
        go_region_law (go_simp; go_at_call 44; refine (insert_any _ _ _ _ _ (by first | exact HY2.out.gr (by repeat (first | with_reducible exact Gr.refl _ | with_reducible assumption | with_reducible refine Gr.alloc ?_ _ | with_reducible refine Gr.drewN ?_ _ | with_reducible refine Gr.drew ?_ | with_reducible refine Gr.setCell ?_ (by first | (dsimp only; omega) | (simp only [World.size_alloc]; omega) | (with_reducible refine Gr.size ?_; (repeat (first | with_reducible exact Gr.refl _ | with_reducible assumption | with_reducible refine Gr.alloc ?_ _ | with_reducible refine Gr.drewN ?_ _ | with_reducible refine Gr.drew ?_ | with_reducible refine Gr.trans ?_ (by with_reducible assumption))); done)) _ | with_reducible refine Gr.trans ?_ (by with_reducible assumption))) | exact HS5.out.gr (by repeat (first | with_reducible exact Gr.refl _ | with_reducible assumption | with_reducible refine Gr.alloc ?_ _ | with_reducible refine Gr.drewN ?_ _ | with_reducible refine Gr.drew ?_ | with_reducible refine Gr.setCell ?_ (by first | (dsimp only; omega) | (simp only [World.size_alloc]; omega) | (with_reducible refine Gr.size ?_; (repeat (first | with_reducible exact Gr.refl _ | with_reducible assumption | with_reducible refine Gr.alloc ?_ _ | with_reducible refine Gr.drewN ?_ _ | with_reducible refine Gr.drew ?_ | with_reducible refine Gr.trans ?_ (by with_reducible assumption))); done)) _ | with_reducible refine Gr.trans ?_ (by with_reducible assumption)))) (by first | exact HUY.out | exact up_ins HUY.out) (by first | exact HN3.out | exact HN4.out)).mono ?_; rintro e w5 ⟨D5, d5, rfl, hs5, hf5, g5⟩; (have HS5 := hide hs5); (have HF5 := fr_step (by first | exact HYS | exact HF5) hf5 (Nat.lt_of_lt_of_le hSc (Gr.size (by repeat (first | with_reducible exact Gr.refl _ | with_reducible assumption | with_reducible refine Gr.alloc ?_ _ | with_reducible refine Gr.drewN ?_ _ | with_reducible refine Gr.drew ?_ | with_reducible refine Gr.setCell ?_ (by first | (dsimp only; omega) | (simp only [World.size_alloc]; omega) | (with_reducible refine Gr.size ?_; (repeat (first | with_reducible exact Gr.refl _ | with_reducible assumption | with_reducible refine Gr.alloc ?_ _ | with_reducible refine Gr.drewN ?_ _ | with_reducible refine Gr.drew ?_ | with_reducible refine Gr.trans ?_ (by with_reducible assumption))); done)) _ | with_reducible refine Gr.trans ?_ (by with_reducible assumption)))))); clear hs5 hf5; obtain ⟨X5, Y5, c5, f5⟩ := g5.use)
        all_goals
          have gz : Gr wc w5 := (by repeat (first | with_reducible exact Gr.refl _ | with_reducible assumption | with_reducible refine Gr.alloc ?_ _ | with_reducible refine Gr.drewN ?_ _ | with_reducible refine Gr.drew ?_ | with_reducible refine Gr.setCell ?_ (by first | (dsimp only; omega) | (simp only [World.size_alloc]; omega) | (with_reducible refine Gr.size ?_; (repeat (first | with_reducible exact Gr.refl _ | with_reducible assumption | with_reducible refine Gr.alloc ?_ _ | with_reducible refine Gr.drewN ?_ _ | with_reducible refine Gr.drew ?_ | with_reducible refine Gr.trans ?_ (by with_reducible assumption))); done)) _ | with_reducible refine Gr.trans ?_ (by with_reducible assumption)))
          have o1 := hide (sli_set HS5.out HF5.out 1 (.slice D5 (ins (ins Y r.y) (r.y + r.h)).length d5))
          have o2 := hide (sli_set (HX2.out.gr gz) HXS2.out 1 (.slice D5 (ins (ins Y r.y) (r.y + r.h)).length d5))
          have o3 := hide (show Made (w5.setCell ⟨S, 1, none⟩ (.slice D5 (ins (ins Y r.y) (r.y + r.h)).length d5)) S #[.slice D X2.length d', .slice D5 (ins (ins Y r.y) (r.y + r.h)).length d5, .slice none 0 0] from made_set (HM2.out.gr gz) 1 (by simp) _ rfl)
          have o4 := hide ((HF2.out.gr gz).store (i := 0) (j := 1) (by decide) (Nat.le_refl _) (.slice D5 (ins (ins Y r.y) (r.y + r.h)).length d5))
          clear HX2 HM2 HF2 HY2 M0 M1 M2 M3 M4 M5 y0 y1 y2 y3 szc gwc hSc HS5
          clear gz c5 f5 g5
          go_wp2
          go_roundw
          case rel => exact ⟨k + 1, X2, _, D, D5, d', d5, by omega, by go_num, o4.out, o2, o1, HXS2, HF5, o3, ⟨HE3.out, HE2.out.2⟩⟩
          case measure => simp only [intOf]; omega
    · obtain rfl : k = l.length := by omega
      have gw5 : Gr w wr := HF.out.below w g0 (by omega)
      obtain ⟨hX, hY⟩ := HE.out
      rw [List.take_length] at hX hY
      have lX := len_lnX l
      have lY := len_lnY l
      have HXE := hide hX
      have HYE := hide hY
      rw [← hX] at lX
      rw [← hY] at lY
      have lX1 : X.length ≤ 1000 := by omega
      have lY1 : Y.length ≤ 1000 := by omega
      obtain ⟨M0, M1, M2, M3, M4, M5⟩ := made3 HMk.out
      have HMB5 := hide (made_fld HMB.out HF.out fun i _ => by omega)
      have k1 := HX.out.cap
      have k2 := HX.out.capB
      have k3 := HY.out.cap
      have k4 := HY.out.capB
      have hS5 : S < wr.heap.size := by omega
      clear HE hX hY lX lY HF HMB HV HL
      go_wp2
      obtain ⟨w5, rfl⟩ : ∃ w5 : World, w5 = wr := ⟨_, rfl⟩
      go_loopw [7] (fun i wr => ∃ (k : Nat) (xs : List RwO) (F : Option Addr) (f : Nat), (k + 1 ≤ X.length ∨ k = 0) ∧ i = iv k ∧ Hid (xs.length = k) ∧ Fld S (fun _ => S) 1 w5 wr ∧ Hid (Rwo wr w5.heap.size F f xs) ∧ Hid (Made wr S #[.slice A1 X.length a, .slice B1 Y.length b, .slice F k f]) ∧ Hid (∀ i x, xs[i]? = some x → x.l = colL X Y m i (Y.length - 1))) (fun i _ => X.length - (intOf i).toNat)
      case atStart => exact ⟨0, [], none, 0, by omega, rfl, rfl, Fld.refl _ _ _ _, rwo_nil _ _, HMk.out, fun i x hx => by simp at hx⟩
      case round =>
        clear M0 M1 M2 M3 M4 M5 HMk
        obtain ⟨k, xs, F, f, hk, rfl, HL0, hF, HR, HM1, HC⟩ := hrel
        obtain ⟨M0, M1, M2, M3, M4, M5⟩ := made3 HM1.out
        have HF := hide hF
        have szr := hF.size
        have HXr := hide (sl_keep HX.out hF HXS.out)
        have HYr := hide (sl_keep HY.out hF HYS.out)
        have gwr : Gr w wr := hF.below w gw5 (by omega)
        have HMr := hide (HM.out.gr gwr)
        have hSr : S < wr.heap.size := by omega
        clear hF
        have s1 : IntKind.i64.wrap ((k : Int) + 1) = (k : Int) + 1 := IntWalk.i64_in _ (by omega)
        by_cases hkl : k + 1 < X.length
        · obtain ⟨x, hx⟩ : ∃ x, X[k]? = some x := ⟨_, List.getElem?_eq_getElem (by omega)⟩
          have HXX := hide hx
          have hk0 : (0 : Int) ≤ (k : Int) := by omega
          have hk1 : (k : Int) + 1 < (X.length : Int) := by omega
          have hk2 : (k : Int) < (X.length : Int) := by omega
          clear hx
          go_wp2
          clear s1
          obtain ⟨wo, rfl⟩ : ∃ wo : World, wo = wr := ⟨_, rfl⟩
          clear M0 M1 M2 M3 M4 M5
          go_loopw [8, 9] (fun v jv wr => ∃ (j : Nat) (O : List Bool) (A' : Option Addr) (d' : Nat), (j + 1 ≤ Y.length ∨ j = 0) ∧ jv = iv j ∧ v = .slice A' O.length d' ∧ Gr wo wr ∧ Hid (OwnL wr wo.heap.size 4 1 boL (.slice A' O.length d') O) ∧ Hid (O = colL X Y m k j) ∧ O.length ≤ j) (fun _ jv _ => Y.length - (intOf jv).toNat)
          case atStart => exact ⟨0, [], none, 0, by omega, rfl, rfl, Gr.refl _, own_nil _ _ _ _ _, rfl, by simp⟩
          case round =>
            obtain ⟨j, O, A', d', hj, rfl, rfl, g, HO, HOE, hOl⟩ := hrel
            have sz := g.size
            obtain ⟨M0, M1, M2, M3, M4, M5⟩ := made3 (HM1.out.gr g)
            have s2 : IntKind.i64.wrap ((j : Int) + 1) = (j : Int) + 1 := IntWalk.i64_in _ (by omega)
            by_cases hjl : j + 1 < Y.length
            · obtain ⟨y, hy⟩ : ∃ y, Y[j]? = some y := ⟨_, List.getElem?_eq_getElem (by omega)⟩
              obtain ⟨bX, oX, hAX, cx⟩ := (HXr.out.gr g).rd.in_ HXX.out
              obtain ⟨bY, oY, hAY, cy⟩ := (HYr.out.gr g).rd.in_ hy
              have HAX := hide hAX
              have HAY := hide hAY
              rw [hAX] at M0
              rw [hAY] at M1
              obtain ⟨z, hz⟩ : ∃ z, cov m x y = z := ⟨_, rfl⟩
              have HOE2 := hide (show O ++ [z] = colL X Y m k (j + 1) by rw [HOE.out, ← hz]; exact colL_snoc X Y m k j HXX.out hy)
              obtain ⟨O2, hO2⟩ : ∃ O2, O ++ [z] = O2 := ⟨_, rfl⟩
              have HO2 := hide hO2
              rw [hO2] at HOE2
              have hO2l : O2.length ≤ j + 1 := by rw [← hO2]; simp; omega
              have HCV := hide (fun (w' : World) (gg : Gr wr w') => covers_any B d m x y w' (HMr.out.gr (g.trans gg)) HV2.out)
              rw [hz] at HCV
              have hj0 : (0 : Int) ≤ (j : Int) := by omega
              have hj1 : (j : Int) + 1 < (Y.length : Int) := by omega
              have hj2 : (j : Int) < (Y.length : Int) := by omega
              clear hy hAX hAY hz hO2
              go_wp2
              clear s2
              refine wp_region_build1 _ 13 (by kernel_rfl) (by kernel_rfl) (Gr.refl _) (d1 := some 87) rfl ?_
              intro s gs
              obtain ⟨Xs, Ys, cs, fs⟩ := gs.use
              have GC := @GrW.cell
              simp only [List.take_succ_cons, List.take_zero]
              repeat (go_big_quiet_step ((first | (go_at_call 45; exact quiet_grw (HCV.out _ (Gr.trans gs (GrW.gr _)))))))
              refine wpQuiet_nil ?_
              clear GC cs fs gs
              refine ⟨fun BB => .slice (some ⟨BB, 0, none⟩) 1 1, #[.bool z], 4, ⟨rfl, rfl, fun w => by go_simp⟩, ?_⟩
              intro B1 wq gq1 l1 ⟨b1, c1, f1⟩
              obtain ⟨Xq, Yq, cq, fq⟩ := gq1.use
              have sq := gq1.size
              (try simp only [World.size_alloc, World.size_setCell, World.heap_drewN] at sq l1)
              simp only [List.drop_succ_cons, List.drop_zero]
              refine wpList_app1 rfl _ _ _ rfl boL wo.heap.size 4 1 1 elBools (by decide) O z O2 HO2.out (.slice A' O.length d') rfl (HO.out.gr (show Gr wr wq from (by repeat (first | with_reducible exact Gr.refl _ | with_reducible assumption | with_reducible refine Gr.alloc ?_ _ | with_reducible refine Gr.drewN ?_ _ | with_reducible refine Gr.drew ?_ | with_reducible refine Gr.setCell ?_ (by first | (dsimp only; omega) | (simp only [World.size_alloc]; omega) | (with_reducible refine Gr.size ?_; (repeat (first | with_reducible exact Gr.refl _ | with_reducible assumption | with_reducible refine Gr.alloc ?_ _ | with_reducible refine Gr.drewN ?_ _ | with_reducible refine Gr.drew ?_ | with_reducible refine Gr.trans ?_ (by with_reducible assumption))); done)) _ | with_reducible refine Gr.trans ?_ (by with_reducible assumption))))) ⟨B1, 0, none⟩ 1 rfl rfl (by intro j u hu; rw [addr_add, Nat.zero_add, c1]; simpa using hu) (by intro u hu; simp at hu; subst hu; rfl) (by omega) (by decide) (by have := Gr.size (show Gr wr wq from (by repeat (first | with_reducible exact Gr.refl _ | with_reducible assumption | with_reducible refine Gr.alloc ?_ _ | with_reducible refine Gr.drewN ?_ _ | with_reducible refine Gr.drew ?_ | with_reducible refine Gr.setCell ?_ (by first | (dsimp only; omega) | (simp only [World.size_alloc]; omega) | (with_reducible refine Gr.size ?_; (repeat (first | with_reducible exact Gr.refl _ | with_reducible assumption | with_reducible refine Gr.alloc ?_ _ | with_reducible refine Gr.drewN ?_ _ | with_reducible refine Gr.drew ?_ | with_reducible refine Gr.trans ?_ (by with_reducible assumption))); done)) _ | with_reducible refine Gr.trans ?_ (by with_reducible assumption)))); omega) ?_
              intro gg cap1 w8 hO8 hG8 _ _ _
              have g8 : Gr wo w8 := hG8 _ (g.trans (show Gr wr wq from (by repeat (first | with_reducible exact Gr.refl _ | with_reducible assumption | with_reducible refine Gr.alloc ?_ _ | with_reducible refine Gr.drewN ?_ _ | with_reducible refine Gr.drew ?_ | with_reducible refine Gr.setCell ?_ (by first | (dsimp only; omega) | (simp only [World.size_alloc]; omega) | (with_reducible refine Gr.size ?_; (repeat (first | with_reducible exact Gr.refl _ | with_reducible assumption | with_reducible refine Gr.alloc ?_ _ | with_reducible refine Gr.drewN ?_ _ | with_reducible refine Gr.drew ?_ | with_reducible refine Gr.trans ?_ (by with_reducible assumption))); done)) _ | with_reducible refine Gr.trans ?_ (by with_reducible assumption))))) (Nat.le_refl _)
              have HO8 := hide hO8
              clear hO8 hG8 c1 f1 cq fq M0 M1 M2 M3 M4 M5 cx cy
              go_wp2
              go_roundw
              case rel => exact ⟨j + 1, O2, some ⟨gg, 0, none⟩, cap1, by omega, by go_num, rfl, g8, HO8, HOE2, hO2l⟩
              case measure => simp only [intOf]; omega
            · have hjn : ¬ (j : Int) + 1 < (Y.length : Int) := by omega
              have HOE1 := hide (show O = colL X Y m k (Y.length - 1) by rw [HOE.out, show Y.length - 1 = j by omega])
              obtain ⟨ys, hys⟩ : ∃ ys, xs ++ [(⟨A', d', O⟩ : RwO)] = ys := ⟨_, rfl⟩
              have HYS' := hide hys
              have hyl := hide (show ys.length = k + 1 by rw [← hys]; simp [HL0.out])
              have HC2 := hide (show ∀ i x, ys[i]? = some x → x.l = colL X Y m i (Y.length - 1) by
                intro i x hx
                rw [← hys] at hx
                rcases Nat.lt_trichotomy i xs.length with h1 | h1 | h1
                · rw [List.getElem?_append_left h1] at hx
                  exact HC.out i x hx
                · subst h1
                  rw [List.getElem?_append_right (Nat.le_refl _)] at hx
                  simp at hx
                  subst hx
                  rw [HL0.out]
                  exact HOE1.out
                · rw [List.getElem?_eq_none (by simp; omega)] at hx
                  cases hx)
              have HOW := hide (show OwnL wr w5.heap.size 64 1 roL (.slice F k f) xs by
                have := (HR.out.gr g).own
                rwa [HL0.out] at this)
              have hok := hide (fun k hk => (OwnL.lt HOW.out k hk).1)
              have hxl := hide (show xs.length ≤ 1000 by rw [HL0.out]; omega)
              have HM2 := hide (HM1.out.gr g)
              clear hys HOE
              go_wp2_with (refine wpList_app2 rfl _ _ _ rfl roL w5.heap.size 64 1 24 elRowsO (by decide) xs ⟨A', d', O⟩ ys HYS'.out (.slice F k f) rfl (HOW.out.gr (Gr.alloc (Gr.refl _) _)) ⟨wr.heap.size, 0, none⟩ 1 rfl rfl (newsA wr #[.slice A' O.length d'] 64) (by intro u hu; simp at hu; subst hu; rfl) (by have := hxl.out; omega) (by decide) (by simp only [World.size_alloc]; omega) ?_; intro gg cap1 w8 hO8 hG8 hg8 hat8 hlt8; have m8 := made_grown (HM2.out.gr (Gr.alloc (Gr.refl _) _)) hg8 hok.out hS5; obtain ⟨m80, m81, m82⟩ := id m8)
              have r8 := hide ((Rwo.next (y := ⟨A', d', O⟩) HR.out HL0.out g HO.out szr (Gr.alloc (Gr.refl _) _) HYS'.out hO8 hg8 hat8).set hS5 2 (.slice (some ⟨gg, 0, none⟩) ys.length cap1))
              have f8 := hide (((HF.out.gr (g.trans (Gr.alloc (Gr.refl _) (.cells #[.slice A' O.length d'] 64)))).grown hg8 hok.out).store (i := 0) (j := 2) (by decide) (Nat.le_refl _) (.slice (some ⟨gg, 0, none⟩) ys.length cap1))
              have m9 := hide (show Made (w8.setCell ⟨S, 2, none⟩ (.slice (some ⟨gg, 0, none⟩) ys.length cap1)) S #[.slice A1 X.length a, .slice B1 Y.length b, .slice (some ⟨gg, 0, none⟩) (k + 1) cap1] from made_set m8 2 (by simp) _ (by rw [← hyl.out]; rfl))
              clear hO8 hG8 hg8 hat8 hlt8 m8 m80 m81 m82 M0 M1 M2 M3 M4 M5
              go_roundw
              case rel => exact ⟨k + 1, ys, some ⟨gg, 0, none⟩, cap1, by omega, by go_num, hyl, f8.out, r8, m9, HC2⟩
              case measure => simp only [intOf]; omega
        · have hkn : ¬ (k : Int) + 1 < (X.length : Int) := by omega
          have hkX := hide (show k = X.length - 1 by omega)
          have mB := made_fld HMB5.out HF.out fun i _ => by omega
          obtain ⟨N0, N1, N2, N3, N4, N5⟩ := made3 mB
          have hBr := mB.1
          have hw5 : w.heap.size < w5.heap.size := by omega
          have e1 : ∀ x, A1 = some x → w.heap.size < x.block := fun x hx => by have := HXS.out x hx; omega
          have e2 : ∀ x, B1 = some x → w.heap.size < x.block := fun x hx => by have := HYS.out x hx; omega
          have hW := ow_of (X := X) (Y := Y) (A := A1) (B := B1) (((HR.out.set hw5 0 (.slice A1 X.length a)).set hw5 1 (.slice B1 Y.length b)).set hw5 2 (.slice F k f)) HL0.out (sli_lt HX.out) (sli_lt HY.out)
          have hFr := fr_of (S := w.heap.size) (X := X) (Y := Y) (A := A1) (B := B1) (((HR.out.set hw5 0 (.slice A1 X.length a)).set hw5 1 (.slice B1 Y.length b)).set hw5 2 (.slice F k f)) HL0.out (by omega) (fun x hx => by have := e1 x hx; omega) (fun x hx => by have := e2 x hx; omega)
          have HWO := hide hW
          have HFO := hide hFr
          clear hW hFr
          have hG := grO_of (m := m) (sli_set (sli_set (sli_set HXr.out e1 0 (.slice A1 X.length a)) e1 1 (.slice B1 Y.length b)) e1 2 (.slice F k f)) (sli_set (sli_set (sli_set HYr.out e2 0 (.slice A1 X.length a)) e2 1 (.slice B1 Y.length b)) e2 2 (.slice F k f)) (((HR.out.set hw5 0 (.slice A1 X.length a)).set hw5 1 (.slice B1 Y.length b)).set hw5 2 (.slice F k f)) HL0.out hkX.out HC.out lX1 lY1
          have HG := hide hG
          clear hG mB e1 e2 HR HC HXr HYr HMr
          go_wp2
          refine bodyPost_ret (v := goV X Y A1 B1 F a b f k) (by simp [results, Try.results28, go_sem, *]) rfl ?_
          have g9 := ((gwr.setCell (p := ⟨w.heap.size, 0, none⟩) (Nat.le_refl _) (.slice A1 X.length a)).setCell (p := ⟨w.heap.size, 1, none⟩) (Nat.le_refl _) (.slice B1 Y.length b)).setCell (p := ⟨w.heap.size, 2, none⟩) (Nat.le_refl _) (.slice F k f)
          have h1 := HXE.out
          have h2 := HYE.out
          have h3 := hkX.out
          subst h1 h2 h3
          exact ⟨A1, B1, F, a, b, f, _, _, rfl, HG.out, HWO.out, HFO.out, g9⟩
theorem makeGrid_any (A : Option Addr) (c : Nat) (l : List Rc) (B : Option Addr) (d : Nat) (m : List Rc) (w : World) (hl : SlR w A c l) (hm : SlR w B d m) (hv : ∀ r ∈ l, InM 1048576 r) (hv2 : ∀ r ∈ m, InM 1048576 r) (h96 : l.length ≤ 100) :
    Calls Try.prog 28 #[.slice A l.length c, .slice B m.length d] w (NewO w (lnX l) (lnY l) (cel (lnX l) (lnY l) m)) :=
  (makeGrid2_any A c l B d m w hl hm hv hv2 h96).mono fun e w' ⟨A1, B1, F1, a, b, f, R, q, he, hG, _, _, g⟩ => ⟨A1, B1, F1, a, b, f, R, q, he, hG, g⟩
end RG
end Go.Proofs.Ytjnfodbniohkhaa
