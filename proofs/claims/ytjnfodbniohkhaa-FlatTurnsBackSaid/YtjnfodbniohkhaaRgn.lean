/-
  Regions: the empty grid with the lines of all sides, in the code.
-/
import Derived.Test.YtjnfodbniohkhaaRgc
import Derived.Test.YtjnfodbniohkhaaSrt
import Derived.Deep.OwnRows
set_option linter.unusedVariables false
set_option linter.unusedSimpArgs false
namespace Go.Proofs.Ytjnfodbniohkhaa
set_option linter.unusedVariables false
set_option linter.unusedSimpArgs false
open Go Go.ChangeShapes Go.WideShapes Go.ChangeAt Go.RowKit Go.Deep

namespace RG
theorem cell_grown {w w' : World} {row : Option Nat} {b o : Nat} {v : Value} (h : w.cell? ⟨b, o, none⟩ = some v) (g : w.grownBy w' row) (hr : some b ≠ row) : w'.cell? ⟨b, o, none⟩ = some v :=
  (g.cell_far ⟨b, o, none⟩ (cell_lt (by rw [h]; rfl)) hr).trans h
theorem Fld.grown {lo : Nat} {rb : Nat → Nat} {n : Nat} {w w' w2 : World} {row : Option Nat} (h : Fld lo rb n w w') (g : w'.grownBy w2 row) (hr : ∀ k, row = some k → w.heap.size ≤ k) : Fld lo rb n w w2 := by
  refine ⟨fun a ha hl => Gr.grown (h.below a ha hl) g (fun k hk => Nat.le_trans ha.size (hr k hk)), Nat.le_trans h.size g.size, fun b o hb hn => ?_⟩
  have hb2 := Nat.lt_of_lt_of_le hb h.size
  have hne : some b ≠ row := fun e => by
    have := hr b e.symm
    omega
  exact ⟨(g.cell_far ⟨b, o, none⟩ hb2 hne).trans (h.cell b o hb hn).1, (g.frozen_far ⟨b, o, none⟩ hb2 hne).trans (h.cell b o hb hn).2⟩
theorem flX_snoc (l : List Rc) (r : Rc) : flX (l ++ [r]) = flX l ++ [r.x, r.x + r.w] := by simp [flX]
theorem flY_snoc (l : List Rc) (r : Rc) : flY (l ++ [r]) = flY l ++ [r.y, r.y + r.h] := by simp [flY]
theorem allR_snoc {L : List RS} {k : Nat} {x : RS} (h : L[k]? = some x) : allR (L.take (k + 1)) = allR (L.take k) ++ x.l := by
  unfold allR
  rw [take_at h, List.flatMap_append]
  simp
/-- two numbers in a block of their own -/
theorem news2 (w : World) (p q : Int) (t : TypeId) : ∀ j u, ([p, q].flatMap inL)[j]? = some u → (w.alloc (.cells #[iv p, iv q] t)).cell? ((⟨w.heap.size, 0, none⟩ : Addr).add j) = some u := fun j u h => newsA w #[iv p, iv q] t j u h
theorem one2 (p q : Int) : ∀ u ∈ [p, q].flatMap inL, u.oneCell' = true := by
  intro u hu
  simp at hu
  rcases hu with rfl | rfl <;> rfl
/-- rows of cells that are empty, and the row of these rows -/
abbrev rwL (n : Nat) (b : Nat) : List Value := [.slice (some ⟨b, 0, none⟩) n n]
structure Rws (w : World) (lo n : Nat) (F : Option Addr) (f : Nat) (bs : List Nat) : Prop where
  own : OwnL w lo 64 1 (rwL n) (.slice F bs.length f) bs
  cell : ∀ b ∈ bs, lo ≤ b ∧ b < w.heap.size ∧ ∀ j, j < n → w.cell? ⟨b, j, none⟩ = some (.bool false) ∧ w.frozen? ⟨b, j, none⟩ = false
  nd : bs.Nodup
  far : ∀ b ∈ bs, (Value.slice F bs.length f).ownBlock ≠ some b
theorem rws_nil (w : World) (lo n : Nat) : Rws w lo n none 0 [] := ⟨own_nil _ _ _ _ _, fun b hb => by simp at hb, List.nodup_nil, fun b hb => by simp at hb⟩
theorem Rws.next {w w2 w8 : World} {lo n : Nat} {F : Option Addr} {f gg cap b0 k : Nat} {bs : List Nat} (h : Rws w lo n F f bs) (hk : bs.length = k) (g : Gr w w2) (hlo : lo ≤ w.heap.size) (hb : w.heap.size ≤ b0) (hb2 : b0 < w2.heap.size)
    (hc : ∀ j, j < n → w2.cell? ⟨b0, j, none⟩ = some (.bool false) ∧ w2.frozen? ⟨b0, j, none⟩ = false)
    (ho : w8.ownsRow lo 64 1 (.slice (some ⟨gg, 0, none⟩) (k + 1) cap) (k + 1) (bs.flatMap (rwL n) ++ rwL n b0)) (hg : w2.grownBy w8 (Value.slice F k f).ownBlock) (hat : (Value.slice F k f).ownBlock = some gg ∨ gg = w2.heap.size) :
    Rws w8 lo n (some ⟨gg, 0, none⟩) cap (bs ++ [b0]) := by
  subst hk
  have hlt := fun k hk => World.ownsRow.lt h.own k hk
  have hF0 : (Value.slice F bs.length f).ownBlock ≠ some b0 := fun e => by have := (hlt _ e).2; omega
  refine ⟨?_, ?_, ?_, ?_⟩
  · unfold OwnL
    rw [List.flatMap_append, List.length_append]
    simpa using ho
  · intro b hbm
    have key : lo ≤ b ∧ b < w2.heap.size ∧ (some b ≠ (Value.slice F bs.length f).ownBlock) ∧ ∀ j, j < n → w2.cell? ⟨b, j, none⟩ = some (.bool false) ∧ w2.frozen? ⟨b, j, none⟩ = false := by
      rcases List.mem_append.1 hbm with k | k
      · obtain ⟨k1, k2, k3⟩ := h.cell b k
        exact ⟨k1, Nat.lt_of_lt_of_le k2 g.size, fun e => h.far b k e.symm, fun j hj => ⟨(g.cell _ _ k2).trans (k3 j hj).1, (g.frozen _ _ k2).trans (k3 j hj).2⟩⟩
      · rw [List.mem_singleton] at k
        subst k
        exact ⟨Nat.le_trans hlo hb, hb2, fun e => hF0 e.symm, hc⟩
    obtain ⟨k1, k2, k3, k4⟩ := key
    exact ⟨k1, Nat.lt_of_lt_of_le k2 hg.size, fun j hj => ⟨(hg.cell_far ⟨b, j, none⟩ k2 k3).trans (k4 j hj).1, (hg.frozen_far ⟨b, j, none⟩ k2 k3).trans (k4 j hj).2⟩⟩
  · rw [List.nodup_append]
    refine ⟨h.nd, by simp, fun x hx y hy e => ?_⟩
    rw [List.mem_singleton] at hy
    subst e hy
    have := (h.cell x hx).2.1
    omega
  · intro b hbm e
    have e' : gg = b := by simpa [Value.ownBlock] using e
    subst e'
    rcases List.mem_append.1 hbm with k | k
    · rcases hat with q | q
      · exact h.far _ k q
      · have := (h.cell _ k).2.1
        have := g.size
        omega
    · rw [List.mem_singleton] at k
      rcases hat with q | q
      · exact hF0 (k ▸ q)
      · omega
/-- a store below does not touch the rows -/
theorem Rws.set {w : World} {lo n : Nat} {F : Option Addr} {f : Nat} {bs : List Nat} (h : Rws w lo n F f bs) {S : Nat} (hS : S < lo) (i : Nat) (v : Value) : Rws (w.setCell ⟨S, i, none⟩ v) lo n F f bs := by
  have hb : ∀ b, b ≠ S → (w.setCell ⟨S, i, none⟩ v).heap[b]? = w.heap[b]? := fun b hb => heap_setCell_other w ⟨S, i, none⟩ b v (fun e => hb (by simpa using e))
  refine ⟨?_, fun b hbm => ?_, h.nd, h.far⟩
  · obtain ⟨h0, h1 | ⟨b, cap, cur, h1, hb', h2, h3⟩⟩ := id h.own
    · exact ⟨h0, .inl h1⟩
    · exact ⟨h0, .inr ⟨b, cap, cur, h1, hb', (hb b (by omega)).trans h2, h3⟩⟩
  · obtain ⟨k1, k2, k3⟩ := h.cell b hbm
    exact ⟨k1, by simpa using k2, fun j hj => ⟨(World.cell?_of_block (hb b (by omega))).trans (k3 j hj).1, (World.frozen?_of_block (hb b (by omega))).trans (k3 j hj).2⟩⟩
theorem made_grown {w w' : World} {B lo : Nat} {z : Array Value} {row : Option Nat} (h : Made w B z) (hg : w.grownBy w' row) (hr : ∀ k, row = some k → lo ≤ k) (hB : B < lo) : Made w' B z := by
  obtain ⟨h1, h2, h3⟩ := h
  have hne : some B ≠ row := fun e => by have := hr B e.symm; omega
  exact ⟨Nat.lt_of_lt_of_le h1 hg.size, fun o => (hg.cell_far ⟨B, o, none⟩ h1 hne).trans (h2 o), fun o => (hg.frozen_far ⟨B, o, none⟩ h1 hne).trans (h3 o)⟩
theorem made_set {w : World} {B : Nat} {z z' : Array Value} (h : Made w B z) (i : Nat) (hi : i < z.size) (v : Value) (e : z' = z.setIfInBounds i v) : Made (w.setCell ⟨B, i, none⟩ v) B z' := by
  subst e
  obtain ⟨h1, h2, h3⟩ := h
  refine ⟨by simpa using h1, fun o => ?_, fun o => ?_⟩
  · by_cases c : i = o
    · subst c
      rw [World.cell?_setCell_same' _ _ _ (by rw [h2, Array.getElem?_eq_getElem hi]; rfl), Array.getElem?_setIfInBounds_self_of_lt hi]
    · rw [World.cell?_setCell_other (a := ⟨B, i, none⟩) (b := ⟨B, o, none⟩) (h := by intro h; injection h with _ h; exact c h), h2, Array.getElem?_setIfInBounds_ne c]
  · rw [← h3 o]
    simp [go_sem]
theorem made_zero (w : World) (n : Nat) (t : TypeId) : ∀ j, j < n → (w.alloc (.cells (madeCells #[.bool false] n) t)).cell? ⟨w.heap.size, j, none⟩ = some (.bool false) ∧ (w.alloc (.cells (madeCells #[.bool false] n) t)).frozen? ⟨w.heap.size, j, none⟩ = false := by
  intro j hj
  obtain ⟨h1, h2, h3⟩ := Made.new w (madeCells #[.bool false] n) t
  refine ⟨?_, h3 j⟩
  rw [h2]
  simp [madeCells, hj, Nat.mod_one]
theorem made3 {w : World} {S : Nat} {a b c : Value} (h : Made w S #[a, b, c]) : w.cell? ⟨S, 0, none⟩ = some a ∧ w.cell? ⟨S, 1, none⟩ = some b ∧ w.cell? ⟨S, 2, none⟩ = some c ∧ w.frozen? ⟨S, 0, none⟩ = false ∧ w.frozen? ⟨S, 1, none⟩ = false ∧ w.frozen? ⟨S, 2, none⟩ = false :=
  ⟨h.2.1 0, h.2.1 1, h.2.1 2, h.2.2 0, h.2.2 1, h.2.2 2⟩
theorem nodup_at {l : List Nat} (h : l.Nodup) {i k p : Nat} (h1 : l[i]? = some p) (h2 : l[k]? = some p) : i = k := by
  obtain ⟨l1, e1⟩ := List.getElem?_eq_some_iff.1 h1
  obtain ⟨l2, e2⟩ := List.getElem?_eq_some_iff.1 h2
  have hp := List.pairwise_iff_getElem.1 h
  rcases Nat.lt_trichotomy i k with c | c | c
  · exact absurd (e1.trans e2.symm) (hp i k l1 l2 c)
  · exact c
  · exact absurd (e2.trans e1.symm) (hp k i l2 l1 c)
theorem newsN (w : World) (cs : Array Value) (t : TypeId) (n : Nat) (h : n = w.heap.size) : ∀ j u, cs.toList[j]? = some u → (w.alloc (.cells cs t)).cell? ((⟨n, 0, none⟩ : Addr).add j) = some u := by
  subst h
  exact newsA w cs t
theorem made_fld {lo B n : Nat} {rb : Nat → Nat} {w w' : World} {z : Array Value} (h : Made w B z) (k : Fld lo rb n w w') (hne : ∀ i, i < n → B ≠ rb i) : Made w' B z :=
  ⟨Nat.lt_of_lt_of_le h.1 k.size, fun o => (k.cell B o h.1 hne).1.trans (h.2.1 o), fun o => (k.cell B o h.1 hne).2.trans (h.2.2 o)⟩
theorem GrM.weak {w : World} {lo up lo' up' : Nat} {X Y : List Int} {A B F : Option Addr} {a b f : Nat} {rb : Nat → Nat} {c : Nat → Nat → Bool} (h : GrM w lo up X Y A B F a b f rb c) (h1 : lo' ≤ lo) (h2 : up ≤ up') (h3 : up' ≤ w.heap.size) : GrM w lo' up' X Y A B F a b f rb c :=
  ⟨h.sx, h.sy, h.rows, h.cell, h.inj, fun x hx => ⟨Nat.le_trans h1 (h.lx x hx).1, Nat.lt_of_lt_of_le (h.lx x hx).2.1 h2, (h.lx x hx).2.2⟩, fun x hx => ⟨Nat.le_trans h1 (h.ly x hx).1, Nat.lt_of_lt_of_le (h.ly x hx).2.1 h2, (h.ly x hx).2.2⟩, fun x hx => ⟨Nat.le_trans h1 (h.lf x hx).1, Nat.lt_of_lt_of_le (h.lf x hx).2.1 h2, (h.lf x hx).2.2⟩, fun i hi => ⟨Nat.le_trans h1 (h.lr i hi).1, Nat.lt_of_lt_of_le (h.lr i hi).2 h2⟩, h3, h.cf, h.cfB, h.n1, h.n2⟩
theorem GrM.set {w : World} {lo up : Nat} {X Y : List Int} {A B F : Option Addr} {a b f : Nat} {rb : Nat → Nat} {c : Nat → Nat → Bool} (h : GrM w lo up X Y A B F a b f rb c) {S : Nat} (hS : S < lo) (i : Nat) (v : Value) : GrM (w.setCell ⟨S, i, none⟩ v) lo up X Y A B F a b f rb c :=
  h.keep (by simp) fun b o hb _ => by
    have hne : b ≠ S := by omega
    have e := heap_setCell_other w ⟨S, i, none⟩ b v (fun e => hne (by simpa using e))
    exact ⟨World.cell?_of_block e, World.frozen?_of_block e⟩
/-- what is known when all rows are made -/
theorem grM_of {w5 wr : World} {lo S : Nat} {X Y : List Int} {A B F : Option Addr} {a b f : Nat} {bs : List Nat} (hX : OwnL w5 lo 3 1 inL (.slice A X.length a) X) (hY : OwnL w5 lo 3 1 inL (.slice B Y.length b) Y)
    (hXS : (Value.slice A X.length a).ownBlock ≠ some S) (hYS : (Value.slice B Y.length b).ownBlock ≠ some S) (hF : Fld S (fun _ => S) 1 w5 wr) (hR : Rws wr w5.heap.size Y.length F f bs) (hl : bs.length = X.length) (hlo : lo ≤ w5.heap.size) (h1 : X.length ≤ 1000) (h2 : Y.length ≤ 1000) :
    ∃ rb, GrM wr lo wr.heap.size X Y A B F a b f rb (fun _ _ => false) := by
  have lx := fun k hk => World.ownsRow.lt hX k hk
  have ly := fun k hk => World.ownsRow.lt hY k hk
  have kp : ∀ {Z : List Int} {C : Option Addr} {c : Nat}, OwnL w5 lo 3 1 inL (.slice C Z.length c) Z → (Value.slice C Z.length c).ownBlock ≠ some S → SlI wr C c Z := by
    intro Z C c h hne
    have hs := own_sli h
    refine ⟨rdl_keep hs.rd fun x hx o => ?_, hs.cap, hs.capB⟩
    subst hx
    rcases h.2 with ⟨q, _⟩ | ⟨g, cap, cur, q, h3, h4, _⟩
    · cases q
    · cases q
      refine (hF.cell _ _ (Array.getElem?_eq_some_iff.1 h4).1 fun i _ e => hne ?_).1
      simp [Value.ownBlock, e]
  have bA : ∀ {Z : List Int} {C : Option Addr} {c : Nat}, OwnL w5 lo 3 1 inL (.slice C Z.length c) Z → ∀ x, C = some x → lo ≤ x.block ∧ x.block < w5.heap.size := by
    intro Z C c h x hx
    subst hx
    rcases h.2 with ⟨q, _⟩ | ⟨g, cap, cur, q, h3, h4, _⟩
    · cases q
    · cases q
      exact ⟨h3, (Array.getElem?_eq_some_iff.1 h4).1⟩
  have hbs : ∀ i, i < X.length → ∃ b, bs[i]? = some b ∧ b ∈ bs := fun i hi => ⟨_, List.getElem?_eq_getElem (by omega), List.getElem_mem _⟩
  obtain ⟨_, hrd, hcap, hcapB⟩ := OwnL.rd (c := rwL Y.length) (fun _ => rfl) hR.own
  refine ⟨fun i => bs[i]?.getD 0, ⟨kp hX hXS, kp hY hYS, fun i hi => ?_, fun i j hi hj => ?_, fun i k hi hk e => ?_, fun x hx => ?_, fun x hx => ?_, fun x hx => ?_, fun i hi => ?_, Nat.le_refl _, by omega, by unfold maxLen at hcapB; omega, h1, h2⟩⟩
  · obtain ⟨p, hp, _⟩ := hbs i hi
    rcases hR.own.2 with ⟨_, q2⟩ | ⟨g, cap, cur, q, _⟩
    · omega
    · cases q
      obtain ⟨b', off', e, c0, _⟩ := hrd i p hp
      cases e
      exact ⟨g, rfl, by rw [hp]; simpa using c0⟩
  · obtain ⟨p, hp, hm⟩ := hbs i hi
    simp only [hp]
    exact (hR.cell p hm).2.2 j hj
  · obtain ⟨p, hp, _⟩ := hbs i hi
    obtain ⟨q, hq, _⟩ := hbs k hk
    simp only [hp, hq, Option.getD_some] at e
    subst e
    exact nodup_at hR.nd hp hq
  · obtain ⟨k1, k2⟩ := bA hX x hx
    refine ⟨k1, Nat.lt_of_lt_of_le k2 hF.size, fun i hi e => ?_⟩
    obtain ⟨p, hp, hm⟩ := hbs i hi
    simp only [hp, Option.getD_some] at e
    have := (hR.cell p hm).1
    omega
  · obtain ⟨k1, k2⟩ := bA hY x hx
    refine ⟨k1, Nat.lt_of_lt_of_le k2 hF.size, fun i hi e => ?_⟩
    obtain ⟨p, hp, hm⟩ := hbs i hi
    simp only [hp, Option.getD_some] at e
    have := (hR.cell p hm).1
    omega
  · subst hx
    rcases hR.own.2 with ⟨q, _⟩ | ⟨g, cap, cur, q, h3, h4, _⟩
    · cases q
    · cases q
      refine ⟨Nat.le_trans hlo h3, (Array.getElem?_eq_some_iff.1 h4).1, fun i hi e => ?_⟩
      obtain ⟨p, hp, hm⟩ := hbs i hi
      simp only [hp, Option.getD_some] at e
      exact hR.far p hm (by simp [Value.ownBlock, e])
  · obtain ⟨p, hp, hm⟩ := hbs i hi
    simp only [hp, Option.getD_some]
    obtain ⟨k1, k2, _⟩ := hR.cell p hm
    exact ⟨Nat.le_trans hlo k1, k2⟩
end RG
end Go.Proofs.Ytjnfodbniohkhaa
