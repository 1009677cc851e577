/-
  Regions: a grid in memory; lists of lists of rectangles in memory; an append of several elements.
-/
import Derived.Test.YtddhaiaapomdjaaGreatRgir
set_option linter.unusedVariables false
set_option linter.unusedSimpArgs false
namespace Go.Proofs.YtddhaiaapomdjaaGreat
set_option linter.unusedVariables false
set_option linter.unusedSimpArgs false
open Go Go.ChangeShapes Go.WideShapes Go.ChangeAt Go.RowKit Go.Deep

namespace RG
/-- an append of several elements onto a row of the call's own -/
theorem wpList_appZ {P : Program} {w : World} {ops : Array Oper} {rest : List Oper} {o : Oper} {a : Act} {Q : Exit → Act → World → Prop} (hgd : o.guard = none) (s x : Operand) (t : TypeId)
    (ho : o.op = .call { callee := .builtin .append, args := #[s, x], argTypes := #[t, t] })
    {α : Type} (c : α → List Value) (base : Nat) (e : TypeId) (k bts : Nat) (T : ElT P t e k bts) (hk : 0 < k) (xs zs ys : List α) (hys : xs ++ zs = ys) (v : Value) (hs : a.eval s = v) (hown : OwnL w base e k c v xs)
    (ad : Addr) (n cc : Nat) (hx : a.eval x = .slice (some ad) n cc) (hn : zs.length = n) (hn0 : 0 < n) (hl : ∀ y, (c y).length = k) (hnews : ∀ j u, (zs.flatMap c)[j]? = some u → w.cell? (ad.add j) = some u) (h1 : ∀ u ∈ zs.flatMap c, u.oneCell' = true)
    (hm : xs.length + n ≤ 1000000) (hb : bts ≤ 10000) (hbase : base ≤ w.heap.size)
    (h : ∀ g cap w', OwnL w' base e k c (.slice (some ⟨g, 0, none⟩) ys.length cap) ys → (∀ b, Gr b w → b.heap.size ≤ base → Gr b w') → w.grownBy w' v.ownBlock → (v.ownBlock = some g ∨ g = w.heap.size) → g < w'.heap.size → wpList P ops Q rest (a.put o.dst (.slice (some ⟨g, 0, none⟩) ys.length cap)) w') : wpList P ops Q (o :: rest) a w := by
  obtain ⟨i, z, hi, hz, hsz, hby, hzs⟩ := T.inf
  subst hys
  have hlt := fun k hk => (World.ownsRow.lt hown k hk).1
  refine wpList_append_lies w hgd s x t ho base e i z k bts T.und hi hz hsz hby hzs hk v xs.length (xs.flatMap c) hs hown ad n cc (zs.flatMap c) hx (by rw [fm_len hl, hn]) hnews h1 (by omega) (by unfold maxLen; omega)
    (Nat.le_trans (Nat.mul_le_mul hm hb) (by decide)) hbase _ rfl ?_
  intro g cap w' h2 h3 h4 h5
  have hO : OwnL w' base e k c (.slice (some ⟨g, 0, none⟩) (xs ++ zs).length cap) (xs ++ zs) := by
    unfold OwnL
    rw [List.flatMap_append, List.length_append, hn]
    exact h2
  have := h g cap w' hO (fun b hb hle => Gr.grown hb h3 (fun k hk => by have := hlt k hk; omega)) h3 h4 h5
  rwa [List.length_append, hn] at this
theorem wpList_app2 {P : Program} {w : World} {ops : Array Oper} {rest : List Oper} {o : Oper} {a : Act} {Q : Exit → Act → World → Prop} (hgd : o.guard = none) (s x : Operand) (t : TypeId)
    (ho : o.op = .call { callee := .builtin .append, args := #[s, x], argTypes := #[t, t] })
    {α : Type} (c : α → List Value) (base : Nat) (e : TypeId) (k bts : Nat) (T : ElT P t e k bts) (hk : 0 < k) (xs : List α) (y : α) (ys : List α) (hys : xs ++ [y] = ys) (v : Value) (hs : a.eval s = v) (hown : OwnL w base e k c v xs)
    (ad : Addr) (cc : Nat) (hx : a.eval x = .slice (some ad) 1 cc) (hl : (c y).length = k) (hnews : ∀ j u, (c y)[j]? = some u → w.cell? (ad.add j) = some u) (h1 : ∀ u ∈ c y, u.oneCell' = true)
    (hn : xs.length ≤ 1000000) (hb : bts ≤ 10000) (hbase : base ≤ w.heap.size)
    (h : ∀ g cap w', OwnL w' base e k c (.slice (some ⟨g, 0, none⟩) ys.length cap) ys → (∀ b, Gr b w → b.heap.size ≤ base → Gr b w') → w.grownBy w' v.ownBlock → (v.ownBlock = some g ∨ g = w.heap.size) → g < w'.heap.size → wpList P ops Q rest (a.put o.dst (.slice (some ⟨g, 0, none⟩) ys.length cap)) w') : wpList P ops Q (o :: rest) a w := by
  obtain ⟨i, z, hi, hz, hsz, hby, hzs⟩ := T.inf
  subst hys
  have hlt := fun k hk => (World.ownsRow.lt hown k hk).1
  refine wpList_append_lies w hgd s x t ho base e i z k bts T.und hi hz hsz hby hzs hk v xs.length (xs.flatMap c) hs hown ad 1 cc (c y) hx (by rw [hl, Nat.one_mul]) hnews h1 (by omega) (by unfold maxLen; omega)
    (Nat.le_trans (Nat.mul_le_mul (show xs.length + 1 ≤ 1000001 by omega) hb) (by decide)) hbase _ rfl ?_
  intro g cap w' h2 h3 h4 h5
  have hO : OwnL w' base e k c (.slice (some ⟨g, 0, none⟩) (xs ++ [y]).length cap) (xs ++ [y]) := by
    unfold OwnL
    rw [fm_snoc, List.length_append]
    exact h2
  have := h g cap w' hO (fun b hb hle => Gr.grown hb h3 (fun k hk => by have := hlt k hk; omega)) h3 h4 h5
  rwa [List.length_append] at this
theorem OwnL.kept {α : Type} {c : α → List Value} {w w' : World} {base : Nat} {e : TypeId} {k : Nat} {v : Value} {xs : List α} {row : Option Nat} (h : OwnL w base e k c v xs) (hg : w.grownBy w' row) (hne : v.ownBlock = none ∨ v.ownBlock ≠ row) : OwnL w' base e k c v xs := World.ownsRow.kept h hg hne
theorem OwnL.lt {α : Type} {c : α → List Value} {w : World} {base : Nat} {e : TypeId} {k : Nat} {v : Value} {xs : List α} (h : OwnL w base e k c v xs) : ∀ b, v.ownBlock = some b → base ≤ b ∧ b < w.heap.size := fun b hb => World.ownsRow.lt h b hb
/-- two rows of the call's own lie apart -/
def Dj (u v : Value) : Prop := ∀ b, u.ownBlock = some b → v.ownBlock ≠ some b
theorem Dj.symm {u v : Value} (h : Dj u v) : Dj v u := fun b hb hu => h b hu hb
theorem Dj.ne {u v : Value} (h : Dj u v) : u.ownBlock = none ∨ u.ownBlock ≠ v.ownBlock := by
  cases e : u.ownBlock with
  | none => exact .inl rfl
  | some b => exact .inr fun q => h b e q.symm
theorem dj_nil (v : Value) (n c : Nat) : Dj (.slice none n c) v := by
  intro b hb
  cases hb
/-- a row that has grown lies apart from the other one still -/
theorem dj_next {w : World} {u v : Value} {g n cap : Nat} (h : Dj u v) (hv : ∀ b, v.ownBlock = some b → b < w.heap.size) (hat : u.ownBlock = some g ∨ g = w.heap.size) : Dj (.slice (some ⟨g, 0, none⟩) n cap) v := by
  intro b hb hvb
  have e : b = g := by simpa [Value.ownBlock] using hb.symm
  subst e
  rcases hat with h1 | h1
  · exact h _ h1 hvb
  · have := hv _ hvb
    omega
/-- a list of rectangles where it lies -/
structure RS where
  A : Option Addr
  c : Nat
  l : List Rc
abbrev rsL (x : RS) : List Value := [.slice x.A x.l.length x.c]
structure SlRR (w : World) (A : Option Addr) (c : Nat) (L : List RS) : Prop where
  rd : RdL w 1 rsL A L
  el : ∀ x ∈ L, SlR w x.A x.c x.l
  cap : L.length ≤ c
  capB : c ≤ 9223372036854775807
theorem SlRR.gr {w w' : World} {A : Option Addr} {c : Nat} {L : List RS} (h : SlRR w A c L) (g : Gr w w') : SlRR w' A c L := ⟨h.rd.gr g, fun x hx => (h.el x hx).gr g, h.cap, h.capB⟩
theorem SlRR.at_ {w : World} {A : Option Addr} {c : Nat} {L : List RS} (h : SlRR w A c L) {i : Nat} {x : RS} (hi : L[i]? = some x) : ∃ b off, A = some ⟨b, off, none⟩ ∧ w.cell? ⟨b, off + i, none⟩ = some (.slice x.A x.l.length x.c) ∧ SlR w x.A x.c x.l := by
  obtain ⟨b, off, e, h0, _⟩ := h.rd i x hi
  exact ⟨b, off, e, by rwa [Nat.mul_one] at h0, h.el x (List.mem_of_getElem? hi)⟩
theorem slRR_1 {w : World} {A : Option Addr} {c : Nat} {l : List Rc} (t : TypeId) (h : SlR w A c l) : SlRR (w.alloc (.cells #[.slice A l.length c] t)) (some ⟨w.heap.size, 0, none⟩) 1 [⟨A, c, l⟩] := by
  refine ⟨?_, ?_, by simp, by omega⟩
  · intro i x hi
    cases i with
    | zero =>
      simp only [List.getElem?_cons_zero, Option.some.injEq] at hi
      subst hi
      exact ⟨w.heap.size, 0, rfl, by simp [go_sem], trivial⟩
    | succ i => simp at hi
  · intro x hx
    rw [List.mem_singleton] at hx
    subst hx
    exact h.gr (Gr.alloc (Gr.refl _) _)
theorem slRR_2 {w : World} {A B : Option Addr} {c d : Nat} {l m : List Rc} (t : TypeId) (h : SlR w A c l) (k : SlR w B d m) : SlRR (w.alloc (.cells #[.slice A l.length c, .slice B m.length d] t)) (some ⟨w.heap.size, 0, none⟩) 2 [⟨A, c, l⟩, ⟨B, d, m⟩] := by
  refine ⟨?_, ?_, by simp, by omega⟩
  · intro i x hi
    match i with
    | 0 =>
      simp only [List.getElem?_cons_zero, Option.some.injEq] at hi
      subst hi
      exact ⟨w.heap.size, 0, rfl, by simp [go_sem], trivial⟩
    | 1 =>
      simp only [List.getElem?_cons_succ, List.getElem?_cons_zero, Option.some.injEq] at hi
      subst hi
      exact ⟨w.heap.size, 0, rfl, by simp [go_sem], trivial⟩
    | i + 2 => simp at hi
  · intro x hx
    rcases List.mem_cons.1 hx with rfl | hx
    · exact h.gr (Gr.alloc (Gr.refl _) _)
    · rw [List.mem_singleton] at hx
      subst hx
      exact k.gr (Gr.alloc (Gr.refl _) _)
/-- all rectangles of lists -/
def allR (L : List RS) : List Rc := L.flatMap RS.l
/-- the error of lists: the lengths of all come first -/
def ceLL (L : List RS) : Int := if L.any (fun x => decide (48 < x.l.length)) then 4 else if L.all (fun x => x.l.all vrR) then 0 else 1
/-- a grid in memory: its lines, its columns of cells, all in blocks from lo to hi -/
structure GrM (w : World) (lo hi : Nat) (X Y : List Int) (A B F : Option Addr) (a b f : Nat) (rb : Nat → Nat) (c : Nat → Nat → Bool) : Prop where
  sx : SlI w A a X
  sy : SlI w B b Y
  rows : ∀ i, i < X.length → ∃ bF, F = some ⟨bF, 0, none⟩ ∧ w.cell? ⟨bF, i, none⟩ = some (.slice (some ⟨rb i, 0, none⟩) Y.length Y.length)
  cell : ∀ i j, i < X.length → j < Y.length → w.cell? ⟨rb i, j, none⟩ = some (.bool (c i j)) ∧ w.frozen? ⟨rb i, j, none⟩ = false
  inj : ∀ i k, i < X.length → k < X.length → rb i = rb k → i = k
  lx : ∀ x, A = some x → lo ≤ x.block ∧ x.block < hi ∧ ∀ i, i < X.length → x.block ≠ rb i
  ly : ∀ x, B = some x → lo ≤ x.block ∧ x.block < hi ∧ ∀ i, i < X.length → x.block ≠ rb i
  lf : ∀ x, F = some x → lo ≤ x.block ∧ x.block < hi ∧ ∀ i, i < X.length → x.block ≠ rb i
  lr : ∀ i, i < X.length → lo ≤ rb i ∧ rb i < hi
  hw : hi ≤ w.heap.size
  cf : X.length ≤ f
  cfB : f ≤ 9223372036854775807
  n1 : X.length ≤ 1000
  n2 : Y.length ≤ 1000
abbrev grv (X Y : List Int) (A B F : Option Addr) (a b f : Nat) : Value := .agg #[.slice A X.length a, .slice B Y.length b, .slice F X.length f]
theorem rdl_keep {w w' : World} {k : Nat} {α : Type} {c : α → List Value} {A : Option Addr} {l : List α} (h : RdL w k c A l) (hk : ∀ x, A = some x → ∀ o, w'.cell? ⟨x.block, o, none⟩ = w.cell? ⟨x.block, o, none⟩) : RdL w' k c A l := by
  intro i x hx
  obtain ⟨b, off, e, h0⟩ := h i x hx
  refine ⟨b, off, e, ?_⟩
  have hb := hk _ e
  simp only at hb
  have : ∀ (vs : List Value) (o : Nat), At w b o vs → At w' b o vs := by
    intro vs
    induction vs with
    | nil => exact fun _ _ => trivial
    | cons v vs ih => exact fun o h => ⟨(hb o).trans h.1, ih _ h.2⟩
  exact this _ _ h0
/-- what happens outside of a grid's blocks does not touch it -/
theorem GrM.keep {w w' : World} {lo hi : Nat} {X Y : List Int} {A B F : Option Addr} {a b f : Nat} {rb : Nat → Nat} {c : Nat → Nat → Bool} (h : GrM w lo hi X Y A B F a b f rb c) (hs : w.heap.size ≤ w'.heap.size)
    (hk : ∀ b o, lo ≤ b → b < hi → w'.cell? ⟨b, o, none⟩ = w.cell? ⟨b, o, none⟩ ∧ w'.frozen? ⟨b, o, none⟩ = w.frozen? ⟨b, o, none⟩) : GrM w' lo hi X Y A B F a b f rb c := by
  refine ⟨⟨rdl_keep h.sx.rd fun x hx o => (hk _ _ (h.lx x hx).1 (h.lx x hx).2.1).1, h.sx.cap, h.sx.capB⟩, ⟨rdl_keep h.sy.rd fun x hx o => (hk _ _ (h.ly x hx).1 (h.ly x hx).2.1).1, h.sy.cap, h.sy.capB⟩, fun i hi => ?_, fun i j hi hj => ?_, h.inj, h.lx, h.ly, h.lf, h.lr, Nat.le_trans h.hw hs, h.cf, h.cfB, h.n1, h.n2⟩
  · obtain ⟨bF, e, hc⟩ := h.rows i hi
    have hl := h.lf _ e
    exact ⟨bF, e, (hk _ _ hl.1 hl.2.1).1.trans hc⟩
  · obtain ⟨h1, h2⟩ := h.cell i j hi hj
    have hl := h.lr i hi
    exact ⟨(hk _ _ hl.1 hl.2).1.trans h1, (hk _ _ hl.1 hl.2).2.trans h2⟩
theorem GrM.gr {w w' : World} {lo hi : Nat} {X Y : List Int} {A B F : Option Addr} {a b f : Nat} {rb : Nat → Nat} {c : Nat → Nat → Bool} (h : GrM w lo hi X Y A B F a b f rb c) (g : Gr w w') : GrM w' lo hi X Y A B F a b f rb c :=
  h.keep g.size fun b o _ hb => ⟨g.cell b o (Nat.lt_of_lt_of_le hb h.hw), g.frozen b o (Nat.lt_of_lt_of_le hb h.hw)⟩
theorem GrM.congr {w : World} {lo hi : Nat} {X Y : List Int} {A B F : Option Addr} {a b f : Nat} {rb : Nat → Nat} {c d : Nat → Nat → Bool} (h : GrM w lo hi X Y A B F a b f rb c) (e : ∀ i j, i < X.length → j < Y.length → c i j = d i j) : GrM w lo hi X Y A B F a b f rb d :=
  ⟨h.sx, h.sy, h.rows, fun i j hi hj => by rw [← e i j hi hj]; exact h.cell i j hi hj, h.inj, h.lx, h.ly, h.lf, h.lr, h.hw, h.cf, h.cfB, h.n1, h.n2⟩
/-- one cell more is filled -/
def setC (c : Nat → Nat → Bool) (i j : Nat) : Nat → Nat → Bool := fun p q => if p = i ∧ q = j then true else c p q
theorem GrM.store {w : World} {lo up : Nat} {X Y : List Int} {A B F : Option Addr} {a b f : Nat} {rb : Nat → Nat} {c : Nat → Nat → Bool} (h : GrM w lo up X Y A B F a b f rb c) {i j : Nat} (hi : i < X.length) (hj : j < Y.length) :
    GrM (w.setCell ⟨rb i, j, none⟩ (.bool true)) lo up X Y A B F a b f rb (setC c i j) := by
  have oth : ∀ b o, b ≠ rb i → (w.setCell ⟨rb i, j, none⟩ (.bool true)).cell? ⟨b, o, none⟩ = w.cell? ⟨b, o, none⟩ := fun b o hb => World.cell?_of_block (heap_setCell_other w ⟨rb i, j, none⟩ b (.bool true) (fun e => hb (by simpa using e)))
  have fr : ∀ b o, (w.setCell ⟨rb i, j, none⟩ (.bool true)).frozen? ⟨b, o, none⟩ = w.frozen? ⟨b, o, none⟩ := fun b o => by simp [go_sem]
  refine ⟨⟨rdl_keep h.sx.rd fun x hx o => oth _ _ ((h.lx x hx).2.2 i hi), h.sx.cap, h.sx.capB⟩, ⟨rdl_keep h.sy.rd fun x hx o => oth _ _ ((h.ly x hx).2.2 i hi), h.sy.cap, h.sy.capB⟩, fun p hp => ?_, fun p q hp hq => ?_, h.inj, h.lx, h.ly, h.lf, h.lr, by simpa using h.hw, h.cf, h.cfB, h.n1, h.n2⟩
  · obtain ⟨bF, e, hc⟩ := h.rows p hp
    exact ⟨bF, e, (oth _ _ ((h.lf _ e).2.2 i hi)).trans hc⟩
  · obtain ⟨h1, h2⟩ := h.cell p q hp hq
    refine ⟨?_, (fr _ _).trans h2⟩
    unfold setC
    by_cases e : p = i ∧ q = j
    · obtain ⟨rfl, rfl⟩ := e
      rw [if_pos ⟨rfl, rfl⟩]
      exact World.cell?_setCell_same' _ _ _ (by rw [h1]; rfl)
    · rw [if_neg e, ← h1]
      by_cases e2 : p = i
      · subst e2
        exact World.cell?_setCell_other (a := ⟨rb p, j, none⟩) (b := ⟨rb p, q, none⟩) (h := by intro h; injection h with _ h; exact e ⟨rfl, h.symm⟩) ..
      · exact oth _ _ fun q => e2 (h.inj p i hp hi q)
/-- only a grid's cells have changed -/
structure Fld (lo : Nat) (rb : Nat → Nat) (n : Nat) (w w' : World) : Prop where
  below : ∀ a : World, Gr a w → a.heap.size ≤ lo → Gr a w'
  size : w.heap.size ≤ w'.heap.size
  cell : ∀ b o, b < w.heap.size → (∀ i, i < n → b ≠ rb i) → w'.cell? ⟨b, o, none⟩ = w.cell? ⟨b, o, none⟩ ∧ w'.frozen? ⟨b, o, none⟩ = w.frozen? ⟨b, o, none⟩
theorem Fld.refl (lo : Nat) (rb : Nat → Nat) (n : Nat) (w : World) : Fld lo rb n w w := ⟨fun _ h _ => h, Nat.le_refl _, fun _ _ _ _ => ⟨rfl, rfl⟩⟩
theorem Fld.gr {lo : Nat} {rb : Nat → Nat} {n : Nat} {w w' w2 : World} (h : Fld lo rb n w w') (g : Gr w' w2) : Fld lo rb n w w2 :=
  ⟨fun a ha hl => (h.below a ha hl).trans g, Nat.le_trans h.size g.size, fun b o hb hn => by
    have hb2 := Nat.lt_of_lt_of_le hb h.size
    exact ⟨(g.cell b o hb2).trans (h.cell b o hb hn).1, (g.frozen b o hb2).trans (h.cell b o hb hn).2⟩⟩
theorem Fld.store {lo : Nat} {rb : Nat → Nat} {n : Nat} {w w' : World} (h : Fld lo rb n w w') {i j : Nat} (hi : i < n) (hlo : lo ≤ rb i) (v : Value) : Fld lo rb n w (w'.setCell ⟨rb i, j, none⟩ v) :=
  ⟨fun a ha hl => (h.below a ha hl).setCell (p := ⟨rb i, j, none⟩) (Nat.le_trans hl hlo) v, by simpa using h.size, fun b o hb hn => by
    refine ⟨(World.cell?_of_block (heap_setCell_other w' ⟨rb i, j, none⟩ b v (fun e => hn i hi (by simpa using e)))).trans (h.cell b o hb hn).1, ?_⟩
    rw [← (h.cell b o hb hn).2]
    simp [go_sem]⟩
theorem Fld.trans {lo : Nat} {rb : Nat → Nat} {n : Nat} {w w' w2 : World} (h : Fld lo rb n w w') (k : Fld lo rb n w' w2) : Fld lo rb n w w2 :=
  ⟨fun a ha hl => k.below a (h.below a ha hl) hl, Nat.le_trans h.size k.size, fun b o hb hn => by
    have hb2 := Nat.lt_of_lt_of_le hb h.size
    exact ⟨(k.cell b o hb2 hn).1.trans (h.cell b o hb hn).1, (k.cell b o hb2 hn).2.trans (h.cell b o hb hn).2⟩⟩
end RG
end Go.Proofs.YtddhaiaapomdjaaGreat
