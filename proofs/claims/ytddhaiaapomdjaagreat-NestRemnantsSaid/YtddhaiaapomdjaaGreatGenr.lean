/-
  Lists in memory, for any seat (names under RG): slices read, slices of the call's own, append.
-/
import Derived.Test.YtddhaiaapomdjaaGreatMix2r
import Derived.Test.YtddhaiaapomdjaaGreatRg1r
import Derived.Test.YtddhaiaapomdjaaGreatProg
import Derived.WalkSpells
import Derived.WalkLawsBesides
import Derived.ChangeMaps
import Derived.IntWalk
import Derived.OwnWalk
import Derived.Deep.Slices
import Derived.Deep.RegionHeld3
import Derived.Deep.RegionLaw
import Derived.Deep.AppendLies
import Derived.Deep.DeepCutAuto
import Derived.StillTactics
set_option linter.unusedVariables false
set_option linter.unusedSimpArgs false
namespace Go.Proofs.YtddhaiaapomdjaaGreat
set_option linter.unusedVariables false
set_option linter.unusedSimpArgs false
open Go Go.ChangeShapes Go.WideShapes Go.ChangeAt Go.RowKit Go.Deep

namespace RG
theorem ret_bool {a b : Bool} (h : a = b) : Ending.returned (.bool a) = .returned (.bool b) := by rw [h]
theorem ret_iv {a b : Int} (h : a = b) : Ending.returned (iv a) = .returned (iv b) := by rw [h]
abbrev sle (v : Value) (e : Int) : Value := .tuple #[v, iv e]
theorem cell_spot {w : World} {a : Addr} {v : Value} (h : w.cell? a = some v) : a.spot = none := by
  unfold World.cell? at h
  split at h
  · split at h
    · cases h
    · rename_i h1
      cases e : a.spot with
      | none => rfl
      | some _ => rw [e] at h1; simp at h1
  · cases h
theorem addr_add {b o n : Nat} : ((⟨b, o, none⟩ : Addr).add n) = ⟨b, o + n, none⟩ := by
  unfold Addr.add
  split
  · rename_i h; simp [h]
  · rfl
theorem pick {α : Type} {n : Nat} {Q : Nat → α → Prop} (h : ∀ i, i < n → ∃ x, Q i x) : ∃ xs : List α, xs.length = n ∧ ∀ i x, xs[i]? = some x → Q i x := by
  induction n with
  | zero => exact ⟨[], rfl, fun i x hx => by simp at hx⟩
  | succ n ih =>
    obtain ⟨xs, hl, hq⟩ := ih (fun i hi => h i (by omega))
    obtain ⟨y, hy⟩ := h n (by omega)
    refine ⟨xs ++ [y], by simp [hl], fun i x hx => ?_⟩
    rcases Nat.lt_trichotomy i n with h1 | h1 | h1
    · rw [List.getElem?_append_left (by omega)] at hx
      exact hq i x hx
    · subst h1
      rw [List.getElem?_append_right (by omega)] at hx
      simp [hl] at hx
      rwa [← hx]
    · rw [List.getElem?_eq_none (by simp; omega)] at hx
      cases hx
/-- the cells of one place on, in order -/
def At (w : World) (b o : Nat) : List Value → Prop
  | [] => True
  | v :: vs => w.cell? ⟨b, o, none⟩ = some v ∧ At w b (o + 1) vs
/-- a slice of things of k cells each -/
def RdL (w : World) (k : Nat) {α : Type} (c : α → List Value) (A : Option Addr) (l : List α) : Prop :=
  ∀ i x, l[i]? = some x → ∃ b off, A = some ⟨b, off, none⟩ ∧ At w b (off + i * k) (c x)
theorem At.gr {a b : World} (g : Gr a b) {k : Nat} : ∀ {vs : List Value} {o : Nat}, At a k o vs → At b k o vs
  | [], _, _ => trivial
  | v :: vs, o, h => ⟨(g.cell _ _ (cell_lt (by rw [h.1]; rfl))).trans h.1, At.gr g h.2⟩
theorem RdL.gr {a b : World} {k : Nat} {α : Type} {c : α → List Value} {A : Option Addr} {l : List α} (h : RdL a k c A l) (g : Gr a b) : RdL b k c A l := by
  intro i x hx
  obtain ⟨k, off, e, h0⟩ := h i x hx
  exact ⟨k, off, e, h0.gr g⟩
theorem at_of {w : World} {b o : Nat} : ∀ {vs : List Value}, (∀ i v, vs[i]? = some v → w.cell? ⟨b, o + i, none⟩ = some v) → At w b o vs := by
  intro vs
  induction vs generalizing o with
  | nil => intro _; trivial
  | cons v vs ih =>
    intro h
    refine ⟨by simpa using h 0 v rfl, ih fun i x hx => ?_⟩
    have := h (i + 1) x (by simpa using hx)
    rwa [show o + 1 + i = o + (i + 1) by omega]
/-- a slice whose elements read as c says -/
theorem open_list {α : Type} {c : α → List Value} {Ok : α → Prop} {t e : TypeId} {k : Nat} {fuel : Nat} {cs : List Value} {H : Type} {enc : TypeId × Value → H} {W : World} {x : DataW H × List MemPlace}
    (ht : Tryz.prog.underlying t = some (.slice e)) (hk : Tryz.prog.cellsOf e = k) (hk0 : 0 < k)
    (he : ∀ {n : Nat} {cs : List Value} {x : DataW H × List MemPlace}, DataW.trod enc Tryz.prog W 0 (fun _ => true) true n e cs = some x → ∃ y : α, cs = c y ∧ Ok y) (hc : ∀ y, (c y).length = k)
    (h : DataW.trod enc Tryz.prog W 0 (fun _ => true) true fuel t cs = some x) :
    ∃ (A : Option Addr) (d : Nat) (l : List α), cs = [.slice A l.length d] ∧ RdL W k c A l ∧ (∀ y ∈ l, Ok y) ∧ l.length ≤ d ∧ d ≤ maxLen := by
  rcases open_slice ht h with ⟨rfl, _⟩ | ⟨a, len, cap, m, n, D, Pl, rfl, _, hl, hcap, hm, _, hall⟩
  · exact ⟨none, 0, [], rfl, fun i x hx => by simp at hx, fun y hy => by simp at hy, by simp, by simp⟩
  · simp only [if_true] at hm
    have el : ∀ i, i < len → ∃ y : α, (∀ j v, (c y)[j]? = some v → W.cell? ((a.add (i * k)).add j) = some v) ∧ Ok y := by
      intro i hi
      obtain ⟨cs, h1, h2⟩ := hall i (by omega)
      rw [hk] at h1
      obtain ⟨y, hy, hok⟩ := he h2
      obtain ⟨_, hlen, hat⟩ := World.cells?_some h1
      refine ⟨y, fun j v hj => ?_, hok⟩
      have hj2 : j < k := by rw [← hc y]; exact (List.getElem?_eq_some_iff.1 hj).1
      rw [hat j hj2, hy]
      exact hj
    by_cases h0 : 0 < len
    · obtain ⟨z, c0, _⟩ := el 0 h0
      have hz : 0 < (c z).length := by rw [hc]; exact hk0
      have hs : a.spot = none := cell_spot (w := W) (v := (c z)[0]) (by simpa [Addr.add] using c0 0 _ (List.getElem?_eq_getElem hz))
      obtain ⟨b, off, sp⟩ := a
      simp only at hs
      subst hs
      obtain ⟨l, hll, hq⟩ := pick el
      subst hll
      refine ⟨some ⟨b, off, none⟩, cap, l, rfl, fun i p hp => ⟨b, off, rfl, at_of fun j v hj => ?_⟩, fun y hy => ?_, hl, hcap⟩
      · have := (hq i p hp).1 j v hj
        simpa only [addr_add] using this
      · obtain ⟨i, hi⟩ := List.mem_iff_getElem?.1 hy
        exact (hq i y hi).2
    · have : len = 0 := by omega
      subst this
      exact ⟨some a, cap, [], rfl, fun i p hp => by simp at hp, fun y hy => by simp at hy, by simp, hcap⟩
/-- a slice of the call's own -/
def OwnL (w : World) (base : Nat) (e : TypeId) (k : Nat) {α : Type} (c : α → List Value) (v : Value) (xs : List α) : Prop := w.ownsRow base e k v xs.length (xs.flatMap c)
theorem fm_len {α : Type} {c : α → List Value} {k : Nat} (hc : ∀ x, (c x).length = k) : ∀ xs : List α, (xs.flatMap c).length = xs.length * k
  | [] => by simp
  | x :: xs => by
    rw [List.flatMap_cons, List.length_append, hc, fm_len hc xs, List.length_cons, Nat.succ_mul, Nat.add_comm]
theorem fm_at {α : Type} {c : α → List Value} {k : Nat} (hc : ∀ x, (c x).length = k) : ∀ (xs : List α) (i : Nat) (x : α) (j : Nat), xs[i]? = some x → j < k → (xs.flatMap c)[i * k + j]? = (c x)[j]?
  | [], i, x, j, h, _ => by simp at h
  | y :: ys, 0, x, j, h, hj => by
    simp only [List.getElem?_cons_zero, Option.some.injEq] at h
    subst h
    rw [List.flatMap_cons, List.getElem?_append_left (by rw [hc]; omega), Nat.zero_mul, Nat.zero_add]
  | y :: ys, i + 1, x, j, h, hj => by
    have := fm_at hc ys i x j (by simpa using h) hj
    rw [List.flatMap_cons, List.getElem?_append_right (by rw [hc, Nat.succ_mul]; omega), hc, ← this]
    congr 1
    rw [Nat.succ_mul]
    omega
theorem fm_snoc {α : Type} {c : α → List Value} (xs : List α) (x : α) : (xs ++ [x]).flatMap c = xs.flatMap c ++ c x := by simp
theorem OwnL.rd {α : Type} {c : α → List Value} {w : World} {base : Nat} {e : TypeId} {k : Nat} {A : Option Addr} {n d : Nat} {xs : List α} (hc : ∀ x, (c x).length = k) (h : OwnL w base e k c (.slice A n d) xs) :
    n = xs.length ∧ RdL w k c A xs ∧ xs.length ≤ d ∧ d ≤ maxLen := by
  obtain ⟨h0, ⟨h1, h2⟩ | ⟨g, cap, cur, h1, _, h2, h3, h4, h5, h6⟩⟩ := id h
  · have : xs = [] := List.eq_nil_of_length_eq_zero h2
    subst this
    injection h1 with _ h1 h3
    exact ⟨h1, fun i p hp => by simp at hp, by simp, by omega⟩
  · injection h1 with e1 e2 e3
    subst e1 e2 e3
    refine ⟨rfl, fun i p hp => ⟨g, 0, rfl, at_of fun j v hj => ?_⟩, h3, h4⟩
    have hcl := World.ownsRow.cellAt (w := w) (h : w.ownsRow base e k (.slice (some ⟨g, 0, none⟩) xs.length d) xs.length (xs.flatMap c))
    have hi : i < xs.length := (List.getElem?_eq_some_iff.1 hp).1
    have hj2 : j < k := by rw [← hc p]; exact (List.getElem?_eq_some_iff.1 hj).1
    have hlt : i * k + j < xs.length * k := by
      have : (i + 1) * k ≤ xs.length * k := Nat.mul_le_mul_right k hi
      rw [Nat.succ_mul] at this
      omega
    rw [Nat.zero_add, hcl _ (by omega), fm_at hc xs i p j hp hj2]
    exact hj
theorem OwnL.slice {α : Type} {c : α → List Value} {w : World} {base : Nat} {e : TypeId} {k : Nat} {v : Value} {xs : List α} (h : OwnL w base e k c v xs) : ∃ A d, v = .slice A xs.length d := by
  obtain ⟨h0, ⟨h1, h2⟩ | ⟨g, cap, cur, h1, _⟩⟩ := id h
  · exact ⟨none, 0, by rw [h1, h2]⟩
  · exact ⟨_, _, h1⟩
theorem own_gr {w w' : World} {base : Nat} {e : TypeId} {k n : Nat} {v : Value} {xs : List Value} (h : w.ownsRow base e k v n xs) (g : Gr w w') : w'.ownsRow base e k v n xs := by
  obtain ⟨h0, h1 | ⟨b, cap, cur, h1, hb, h2, h3⟩⟩ := id h
  · exact ⟨h0, .inl h1⟩
  · refine ⟨h0, .inr ⟨b, cap, cur, h1, hb, ?_, h3⟩⟩
    have hlt : b < w.heap.size := (Array.getElem?_eq_some_iff.1 h2).1
    rw [← h2]
    exact g.block b hlt
theorem OwnL.gr {α : Type} {c : α → List Value} {w w' : World} {base : Nat} {e : TypeId} {k : Nat} {v : Value} {xs : List α} (h : OwnL w base e k c v xs) (g : Gr w w') : OwnL w' base e k c v xs := own_gr h g
theorem OwnL.weak {α : Type} {c : α → List Value} {w : World} {base lo : Nat} {e : TypeId} {k : Nat} {v : Value} {xs : List α} (h : OwnL w base e k c v xs) (hb : lo ≤ base) : OwnL w lo e k c v xs := by
  obtain ⟨h0, h1 | ⟨b, cap, cur, h1, hb', h2, h3⟩⟩ := id h
  · exact ⟨h0, .inl h1⟩
  · exact ⟨h0, .inr ⟨b, cap, cur, h1, Nat.le_trans hb hb', h2, h3⟩⟩
theorem own_nil {α : Type} (w : World) (base : Nat) (e : TypeId) (k : Nat) (c : α → List Value) : OwnL w base e k c (.slice none 0 0) [] := ⟨by simp, .inl ⟨rfl, rfl⟩⟩
/-- lists of integers -/
abbrev inL (z : Int) : List Value := [iv z]
abbrev boL (b : Bool) : List Value := [.bool b]
theorem RdL.in_ {w : World} {A : Option Addr} {l : List Int} (h : RdL w 1 inL A l) {i : Nat} {z : Int} (hi : l[i]? = some z) : ∃ b off, A = some ⟨b, off, none⟩ ∧ w.cell? ⟨b, off + i, none⟩ = some (iv z) := by
  obtain ⟨b, off, e, h0, _⟩ := h i z hi
  exact ⟨b, off, e, by rwa [Nat.mul_one] at h0⟩
theorem drop_at {α : Type} {l : List α} {k : Nat} {x : α} (h : l[k]? = some x) : l.drop k = x :: l.drop (k + 1) := by
  obtain ⟨h1, rfl⟩ := List.getElem?_eq_some_iff.1 h
  exact List.drop_eq_getElem_cons h1
theorem take_at {α : Type} {l : List α} {k : Nat} {x : α} (h : l[k]? = some x) : l.take (k + 1) = l.take k ++ [x] := by
  obtain ⟨h1, rfl⟩ := List.getElem?_eq_some_iff.1 h
  exact List.take_succ_eq_append_getElem h1
/-- a slice type and its elements: k cells, so many bytes -/
structure ElT (P : Program) (t e : TypeId) (k bts : Nat) : Prop where
  und : P.underlying t = some (.slice e)
  inf : ∃ i z, P.info? e = some i ∧ i.zero = some z ∧ i.size = k ∧ i.bytes = bts ∧ z.cells.size = k
theorem elT_of {P : Program} {t e : TypeId} {k bts : Nat} (z : Value) (h : P.underlying t = some (.slice e)) (hi : (P.info? e).map (fun i => (i.zero, i.size, i.bytes)) = some (some z, k, bts)) (hz : z.cells.size = k) : ElT P t e k bts := by
  refine ⟨h, ?_⟩
  cases e1 : P.info? e with
  | none => rw [e1] at hi; cases hi
  | some i =>
    rw [e1] at hi
    simp only [Option.map_some, Option.some.injEq, Prod.mk.injEq] at hi
    exact ⟨i, z, rfl, hi.1, hi.2.1, hi.2.2, hz⟩
theorem wpList_app1 {P : Program} {w : World} {ops : Array Oper} {rest : List Oper} {o : Oper} {a : Act} {Q : Exit → Act → World → Prop} (hgd : o.guard = none) (s x : Operand) (t : TypeId)
    (ho : o.op = .call { callee := .builtin .append, args := #[s, x], argTypes := #[t, t] })
    {α : Type} (c : α → List Value) (base : Nat) (e : TypeId) (k bts : Nat) (T : ElT P t e k bts) (hk : 0 < k) (xs : List α) (y : α) (ys : List α) (hys : xs ++ [y] = ys) (v : Value) (hs : a.eval s = v) (hown : OwnL w base e k c v xs)
    (ad : Addr) (cc : Nat) (hx : a.eval x = .slice (some ad) 1 cc) (hl : (c y).length = k) (hnews : ∀ j u, (c y)[j]? = some u → w.cell? (ad.add j) = some u) (h1 : ∀ u ∈ c y, u.oneCell' = true)
    (hn : xs.length ≤ 1000000) (hb : bts ≤ 10000) (hbase : base ≤ w.heap.size)
    (h : ∀ g cap w', OwnL w' base e k c (.slice (some ⟨g, 0, none⟩) ys.length cap) ys → (∀ b, Gr b w → b.heap.size ≤ base → Gr b w') → w.grownBy w' v.ownBlock → base ≤ g → g < w'.heap.size → wpList P ops Q rest (a.put o.dst (.slice (some ⟨g, 0, none⟩) ys.length cap)) w') : wpList P ops Q (o :: rest) a w := by
  obtain ⟨i, z, hi, hz, hsz, hby, hzs⟩ := T.inf
  subst hys
  have hlt := fun k hk => (World.ownsRow.lt hown k hk).1
  refine wpList_append_lies w hgd s x t ho base e i z k bts T.und hi hz hsz hby hzs hk v xs.length (xs.flatMap c) hs hown ad 1 cc (c y) hx (by rw [hl, Nat.one_mul]) hnews h1 (by omega) (by unfold maxLen; omega)
    (Nat.le_trans (Nat.mul_le_mul (show xs.length + 1 ≤ 1000001 by omega) hb) (by decide)) hbase _ rfl ?_
  intro g cap w' h2 h3 h4 h5
  have hO : OwnL w' base e k c (.slice (some ⟨g, 0, none⟩) (xs ++ [y]).length cap) (xs ++ [y]) := by
    unfold OwnL
    rw [fm_snoc, List.length_append]
    exact h2
  have := h g cap w' hO (fun b hb hle => Gr.grown hb h3 (fun k hk => by have := hlt k hk; omega)) h3 (by
    rcases h4 with h4 | h4
    · exact hlt g h4
    · omega) h5
  rwa [List.length_append] at this
theorem newsA (w : World) (cs : Array Value) (t : TypeId) : ∀ j u, cs.toList[j]? = some u → (w.alloc (.cells cs t)).cell? ((⟨w.heap.size, 0, none⟩ : Addr).add j) = some u :=
  World.news_of_block (B := w.heap.size) (cs := cs) (t := t) (fr := (0, 0)) (by show (w.heap.push _)[w.heap.size]? = _; simp)
/-- a literal slice owns its elements -/
theorem own_lit {α : Type} {c : α → List Value} {k : Nat} (w : World) (base : Nat) (e : TypeId) (cs : Array Value) (xs : List α) (hb : base ≤ w.heap.size) (hc : ∀ x, (c x).length = k) (hcs : cs.toList = xs.flatMap c) (hm : xs.length ≤ 1000000) :
    OwnL (w.alloc (.cells cs e)) base e k c (.slice (some ⟨w.heap.size, 0, none⟩) xs.length xs.length) xs := by
  have := World.ownsRow_lit (size := k) (e := e) w cs xs.length hb (by unfold maxLen; omega) (by rw [← Array.length_toList, hcs, fm_len hc])
  rw [hcs] at this
  exact this
/-- numbers, where they lie -/
structure SlI (w : World) (A : Option Addr) (c : Nat) (l : List Int) : Prop where
  rd : RdL w 1 inL A l
  cap : l.length ≤ c
  capB : c ≤ 9223372036854775807
theorem SlI.gr {w w' : World} {A : Option Addr} {c : Nat} {l : List Int} (h : SlI w A c l) (g : Gr w w') : SlI w' A c l := ⟨h.rd.gr g, h.cap, h.capB⟩
theorem own_sli {w : World} {base : Nat} {e : TypeId} {A : Option Addr} {n d : Nat} {xs : List Int} (h : OwnL w base e 1 inL (.slice A n d) xs) : SlI w A d xs := by
  obtain ⟨_, h1, h2, h3⟩ := OwnL.rd (c := inL) (fun _ => rfl) h
  exact ⟨h1, h2, by unfold maxLen at h3; omega⟩
/-- rectangles, where they lie -/
abbrev rc (x y w h : Int) : Value := .agg #[iv x, iv y, iv w, iv h]
abbrev rcv (r : Rc) : Value := rc r.x r.y r.w r.h
abbrev rcL (r : Rc) : List Value := [iv r.x, iv r.y, iv r.w, iv r.h]
structure SlR (w : World) (A : Option Addr) (c : Nat) (l : List Rc) : Prop where
  rd : RdL w 4 rcL A l
  cap : l.length ≤ c
  capB : c ≤ 9223372036854775807
theorem SlR.gr {w w' : World} {A : Option Addr} {c : Nat} {l : List Rc} (h : SlR w A c l) (g : Gr w w') : SlR w' A c l := ⟨h.rd.gr g, h.cap, h.capB⟩
theorem SlR.at_ {w : World} {A : Option Addr} {c : Nat} {l : List Rc} (h : SlR w A c l) {i : Nat} {z : Rc} (hi : l[i]? = some z) : ∃ b off, A = some ⟨b, off, none⟩ ∧ w.cell? ⟨b, off + i * 4, none⟩ = some (iv z.x) ∧ w.cell? ⟨b, off + i * 4 + 1, none⟩ = some (iv z.y) ∧ w.cell? ⟨b, off + i * 4 + 2, none⟩ = some (iv z.w) ∧ w.cell? ⟨b, off + i * 4 + 3, none⟩ = some (iv z.h) := by
  obtain ⟨b, off, e, h0, h1, h2, h3, _⟩ := h.rd i z hi
  exact ⟨b, off, e, h0, h1, h2, h3⟩
theorem one_rc (r : Rc) : ∀ u ∈ rcL r, u.oneCell' = true := by
  intro u hu
  simp at hu
  rcases hu with rfl | rfl | rfl | rfl <;> rfl
end RG
end Go.Proofs.YtddhaiaapomdjaaGreat
