/-
  append of one element onto a slice of the call's own, said of lists; make. No program but the seat's base.
-/
import Derived.Test.YtfndhddnglcliaaSb0
import Derived.OwnWalk
set_option linter.unusedVariables false
set_option linter.unusedSimpArgs false
namespace Go.Proofs.Ytfndhddnglcliaa
set_option linter.unusedVariables false
set_option linter.unusedSimpArgs false
open Go Go.ChangeShapes Go.WideShapes Go.ChangeAt Go.RowKit Go.Deep

/-- a slice type and its elements: k cells, so many bytes -/
structure ElT (P : Program) (t e : TypeId) (k bts : Nat) : Prop where
  und : P.underlying t = some (.slice e)
  inf : ∃ i z, P.info? e = some i ∧ i.zero = some z ∧ i.size = k ∧ i.bytes = bts ∧ z.cells.size = k
theorem elT_of {P : Program} {t e : TypeId} {k bts : Nat} (z : Value) (h : P.underlying t = some (.slice e)) (hi : (P.info? e).map (fun i => (i.zero, i.size, i.bytes)) = some (some z, k, bts)) (hz : z.cells.size = k) : ElT P t e k bts := by
  refine ⟨h, ?_⟩
  cases e1 : P.info? e with
  | none => rw [e1] at hi; cases hi
  | some i =>
    rw [e1] at hi
    simp only [Option.map_some, Option.some.injEq, Prod.mk.injEq] at hi
    exact ⟨i, z, rfl, hi.1, hi.2.1, hi.2.2, hz⟩
theorem wpList_app1 {P : Program} {w : World} {ops : Array Oper} {rest : List Oper} {o : Oper} {a : Act} {Q : Exit → Act → World → Prop} (hgd : o.guard = none) (s x : Operand) (t : TypeId)
    (ho : o.op = .call { callee := .builtin .append, args := #[s, x], argTypes := #[t, t] })
    {α : Type} (c : α → List Value) (base : Nat) (e : TypeId) (k bts : Nat) (T : ElT P t e k bts) (hk : 0 < k) (xs : List α) (y : α) (ys : List α) (hys : xs ++ [y] = ys) (v : Value) (hs : a.eval s = v) (hown : OwnL w base e k c v xs)
    (ad : Addr) (cc : Nat) (hx : a.eval x = .slice (some ad) 1 cc) (hl : (c y).length = k) (hnews : ∀ j u, (c y)[j]? = some u → w.cell? (ad.add j) = some u) (h1 : ∀ u ∈ c y, u.oneCell' = true)
    (hn : xs.length ≤ 1000000) (hb : bts ≤ 10000) (hbase : base ≤ w.heap.size)
    (h : ∀ g cap w', OwnL w' base e k c (.slice (some ⟨g, 0, none⟩) ys.length cap) ys → (∀ b, Gr b w → b.heap.size ≤ base → Gr b w') → w.grownBy w' v.ownBlock → base ≤ g → g < w'.heap.size → wpList P ops Q rest (a.put o.dst (.slice (some ⟨g, 0, none⟩) ys.length cap)) w') : wpList P ops Q (o :: rest) a w := by
  obtain ⟨i, z, hi, hz, hsz, hby, hzs⟩ := T.inf
  subst hys
  have hlt := fun k hk => (World.ownsRow.lt hown k hk).1
  refine wpList_append_lies w hgd s x t ho base e i z k bts T.und hi hz hsz hby hzs hk v xs.length (xs.flatMap c) hs hown ad 1 cc (c y) hx (by rw [hl, Nat.one_mul]) hnews h1 (by omega) (by unfold maxLen; omega)
    (Nat.le_trans (Nat.mul_le_mul (show xs.length + 1 ≤ 1000001 by omega) hb) (by decide)) hbase _ rfl ?_
  intro g cap w' h2 h3 h4 h5
  have hO : OwnL w' base e k c (.slice (some ⟨g, 0, none⟩) (xs ++ [y]).length cap) (xs ++ [y]) := by
    unfold OwnL
    rw [fm_snoc, List.length_append]
    exact h2
  have := h g cap w' hO (fun b hb hle => Gr.grown hb h3 (fun k hk => by have := hlt k hk; omega)) h3 (by
    rcases h4 with h4 | h4
    · exact hlt g h4
    · omega) h5
  rwa [List.length_append] at this
theorem news1 {w : World} {B : Nat} {u0 : Value} (h : w.cell? ⟨B, 0, none⟩ = some u0) : ∀ j u, [u0][j]? = some u → w.cell? ((⟨B, 0, none⟩ : Addr).add j) = some u := by
  intro j u hu
  cases j with
  | zero => rw [addr_add]; simpa using hu ▸ h
  | succ j => simp at hu
theorem newsA (w : World) (cs : Array Value) (t : TypeId) : ∀ j u, cs.toList[j]? = some u → (w.alloc (.cells cs t)).cell? ((⟨w.heap.size, 0, none⟩ : Addr).add j) = some u :=
  World.news_of_block (B := w.heap.size) (cs := cs) (t := t) (fr := (0, 0)) (by show (w.heap.push _)[w.heap.size]? = _; simp)
/-- a literal slice owns its elements -/
theorem own_lit {α : Type} {c : α → List Value} {k : Nat} (w : World) (base : Nat) (e : TypeId) (cs : Array Value) (xs : List α) (hb : base ≤ w.heap.size) (hc : ∀ x, (c x).length = k) (hcs : cs.toList = xs.flatMap c) (hm : xs.length ≤ 1000000) :
    OwnL (w.alloc (.cells cs e)) base e k c (.slice (some ⟨w.heap.size, 0, none⟩) xs.length xs.length) xs := by
  have := World.ownsRow_lit (size := k) (e := e) w cs xs.length hb (by unfold maxLen; omega) (by rw [← Array.length_toList, hcs, fm_len hc])
  rw [hcs] at this
  exact this
theorem elInt : ElT Try.prog 30 3 1 8 := elT_of (.int .i64 0) Try.underlying30 (by kernel_rfl) rfl
theorem elSet : ElT Try.prog 47 50 1 8 := elT_of (.int .u64 0) Try.underlying47 (by kernel_rfl) rfl
theorem elNd : ElT Try.prog 22 30 1 24 := elT_of (.slice none 0 0) Try.underlying22 (by kernel_rfl) rfl
theorem own_sub {w : World} {base : Nat} {e : TypeId} {A : Option Addr} {d : Nat} {xs : List Nat} (h : OwnL w base e 1 uvL (.slice A xs.length d) xs) : SlU w A d xs := by
  obtain ⟨_, h1, h2, h3⟩ := OwnL.rd (c := uvL) (fun _ => rfl) h
  exact ⟨h1, h2, by unfold maxLen at h3; omega⟩
theorem own_sli {w : World} {base : Nat} {e : TypeId} {A : Option Addr} {d : Nat} {xs : List Int} (h : OwnL w base e 1 inL (.slice A xs.length d) xs) : SlI w A d xs := by
  obtain ⟨_, h1, h2, h3⟩ := OwnL.rd (c := inL) (fun _ => rfl) h
  exact ⟨h1, h2, by unfold maxLen at h3; omega⟩
end Go.Proofs.Ytfndhddnglcliaa
