/-
  Nests: lists of sheets and pieces with settings, placements: arguments opened.
  Nests: Fit of the reference, at any arguments.
  Nests: what is placed so far, in memory, of the reference's Nest.
  Nests: Nest of the reference.
  Nests: the law NestNests.
-/
import Derived.Test.YtddhaiaapomdjaaGreatGQn
import Derived.Test.YtddhaiaapomdjaaGreatGJn
import Derived.Test.YtddhaiaapomdjaaGreatGUn
import Derived.Test.YtddhaiaapomdjaaGreatGRn
import Derived.Deep.CutRange
set_option linter.unusedVariables false
set_option linter.unusedSimpArgs false
namespace Go.Proofs.YtddhaiaapomdjaaGreat
set_option linter.unusedVariables false
set_option linter.unusedSimpArgs false
open Go Go.ChangeShapes Go.WideShapes Go.ChangeAt Go.RowKit Go.Deep

namespace RG
abbrev jbv (A : Option Addr) (n c : Nat) (B : Option Addr) (m d : Nat) (t : St) : Value := .agg #[.slice A n c, .slice B m d, iv t.g, iv t.m, .bool t.c]
theorem c8Shs : Tryz.prog.cellsOf 39 = 1 := by kernel_rfl
theorem c8Pcs : Tryz.prog.cellsOf 40 = 1 := by kernel_rfl
theorem c8Job : Tryz.prog.cellsOf 42 = 5 := by kernel_rfl
section
variable {H : Type} {enc : TypeId × Value → H} {W : World}
theorem o8_shs {n : Nat} {cs : List Value} {x : DataW H × List MemPlace} (h : DataW.trod enc Tryz.prog W 0 (fun _ => true) true n 39 cs = some x) : ∃ (A : Option Addr) (c : Nat) (L : List ShT), cs = [.slice A L.length c] ∧ SlS W A c L := by
  obtain ⟨A, c, l, e, h1, h2, h3, h4⟩ := open_list (c := shL) (Ok := fun y : ShT => ShW W y) Tryz.underlying39 c6Sh (by decide) (fun {n cs x} hx => o6_sh hx) (fun _ => rfl) h
  exact ⟨A, c, l, e, h1, h2, h3, by unfold maxLen at h4; omega⟩
theorem o8_pcs {n : Nat} {cs : List Value} {x : DataW H × List MemPlace} (h : DataW.trod enc Tryz.prog W 0 (fun _ => true) true n 40 cs = some x) : ∃ (A : Option Addr) (c : Nat) (L : List Pc), cs = [.slice A L.length c] ∧ SlP W A c L := by
  obtain ⟨A, c, l, e, h1, h2, h3, h4⟩ := open_list (c := pcL) (Ok := fun y : Pc => PcW W y) Tryz.underlying40 c6Pc (by decide) (fun {n cs x} hx => o6_pc hx) (fun _ => rfl) h
  exact ⟨A, c, l, e, h1, h2, h3, by unfold maxLen at h4; omega⟩
set_option maxRecDepth 100000 in
theorem o8_job {base : Nat} {v : Value} {d : DataW H} {ps : List MemPlace} (hv : Value.okWide Tryz.prog W .any base 42 v) (hd : DataW.Trod enc Tryz.prog W 0 (fun _ => true) true 42 v d ps) :
    ∃ (A : Option Addr) (c : Nat) (S : List ShT) (B : Option Addr) (d : Nat) (Ps : List Pc) (t : St), v = jbv A S.length c B Ps.length d t ∧ SlS W A c S ∧ SlP W B d Ps := by
  obtain ⟨cs, rfl, _⟩ := okWide_struct Tryz.underlying42 hv
  obtain ⟨fuel, h⟩ := hd
  simp only [Value.cells] at h
  obtain ⟨xs, m, _, _, hl, hxl, hg⟩ := DataW.trod_struct Tryz.underlying42 h
  rw [c8Job] at hl
  have hxl : xs.length = 3 := hxl
  have el : ∀ i : Nat, i < 3 → xs[i]? = some (xs[i]?.getD (.nil, [])) := fun i hi => by rw [List.getElem?_eq_getElem (by omega)]; rfl
  have f0 := field_use hg 0 39 0 rfl
  have f1 := field_use hg 1 40 1 rfl
  have f2 := field_use hg 2 29 2 rfl
  rw [c8Shs, el 0 (by omega)] at f0
  rw [c8Pcs, el 1 (by omega)] at f1
  rw [c6Set, el 2 (by omega)] at f2
  obtain ⟨cl⟩ := cs
  simp only at hl f0 f1 f2
  match cl, hl with
  | [k0, k1, k2, k3, k4], _ =>
    obtain ⟨A, c, S, e0, hS⟩ := o8_shs f0
    obtain ⟨B, d, Ps, e1, hP⟩ := o8_pcs f1
    obtain ⟨t, e2⟩ := o6_set f2
    simp at e0 e1 e2
    subst e0 e1
    obtain ⟨rfl, rfl, rfl⟩ := e2
    exact ⟨A, c, S, B, d, Ps, t, rfl, hS, hP⟩
end
end RG
end Go.Proofs.YtddhaiaapomdjaaGreat
set_option linter.unusedVariables false
set_option linter.unusedSimpArgs false
namespace Go.Proofs.YtddhaiaapomdjaaGreat
set_option linter.unusedVariables false
set_option linter.unusedSimpArgs false
open Go Go.ChangeShapes Go.WideShapes Go.ChangeAt Go.RowKit Go.Deep

namespace RG
end RG
end Go.Proofs.YtddhaiaapomdjaaGreat
set_option linter.unusedVariables false
set_option linter.unusedSimpArgs false
namespace Go.Proofs.YtddhaiaapomdjaaGreat
set_option linter.unusedVariables false
set_option linter.unusedSimpArgs false
open Go Go.ChangeShapes Go.WideShapes Go.ChangeAt Go.RowKit Go.Deep

namespace RG
def updF {α : Type} (f : Nat → α) (k : Nat) (x : α) : Nat → α := fun j => if j = k then x else f j
theorem updF_at {α : Type} (f : Nat → α) (k : Nat) (x : α) : updF f k x k = x := if_pos rfl
theorem updF_ne {α : Type} (f : Nat → α) {k j : Nat} (x : α) (h : j ≠ k) : updF f k x j = f j := if_neg h
structure Sft (w : World) (lo T n : Nat) (D : Nat → Option Addr) (q : Nat → Nat) (L : Nat → List Rc) (u : Value) (O : List At6) (v : Value) (Q : List Int) : Prop where
  tb : ∀ j, j < n → w.cell? ⟨T, j, none⟩ = some (.slice (D j) (L j).length (q j))
  fz : ∀ o, w.frozen? ⟨T, o, none⟩ = false
  tl : lo ≤ T ∧ T < w.heap.size
  rw : ∀ j, j < n → OwnL w lo 70 4 rcL (.slice (D j) (L j).length (q j)) (L j)
  rT : ∀ j, j < n → ∀ b, (D j).map Addr.block = some b → b ≠ T
  rr : ∀ j k, j < n → k < n → j ≠ k → ∀ b, (D j).map Addr.block = some b → (D k).map Addr.block ≠ some b
  ou : OwnL w lo 33 5 at6L u O
  re : OwnL w lo 3 1 inL v Q
  oT : ∀ b, u.ownBlock = some b → b ≠ T ∧ (∀ j, j < n → (D j).map Addr.block ≠ some b) ∧ v.ownBlock ≠ some b
  vT : ∀ b, v.ownBlock = some b → b ≠ T ∧ ∀ j, j < n → (D j).map Addr.block ≠ some b
theorem own_bl {α : Type} {c : α → List Value} {w : World} {base : Nat} {e : TypeId} {k : Nat} {v : Value} {xs : List α} (h : OwnL w base e k c v xs) {i : Nat} (hi : v.ownBlock = some i) : base ≤ i ∧ i < w.heap.size := World.ownsRow.lt h i hi
theorem Sft.gr {w w' : World} {lo T n : Nat} {D : Nat → Option Addr} {q : Nat → Nat} {L : Nat → List Rc} {u v : Value} {O : List At6} {Q : List Int} (h : Sft w lo T n D q L u O v Q) (g : Gr w w') : Sft w' lo T n D q L u O v Q :=
  ⟨fun j hj => (g.cell _ _ h.tl.2).trans (h.tb j hj), fun o => (g.frozen _ _ h.tl.2).trans (h.fz o), ⟨h.tl.1, Nat.lt_of_lt_of_le h.tl.2 g.size⟩, fun j hj => (h.rw j hj).gr g, h.rT, h.rr, h.ou.gr g, h.re.gr g, h.oT, h.vT⟩
theorem Sft.congr {w : World} {lo T n : Nat} {D : Nat → Option Addr} {q : Nat → Nat} {L L' : Nat → List Rc} {u v : Value} {O : List At6} {Q : List Int} (h : Sft w lo T n D q L u O v Q) (he : ∀ j, j < n → L j = L' j) : Sft w lo T n D q L' u O v Q :=
  ⟨fun j hj => by rw [← he j hj]; exact h.tb j hj, h.fz, h.tl, fun j hj => by rw [← he j hj]; exact h.rw j hj, h.rT, h.rr, h.ou, h.re, h.oT, h.vT⟩
theorem Sft.out {w w' : World} {lo T n : Nat} {D : Nat → Option Addr} {q : Nat → Nat} {L : Nat → List Rc} {u v u' : Value} {O O' : List At6} {Q : List Int} (h : Sft w lo T n D q L u O v Q) (k : Kx (fun i => u.ownBlock = some i) w w') (ho : OwnL w' lo 33 5 at6L u' O') (hf : ∀ b, u'.ownBlock = some b → u.ownBlock = some b ∨ w.heap.size ≤ b) : Sft w' lo T n D q L u' O' v Q := by
  have hT : ¬ u.ownBlock = some T := fun e => (h.oT T e).1 rfl
  refine ⟨fun j hj => (k.cell h.tl.2 hT j).trans (h.tb j hj), fun o => (k.frozen h.tl.2 hT o).trans (h.fz o), ⟨h.tl.1, Nat.lt_of_lt_of_le h.tl.2 k.size⟩, fun j hj => (h.rw j hj).kx k (fun i hi e => (h.oT i e).2.1 j hj ((own_map (h.rw j hj)).1 hi)), h.rT, h.rr, ho, h.re.kx k (fun i hi e => (h.oT i e).2.2 hi), fun b hb => ?_, h.vT⟩
  rcases hf b hb with e | e
  · exact h.oT b e
  · refine ⟨fun e' => by have := h.tl.2; omega, fun j hj e' => ?_, fun e' => ?_⟩
    · have := (own_bl (h.rw j hj) ((own_map (h.rw j hj)).2 e')).2
      omega
    · have := (own_bl h.re e').2
      omega
theorem Sft.rest {w w' : World} {lo T n : Nat} {D : Nat → Option Addr} {q : Nat → Nat} {L : Nat → List Rc} {u v v' : Value} {O : List At6} {Q Q' : List Int} (h : Sft w lo T n D q L u O v Q) (k : Kx (fun i => v.ownBlock = some i) w w') (ho : OwnL w' lo 3 1 inL v' Q') (hf : ∀ b, v'.ownBlock = some b → v.ownBlock = some b ∨ w.heap.size ≤ b) : Sft w' lo T n D q L u O v' Q' := by
  have hT : ¬ v.ownBlock = some T := fun e => (h.vT T e).1 rfl
  refine ⟨fun j hj => (k.cell h.tl.2 hT j).trans (h.tb j hj), fun o => (k.frozen h.tl.2 hT o).trans (h.fz o), ⟨h.tl.1, Nat.lt_of_lt_of_le h.tl.2 k.size⟩, fun j hj => (h.rw j hj).kx k (fun i hi e => (h.vT i e).2 j hj ((own_map (h.rw j hj)).1 hi)), h.rT, h.rr, h.ou.kx k (fun i hi e => (h.oT i hi).2.2 e), ho, fun b hb => ?_, fun b hb => ?_⟩
  · obtain ⟨a1, a2, a3⟩ := h.oT b hb
    refine ⟨a1, a2, fun e => ?_⟩
    rcases hf b e with e' | e'
    · exact a3 e'
    · have := (own_bl h.ou hb).2
      omega
  · rcases hf b hb with e | e
    · exact h.vT b e
    · refine ⟨fun e' => by have := h.tl.2; omega, fun j hj e' => ?_⟩
      have := (own_bl (h.rw j hj) ((own_map (h.rw j hj)).2 e')).2
      omega
theorem Sft.row {w w1 : World} {lo T n j0 : Nat} {D : Nat → Option Addr} {q : Nat → Nat} {L : Nat → List Rc} {u v : Value} {O : List At6} {Q : List Int} {D' : Option Addr} {q' N : Nat} {L' : List Rc} (h : Sft w lo T n D q L u O v Q) (hj0 : j0 < n) (k : Kx (fun i => (D j0).map Addr.block = some i) w w1) (ho : OwnL w1 lo 70 4 rcL (.slice D' N q') L')
    (hf : ∀ b, D'.map Addr.block = some b → (D j0).map Addr.block = some b ∨ w.heap.size ≤ b) : Sft (w1.setCell ⟨T, j0, none⟩ (.slice D' N q')) lo T n (updF D j0 D') (updF q j0 q') (updF L j0 L') u O v Q := by
  have hn := own_n ho
  subst hn
  have hT : ¬ (D j0).map Addr.block = some T := fun e => h.rT j0 hj0 T e rfl
  have hT1 : T < w1.heap.size := Nat.lt_of_lt_of_le h.tl.2 k.size
  have kT : ∀ (b : Nat), b ≠ T → (w1.setCell ⟨T, j0, none⟩ (.slice D' L'.length q')).heap[b]? = w1.heap[b]? := fun b hb => heap_setCell_other w1 ⟨T, j0, none⟩ b _ (fun e => hb (by simpa using e))
  have K1 : Kx (fun i => i = T) w1 (w1.setCell ⟨T, j0, none⟩ (.slice D' L'.length q')) := (Kx.refl _ w1).set j0 _ (.inl rfl)
  have hnT : ∀ j, j < n → ∀ b, ((updF D j0 D') j).map Addr.block = some b → b ≠ T := fun j hj b hb => by
    by_cases e : j = j0
    · subst e
      rw [updF_at] at hb
      rcases hf b hb with e' | e'
      · exact h.rT j hj b e'
      · have := h.tl.2
        omega
    · rw [updF_ne _ _ e] at hb
      exact h.rT j hj b hb
  have hDlt : ∀ j, j < n → ∀ b, (D j).map Addr.block = some b → b < w.heap.size := fun j hj b hb => (own_bl (h.rw j hj) ((own_map (h.rw j hj)).2 hb)).2
  refine ⟨fun j hj => ?_, fun o => ?_, ⟨h.tl.1, by rw [World.size_setCell]; exact hT1⟩, fun j hj => ?_, hnT, fun j k' hj hk hne b hb => ?_, ?_, ?_, fun b hb => ?_, fun b hb => ?_⟩
  · by_cases e : j = j0
    · subst e
      rw [updF_at, updF_at, updF_at]
      have e0 := (k.cell h.tl.2 hT j).trans (h.tb j hj)
      simp [go_sem, e0]
    · rw [updF_ne _ _ e, updF_ne _ _ e, updF_ne _ _ e]
      have e0 := (k.cell h.tl.2 hT j).trans (h.tb j hj)
      simp [go_sem, e0, e]
  · have e0 := (k.frozen h.tl.2 hT o).trans (h.fz o)
    simp [go_sem, e0]
  · by_cases e : j = j0
    · subst e
      rw [updF_at, updF_at, updF_at]
      exact ho.kx K1 (fun i hi e => by
        have h1 := (own_map ho).1 hi
        have h2 := hnT j hj i (by rw [updF_at]; exact h1)
        exact h2 e)
    · rw [updF_ne _ _ e, updF_ne _ _ e, updF_ne _ _ e]
      refine ((h.rw j hj).kx k (fun i hi e' => ?_)).kx K1 (fun i hi e' => ?_)
      · exact h.rr j0 j hj0 hj (fun e'' => e e''.symm) i e' ((own_map (h.rw j hj)).1 hi)
      · exact h.rT j hj i ((own_map (h.rw j hj)).1 hi) e'
  · by_cases e : j = j0
    · subst e
      rw [updF_at] at hb
      rw [updF_ne _ _ (fun e' => hne e'.symm)]
      rcases hf b hb with e' | e'
      · exact h.rr j k' hj hk hne b e'
      · exact fun e'' => by have := hDlt k' hk b e''; omega
    · rw [updF_ne _ _ e] at hb
      by_cases e2 : k' = j0
      · subst e2
        rw [updF_at]
        intro e3
        rcases hf b e3 with e' | e'
        · exact h.rr j k' hj hk hne b hb e'
        · have := hDlt j hj b hb
          omega
      · rw [updF_ne _ _ e2]
        exact h.rr j k' hj hk hne b hb
  · exact (h.ou.kx k (fun i hi e => (h.oT i hi).2.1 j0 hj0 e)).kx K1 (fun i hi e => (h.oT i hi).1 e)
  · exact (h.re.kx k (fun i hi e => (h.vT i hi).2 j0 hj0 e)).kx K1 (fun i hi e => (h.vT i hi).1 e)
  · obtain ⟨a1, a2, a3⟩ := h.oT b hb
    refine ⟨a1, fun j hj => ?_, a3⟩
    by_cases e : j = j0
    · subst e
      rw [updF_at]
      intro e'
      rcases hf b e' with e2 | e2
      · exact a2 j hj e2
      · have := (own_bl h.ou hb).2
        omega
    · rw [updF_ne _ _ e]
      exact a2 j hj
  · obtain ⟨a1, a2⟩ := h.vT b hb
    refine ⟨a1, fun j hj => ?_⟩
    by_cases e : j = j0
    · subst e
      rw [updF_at]
      intro e'
      rcases hf b e' with e2 | e2
      · exact a2 j hj e2
      · have := (own_bl h.re hb).2
        omega
    · rw [updF_ne _ _ e]
      exact a2 j hj
end RG
end Go.Proofs.YtddhaiaapomdjaaGreat
set_option linter.unusedVariables false
set_option linter.unusedSimpArgs false
namespace Go.Proofs.YtddhaiaapomdjaaGreat
set_option linter.unusedVariables false
set_option linter.unusedSimpArgs false
open Go Go.ChangeShapes Go.WideShapes Go.ChangeAt Go.RowKit Go.Deep

namespace RG
theorem run_appH {P : Program} {w : World} (t ty : TypeId) {α : Type} (c : α → List Value) (base : Nat) (e : TypeId) (k bts : Nat) (T : ElT P t e k bts) (hk : 0 < k) (hl : ∀ y, (c y).length = k) (h1 : ∀ y, ∀ u ∈ c y, u.oneCell' = true) (xs zs : List α) (A : Option Addr) (n d : Nat) (hown : OwnL w base e k c (.slice A n d) xs)
    (B : Option Addr) (m q : Nat) (hz : RdL w k c B zs) (hzm : zs.length = m) (hm : xs.length + zs.length ≤ 1000000) (hb : bts ≤ 10000) (hbase : base ≤ w.heap.size) :
    ∃ D N d' w', (Builtin.append_ #[t, t] ty #[.slice A n d, .slice B m q]).run P w = .ok (.slice D N d') w' ∧ OwnL w' base e k c (.slice D N d') (xs ++ zs) ∧ w.grownBy w' (Value.slice A n d).ownBlock ∧ ∀ i, D.map Addr.block = some i → A.map Addr.block = some i ∨ w.heap.size ≤ i := by
  obtain ⟨i, z, hi, hzz, hsz, hby, hzs⟩ := T.inf
  subst hzm
  by_cases h0 : zs = []
  · subst h0
    exact ⟨A, n, d, w, run_append_zero w t ty e i T.und hi A n d (own_cap hown) B q, by rw [List.append_nil]; exact hown, World.grownBy.refl _ _, fun i hi => .inl hi⟩
  · have hpos : 0 < zs.length := List.length_pos_iff.2 h0
    obtain ⟨b, off, rfl, _⟩ := hz 0 _ (List.getElem?_eq_getElem hpos)
    obtain ⟨g, cap, w', hr, h2, h3, h4, h5⟩ := run_append_lies (P := P) w t ty base e i z k bts T.und hi hzz hsz hby hzs hk (.slice A n d) xs.length (xs.flatMap c) hown ⟨b, off, none⟩ zs.length q (zs.flatMap c) (fm_len hl zs) (news_rd hl hk hz)
      (by intro u hu; obtain ⟨y, _, hy⟩ := List.mem_flatMap.1 hu; exact h1 y u hy) hpos (by unfold maxLen; omega) (Nat.le_trans (Nat.mul_le_mul hm hb) (by decide)) hbase _ rfl
    refine ⟨some ⟨g, 0, none⟩, xs.length + zs.length, cap, w', hr, ?_, h3, fun i hi => ?_⟩
    · unfold OwnL
      rw [List.length_append, List.flatMap_append]
      exact h2
    · obtain rfl : g = i := by simpa using hi
      rcases h4 with h4 | h4
      · exact .inl ((own_map hown).1 h4)
      · exact .inr (by omega)
theorem step_appH {P : Program} {w : World} {ops : Array Oper} {o : Oper} {a : Act} {K : Act → World → Prop} {Q : Exit → Act → World → Prop} {E : Prop} (hgd : o.guard = none) (s x : Operand) (t : TypeId)
    (ho : o.op = .call { callee := .builtin .append, args := #[s, x], argTypes := #[t, t] })
    {α : Type} (c : α → List Value) (base : Nat) (e : TypeId) (k bts : Nat) (T : ElT P t e k bts) (hk : 0 < k) (hl : ∀ y, (c y).length = k) (h1 : ∀ y, ∀ u ∈ c y, u.oneCell' = true) (xs zs : List α) (A : Option Addr) (n d : Nat) (hs : a.eval s = .slice A n d) (hown : OwnL w base e k c (.slice A n d) xs)
    (B : Option Addr) (m q : Nat) (hx : a.eval x = .slice B m q) (hz : RdL w k c B zs) (hzm : zs.length = m) (hm : xs.length + zs.length ≤ 1000000) (hb : bts ≤ 10000) (hbase : base ≤ w.heap.size)
    (h : ∀ D N d' w', OwnL w' base e k c (.slice D N d') (xs ++ zs) → w.grownBy w' (Value.slice A n d).ownBlock → (∀ i, D.map Addr.block = some i → A.map Addr.block = some i ∨ w.heap.size ≤ i) → K (a.put o.dst (.slice D N d')) w') :
    if Region.wanted o (yielded ops a.tmps) = true then Oper.wp P o a w K Q else E := by
  have hw : Region.wanted o (yielded ops a.tmps) = true := by simp [Region.wanted, hgd]
  rw [if_pos hw]
  obtain ⟨D, N, d', w', hr, h2, h3, h4⟩ := run_appH (P := P) (w := w) t o.type c base e k bts T hk hl h1 xs zs A n d hown B m q hz hzm hm hb hbase
  unfold Oper.wp execOp
  simp only [ho, resolve, invoke, builtin, Sem.run_bind, Sem.run_pure, Result.andThen_ok, List.map_toArray, List.map_cons, List.map_nil, hs, hx, hr]
  exact h D N d' w' h2 h3 h4
theorem bsC_fat (r : Option (Nat × Int × Int)) : ∃ v2 v3 v4, bsC r = #[iv 0, iv 0, iv v2, iv v3, iv v4] ∧ fatv r = atv 0 0 v2 v3 v4 := by
  rcases r with _ | ⟨t, x, y⟩
  · exact ⟨_, _, _, rfl, rfl⟩
  · exact ⟨_, _, _, rfl, rfl⟩
theorem fdS_go {n k : Nat} {r : Nat → Option (Nat × Int × Int)} (hk : k < n) : fdS n r (n - k) = match r k with | some (t, x, y) => some (k, t, x, y) | none => fdS n r (n - (k + 1)) := by
  obtain ⟨j, hj⟩ : ∃ j, n - k = j + 1 := ⟨n - k - 1, by omega⟩
  rw [hj, fdS, show n - (j + 1) = k by omega, show n - (k + 1) = j by omega]
  cases r k <;> rfl
theorem infoRL : (Tryz.prog.info? 22).map (fun i => (i.zero, i.size, i.bytes)) = some (some (.slice none 0 0), 1, 24) := by kernel_rfl
theorem make_rl (n : Nat) (hn : n ≤ 1000) (w : World) : (Instr.makeSlice 25 (.int .i64 (n : Int)) (.int .i64 (n : Int))).run Tryz.prog w = .ok (.slice (some ⟨w.heap.size, 0, none⟩) n n) (w.alloc (.cells (madeCells #[.slice none 0 0] n) 22)) := by
  obtain ⟨i0, hi0, hz0, hz1, hz2⟩ := info_parts infoRL
  have := run_makeSlice (P := Tryz.prog) w 25 22 i0 (.slice none 0 0) elRL.und hi0 hz0 .i64 .i64 (n : Int) (n : Int) (by omega) (by omega) (by rw [hz1]; omega) (by rw [hz2]; omega) (by omega)
  rw [hz1, show (n : Int).toNat = n by omega, Nat.mul_one] at this
  exact this
theorem sft_new (w : World) (n : Nat) (Ps : List Pc) (rs : Nat → NsO) : Sft (w.alloc (.cells (madeCells #[.slice none 0 0] n) 22)) w.heap.size w.heap.size n (fun _ => none) (fun _ => 0) (fun j => (tkX Ps rs j 0).flatten) (.slice none 0 0) (outL rs 0) (.slice none 0 0) (lefL rs 0) := by
  obtain ⟨h1, h2, h3⟩ := made_row w _ (.slice none 0 0) n 22 (Gr.refl _)
  exact ⟨fun j hj => h1 j hj, h2, ⟨Nat.le_refl _, h3⟩, fun j hj => own_nil _ _ _ _ _, nofun, nofun, own_nil _ _ _ _ _, own_nil _ _ _ _ _, nofun, nofun⟩
structure NsK (w : World) (lo T n i : Nat) (Ps : List Pc) (rs : Nat → NsO) (r : Nat → Option (Nat × Int × Int)) (u u1 v : Value) (kk : Nat) (fb : Bool) : Prop where
  no : fb = false → u1 = u ∧ rs i = fdS n r (n - kk) ∧ ∃ D q, Sft w lo T n D q (fun j => (tkX Ps rs j i).flatten) u (outL rs i) v (lefL rs i)
  ye : fb = true → (∃ z, rs i = some z) ∧ ∃ D q, Sft w lo T n D q (fun j => (tkX Ps rs j (i + 1)).flatten) u1 (outL rs (i + 1)) v (lefL rs (i + 1))
theorem put_of {S : List ShT} {Ps : List Pc} {bs : Pc → Bool} {t : St} {rs : Nat → NsO} (z3 : ∀ s ∈ S, vsE s = 0) (z4 : ∀ p ∈ Ps, vpE p (bs p) = 0) (z5 : vtB t = true) (hr : NsR S Ps t rs) {i j u : Nat} {x y : Int} {p : Pc} (hp : Ps[i]? = some p) (hk : rs i = some (j, u, x, y)) :
    puB p ⟨(i : Int), (j : Int), x, y, (u : Int)⟩ = true := by
  obtain ⟨s, hs, hu, hpg, hsg, hal, hpl⟩ := add6 (bs := bs) z3 z4 z5 hr hp hk
  have hxy := plp_xy hpg hsg (vtB_iff.1 z5).2.1 hpl
  exact puB_iff.2 ⟨wiB_iff.2 ⟨by dsimp only; omega, by dsimp only; omega⟩, by rw [Bool.and_eq_true]; exact ⟨wiB_iff.2 hxy.1, wiB_iff.2 hxy.2⟩, put_va hpg hpl⟩
set_option maxHeartbeats 16000000 in
set_option maxRecDepth 100000 in
theorem rNest_good (A : Option Addr) (c : Nat) (S : List ShT) (B : Option Addr) (d : Nat) (Ps : List Pc) (bs : Pc → Bool) (t : St) (rs : Nat → NsO) (w : World) (hS : SlS w A c S) (hP : SlP w B d Ps) (hb : CoBs Ps bs) (h0 : ckE S Ps bs t = 0) (hr : NsR S Ps t rs) :
    Calls Tryz.prog 11 #[.slice A S.length c, .slice B Ps.length d, stvv t] w fun e w' => ∃ u v : Value, e = .returned (.tuple #[u, v, iv 0]) ∧ OwnL w' w.heap.size 33 5 at6L u (outL rs Ps.length) ∧ OwnL w' w.heap.size 3 1 inL v (lefL rs Ps.length) ∧ Gr w w' := by
  obtain ⟨⟨z1, z2⟩, z3, z4, z5⟩ := ck_good h0
  have HGI := hide (fun (w' : World) (g : Gr w w') => given6_any A c S B d Ps bs w' (hS.gr g) (hP.gr g) hb)
  have hcl : clE S Ps bs = 0 := by
    unfold ckE at h0
    by_cases h : clE S Ps bs = 0
    · exact h
    · rw [if_pos h] at h0
      exact absurd h0 h
  rw [hcl] at HGI
  have H4 := hide (fun (w' : World) => rValidSettings_any t w')
  rw [z5] at H4
  have hPG : ∀ p ∈ Ps, PcG p := fun p hp => (vpE_good (z4 p hp)).1
  have hSG : ∀ s ∈ S, ShG s := fun s hs => vsE_good (z3 s hs)
  have HFIT := hide (fun (i k : Nat) (p : Pc) (s : ShT) (r : Option (Nat × Int × Int)) (hp : Ps[i]? = some p) (hs : S[k]? = some s) (hf : FitR s (tkX Ps rs k i).flatten p t r) (D : Option Addr) (q : Nat) (w' : World) (g : Gr w w') (hD : SlR w' D q (tkX Ps rs k i).flatten) => show Calls Tryz.prog 32 #[s.v, .slice D (tkX Ps rs k i).flatten.length q, p.v, stvv t] w' fun e w'' => e = .returned (.tuple #[fatv r, .bool r.isSome]) ∧ Gr w' w'' from by
    have hps := List.mem_of_getElem? hp
    have hss := List.mem_of_getElem? hs
    have hil := (List.getElem?_eq_some_iff.1 hp).1
    refine (fit6_any s D q (tkX Ps rs k i).flatten p t w' ((hS.el s hss).gr g) (hSG s hss) hD (tkX_va hPG hSG (vtB_iff.1 z5) hr k i) (by have := tkX_fl (rs := rs) hPG k i; omega) ((hP.el p hps).gr g) (hPG p hps) (vtB_iff.1 z5).1 (vtB_iff.1 z5).2).mono ?_
    rintro e w'' ⟨r', h1, rfl, g2⟩
    rw [fitR_uniq hf h1]
    exact ⟨rfl, g2⟩)
  have HPUT := hide (fun (i k u : Nat) (x y : Int) (p : Pc) (hp : Ps[i]? = some p) (hk : rs i = some (k, u, x, y)) (w' : World) (g : Gr w w') => show Calls Tryz.prog 38 #[p.v, atv i k x y u] w' fun e w'' => PutOk p.nm p.mt p.ga p.gr (plc p u x y) (mCl p ⟨(i : Int), (k : Int), x, y, (u : Int)⟩) (mFl p ⟨(i : Int), (k : Int), x, y, (u : Int)⟩) w' w'' e from
    rPut_yes (z := ⟨(i : Int), (k : Int), x, y, (u : Int)⟩) ((hP.el p (List.mem_of_getElem? hp)).gr g) (hb p (List.mem_of_getElem? hp)) (z4 p (List.mem_of_getElem? hp)) (put_of z3 z4 z5 hr hp hk))
  have HLEN := hide (fun (k i : Nat) (hi : i ≤ Ps.length) => show (tkX Ps rs k i).flatten.length ≤ 96 from by have := tkX_fl (rs := rs) hPG k i; omega)
  have HPL := hide (fun (p : Pc) (u : Nat) (x y : Int) (hp : p ∈ Ps) => show (plc p u x y).length ≤ 12 from by
    have := (hPG p hp).n1
    simp only [plc, tnL, List.length_map]
    exact this)
  have HS := hide hS
  have HP := hide hP
  have HR := hide hr
  have n1 := hS.cap
  have n2 := hS.capB
  have n3 := hP.cap
  have n4 := hP.capB
  obtain ⟨g, m, cm⟩ := t
  clear hS hP hb h0 hr z3 z4 z5 hcl hPG hSG
  go_enter Tryz.func11, Tryz.ntmps11
  go_upto_region 1 with fail
  have HM5 := hide (Made.new w #[iv g, iv m, .bool cm] 29)
  have g00 : Gr w (w.alloc (.cells #[iv g, iv m, .bool cm] 29)) := Gr.alloc (Gr.refl _) _
  generalize w.alloc (.cells #[iv g, iv m, .bool cm] 29) = w0 at *
  obtain ⟨b5, hb5⟩ : ∃ b5, w.heap.size = b5 := ⟨_, rfl⟩
  rw [hb5] at HM5 ⊢
  go_wp2_with fail
  refine (HGI.out _ g00).mono ?_
  rintro e w1 ⟨rfl, g1⟩
  obtain ⟨l5, y5, f5_⟩ := Made.gr HM5.out g1
  have a50 := y5 0
  have a51 := y5 1
  have a52 := y5 2
  clear y5 f5_
  go_wp2_with fail
  refine (H4.out _).mono ?_
  rintro e w2 ⟨rfl, g2⟩
  have gw2 : Gr w w2 := (g00.trans g1).trans g2
  have HM5b := hide (HM5.out.gr (g1.trans g2))
  clear l5 a50 a51 a52 HGI H4 HM5 g00 g1 g2
  have HMK := fun w' => make_rl S.length (by omega) w'
  go_wp2_with fail
  have HSF0 := hide (sft_new w2 S.length Ps rs)
  have ga : Gr w2 (w2.alloc (.cells (madeCells #[.slice none 0 0] S.length) 22)) := Gr.alloc (Gr.refl _) _
  generalize w2.alloc (.cells (madeCells #[.slice none 0 0] S.length) 22) = w3 at *
  obtain ⟨lo, hlo⟩ : ∃ lo, w2.heap.size = lo := ⟨_, rfl⟩
  rw [hlo] at HSF0 ⊢
  obtain ⟨T, hT⟩ : ∃ T, T = lo := ⟨_, rfl⟩
  have HSF := hide (show Sft w3 lo T S.length (fun _ => none) (fun _ => 0) (fun j => (tkX Ps rs j 0).flatten) (.slice none 0 0) (outL rs 0) (.slice none 0 0) (lefL rs 0) from by rw [hT]; exact HSF0.out)
  have hb5lo : b5 < lo := by rw [← hlo]; exact HM5b.out.1
  rw [← hT]
  clear HSF0 HMK hT
  go_loopw [11, 12, 13] (fun u v i wr => ∃ (i' : Nat) (U V : Value), i' ≤ Ps.length ∧ i = iv i' ∧ U = u ∧ V = v ∧ Gr w2 wr ∧ Hid (∃ D q, Sft wr lo T S.length D q (fun j => (tkX Ps rs j i').flatten) U (outL rs i') V (lefL rs i'))) (fun _ _ i _ => Ps.length - (intOf i).toNat)
  case atStart => exact ⟨0, _, _, by omega, rfl, rfl, rfl, ga, hide ⟨_, _, HSF.out⟩⟩
  case round =>
    clear HSF
    obtain ⟨i, u, v, hi, rfl, rfl, rfl, gi, HS0⟩ := hrel
    by_cases hil : i < Ps.length
    · obtain ⟨p, hp⟩ : ∃ p, Ps[i]? = some p := ⟨_, List.getElem?_eq_getElem hil⟩
      obtain ⟨r, hr1, hr2⟩ := HR.out i p hp
      have HR1 := hide hr1
      have HPI := hide hp
      have hi0 : (0 : Int) ≤ (i : Int) := by omega
      have hi1 : (i : Int) < (Ps.length : Int) := by omega
      have HK0 := hide (show ∀ (D : Nat → Option Addr) (q : Nat → Nat), Sft wr lo T S.length D q (fun j => (tkX Ps rs j i).flatten) u (outL rs i) v (lefL rs i) → NsK wr lo T S.length i Ps rs r u u v 0 false from fun D q h => ⟨fun _ => ⟨rfl, hr2, D, q, h⟩, fun e => by cases e⟩)
      have HK1 := hide (show NsK wr lo T S.length i Ps rs r u u v 0 false from by
        obtain ⟨D, q, h⟩ := HS0.out
        exact HK0.out D q h)
      clear hr1 hr2 hp HK0 HS0
      go_wp2_with fail
      obtain ⟨wo, rfl⟩ : ∃ x, x = wr := ⟨_, rfl⟩
      go_loopw [11, 14, 15] (fun u1 fd k wr => ∃ (kk : Nat) (fb : Bool) (U1 : Value), kk ≤ S.length ∧ k = iv kk ∧ fd = .bool fb ∧ U1 = u1 ∧ Gr w2 wr ∧ Hid (NsK wr lo T S.length i Ps rs r u U1 v kk fb)) (fun _ _ k _ => S.length - (intOf k).toNat)
      case atStart => exact ⟨0, false, _, by omega, rfl, rfl, rfl, gi, HK1⟩
      case round =>
        obtain ⟨k, fb, u1, hk, rfl, rfl, rfl, gk, HK⟩ := hrel
        clear HK1
        have gwk : Gr w wr := gw2.trans gk
        cases fb with
        | true =>
          obtain ⟨hz, D, q, hsf⟩ := HK.out.ye rfl
          have HSF := hide (show ∃ D q, Sft wr lo T S.length D q (fun j => (tkX Ps rs j (i + 1)).flatten) u1 (outL rs (i + 1)) v (lefL rs (i + 1)) from ⟨D, q, hsf⟩)
          clear hz hsf HK
          by_cases hkl : k < S.length
          · have hk1 : decide ((k : Int) < (S.length : Int)) = true := decide_eq_true (by omega)
            go_wp2_with fail
            go_roundw
            case rel => exact ⟨i + 1, _, _, by omega, by go_num, rfl, rfl, gk, HSF⟩
            case measure => simp only [intOf]; omega
          · have hk1 : decide ((k : Int) < (S.length : Int)) = false := decide_eq_false (by omega)
            go_wp2_with fail
            go_roundw
            case rel => exact ⟨i + 1, _, _, by omega, by go_num, rfl, rfl, gk, HSF⟩
            case measure => simp only [intOf]; omega
        | false =>
          obtain ⟨rfl, hri, D, q, hsf⟩ := HK.out.no rfl
          have HSF := hide hsf
          have HRI := hide hri
          clear hsf hri HK
          by_cases hkl : k < S.length
          · have hk0 : (0 : Int) ≤ (k : Int) := by omega
            have hk1 : (k : Int) < (S.length : Int) := by omega
            obtain ⟨s, hs⟩ : ∃ s, S[k]? = some s := ⟨_, List.getElem?_eq_getElem hkl⟩
            have HSI := hide hs
            have HFK := hide (HFIT.out i k p s (r k) HPI.out hs (HR1.out k s hs))
            clear hs
            obtain ⟨LK, hLK⟩ : ∃ LK, (tkX Ps rs k i).flatten = LK := ⟨_, rfl⟩
            have HLK := hide hLK
            rw [hLK] at HFK
            have htb := HSF.out.tb k hkl
            rw [hLK] at htb
            have hrow := HSF.out.rw k hkl
            rw [hLK] at hrow
            have HRW := hide hrow
            have hL96 : LK.length ≤ 96 := by rw [← hLK]; exact HLEN.out k i (by omega)
            have hTl := HSF.out.tl.2
            obtain ⟨b1, o1, hA, ⟨s0, s1, s2, s3, s4, s5, s6, s7⟩, _⟩ := (HS.out.gr gwk).at_ HSI.out
            subst hA
            obtain ⟨b2, o2, hB, ⟨p0, p1, p2, p3, p4, p5, p6⟩, _⟩ := (HP.out.gr gwk).at_ HPI.out
            subst hB
            have hb1 : b1 < wr.heap.size := cell_lt (by rw [s0]; rfl)
            have hb2 : b2 < wr.heap.size := cell_lt (by rw [p0]; rfl)
            obtain ⟨v2, v3, v4, hv1, hv2⟩ := bsC_fat (r k)
            have HV1 := hide hv1
            have HV2 := hide hv2
            obtain ⟨fb, hfb⟩ : ∃ fb, (r k).isSome = fb := ⟨_, rfl⟩
            have HFB := hide hfb
            have HFW := hide (fun (w' : World) (g' : Gr wr w') => HFK.out (D k) (q k) w' (gwk.trans g') (own_slr (hrow.gr g')))
            rw [hv2, hfb] at HFW
            clear hLK hrow hv1 hv2 hfb HFK
            obtain ⟨l5, y5, f5_⟩ := Made.gr HM5b.out gk
            have a50 := y5 0
            have a51 := y5 1
            have a52 := y5 2
            clear y5 f5_
            go_upto_region 17 with fail
            have HM16 := hide (Made.new wr #[iv 0, iv 0, iv 0, iv 0, iv 0] 33)
            have hgb : Gr wr (wr.alloc (.cells #[iv 0, iv 0, iv 0, iv 0, iv 0] 33)) := Gr.alloc (Gr.refl _) _
            obtain ⟨B16, hB16⟩ : ∃ B16, wr.heap.size = B16 := ⟨_, rfl⟩
            have HB16 := hide hB16
            rw [hB16] at HM16 ⊢
            have t0 := (hgb.cell _ _ hb1).trans s0
            have t1 := (hgb.cell _ _ hb1).trans s1
            have t2 := (hgb.cell _ _ hb1).trans s2
            have t3 := (hgb.cell _ _ hb1).trans s3
            have t4 := (hgb.cell _ _ hb1).trans s4
            have t5 := (hgb.cell _ _ hb1).trans s5
            have t6 := (hgb.cell _ _ hb1).trans s6
            have t7 := (hgb.cell _ _ hb1).trans s7
            have q0 := (hgb.cell _ _ hb2).trans p0
            have q1 := (hgb.cell _ _ hb2).trans p1
            have q2 := (hgb.cell _ _ hb2).trans p2
            have q3 := (hgb.cell _ _ hb2).trans p3
            have q4 := (hgb.cell _ _ hb2).trans p4
            have q5 := (hgb.cell _ _ hb2).trans p5
            have q6 := (hgb.cell _ _ hb2).trans p6
            have tb1 := (hgb.cell _ _ hTl).trans htb
            have e50 := (hgb.cell _ _ l5).trans a50
            have e51 := (hgb.cell _ _ l5).trans a51
            have e52 := (hgb.cell _ _ l5).trans a52
            have hb1' := Nat.lt_of_lt_of_le hb1 hgb.size
            have hb2' := Nat.lt_of_lt_of_le hb2 hgb.size
            have hTl' := Nat.lt_of_lt_of_le hTl hgb.size
            have hl5' := Nat.lt_of_lt_of_le l5 hgb.size
            clear s0 s1 s2 s3 s4 s5 s6 s7 p0 p1 p2 p3 p4 p5 p6 htb a50 a51 a52 l5 hb1 hb2 hTl hB16
            generalize wr.alloc (.cells #[iv 0, iv 0, iv 0, iv 0, iv 0] 33) = wb at *
            go_cut [14] from 47 to 63 (fun fd wx => fd = .bool fb ∧ Made wx B16 (bsC (r k)) ∧ Gr wr wx)
            case first =>
              have GC := @GrW.cell
              refine wp_region_grw_pre 13 (by kernel_rfl) (by kernel_rfl) ?_
              simp only [List.take_succ_cons, List.take_zero]
              repeat (go_big_quiet_step (fail))
              refine wpQuiet_nil ?_
              intro wq hwq
              obtain ⟨gq, hwq'⟩ := hwq
              subst hwq'
              clear GC
              have gq1 := gq.gr
              generalize gq.w = wq at gq1 ⊢
              obtain ⟨Xq, Yq, cq, fq⟩ := gq1.use
              change wpAny _ .any _ _ 6 #[true, true, true, true, true, true, true, true, true, true, true, true, true, false, false, false, false, false, false] _ _
              refine wpAny_ready (rs := [13]) (by kernel_rfl) (by simp) ?_
              refine AllReady.cons rfl (fun K hK => ?_) AllReady.nil
              go_simp
              go_wp2_with (go_at_call 32; refine (HFW.out _ (hgb.trans gq1)).mono ?_; rintro e w9 ⟨rfl, g9⟩; (have HM9 := hide (HM16.out.gr (gq1.trans g9))); (obtain ⟨l16, y16, f16_⟩ := Made.gr HM9.out (Gr.refl w9)); (have a160 := y16 0); (have a161 := y16 1); (have a162 := y16 2); (have a163 := y16 3); (have a164 := y16 4); (have f160 := f16_ 0); (have f161 := f16_ 1); (have f162 := f16_ 2); (have f163 := f16_ 3); (have f164 := f16_ 4); clear y16 f16_)
              (try (refine hK _ _ ?_; clear hK K))
              refine wpAny_ready (rs := [14]) (by kernel_rfl) (by simp) ?_
              refine AllReady.cons rfl (fun K hK => ?_) ?_
              · go_simp
                refine hK _ _ ?_
                clear hK K
                refine wpAny_ready (rs := [15, 16]) (by kernel_rfl) (by simp) ?_
                refine AllReady.cons rfl (fun K hK => ?_) ?_
                · go_simp
                  refine hK _ _ ?_
                  clear hK K
                  refine wpAny_ready (rs := [16, 17]) (by kernel_rfl) (by simp) ?_
                  refine AllReady.cons rfl (fun K hK => ?_) ?_
                  · go_simp
                    refine hK _ _ ?_
                    clear hK K
                    refine wpAny_ready (rs := [17]) (by kernel_rfl) (by simp) ?_
                    refine AllReady.cons rfl (fun K hK => ?_) ?_
                    · go_simp
                      refine hK _ _ ?_
                      clear hK K
                      refine wpAny_ready (rs := [18]) (by kernel_rfl) (by simp) ?_
                      refine AllReady.cons rfl (fun K hK => ?_) ?_
                      · go_simp
                        refine hK _ _ ?_
                        clear hK K
                        refine wpAny_done (by kernel_rfl) ?_ _
                        go_wp2_with fail
                        go_meet
                        exact ⟨rfl, by rw [HV1.out]; exact (show Made (setL w9 B16 0 [iv 0, iv 0, iv v2, iv v3, iv v4]) B16 #[iv 0, iv 0, iv v2, iv v3, iv v4] from Made.setL HM9.out [iv 0, iv 0, iv v2, iv v3, iv v4] rfl), show Gr wr (setL w9 B16 0 [iv 0, iv 0, iv v2, iv v3, iv v4]) from gr_setL (Nat.le_of_eq HB16.out) (hgb.trans (gq1.trans g9))⟩
                      exact AllReady.nil
                    exact AllReady.nil
                  refine AllReady.cons rfl (fun K hK => ?_) ?_
                  · go_simp
                    refine hK _ _ ?_
                    clear hK K
                    refine wpAny_ready (rs := [16]) (by kernel_rfl) (by simp) ?_
                    refine AllReady.cons rfl (fun K hK => ?_) ?_
                    · go_simp
                      refine hK _ _ ?_
                      clear hK K
                      refine wpAny_ready (rs := [18]) (by kernel_rfl) (by simp) ?_
                      refine AllReady.cons rfl (fun K hK => ?_) ?_
                      · go_simp
                        refine hK _ _ ?_
                        clear hK K
                        refine wpAny_done (by kernel_rfl) ?_ _
                        go_wp2_with fail
                        go_meet
                        exact ⟨rfl, by rw [HV1.out]; exact (show Made (setL w9 B16 0 [iv 0, iv 0, iv v2, iv v3, iv v4]) B16 #[iv 0, iv 0, iv v2, iv v3, iv v4] from Made.setL HM9.out [iv 0, iv 0, iv v2, iv v3, iv v4] rfl), show Gr wr (setL w9 B16 0 [iv 0, iv 0, iv v2, iv v3, iv v4]) from gr_setL (Nat.le_of_eq HB16.out) (hgb.trans (gq1.trans g9))⟩
                      exact AllReady.nil
                    exact AllReady.nil
                  exact AllReady.nil
                refine AllReady.cons rfl (fun K hK => ?_) ?_
                · go_simp
                  refine hK _ _ ?_
                  clear hK K
                  refine wpAny_ready (rs := [15]) (by kernel_rfl) (by simp) ?_
                  refine AllReady.cons rfl (fun K hK => ?_) ?_
                  · go_simp
                    refine hK _ _ ?_
                    clear hK K
                    refine wpAny_ready (rs := [17]) (by kernel_rfl) (by simp) ?_
                    refine AllReady.cons rfl (fun K hK => ?_) ?_
                    · go_simp
                      refine hK _ _ ?_
                      clear hK K
                      refine wpAny_ready (rs := [18]) (by kernel_rfl) (by simp) ?_
                      refine AllReady.cons rfl (fun K hK => ?_) ?_
                      · go_simp
                        refine hK _ _ ?_
                        clear hK K
                        refine wpAny_done (by kernel_rfl) ?_ _
                        go_wp2_with fail
                        go_meet
                        exact ⟨rfl, by rw [HV1.out]; exact (show Made (setL w9 B16 0 [iv 0, iv 0, iv v2, iv v3, iv v4]) B16 #[iv 0, iv 0, iv v2, iv v3, iv v4] from Made.setL HM9.out [iv 0, iv 0, iv v2, iv v3, iv v4] rfl), show Gr wr (setL w9 B16 0 [iv 0, iv 0, iv v2, iv v3, iv v4]) from gr_setL (Nat.le_of_eq HB16.out) (hgb.trans (gq1.trans g9))⟩
                      exact AllReady.nil
                    exact AllReady.nil
                  exact AllReady.nil
                exact AllReady.nil
              exact AllReady.nil
            case rest =>
              obtain ⟨rfl, hM16, gx⟩ := hcut
              obtain ⟨wx, rfl⟩ : ∃ x, x = wc := ⟨_, rfl⟩
              have HFG := hide (fdS_go (r := r) hkl)
              clear HFW HM16 hgb t0 t1 t2 t3 t4 t5 t6 t7 q0 q1 q2 q3 q4 q5 q6 tb1 e50 e51 e52 hb1' hb2' hTl' hl5'
              cases hrk : r k with
              | none =>
                rw [hrk] at HFB HFG
                obtain rfl : false = fb := HFB.out
                have HK2 := hide (show NsK wx lo T S.length i Ps rs r u1 u1 v (k + 1) false from ⟨fun _ => ⟨rfl, HRI.out.trans HFG.out, D, q, HSF.out.gr gx⟩, fun e => by cases e⟩)
                clear hM16 HFB HFG hrk HSF HRI HRW HLK HV1 HV2
                go_wp2_with fail
                go_roundw
                case rel => exact ⟨k + 1, false, _, by omega, by go_num, rfl, rfl, gk.trans gx, HK2⟩
                case measure => simp only [intOf]; omega
              | some z =>
                obtain ⟨t0, x, y⟩ := z
                rw [hrk] at HFB HFG hM16
                obtain rfl : true = fb := HFB.out
                have hrs : rs i = some (k, t0, x, y) := HRI.out.trans HFG.out
                have HRS := hide hrs
                have HM16 := hide (show Made wx B16 #[iv 0, iv 0, iv x, iv y, iv t0] from hM16)
                have hB16 := HB16.out
                clear hM16 HFB HFG hrk HRI hrs
                obtain ⟨l16, y16, f16_⟩ := Made.gr HM16.out (Gr.refl wx)
                have a160 := y16 0
                have a161 := y16 1
                have a162 := y16 2
                have a163 := y16 3
                have a164 := y16 4
                have f160 := f16_ 0
                have f161 := f16_ 1
                have f162 := f16_ 2
                have f163 := f16_ 3
                have f164 := f16_ 4
                clear y16 f16_
                go_upto_region 21 with fail
                obtain ⟨w19, e19⟩ : ∃ W, (wx.setCell ⟨B16, 0, none⟩ (iv i)).setCell ⟨B16, 1, none⟩ (iv k) = W := ⟨_, rfl⟩
                have HM19 := hide (show Made w19 B16 #[iv i, iv k, iv x, iv y, iv t0] from by
                  rw [← e19]
                  exact (HM16.out.set1 (o := 0) (by simp) (iv i)).set1 (o := 1) (by simp) (iv k))
                have g19 : Gr wr w19 := by
                  rw [← e19]
                  exact Gr.setCell (Gr.setCell gx (Nat.le_of_eq hB16) _) (Nat.le_of_eq hB16) _
                rw [e19]
                clear e19 l16 a160 a161 a162 a163 a164 f160 f161 f162 f163 f164 HM16
                have gw19 : Gr w w19 := gwk.trans g19
                obtain ⟨b2', o2', hB', ⟨p0, p1, p2, p3, p4, p5, p6⟩, _⟩ := (HP.out.gr gw19).at_ HPI.out
                cases hB'
                have hb2 : b2 < w19.heap.size := cell_lt (by rw [p0]; rfl)
                have HUW := hide (show ∀ w', Gr w19 w' → Calls Tryz.prog 38 #[p.v, atv i k x y t0] w' fun e w'' => PutOk p.nm p.mt p.ga p.gr (plc p t0 x y) (mCl p ⟨(i : Int), (k : Int), x, y, (t0 : Int)⟩) (mFl p ⟨(i : Int), (k : Int), x, y, (t0 : Int)⟩) w' w'' e from fun w' g' => HPUT.out i k t0 x y p HPI.out HRS.out w' (gw19.trans g'))
                have HM12 := hide (HPL.out p t0 x y (List.mem_of_getElem? HPI.out))
                have HTK := hide (fun j => tkX_some (k := j) HPI.out HRS.out)
                generalize plc p t0 x y = M1 at *
                generalize mCl p _ = M2 at *
                generalize mFl p _ = M3 at *
                obtain ⟨l19, y19, f19_⟩ := Made.gr HM19.out (Gr.refl w19)
                have a190 := y19 0
                have a191 := y19 1
                have a192 := y19 2
                have a193 := y19 3
                have a194 := y19 4
                clear y19 f19_
                go_cut [17, 18] from 69 to 77 (fun p5 v6 wx => PuC w19 p.nm p.mt p.ga p.gr M1.length M2.length M3.length M1 M2 M3 p5 wx ∧ v6 = iv 0)
                case first =>
                  go_region_held3 (fun w' => Gr (w19) w' ∧ ∀ ii oo, ii < (w19).heap.size → w'.cell? ⟨ii, oo, none⟩ = (w19).cell? ⟨ii, oo, none⟩) ((refine And.intro ?_ (Gr.cell ?_) <;> ((with_reducible repeat (first | exact Gr.refl _ | assumption | refine Gr.alloc ?_ _ | refine Gr.drewN ?_ _ | refine Gr.drew ?_ | refine Gr.setCell ?_ (by first | (dsimp only; omega) | (simp only [World.size_alloc]; omega)) _ | refine Gr.trans ?_ (by assumption))); done)))
                   (first | (go_at_call 38; refine (HUW.out _ (by with_reducible repeat (first | exact Gr.refl _ | assumption | refine Gr.alloc ?_ _ | refine Gr.drewN ?_ _ | refine Gr.drew ?_ | refine Gr.setCell ?_ (by first | (dsimp only; omega) | (simp only [World.size_alloc]; omega)) _ | refine Gr.trans ?_ (by assumption)))).mono ?_; rintro e w9 ⟨D1, D2, D3, q1, q2, q3, rfl, ⟨s1, s2, s3⟩, ⟨f1, f2, f3⟩, g9⟩; (have u1 := NwR.mk s1 f1); (have u2 := NwR.mk s2 f2); (have u3 := NwR.mk s3 f3); clear s1 s2 s3 f1 f2 f3; obtain ⟨X1, Y1, c1, f1⟩ := g9.use; (have z9 := g9.size); (try simp only [World.size_alloc, World.size_drew, World.heap_drewN] at z9 u1 u2 u3)))
                  · go_wp2_with fail
                    have gx : Gr w19 w9 := (by with_reducible repeat (first | exact Gr.refl _ | assumption | refine Gr.alloc ?_ _ | refine Gr.drewN ?_ _ | refine Gr.drew ?_ | refine Gr.setCell ?_ (by first | (dsimp only; omega) | (simp only [World.size_alloc]; omega)) _ | refine Gr.trans ?_ (by assumption)))
                    go_meet
                    exact ⟨puC_new _ gx (by omega) u1 u2 u3, rfl⟩
                  · go_wp2_with fail
                    have gx : Gr w19 w9 := (by with_reducible repeat (first | exact Gr.refl _ | assumption | refine Gr.alloc ?_ _ | refine Gr.drewN ?_ _ | refine Gr.drew ?_ | refine Gr.setCell ?_ (by first | (dsimp only; omega) | (simp only [World.size_alloc]; omega)) _ | refine Gr.trans ?_ (by assumption)))
                    go_meet
                    exact ⟨puC_set (B := w19.heap.size) ((Made.new w19 #[.string ⟨#[]⟩, .string ⟨#[]⟩, .int .i64 0, .int .i64 0, .slice none 0 0, .slice none 0 0, .slice none 0 0] 27).gr (show Gr _ w9 from (by clear gx; exact (by with_reducible repeat (first | exact Gr.refl _ | assumption | refine Gr.alloc ?_ _ | refine Gr.drewN ?_ _ | refine Gr.drew ?_ | refine Gr.setCell ?_ (by first | (dsimp only; omega) | (simp only [World.size_alloc]; omega)) _ | refine Gr.trans ?_ (by assumption)))))) (by omega) gx (by omega) u1 u2 u3, rfl⟩
                case rest =>
                  obtain ⟨⟨B17, D1, D2, D3, q1, q2, q3, rfl, HMX, ⟨u1', _, _⟩, hB17, gc⟩, rfl⟩ := hcut
                  have HU1 := hide u1'.s
                  have gwc : Gr wr wc := g19.trans gc
                  have HSFc := hide (HSF.out.gr gwc)
                  have HRWc := hide (HRW.out.gr gwc)
                  have HM16c := hide (HM19.out.gr gc)
                  have hNN : LK.length + M1.length ≤ 1000000 := by have := HM12.out; omega
                  have HNN := hide hNN
                  obtain ⟨l17, y17, _⟩ := HMX
                  have a174 := y17 4
                  have tbc := HSFc.out.tb k hkl
                  have fzc := HSFc.out.fz k
                  have hTc := HSFc.out.tl.2
                  rw [HLK.out] at tbc
                  have hloT := HSFc.out.tl.1
                  have hloc : lo ≤ wc.heap.size := by omega
                  have hTB : T < B16 := by have := HSF.out.tl.2; omega
                  have HNE := hide (show some T ≠ (Value.slice (D k) LK.length (q k)).ownBlock from fun e => HSF.out.rT k hkl T ((own_map HRW.out).1 e.symm) rfl)
                  have HRB := hide (fun (j : Nat) (hj : (D k).map Addr.block = some j) => own_lo HRW.out hj)
                  clear l19 a190 a191 a192 a193 a194 y17 p0 p1 p2 p3 p4 p5 p6 hb2 u1' HUW hNN HM19 HSF HRW
                  obtain ⟨wd, rfl⟩ : ∃ x, x = wc := ⟨_, rfl⟩
                  go_upto_region 22 with fail
                  go_region_law (first
                    | (refine step_appH (by rfl) _ _ _ (by rfl) rcL lo 70 4 32 elRect (by decide) (fun _ => rfl) one_rc LK M1 (D k) LK.length (q k) (by rfl) (HRWc.out.gr (by with_reducible repeat (first | exact Gr.refl _ | assumption | refine Gr.alloc ?_ _ | refine Gr.drewN ?_ _ | refine Gr.drew ?_ | refine Gr.setCell ?_ (by first | (dsimp only; omega) | (simp only [World.size_alloc]; omega)) _ | refine Gr.trans ?_ (by assumption)))) D1 M1.length q1 (by rfl) (HU1.out.gr (by with_reducible repeat (first | exact Gr.refl _ | assumption | refine Gr.alloc ?_ _ | refine Gr.drewN ?_ _ | refine Gr.drew ?_ | refine Gr.setCell ?_ (by first | (dsimp only; omega) | (simp only [World.size_alloc]; omega)) _ | refine Gr.trans ?_ (by assumption)))).rd rfl HNN.out (by decide) (Nat.le_trans hloc (Gr.size (show Gr wd _ from (by with_reducible repeat (first | exact Gr.refl _ | assumption | refine Gr.alloc ?_ _ | refine Gr.drewN ?_ _ | refine Gr.drew ?_ | refine Gr.setCell ?_ (by first | (dsimp only; omega) | (simp only [World.size_alloc]; omega)) _ | refine Gr.trans ?_ (by assumption)))))) ?_; intro D8 N8 d8 w8 hO8 hgrow hat8; (obtain ⟨x1, x2, x3⟩ := t_far tbc fzc hTc (show Gr wd _ from (by with_reducible repeat (first | exact Gr.refl _ | assumption | refine Gr.alloc ?_ _ | refine Gr.drewN ?_ _ | refine Gr.drew ?_ | refine Gr.setCell ?_ (by first | (dsimp only; omega) | (simp only [World.size_alloc]; omega)) _ | refine Gr.trans ?_ (by assumption)))) hgrow HNE.out)))
                  all_goals
                    have gz : Gr wd wd.drew := Gr.drew (Gr.refl _)
                    have K8 := hide (Kx.grown (Kx.of_gr gz) hgrow (fun b hb => .inl ((own_map HRWc.out).1 hb)))
                    have HSF9 := hide (HSFc.out.row hkl K8.out hO8 (fun b hb => (hat8 b hb).imp id (fun h => Nat.le_trans gz.size h)))
                    have HSF10 := hide (HSF9.out.congr (L' := fun j => (tkX Ps rs j (i + 1)).flatten) (fun j hj => by
                      rw [HTK.out j]
                      by_cases e : j = k
                      · subst e
                        rw [updF_at, if_pos rfl, List.flatten_append, HLK.out]
                        simp
                      · rw [updF_ne _ _ e, if_neg (fun e' => e e'.symm)]))
                    have HM16d := hide (Made.oth1 (Made.kx HM16c.out K8.out (fun e => by have := HRB.out B16 e; omega)) (show B16 ≠ T by omega) k (.slice D8 N8 d8))
                    have g10 : Gr w2 (w8.setCell ⟨T, k, none⟩ (.slice D8 N8 d8)) := Gr.setCell (Kx.toGr K8.out (gk.trans gwc) (fun b hb => by have := (HRB.out b hb).1; omega)) (Nat.le_trans (Nat.le_of_eq hlo) hloT) _
                    clear hgrow hO8 hat8 gz K8 HSF9 x1 x2 x3
                    generalize w8.setCell ⟨T, k, none⟩ (.slice D8 N8 d8) = w9 at *
                    obtain ⟨l16, y16, f16_⟩ := Made.gr HM16d.out (Gr.refl w9)
                    have a160 := y16 0
                    have a161 := y16 1
                    have a162 := y16 2
                    have a163 := y16 3
                    have a164 := y16 4
                    clear y16 f16_
                    have HO2 := hide (show outL rs i ++ [(⟨(i : Int), (k : Int), x, y, (t0 : Int)⟩ : At6)] = outL rs (i + 1) from (outL_some HRS.out).1.symm)
                    have HLF := hide (outL_some HRS.out).2
                    have HOL := hide (show (outL rs i).length + 1 ≤ 1000000 by have := (out_len rs i).1; omega)
                    have hlo9 : lo ≤ w9.heap.size := by have := g10.size; omega
                    go_upto_region 23 with fail
                    go_wp2_with (refine wpList_appZ rfl _ _ _ rfl at6L lo 33 5 40 elPl (by decide) (outL rs i) [(⟨(i : Int), (k : Int), x, y, (t0 : Int)⟩ : At6)] (outL rs (i + 1)) HO2.out _ rfl (HSF10.out.ou.gr (by with_reducible repeat (first | exact Gr.refl _ | assumption | refine Gr.alloc ?_ _ | refine Gr.drewN ?_ _ | refine Gr.drew ?_ | refine Gr.setCell ?_ (by first | (dsimp only; omega) | (simp only [World.size_alloc]; omega)) _ | refine Gr.trans ?_ (by assumption)))) _ 1 1 rfl rfl (by decide) (fun _ => rfl) (by intro j u hu; refine newsA w9 #[iv i, iv k, iv x, iv y, iv t0] 33 j u ?_; exact hu) (by intro u hu; simp at hu; rcases hu with rfl | rfl | rfl | rfl | rfl <;> rfl) HOL.out (by decide) (by simp only [World.size_alloc]; omega) ?_; intro gg cap1 w10 hO10 hG10 hgrow10 hat10 hlt10)
                    have g11 : Gr w2 w10 := hG10 w2 (Gr.alloc g10 _) (Nat.le_of_eq hlo)
                    have HK2 := hide (show NsK w10 lo T S.length i Ps rs r u1 (.slice (some ⟨gg, 0, none⟩) (outL rs (i + 1)).length cap1) v (k + 1) true from ⟨nofun, fun _ => ⟨⟨_, HRS.out⟩, _, _, by
                      rw [HLF.out]
                      refine HSF10.out.out (Kx.grown (Kx.of_gr (Gr.alloc (Gr.refl w9) _)) hgrow10 (fun b hb => .inl hb)) hO10 (fun b hb => ?_)
                      obtain rfl : gg = b := by simpa [Value.ownBlock] using hb
                      rcases hat10 with h | h
                      · exact .inl h
                      · right
                        simp only [World.size_alloc] at h
                        omega⟩⟩)
                    clear hO10 hG10 hgrow10 hat10 HSF10 HM16d
                    go_roundw
                    case rel => exact ⟨k + 1, true, _, by omega, by go_num, rfl, rfl, g11, HK2⟩
                    case measure => simp only [intOf]; omega
          · obtain rfl : k = S.length := by omega
            have hri : rs i = none := by
              have := HRI.out
              rwa [Nat.sub_self] at this
            have hk1 : decide ((S.length : Int) < (S.length : Int)) = false := decide_eq_false (by omega)
            have HOF := hide (outL_none hri)
            have HTN := hide (fun j => tkX_none (k := j) HPI.out hri)
            have HQL := hide (show (lefL rs i).length + 1 ≤ 1000000 by have := (out_len rs i).2; omega)
            have HQ2 := hide (show lefL rs i ++ [(i : Int)] = lefL rs (i + 1) from HOF.out.2.symm)
            have hlo9 : lo ≤ wr.heap.size := by have := gk.size; omega
            clear hri HRI
            go_wp2_with (refine wpList_appZ rfl _ _ _ rfl inL lo 3 1 8 elIn6 (by decide) (lefL rs i) [(i : Int)] (lefL rs (i + 1)) HQ2.out _ rfl (HSF.out.re.gr (by with_reducible repeat (first | exact Gr.refl _ | assumption | refine Gr.alloc ?_ _ | refine Gr.drewN ?_ _ | refine Gr.drew ?_ | refine Gr.setCell ?_ (by first | (dsimp only; omega) | (simp only [World.size_alloc]; omega)) _ | refine Gr.trans ?_ (by assumption)))) _ 1 1 rfl rfl (by decide) (fun _ => rfl) (by intro j u hu; refine newsA wr #[iv i] 3 j u ?_; exact hu) (by intro u hu; simp at hu; subst hu; rfl) HQL.out (by decide) (by simp only [World.size_alloc]; omega) ?_; intro gg cap1 w10 hO10 hG10 hgrow10 hat10 hlt10)
            have g11 : Gr w2 w10 := hG10 w2 (Gr.alloc gk _) (Nat.le_of_eq hlo)
            have HK2 := hide (show ∃ D q, Sft w10 lo T S.length D q (fun j => (tkX Ps rs j (i + 1)).flatten) u1 (outL rs (i + 1)) (.slice (some ⟨gg, 0, none⟩) (lefL rs (i + 1)).length cap1) (lefL rs (i + 1)) from by
              rw [HOF.out.1]
              refine ⟨D, q, (HSF.out.rest (Kx.grown (Kx.of_gr (Gr.alloc (Gr.refl wr) _)) hgrow10 (fun b hb => .inl hb)) hO10 (fun b hb => ?_)).congr (fun j hj => by rw [HTN.out j])⟩
              obtain rfl : gg = b := by simpa [Value.ownBlock] using hb
              rcases hat10 with h | h
              · exact .inl h
              · right
                simp only [World.size_alloc] at h
                omega)
            clear hO10 hG10 hgrow10 hat10 HSF HTN HOF
            go_roundw
            case rel => exact ⟨i + 1, _, _, by omega, by go_num, rfl, rfl, g11, HK2⟩
            case measure => simp only [intOf]; omega
    · obtain rfl : i = Ps.length := by omega
      obtain ⟨D, q, hsf⟩ := HS0.out
      have HU := hide (hsf.ou.weak (show w.heap.size ≤ lo by have := gw2.size; omega))
      have HV := hide (hsf.re.weak (show w.heap.size ≤ lo by have := gw2.size; omega))
      have gwr := gw2.trans gi
      clear hsf HS0
      go_wp2_with fail
      refine bodyPost_ret (v := .tuple #[u, v, iv 0]) (by simp [results, Tryz.results11, go_sem, *]) rfl ⟨u, v, rfl, HU.out, HV.out, (by with_reducible repeat (first | exact Gr.refl _ | assumption | refine Gr.alloc ?_ _ | refine Gr.drewN ?_ _ | refine Gr.drew ?_ | refine Gr.setCell ?_ (by first | (dsimp only; omega) | (simp only [World.size_alloc]; omega)) _ | refine Gr.trans ?_ (by assumption)))⟩
end RG
end Go.Proofs.YtddhaiaapomdjaaGreat
set_option linter.unusedVariables false
set_option linter.unusedSimpArgs false
namespace Go.Proofs.YtddhaiaapomdjaaGreat
set_option linter.unusedVariables false
set_option linter.unusedSimpArgs false
open Go Go.ChangeShapes Go.WideShapes Go.ChangeAt Go.RowKit Go.Deep

namespace RG
set_option maxHeartbeats 4000000 in
set_option maxRecDepth 100000 in
theorem rNest_bad (A : Option Addr) (c : Nat) (S : List ShT) (B : Option Addr) (d : Nat) (Ps : List Pc) (bs : Pc → Bool) (t : St) (w : World) (hS : SlS w A c S) (hP : SlP w B d Ps) (hb : CoBs Ps bs) (h0 : ckE S Ps bs t ≠ 0) :
    Calls Tryz.prog 11 #[.slice A S.length c, .slice B Ps.length d, stvv t] w fun e w' => e = .returned (.tuple #[.slice none 0 0, .slice none 0 0, iv (ckE S Ps bs t)]) ∧ Gr w w' := by
  have HG := hide (fun (w' : World) (g : Gr w w') => given6_any A c S B d Ps bs w' (hS.gr g) (hP.gr g) hb)
  have H4 := hide (fun (w' : World) => rValidSettings_any t w')
  have HE := hide (show ckE S Ps bs t = if clE S Ps bs ≠ 0 then clE S Ps bs else if vtB t = true then 0 else 1 from rfl)
  have HE0 := hide h0
  generalize ckE _ _ _ _ = E at *
  generalize clE _ _ _ = E1 at *
  generalize vtB _ = E4 at *
  have M0 := hide (Made.new w #[iv t.g, iv t.m, .bool t.c] 29)
  obtain ⟨g, m, cm⟩ := t
  clear hS hP hb h0
  by_cases e1 : E1 = 0
  · subst e1
    cases E4 with
    | true => exact absurd HE.out (by simpa using HE0.out)
    | false =>
      have HF := hide (show E = 1 by rw [HE.out]; simp)
      go_enter Tryz.func11, Tryz.ntmps11
      go_wp2_with fail
      refine (HG.out _ (by with_reducible repeat (first | exact Gr.refl _ | assumption | refine Gr.alloc ?_ _ | refine Gr.drewN ?_ _ | refine Gr.drew ?_ | refine Gr.setCell ?_ (by first | (dsimp only; omega) | (simp only [World.size_alloc]; omega)) _ | refine Gr.trans ?_ (by assumption)))).mono ?_
      rintro e w1 ⟨rfl, g1⟩
      obtain ⟨l0, y0, _⟩ := M0.out.gr g1
      have a0 := y0 0
      have a1 := y0 1
      have a2 := y0 2
      clear y0
      go_wp2_with (first | (go_at_call 31; refine (H4.out _).mono ?_; rintro e w1 ⟨rfl, g1⟩; obtain ⟨X1, Y1, c1, f1⟩ := g1.use; have z1 := g1.size; (try simp only [World.size_alloc, World.size_setCell, World.heap_drewN, Nat.add_one_le_iff] at z1); (try have l0 : w.heap.size < w1.heap.size := by omega); (try have l1 : w.heap.size + 1 < w1.heap.size := by omega); (try have l2 : w.heap.size + 1 + 1 < w1.heap.size := by omega)))
      exact bodyPost_ret (v := .tuple #[.slice none 0 0, .slice none 0 0, iv E]) (by rw [HF.out]; simp [results, Tryz.results11, go_sem, *]) rfl ⟨rfl, (by with_reducible repeat (first | exact Gr.refl _ | assumption | refine Gr.alloc ?_ _ | refine Gr.drewN ?_ _ | refine Gr.drew ?_ | refine Gr.setCell ?_ (by first | (dsimp only; omega) | (simp only [World.size_alloc]; omega)) _ | refine Gr.trans ?_ (by assumption)))⟩
  · have HF := hide (show E = E1 by rw [HE.out, if_pos e1])
    have h1 : (E1 != 0) = true := by simpa using e1
    go_enter Tryz.func11, Tryz.ntmps11
    go_wp2_with fail
    refine (HG.out _ (by with_reducible repeat (first | exact Gr.refl _ | assumption | refine Gr.alloc ?_ _ | refine Gr.drewN ?_ _ | refine Gr.drew ?_ | refine Gr.setCell ?_ (by first | (dsimp only; omega) | (simp only [World.size_alloc]; omega)) _ | refine Gr.trans ?_ (by assumption)))).mono ?_
    rintro e w1 ⟨rfl, g1⟩
    go_wp2
    exact bodyPost_ret (v := .tuple #[.slice none 0 0, .slice none 0 0, iv E]) (by rw [HF.out]; simp [results, Tryz.results11, go_sem, *]) rfl ⟨rfl, (by with_reducible repeat (first | exact Gr.refl _ | assumption | refine Gr.alloc ?_ _ | refine Gr.drewN ?_ _ | refine Gr.drew ?_ | refine Gr.setCell ?_ (by first | (dsimp only; omega) | (simp only [World.size_alloc]; omega)) _ | refine Gr.trans ?_ (by assumption)))⟩
set_option maxHeartbeats 4000000 in
set_option maxRecDepth 100000 in
theorem sameI6_any (A B : Option Addr) (c d : Nat) (l : List Int) (w : World) (hl : RdL w 1 inL A l) (hm : RdL w 1 inL B l) (n1 : l.length ≤ c) (n2 : c ≤ 9223372036854775807) :
    Calls Tryz.prog 13 #[.slice A l.length c, .slice B l.length d] w fun e w' => e = .returned (.bool true) ∧ Gr w w' := by
  have HL := hide hl
  have HM := hide hm
  clear hl hm
  go_enter Tryz.func13, Tryz.ntmps13
  go_wp2
  go_loopw [5] (fun i wr => ∃ k : Nat, k ≤ l.length ∧ i = iv k ∧ Gr w wr) (fun i _ => l.length - (intOf i).toNat)
  case atStart => exact ⟨0, by omega, rfl, Gr.refl _⟩
  case round =>
    obtain ⟨k, hk, rfl, g⟩ := hrel
    by_cases hkl : k < l.length
    · obtain ⟨z, hz⟩ : ∃ z, l[k]? = some z := ⟨_, List.getElem?_eq_getElem hkl⟩
      obtain ⟨b1, o1, rfl, x0⟩ := (HL.out.gr g).in_ hz
      obtain ⟨b2, o2, rfl, y0⟩ := (HM.out.gr g).in_ hz
      have hb1 : b1 < wr.heap.size := cell_lt (by rw [x0]; rfl)
      have hb2 : b2 < wr.heap.size := cell_lt (by rw [y0]; rfl)
      have hk0 : (0 : Int) ≤ (k : Int) := by omega
      have hk1 : (k : Int) < (l.length : Int) := by omega
      clear hz
      go_upto_region 6 with fail
      have GC := @GrW.cell
      refine wp_region_grw _ (by kernel_rfl) (by kernel_rfl) (Gr.refl _) ?_
      repeat (go_big_quiet_step ((first | fail)))
      refine wpQuiet_nil ?_
      intro wq hwq
      obtain ⟨gq, hwq'⟩ := hwq
      subst hwq'
      clear GC
      have gq1 := gq.gr
      generalize gq.w = wq at gq1 ⊢
      obtain ⟨Xq, Yq, cq, fq⟩ := gq1.use
      have sq := gq1.size
      (try simp only [World.size_alloc, World.size_setCell, World.heap_drewN] at sq)
      go_wp2
      go_roundw
      case rel => exact ⟨k + 1, by omega, by go_num, g.trans gq1⟩
      case measure => simp only [intOf]; omega
    · obtain rfl : k = l.length := by omega
      go_wp2
      go_ret
      exact ⟨rfl, (by with_reducible repeat (first | exact Gr.refl _ | assumption | refine Gr.alloc ?_ _ | refine Gr.drewN ?_ _ | refine Gr.drew ?_ | refine Gr.setCell ?_ (by first | (dsimp only; omega) | (simp only [World.size_alloc]; omega)) _ | refine Gr.trans ?_ (by assumption)))⟩
def NsAns (E : Int) (O : List At6) (Q : List Int) (w w' : World) (e : Ending) : Prop := ∃ (A B : Option Addr) (c d : Nat), e = .returned (.tuple #[.slice A O.length c, .slice B Q.length d, iv E]) ∧ SlA w' A c O ∧ SlI w' B d Q ∧ Gr w w'
theorem nsAns_no {E : Int} {w w' : World} {e : Ending} (h : e = .returned (.tuple #[.slice none 0 0, .slice none 0 0, iv E]) ∧ Gr w w') : NsAns E [] [] w w' e :=
  ⟨none, none, 0, 0, h.1, ⟨fun i x hx => by simp at hx, by simp, by simp⟩, ⟨fun i x hx => by simp at hx, by simp, by simp⟩, h.2⟩
theorem nsAns_ok {lo : Nat} {O : List At6} {Q : List Int} {w w' : World} {e : Ending} (h : ∃ u v : Value, e = .returned (.tuple #[u, v, iv 0]) ∧ OwnL w' lo 33 5 at6L u O ∧ OwnL w' lo 3 1 inL v Q ∧ Gr w w') : NsAns 0 O Q w w' e := by
  obtain ⟨u, v, rfl, hu, hv, g⟩ := h
  obtain ⟨A, c, rfl⟩ := hu.slice
  obtain ⟨B, d, rfl⟩ := hv.slice
  obtain ⟨_, h1, h2, h3⟩ := OwnL.rd (c := at6L) (fun _ => rfl) hu
  exact ⟨A, B, c, d, rfl, ⟨h1, h2, by unfold maxLen at h3; omega⟩, own_sli hv, g⟩
set_option maxHeartbeats 8000000 in
set_option maxRecDepth 100000 in
theorem nests_same (A : Option Addr) (c n : Nat) (B : Option Addr) (d m : Nat) (t : St) (O : List At6) (Q : List Int) (E K F : Int) (w : World) (hF : E ≠ 0 ∨ F = 0)
    (HP : ∀ w', Gr w w' → Calls Tryz.prog 10 #[.slice A n c, .slice B m d, stvv t] w' fun e w'' => NsAns E O Q w' w'' e)
    (HR : ∀ w', Gr w w' → Calls Tryz.prog 11 #[.slice A n c, .slice B m d, stvv t] w' fun e w'' => NsAns E O Q w' w'' e)
    (HK : ∀ w', Gr w w' → ∀ (D : Option Addr) (q : Nat), SlA w' D q O → Calls Tryz.prog 14 #[.slice A n c, .slice B m d, stvv t, .slice D O.length q] w' fun e w'' => e = .returned (.tuple #[iv K, iv F]) ∧ Gr w' w'') :
    Calls Tryz.prog 4 #[jbv A n c B m d t] w fun e w' => e = .returned (.bool true) ∧ Gr w w' := by
  have H1 := hide HP
  have H2 := hide HR
  have H3 := hide HK
  obtain ⟨g, mm, cm⟩ := t
  clear HP HR HK
  go_enter Tryz.func4, Tryz.ntmps4
  go_upto_region 1 with fail
  have M2 := hide (Made.new w #[.slice A n c, .slice B m d, iv g, iv mm, .bool cm] 42)
  have g0 : Gr w (w.alloc (.cells #[.slice A n c, .slice B m d, iv g, iv mm, .bool cm] 42)) := Gr.alloc (Gr.refl _) _
  generalize w.alloc (.cells #[.slice A n c, .slice B m d, iv g, iv mm, .bool cm] 42) = w0 at *
  generalize w.heap.size = b2 at M2 ⊢
  obtain ⟨l2, y2, f2_⟩ := Made.gr M2.out (Gr.refl w0)
  have a20 := y2 0
  have a21 := y2 1
  have a22 := y2 2
  have a23 := y2 3
  have a24 := y2 4
  clear y2 f2_
  go_wp2_with fail
  refine (H1.out _ g0).mono ?_
  rintro e w1 ⟨A1, B1, c1, d1, rfl, ha1, hi1, g1⟩
  have HA1 := hide ha1
  have HI1 := hide hi1
  have q1 := ha1.cap
  have q2 := ha1.capB
  have q3 := hi1.cap
  have q4 := hi1.capB
  have gw1 := g0.trans g1
  clear ha1 hi1 l2 a20 a21 a22 a23 a24
  obtain ⟨l2, y2, f2_⟩ := Made.gr M2.out g1
  have a20 := y2 0
  have a21 := y2 1
  have a22 := y2 2
  have a23 := y2 3
  have a24 := y2 4
  clear y2 f2_
  go_wp2_with fail
  refine (H2.out _ gw1).mono ?_
  rintro e w2 ⟨A2, B2, c2, d2, rfl, ha2, hi2, g2⟩
  have HA2 := hide ha2
  have HI2 := hide hi2
  have gw2 := gw1.trans g2
  clear ha2 hi2 l2 a20 a21 a22 a23 a24
  have HSP := hide (fun (w' : World) (gx : Gr w2 w') => samePl_any A1 A2 c1 c2 O w' (HA1.out.rd.gr (g2.trans gx)) (HA2.out.rd.gr gx) q1 q2)
  have HSI := hide (fun (w' : World) (gx : Gr w2 w') => sameI6_any B1 B2 d1 d2 Q w' (HI1.out.rd.gr (g2.trans gx)) (HI2.out.rd.gr gx) q3 q4)
  go_wp2_with (first | (go_at_call 12; refine (HSP.out _ (by with_reducible repeat (first | exact Gr.refl _ | assumption | refine Gr.alloc ?_ _ | refine Gr.drewN ?_ _ | refine Gr.drew ?_ | refine Gr.setCell ?_ (by first | (dsimp only; omega) | (simp only [World.size_alloc]; omega)) _ | refine Gr.trans ?_ (by assumption)))).mono ?_; rintro e w3 ⟨rfl, g3⟩) | (go_at_call 13; refine (HSI.out _ (by with_reducible repeat (first | exact Gr.refl _ | assumption | refine Gr.alloc ?_ _ | refine Gr.drewN ?_ _ | refine Gr.drew ?_ | refine Gr.setCell ?_ (by first | (dsimp only; omega) | (simp only [World.size_alloc]; omega)) _ | refine Gr.trans ?_ (by assumption)))).mono ?_; rintro e w4 ⟨rfl, g4⟩; (have g24 : Gr w2 w4 := (by with_reducible repeat (first | exact Gr.refl _ | assumption | refine Gr.alloc ?_ _ | refine Gr.drewN ?_ _ | refine Gr.drew ?_ | refine Gr.setCell ?_ (by first | (dsimp only; omega) | (simp only [World.size_alloc]; omega)) _ | refine Gr.trans ?_ (by assumption)))); (obtain ⟨l2, y2, f2_⟩ := Made.gr M2.out ((g1.trans g2).trans g24)); (have a20 := y2 0); (have a21 := y2 1); (have a22 := y2 2); (have a23 := y2 3); (have a24 := y2 4); clear y2 f2_) | (go_at_call 14; refine (H3.out _ (gw2.trans g24) A1 c1 (HA1.out.gr (g2.trans g24))).mono ?_; rintro e w5 ⟨rfl, g5⟩; rcases hF with hF | hF; (have hF' : (E != 0) = true := by simpa using hF); (have hF'' : (E == 0) = false := by simpa using hF)))
  all_goals
    refine (known6_any _).mono ?_
    rintro e w6 ⟨rfl, g6⟩
    go_wp2
    go_ret
    exact ⟨rfl, (by with_reducible repeat (first | exact Gr.refl _ | assumption | refine Gr.alloc ?_ _ | refine Gr.drewN ?_ _ | refine Gr.drew ?_ | refine Gr.setCell ?_ (by first | (dsimp only; omega) | (simp only [World.size_alloc]; omega)) _ | refine Gr.trans ?_ (by assumption)))⟩
theorem nests_walk (A : Option Addr) (c : Nat) (S : List ShT) (B : Option Addr) (d : Nat) (Ps : List Pc) (t : St) (w : World) (hS : SlS w A c S) (hP : SlP w B d Ps) :
    Calls Tryz.prog 4 #[jbv A S.length c B Ps.length d t] w fun e w' => e = .returned (.bool true) ∧ Gr w w' := by
  obtain ⟨bs, hbs⟩ := coBs_ex
  have hb : CoBs Ps bs := fun p _ => hbs p
  by_cases h0 : ckE S Ps bs t = 0
  · obtain ⟨rs, hr⟩ := nsR_ex S Ps t
    obtain ⟨⟨z1, z2⟩, z3, z4, z5⟩ := ck_good h0
    have hK : CkA (outL rs Ps.length) (oneE S Ps t) (outL rs Ps.length).length 0 := ⟨Nat.le_refl _, fun m z _ h => out_right z3 z4 z5 hr Ps.length (Nat.le_refl _) m z h, .inl ⟨rfl, rfl⟩⟩
    refine nests_same A c S.length B d Ps.length t (outL rs Ps.length) (lefL rs Ps.length) 0 0 0 w (.inr rfl) (fun w' g => ?_) (fun w' g => ?_) (fun w' g D q hD => ?_)
    · exact (Nest_good A c S B d Ps bs t rs w' (hS.gr g) (hP.gr g) hb h0 hr).mono fun e w'' h => nsAns_ok h
    · exact (rNest_good A c S B d Ps bs t rs w' (hS.gr g) (hP.gr g) hb h0 hr).mono fun e w'' h => nsAns_ok h
    · have := Check_good A c S B d Ps bs t D q (outL rs Ps.length) _ 0 w' (hS.gr g) (hP.gr g) hD hb h0 (by have := (out_len rs Ps.length).1; omega) hK
      rwa [if_pos rfl] at this
  · refine nests_same A c S.length B d Ps.length t [] [] (ckE S Ps bs t) 0 (ckE S Ps bs t) w (.inl h0) (fun w' g => ?_) (fun w' g => ?_) (fun w' g D q hD => ?_)
    · exact (Nest_bad A c S B d Ps bs t w' (hS.gr g) (hP.gr g) hb h0).mono fun e w'' h => nsAns_no h
    · exact (rNest_bad A c S B d Ps bs t w' (hS.gr g) (hP.gr g) hb h0).mono fun e w'' h => nsAns_no h
    · exact Check_bad A c S B d Ps bs t _ w' (hS.gr g) (hP.gr g) hb h0
end RG
end Go.Proofs.YtddhaiaapomdjaaGreat
