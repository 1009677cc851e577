/-
  Lists of lists of the call's own; copies of a list.
-/
import Derived.Test.YtfndhddnglcliaaJob2
set_option linter.unusedVariables false
set_option linter.unusedSimpArgs false
namespace Go.Proofs.Ytfndhddnglcliaa
set_option linter.unusedVariables false
set_option linter.unusedSimpArgs false
open Go Go.ChangeShapes Go.WideShapes Go.ChangeAt Go.RowKit Go.Deep

theorem at_get {w : World} {b : Nat} : ∀ {vs : List Value} {o i : Nat} {v : Value}, At w b o vs → vs[i]? = some v → w.cell? ⟨b, o + i, none⟩ = some v
  | [], _, _, _, _, h => by simp at h
  | x :: xs, o, 0, v, h, k => by
    simp only [List.getElem?_cons_zero, Option.some.injEq] at k
    subst k
    exact h.1
  | x :: xs, o, i + 1, v, h, k => by
    have := at_get (i := i) h.2 (by simpa using k)
    rwa [show o + 1 + i = o + (i + 1) by omega] at this
theorem rdI_none {w : World} {l : List Int} (h : RdL w 1 inL none l) : l = [] := by
  cases l with
  | nil => rfl
  | cons f l =>
    obtain ⟨b, off, e, _⟩ := h.in_ (i := 0) (z := f) rfl
    cases e
theorem one_inL (z : Int) : ∀ u ∈ inL z, u.oneCell' = true := by
  intro u hu
  simp at hu
  subst hu
  rfl
set_option maxRecDepth 100000 in
set_option maxHeartbeats 2000000 in
theorem clone_any (A : Option Addr) (c : Nat) (l : List Int) (w : World) (hl : SlI w A c l) (h60 : l.length ≤ 60) :
    Calls Try.prog 29 #[.slice A l.length c] w fun e w' => ∃ A' c', e = .returned (.slice A' l.length c') ∧ OwnL w' w.heap.size 3 1 inL (.slice A' l.length c') l ∧ Gr w w' := by
  have q22 : ∀ (w : World) (a : Option Addr) (n c n' c' : Nat), (binOp .eql 30 (.slice a n c) (.slice none n' c')).run Try.prog w = .ok (.bool a.isNone) w := fun w a n c n' c' => Lib.run_eql_slice_nil w _ _ a n c n' c' Try.underlying30
  cases A with
  | none =>
    obtain rfl := rdI_none hl.rd
    clear hl
    go_enter Try.func29, Try.ntmps29
    go_wp2
    go_ret
    exact ⟨none, 0, rfl, own_nil _ _ _ _ _, Gr.refl _⟩
  | some a =>
    obtain ⟨i0, hi0, hz0, hz1, hz2⟩ := info_int
    have HL := hide hl
    clear hl
    go_enter Try.func29, Try.ntmps29
    go_wp2_with (at_builtin; refine wpList_append_own _ rfl _ _ 30 rfl w.heap.size 3 i0 _ 1 8 Try.underlying30 hi0 hz0 hz1 hz2 rfl (by omega) _ _ _ rfl (World.ownsRow_made w #[] 0 (Nat.le_refl _) (Nat.zero_le _) (by simp)) a l.length c (l.flatMap inL) rfl ?qc1 ?qc2 ?qc3 ?qc4 ?qc5 ?qc6 ?_)
    case qc1 => exact fm_len (c := inL) (fun _ => rfl) l
    case qc2 =>
      intro j u hj
      have hlt := (List.getElem?_eq_some_iff.1 hj).1
      rw [fm_len (c := inL) (k := 1) (fun _ => rfl) l] at hlt
      obtain ⟨f, hf⟩ : ∃ f, l[j]? = some f := ⟨_, List.getElem?_eq_getElem (by omega)⟩
      obtain ⟨b, off, e, hat⟩ := HL.out.rd.in_ hf
      have e2 := fm_at (c := inL) (k := 1) (fun _ => rfl) l j f 0 hf (by omega)
      rw [show j * 1 + 0 = j by omega, hj] at e2
      obtain rfl := Option.some.inj e
      rw [addr_add]
      have e3 : u = iv f := by simpa using e2
      rw [e3]
      exact Lib.cell?_alloc_some _ hat
    case qc3 =>
      intro u hu
      obtain ⟨f, _, hu⟩ := List.mem_flatMap.1 hu
      exact one_inL f u hu
    case qc4 => unfold maxLen; omega
    case qc5 => omega
    case qc6 => simp
    intro v' w1 hown hgrow hnil
    have ho : OwnL w1 w.heap.size 3 1 inL v' l := by
      unfold OwnL
      simpa using hown
    obtain ⟨A', c', rfl⟩ := ho.slice
    go_wp2
    go_ret
    exact ⟨A', c', rfl, ho, Gr.grown (Gr.alloc (Gr.refl _) _) hgrow (by intro k hk; simp [Value.ownBlock] at hk; omega)⟩
theorem wpList_app2 {P : Program} {w : World} {ops : Array Oper} {rest : List Oper} {o : Oper} {a : Act} {Q : Exit → Act → World → Prop} (hgd : o.guard = none) (s x : Operand) (t : TypeId)
    (ho : o.op = .call { callee := .builtin .append, args := #[s, x], argTypes := #[t, t] })
    {α : Type} (c : α → List Value) (base : Nat) (e : TypeId) (k bts : Nat) (T : ElT P t e k bts) (hk : 0 < k) (xs : List α) (y : α) (ys : List α) (hys : xs ++ [y] = ys) (v : Value) (hs : a.eval s = v) (hown : OwnL w base e k c v xs)
    (ad : Addr) (cc : Nat) (hx : a.eval x = .slice (some ad) 1 cc) (hl : (c y).length = k) (hnews : ∀ j u, (c y)[j]? = some u → w.cell? (ad.add j) = some u) (h1 : ∀ u ∈ c y, u.oneCell' = true)
    (hn : xs.length ≤ 1000000) (hb : bts ≤ 10000) (hbase : base ≤ w.heap.size)
    (h : ∀ g cap w', OwnL w' base e k c (.slice (some ⟨g, 0, none⟩) ys.length cap) ys → (∀ b, Gr b w → b.heap.size ≤ base → Gr b w') → w.grownBy w' v.ownBlock → (v.ownBlock = some g ∨ g = w.heap.size) → g < w'.heap.size → wpList P ops Q rest (a.put o.dst (.slice (some ⟨g, 0, none⟩) ys.length cap)) w') : wpList P ops Q (o :: rest) a w := by
  obtain ⟨i, z, hi, hz, hsz, hby, hzs⟩ := T.inf
  subst hys
  have hlt := fun k hk => (World.ownsRow.lt hown k hk).1
  refine wpList_append_lies w hgd s x t ho base e i z k bts T.und hi hz hsz hby hzs hk v xs.length (xs.flatMap c) hs hown ad 1 cc (c y) hx (by rw [hl, Nat.one_mul]) hnews h1 (by omega) (by unfold maxLen; omega)
    (Nat.le_trans (Nat.mul_le_mul (show xs.length + 1 ≤ 1000001 by omega) hb) (by decide)) hbase _ rfl ?_
  intro g cap w' h2 h3 h4 h5
  have hO : OwnL w' base e k c (.slice (some ⟨g, 0, none⟩) (xs ++ [y]).length cap) (xs ++ [y]) := by
    unfold OwnL
    rw [fm_snoc, List.length_append]
    exact h2
  have := h g cap w' hO (fun b hb hle => Gr.grown hb h3 (fun k hk => by have := hlt k hk; omega)) h3 h4 h5
  rwa [List.length_append] at this
/-- lists in a list, all of the call's own, the outer one apart from the inner ones -/
structure OwnN (w : World) (base : Nat) (A : Option Addr) (d : Nat) (xs : List Nd) : Prop where
  row : OwnL w base 30 1 ndL (.slice A xs.length d) xs
  el : ∀ x ∈ xs, OwnL w base 3 1 inL (.slice x.A x.l.length x.c) x.l
  far : ∀ x ∈ xs, (Value.slice x.A x.l.length x.c).ownBlock = none ∨ (Value.slice x.A x.l.length x.c).ownBlock ≠ (Value.slice A xs.length d).ownBlock
theorem OwnN.gr {w w' : World} {base : Nat} {A : Option Addr} {d : Nat} {xs : List Nd} (h : OwnN w base A d xs) (g : Gr w w') : OwnN w' base A d xs :=
  ⟨h.row.gr g, fun x hx => (h.el x hx).gr g, h.far⟩
theorem ownN_nil (w : World) (base : Nat) : OwnN w base none 0 [] := ⟨own_nil _ _ _ _ _, fun x hx => by simp at hx, fun x hx => by simp at hx⟩
theorem ownN_next {w w1 w8 : World} {base : Nat} {A : Option Addr} {d gg cap : Nat} {xs ys : List Nd} {y : Nd} {ob : Obj} (h : OwnN w base A d xs) (g : Gr w w1) (hy : OwnL w1 w.heap.size 3 1 inL (.slice y.A y.l.length y.c) y.l) (hbw : base ≤ w.heap.size)
    (hO8 : OwnL w8 base 30 1 ndL (.slice (some ⟨gg, 0, none⟩) ys.length cap) ys) (hys : xs ++ [y] = ys) (hgrow : (w1.alloc ob).grownBy w8 (Value.slice A xs.length d).ownBlock) (hat : (Value.slice A xs.length d).ownBlock = some gg ∨ gg = (w1.alloc ob).heap.size) :
    OwnN w8 base (some ⟨gg, 0, none⟩) cap ys := by
  have hout := fun k hk => (World.ownsRow.lt h.row k hk).2
  have hyb := fun k hk => World.ownsRow.lt hy k hk
  have hgs := g.size
  have hyne : (Value.slice y.A y.l.length y.c).ownBlock = none ∨ (Value.slice y.A y.l.length y.c).ownBlock ≠ (Value.slice A xs.length d).ownBlock := by
    cases e : (Value.slice y.A y.l.length y.c).ownBlock with
    | none => exact .inl rfl
    | some k =>
      right
      intro q
      have h1 := hyb k e
      have h2 := hout k q.symm
      omega
  refine ⟨hO8, ?_, ?_⟩
  · intro x hx
    rw [← hys] at hx
    rcases List.mem_append.1 hx with hx | hx
    · exact World.ownsRow.kept (OwnL.gr (h.el x hx) (g.trans (Gr.alloc (Gr.refl _) ob))) hgrow (h.far x hx)
    · rw [List.mem_singleton] at hx
      subst hx
      exact OwnL.weak (World.ownsRow.kept (OwnL.gr hy (Gr.alloc (Gr.refl _) ob)) hgrow hyne) hbw
  · intro x hx
    rw [← hys] at hx
    have hg2 : (Value.slice (some ⟨gg, 0, none⟩) ys.length cap).ownBlock = some gg := rfl
    rw [hg2]
    have hxl : ∀ k, (Value.slice x.A x.l.length x.c).ownBlock = some k → k < w1.heap.size := by
      intro k hk
      rcases List.mem_append.1 hx with hx | hx
      · have := (World.ownsRow.lt (h.el x hx) k hk).2
        omega
      · rw [List.mem_singleton] at hx
        subst hx
        exact (hyb k hk).2
    have hxf : (Value.slice x.A x.l.length x.c).ownBlock = none ∨ (Value.slice x.A x.l.length x.c).ownBlock ≠ (Value.slice A xs.length d).ownBlock := by
      rcases List.mem_append.1 hx with hx | hx
      · exact h.far x hx
      · rw [List.mem_singleton] at hx
        subst hx
        exact hyne
    rcases hat with hat | hat
    · rw [← hat]
      exact hxf
    · cases e : (Value.slice x.A x.l.length x.c).ownBlock with
      | none => exact .inl rfl
      | some k =>
        right
        intro q
        have h1 := hxl k e
        simp only [Option.some.injEq] at q
        simp only [World.size_alloc] at hat
        omega
theorem OwnN.sln {w : World} {base : Nat} {A : Option Addr} {d : Nat} {xs : List Nd} (h : OwnN w base A d xs) : SlN w A d xs := by
  obtain ⟨_, h1, h2, h3⟩ := OwnL.rd (c := ndL) (fun _ => rfl) h.row
  exact ⟨h1, fun x hx => own_sli (h.el x hx), h2, by unfold maxLen at h3; omega⟩
end Go.Proofs.Ytfndhddnglcliaa
