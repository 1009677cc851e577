/-
  The law of jobs that are joined.
-/
import Derived.Test.YtfndhddnglcliaaJob4
set_option linter.unusedVariables false
set_option linter.unusedSimpArgs false
namespace Go.Proofs.Ytfndhddnglcliaa
set_option linter.unusedVariables false
set_option linter.unusedSimpArgs false
open Go Go.ChangeShapes Go.WideShapes Go.ChangeAt Go.RowKit Go.Deep

/-- needs that read as lists -/
def RdN (w : World) (A : Option Addr) (c : Nat) (R : List (List Int)) : Prop := ∃ xs : List Nd, xs.map (·.l) = R ∧ SlN w A c xs
def OwR (w : World) (base : Nat) (A : Option Addr) (d : Nat) (R : List (List Int)) : Prop := ∃ xs : List Nd, xs.map (·.l) = R ∧ OwnN w base A d xs
theorem RdN.gr {w w' : World} {A : Option Addr} {c : Nat} {R : List (List Int)} (h : RdN w A c R) (g : Gr w w') : RdN w' A c R := by
  obtain ⟨xs, e, h⟩ := h
  exact ⟨xs, e, h.gr g⟩
theorem OwR.gr {w w' : World} {base : Nat} {A : Option Addr} {c : Nat} {R : List (List Int)} (h : OwR w base A c R) (g : Gr w w') : OwR w' base A c R := by
  obtain ⟨xs, e, h⟩ := h
  exact ⟨xs, e, h.gr g⟩
theorem OwR.rd {w : World} {base : Nat} {A : Option Addr} {c : Nat} {R : List (List Int)} (h : OwR w base A c R) : RdN w A c R := by
  obtain ⟨xs, e, h⟩ := h
  exact ⟨xs, e, h.sln⟩
theorem RdN.len {w : World} {A : Option Addr} {c : Nat} {R : List (List Int)} (h : RdN w A c R) : R.length ≤ c ∧ c ≤ 9223372036854775807 := by
  obtain ⟨xs, rfl, h⟩ := h
  exact ⟨by rw [List.length_map]; exact h.cap, h.capB⟩
theorem RdN.at_ {w : World} {A : Option Addr} {c : Nat} {R : List (List Int)} (h : RdN w A c R) {i : Nat} {r : List Int} (hi : R[i]? = some r) : ∃ b o IA ic, A = some ⟨b, o, none⟩ ∧ w.cell? ⟨b, o + i, none⟩ = some (.slice IA r.length ic) ∧ SlI w IA ic r := by
  obtain ⟨xs, rfl, h⟩ := h
  rw [List.getElem?_map] at hi
  cases hx : xs[i]? with
  | none => rw [hx] at hi; cases hi
  | some x =>
    rw [hx] at hi
    obtain rfl : x.l = r := by simpa using hi
    obtain ⟨b, o, e, h1, h2⟩ := h.at_ hx
    exact ⟨b, o, x.A, x.c, e, h1, h2⟩
theorem OwR.rlen {w : World} {base : Nat} {A : Option Addr} {c : Nat} {R : List (List Int)} (h : OwR w base A c R) {i : Nat} {r : List Int} (hi : R[i]? = some r) : r.length ≤ 9223372036854775807 := by
  obtain ⟨_, _, _, _, _, _, hs⟩ := h.rd.at_ hi
  exact Nat.le_trans hs.cap hs.capB
theorem own_far' {w : World} {base : Nat} {e : TypeId} {k n : Nat} {v : Value} {xs : List Value} (h : w.ownsRow base e k v n xs) {a : Addr} (ha : a.block < base) (u : Value) : (w.setCell a u).ownsRow base e k v n xs := by
  obtain ⟨h0, h1 | ⟨b, cap, cur, h1, hb, h2, h3⟩⟩ := id h
  · exact ⟨h0, .inl h1⟩
  · refine ⟨h0, .inr ⟨b, cap, cur, h1, hb, ?_, h3⟩⟩
    rw [← h2]
    exact Below.heap_setCell w a u b (by omega)
theorem OwnL.setFar' {α : Type} {c : α → List Value} {w : World} {base : Nat} {e : TypeId} {k : Nat} {v : Value} {xs : List α} (h : OwnL w base e k c v xs) {a : Addr} (ha : a.block < base) (u : Value) : OwnL (w.setCell a u) base e k c v xs := own_far' h ha u
theorem OwR.setFar {w : World} {base : Nat} {A : Option Addr} {c : Nat} {R : List (List Int)} (h : OwR w base A c R) {a : Addr} (ha : a.block < base) (u : Value) : OwR (w.setCell a u) base A c R := by
  obtain ⟨xs, e, h⟩ := h
  exact ⟨xs, e, OwnL.setFar' h.row ha u, fun x hx => OwnL.setFar' (h.el x hx) ha u, h.far⟩
/-- a row of the call's own, cell by cell -/
theorem own_cell {w : World} {base : Nat} {e : TypeId} {α : Type} {c : α → List Value} (hc : ∀ x, (c x).length = 1) {A : Option Addr} {d n k : Nat} {l : List α} (h : OwnL w base e 1 c (.slice A n d) l) (hk : k < n) :
    ∃ bi, A = some ⟨bi, 0, none⟩ ∧ base ≤ bi ∧ bi < w.heap.size ∧ w.frozen? ⟨bi, k, none⟩ = false ∧ (Value.slice A n d).ownBlock = some bi := by
  obtain ⟨h0, ⟨h1, h2⟩ | ⟨g, cap, cur, h1, hb, h2, h3⟩⟩ := id h
  · injection h1 with _ h1 _
    omega
  · injection h1 with e1 e2 e3
    subst e1
    exact ⟨g, rfl, hb, (Array.getElem?_eq_some_iff.1 h2).1, by simp [World.frozen?, h2], rfl⟩
/-- rows whose cells may be stored over -/
structure Sp (wr : World) (base hi : Nat) (A : Option Addr) (xs : List Nd) : Prop where
  hd : ∀ i x, xs[i]? = some x → ∃ bo, A = some ⟨bo, 0, none⟩ ∧ wr.cell? ⟨bo, i, none⟩ = some (.slice x.A x.l.length x.c) ∧ bo < hi ∧ ∀ k, k < x.l.length → ∃ bi, x.A = some ⟨bi, 0, none⟩ ∧ base ≤ bi ∧ bi < hi ∧ bi ≠ bo ∧ (∃ v, wr.cell? ⟨bi, k, none⟩ = some v) ∧ wr.frozen? ⟨bi, k, none⟩ = false
theorem Sp.of {w : World} {base : Nat} {A : Option Addr} {d : Nat} {xs : List Nd} (h : OwnN w base A d xs) : Sp w base w.heap.size A xs := by
  refine ⟨fun i x hx => ?_⟩
  have hi := (List.getElem?_eq_some_iff.1 hx).1
  have hm := List.mem_of_getElem? hx
  obtain ⟨bo, e1, _, h2, _, h4⟩ := own_cell (c := ndL) (fun _ => rfl) h.row hi
  obtain ⟨b, o, e2, c2, _⟩ := h.sln.at_ hx
  rw [e1] at e2
  cases e2
  rw [Nat.zero_add] at c2
  refine ⟨bo, e1, c2, h2, fun k hk => ?_⟩
  obtain ⟨bi, e5, h5, h6, h7, h8⟩ := own_cell (c := inL) (fun _ => rfl) (h.el x hm) hk
  obtain ⟨b', o', e6, c6⟩ := (own_sli (h.el x hm)).rd.in_ (i := k) (z := x.l[k]) (List.getElem?_eq_getElem hk)
  rw [e5] at e6
  cases e6
  rw [Nat.zero_add] at c6
  refine ⟨bi, e5, h5, h6, ?_, ⟨_, c6⟩, h7⟩
  rintro rfl
  rcases h.far x hm with q | q
  · rw [h8] at q
    cases q
  · exact q (h8.trans h4.symm)
theorem Sp.gr {w w' : World} {base hi : Nat} {A : Option Addr} {xs : List Nd} (h : Sp w base hi A xs) (hle : hi ≤ w.heap.size) (g : Gr w w') : Sp w' base hi A xs := by
  refine ⟨fun i x hx => ?_⟩
  obtain ⟨bo, e, h1, h2, h3⟩ := h.hd i x hx
  refine ⟨bo, e, (g.cell _ _ (by omega)).trans h1, h2, fun k hk => ?_⟩
  obtain ⟨bi, e5, h5, h6, h7, ⟨v, h8⟩, h9⟩ := h3 k hk
  exact ⟨bi, e5, h5, h6, h7, ⟨v, (g.cell _ _ (by omega)).trans h8⟩, (g.frozen _ _ (by omega)).trans h9⟩
theorem Sp.set {w : World} {base hi : Nat} {A : Option Addr} {xs : List Nd} (h : Sp w base hi A xs) {bo bi k : Nat} (hA : A = some ⟨bo, 0, none⟩) (hne : bi ≠ bo) {v : Value} (hc : w.cell? ⟨bi, k, none⟩ = some v) (u : Value) (hu : u.oneCell' = true) : Sp (w.setCell ⟨bi, k, none⟩ u) base hi A xs := by
  refine ⟨fun i x hx => ?_⟩
  obtain ⟨bo', e, h1, h2, h3⟩ := h.hd i x hx
  rw [hA] at e
  cases e
  have hne' : ¬ bo = bi := fun q => hne q.symm
  refine ⟨bo, hA, by simp [go_sem, h1, hne'], h2, fun j hj => ?_⟩
  obtain ⟨bj, e5, h5, h6, h7, ⟨y, h8⟩, h9⟩ := h3 j hj
  refine ⟨bj, e5, h5, h6, h7, ?_, by simp [go_sem, h9]⟩
  by_cases hb : bj = bi
  · subst hb
    by_cases hjk : j = k
    · subst hjk
      exact ⟨u, by simp [go_sem, hc]⟩
    · exact ⟨y, by simp [go_sem, h8, hjk]⟩
  · exact ⟨y, by simp [go_sem, h8, hb]⟩
def SpR (w : World) (base hi : Nat) (A : Option Addr) (R : List (List Int)) : Prop := ∃ xs : List Nd, xs.map (·.l) = R ∧ Sp w base hi A xs
theorem SpR.of {w : World} {base : Nat} {A : Option Addr} {d : Nat} {R : List (List Int)} (h : OwR w base A d R) : SpR w base w.heap.size A R := by
  obtain ⟨xs, e, h⟩ := h
  exact ⟨xs, e, Sp.of h⟩
theorem SpR.gr {w w' : World} {base hi : Nat} {A : Option Addr} {R : List (List Int)} (h : SpR w base hi A R) (hle : hi ≤ w.heap.size) (g : Gr w w') : SpR w' base hi A R := by
  obtain ⟨xs, e, h⟩ := h
  exact ⟨xs, e, h.gr hle g⟩
theorem SpR.at_ {w : World} {base hi : Nat} {A : Option Addr} {R : List (List Int)} (h : SpR w base hi A R) {i : Nat} {r : List Int} (hi' : R[i]? = some r) :
    ∃ bo IA ic, A = some ⟨bo, 0, none⟩ ∧ w.cell? ⟨bo, i, none⟩ = some (.slice IA r.length ic) ∧ ∀ k, k < r.length → ∃ bi v, IA = some ⟨bi, 0, none⟩ ∧ base ≤ bi ∧ bi < hi ∧ w.cell? ⟨bi, k, none⟩ = some v ∧ w.frozen? ⟨bi, k, none⟩ = false ∧ ∀ z : Int, SpR (w.setCell ⟨bi, k, none⟩ (iv z)) base hi A R := by
  obtain ⟨xs, rfl, h⟩ := h
  rw [List.getElem?_map] at hi'
  cases hx : xs[i]? with
  | none => rw [hx] at hi'; cases hi'
  | some x =>
    rw [hx] at hi'
    obtain rfl : x.l = r := by simpa using hi'
    obtain ⟨bo, e, h1, h2, h3⟩ := h.hd i x hx
    refine ⟨bo, x.A, x.c, e, h1, fun k hk => ?_⟩
    obtain ⟨bi, e5, h5, h6, h7, ⟨v, h8⟩, h9⟩ := h3 k hk
    exact ⟨bi, v, e5, h5, h6, h8, h9, fun z => ⟨xs, rfl, h.set e h7 h8 (iv z) rfl⟩⟩
theorem Join_any' (A : Option Addr) (c : Nat) (js : List Jb) (B : Option Addr) (cb : Nat) (l : List Int) (w : World) (hj : SlJ w A c js) (hl : SlI w B cb l) (hwd : wdB js = false) :
    Calls Try.prog 28 #[.slice A js.length c, .slice B l.length cb] w fun e w' => ∃ A' d', e = .returned (sle (.slice A' (jnR js l).length d') (jnE js l)) ∧ OwR w' w.heap.size A' d' (jnR js l) ∧ Gr w w' := by
  refine (Join_any A c js B cb l w hj hl hwd).mono ?_
  rintro e w1 ⟨A1, d1, xs, rfl, hx, ho, g⟩
  exact ⟨A1, d1, by rw [← hx, List.length_map], ⟨xs, hx, ho⟩, g⟩
end Go.Proofs.Ytfndhddnglcliaa
