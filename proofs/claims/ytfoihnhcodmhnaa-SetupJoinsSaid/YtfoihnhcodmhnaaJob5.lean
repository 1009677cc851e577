/-
  The law of jobs that are joined.
-/
import Derived.Test.YtfoihnhcodmhnaaJob4
set_option linter.unusedVariables false
set_option linter.unusedSimpArgs false
namespace Go.Proofs.Ytfoihnhcodmhnaa
set_option linter.unusedVariables false
set_option linter.unusedSimpArgs false
open Go Go.ChangeShapes Go.WideShapes Go.ChangeAt Go.RowKit Go.Deep

/-- needs that read as lists -/
def RdN (w : World) (A : Option Addr) (c : Nat) (R : List (List Int)) : Prop := ∃ xs : List Nd, xs.map (·.l) = R ∧ SlN w A c xs
def OwR (w : World) (base : Nat) (A : Option Addr) (d : Nat) (R : List (List Int)) : Prop := ∃ xs : List Nd, xs.map (·.l) = R ∧ OwnN w base A d xs
theorem RdN.gr {w w' : World} {A : Option Addr} {c : Nat} {R : List (List Int)} (h : RdN w A c R) (g : Gr w w') : RdN w' A c R := by
  obtain ⟨xs, e, h⟩ := h
  exact ⟨xs, e, h.gr g⟩
theorem OwR.gr {w w' : World} {base : Nat} {A : Option Addr} {c : Nat} {R : List (List Int)} (h : OwR w base A c R) (g : Gr w w') : OwR w' base A c R := by
  obtain ⟨xs, e, h⟩ := h
  exact ⟨xs, e, h.gr g⟩
theorem OwR.rd {w : World} {base : Nat} {A : Option Addr} {c : Nat} {R : List (List Int)} (h : OwR w base A c R) : RdN w A c R := by
  obtain ⟨xs, e, h⟩ := h
  exact ⟨xs, e, h.sln⟩
theorem RdN.len {w : World} {A : Option Addr} {c : Nat} {R : List (List Int)} (h : RdN w A c R) : R.length ≤ c ∧ c ≤ 9223372036854775807 := by
  obtain ⟨xs, rfl, h⟩ := h
  exact ⟨by rw [List.length_map]; exact h.cap, h.capB⟩
theorem RdN.at_ {w : World} {A : Option Addr} {c : Nat} {R : List (List Int)} (h : RdN w A c R) {i : Nat} {r : List Int} (hi : R[i]? = some r) : ∃ b o IA ic, A = some ⟨b, o, none⟩ ∧ w.cell? ⟨b, o + i, none⟩ = some (.slice IA r.length ic) ∧ SlI w IA ic r := by
  obtain ⟨xs, rfl, h⟩ := h
  rw [List.getElem?_map] at hi
  cases hx : xs[i]? with
  | none => rw [hx] at hi; cases hi
  | some x =>
    rw [hx] at hi
    obtain rfl : x.l = r := by simpa using hi
    obtain ⟨b, o, e, h1, h2⟩ := h.at_ hx
    exact ⟨b, o, x.A, x.c, e, h1, h2⟩
theorem OwR.rlen {w : World} {base : Nat} {A : Option Addr} {c : Nat} {R : List (List Int)} (h : OwR w base A c R) {i : Nat} {r : List Int} (hi : R[i]? = some r) : r.length ≤ 9223372036854775807 := by
  obtain ⟨_, _, _, _, _, _, hs⟩ := h.rd.at_ hi
  exact Nat.le_trans hs.cap hs.capB
theorem own_far' {w : World} {base : Nat} {e : TypeId} {k n : Nat} {v : Value} {xs : List Value} (h : w.ownsRow base e k v n xs) {a : Addr} (ha : a.block < base) (u : Value) : (w.setCell a u).ownsRow base e k v n xs := by
  obtain ⟨h0, h1 | ⟨b, cap, cur, h1, hb, h2, h3⟩⟩ := id h
  · exact ⟨h0, .inl h1⟩
  · refine ⟨h0, .inr ⟨b, cap, cur, h1, hb, ?_, h3⟩⟩
    rw [← h2]
    exact Below.heap_setCell w a u b (by omega)
theorem OwnL.setFar' {α : Type} {c : α → List Value} {w : World} {base : Nat} {e : TypeId} {k : Nat} {v : Value} {xs : List α} (h : OwnL w base e k c v xs) {a : Addr} (ha : a.block < base) (u : Value) : OwnL (w.setCell a u) base e k c v xs := own_far' h ha u
theorem OwR.setFar {w : World} {base : Nat} {A : Option Addr} {c : Nat} {R : List (List Int)} (h : OwR w base A c R) {a : Addr} (ha : a.block < base) (u : Value) : OwR (w.setCell a u) base A c R := by
  obtain ⟨xs, e, h⟩ := h
  exact ⟨xs, e, OwnL.setFar' h.row ha u, fun x hx => OwnL.setFar' (h.el x hx) ha u, h.far⟩
/-- a row of the call's own, cell by cell -/
theorem own_cell {w : World} {base : Nat} {e : TypeId} {α : Type} {c : α → List Value} (hc : ∀ x, (c x).length = 1) {A : Option Addr} {d n k : Nat} {l : List α} (h : OwnL w base e 1 c (.slice A n d) l) (hk : k < n) :
    ∃ bi, A = some ⟨bi, 0, none⟩ ∧ base ≤ bi ∧ bi < w.heap.size ∧ w.frozen? ⟨bi, k, none⟩ = false ∧ (Value.slice A n d).ownBlock = some bi := by
  obtain ⟨h0, ⟨h1, h2⟩ | ⟨g, cap, cur, h1, hb, h2, h3⟩⟩ := id h
  · injection h1 with _ h1 _
    omega
  · injection h1 with e1 e2 e3
    subst e1
    exact ⟨g, rfl, hb, (Array.getElem?_eq_some_iff.1 h2).1, by simp [World.frozen?, h2], rfl⟩
/-- rows whose cells may be stored over -/
structure Sp (wr : World) (base hi : Nat) (A : Option Addr) (xs : List Nd) : Prop where
  hd : ∀ i x, xs[i]? = some x → ∃ bo, A = some ⟨bo, 0, none⟩ ∧ wr.cell? ⟨bo, i, none⟩ = some (.slice x.A x.l.length x.c) ∧ bo < hi ∧ ∀ k, k < x.l.length → ∃ bi, x.A = some ⟨bi, 0, none⟩ ∧ base ≤ bi ∧ bi < hi ∧ bi ≠ bo ∧ (∃ v, wr.cell? ⟨bi, k, none⟩ = some v) ∧ wr.frozen? ⟨bi, k, none⟩ = false
theorem Sp.of {w : World} {base : Nat} {A : Option Addr} {d : Nat} {xs : List Nd} (h : OwnN w base A d xs) : Sp w base w.heap.size A xs := by
  refine ⟨fun i x hx => ?_⟩
  have hi := (List.getElem?_eq_some_iff.1 hx).1
  have hm := List.mem_of_getElem? hx
  obtain ⟨bo, e1, _, h2, _, h4⟩ := own_cell (c := ndL) (fun _ => rfl) h.row hi
  obtain ⟨b, o, e2, c2, _⟩ := h.sln.at_ hx
  rw [e1] at e2
  cases e2
  rw [Nat.zero_add] at c2
  refine ⟨bo, e1, c2, h2, fun k hk => ?_⟩
  obtain ⟨bi, e5, h5, h6, h7, h8⟩ := own_cell (c := inL) (fun _ => rfl) (h.el x hm) hk
  obtain ⟨b', o', e6, c6⟩ := (own_sli (h.el x hm)).rd.in_ (i := k) (z := x.l[k]) (List.getElem?_eq_getElem hk)
  rw [e5] at e6
  cases e6
  rw [Nat.zero_add] at c6
  refine ⟨bi, e5, h5, h6, ?_, ⟨_, c6⟩, h7⟩
  rintro rfl
  rcases h.far x hm with q | q
  · rw [h8] at q
    cases q
  · exact q (h8.trans h4.symm)
theorem Sp.gr {w w' : World} {base hi : Nat} {A : Option Addr} {xs : List Nd} (h : Sp w base hi A xs) (hle : hi ≤ w.heap.size) (g : Gr w w') : Sp w' base hi A xs := by
  refine ⟨fun i x hx => ?_⟩
  obtain ⟨bo, e, h1, h2, h3⟩ := h.hd i x hx
  refine ⟨bo, e, (g.cell _ _ (by omega)).trans h1, h2, fun k hk => ?_⟩
  obtain ⟨bi, e5, h5, h6, h7, ⟨v, h8⟩, h9⟩ := h3 k hk
  exact ⟨bi, e5, h5, h6, h7, ⟨v, (g.cell _ _ (by omega)).trans h8⟩, (g.frozen _ _ (by omega)).trans h9⟩
theorem Sp.set {w : World} {base hi : Nat} {A : Option Addr} {xs : List Nd} (h : Sp w base hi A xs) {bo bi k : Nat} (hA : A = some ⟨bo, 0, none⟩) (hne : bi ≠ bo) {v : Value} (hc : w.cell? ⟨bi, k, none⟩ = some v) (u : Value) (hu : u.oneCell' = true) : Sp (w.setCell ⟨bi, k, none⟩ u) base hi A xs := by
  refine ⟨fun i x hx => ?_⟩
  obtain ⟨bo', e, h1, h2, h3⟩ := h.hd i x hx
  rw [hA] at e
  cases e
  have hne' : ¬ bo = bi := fun q => hne q.symm
  refine ⟨bo, hA, by simp [go_sem, h1, hne'], h2, fun j hj => ?_⟩
  obtain ⟨bj, e5, h5, h6, h7, ⟨y, h8⟩, h9⟩ := h3 j hj
  refine ⟨bj, e5, h5, h6, h7, ?_, by simp [go_sem, h9]⟩
  by_cases hb : bj = bi
  · subst hb
    by_cases hjk : j = k
    · subst hjk
      exact ⟨u, by simp [go_sem, hc]⟩
    · exact ⟨y, by simp [go_sem, h8, hjk]⟩
  · exact ⟨y, by simp [go_sem, h8, hb]⟩
def SpR (w : World) (base hi : Nat) (A : Option Addr) (R : List (List Int)) : Prop := ∃ xs : List Nd, xs.map (·.l) = R ∧ Sp w base hi A xs
theorem SpR.of {w : World} {base : Nat} {A : Option Addr} {d : Nat} {R : List (List Int)} (h : OwR w base A d R) : SpR w base w.heap.size A R := by
  obtain ⟨xs, e, h⟩ := h
  exact ⟨xs, e, Sp.of h⟩
theorem SpR.gr {w w' : World} {base hi : Nat} {A : Option Addr} {R : List (List Int)} (h : SpR w base hi A R) (hle : hi ≤ w.heap.size) (g : Gr w w') : SpR w' base hi A R := by
  obtain ⟨xs, e, h⟩ := h
  exact ⟨xs, e, h.gr hle g⟩
theorem SpR.at_ {w : World} {base hi : Nat} {A : Option Addr} {R : List (List Int)} (h : SpR w base hi A R) {i : Nat} {r : List Int} (hi' : R[i]? = some r) :
    ∃ bo IA ic, A = some ⟨bo, 0, none⟩ ∧ w.cell? ⟨bo, i, none⟩ = some (.slice IA r.length ic) ∧ ∀ k, k < r.length → ∃ bi v, IA = some ⟨bi, 0, none⟩ ∧ base ≤ bi ∧ bi < hi ∧ w.cell? ⟨bi, k, none⟩ = some v ∧ w.frozen? ⟨bi, k, none⟩ = false ∧ ∀ z : Int, SpR (w.setCell ⟨bi, k, none⟩ (iv z)) base hi A R := by
  obtain ⟨xs, rfl, h⟩ := h
  rw [List.getElem?_map] at hi'
  cases hx : xs[i]? with
  | none => rw [hx] at hi'; cases hi'
  | some x =>
    rw [hx] at hi'
    obtain rfl : x.l = r := by simpa using hi'
    obtain ⟨bo, e, h1, h2, h3⟩ := h.hd i x hx
    refine ⟨bo, x.A, x.c, e, h1, fun k hk => ?_⟩
    obtain ⟨bi, e5, h5, h6, h7, ⟨v, h8⟩, h9⟩ := h3 k hk
    exact ⟨bi, v, e5, h5, h6, h8, h9, fun z => ⟨xs, rfl, h.set e h7 h8 (iv z) rfl⟩⟩
set_option maxRecDepth 100000 in
set_option maxHeartbeats 2000000 in
theorem sameNeeds_any (A B : Option Addr) (c d : Nat) (R : List (List Int)) (w : World) (ha : RdN w A c R) (hb : RdN w B d R) :
    Calls Try.prog 38 #[.slice A R.length c, .slice B R.length d] w fun e w' => e = .returned (.bool true) ∧ Gr w w' := by
  obtain ⟨n1, n2⟩ := ha.len
  obtain ⟨n3, n4⟩ := hb.len
  have HA := hide ha
  have HB := hide hb
  clear ha hb
  have hq : ((R.length : Int) != (R.length : Int)) = false := by simp
  go_enter Try.func38, Try.ntmps38
  go_wp2
  go_loopw [5] (fun i wr => ∃ k : Nat, k ≤ R.length ∧ i = iv k ∧ Gr w wr) (fun i _ => R.length - (intOf i).toNat)
  case atStart => exact ⟨0, by omega, rfl, Gr.refl _⟩
  case round =>
    obtain ⟨k, hk, rfl, g⟩ := hrel
    by_cases hkl : k < R.length
    · obtain ⟨r, hr⟩ : ∃ r, R[k]? = some r := ⟨_, List.getElem?_eq_getElem hkl⟩
      obtain ⟨b, o, IA, ic, rfl, x0, x1⟩ := (HA.out.gr g).at_ hr
      obtain ⟨b', o', IB, id, rfl, y0, y1⟩ := (HB.out.gr g).at_ hr
      have HX := hide x1
      have HY := hide y1
      have m1 := x1.cap
      have m2 := x1.capB
      have m3 := y1.cap
      have m4 := y1.capB
      have hk0 : (0 : Int) ≤ (k : Int) := by omega
      have hk1 : (k : Int) < (R.length : Int) := by omega
      have hrr : ((r.length : Int) != (r.length : Int)) = false := by simp
      clear hr x1 y1
      go_upto_region 6 with fail
      have GC := @GrW.cell
      refine wp_region_grw _ (by kernel_rfl) (by kernel_rfl) (Gr.refl _) ?_
      repeat (go_big_quiet_step ((first | fail)))
      refine wpQuiet_nil ?_
      intro wq hwq
      obtain ⟨gq, hwq'⟩ := hwq
      subst hwq'
      clear GC
      have gq1 := gq.gr
      generalize gq.w = wq at gq1 ⊢
      obtain ⟨Xq, Yq, cq, fq⟩ := gq1.use
      have sq := gq1.size
      (try simp only [World.size_alloc, World.size_setCell, World.heap_drewN] at sq)
      go_wp2
      have HX0 := hide x0
      have HY0 := hide y0
      clear x0 y0
      obtain ⟨wo, hwo⟩ : ∃ wo, wo = wr := ⟨_, rfl⟩
      rw [← hwo] at g HX0 HY0 HX HY
      go_loopw [6] (fun i wr => ∃ m : Nat, m ≤ r.length ∧ i = iv m ∧ Gr wo wr) (fun i _ => r.length - (intOf i).toNat)
      case atStart => exact ⟨0, by omega, rfl, by rw [hwo]; exact (by repeat (first | with_reducible exact Gr.refl _ | with_reducible assumption | with_reducible refine Gr.alloc ?_ _ | with_reducible refine Gr.drewN ?_ _ | with_reducible refine Gr.drew ?_ | with_reducible refine Gr.setCell ?_ (by first | (dsimp only; omega) | (simp only [World.size_alloc]; omega) | (with_reducible refine Gr.size ?_; (repeat (first | with_reducible exact Gr.refl _ | with_reducible assumption | with_reducible refine Gr.alloc ?_ _ | with_reducible refine Gr.drewN ?_ _ | with_reducible refine Gr.drew ?_ | with_reducible refine Gr.trans ?_ (by with_reducible assumption))); done)) _ | with_reducible refine Gr.trans ?_ (by with_reducible assumption)))⟩
      case round =>
        obtain ⟨m, hm, rfl, g2⟩ := hrel
        have x0 := (g2.cell _ _ (cell_lt (by rw [HX0.out]; rfl))).trans HX0.out
        have y0 := (g2.cell _ _ (cell_lt (by rw [HY0.out]; rfl))).trans HY0.out
        by_cases hml : m < r.length
        · obtain ⟨z, hz⟩ : ∃ z, r[m]? = some z := ⟨_, List.getElem?_eq_getElem hml⟩
          obtain ⟨b2, o2, rfl, x2⟩ := (HX.out.gr g2).rd.in_ hz
          obtain ⟨b3, o3, rfl, y2⟩ := (HY.out.gr g2).rd.in_ hz
          have hm0 : (0 : Int) ≤ (m : Int) := by omega
          have hm1 : (m : Int) < (r.length : Int) := by omega
          have hzz : (z != z) = false := by simp
          clear hz
          go_upto_region 11 with fail
          have GC := @GrW.cell
          refine wp_region_grw _ (by kernel_rfl) (by kernel_rfl) (Gr.refl _) ?_
          repeat (go_big_quiet_step ((first | fail)))
          refine wpQuiet_nil ?_
          intro wq hwq
          obtain ⟨gq, hwq'⟩ := hwq
          subst hwq'
          clear GC
          have gq1 := gq.gr
          generalize gq.w = wq at gq1 ⊢
          obtain ⟨Xq, Yq, cq, fq⟩ := gq1.use
          have sq := gq1.size
          (try simp only [World.size_alloc, World.size_setCell, World.heap_drewN] at sq)
          go_wp2
          go_roundw
          case rel => exact ⟨m + 1, by omega, by go_num, (by repeat (first | with_reducible exact Gr.refl _ | with_reducible assumption | with_reducible refine Gr.alloc ?_ _ | with_reducible refine Gr.drewN ?_ _ | with_reducible refine Gr.drew ?_ | with_reducible refine Gr.setCell ?_ (by first | (dsimp only; omega) | (simp only [World.size_alloc]; omega) | (with_reducible refine Gr.size ?_; (repeat (first | with_reducible exact Gr.refl _ | with_reducible assumption | with_reducible refine Gr.alloc ?_ _ | with_reducible refine Gr.drewN ?_ _ | with_reducible refine Gr.drew ?_ | with_reducible refine Gr.trans ?_ (by with_reducible assumption))); done)) _ | with_reducible refine Gr.trans ?_ (by with_reducible assumption)))⟩
          case measure => simp only [intOf]; omega
        · obtain rfl : m = r.length := by omega
          go_wp2
          go_roundw
          case rel => exact ⟨k + 1, by omega, by go_num, g.trans (by repeat (first | with_reducible exact Gr.refl _ | with_reducible assumption | with_reducible refine Gr.alloc ?_ _ | with_reducible refine Gr.drewN ?_ _ | with_reducible refine Gr.drew ?_ | with_reducible refine Gr.setCell ?_ (by first | (dsimp only; omega) | (simp only [World.size_alloc]; omega) | (with_reducible refine Gr.size ?_; (repeat (first | with_reducible exact Gr.refl _ | with_reducible assumption | with_reducible refine Gr.alloc ?_ _ | with_reducible refine Gr.drewN ?_ _ | with_reducible refine Gr.drew ?_ | with_reducible refine Gr.trans ?_ (by with_reducible assumption))); done)) _ | with_reducible refine Gr.trans ?_ (by with_reducible assumption)))⟩
          case measure => simp only [intOf]; omega
    · obtain rfl : k = R.length := by omega
      go_wp2
      go_ret
      exact ⟨rfl, (by repeat (first | with_reducible exact Gr.refl _ | with_reducible assumption | with_reducible refine Gr.alloc ?_ _ | with_reducible refine Gr.drewN ?_ _ | with_reducible refine Gr.drew ?_ | with_reducible refine Gr.setCell ?_ (by first | (dsimp only; omega) | (simp only [World.size_alloc]; omega) | (with_reducible refine Gr.size ?_; (repeat (first | with_reducible exact Gr.refl _ | with_reducible assumption | with_reducible refine Gr.alloc ?_ _ | with_reducible refine Gr.drewN ?_ _ | with_reducible refine Gr.drew ?_ | with_reducible refine Gr.trans ?_ (by with_reducible assumption))); done)) _ | with_reducible refine Gr.trans ?_ (by with_reducible assumption)))⟩
theorem Join_any' (A : Option Addr) (c : Nat) (js : List Jb) (B : Option Addr) (cb : Nat) (l : List Int) (w : World) (hj : SlJ w A c js) (hl : SlI w B cb l) (hwd : wdB js = false) :
    Calls Try.prog 36 #[.slice A js.length c, .slice B l.length cb] w fun e w' => ∃ A' d', e = .returned (sle (.slice A' (jnR js l).length d') (jnE js l)) ∧ OwR w' w.heap.size A' d' (jnR js l) ∧ Gr w w' := by
  refine (Join_any A c js B cb l w hj hl hwd).mono ?_
  rintro e w1 ⟨A1, d1, xs, rfl, hx, ho, g⟩
  exact ⟨A1, d1, by rw [← hx, List.length_map], ⟨xs, hx, ho⟩, g⟩
theorem rJoin_any' (A : Option Addr) (c : Nat) (js : List Jb) (B : Option Addr) (cb : Nat) (l : List Int) (w : World) (hj : SlJ w A c js) (hl : SlI w B cb l) (hwd : wdB js = false) :
    Calls Try.prog 37 #[.slice A js.length c, .slice B l.length cb] w fun e w' => ∃ A' d', e = .returned (sle (.slice A' (jnR js l).length d') (jnE js l)) ∧ OwR w' w.heap.size A' d' (jnR js l) ∧ Gr w w' := by
  refine (rJoin_any A c js B cb l w hj hl hwd).mono ?_
  rintro e w1 ⟨A1, d1, xs, rfl, hx, ho, g⟩
  exact ⟨A1, d1, by rw [← hx, List.length_map], ⟨xs, hx, ho⟩, g⟩
set_option maxRecDepth 100000 in
set_option maxHeartbeats 2000000 in
theorem joins_walk (A : Option Addr) (c : Nat) (js : List Jb) (B : Option Addr) (cb : Nat) (l : List Int) (w : World) (hj : SlJ w A c js) (hl : SlI w B cb l) :
    Calls Try.prog 11 #[.slice A js.length c, .slice B l.length cb] w fun e w' => e = .returned (.bool true) ∧ Gr w w' := by
  have n1 := hj.cap
  have n2 := hj.capB
  have n3 := hl.cap
  have n4 := hl.capB
  have HWD := hide (wide_any A c js w hj)
  cases hwd : wdB js with
  | true =>
    rw [hwd] at HWD
    clear hj hl
    go_enter Try.func11, Try.ntmps11
    go_wp2_with (first | (go_at_call 35; refine (HWD.out).mono ?_; rintro e w1 ⟨rfl, rfl⟩) | (go_at_call 15; refine (known_any _).mono ?_; rintro e w1 ⟨rfl, g1⟩; obtain ⟨X1, Y1, c1, f1⟩ := g1.use))
    go_ret
    exact ⟨rfl, (by repeat (first | with_reducible exact Gr.refl _ | with_reducible assumption | with_reducible refine Gr.alloc ?_ _ | with_reducible refine Gr.drewN ?_ _ | with_reducible refine Gr.drew ?_ | with_reducible refine Gr.setCell ?_ (by first | (dsimp only; omega) | (simp only [World.size_alloc]; omega) | (with_reducible refine Gr.size ?_; (repeat (first | with_reducible exact Gr.refl _ | with_reducible assumption | with_reducible refine Gr.alloc ?_ _ | with_reducible refine Gr.drewN ?_ _ | with_reducible refine Gr.drew ?_ | with_reducible refine Gr.trans ?_ (by with_reducible assumption))); done)) _ | with_reducible refine Gr.trans ?_ (by with_reducible assumption)))⟩
  | false =>
    rw [hwd] at HWD
    by_cases h60 : 60 < l.length
    · clear hj hl
      go_enter Try.func11, Try.ntmps11
      go_wp2_with (first | (go_at_call 35; refine (HWD.out).mono ?_; rintro e w1 ⟨rfl, rfl⟩) | (go_at_call 15; refine (known_any _).mono ?_; rintro e w1 ⟨rfl, g1⟩; obtain ⟨X1, Y1, c1, f1⟩ := g1.use))
      go_ret
      exact ⟨rfl, (by repeat (first | with_reducible exact Gr.refl _ | with_reducible assumption | with_reducible refine Gr.alloc ?_ _ | with_reducible refine Gr.drewN ?_ _ | with_reducible refine Gr.drew ?_ | with_reducible refine Gr.setCell ?_ (by first | (dsimp only; omega) | (simp only [World.size_alloc]; omega) | (with_reducible refine Gr.size ?_; (repeat (first | with_reducible exact Gr.refl _ | with_reducible assumption | with_reducible refine Gr.alloc ?_ _ | with_reducible refine Gr.drewN ?_ _ | with_reducible refine Gr.drew ?_ | with_reducible refine Gr.trans ?_ (by with_reducible assumption))); done)) _ | with_reducible refine Gr.trans ?_ (by with_reducible assumption)))⟩
    · have HA := hide (fun (w' : World) (g : Gr w w') => Join_any' A c js B cb l w' (hj.gr g) (hl.gr g) hwd)
      have HB := hide (fun (w' : World) (g : Gr w w') => rJoin_any' A c js B cb l w' (hj.gr g) (hl.gr g) hwd)
      have hEE : (jnE js l == jnE js l) = true := by simp
      generalize jnE js l = E at *
      generalize jnR js l = R at *
      clear hj hl hwd
      go_enter Try.func11, Try.ntmps11
      go_wp2_with (first | (go_at_call 35; refine (HWD.out).mono ?_; rintro e w1 ⟨rfl, rfl⟩) | fail)
      refine (HA.out _ (Gr.refl _)).mono ?_
      rintro e w1 ⟨A1, d1, rfl, o1, g1⟩
      have O1 := hide o1
      have k1 := o1.rd.len
      obtain ⟨k1, k2⟩ := k1
      clear o1
      go_wp2_with fail
      refine (HB.out _ g1).mono ?_
      rintro e w2 ⟨A2, d2, rfl, o2, g2⟩
      have O2 := hide o2
      have k3 := o2.rd.len
      obtain ⟨k3, k4⟩ := k3
      have HS12 := hide (sameNeeds_any A1 A2 d1 d2 R w2 (O1.out.rd.gr g2) o2.rd)
      have gw2 : Gr w w2 := g1.trans g2
      have s1 := g1.size
      have s2 := g2.size
      clear o2
      go_wp2_with fail
      refine HS12.out.mono ?_
      rintro e w3 ⟨rfl, g3⟩
      have gw3 : Gr w w3 := gw2.trans g3
      have s3 := g3.size
      have H0 := hide (show SpR w3 w.heap.size w1.heap.size A1 R ∧ OwR w3 w1.heap.size A2 d2 R from ⟨(SpR.of O1.out).gr (Nat.le_refl _) (g2.trans g3), O2.out.gr g3⟩)
      obtain ⟨h1, hh1⟩ : ∃ h, w1.heap.size = h := ⟨_, rfl⟩
      rw [hh1] at H0
      have hw3 : h1 ≤ w3.heap.size := by omega
      have hwh : w.heap.size ≤ h1 := by omega
      clear g1 g2 g3 s1 s2 s3 gw2 hh1 O1 O2 HS12
      go_wp2
      go_loopw [10] (fun i wr => ∃ k : Nat, k ≤ R.length ∧ i = iv k ∧ Gr w wr ∧ h1 ≤ wr.heap.size ∧ Hid (SpR wr w.heap.size h1 A1 R ∧ OwR wr h1 A2 d2 R)) (fun i _ => R.length - (intOf i).toNat)
      case atStart => exact ⟨0, by omega, rfl, gw3, hw3, H0⟩
      case round =>
        clear H0 hw3 gw3
        obtain ⟨k, hk, rfl, g, hz, HH⟩ := hrel
        by_cases hkl : k < R.length
        · obtain ⟨r, hr⟩ : ∃ r, R[k]? = some r := ⟨_, List.getElem?_eq_getElem hkl⟩
          have HR := hide hr
          have hk0 : (0 : Int) ≤ (k : Int) := by omega
          have hk1 : (k : Int) < (R.length : Int) := by omega
          clear hr
          go_wp2
          go_loopw [11] (fun i wr => ∃ m : Nat, m ≤ r.length ∧ i = iv m ∧ Gr w wr ∧ h1 ≤ wr.heap.size ∧ Hid (SpR wr w.heap.size h1 A1 R ∧ OwR wr h1 A2 d2 R)) (fun i _ => r.length - (intOf i).toNat)
          case atStart => exact ⟨0, by omega, rfl, g, hz, HH⟩
          case round =>
            clear HH g hz
            obtain ⟨m, hm, rfl, g, hz, HH⟩ := hrel
            obtain ⟨bo, IA, ic, rfl, x0, x1⟩ := HH.out.1.at_ HR.out
            have hrl := HH.out.2.rlen HR.out
            by_cases hml : m < r.length
            · obtain ⟨bi, v, rfl, y1, y2, y3, y4, y5⟩ := x1 m hml
              have HY := hide y5
              have HO := HH.out.2
              have HO' := hide HO
              have hm0 : (0 : Int) ≤ (m : Int) := by omega
              have hm1 : (m : Int) < (r.length : Int) := by omega
              clear x1 y5 HO HH
              go_wp2
              go_roundw
              case rel => exact ⟨m + 1, by omega, by go_num, Gr.setCell g (by dsimp only; omega) _, by simp only [World.size_setCell]; omega, hide ⟨HY.out 77, HO'.out.setFar (by dsimp only; omega) _⟩⟩
              case measure => simp only [intOf]; omega
            · obtain rfl : m = r.length := by omega
              clear x1
              go_wp2
              go_roundw
              case rel => exact ⟨k + 1, by omega, by go_num, g, hz, HH⟩
              case measure => simp only [intOf]; omega
        · obtain rfl : k = R.length := by omega
          go_wp2_with fail
          refine (HB.out _ g).mono ?_
          rintro e w4 ⟨A4, d4, rfl, o4, g4⟩
          have O4 := hide o4
          have k5 := o4.rd.len
          obtain ⟨k5, k6⟩ := k5
          have HS24 := hide (sameNeeds_any A2 A4 d2 d4 R w4 (HH.out.2.rd.gr g4) o4.rd)
          have gw4 : Gr w w4 := g.trans g4
          clear o4 g g4 HH
          go_wp2_with (first | (go_at_call 38; refine (HS24.out).mono ?_; rintro e w1 ⟨rfl, g1⟩; obtain ⟨X1, Y1, c1, f1⟩ := g1.use) | (go_at_call 15; refine (known_any _).mono ?_; rintro e w1 ⟨rfl, g1⟩; obtain ⟨X1, Y1, c1, f1⟩ := g1.use))
          go_ret
          exact ⟨rfl, (by repeat (first | with_reducible exact Gr.refl _ | with_reducible assumption | with_reducible refine Gr.alloc ?_ _ | with_reducible refine Gr.drewN ?_ _ | with_reducible refine Gr.drew ?_ | with_reducible refine Gr.setCell ?_ (by first | (dsimp only; omega) | (simp only [World.size_alloc]; omega) | (with_reducible refine Gr.size ?_; (repeat (first | with_reducible exact Gr.refl _ | with_reducible assumption | with_reducible refine Gr.alloc ?_ _ | with_reducible refine Gr.drewN ?_ _ | with_reducible refine Gr.drew ?_ | with_reducible refine Gr.trans ?_ (by with_reducible assumption))); done)) _ | with_reducible refine Gr.trans ?_ (by with_reducible assumption)))⟩
end Go.Proofs.Ytfoihnhcodmhnaa
