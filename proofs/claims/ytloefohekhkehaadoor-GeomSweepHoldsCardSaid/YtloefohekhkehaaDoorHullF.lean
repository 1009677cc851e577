/-
  Two polygons meet if no line parts them; where a line parts them, a side of one of them does. No Go, no program.
-/
import Derived.Test.YtloefohekhkehaaDoorHullE
namespace Go.Proofs.YtloefohekhkehaaDoor.G
set_option linter.unusedVariables false
set_option linter.unusedSimpArgs false
open Go.Proofs.YtloefohekhkehaaDoor.M

/-- points in their order, each once -/
theorem exists_sorted : ∀ l : List V, ∃ s : List V, s.Pairwise L ∧ ∀ x, x ∈ s ↔ x ∈ l
  | [] => ⟨[], by simp, by simp⟩
  | a :: l => by
    obtain ⟨s, h1, h2⟩ := exists_sorted l
    classical
    by_cases c : a ∈ s
    · refine ⟨s, h1, fun x => ?_⟩
      rw [List.mem_cons, h2]
      exact ⟨.inr, fun h => h.elim (fun e => by rw [e]; exact (h2 a).1 c) id⟩
    · refine ⟨s.filter (fun x => decide (L x a)) ++ a :: s.filter (fun x => decide (L a x)), ?_, fun x => ?_⟩
      · rw [List.pairwise_append, List.pairwise_cons]
        refine ⟨h1.filter _, ⟨fun x hx => by simpa using (List.mem_filter.1 hx).2, h1.filter _⟩, fun x hx y hy => ?_⟩
        have hx' : L x a := by simpa using (List.mem_filter.1 hx).2
        rcases List.mem_cons.1 hy with rfl | hy
        · exact hx'
        · exact hx'.trans (by simpa using (List.mem_filter.1 hy).2)
      · simp only [List.mem_append, List.mem_cons, List.mem_filter, decide_eq_true_eq]
        rw [← h2]
        constructor
        · rintro (⟨h, _⟩ | h | ⟨h, _⟩)
          · exact .inr h
          · exact .inl h
          · exact .inr h
        · rintro (h | h)
          · exact .inr (.inl h)
          · rcases total x a with t | t
            · exact .inl ⟨h, t⟩
            · rcases t.or with t | t
              · exact .inr (.inr ⟨h, t⟩)
              · exact .inr (.inl t.symm)
theorem exists_run {l : List V} (h : l ≠ []) : ∃ a s, Run l a s := by
  obtain ⟨s, h1, h2⟩ := exists_sorted l
  have : s ≠ [] := by
    rintro rfl
    cases l with
    | nil => exact h rfl
    | cons a l => exact absurd ((h2 a).2 (by simp)) (by simp)
  obtain ⟨a, t, _, r⟩ := hullOf_run this h1
  exact ⟨a, t, r.congr fun x => (h2 x).symm⟩

/-- a line that parts two lists -/
def Line (A B : List V) (d : V) : Prop := d ≠ 0 ∧ ∀ x ∈ A, ∀ y ∈ B, nn (-(cr d (x - y)))
theorem ng_zero {d : V} (h : ng d = 0) : d = 0 := by
  have := congrArg ng h
  rw [ng_ng] at this
  rw [this]
  rfl
theorem Line.symm {A B : List V} {d : V} (h : Line A B d) : Line B A (ng d) :=
  ⟨fun e => h.1 (ng_zero e), fun y hy x hx => by
    have := h.2 x hx y hy
    have e : -(cr (ng d) (y - x)) = -(cr d (x - y)) := by
      apply Z.ext <;> simp only [cr, subx, suby, ngx, ngy, add_a, add_b, sub_a, sub_b, neg_a, neg_b, mul_a, mul_b] <;> grind
    rw [e]
    exact this⟩
theorem Line.mono {A B C : List V} {d : V} (h : Line A B d) (hc : ∀ x ∈ C, x ∈ A) : Line C B d := ⟨h.1, fun x hx => h.2 x (hc x hx)⟩
theorem nn_of_le {x : Z} (h : sg3 x ≤ 0) : nn (-x) := by
  unfold nn
  rw [sg3_neg]
  omega
theorem le_of_nn {x : Z} (h : nn (-x)) : sg3 x ≤ 0 := by
  unfold nn at h
  rw [sg3_neg] at h
  omega
theorem Sep.line {A B : List V} (h : Sep A B) : ∃ d, Line A B d := by
  obtain ⟨x, n, hx, e, hB⟩ := h
  refine ⟨x - n, fun k => e.2.1 (sub_zero_eq k).symm, fun x' hx' y hy => ?_⟩
  have : -(cr (x - n) (x' - y)) = O x n x' + -(O x n y) := by unfold O; (apply G.Z.ext <;> simp only [G.cr, G.subx, G.suby, G.add_a, G.add_b, G.sub_a, G.sub_b, G.neg_a, G.neg_b, G.mul_a, G.mul_b, G.zero_a, G.zero_b] <;> grind)
  rw [this]
  exact nn_add' (e.2.2 x' hx').1 (nn_of_le (hB y hy))
theorem Sep.line' {A B : List V} (h : Sep B A) : ∃ d, Line A B d := by
  obtain ⟨d, k⟩ := h.line
  exact ⟨_, k.symm⟩

/-- an edge of the differences that does not have the origin on its left parts the two lists, and a side of one of them does -/
theorem edge_sep {A B : List V} (hA : ∀ x1 ∈ A, ∀ x2 ∈ A, x1 ≠ x2 → ∀ x ∈ A, ∃ n, E A x n) (hB : ∀ x1 ∈ B, ∀ x2 ∈ B, x1 ≠ x2 → ∀ x ∈ B, ∃ n, E B x n)
    {p q : V} (hp : p ∈ diffs A B) (h : E (diffs A B) p q) (np : ¬ pos (O p q 0)) : Sep A B ∨ Sep B A := by
  obtain ⟨g1, g2, g3⟩ := h
  obtain ⟨x1, hx1, y1, hy1, ep⟩ := mem_diffs.1 hp
  obtain ⟨x2, hx2, y2, hy2, eq⟩ := mem_diffs.1 g1
  have z0x : (0 : V).x = 0 := rfl
  have z0y : (0 : V).y = 0 := rfl
  have hcp : nn (cr (q - p) p) := by
    have := not_pos np
    have e : -(O p q 0) = cr (q - p) p := by
      unfold O
      apply Z.ext <;> simp only [cr, subx, suby, z0x, z0y, add_a, add_b, sub_a, sub_b, neg_a, neg_b, mul_a, mul_b, zero_a, zero_b] <;> grind
    rwa [e] at this
  have low : ∀ x ∈ A, ∀ y ∈ B, nn (cr (q - p) ((x - y) - p)) := fun x hx y hy => (g3 (x - y) (mem_diffs.2 ⟨x, hx, y, hy, rfl⟩)).1
  have up0 : ∀ x ∈ A, ∀ y ∈ B, nn (cr (q - p) (x - y)) := fun x hx y hy => by
    have := nn_add' (low x hx y hy) hcp
    have e : cr (q - p) ((x - y) - p) + cr (q - p) p = cr (q - p) (x - y) := by (apply G.Z.ext <;> simp only [G.cr, G.subx, G.suby, G.add_a, G.add_b, G.sub_a, G.sub_b, G.neg_a, G.neg_b, G.mul_a, G.mul_b, G.zero_a, G.zero_b] <;> grind)
    rwa [e] at this
  have lowA : ∀ x ∈ A, nn (cr (q - p) (x - x1)) := fun x hx => by
    have := low x hx y1 hy1
    have e : cr (q - p) ((x - y1) - p) = cr (q - p) (x - x1) := by rw [ep]; (apply G.Z.ext <;> simp only [G.cr, G.subx, G.suby, G.add_a, G.add_b, G.sub_a, G.sub_b, G.neg_a, G.neg_b, G.mul_a, G.mul_b, G.zero_a, G.zero_b] <;> grind)
    rwa [e] at this
  have lowB : ∀ y ∈ B, nn (cr (p - q) (y - y1)) := fun y hy => by
    have := low x1 hx1 y hy
    have e : cr (q - p) ((x1 - y) - p) = cr (p - q) (y - y1) := by rw [ep]; (apply G.Z.ext <;> simp only [G.cr, G.subx, G.suby, G.add_a, G.add_b, G.sub_a, G.sub_b, G.neg_a, G.neg_b, G.mul_a, G.mul_b, G.zero_a, G.zero_b] <;> grind)
    rwa [e] at this
  have sum : cr (q - p) (x2 - x1) + cr (p - q) (y2 - y1) = 0 := by
    have e : cr (q - p) (x2 - x1) + cr (p - q) (y2 - y1) = cr (q - p) (q - p) := by
      rw [eq, ep]; (apply G.Z.ext <;> simp only [G.cr, G.subx, G.suby, G.add_a, G.add_b, G.sub_a, G.sub_b, G.neg_a, G.neg_b, G.mul_a, G.mul_b, G.zero_a, G.zero_b] <;> grind)
    rw [e]
    (apply G.Z.ext <;> simp only [G.cr, G.subx, G.suby, G.add_a, G.add_b, G.sub_a, G.sub_b, G.neg_a, G.neg_b, G.mul_a, G.mul_b, G.zero_a, G.zero_b] <;> grind)
  obtain ⟨s1, s2⟩ := add_zero_nn (lowA x2 hx2) (lowB y2 hy2) sum
  by_cases hne : x1 = x2
  · have hne' : y1 ≠ y2 := fun k => g2 (by rw [ep, eq, hne, k])
    obtain ⟨y, n, hy, he, hd, _⟩ := low_side (hB y1 hy1 y2 hy2 hne') (e := p - q) (fun k => g2 (sub_zero_eq k).symm) hy1 hy2 hne' lowB s2
    refine .inr ⟨y, n, hy, he, fun x hx => ?_⟩
    show sg3 (cr (n - y) (x - y)) ≤ 0
    rw [hd]
    refine le_of_nn ?_
    have e : -(cr (p - q) (x - y)) = cr (q - p) (x - y) := by (apply G.Z.ext <;> simp only [G.cr, G.subx, G.suby, G.add_a, G.add_b, G.sub_a, G.sub_b, G.neg_a, G.neg_b, G.mul_a, G.mul_b, G.zero_a, G.zero_b] <;> grind)
    rw [e]
    exact up0 x hx y hy
  · obtain ⟨x, n, hx, he, hd, _⟩ := low_side (hA x1 hx1 x2 hx2 hne) (e := q - p) (fun k => g2 (sub_zero_eq k)) hx1 hx2 hne lowA s1
    refine .inl ⟨x, n, hx, he, fun y hy => ?_⟩
    show sg3 (cr (n - x) (y - x)) ≤ 0
    rw [hd]
    refine le_of_nn ?_
    have e : -(cr (q - p) (y - x)) = cr (q - p) (x - y) := by (apply G.Z.ext <;> simp only [G.cr, G.subx, G.suby, G.add_a, G.add_b, G.sub_a, G.sub_b, G.neg_a, G.neg_b, G.mul_a, G.mul_b, G.zero_a, G.zero_b] <;> grind)
    rw [e]
    exact up0 x hx y hy

/-- the corners of a way around have next corners where they are more than one -/
theorem Run.nexts {l : List V} {a : V} {s : List V} (h : Run l a s) : ∀ x1 ∈ a :: s, ∀ x2 ∈ a :: s, x1 ≠ x2 → ∀ x ∈ a :: s, ∃ n, E (a :: s) x n := by
  intro x1 h1 x2 h2 hne x hx
  rcases h.self.2.2.2.2 with ⟨rfl, _⟩ | ⟨_, k⟩
  · simp at h1 h2
    exact absurd (h1.trans h2.symm) hne
  · obtain ⟨n, _, e⟩ := Run.next k x hx
    exact ⟨n, e⟩

/-- all edges have the origin on their left -/
def Around (D : List V) (h : V) (hs : List V) : Prop := ∀ p ∈ h :: hs, ∀ q, E D p q → pos (O p q 0)

theorem Around.no_line {A B : List V} {h : V} {hs : List V} (r : Run (diffs A B) h hs) (hn : hs ≠ []) (k : Around (diffs A B) h hs) {d : V} (l : Line A B d) : False := by
  rcases r.2.2.2.2 with ⟨e, _⟩ | ⟨_, p⟩
  · exact hn e
  · refine origin_out p (fun x hx => ?_) k l.1 fun v hv => ?_
    · rcases List.mem_cons.1 hx with rfl | hx
      · exact r.1
      · exact r.2.2.2.1 x hx
    · obtain ⟨x, hx, y, hy, e⟩ := mem_diffs.1 hv
      rw [e]
      exact l.2 x hx y hy
theorem Around.of_no_sep {A B : List V} {a b : V} {s t : List V} (ra : Run A a s) (rb : Run B b t) {h : V} {hs : List V} (r : Run (diffs (a :: s) (b :: t)) h hs)
    (n1 : ¬ Sep (a :: s) (b :: t)) (n2 : ¬ Sep (b :: t) (a :: s)) : Around (diffs (a :: s) (b :: t)) h hs := by
  intro p hp q e
  refine Classical.byContradiction fun np => ?_
  have hp' : p ∈ diffs (a :: s) (b :: t) := by
    rcases List.mem_cons.1 hp with rfl | hp
    · exact r.1
    · exact r.2.2.2.1 p hp
  rcases edge_sep ra.nexts rb.nexts hp' e np with k | k
  · exact n1 k
  · exact n2 k
/-- more than one difference -/
theorem diffs_more {A B : List V} {x y1 y2 : V} (hx : x ∈ A) (h1 : y1 ∈ B) (h2 : y2 ∈ B) (hne : y1 ≠ y2) {h : V} {hs : List V} (r : Run (diffs A B) h hs) : hs ≠ [] := by
  rcases r.2.2.2.2 with ⟨_, k⟩ | ⟨e, _⟩
  · exfalso
    have e1 := k _ (mem_diffs.2 ⟨x, hx, y1, h1, rfl⟩)
    have e2 := k _ (mem_diffs.2 ⟨x, hx, y2, h2, rfl⟩)
    have e3 := e1.trans e2.symm
    apply hne
    have ex := congrArg V.x e3
    have ey := congrArg V.y e3
    rw [subx, subx] at ex
    rw [suby, suby] at ey
    have c : ∀ x y z : Z, x - y = x - z → y = z := fun x y z e => Z.ext (by have := congrArg Z.a e; rw [sub_a, sub_a] at this; omega) (by have := congrArg Z.b e; rw [sub_b, sub_b] at this; omega)
    exact V.ext (c _ _ _ ex) (c _ _ _ ey)
  · exact e

theorem no_line {A B : List V} {a b : V} {s t : List V} (ra : Run A a s) (rb : Run B b t) (ht : t ≠ [])
    (n1 : ¬ Sep (a :: s) (b :: t)) (n2 : ¬ Sep (b :: t) (a :: s)) {d : V} (l : Line (a :: s) (b :: t) d) : False := by
  obtain ⟨h, hs, r⟩ := exists_run (l := diffs (a :: s) (b :: t)) (fun e => by
    have : a - b ∈ diffs (a :: s) (b :: t) := mem_diffs.2 ⟨a, by simp, b, by simp, rfl⟩
    rw [e] at this
    simp at this)
  cases t with
  | nil => exact ht rfl
  | cons y t =>
    have hne : b ≠ y := fun e => rb.2.2.1 (by rw [e]; simp)
    exact (Around.of_no_sep ra rb r n1 n2).no_line r (diffs_more (x := a) (y1 := b) (y2 := y) (by simp) (by simp) (by simp) hne r) l

/-- the points of a list lie where its corners lie -/
theorem Run.low {l : List V} {a : V} {s : List V} (r : Run l a s) {d : V} {x : V} (hx : x ∈ l) : ∃ m ∈ a :: s, nn (-(cr d (x - m))) := by
  rcases r.2.2.2.2 with ⟨_, k⟩ | ⟨_, h⟩
  · refine ⟨a, by simp, ?_⟩
    rw [k x hx, sub_self_v]
    have : -(cr d 0) = 0 := by
      unfold cr
      show -(d.x * 0 - d.y * 0) = 0
      rw [mul_zero_r, mul_zero_r]; rfl
    rw [this]
    exact nn_zero
  have hm : ∀ x ∈ a :: s, x ∈ l := fun x hx => by
    rcases List.mem_cons.1 hx with rfl | hx
    · exact r.1
    · exact r.2.2.2.1 x hx
  obtain ⟨m, m1, m2⟩ := max_of (fun v => cr d v) (a :: s) (by simp)
  obtain ⟨p, p1, p2⟩ := Run.prev h m m1
  obtain ⟨n, n1, n2⟩ := Run.next h m m1
  refine ⟨m, m1, ?_⟩
  obtain ⟨o1, o1'⟩ := p2.2.2 x hx
  obtain ⟨o2, o2'⟩ := n2.2.2 x hx
  have fp : nn (cr d (m - p)) := by
    have : cr d (m - p) = cr d m - cr d p := by (apply G.Z.ext <;> simp only [G.cr, G.subx, G.suby, G.add_a, G.add_b, G.sub_a, G.sub_b, G.neg_a, G.neg_b, G.mul_a, G.mul_b, G.zero_a, G.zero_b] <;> grind)
    rw [this]
    exact m2 p p1
  have fn : nn (-(cr d (n - m))) := by
    have : -(cr d (n - m)) = cr d m - cr d n := by (apply G.Z.ext <;> simp only [G.cr, G.subx, G.suby, G.add_a, G.add_b, G.sub_a, G.sub_b, G.neg_a, G.neg_b, G.mul_a, G.mul_b, G.zero_a, G.zero_b] <;> grind)
    rw [this]
    exact m2 n n1
  by_cases hpn : p = n
  · -- two corners: x lies between them
    subst hpn
    have : O m p x = -(O p m x) := by unfold O; (apply G.Z.ext <;> simp only [G.cr, G.subx, G.suby, G.add_a, G.add_b, G.sub_a, G.sub_b, G.neg_a, G.neg_b, G.mul_a, G.mul_b, G.zero_a, G.zero_b] <;> grind)
    rw [this] at o2
    have z := nn_anti o1 o2
    have bt := o1' z
    by_cases exm : x = m
    · rw [exm, sub_self_v]
      have : -(cr d 0) = 0 := by
        unfold cr
        show -(d.x * 0 - d.y * 0) = 0
        rw [mul_zero_r, mul_zero_r]; rfl
      rw [this]
      exact nn_zero
    have c0 : cr (p - m) (x - m) = 0 := by
      have : cr (p - m) (x - m) = -(O p m x) := by unfold O; (apply G.Z.ext <;> simp only [G.cr, G.subx, G.suby, G.add_a, G.add_b, G.sub_a, G.sub_b, G.neg_a, G.neg_b, G.mul_a, G.mul_b, G.zero_a, G.zero_b] <;> grind)
      rw [this, z]; rfl
    have dirs := par (e := p - m) (u := x - m) (fun k => n2.2.1 (sub_zero_eq k)) (fun k => exm (sub_zero_eq k).symm) c0
    rcases dirs with t | t
    · have := t d
      have e1 : -(cr d (x - m)) = cr (x - m) d := by (apply G.Z.ext <;> simp only [G.cr, G.subx, G.suby, G.add_a, G.add_b, G.sub_a, G.sub_b, G.neg_a, G.neg_b, G.mul_a, G.mul_b, G.zero_a, G.zero_b] <;> grind)
      have e2 : -(cr d (p - m)) = cr (p - m) d := by (apply G.Z.ext <;> simp only [G.cr, G.subx, G.suby, G.add_a, G.add_b, G.sub_a, G.sub_b, G.neg_a, G.neg_b, G.mul_a, G.mul_b, G.zero_a, G.zero_b] <;> grind)
      rw [e1]
      rw [e2] at fn
      unfold nn at *
      omega
    · exfalso
      rcases bt with ⟨c, d'⟩ | ⟨c, d'⟩
      · have a1 : L x m := by
          rcases d'.or with q | q
          · exact q
          · exact absurd q exm
        have a2 : L p m := c.l_l a1
        have neg : ∀ a b v : V, sg3 (cr (a - b) v) = - sg3 (cr (b - a) v) := fun a b v => by
          rw [← sg3_neg]
          congr 1
          (apply G.Z.ext <;> simp only [G.cr, G.subx, G.suby, G.add_a, G.add_b, G.sub_a, G.sub_b, G.neg_a, G.neg_b, G.mul_a, G.mul_b, G.zero_a, G.zero_b] <;> grind)
        exact not_opp (u := m - x) (w := m - p) a1 a2 fun v => by rw [neg m x, neg m p, t]
      · have a1 : L m x := by
          rcases c.or with q | q
          · exact q
          · exact absurd q.symm exm
        have a2 : L m p := a1.le_l d'
        exact not_opp (u := x - m) (w := p - m) a1 a2 t
  · have tu := p2.turn n2 (hm p p1) hpn
    refine nn_cancel tu ?_
    have id : O p m n * (-(cr d (x - m))) = O m n x * cr d (m - p) + O p m x * (-(cr d (n - m))) := by
      unfold O; (apply G.Z.ext <;> simp only [G.cr, G.subx, G.suby, G.add_a, G.add_b, G.sub_a, G.sub_b, G.neg_a, G.neg_b, G.mul_a, G.mul_b, G.zero_a, G.zero_b] <;> grind)
    rw [id]
    exact nn_add' (nn_mul o2 fp) (nn_mul o1 fn)
theorem Line.of_corners {l B : List V} {a : V} {s : List V} (r : Run l a s) {d : V} (h : Line (a :: s) B d) : Line l B d :=
  ⟨h.1, fun x hx y hy => by
    obtain ⟨m, m1, m2⟩ := r.low (d := d) hx
    have : -(cr d (x - y)) = -(cr d (x - m)) + -(cr d (m - y)) := by (apply G.Z.ext <;> simp only [G.cr, G.subx, G.suby, G.add_a, G.add_b, G.sub_a, G.sub_b, G.neg_a, G.neg_b, G.mul_a, G.mul_b, G.zero_a, G.zero_b] <;> grind)
    rw [this]
    exact nn_add' m2 (h.2 m m1 y hy)⟩
theorem Line.to_corners {l B : List V} {a : V} {s : List V} (r : Run l a s) {d : V} (h : Line l B d) : Line (a :: s) B d :=
  h.mono fun x hx => by
    rcases List.mem_cons.1 hx with rfl | hx
    · exact r.1
    · exact r.2.2.2.1 x hx
/-- they meet: no side parts them -/
def Meet (A B : List V) : Prop := ¬ Sep A B ∧ ¬ Sep B A
theorem Meet.symm {A B : List V} : Meet A B ↔ Meet B A := ⟨fun h => ⟨h.2, h.1⟩, fun h => ⟨h.2, h.1⟩⟩
/-- more points still meet -/
theorem Meet.more {A A' B : List V} {a a' b : V} {s s' t : List V} (ra : Run A a s) (ra' : Run A' a' s') (rb : Run B b t) (ht : t ≠ []) (hA : ∀ x ∈ A, x ∈ A')
    (h : Meet (a :: s) (b :: t)) : Meet (a' :: s') (b :: t) := by
  have key : ∀ d, ¬ Line (a' :: s') (b :: t) d := fun d k => no_line ra rb ht h.1 h.2 ((k.of_corners ra').mono hA |>.to_corners ra)
  refine ⟨fun k => ?_, fun k => ?_⟩
  · obtain ⟨d, l⟩ := k.line
    exact key d l
  · obtain ⟨d, l⟩ := k.line'
    exact key d l
/-- as the differences say -/
theorem meet_iff {A B : List V} {a b : V} {s t : List V} (ra : Run A a s) (rb : Run B b t) (ht : t ≠ []) {h : V} {hs : List V} (r : Run (diffs (a :: s) (b :: t)) h hs) :
    hs ≠ [] ∧ (Meet (a :: s) (b :: t) ↔ Around (diffs (a :: s) (b :: t)) h hs) := by
  cases t with
  | nil => exact absurd rfl ht
  | cons y t =>
    have hne : b ≠ y := fun e => rb.2.2.1 (by rw [e]; simp)
    have hh := diffs_more (x := a) (y1 := b) (y2 := y) (by simp) (by simp) (by simp) hne r
    refine ⟨hh, fun m => Around.of_no_sep ra rb r m.1 m.2, fun k => ⟨fun q => ?_, fun q => ?_⟩⟩
    · obtain ⟨d, l⟩ := q.line
      exact k.no_line r hh l
    · obtain ⟨d, l⟩ := q.line'
      exact k.no_line r hh l
end Go.Proofs.YtloefohekhkehaaDoor.G
