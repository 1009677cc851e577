/-
  The hull out of the two chains is a way around. No Go, no program.
-/
import Derived.Test.YtloefohekhkehaaDoorHullC
namespace Go.Proofs.YtloefohekhkehaaDoor.G
set_option linter.unusedVariables false
set_option linter.unusedSimpArgs false
open Go.Proofs.YtloefohekhkehaaDoor.M

def ng (v : V) : V := ⟨-v.x, -v.y⟩
theorem ngx (v : V) : (ng v).x = -v.x := rfl
theorem ngy (v : V) : (ng v).y = -v.y := rfl
theorem ng_ng (v : V) : ng (ng v) = v := V.ext (by rw [ngx, ngx]; (apply G.Z.ext <;> simp only [G.cr, G.subx, G.suby, G.add_a, G.add_b, G.sub_a, G.sub_b, G.neg_a, G.neg_b, G.mul_a, G.mul_b, G.zero_a, G.zero_b] <;> grind)) (by rw [ngy, ngy]; (apply G.Z.ext <;> simp only [G.cr, G.subx, G.suby, G.add_a, G.add_b, G.sub_a, G.sub_b, G.neg_a, G.neg_b, G.mul_a, G.mul_b, G.zero_a, G.zero_b] <;> grind))
theorem ng_inj {u v : V} (h : ng u = ng v) : u = v := by rw [← ng_ng u, h, ng_ng]
theorem O_ng (a b c : V) : O (ng a) (ng b) (ng c) = O a b c := by
  unfold O
  apply Z.ext <;> simp only [cr, subx, suby, ngx, ngy, add_a, add_b, sub_a, sub_b, neg_a, neg_b, mul_a, mul_b] <;> grind
theorem ng_sub (a b : V) : ng b - ng a = a - b := by
  apply V.ext
  · simp only [subx, ngx]; (apply G.Z.ext <;> simp only [G.cr, G.subx, G.suby, G.add_a, G.add_b, G.sub_a, G.sub_b, G.neg_a, G.neg_b, G.mul_a, G.mul_b, G.zero_a, G.zero_b] <;> grind)
  · simp only [suby, ngy]; (apply G.Z.ext <;> simp only [G.cr, G.subx, G.suby, G.add_a, G.add_b, G.sub_a, G.sub_b, G.neg_a, G.neg_b, G.mul_a, G.mul_b, G.zero_a, G.zero_b] <;> grind)
theorem L_ng {a b : V} : L (ng a) (ng b) ↔ L b a := by unfold L; rw [ng_sub]
theorem Le_ng {a b : V} : Le (ng a) (ng b) ↔ Le b a := by unfold Le; rw [ng_sub]
theorem pops_ng (p : V) : ∀ s : List V, pops (s.map ng) (ng p) = (pops s p).map ng
  | [] => rfl
  | [a] => rfl
  | b :: a :: s => by
    rw [List.map_cons, List.map_cons]
    unfold pops
    rw [O_ng]
    by_cases c : sg3 (O a b p) ≤ 0
    · rw [if_pos c, if_pos c]
      exact pops_ng p (a :: s)
    · rw [if_neg c, if_neg c]
      rfl
theorem scan_ng_aux : ∀ (l s : List V), (l.map ng).foldl (fun s p => p :: pops s p) (s.map ng) = (l.foldl (fun s p => p :: pops s p) s).map ng
  | [], _ => rfl
  | p :: l, s => by
    rw [List.map_cons, List.foldl_cons, List.foldl_cons, pops_ng]
    exact scan_ng_aux l (p :: pops s p)
theorem scan_ng (l : List V) : scan (l.map ng) = (scan l).map ng := scan_ng_aux l []

theorem Ch.mem {l : List V} : ∀ {s : List V}, Ch l s → ∀ x ∈ s, x ∈ l
  | [a], h, x, hx => by simp at hx; subst hx; exact h.1
  | b :: a :: s, h, x, hx => by
    rcases List.mem_cons.1 hx with rfl | hx
    · exact h.1
    · exact Ch.mem h.2.2.2.2 x hx
theorem Ch.edge {l : List V} {a b : V} {s : List V} (h : Ch l (b :: a :: s)) : E l a b :=
  ⟨h.1, h.2.1.ne, fun x hx => ⟨(h.2.2.1 x hx).1, fun e => .inl ((h.2.2.1 x hx).2 e)⟩⟩
theorem Ch.path {l : List V} : ∀ {s : List V} {a : V}, Ch l (a :: s) → Path l (s.reverse ++ [a])
  | [], _, _ => trivial
  | z :: s, a, h => by
    rw [List.reverse_cons, List.append_assoc]
    exact Path.join (y := [a]) ⟨h.edge, trivial⟩ s.reverse (Ch.path h.2.2.2.2)
theorem Ch.head {l : List V} : ∀ {s : List V} {a : V}, Ch l (a :: s) → ∀ y ∈ s, L y a
  | [], _, _, y, hy => by simp at hy
  | z :: s, a, h, y, hy => by
    rcases List.mem_cons.1 hy with rfl | hy
    · exact h.2.1
    · exact (Ch.head h.2.2.2.2 y hy).trans h.2.1
theorem Ch.bottom {l : List V} : ∀ {s : List V} {a : V}, Ch l (a :: s) → ∃ r z, a :: s = r ++ [z] ∧ (∀ x ∈ l, Le z x) ∧ ∀ y ∈ r, L z y
  | [], a, h => ⟨[], a, rfl, h.2, fun y hy => by simp at hy⟩
  | b :: s, a, h => by
    obtain ⟨r, z, e, h1, h2⟩ := Ch.bottom h.2.2.2.2
    refine ⟨a :: r, z, by rw [e]; rfl, h1, fun y hy => ?_⟩
    rcases List.mem_cons.1 hy with rfl | hy
    · refine Le.l_l ?_ h.2.1
      exact h1 b h.2.2.2.2.mem_head
    · exact h2 y hy

theorem E.of_ng {l : List V} {p q : V} (h : E (l.map ng) (ng p) (ng q)) : E l p q := by
  obtain ⟨h1, h2, h3⟩ := h
  obtain ⟨q', hq, e⟩ := List.mem_map.1 h1
  have := ng_inj e
  subst this
  refine ⟨hq, fun e => h2 (by rw [e]), fun x hx => ?_⟩
  obtain ⟨k1, k2⟩ := h3 (ng x) (List.mem_map_of_mem hx)
  rw [O_ng] at k1 k2
  refine ⟨k1, fun e => ?_⟩
  rcases k2 e with ⟨c, d⟩ | ⟨c, d⟩
  · exact .inr ⟨Le_ng.1 d, Le_ng.1 c⟩
  · exact .inl ⟨Le_ng.1 d, Le_ng.1 c⟩
theorem Path.of_ng {l : List V} : ∀ {s : List V}, Path (l.map ng) (s.map ng) → Path l s
  | [], _ => trivial
  | [_], _ => trivial
  | _ :: b :: s, h => ⟨h.1.of_ng, Path.of_ng (s := b :: s) h.2⟩

theorem Path.of_mem {l k : List V} {s : List V} (h : Path l s) (hk : ∀ x, x ∈ k ↔ x ∈ l) : Path k s := by
  induction s with
  | nil => trivial
  | cons a s ih =>
    cases s with
    | nil => trivial
    | cons b s => exact ⟨⟨(hk b).2 h.1.1, h.1.2.1, fun x hx => h.1.2.2 x ((hk x).1 hx)⟩, ih h.2⟩

theorem lower {s : List V} (h : s ≠ []) (hs : s.Pairwise L) : ∃ m t, scan s = m :: t ∧ (∀ x ∈ s, Le x m) ∧ m ∈ s ∧ Path s (t.reverse ++ [m]) ∧ (∀ y ∈ t, y ∈ s) ∧
    ∃ r a, m :: t = r ++ [a] ∧ (∀ x ∈ s, Le a x) ∧ ∀ y ∈ r, L a y := by
  obtain ⟨m, t, e, h1, h2⟩ := Ch.scan h hs
  obtain ⟨r, a, e2, h3, h4⟩ := h1.bottom
  refine ⟨m, t, e, h2, by simpa using h1.mem_head, h1.path.of_mem (by simp), fun y hy => by simpa using h1.mem y (List.mem_cons_of_mem _ hy), r, a, e2, fun x hx => h3 x (by simpa using hx), h4⟩

theorem upper {s : List V} (h : s ≠ []) (hs : s.Pairwise L) : ∃ a u, scan s.reverse = a :: u ∧ (∀ x ∈ s, Le a x) ∧ a ∈ s ∧ Path s (u.reverse ++ [a]) ∧ (∀ y ∈ u, y ∈ s) ∧ (∀ y ∈ u, L a y) ∧
    ∃ r m, a :: u = r ++ [m] ∧ (∀ x ∈ s, Le x m) := by
  have hs' : (s.reverse.map ng).Pairwise L := by
    rw [List.pairwise_map, List.pairwise_reverse]
    exact hs.imp fun h => L_ng.2 h
  obtain ⟨m, t, e, h1, h2⟩ := Ch.scan (l := s.reverse.map ng) (by simpa using h) hs'
  obtain ⟨r, z, e2, h3, h4⟩ := h1.bottom
  rw [scan_ng] at e
  have hmem : ∀ x, x ∈ (s.reverse.map ng).reverse ↔ x ∈ s.map ng := fun x => by simp
  cases hq : G.scan s.reverse with
  | nil => rw [hq] at e; cases e
  | cons a u =>
    rw [hq] at e
    rw [List.map_cons] at e
    injection e with em et
    subst em
    subst et
    have im : ∀ y : V, ng y ∈ s.map ng → y ∈ s := fun y hy => by
      obtain ⟨y', hy', e⟩ := List.mem_map.1 hy
      rw [← ng_inj e]; exact hy'
    refine ⟨a, u, rfl, fun x hx => Le_ng.1 (h2 (ng x) (by simpa using ⟨x, hx, rfl⟩)), im a ((hmem _).1 h1.mem_head), ?_, fun y hy => im y ((hmem _).1 (h1.mem _ (List.mem_cons_of_mem _ (List.mem_map_of_mem hy)))), fun y hy => L_ng.1 (h1.head _ (List.mem_map_of_mem hy)), r.map ng, ng z, ?_, fun x hx => ?_⟩
    · refine Path.of_ng ?_
      have := h1.path.of_mem (k := s.map ng) (fun x => (hmem x).symm)
      simpa using this
    · have := congrArg (List.map ng) e2
      simpa [ng_ng, Function.comp_def] using this
    · have := h3 (ng x) ((hmem _).2 (List.mem_map_of_mem hx))
      rw [← ng_ng x]
      exact Le_ng.2 this

/-- the hull of points in their order, each once -/
def hullOf (s : List V) : List V := if s.length = 1 then s else (scan s).reverse.dropLast ++ (scan s.reverse).reverse.dropLast

theorem hullOf_run {s : List V} (h : s ≠ []) (hs : s.Pairwise L) : ∃ a t, hullOf s = a :: t ∧ Run s a t := by
  unfold hullOf
  by_cases c : s.length = 1
  · rw [if_pos c]
    obtain ⟨a, e⟩ := List.length_eq_one_iff.1 c
    subst e
    exact ⟨a, [], rfl, by simp, fun x hx => by simp at hx; subst hx; exact Le.refl _, by simp, by simp, .inl ⟨rfl, by simp⟩⟩
  rw [if_neg c]
  obtain ⟨m, t, e1, l1, l2, l3, l4, r, a, l5, l6, l7⟩ := lower h hs
  obtain ⟨b, u, e2, u1, u2, u3, u4, u5, q, n, u6, u7⟩ := upper h hs
  have ham : L a m := by
    rcases (l6 m l2).or with k | k
    · exact k
    · refine absurd ?_ c
      cases s with
      | nil => exact absurd rfl h
      | cons x s =>
        cases s with
        | nil => rfl
        | cons y s =>
          have hx := (l1 x (by simp))
          have hy := (l1 y (by simp))
          have hx' := (l6 x (by simp))
          have hy' := (l6 y (by simp))
          rw [k] at hx' hy'
          have := (hx.anti hx').trans (hy.anti hy').symm
          rw [List.pairwise_cons] at hs
          exact ((hs.1 y (by simp)).ne this).elim
  have ha : a ∈ s := by
    have : a ∈ m :: t := by rw [l5]; simp
    rcases List.mem_cons.1 this with rfl | k
    · exact l2
    · exact l4 a k
  have hn : n ∈ s := by
    have : n ∈ b :: u := by rw [u6]; simp
    rcases List.mem_cons.1 this with rfl | k
    · exact u2
    · exact u4 n k
  have eb : b = a := (u1 a ha).anti (l6 b u2)
  have en : n = m := (l1 n hn).anti (u7 m l2)
  subst eb
  subst en
  rw [e1, e2, List.reverse_cons, List.reverse_cons, List.dropLast_concat, List.dropLast_concat]
  cases r with
  | nil =>
    simp at l5
    exact (ham.ne l5.1.symm).elim
  | cons r0 r =>
    cases q with
    | nil =>
      simp at u6
      exact (ham.ne u6.1).elim
    | cons q0 q =>
      simp at l5 u6
      obtain ⟨rfl, rfl⟩ := l5
      obtain ⟨rfl, rfl⟩ := u6
      simp only [List.reverse_append, List.reverse_cons, List.reverse_nil, List.nil_append, List.singleton_append, List.cons_append] at *
      refine ⟨b, r.reverse ++ n :: q.reverse, rfl, ha, u1, fun hm => ?_, fun x hx => ?_, .inr ⟨by simp, ?_⟩⟩
      · simp at hm
        rcases hm with hm | hm | hm
        · exact (l7 b (by simp [hm])).irrefl
        · exact ham.ne hm
        · exact (u5 b (by simp [hm])).irrefl
      · simp at hx
        rcases hx with hx | hx | hx
        · exact l4 x (by simp [hx])
        · subst hx; exact hn
        · exact u4 x (by simp [hx])
      · have := Path.join (y := q.reverse ++ [b]) (m := n) u3 (b :: r.reverse) l3
        simpa using this
end Go.Proofs.YtloefohekhkehaaDoor.G
