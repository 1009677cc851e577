/-
  Flat patterns turned: pattern of the code.
-/
import Derived.Test.YtjnfodbniohkhaaQm
import Derived.Test.YtjnfodbniohkhaaSf10
set_option linter.unusedVariables false
set_option linter.unusedSimpArgs false
namespace Go.Proofs.Ytjnfodbniohkhaa
set_option linter.unusedVariables false
set_option linter.unusedSimpArgs false
open Go Go.ChangeShapes Go.WideShapes Go.ChangeAt Go.RowKit Go.Deep

namespace RG
/-- the blocks from lo to n, all but B, are as they were -/
structure Kq (lo n B : Nat) (w w' : World) : Prop where
  n0 : n ≤ w'.heap.size
  cell : ∀ b o, lo ≤ b → b < n → b ≠ B → w'.cell? ⟨b, o, none⟩ = w.cell? ⟨b, o, none⟩
theorem Kq.refl {lo n B : Nat} {w : World} (h : n ≤ w.heap.size) : Kq lo n B w w := ⟨h, fun _ _ _ _ _ => rfl⟩
theorem Kq.gr {lo n B : Nat} {w w' w'' : World} (h : Kq lo n B w w') (g : Gr w' w'') : Kq lo n B w w'' :=
  ⟨Nat.le_trans h.n0 g.size, fun b o h1 h2 h3 => (g.cell _ _ (Nat.lt_of_lt_of_le h2 h.n0)).trans (h.cell b o h1 h2 h3)⟩
theorem Kq.set {lo n B C i : Nat} {w w' : World} (h : Kq lo n B w w') (hC : C < lo ∨ C = B ∨ n ≤ C) (v : Value) : Kq lo n B w (w'.setCell ⟨C, i, none⟩ v) :=
  ⟨by simpa using h.n0, fun b o h1 h2 h3 => (World.cell?_of_block (heap_setCell_other w' ⟨C, i, none⟩ b v (fun e => by simp at e; omega))).trans (h.cell b o h1 h2 h3)⟩
theorem Kq.grown {lo n B : Nat} {w w' w'' : World} {row : Option Nat} (h : Kq lo n B w w') (hg : w'.grownBy w'' row) (hr : ∀ k, row = some k → n ≤ k) : Kq lo n B w w'' :=
  ⟨Nat.le_trans h.n0 hg.size, fun b o h1 h2 h3 => (hg.cell_far ⟨b, o, none⟩ (Nat.lt_of_lt_of_le h2 h.n0) (fun e => by have := hr b e.symm; omega)).trans (h.cell b o h1 h2 h3)⟩
/-- a list whose block lies between lo and n, and is not B -/
structure SlK (lo n B : Nat) (w : World) (D : Option Addr) (q : Nat) (l : List Rc) : Prop where
  sl : SlR w D q l
  far : l ≠ [] → ∀ a, D = some a → lo ≤ a.block ∧ a.block < n ∧ a.block ≠ B
theorem slr_keep {w w' : World} {D : Option Addr} {q : Nat} {l : List Rc} (h : SlR w D q l) (hk : l ≠ [] → ∀ x, D = some x → ∀ o, w'.cell? ⟨x.block, o, none⟩ = w.cell? ⟨x.block, o, none⟩) : SlR w' D q l := by
  by_cases hl : l = []
  · subst hl
    exact ⟨fun i x hx => by simp at hx, h.cap, h.capB⟩
  · exact ⟨rdl_keep h.rd (hk hl), h.cap, h.capB⟩
theorem SlK.kq {lo n B : Nat} {w w' : World} {D : Option Addr} {q : Nat} {l : List Rc} (h : SlK lo n B w D q l) (k : Kq lo n B w w') : SlK lo n B w' D q l :=
  ⟨slr_keep h.sl fun hl x hx o => k.cell _ _ (h.far hl x hx).1 (h.far hl x hx).2.1 (h.far hl x hx).2.2, h.far⟩
theorem slr_lt {w : World} {D : Option Addr} {q : Nat} {l : List Rc} (h : SlR w D q l) (hl : l ≠ []) : ∀ a, D = some a → a.block < w.heap.size := fun a ha => by
  obtain ⟨r, hr⟩ : ∃ r, l[0]? = some r := ⟨_, List.getElem?_eq_getElem (List.length_pos_iff.2 hl)⟩
  obtain ⟨b, o, e, h0, _⟩ := h.at_ hr
  rw [ha] at e
  cases e
  exact cell_lt (by rw [h0]; rfl)
theorem slk_of {lo lo' B : Nat} {w1 wx : World} {D : Option Addr} {q : Nat} {G : List Rc} (h : SlR w1 D q G) (hf : ∀ a, D = some a → lo ≤ a.block) (hk : Kp lo w1.heap.size w1 wx) (hs : w1.heap.size ≤ wx.heap.size) (hB : B < lo ∨ w1.heap.size ≤ B) (hlo : lo' ≤ lo) : SlK lo' wx.heap.size B wx D q G :=
  ⟨slr_keep h fun hl x hx o => hk.cell _ _ (hf x hx) (slr_lt h hl x hx), fun hl a ha => by have := hf a ha; have := slr_lt h hl a ha; omega⟩
/-- rects at these lists, from here on -/
structure Rcs (w0 : World) (x y : Int) (t : Nat) (A : Option Addr) (m c : Nat) (G : List Rc) : Prop where
  use : ∀ w', Gr w0 w' → Calls Try.prog 33 #[fmv x y (t : Int), .slice A m c] w' fun e w'' => ∃ (D : Option Addr) (q : Nat), e = .returned (.slice D G.length q) ∧ SlR w'' D q G ∧ (∀ a, D = some a → w'.heap.size ≤ a.block) ∧ Gr w' w''
theorem rcs_at {w0 : World} {x y : Int} {t : Nat} {A : Option Addr} {m c : Nat} {G : List Rc} (h : Rcs w0 x y t A m c G) (w' : World) (g : Gr w0 w') : Calls Try.prog 33 #[fmv x y (t : Int), .slice A m c] w' fun e w'' => ∃ (D : Option Addr) (q : Nat), e = .returned (.slice D G.length q) ∧ SlR w'' D q G ∧ (∀ a, D = some a → w'.heap.size ≤ a.block) ∧ Gr w' w'' := h.use w' g
/-- the variable of the result -/
structure Res (w : World) (B : Nat) (a b c d : Value) : Prop where
  lt : B < w.heap.size
  c0 : w.cell? ⟨B, 0, none⟩ = some a
  c1 : w.cell? ⟨B, 1, none⟩ = some b
  c2 : w.cell? ⟨B, 2, none⟩ = some c
  c3 : w.cell? ⟨B, 3, none⟩ = some d
  f3 : w.frozen? ⟨B, 3, none⟩ = false
theorem Res.gr {w w' : World} {B : Nat} {a b c d : Value} (h : Res w B a b c d) (g : Gr w w') : Res w' B a b c d :=
  ⟨Nat.lt_of_lt_of_le h.lt g.size, (g.cell _ _ h.lt).trans h.c0, (g.cell _ _ h.lt).trans h.c1, (g.cell _ _ h.lt).trans h.c2, (g.cell _ _ h.lt).trans h.c3, (g.frozen _ _ h.lt).trans h.f3⟩
theorem Res.grown {w w' : World} {B : Nat} {a b c d : Value} {row : Option Nat} (h : Res w B a b c d) (hg : w.grownBy w' row) (hr : ∀ k, row = some k → B < k) : Res w' B a b c d := by
  have hne : some B ≠ row := fun e => by have := hr B e.symm; omega
  exact ⟨Nat.lt_of_lt_of_le h.lt hg.size, (hg.cell_far ⟨B, 0, none⟩ h.lt hne).trans h.c0, (hg.cell_far ⟨B, 1, none⟩ h.lt hne).trans h.c1, (hg.cell_far ⟨B, 2, none⟩ h.lt hne).trans h.c2, (hg.cell_far ⟨B, 3, none⟩ h.lt hne).trans h.c3, (hg.frozen_far ⟨B, 3, none⟩ h.lt hne).trans h.f3⟩
theorem Res.set {w : World} {B : Nat} {a b c d : Value} (h : Res w B a b c d) (v : Value) : Res (w.setCell ⟨B, 3, none⟩ v) B a b c v := by
  obtain ⟨h0, h1, h2, h3, h4, h5⟩ := h
  exact ⟨by simpa using h0, by simp [go_sem, h1], by simp [go_sem, h2], by simp [go_sem, h3], by rw [World.cell?_setCell_same' _ _ _ (by rw [h4]; rfl)], by simp [go_sem, h5]⟩
theorem own_farQ {w : World} {base : Nat} {e : TypeId} {k n : Nat} {v : Value} {xs : List Value} (h : w.ownsRow base e k v n xs) {a : Addr} (ha : a.block < base) (u : Value) : (w.setCell a u).ownsRow base e k v n xs := by
  obtain ⟨h0, h1 | ⟨b, cap, cur, h1, hb, h2, h3⟩⟩ := id h
  · exact ⟨h0, .inl h1⟩
  · refine ⟨h0, .inr ⟨b, cap, cur, h1, hb, ?_, h3⟩⟩
    rw [← h2]
    exact Below.heap_setCell w a u b (by omega)
theorem elBend : ElT Try.prog 23 49 8 64 := elT_of (.agg #[iv 0, iv 0, iv 0, iv 0, iv 0, iv 0, iv 0, iv 0]) (by kernel_rfl) (by kernel_rfl) (by kernel_rfl)
theorem one_bd (l : List Bd) : ∀ u ∈ l.flatMap bdL, u.oneCell' = true := by
  intro u hu
  obtain ⟨r, _, hr⟩ := List.mem_flatMap.1 hu
  simp at hr
  rcases hr with rfl | rfl | rfl | rfl | rfl | rfl | rfl | rfl <;> rfl
/-- a pattern returned in memory of the call's own: its lists' blocks below n, its bends' row above -/
def NewP (w w' : World) (G : Pat) (e : Ending) : Prop := ∃ (n : Nat) (D1 D2 D3 D4 : Option Addr) (q1 q2 q3 q4 : Nat), e = .returned (ptv D1 G.r.length q1 D2 G.c.length q2 D3 G.f.length q3 D4 G.b.length q4) ∧
  (SlR w' D1 q1 G.r ∧ SlR w' D2 q2 G.c ∧ SlR w' D3 q3 G.f) ∧ ((G.r ≠ [] → ∀ a, D1 = some a → w.heap.size ≤ a.block ∧ a.block < n) ∧ (G.c ≠ [] → ∀ a, D2 = some a → w.heap.size ≤ a.block ∧ a.block < n) ∧ (G.f ≠ [] → ∀ a, D3 = some a → w.heap.size ≤ a.block ∧ a.block < n)) ∧
  OwnL w' n 49 8 bdL (.slice D4 G.b.length q4) G.b ∧ w.heap.size ≤ n ∧ n ≤ w'.heap.size ∧ Gr w w'
set_option maxHeartbeats 8000000 in
set_option maxRecDepth 100000 in
theorem pattern_any (x y : Int) (t : Nat) (A1 A2 A3 A4 : Option Addr) (c1 c2 c3 c4 : Nat) (F : Pat) (w : World) (hF : PatW w A1 c1 A2 c2 A3 c3 A4 c4 F) (hx : -10000000 ≤ x ∧ x ≤ 10000000) (hy : -10000000 ≤ y ∧ y ≤ 10000000)
    (v1 : ∀ r ∈ F.r, InM 1048576 r) (v2 : ∀ r ∈ F.c, InM 1048576 r) (v3 : ∀ r ∈ F.f, InM 1048576 r) (v4 : ∀ b ∈ F.b, (-10000000 ≤ b.a ∧ b.a ≤ 10000000) ∧ (-10000000 ≤ b.b ∧ b.b ≤ 10000000) ∧ (-10000000 ≤ b.c ∧ b.c ≤ 10000000) ∧ (-10000000 ≤ b.d ∧ b.d ≤ 10000000)) (ht : t ≤ 1000)
    (n1 : F.r.length ≤ 400) (n2 : F.c.length ≤ 400) (n3 : F.f.length ≤ 400) (n4 : F.b.length ≤ 400) :
    Calls Try.prog 18 #[fmv x y (t : Int), ptv A1 F.r.length c1 A2 F.c.length c2 A3 F.f.length c3 A4 F.b.length c4] w fun e w' => NewP w w' (patM x y t F) e := by
  have HB := hide hF.b
  have b1 := hF.b.cap
  have b2 := hF.b.capB
  have HL := hide (fun (b : Bd) (hb : b ∈ F.b) (w' : World) => line_any x y t b.a b.b b.c b.d w' hx hy (v4 b hb).1 (v4 b hb).2.1 (v4 b hb).2.2.1 (v4 b hb).2.2.2 ht)
  have HM := hide (fun (k : Nat) (b : Bd) (h : F.b[k]? = some b) => map_take1 (bdM x y t) h)
  obtain ⟨w0, hw0⟩ : ∃ w0, ((w.alloc (.cells #[iv x, iv y, iv (t : Int)] 45)).alloc (.cells #[.slice A1 F.r.length c1, .slice A2 F.c.length c2, .slice A3 F.f.length c3, .slice A4 F.b.length c4] 25)).alloc (.cells #[.slice none 0 0, .slice none 0 0, .slice none 0 0, .slice none 0 0] 25) = w0 := ⟨_, rfl⟩
  have gw0 : Gr w w0 := by rw [← hw0]; exact Gr.alloc (Gr.alloc (Gr.alloc (Gr.refl _) _) _) _
  have r1 : Rcs w0 x y t A1 F.r.length c1 (F.r.map (rcM x y t)) := ⟨fun w' g => rects_any x y t A1 c1 F.r w' (hF.r.gr (gw0.trans g)) hx hy v1 ht n1⟩
  have r2 : Rcs w0 x y t A2 F.c.length c2 (F.c.map (rcM x y t)) := ⟨fun w' g => rects_any x y t A2 c2 F.c w' (hF.c.gr (gw0.trans g)) hx hy v2 ht n2⟩
  have r3 : Rcs w0 x y t A3 F.f.length c3 (F.f.map (rcM x y t)) := ⟨fun w' g => rects_any x y t A3 c3 F.f w' (hF.f.gr (gw0.trans g)) hx hy v3 ht n3⟩
  have s0 : w0.heap.size = w.heap.size + 3 := by rw [← hw0]; simp
  have k0 : w0.cell? ⟨w.heap.size, 0, none⟩ = some (iv x) ∧ w0.cell? ⟨w.heap.size, 1, none⟩ = some (iv y) ∧ w0.cell? ⟨w.heap.size, 2, none⟩ = some (iv (t : Int)) := by rw [← hw0]; simp [go_sem]
  have k1 : w0.cell? ⟨w.heap.size + 1, 0, none⟩ = some (.slice A1 F.r.length c1) ∧ w0.cell? ⟨w.heap.size + 1, 1, none⟩ = some (.slice A2 F.c.length c2) ∧ w0.cell? ⟨w.heap.size + 1, 2, none⟩ = some (.slice A3 F.f.length c3) ∧ w0.cell? ⟨w.heap.size + 1, 3, none⟩ = some (.slice A4 F.b.length c4) := by rw [← hw0]; simp [go_sem]
  have k2 : (∀ j, w0.frozen? ⟨w.heap.size + 2, j, none⟩ = false) ∧ w0.cell? ⟨w.heap.size + 2, 0, none⟩ = some (.slice none 0 0) ∧ w0.cell? ⟨w.heap.size + 2, 1, none⟩ = some (.slice none 0 0) ∧ w0.cell? ⟨w.heap.size + 2, 2, none⟩ = some (.slice none 0 0) ∧ w0.cell? ⟨w.heap.size + 2, 3, none⟩ = some (.slice none 0 0) := by rw [← hw0]; simp [go_sem]
  obtain ⟨⟨k00, k01, k02⟩, k10, k11, k12, k13⟩ := And.intro k0 k1
  have HK2 := hide k2
  obtain ⟨G1, hG1⟩ : ∃ G, F.r.map (rcM x y t) = G := ⟨_, rfl⟩
  obtain ⟨G2, hG2⟩ : ∃ G, F.c.map (rcM x y t) = G := ⟨_, rfl⟩
  obtain ⟨G3, hG3⟩ : ∃ G, F.f.map (rcM x y t) = G := ⟨_, rfl⟩
  rw [hG1] at r1
  rw [hG2] at r2
  rw [hG3] at r3
  have HP := hide (show patM x y t F = ⟨G1, G2, G3, F.b.map (bdM x y t)⟩ by rw [← hG1, ← hG2, ← hG3]; rfl)
  clear hx hy v1 v2 v3 v4 n1 n2 n3 hG1 hG2 hG3 hF k0 k1 k2
  go_enter Try.func18, Try.ntmps18
  go_upto_region 1 with fail
  clear hw0
  go_cut [5] from 8 to 20 (fun v5 wx => ∃ (B : Nat) (D1 D2 D3 : Option Addr) (q1 q2 q3 : Nat), v5 = .pointer (some ⟨B, 0, none⟩) ∧ w0.heap.size ≤ B ∧ Gr w0 wx ∧ SlK w0.heap.size wx.heap.size B wx D1 q1 G1 ∧ SlK w0.heap.size wx.heap.size B wx D2 q2 G2 ∧ SlK w0.heap.size wx.heap.size B wx D3 q3 G3 ∧ Res wx B (.slice D1 G1.length q1) (.slice D2 G2.length q2) (.slice D3 G3.length q3) (.slice none 0 0))
  case first =>
    go_region_held3 (fun w' => Gr (w0) w' ∧ ∀ ii oo, ii < (w0).heap.size → w'.cell? ⟨ii, oo, none⟩ = (w0).cell? ⟨ii, oo, none⟩) ((refine And.intro ?_ (Gr.cell ?_) <;> ((repeat (first | with_reducible exact Gr.refl _ | with_reducible assumption | with_reducible refine Gr.alloc ?_ _ | with_reducible refine Gr.drewN ?_ _ | with_reducible refine Gr.drew ?_ | with_reducible refine Gr.setCell ?_ (by first | (dsimp only; omega) | (simp only [World.size_alloc]; omega) | (with_reducible refine Gr.size ?_; (repeat (first | with_reducible exact Gr.refl _ | with_reducible assumption | with_reducible refine Gr.alloc ?_ _ | with_reducible refine Gr.drewN ?_ _ | with_reducible refine Gr.drew ?_ | with_reducible refine Gr.trans ?_ (by with_reducible assumption))); done)) _ | with_reducible refine Gr.trans ?_ (by with_reducible assumption))); done))) (first | (go_at_call 33; refine (rcs_at (by with_reducible assumption) _ (by repeat (first | with_reducible exact Gr.refl _ | with_reducible assumption | with_reducible refine Gr.alloc ?_ _ | with_reducible refine Gr.drewN ?_ _ | with_reducible refine Gr.drew ?_ | with_reducible refine Gr.setCell ?_ (by first | (dsimp only; omega) | (simp only [World.size_alloc]; omega) | (with_reducible refine Gr.size ?_; (repeat (first | with_reducible exact Gr.refl _ | with_reducible assumption | with_reducible refine Gr.alloc ?_ _ | with_reducible refine Gr.drewN ?_ _ | with_reducible refine Gr.drew ?_ | with_reducible refine Gr.trans ?_ (by with_reducible assumption))); done)) _ | with_reducible refine Gr.trans ?_ (by with_reducible assumption)))).mono ?_; rintro e w6 ⟨D5, q5, rfl, hs5, hf5, g5⟩; obtain ⟨X5, Y5, c5, f5⟩ := g5.use; obtain ⟨w5, rfl⟩ : ∃ w5, w5 = w6 := ⟨_, rfl⟩; (have z5 := g5.size); (try simp only [World.size_alloc, World.size_setCell, World.size_drew, World.heap_drewN, Nat.add_one_le_iff] at z5); (try have l9 : w.heap.size < w5.heap.size := by omega); (try have l8 : w.heap.size + 1 < w5.heap.size := by omega); (try have l0 : w0.heap.size < w5.heap.size := by omega)))
    all_goals
      go_wp2_with fail
      go_meet
      refine ⟨_, _, _, _, _, _, _, rfl, ?_, ?_, slk_of (lo' := w0.heap.size) (by with_reducible assumption) (by with_reducible assumption) ?_ ?_ ?_ ?_, slk_of (lo' := w0.heap.size) (by with_reducible assumption) (by with_reducible assumption) ?_ ?_ ?_ ?_, slk_of (lo' := w0.heap.size) (by with_reducible assumption) (by with_reducible assumption) ?_ ?_ ?_ ?_, ⟨?_, ?_, ?_, ?_, ?_, ?_⟩⟩
      · (first | omega | (simp only [World.size_alloc, World.size_setCell, World.size_drew, World.heap_drewN]; omega))
      · exact (by repeat (first | with_reducible exact Gr.refl _ | with_reducible assumption | with_reducible refine Gr.alloc ?_ _ | with_reducible refine Gr.drewN ?_ _ | with_reducible refine Gr.drew ?_ | with_reducible refine Gr.setCell ?_ (by first | (dsimp only; omega) | (simp only [World.size_alloc]; omega) | (with_reducible refine Gr.size ?_; (repeat (first | with_reducible exact Gr.refl _ | with_reducible assumption | with_reducible refine Gr.alloc ?_ _ | with_reducible refine Gr.drewN ?_ _ | with_reducible refine Gr.drew ?_ | with_reducible refine Gr.trans ?_ (by with_reducible assumption))); done)) _ | with_reducible refine Gr.trans ?_ (by with_reducible assumption)))
      · (repeat (first | with_reducible exact Kp.refl _ | with_reducible refine Kp.alloc ?_ (by (first | omega | (simp only [World.size_alloc, World.size_setCell, World.size_drew, World.heap_drewN]; omega))) _ | with_reducible refine Kp.drew ?_ | with_reducible refine Kp.setCell ?_ (by (first | omega | (simp only [World.size_alloc, World.size_setCell, World.size_drew, World.heap_drewN]; omega))) _ | with_reducible refine Kp.gr ?_ (by with_reducible assumption) (by (first | omega | (simp only [World.size_alloc, World.size_setCell, World.size_drew, World.heap_drewN]; omega)))))
      · (first | omega | (simp only [World.size_alloc, World.size_setCell, World.size_drew, World.heap_drewN]; omega))
      · (first | omega | (simp only [World.size_alloc, World.size_setCell, World.size_drew, World.heap_drewN]; omega))
      · (first | omega | (simp only [World.size_alloc, World.size_setCell, World.size_drew, World.heap_drewN]; omega))
      · (repeat (first | with_reducible exact Kp.refl _ | with_reducible refine Kp.alloc ?_ (by (first | omega | (simp only [World.size_alloc, World.size_setCell, World.size_drew, World.heap_drewN]; omega))) _ | with_reducible refine Kp.drew ?_ | with_reducible refine Kp.setCell ?_ (by (first | omega | (simp only [World.size_alloc, World.size_setCell, World.size_drew, World.heap_drewN]; omega))) _ | with_reducible refine Kp.gr ?_ (by with_reducible assumption) (by (first | omega | (simp only [World.size_alloc, World.size_setCell, World.size_drew, World.heap_drewN]; omega)))))
      · (first | omega | (simp only [World.size_alloc, World.size_setCell, World.size_drew, World.heap_drewN]; omega))
      · (first | omega | (simp only [World.size_alloc, World.size_setCell, World.size_drew, World.heap_drewN]; omega))
      · (first | omega | (simp only [World.size_alloc, World.size_setCell, World.size_drew, World.heap_drewN]; omega))
      · (repeat (first | with_reducible exact Kp.refl _ | with_reducible refine Kp.alloc ?_ (by (first | omega | (simp only [World.size_alloc, World.size_setCell, World.size_drew, World.heap_drewN]; omega))) _ | with_reducible refine Kp.drew ?_ | with_reducible refine Kp.setCell ?_ (by (first | omega | (simp only [World.size_alloc, World.size_setCell, World.size_drew, World.heap_drewN]; omega))) _ | with_reducible refine Kp.gr ?_ (by with_reducible assumption) (by (first | omega | (simp only [World.size_alloc, World.size_setCell, World.size_drew, World.heap_drewN]; omega)))))
      · (first | omega | (simp only [World.size_alloc, World.size_setCell, World.size_drew, World.heap_drewN]; omega))
      · (first | omega | (simp only [World.size_alloc, World.size_setCell, World.size_drew, World.heap_drewN]; omega))
      · (first | omega | (simp only [World.size_alloc, World.size_setCell, World.size_drew, World.heap_drewN]; omega))
      · (first | omega | (simp only [World.size_alloc, World.size_setCell, World.size_drew, World.heap_drewN]; omega))
      · first | (go_simp; done) | (simp [go_sem, *]; done)
      · first | (go_simp; done) | (simp [go_sem, *]; done)
      · first | (go_simp; done) | (simp [go_sem, *]; done)
      · first | (go_simp; done) | (simp [go_sem, *]; done)
      · first | (go_simp; done) | (simp [go_sem, *]; done)
  case rest =>
    obtain ⟨B, D1, D2, D3, q1, q2, q3, rfl, hB, gc, HS1, HS2, HS3, HR⟩ := hcut
    have HG := hide gc
    have hBl := HR.lt
    have f0 := (gc.cell _ _ (by omega)).trans k00
    have f1 := (gc.cell _ _ (by omega)).trans k01
    have f2 := (gc.cell _ _ (by omega)).trans k02
    have f3 : wc.cell? ⟨w.heap.size + 1, 3, none⟩ = some (.slice A4 F.b.length c4) := (gc.cell _ _ (by omega)).trans k13
    have HKR := hide (And.intro k00 (And.intro k01 k02))
    have hsz := gc.size
    clear r1 r2 r3 k10 k11 k12 k13 k00 k01 k02 f0 f1 f2
    go_wp2_with fail
    go_loopw [24] (fun i wr => ∃ (k : Nat) (O : List Bd) (D4 : Option Addr) (q4 : Nat), k ≤ F.b.length ∧ i = iv k ∧ Gr w0 wr ∧ Hid (OwnL wr wc.heap.size 49 8 bdL (.slice D4 O.length q4) O) ∧ Hid (O = (F.b.take k).map (bdM x y t)) ∧ O.length ≤ k ∧ Hid (Kq w0.heap.size wc.heap.size B wc wr) ∧ Hid (Res wr B (.slice D1 G1.length q1) (.slice D2 G2.length q2) (.slice D3 G3.length q3) (.slice D4 O.length q4))) (fun i _ => F.b.length - (intOf i).toNat)
    case atStart => exact ⟨0, [], none, 0, by omega, rfl, HG.out, own_nil _ _ _ _ _, rfl, by simp, Kq.refl (Nat.le_refl _), HR⟩
    case round =>
      obtain ⟨k, O, D4, q4, hk, rfl, g, HO, HE, hO, HQ, HRr⟩ := hrel
      have gz := g.size
      have hbz := HRr.out.lt
      have hn0 := HQ.out.n0
      have l0 : w.heap.size < wr.heap.size := by omega
      by_cases hkl : k < F.b.length
      · obtain ⟨b, hb⟩ : ∃ b, F.b[k]? = some b := ⟨_, List.getElem?_eq_getElem hkl⟩
        obtain ⟨b2, o2, hA, y0, y1, y2, y3, y4, y5, y6, y7⟩ := (HB.out.gr (gw0.trans g)).at_ hb
        have lb : b2 < wr.heap.size := cell_lt (by rw [y0]; rfl)
        have m0 : wr.cell? ⟨w.heap.size, 0, none⟩ = some (iv x) := (g.cell _ _ (by omega)).trans HKR.out.1
        have m1 : wr.cell? ⟨w.heap.size, 1, none⟩ = some (iv y) := (g.cell _ _ (by omega)).trans HKR.out.2.1
        have m2 : wr.cell? ⟨w.heap.size, 2, none⟩ = some (iv (t : Int)) := (g.cell _ _ (by omega)).trans HKR.out.2.2
        have hk0 : (0 : Int) ≤ (k : Int) := by omega
        have hk1 : (k : Int) < (F.b.length : Int) := by omega
        have HN := hide (HM.out k b hb)
        have HC := hide (fun w' => HL.out b (List.mem_of_getElem? hb) w')
        subst hA
        clear hb
        obtain ⟨b', hb'⟩ : ∃ b', bdM x y t b = b' := ⟨_, rfl⟩
        rw [hb'] at HN
        obtain ⟨O2, hO2⟩ : ∃ O2, O ++ [b'] = O2 := ⟨_, rfl⟩
        have HO2 := hide hO2
        have HE2 := hide (show O2 = (F.b.take (k + 1)).map (bdM x y t) by rw [HN.out, ← HE.out]; exact hO2.symm)
        have hO2e : O2.length ≤ k + 1 := by rw [← hO2]; simp; omega
        have hb2 : b' = ⟨b.f, b.p, pX x t b.a b.b, pY y t b.a b.b, pX x t b.c b.d, pY y t b.c b.d, b.n, b.e⟩ := hb'.symm
        clear hO2 HE HN hb'
        generalize pX x t b.a b.b = p1 at *
        generalize pY y t b.a b.b = p2 at *
        generalize pX x t b.c b.d = p3 at *
        generalize pY y t b.c b.d = p4 at *
        subst hb2
        go_wp2_with fail
        refine (HC.out _).mono ?_
        rintro e w5 ⟨rfl, g5⟩
        have hM5 := (Made.new wr #[iv b.f, iv b.p, iv b.a, iv b.b, iv b.c, iv b.d, iv b.n, iv b.e] 49).gr g5
        have e0 : w5.cell? ⟨wr.heap.size, 0, none⟩ = some (iv b.f) := hM5.2.1 0
        have e1 : w5.cell? ⟨wr.heap.size, 1, none⟩ = some (iv b.p) := hM5.2.1 1
        have e2 : w5.cell? ⟨wr.heap.size, 2, none⟩ = some (iv b.a) := hM5.2.1 2
        have e3 : w5.cell? ⟨wr.heap.size, 3, none⟩ = some (iv b.b) := hM5.2.1 3
        have e4 : w5.cell? ⟨wr.heap.size, 4, none⟩ = some (iv b.c) := hM5.2.1 4
        have e5 : w5.cell? ⟨wr.heap.size, 5, none⟩ = some (iv b.d) := hM5.2.1 5
        have e6 : w5.cell? ⟨wr.heap.size, 6, none⟩ = some (iv b.n) := hM5.2.1 6
        have e7 : w5.cell? ⟨wr.heap.size, 7, none⟩ = some (iv b.e) := hM5.2.1 7
        have f2 : w5.frozen? ⟨wr.heap.size, 2, none⟩ = false := hM5.2.2 2
        have f3' : w5.frozen? ⟨wr.heap.size, 3, none⟩ = false := hM5.2.2 3
        have f4 : w5.frozen? ⟨wr.heap.size, 4, none⟩ = false := hM5.2.2 4
        have f5 : w5.frozen? ⟨wr.heap.size, 5, none⟩ = false := hM5.2.2 5
        have ls : wr.heap.size < w5.heap.size := hM5.1
        have lB5 : B < w5.heap.size := by omega
        have g15 : Gr wr w5 := (Gr.alloc (Gr.refl wr) _).trans g5
        have gS : Gr wr ((((w5.setCell ⟨wr.heap.size, 2, none⟩ (iv p1)).setCell ⟨wr.heap.size, 3, none⟩ (iv p2)).setCell ⟨wr.heap.size, 4, none⟩ (iv p3)).setCell ⟨wr.heap.size, 5, none⟩ (iv p4)) := Gr.setCell (Gr.setCell (Gr.setCell (Gr.setCell g15 (Nat.le_refl _) _) (Nat.le_refl _) _) (Nat.le_refl _) _) (Nat.le_refl _) _
        have hM6 : Made ((((w5.setCell ⟨wr.heap.size, 2, none⟩ (iv p1)).setCell ⟨wr.heap.size, 3, none⟩ (iv p2)).setCell ⟨wr.heap.size, 4, none⟩ (iv p3)).setCell ⟨wr.heap.size, 5, none⟩ (iv p4)) wr.heap.size #[iv b.f, iv b.p, iv p1, iv p2, iv p3, iv p4, iv b.n, iv b.e] := hM5.setA (vs := [iv p1, iv p2, iv p3, iv p4]) (o := 2) (show 2 + 4 ≤ 8 by omega)
        have HC6 := hide hM6
        have HG6 := hide gS
        clear hM5 hM6 g5 g15 gS HC m0 m1 m2 y0 y1 y2 y3 y4 y5 y6 y7
        go_upto_region 6 with fail
        obtain ⟨W5, hW5⟩ : ∃ W5, ((((w5.setCell ⟨wr.heap.size, 2, none⟩ (iv p1)).setCell ⟨wr.heap.size, 3, none⟩ (iv p2)).setCell ⟨wr.heap.size, 4, none⟩ (iv p3)).setCell ⟨wr.heap.size, 5, none⟩ (iv p4)) = W5 := ⟨_, rfl⟩
        rw [hW5] at HC6 HG6 ⊢
        clear hW5 e0 e1 e2 e3 e4 e5 e6 e7 f2 f3' f4 f5 ls lB5
        have hM6 := HC6.out
        have e0 : W5.cell? ⟨wr.heap.size, 0, none⟩ = some (iv b.f) := hM6.2.1 0
        have e1 : W5.cell? ⟨wr.heap.size, 1, none⟩ = some (iv b.p) := hM6.2.1 1
        have e2 : W5.cell? ⟨wr.heap.size, 2, none⟩ = some (iv p1) := hM6.2.1 2
        have e3 : W5.cell? ⟨wr.heap.size, 3, none⟩ = some (iv p2) := hM6.2.1 3
        have e4 : W5.cell? ⟨wr.heap.size, 4, none⟩ = some (iv p3) := hM6.2.1 4
        have e5 : W5.cell? ⟨wr.heap.size, 5, none⟩ = some (iv p4) := hM6.2.1 5
        have e6 : W5.cell? ⟨wr.heap.size, 6, none⟩ = some (iv b.n) := hM6.2.1 6
        have e7 : W5.cell? ⟨wr.heap.size, 7, none⟩ = some (iv b.e) := hM6.2.1 7
        have d3 : W5.cell? ⟨B, 3, none⟩ = some (.slice D4 O.length q4) := (HRr.out.gr HG6.out).c3
        have ls : wr.heap.size < W5.heap.size := hM6.1
        have lB5 : B < W5.heap.size := by omega
        have HRA := hide (HRr.out.gr (Gr.alloc HG6.out (.cells #[iv b.f, iv b.p, iv p1, iv p2, iv p3, iv p4, iv b.n, iv b.e] 49)))
        have HOA := hide (HO.out.gr (Gr.alloc HG6.out (.cells #[iv b.f, iv b.p, iv p1, iv p2, iv p3, iv p4, iv b.n, iv b.e] 49)))
        have HQA := hide (HQ.out.gr (Gr.alloc HG6.out (.cells #[iv b.f, iv b.p, iv p1, iv p2, iv p3, iv p4, iv b.n, iv b.e] 49)))
        have HGA := hide (g.trans (Gr.alloc HG6.out (.cells #[iv b.f, iv b.p, iv p1, iv p2, iv p3, iv p4, iv b.n, iv b.e] 49)))
        have HLT := hide (fun k hk => (World.ownsRow.lt HO.out k hk).1)
        clear hM6 HC6 HG6 HRr HO HQ
        go_wp2_with (refine wpList_appZ rfl _ _ _ rfl bdL wc.heap.size 49 8 64 elBend (by decide) O [⟨b.f, b.p, p1, p2, p3, p4, b.n, b.e⟩] O2 HO2.out _ rfl HOA.out ⟨W5.heap.size, 0, none⟩ 1 1 rfl rfl (by decide) (fun _ => rfl) (newsN _ #[iv b.f, iv b.p, iv p1, iv p2, iv p3, iv p4, iv b.n, iv b.e] 49 _ (by simp)) (one_bd [⟨b.f, b.p, p1, p2, p3, p4, b.n, b.e⟩]) (by omega) (by decide) (by simp only [World.size_alloc]; omega) ?_; intro gg cap1 w8 hO8 hG8 hgw8 hat8 hlt8; (have HR8 := hide (HRA.out.grown hgw8 (fun k hk => Nat.lt_of_lt_of_le hBl (HLT.out k hk)))); (have d8 : w8.cell? ⟨B, 3, none⟩ = some (.slice D4 O.length q4) := HR8.out.c3); (have d9 : w8.frozen? ⟨B, 3, none⟩ = false := HR8.out.f3); (have hB8 : B < w8.heap.size := HR8.out.lt))
        have g8 := hG8 _ HGA.out hsz
        have HO8 := hide (own_farQ hO8 (a := ⟨B, 3, none⟩) (show B < wc.heap.size from hBl) (.slice (some ⟨gg, 0, none⟩) O2.length cap1))
        have HQ8 := hide ((HQA.out.grown hgw8 (fun k hk => HLT.out k hk)).set (i := 3) (Or.inr (Or.inl rfl)) (.slice (some ⟨gg, 0, none⟩) O2.length cap1))
        have HR9 := hide (HR8.out.set (.slice (some ⟨gg, 0, none⟩) O2.length cap1))
        clear hO8 hG8 hgw8 hat8
        go_roundw
        case rel => exact ⟨k + 1, O2, some ⟨gg, 0, none⟩, cap1, by omega, by go_num, Gr.setCell g8 hB _, HO8, HE2, by omega, HQ8, HR9⟩
        case measure => simp only [intOf]; omega
      · obtain rfl : k = F.b.length := by omega
        rw [List.take_length] at HE
        have hk1 : ¬ ((F.b.length : Int) < (F.b.length : Int)) := by omega
        have hE := HE.out
        have HPP := hide (show patM x y t F = ⟨G1, G2, G3, O⟩ by rw [HP.out, hE])
        clear HE HM hE HP
        obtain ⟨_, d0, d1, d2, d3, _⟩ := HRr.out
        have p0 : wr.frozen? ⟨w.heap.size + 1 + 1, 0, none⟩ = false := (g.frozen _ _ (by omega)).trans (HK2.out.1 0)
        have p1 : wr.frozen? ⟨w.heap.size + 1 + 1, 1, none⟩ = false := (g.frozen _ _ (by omega)).trans (HK2.out.1 1)
        have p2 : wr.frozen? ⟨w.heap.size + 1 + 1, 2, none⟩ = false := (g.frozen _ _ (by omega)).trans (HK2.out.1 2)
        have p3 : wr.frozen? ⟨w.heap.size + 1 + 1, 3, none⟩ = false := (g.frozen _ _ (by omega)).trans (HK2.out.1 3)
        have z0 : wr.cell? ⟨w.heap.size + 1 + 1, 0, none⟩ = some (.slice none 0 0) := (g.cell _ _ (by omega)).trans HK2.out.2.1
        have z1 : wr.cell? ⟨w.heap.size + 1 + 1, 1, none⟩ = some (.slice none 0 0) := (g.cell _ _ (by omega)).trans HK2.out.2.2.1
        have z2 : wr.cell? ⟨w.heap.size + 1 + 1, 2, none⟩ = some (.slice none 0 0) := (g.cell _ _ (by omega)).trans HK2.out.2.2.2.1
        have z3 : wr.cell? ⟨w.heap.size + 1 + 1, 3, none⟩ = some (.slice none 0 0) := (g.cell _ _ (by omega)).trans HK2.out.2.2.2.2
        go_wp2_with fail
        refine bodyPost_ret (v := ptv D1 G1.length q1 D2 G2.length q2 D3 G3.length q3 D4 O.length q4) (by simp [results, Try.results18, go_sem, *]) rfl ?_
        have hlow : w.heap.size + 1 + 1 < w0.heap.size := by omega
        have kq := (((HQ.out.set (C := w.heap.size + 1 + 1) (i := 0) (.inl hlow) (.slice D1 G1.length q1)).set (C := w.heap.size + 1 + 1) (i := 1) (.inl hlow) (.slice D2 G2.length q2)).set (C := w.heap.size + 1 + 1) (i := 2) (.inl hlow) (.slice D3 G3.length q3)).set (C := w.heap.size + 1 + 1) (i := 3) (.inl hlow) (.slice D4 O.length q4)
        have hlo2 : w.heap.size + 1 + 1 < wc.heap.size := by omega
        rw [HPP.out]
        refine ⟨wc.heap.size, D1, D2, D3, D4, q1, q2, q3, q4, rfl, ⟨(HS1.kq kq).sl, (HS2.kq kq).sl, (HS3.kq kq).sl⟩, ⟨fun hl a ha => ⟨Nat.le_trans (by omega) (HS1.far hl a ha).1, (HS1.far hl a ha).2.1⟩, fun hl a ha => ⟨Nat.le_trans (by omega) (HS2.far hl a ha).1, (HS2.far hl a ha).2.1⟩, fun hl a ha => ⟨Nat.le_trans (by omega) (HS3.far hl a ha).1, (HS3.far hl a ha).2.1⟩⟩, own_farQ (own_farQ (own_farQ (own_farQ HO.out (a := ⟨w.heap.size + 1 + 1, 0, none⟩) hlo2 _) (a := ⟨w.heap.size + 1 + 1, 1, none⟩) hlo2 _) (a := ⟨w.heap.size + 1 + 1, 2, none⟩) hlo2 _) (a := ⟨w.heap.size + 1 + 1, 3, none⟩) hlo2 _, by omega, kq.n0, ?_⟩
        have hle : w.heap.size ≤ w.heap.size + 1 + 1 := by omega
        exact Gr.setCell (Gr.setCell (Gr.setCell (Gr.setCell (gw0.trans g) (p := ⟨w.heap.size + 1 + 1, 0, none⟩) hle _) (p := ⟨w.heap.size + 1 + 1, 1, none⟩) hle _) (p := ⟨w.heap.size + 1 + 1, 2, none⟩) hle _) (p := ⟨w.heap.size + 1 + 1, 3, none⟩) hle _
end RG
end Go.Proofs.Ytjnfodbniohkhaa
