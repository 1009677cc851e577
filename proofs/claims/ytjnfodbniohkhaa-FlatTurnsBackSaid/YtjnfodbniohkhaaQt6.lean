/-
  Flat patterns turned: Quarter and Settle of the code.
-/
import Derived.Test.YtjnfodbniohkhaaQt4
import Derived.Test.YtjnfodbniohkhaaSf6
import Derived.Test.YtjnfodbniohkhaaQs
set_option linter.unusedVariables false
set_option linter.unusedSimpArgs false
namespace Go.Proofs.Ytjnfodbniohkhaa
set_option linter.unusedVariables false
set_option linter.unusedSimpArgs false
open Go Go.ChangeShapes Go.WideShapes Go.ChangeAt Go.RowKit Go.Deep

namespace RG
/-- the first k lines in order where they were given so -/
def mx : List Bd → List Bd → Nat → List Bd
  | o :: fs, g :: gs, k + 1 => fix o g :: mx fs gs k
  | _, gs, _ => gs
theorem mx_0 (fs gs : List Bd) : mx fs gs 0 = gs := by
  cases fs <;> cases gs <;> rfl
theorem mx_step : ∀ (fs gs : List Bd) (k : Nat) (o g : Bd), fs[k]? = some o → gs[k]? = some g → mx fs gs (k + 1) = (mx fs gs k).set k (fix o g) ∧ (mx fs gs k)[k]? = some g
  | f :: fs, h :: gs, 0, o, g, ho, hg => by
    obtain rfl : f = o := by simpa using ho
    obtain rfl : h = g := by simpa using hg
    rw [mx_0]
    show fix f h :: mx fs gs 0 = _ ∧ _
    rw [mx_0]
    exact ⟨rfl, rfl⟩
  | f :: fs, h :: gs, k + 1, o, g, ho, hg => by
    have := mx_step fs gs k o g (by simpa using ho) (by simpa using hg)
    show fix f h :: mx fs gs (k + 1) = (fix f h :: mx fs gs k).set (k + 1) (fix o g) ∧ (fix f h :: mx fs gs k)[k + 1]? = some g
    rw [this.1]
    exact ⟨rfl, by simpa using this.2⟩
  | [], _, k, o, g, ho, _ => by simp at ho
  | _ :: _, [], k, o, g, _, hg => by simp at hg
theorem mx_all : ∀ (fs gs : List Bd), fs.length = gs.length → mx fs gs fs.length = List.zipWith fix fs gs
  | [], [], _ => rfl
  | [], _ :: _, h => by simp at h
  | _ :: _, [], h => by simp at h
  | f :: fs, g :: gs, h => by
    show fix f g :: mx fs gs fs.length = _
    rw [mx_all fs gs (by simpa using h)]
    rfl
theorem bd_fm : ∀ (xs : List Bd) (k : Nat) (g : Bd) (a b c d : Int), xs[k]? = some g → (xs.set k ⟨g.f, g.p, a, b, c, d, g.n, g.e⟩).flatMap bdL = ((((xs.flatMap bdL).set (k * 8 + 2) (iv a)).set (k * 8 + 3) (iv b)).set (k * 8 + 4) (iv c)).set (k * 8 + 5) (iv d)
  | x :: xs, 0, g, a, b, c, d, h => by
    obtain rfl : x = g := by simpa using h
    rfl
  | x :: xs, k + 1, g, a, b, c, d, h => by
    have := bd_fm xs k g a b c d (by simpa using h)
    rw [show (k + 1) * 8 + 2 = k * 8 + 2 + 8 by omega, show (k + 1) * 8 + 3 = k * 8 + 3 + 8 by omega, show (k + 1) * 8 + 4 = k * 8 + 4 + 8 by omega, show (k + 1) * 8 + 5 = k * 8 + 5 + 8 by omega]
    show bdL x ++ (xs.set k _).flatMap bdL = _
    rw [this]
    rfl
theorem bd_at {w : World} {n m q k : Nat} {D : Option Addr} {gs : List Bd} {g : Bd} (h : OwnL w n 49 8 bdL (.slice D m q) gs) (hg : gs[k]? = some g) :
    ∃ B, D = some ⟨B, 0, none⟩ ∧ n ≤ B ∧ B < w.heap.size ∧ (w.cell? ⟨B, k * 8 + 2, none⟩ = some (iv g.a) ∧ w.cell? ⟨B, k * 8 + 3, none⟩ = some (iv g.b) ∧ w.cell? ⟨B, k * 8 + 4, none⟩ = some (iv g.c) ∧ w.cell? ⟨B, k * 8 + 5, none⟩ = some (iv g.d)) ∧ (∀ j, w.frozen? ⟨B, j, none⟩ = false) ∧
      ∀ a b c d, OwnL ((((w.setCell ⟨B, k * 8 + 2, none⟩ (iv a)).setCell ⟨B, k * 8 + 3, none⟩ (iv b)).setCell ⟨B, k * 8 + 4, none⟩ (iv c)).setCell ⟨B, k * 8 + 5, none⟩ (iv d)) n 49 8 bdL (.slice (some ⟨B, 0, none⟩) m q) (gs.set k ⟨g.f, g.p, a, b, c, d, g.n, g.e⟩) := by
  have hk : k < gs.length := (List.getElem?_eq_some_iff.1 hg).1
  obtain ⟨e, rd, h1, h2⟩ := OwnL.rd (c := bdL) (fun _ => rfl) h
  obtain ⟨b, off, hD, _⟩ := rd k g hg
  subst hD
  have hb := own_ge h _ rfl
  obtain ⟨h0, ⟨x, _⟩ | ⟨B, cap, cur, x, _⟩⟩ := id h
  · cases x
  · obtain ⟨rfl, rfl⟩ : b = B ∧ off = 0 := by
      injection x with x1
      injection x1 with x1
      injection x1 with x2 x3
      exact ⟨x2, x3⟩
    have hO : w.ownsRow n 49 8 (.slice (some ⟨b, 0, none⟩) m q) m (gs.flatMap bdL) := by
      have := h
      unfold OwnL at this
      rwa [← e] at this
    have ca := World.ownsRow.cellAt (w := w) hO
    have c2 := (ca (k * 8 + 2) (by omega)).trans (fm_at (c := bdL) (k := 8) (fun _ => rfl) gs k g 2 hg (by decide))
    have c3 := (ca (k * 8 + 3) (by omega)).trans (fm_at (c := bdL) (k := 8) (fun _ => rfl) gs k g 3 hg (by decide))
    have c4 := (ca (k * 8 + 4) (by omega)).trans (fm_at (c := bdL) (k := 8) (fun _ => rfl) gs k g 4 hg (by decide))
    have c5 := (ca (k * 8 + 5) (by omega)).trans (fm_at (c := bdL) (k := 8) (fun _ => rfl) gs k g 5 hg (by decide))
    refine ⟨b, rfl, hb, cell_lt (by rw [c2]; rfl), ⟨c2, c3, c4, c5⟩, World.ownsRow.frozenAt hO, fun p1 p2 p3 p4 => ?_⟩
    have := (World.ownsRow.stored (World.ownsRow.stored (World.ownsRow.stored (World.ownsRow.stored hO (k * 8 + 2) (iv p1)).1 (k * 8 + 3) (iv p2)).1 (k * 8 + 4) (iv p3)).1 (k * 8 + 5) (iv p4)).1
    rw [← bd_fm gs k g p1 p2 p3 p4 hg] at this
    unfold OwnL
    rw [List.length_set, ← e]
    exact this
def noP : Pat := ⟨[], [], [], []⟩
/-- what Quarter returns -/
def qtE (F : Pat) (t : Nat) : Int := if chE F = 0 then (if lmB (qtF F t) = true then 0 else 4) else 1
def qtP (F : Pat) (t : Nat) : Pat := if qtE F t = 0 then qtF F t else noP
def QrP (w w' : World) (G : Pat) (E : Int) (e : Ending) : Prop := ∃ (D1 D2 D3 D4 : Option Addr) (q1 q2 q3 q4 : Nat), e = .returned (sle (ptv D1 G.r.length q1 D2 G.c.length q2 D3 G.f.length q3 D4 G.b.length q4) E) ∧ PatW w' D1 q1 D2 q2 D3 q3 D4 q4 G ∧ ((G.r ≠ [] → ∀ a, D1 = some a → w.heap.size ≤ a.block) ∧ (G.c ≠ [] → ∀ a, D2 = some a → w.heap.size ≤ a.block) ∧ (G.f ≠ [] → ∀ a, D3 = some a → w.heap.size ≤ a.block) ∧ (G.b ≠ [] → ∀ a, D4 = some a → w.heap.size ≤ a.block)) ∧ Gr w w'
theorem noP_w (w : World) : PatW w none 0 none 0 none 0 none 0 noP := ⟨⟨fun i x hx => by simp [noP] at hx, by simp [noP], by omega⟩, ⟨fun i x hx => by simp [noP] at hx, by simp [noP], by omega⟩, ⟨fun i x hx => by simp [noP] at hx, by simp [noP], by omega⟩, ⟨fun i x hx => by simp [noP] at hx, by simp [noP], by omega⟩⟩
theorem slb_lt {w : World} {D : Option Addr} {q : Nat} {l : List Bd} (h : SlB w D q l) (hl : l ≠ []) : ∀ a, D = some a → a.block < w.heap.size := fun a ha => by
  obtain ⟨r, hr⟩ : ∃ r, l[0]? = some r := ⟨_, List.getElem?_eq_getElem (List.length_pos_iff.2 hl)⟩
  obtain ⟨b, o, e, h0, _⟩ := h.at_ hr
  rw [ha] at e
  cases e
  exact cell_lt (by rw [h0]; rfl)
theorem slb_keep {w w' : World} {D : Option Addr} {q : Nat} {l : List Bd} (h : SlB w D q l) (hk : l ≠ [] → ∀ x, D = some x → ∀ o, w'.cell? ⟨x.block, o, none⟩ = w.cell? ⟨x.block, o, none⟩) : SlB w' D q l := by
  by_cases hl : l = []
  · subst hl
    exact ⟨fun i x hx => by simp at hx, h.cap, h.capB⟩
  · exact ⟨rdl_keep h.rd (hk hl), h.cap, h.capB⟩
/-- a pattern whose blocks are not below lo, over changes below lo -/
theorem pat_keep {w w' : World} {lo : Nat} {D1 D2 D3 D4 : Option Addr} {q1 q2 q3 q4 : Nat} {G : Pat} (h : PatW w D1 q1 D2 q2 D3 q3 D4 q4 G)
    (f : (G.r ≠ [] → ∀ a, D1 = some a → lo ≤ a.block) ∧ (G.c ≠ [] → ∀ a, D2 = some a → lo ≤ a.block) ∧ (G.f ≠ [] → ∀ a, D3 = some a → lo ≤ a.block) ∧ (G.b ≠ [] → ∀ a, D4 = some a → lo ≤ a.block))
    (k : ∀ b o, lo ≤ b → w'.cell? ⟨b, o, none⟩ = w.cell? ⟨b, o, none⟩) : PatW w' D1 q1 D2 q2 D3 q3 D4 q4 G :=
  ⟨slr_keep h.r fun hl x hx o => k _ _ (f.1 hl x hx), slr_keep h.c fun hl x hx o => k _ _ (f.2.1 hl x hx), slr_keep h.f fun hl x hx o => k _ _ (f.2.2.1 hl x hx), slb_keep h.b fun hl x hx o => k _ _ (f.2.2.2 hl x hx)⟩
theorem cell_set {w : World} {C i : Nat} (v : Value) {b : Nat} (h : b ≠ C) (o : Nat) : (w.setCell ⟨C, i, none⟩ v).cell? ⟨b, o, none⟩ = w.cell? ⟨b, o, none⟩ :=
  World.cell?_of_block (heap_setCell_other w ⟨C, i, none⟩ b v (fun e => h (by simpa using e)))
theorem pat0_lim {F : Pat} (h : chE F = 0) (t : Nat) : (∀ r ∈ (patM 0 0 t F).r, InM 1048576 r) ∧ (∀ r ∈ (patM 0 0 t F).c, InM 1048576 r) ∧ (∀ r ∈ (patM 0 0 t F).f, InM 1048576 r) ∧ (∀ b ∈ F.b, (-10000000 ≤ b.a ∧ b.a ≤ 10000000) ∧ (-10000000 ≤ b.b ∧ b.b ≤ 10000000) ∧ (-10000000 ≤ b.c ∧ b.c ≤ 10000000) ∧ (-10000000 ≤ b.d ∧ b.d ≤ 10000000)) ∧ (∀ b ∈ (patM 0 0 t F).b, (-10000000 ≤ b.a ∧ b.a ≤ 10000000) ∧ (-10000000 ≤ b.b ∧ b.b ≤ 10000000) ∧ (-10000000 ≤ b.c ∧ b.c ≤ 10000000) ∧ (-10000000 ≤ b.d ∧ b.d ≤ 10000000)) := by
  obtain ⟨_, _, _, l5⟩ := ch_yes h
  obtain ⟨i1, i2, i3, i4⟩ := lm_in l5
  have key : ∀ l : List Rc, (∀ r ∈ l, InM 1048576 r) → ∀ r ∈ l.map (rcM 0 0 t), InM 1048576 r := fun l hl r hr => by
    obtain ⟨q, hq, rfl⟩ := List.mem_map.1 hr
    have := hl q hq
    rw [rcM_RN ⟨Int.le_of_lt this.w, Int.le_of_lt this.h⟩]
    exact inM_RN this t
  have kb : ∀ b ∈ F.b, (-1048576 ≤ b.a ∧ b.a ≤ 1048576) ∧ (-1048576 ≤ b.b ∧ b.b ≤ 1048576) ∧ (-1048576 ≤ b.c ∧ b.c ≤ 1048576) ∧ (-1048576 ≤ b.d ∧ b.d ≤ 1048576) := fun b hb => by
    have := i4 b hb
    simp only [bdB, nsL, List.all_cons, List.all_nil, Bool.and_eq_true, Bool.and_true, wiB, decide_eq_true_eq] at this
    omega
  refine ⟨key _ i1, key _ i2, key _ i3, fun b hb => by have := kb b hb; omega, fun b hb => ?_⟩
  obtain ⟨q, hq, rfl⟩ := List.mem_map.1 hb
  have hk := kb q hq
  have e1 := rtP_bd (m := 1048576) t hk.1 hk.2.1
  have e2 := rtP_bd (m := 1048576) t hk.2.2.1 hk.2.2.2
  simp only [bdM, pX, pY]
  omega
theorem Res.oth {w : World} {B C i : Nat} {a b c d : Value} (h : Res w B a b c d) (hne : C ≠ B) (v : Value) : Res (w.setCell ⟨C, i, none⟩ v) B a b c d := by
  have oth : ∀ o, (w.setCell ⟨C, i, none⟩ v).cell? ⟨B, o, none⟩ = w.cell? ⟨B, o, none⟩ := fun o => World.cell?_of_block (heap_setCell_other w ⟨C, i, none⟩ B v (fun e => hne (by simpa using e.symm)))
  exact ⟨by simpa using h.lt, (oth 0).trans h.c0, (oth 1).trans h.c1, (oth 2).trans h.c2, (oth 3).trans h.c3, by simp [go_sem, h.f3, Ne.symm hne]⟩
theorem set_same {l : List Bd} {k : Nat} {g : Bd} (h : l[k]? = some g) : l.set k g = l := by
  apply List.ext_getElem?
  intro j
  rw [List.getElem?_set]
  by_cases e : k = j
  · subst e
    have := (List.getElem?_eq_some_iff.1 h).1
    rw [if_pos rfl, if_pos this, h]
  · rw [if_neg e]
theorem own_slb {w : World} {n m q : Nat} {D : Option Addr} {gs : List Bd} (h : OwnL w n 49 8 bdL (.slice D m q) gs) : SlB w D q gs := by
  obtain ⟨_, h1, h2, h3⟩ := OwnL.rd (c := bdL) (fun _ => rfl) h
  exact ⟨h1, h2, by unfold maxLen at h3; omega⟩
set_option maxHeartbeats 8000000 in
set_option maxRecDepth 100000 in
theorem Quarter_any (A1 A2 A3 A4 : Option Addr) (c1 c2 c3 c4 : Nat) (F : Pat) (t : Nat) (w : World) (hF : PatW w A1 c1 A2 c2 A3 c3 A4 c4 F) (ht : t ≤ 3) (n4 : F.b.length ≤ 400) :
    Calls Try.prog 8 #[ptv A1 F.r.length c1 A2 F.c.length c2 A3 F.f.length c3 A4 F.b.length c4, iv (t : Int)] w fun e w' => QrP w w' (qtP F t) (qtE F t) e := by
  have HC := hide (fun (w' : World) (g : Gr w w') => check_any A1 A2 A3 A4 c1 c2 c3 c4 F w' (hF.gr g))
  obtain ⟨w0, hw0⟩ : ∃ w0, (w.alloc (.cells #[.slice A1 F.r.length c1, .slice A2 F.c.length c2, .slice A3 F.f.length c3, .slice A4 F.b.length c4] 25)).alloc (.cells #[.slice none 0 0, .slice none 0 0, .slice none 0 0, .slice none 0 0] 25) = w0 := ⟨_, rfl⟩
  have gw0 : Gr w w0 := by rw [← hw0]; exact Gr.alloc (Gr.alloc (Gr.refl _) _) _
  have s0 : w0.heap.size = w.heap.size + 2 := by rw [← hw0]; simp
  have k1 : w0.cell? ⟨w.heap.size, 0, none⟩ = some (.slice A1 F.r.length c1) ∧ w0.cell? ⟨w.heap.size, 1, none⟩ = some (.slice A2 F.c.length c2) ∧ w0.cell? ⟨w.heap.size, 2, none⟩ = some (.slice A3 F.f.length c3) ∧ w0.cell? ⟨w.heap.size, 3, none⟩ = some (.slice A4 F.b.length c4) := by rw [← hw0]; simp [go_sem]
  have k2 : (∀ j, w0.frozen? ⟨w.heap.size + 1, j, none⟩ = false) ∧ w0.cell? ⟨w.heap.size + 1, 0, none⟩ = some (.slice none 0 0) ∧ w0.cell? ⟨w.heap.size + 1, 1, none⟩ = some (.slice none 0 0) ∧ w0.cell? ⟨w.heap.size + 1, 2, none⟩ = some (.slice none 0 0) ∧ w0.cell? ⟨w.heap.size + 1, 3, none⟩ = some (.slice none 0 0) := by rw [← hw0]; simp [go_sem]
  have HK1 := hide k1
  have HK2 := hide k2
  obtain ⟨k10, k11, k12, k13⟩ := k1
  clear k2
  -- the result's variable in a later world
  have RV := hide (fun (w' : World) (g : Gr w0 w') => (show ((w'.frozen? ⟨w.heap.size + 1, 0, none⟩ = false ∧ w'.frozen? ⟨w.heap.size + 1, 1, none⟩ = false ∧ w'.frozen? ⟨w.heap.size + 1, 2, none⟩ = false ∧ w'.frozen? ⟨w.heap.size + 1, 3, none⟩ = false) ∧ w'.cell? ⟨w.heap.size + 1, 0, none⟩ = some (.slice none 0 0) ∧ w'.cell? ⟨w.heap.size + 1, 1, none⟩ = some (.slice none 0 0) ∧ w'.cell? ⟨w.heap.size + 1, 2, none⟩ = some (.slice none 0 0) ∧ w'.cell? ⟨w.heap.size + 1, 3, none⟩ = some (.slice none 0 0)) ∧ w.heap.size + 1 < w'.heap.size from
    have hs := g.size
    have hf := fun j => (g.frozen (w.heap.size + 1) j (by omega)).trans (HK2.out.1 j)
    have hc := fun j v (h : w0.cell? ⟨w.heap.size + 1, j, none⟩ = some v) => (g.cell (w.heap.size + 1) j (by omega)).trans h
    ⟨⟨⟨hf 0, hf 1, hf 2, hf 3⟩, hc 0 _ HK2.out.2.1, hc 1 _ HK2.out.2.2.1, hc 2 _ HK2.out.2.2.2.1, hc 3 _ HK2.out.2.2.2.2⟩, by omega⟩))
  have hle : w.heap.size ≤ w.heap.size + 1 := by omega
  rcases ch_01 F with h0 | h0
  case inr =>
    have HE := hide (show qtE F t = 1 ∧ qtP F t = noP from by
      have : qtE F t = 1 := if_neg (by rw [h0]; decide)
      exact ⟨this, if_neg (by rw [this]; decide)⟩)
    rw [h0] at HC
    clear h0 hF
    go_enter Try.func8, Try.ntmps8
    go_upto_region 1 with fail
    clear hw0
    go_wp2_with fail
    refine (HC.out _ gw0).mono ?_
    rintro e w1 ⟨rfl, g1⟩
    obtain ⟨⟨⟨p0, p1, p2, p3⟩, d0, d1, d2, d3⟩, hlt⟩ := RV.out w1 g1
    clear HC k10 k11 k12 k13
    go_wp2_with fail
    refine bodyPost_ret (v := sle (ptv none 0 0 none 0 0 none 0 0 none 0 0) 1) (by simp [results, Try.results8, go_sem, *]) rfl ?_
    rw [HE.out.1, HE.out.2]
    exact ⟨none, none, none, none, 0, 0, 0, 0, rfl, noP_w _, ⟨fun h => absurd rfl h, fun h => absurd rfl h, fun h => absurd rfl h, fun h => absurd rfl h⟩, Gr.setCell (Gr.setCell (Gr.setCell (Gr.setCell (gw0.trans g1) (p := ⟨w.heap.size + 1, 0, none⟩) hle _) (p := ⟨w.heap.size + 1, 1, none⟩) hle _) (p := ⟨w.heap.size + 1, 2, none⟩) hle _) (p := ⟨w.heap.size + 1, 3, none⟩) hle _⟩
  case inl =>
    obtain ⟨v1, v2, v3, v4, v5⟩ := pat0_lim h0 t
    obtain ⟨⟨l1, l2⟩, l3, l4, l5⟩ := ch_yes h0
    obtain ⟨i1, i2, i3, i4⟩ := lm_in l5
    rw [h0] at HC
    obtain ⟨P, hP⟩ : ∃ P, patM 0 0 t F = P := ⟨_, rfl⟩
    obtain ⟨G, hG⟩ : ∃ G, stF P = G := ⟨_, rfl⟩
    have p1 : P.r.length = F.r.length := by rw [← hP]; simp [patM]
    have p2 : P.c.length = F.c.length := by rw [← hP]; simp [patM]
    have p3 : P.f.length = F.f.length := by rw [← hP]; simp [patM]
    have p4 : P.b.length = F.b.length := by rw [← hP]; simp [patM]
    have hlen : F.b.length = G.b.length := by rw [← hG, ← hP]; simp [stF, patM]
    have hQ : qtF F t = ⟨G.r, G.c, G.f, List.zipWith fix F.b G.b⟩ := by rw [← hG, ← hP]; rfl
    have hZ : (List.zipWith fix F.b G.b).length = G.b.length := by rw [List.length_zipWith, hlen, Nat.min_self]
    have HPA := hide (fun (w' : World) (g : Gr w w') => pattern_any 0 0 t A1 A2 A3 A4 c1 c2 c3 c4 F w' (hF.gr g) (by omega) (by omega) i1 i2 i3 v4 (by omega) (by omega) (by omega) (by omega) n4)
    rw [hP] at v1 v2 v3 v5 HPA
    have HST := hide (fun (D1 D2 D3 D4 : Option Addr) (q1 q2 q3 q4 : Nat) (w' : World) (h : PatW w' D1 q1 D2 q2 D3 q3 D4 q4 P) => settled_any D1 D2 D3 D4 q1 q2 q3 q4 P w' h v1 v2 v3 v5 (by omega) (by omega) (by omega) (by omega) (by omega))
    rw [hG] at HST
    have HIL := hide (fun (D1 D2 D3 D4 : Option Addr) (q1 q2 q3 q4 : Nat) (w' : World) (h1 : SlR w' D1 q1 G.r) (h2 : SlR w' D2 q2 G.c) (h3 : SlR w' D3 q3 G.f) (h4 : SlB w' D4 q4 (List.zipWith fix F.b G.b)) => by
      have := inLimits_any D1 D2 D3 D4 q1 q2 q3 q4 ⟨G.r, G.c, G.f, List.zipWith fix F.b G.b⟩ w' ⟨h1, h2, h3, h4⟩
      rw [hZ] at this
      exact this)
    have HZ := hide hZ
    have HE := hide (show qtE F t = (if lmB ⟨G.r, G.c, G.f, List.zipWith fix F.b G.b⟩ = true then 0 else 4) by rw [← hQ]; exact if_pos h0)
    have HPQ := hide (show qtP F t = if qtE F t = 0 then ⟨G.r, G.c, G.f, List.zipWith fix F.b G.b⟩ else noP by rw [← hQ]; rfl)
    have HMX := hide (fun k o g => mx_step F.b G.b k o g)
    have HMA := hide (mx_all F.b G.b hlen)
    have HM0 := hide (mx_0 F.b G.b)
    have HB := hide hF.b
    have n1 := hF.b.cap
    have n2 := hF.b.capB
    have HWI := hide (fun (w' : World) => by
      have := fwithin_any (t : Int) 0 3 w'
      rw [show wiB (t : Int) 0 3 = true by simp [wiB]; omega] at this
      exact this)
    have HLEN := hide hlen
    clear hlen h0 v1 v2 v3 v4 v5 l1 l2 l3 l4 l5 i1 i2 i3 i4 hP hG p1 p2 p3 p4 hQ hZ hF n4
    go_enter Try.func8, Try.ntmps8
    go_upto_region 1 with fail
    clear hw0
    go_wp2_with fail
    refine (HC.out _ gw0).mono ?_
    rintro e w1 ⟨rfl, g1⟩
    have z1 := g1.size
    have e0 : w1.cell? ⟨w.heap.size, 0, none⟩ = some (.slice A1 F.r.length c1) := (g1.cell _ _ (by omega)).trans k10
    have e1 : w1.cell? ⟨w.heap.size, 1, none⟩ = some (.slice A2 F.c.length c2) := (g1.cell _ _ (by omega)).trans k11
    have e2 : w1.cell? ⟨w.heap.size, 2, none⟩ = some (.slice A3 F.f.length c3) := (g1.cell _ _ (by omega)).trans k12
    have e3 : w1.cell? ⟨w.heap.size, 3, none⟩ = some (.slice A4 F.b.length c4) := (g1.cell _ _ (by omega)).trans k13
    have lw1 : w.heap.size < w1.heap.size := by omega
    clear HC k10 k11 k12 k13
    go_wp2_with fail
    refine (HWI.out _).mono ?_
    rintro e w1' ⟨rfl, rfl⟩
    clear HWI
    go_wp2_with fail
    refine (HPA.out _ (gw0.trans g1)).mono ?_
    rintro e w2 ⟨n', D1', D2', D3', D4', q1', q2', q3', q4', rfl, ⟨h1, h2, h3⟩, _, ho, _, _, g2⟩
    clear HPA e0 e1 e2 e3
    go_wp2_with fail
    refine (HST.out _ _ _ _ _ _ _ _ w2 ⟨h1, h2, h3, own_slb ho⟩).mono ?_
    clear h1 h2 h3 ho HST
    rintro e w3 ⟨n, D1, D2, D3, D4, q1, q2, q3, q4, rfl, ⟨h1, h2, h3⟩, ⟨f1, f2, f3⟩, ho, hn, hn', g3⟩
    have g13 : Gr w0 w3 := g1.trans (g2.trans g3)
    have z3 := g13.size
    have e3 : w3.cell? ⟨w.heap.size, 3, none⟩ = some (.slice A4 F.b.length c4) := (g13.cell _ _ (by omega)).trans HK1.out.2.2.2
    have HA : Gr w3 (w3.alloc (.cells #[.slice D1 G.r.length q1, .slice D2 G.c.length q2, .slice D3 G.f.length q3, .slice D4 G.b.length q4] 25)) := Gr.alloc (Gr.refl _) _
    have z12 : w0.heap.size ≤ w2.heap.size := by have := g1.size; have := g2.size; omega
    have HDL := hide (fun (k : Nat) (x : Bd) (hx : G.b[k]? = some x) (B : Nat) (e : D4 = some ⟨B, 0, none⟩) => (show B < w3.heap.size by
      obtain ⟨B', e', _, hl, _⟩ := bd_at ho hx
      rw [e] at e'
      cases e'
      exact hl))
    have K1 := hide (SlK.mk (lo := w0.heap.size) (B := n) (h1.gr HA) fun hl a ha => ⟨Nat.le_trans z12 (f1 hl a ha).1, (f1 hl a ha).2, Nat.ne_of_lt (f1 hl a ha).2⟩)
    have K2 := hide (SlK.mk (lo := w0.heap.size) (B := n) (h2.gr HA) fun hl a ha => ⟨Nat.le_trans z12 (f2 hl a ha).1, (f2 hl a ha).2, Nat.ne_of_lt (f2 hl a ha).2⟩)
    have K3 := hide (SlK.mk (lo := w0.heap.size) (B := n) (h3.gr HA) fun hl a ha => ⟨Nat.le_trans z12 (f3 hl a ha).1, (f3 hl a ha).2, Nat.ne_of_lt (f3 hl a ha).2⟩)
    have HO0 := hide (show OwnL (w3.alloc (.cells #[.slice D1 G.r.length q1, .slice D2 G.c.length q2, .slice D3 G.f.length q3, .slice D4 G.b.length q4] 25)) n 49 8 bdL (.slice D4 G.b.length q4) (mx F.b G.b 0) by rw [HM0.out]; exact ho.gr HA)
    have hnw : w0.heap.size ≤ n := by have := g1.size; have := g2.size; omega
    have hM := Made.new w3 #[.slice D1 G.r.length q1, .slice D2 G.c.length q2, .slice D3 G.f.length q3, .slice D4 G.b.length q4] 25
    have HR0 := hide (Res.mk hM.1 (hM.2.1 0) (hM.2.1 1) (hM.2.1 2) (hM.2.1 3) (hM.2.2 3))
    have HG0 := hide (g13.trans HA)
    have lw3 : w.heap.size < w3.heap.size := by omega
    clear h1 h2 h3 f1 f2 f3 ho g1 g2 g3 g13 HA hM
    go_wp2_with fail
    go_loopw [28] (fun i wr => ∃ k : Nat, k ≤ F.b.length ∧ i = iv k ∧ Gr w0 wr ∧ Hid (OwnL wr n 49 8 bdL (.slice D4 G.b.length q4) (mx F.b G.b k)) ∧ Hid (Kq w0.heap.size n n (w3.alloc (.cells #[.slice D1 G.r.length q1, .slice D2 G.c.length q2, .slice D3 G.f.length q3, .slice D4 G.b.length q4] 25)) wr) ∧ Hid (Res wr w3.heap.size (.slice D1 G.r.length q1) (.slice D2 G.c.length q2) (.slice D3 G.f.length q3) (.slice D4 G.b.length q4))) (fun i _ => F.b.length - (intOf i).toNat)
    case atStart => exact ⟨0, by omega, rfl, HG0.out, HO0, Kq.refl (by simp only [World.size_alloc]; omega), HR0⟩
    case round =>
      clear HO0 HR0 HG0 e3
      obtain ⟨k, hk, rfl, g, HO, HQ, HRr⟩ := hrel
      have gz := g.size
      have hbz := HRr.out.lt
      have hn0 := HQ.out.n0
      have l0 : w.heap.size < wr.heap.size := by omega
      by_cases hkl : k < F.b.length
      · obtain ⟨o, ho⟩ : ∃ o, F.b[k]? = some o := ⟨_, List.getElem?_eq_getElem hkl⟩
        have hkg : k < G.b.length := by have := HLEN.out; omega
        obtain ⟨x, hx⟩ : ∃ x, G.b[k]? = some x := ⟨_, List.getElem?_eq_getElem hkg⟩
        have HN := hide (HMX.out k o x ho hx)
        obtain ⟨b2, o2, hA, y0, y1, y2, y3, y4, y5, y6, y7⟩ := (HB.out.gr (gw0.trans g)).at_ ho
        have lb : b2 < wr.heap.size := cell_lt (by rw [y0]; rfl)
        have hk0 : (0 : Int) ≤ (k : Int) := by omega
        have hk1 : (k : Int) < (F.b.length : Int) := by omega
        have hk2 : (k : Int) < (G.b.length : Int) := by omega
        subst hA
        obtain ⟨B4, hD4, hB4, _⟩ := bd_at HO.out HN.out.2
        have hBT := HDL.out k x hx B4 hD4
        subst hD4
        have HI := hide (fun w' => isOrdered_any o w')
        clear ho hx
        go_wp2_with fail
        refine (HI.out _).mono ?_
        rintro e w5 ⟨rfl, g5⟩
        have g15 : Gr wr w5 := (Gr.alloc (Gr.refl wr) _).trans g5
        have z5 := g15.size
        clear y0 y1 y2 y3 y4 y5 y6 y7 HI
        cases hod : odB o with
        | false =>
          have HO5 := hide (show OwnL w5 n 49 8 bdL (.slice (some ⟨B4, 0, none⟩) G.b.length q4) (mx F.b G.b (k + 1)) by
            rw [HN.out.1, show fix o x = x by unfold fix; rw [hod]; rfl, set_same HN.out.2]
            exact HO.out.gr g15)
          have HQ5 := hide (HQ.out.gr g15)
          have HR5 := hide (HRr.out.gr g15)
          have G5 := hide (g.trans g15)
          clear HO HQ HRr g15 g5 hod
          go_wp2
          go_roundw
          case rel => exact ⟨k + 1, by omega, by go_num, G5.out, HO5, HQ5, HR5⟩
          case measure => simp only [intOf]; omega
        | true =>
          have HF := hide (show fix o x = inO x by unfold fix; rw [hod]; rfl)
          have HO5 := hide (HO.out.gr g15)
          have HQ5 := hide (HQ.out.gr g15)
          have HR5 := hide (HRr.out.gr g15)
          have G5 := hide (g.trans g15)
          obtain ⟨_, e4, _, lB4, ⟨c2, c3, c4', c5⟩, fz, _⟩ := bd_at HO5.out HN.out.2
          injection e4 with e4
          injection e4 with e4
          subst e4
          have t3 := HR5.out.c3
          have tl := HR5.out.lt
          have fz2 := fz (k * 8 + 2)
          have fz3 := fz (k * 8 + 3)
          have fz4 := fz (k * 8 + 4)
          have fz5 := fz (k * 8 + 5)
          have HIN := hide (fun w' => inOrder_any x.a x.b x.c x.d w')
          clear HO HQ HRr g15 g5 hod fz
          go_upto_region 11 with fail
          have GC := @GrW.cell
          refine wp_region_grw_tail _ 12 (by kernel_rfl) (by kernel_rfl) (Gr.refl _) ?_
          simp only [List.take_succ_cons, List.take_zero, List.drop_succ_cons, List.drop_zero]
          repeat (go_big_quiet_step ((first | (go_at_call 20; exact quiet_grw (HIN.out _)))))
          refine wpQuiet_nil ?_
          intro wq hwq
          obtain ⟨gq, hwq'⟩ := hwq
          subst hwq'
          clear GC
          have gq1 := gq.gr
          generalize gq.w = wq at gq1 ⊢
          obtain ⟨Xq, Yq, cq, fq⟩ := gq1.use
          have sq := gq1.size
          (try simp only [World.size_alloc, World.size_setCell, World.heap_drewN] at sq)
          obtain ⟨_, e4, _, lB5, ⟨d2, d3, d4, d5⟩, fz', U⟩ := bd_at (HO5.out.gr gq1) HN.out.2
          injection e4 with e4
          injection e4 with e4
          subst e4
          have fq2 := fz' (k * 8 + 2)
          have fq3 := fz' (k * 8 + 3)
          have fq4 := fz' (k * 8 + 4)
          have fq5 := fz' (k * 8 + 5)
          have HO6 := hide (show OwnL ((((wq.setCell ⟨B4, k * 8 + 2, none⟩ (iv (min x.a x.c))).setCell ⟨B4, k * 8 + 3, none⟩ (iv (min x.b x.d))).setCell ⟨B4, k * 8 + 4, none⟩ (iv (max x.a x.c))).setCell ⟨B4, k * 8 + 5, none⟩ (iv (max x.b x.d))) n 49 8 bdL (.slice (some ⟨B4, 0, none⟩) G.b.length q4) (mx F.b G.b (k + 1)) by
            rw [HN.out.1, HF.out]
            exact U (min x.a x.c) (min x.b x.d) (max x.a x.c) (max x.b x.d))
          have hBn : w3.heap.size ≠ B4 := by omega
          have HQ6 := hide (((((HQ5.out.gr gq1).set (C := B4) (i := k * 8 + 2) (.inr (.inr hB4)) (iv (min x.a x.c))).set (C := B4) (i := k * 8 + 3) (.inr (.inr hB4)) (iv (min x.b x.d))).set (C := B4) (i := k * 8 + 4) (.inr (.inr hB4)) (iv (max x.a x.c))).set (C := B4) (i := k * 8 + 5) (.inr (.inr hB4)) (iv (max x.b x.d)))
          have HR6 := hide (((((HR5.out.gr gq1).oth (i := k * 8 + 2) (Ne.symm hBn) (iv (min x.a x.c))).oth (i := k * 8 + 3) (Ne.symm hBn) (iv (min x.b x.d))).oth (i := k * 8 + 4) (Ne.symm hBn) (iv (max x.a x.c))).oth (i := k * 8 + 5) (Ne.symm hBn) (iv (max x.b x.d)))
          have hw0B : w0.heap.size ≤ B4 := Nat.le_trans hnw hB4
          have HG6 := hide (Gr.setCell (Gr.setCell (Gr.setCell (Gr.setCell (G5.out.trans gq1) (p := ⟨B4, k * 8 + 2, none⟩) hw0B (iv (min x.a x.c))) (p := ⟨B4, k * 8 + 3, none⟩) hw0B (iv (min x.b x.d))) (p := ⟨B4, k * 8 + 4, none⟩) hw0B (iv (max x.a x.c))) (p := ⟨B4, k * 8 + 5, none⟩) hw0B (iv (max x.b x.d)))
          clear HO5 HQ5 HR5 G5 gq1 U fz' cq fq t3 c2 c3 c4' c5 fz2 fz3 fz4 fz5
          go_wp2
          go_roundw
          case rel => exact ⟨k + 1, by omega, by go_num, HG6.out, HO6, HQ6, HR6⟩
          case measure => simp only [intOf]; omega
      · obtain rfl : k = F.b.length := by omega
        have hk1 : ¬ ((F.b.length : Int) < (F.b.length : Int)) := by omega
        have hO := HO.out
        rw [HMA.out] at hO
        have HO' := hide hO
        have hlo : w.heap.size + 1 < w0.heap.size := by omega
        have hln : w.heap.size + 1 < n := by omega
        obtain ⟨_, t0, t1, t2, t3, _⟩ := HRr.out
        clear hO HO HMX HMA HM0 HDL HB
        go_wp2_with fail
        refine (HIL.out D1 D2 D3 D4 q1 q2 q3 q4 wr (K1.out.kq HQ.out).sl (K2.out.kq HQ.out).sl (K3.out.kq HQ.out).sl (own_slb HO'.out)).mono ?_
        rintro e w6 ⟨rfl, g6⟩
        have u0 := (HRr.out.gr g6).c0
        have u1 := (HRr.out.gr g6).c1
        have u2 := (HRr.out.gr g6).c2
        have u3 := (HRr.out.gr g6).c3
        obtain ⟨⟨⟨p0, p1, p2, p3⟩, d0, d1, d2, d3⟩, hlt⟩ := RV.out w6 (g.trans g6)
        have lT6 := (HRr.out.gr g6).lt
        have HG6 := hide (gw0.trans (g.trans g6))
        have HO6 := hide (HO'.out.gr g6)
        have HQ6 := hide (HQ.out.gr g6)
        clear t0 t1 t2 t3 HRr HQ HO' HIL
        cases hlm : lmB ⟨G.r, G.c, G.f, List.zipWith fix F.b G.b⟩ with
        | false =>
          have HEE := hide (show qtE F t = 4 ∧ qtP F t = noP from by
            have e : qtE F t = 4 := by rw [HE.out, if_neg (by rw [hlm]; decide)]
            exact ⟨e, by rw [HPQ.out, if_neg (by rw [e]; decide)]⟩)
          clear hlm HE HPQ u0 u1 u2 u3
          go_wp2_with fail
          refine bodyPost_ret (v := sle (ptv none 0 0 none 0 0 none 0 0 none 0 0) 4) (by simp [results, Try.results8, go_sem, *]) rfl ?_
          rw [HEE.out.1, HEE.out.2]
          exact ⟨none, none, none, none, 0, 0, 0, 0, rfl, noP_w _, ⟨fun h => absurd rfl h, fun h => absurd rfl h, fun h => absurd rfl h, fun h => absurd rfl h⟩, Gr.setCell (Gr.setCell (Gr.setCell (Gr.setCell HG6.out (p := ⟨w.heap.size + 1, 0, none⟩) hle _) (p := ⟨w.heap.size + 1, 1, none⟩) hle _) (p := ⟨w.heap.size + 1, 2, none⟩) hle _) (p := ⟨w.heap.size + 1, 3, none⟩) hle _⟩
        | true =>
          have HEE := hide (show qtE F t = 0 ∧ qtP F t = ⟨G.r, G.c, G.f, List.zipWith fix F.b G.b⟩ from by
            have e : qtE F t = 0 := by rw [HE.out, if_pos hlm]
            exact ⟨e, by rw [HPQ.out, if_pos e]⟩)
          clear hlm HE HPQ
          go_wp2_with fail
          refine bodyPost_ret (v := sle (ptv D1 G.r.length q1 D2 G.c.length q2 D3 G.f.length q3 D4 G.b.length q4) 0) (by simp [results, Try.results8, go_sem, *]) rfl ?_
          rw [HEE.out.1, HEE.out.2]
          have kq := (((HQ6.out.set (C := w.heap.size + 1) (i := 0) (.inl hlo) (.slice D1 G.r.length q1)).set (C := w.heap.size + 1) (i := 1) (.inl hlo) (.slice D2 G.c.length q2)).set (C := w.heap.size + 1) (i := 2) (.inl hlo) (.slice D3 G.f.length q3)).set (C := w.heap.size + 1) (i := 3) (.inl hlo) (.slice D4 G.b.length q4)
          exact ⟨D1, D2, D3, D4, q1, q2, q3, q4, by rw [HZ.out], ⟨(K1.out.kq kq).sl, (K2.out.kq kq).sl, (K3.out.kq kq).sl, own_slb (own_farQ (own_farQ (own_farQ (own_farQ HO6.out (a := ⟨w.heap.size + 1, 0, none⟩) hln _) (a := ⟨w.heap.size + 1, 1, none⟩) hln _) (a := ⟨w.heap.size + 1, 2, none⟩) hln _) (a := ⟨w.heap.size + 1, 3, none⟩) hln _)⟩,
            ⟨fun hl a ha => Nat.le_trans gw0.size (K1.out.far hl a ha).1, fun hl a ha => Nat.le_trans gw0.size (K2.out.far hl a ha).1, fun hl a ha => Nat.le_trans gw0.size (K3.out.far hl a ha).1, fun _ a ha => Nat.le_trans (Nat.le_trans gw0.size hnw) (own_ge HO6.out a ha)⟩,
            Gr.setCell (Gr.setCell (Gr.setCell (Gr.setCell HG6.out (p := ⟨w.heap.size + 1, 0, none⟩) hle _) (p := ⟨w.heap.size + 1, 1, none⟩) hle _) (p := ⟨w.heap.size + 1, 2, none⟩) hle _) (p := ⟨w.heap.size + 1, 3, none⟩) hle _⟩
end RG
end Go.Proofs.Ytjnfodbniohkhaa
