/-
  Best of the code: its boxes, and a visit.
-/
import Derived.Test.YtfndhddnglcliaaBst1
import Derived.OwnWalk
set_option linter.unusedVariables false
set_option linter.unusedSimpArgs false
namespace Go.Proofs.Ytfndhddnglcliaa
set_option linter.unusedVariables false
set_option linter.unusedSimpArgs false
open Go Go.ChangeShapes Go.WideShapes Go.ChangeAt Go.RowKit Go.Deep

abbrev pb (B : Nat) : Value := .pointer (some ⟨B, 0, none⟩)
/-- all blocks but one are as they were -/
def Eb (B : Nat) (w w' : World) : Prop := w.heap.size ≤ w'.heap.size ∧ ∀ k, k < w.heap.size → k ≠ B → w'.heap[k]? = w.heap[k]?
theorem Eb.of_gr {w w' : World} (B : Nat) (g : Gr w w') : Eb B w w' := ⟨g.size, fun k hk _ => g.block k hk⟩
theorem Eb.set (w : World) (B o : Nat) (u : Value) : Eb B w (w.setCell ⟨B, o, none⟩ u) := ⟨by simp, fun k _ hne => Below.heap_setCell w ⟨B, o, none⟩ u k hne⟩
theorem Eb.grown {w w' : World} {B : Nat} (h : w.grownBy w' (some B)) : Eb B w w' := ⟨h.size, fun k hk hne => h.block k hk (fun e => hne (Option.some.inj e))⟩
/-- a box -/
def At1 (w : World) (B : Nat) (v : Value) : Prop := w.cell? ⟨B, 0, none⟩ = some v ∧ w.frozen? ⟨B, 0, none⟩ = false
theorem At1.lt {w : World} {B : Nat} {v : Value} (h : At1 w B v) : B < w.heap.size := cell_lt (by rw [h.1]; rfl)
theorem At1.eb {w w' : World} {B B' : Nat} {v : Value} (h : At1 w B v) (e : Eb B' w w') (hne : B ≠ B') : At1 w' B v := by
  have hb := e.2 B h.lt hne
  exact ⟨(World.cell?_of_block hb).trans h.1, (World.frozen?_of_block hb).trans h.2⟩
theorem At1.gr {w w' : World} {B : Nat} {v : Value} (h : At1 w B v) (g : Gr w w') : At1 w' B v := h.eb (Eb.of_gr (B + 1) g) (by omega)
theorem At1.set {w : World} {B : Nat} {v : Value} (h : At1 w B v) (u : Value) (hu : u.oneCell' = true) : At1 (w.setCell ⟨B, 0, none⟩ u) B u :=
  ⟨by simp [go_sem, h.1], by simp [go_sem, h.2]⟩
theorem sli_eb {w w' : World} {A : Option Addr} {c B : Nat} {l : List Int} (h : SlI w A c l) (e : Eb B w w') (hne : ∀ a, A = some a → a.block ≠ B) : SlI w' A c l := by
  refine ⟨fun i x hx => ?_, h.cap, h.capB⟩
  obtain ⟨b, off, e1, h1, h2⟩ := h.rd i x hx
  subst e1
  have hlt : b < w.heap.size := cell_lt (by rw [h1]; rfl)
  exact ⟨b, off, rfl, (World.cell?_of_block (e.2 b hlt (hne _ rfl))).trans h1, h2⟩
theorem row_eb {w w' : World} {base R n d B : Nat} {e : TypeId} {xs : List Value} (h : w.ownsRow base e 1 (.slice (some ⟨R, 0, none⟩) n d) n xs) (k : Eb B w w') (hne : R ≠ B) : w'.ownsRow base e 1 (.slice (some ⟨R, 0, none⟩) n d) n xs := by
  refine ⟨h.1, ?_⟩
  rcases h.2 with ⟨h1, _⟩ | ⟨g, cap, cur, h1, hb, hg, rest⟩
  · cases h1
  · refine .inr ⟨g, cap, cur, h1, hb, ?_, rest⟩
    obtain rfl : R = g := by simpa using (by simpa using h1 : _ ∧ _).1
    rw [k.2 R (Array.getElem?_eq_some_iff.1 hg).1 hne]
    exact hg
theorem row_cut {w : World} {base R n d m : Nat} {e : TypeId} {xs : List Value} (h : w.ownsRow base e 1 (.slice (some ⟨R, 0, none⟩) n d) n xs) (hm : m ≤ n) : w.ownsRow base e 1 (.slice (some ⟨R, 0, none⟩) m d) m (xs.take m) := by
  have hl := h.1
  refine ⟨by rw [List.length_take]; omega, ?_⟩
  rcases h.2 with ⟨h1, _⟩ | ⟨g, cap, cur, h1, hb, hg, h3, h4, h5, h6⟩
  · cases h1
  · simp only [Value.slice.injEq, Option.some.injEq, Addr.mk.injEq, and_true, true_and] at h1
    obtain ⟨rfl, rfl⟩ := h1
    refine .inr ⟨R, d, cur, rfl, hb, hg, by omega, h4, h5, ?_⟩
    rw [← h6, List.take_take]
    congr 1
    omega
/-- the blocks of the boxes: Best's, permute's, the row; what lies above is new -/
structure Bx where
  j : Nat
  s : Nat
  b : Nat
  l : Nat
  n : Nat
  v : Nat
  r : Nat
  o : Nat
  e : Nat
  lo : Nat
def Bx.ok (x : Bx) (h : Nat) : Prop := h ≤ x.j ∧ x.j < x.s ∧ x.s < x.b ∧ x.b < x.l ∧ x.l < x.n ∧ x.n < x.v ∧ x.v < x.r ∧ x.r < x.o ∧ x.o < x.e ∧ x.e < x.lo
structure PX (w0 : World) (x : Bx) (A : Option Addr) (c : Nat) (js : List Jb) (q : Nat) (pre : List Int) (st : List Int × Nat) (w : World) : Prop where
  gr : Gr w0 w
  sz : x.lo ≤ w.heap.size
  cj : At1 w x.j (.slice A js.length c)
  cs : At1 w x.s (iv q)
  cl : At1 w x.l (iv st.2)
  cb : ∃ Ab cb, At1 w x.b (.slice Ab st.1.length cb) ∧ SlI w Ab cb st.1 ∧ ∀ a, Ab = some a → x.lo ≤ a.block
  cn : At1 w x.n (iv js.length)
  cv : At1 w x.v (.func (.func 27) #[] #[pb x.j, pb x.s, pb x.l, pb x.b])
  ce : At1 w x.e (.func (.func 39) #[] #[pb x.o, pb x.n, pb x.v, pb x.e])
  co : At1 w x.o (.slice (some ⟨x.r, 0, none⟩) pre.length js.length)
  row : w.ownsRow x.r 3 1 (.slice (some ⟨x.r, 0, none⟩) pre.length js.length) pre.length (pre.map iv)
theorem PX.keep {w0 w w' : World} {x : Bx} {A : Option Addr} {c : Nat} {js : List Jb} {q : Nat} {pre : List Int} {st : List Int × Nat} (h : PX w0 x A c js q pre st w) (g : Gr w w') : PX w0 x A c js q pre st w' := by
  obtain ⟨Ab, cb, h1, h2, h3⟩ := h.cb
  exact ⟨h.gr.trans g, Nat.le_trans h.sz g.size, h.cj.gr g, h.cs.gr g, h.cl.gr g, ⟨Ab, cb, h1.gr g, h2.gr g, h3⟩, h.cn.gr g, h.cv.gr g, h.ce.gr g, h.co.gr g, row_eb h.row (Eb.of_gr (x.r + 1) g) (by omega)⟩
theorem PX.setL {w0 w : World} {x : Bx} {A : Option Addr} {c : Nat} {js : List Jb} {q : Nat} {pre : List Int} {st : List Int × Nat} (h : PX w0 x A c js q pre st w) (hx : x.ok w0.heap.size) (m : Nat) : PX w0 x A c js q pre (st.1, m) (w.setCell ⟨x.l, 0, none⟩ (iv m)) := by
  obtain ⟨Ab, cb, h1, h2, h3⟩ := h.cb
  obtain ⟨x1, x2, x3, x4, x5, x6, x7, x8, x9, x10⟩ := hx
  have e := Eb.set w x.l 0 (iv m)
  exact ⟨Gr.setCell h.gr (by dsimp only; omega) _, by have := h.sz; simpa using this, h.cj.eb e (by omega), h.cs.eb e (by omega), h.cl.set _ rfl, ⟨Ab, cb, h1.eb e (by omega), sli_eb h2 e (fun a ha => by have := h3 a ha; omega), h3⟩, h.cn.eb e (by omega), h.cv.eb e (by omega), h.ce.eb e (by omega), h.co.eb e (by omega), row_eb h.row e (by omega)⟩
theorem PX.setB {w0 w : World} {x : Bx} {A : Option Addr} {c : Nat} {js : List Jb} {q : Nat} {pre : List Int} {st : List Int × Nat} (h : PX w0 x A c js q pre st w) (hx : x.ok w0.heap.size) {A' : Option Addr} {c' : Nat} {l : List Int} (hl : SlI w A' c' l) (hb : ∀ a, A' = some a → x.lo ≤ a.block) : PX w0 x A c js q pre (l, st.2) (w.setCell ⟨x.b, 0, none⟩ (.slice A' l.length c')) := by
  obtain ⟨Ab, cb, h1, h2, h3⟩ := h.cb
  obtain ⟨x1, x2, x3, x4, x5, x6, x7, x8, x9, x10⟩ := hx
  have e := Eb.set w x.b 0 (.slice A' l.length c')
  exact ⟨Gr.setCell h.gr (by dsimp only; omega) _, by have := h.sz; simpa using this, h.cj.eb e (by omega), h.cs.eb e (by omega), h.cl.eb e (by omega), ⟨A', c', h1.set _ rfl, sli_eb hl e (fun a ha => by have := hb a ha; omega), hb⟩, h.cn.eb e (by omega), h.cv.eb e (by omega), h.ce.eb e (by omega), h.co.eb e (by omega), row_eb h.row e (by omega)⟩
/-- one number more in the row, and the box of the order stored over -/
theorem PX.push {w0 w w' : World} {x : Bx} {A : Option Addr} {c : Nat} {js : List Jb} {q : Nat} {pre : List Int} {st : List Int × Nat} (h : PX w0 x A c js q pre st w) (hx : x.ok w0.heap.size) {z : Int} (hr : w'.ownsRow x.r 3 1 (.slice (some ⟨x.r, 0, none⟩) (pre.length + 1) js.length) (pre.length + 1) (pre.map iv ++ [iv z])) (hg : w.grownBy w' (some x.r)) :
    PX w0 x A c js q (pre ++ [z]) st (w'.setCell ⟨x.o, 0, none⟩ (.slice (some ⟨x.r, 0, none⟩) (pre.length + 1) js.length)) := by
  obtain ⟨Ab, cb, h1, h2, h3⟩ := h.cb
  obtain ⟨x1, x2, x3, x4, x5, x6, x7, x8, x9, x10⟩ := hx
  have e := Eb.grown hg
  have e2 := Eb.set w' x.o 0 (.slice (some ⟨x.r, 0, none⟩) (pre.length + 1) js.length)
  refine ⟨Gr.setCell (Gr.grown h.gr hg (fun k hk => by have := Option.some.inj hk; omega)) (by dsimp only; omega) _, by have := h.sz; have := hg.size; simp; omega, (h.cj.eb e (by omega)).eb e2 (by omega), (h.cs.eb e (by omega)).eb e2 (by omega), (h.cl.eb e (by omega)).eb e2 (by omega), ⟨Ab, cb, (h1.eb e (by omega)).eb e2 (by omega), sli_eb (sli_eb h2 e (fun a ha => by have := h3 a ha; omega)) e2 (fun a ha => by have := h3 a ha; omega), h3⟩, (h.cn.eb e (by omega)).eb e2 (by omega), (h.cv.eb e (by omega)).eb e2 (by omega), (h.ce.eb e (by omega)).eb e2 (by omega), ?_, ?_⟩
  · rw [List.length_append]
    exact (h.co.eb e (by omega)).set _ rfl
  · rw [List.length_append, List.map_append]
    exact row_eb hr e2 (by omega)
/-- the last number is cut off -/
theorem PX.pop {w0 w : World} {x : Bx} {A : Option Addr} {c : Nat} {js : List Jb} {q : Nat} {pre : List Int} {z : Int} {st : List Int × Nat} (h : PX w0 x A c js q (pre ++ [z]) st w) (hx : x.ok w0.heap.size) : PX w0 x A c js q pre st (w.setCell ⟨x.o, 0, none⟩ (.slice (some ⟨x.r, 0, none⟩) pre.length js.length)) := by
  obtain ⟨Ab, cb, h1, h2, h3⟩ := h.cb
  obtain ⟨x1, x2, x3, x4, x5, x6, x7, x8, x9, x10⟩ := hx
  have e := Eb.set w x.o 0 (.slice (some ⟨x.r, 0, none⟩) pre.length js.length)
  refine ⟨Gr.setCell h.gr (by dsimp only; omega) _, by have := h.sz; simpa using this, h.cj.eb e (by omega), h.cs.eb e (by omega), h.cl.eb e (by omega), ⟨Ab, cb, h1.eb e (by omega), sli_eb h2 e (fun a ha => by have := h3 a ha; omega), h3⟩, h.cn.eb e (by omega), h.cv.eb e (by omega), h.ce.eb e (by omega), h.co.set _ rfl, ?_⟩
  have hr := row_cut h.row (show pre.length ≤ (pre ++ [z]).length by simp)
  rw [List.map_append, List.take_append_of_le_length (by simp), List.take_of_length_le (by simp)] at hr
  exact row_eb hr e (by omega)
theorem fm_in : ∀ l : List Int, l.flatMap inL = l.map iv
  | [] => rfl
  | z :: l => by rw [List.flatMap_cons, fm_in l]; rfl
theorem PX.sli {w0 w : World} {x : Bx} {A : Option Addr} {c : Nat} {js : List Jb} {q : Nat} {pre : List Int} {st : List Int × Nat} (h : PX w0 x A c js q pre st w) : SlI w (some ⟨x.r, 0, none⟩) js.length pre := by
  refine own_sli (base := x.r) (e := 3) (d := js.length) (xs := pre) ?_
  unfold OwnL
  have := h.row
  rwa [fm_in]
set_option maxRecDepth 100000 in
set_option maxHeartbeats 2000000 in
theorem visit_any (w0 : World) (x : Bx) (A : Option Addr) (c : Nat) (js : List Jb) (q : Nat) (o : List Int) (st : List Int × Nat) (w : World) (h : PX w0 x A c js q o st w) (hx : x.ok w0.heap.size) (hj : SlJ w0 A c js) (hwd : wdB js = false) (h0 : joE js = 0) (ht : toN js ≤ 24) (hq : 1 ≤ q ∧ q ≤ 3)
    (hp : pmB o js.length = true) : Calls Try.prog 27 #[.slice (some ⟨x.r, 0, none⟩) o.length js.length, pb x.j, pb x.s, pb x.l, pb x.b] w fun e w' => e = .returned (.tuple #[]) ∧ PX w0 x A c js q o (bsF js q st o) w' := by
  have ho4 : o.length ≤ 4 := by have := (pmB_iff.1 hp).1; have := joE_len h0; omega
  have HJN := hide (Join_any A c js (some ⟨x.r, 0, none⟩) js.length o w (hj.gr h.gr) h.sli hwd)
  have HE := hide (show jnE js o = 0 by unfold jnE; rw [if_neg (by simpa using h0), if_neg (by simp [hp]), if_neg (by omega)])
  have HR := hide (show jnR js o = jnL js o by unfold jnR; rw [HE.out]; rfl)
  rw [HE.out] at HJN
  have HOK := hide (fun (xs : List Nd) (h : xs.map (·.l) = jnL js o) => jn_ok h0 hp ht h)
  have H := hide h
  have HXK := hide hx
  have x1 := h.cj.1
  have x2 := h.cs.1
  have x3 := h.cl.1
  obtain ⟨Ab, cb, hb1, _, _⟩ := h.cb
  have x4 := hb1.1
  have f3 := h.cl.2
  have f4 := hb1.2
  have l1 := h.cj.lt
  have l2 := h.cs.lt
  have l3 := h.cl.lt
  have l4 := hb1.lt
  have hne : ¬ x.l = x.b := by obtain ⟨x1, x2, x3, x4, x5, x6, x7, x8, x9, x10⟩ := hx; omega
  have hne' : ¬ x.b = x.l := fun e => hne e.symm
  clear h hj hwd hx hb1 h0 hp
  go_enter Try.func27, Try.ntmps27
  go_wp2_with fail
  refine HJN.out.mono ?_
  rintro e w1 ⟨A1, d1, xs, rfl, hxs, hO1, g1⟩
  have hxs' : xs.map (·.l) = jnL js o := hxs.trans HR.out
  have hv := HOK.out xs hxs'
  have HL := hide (Least_any A1 d1 xs q w1 hO1.sln)
  have hce : chE xs (q : Int) = 0 := by
    unfold chE
    rw [if_neg (by simpa using hv), if_pos (wiB_iff.2 (by omega))]
  have hle : leN xs (q : Int) = leR q (jnL js o) := by
    unfold leN leR
    rw [if_pos hce, mks_R hxs', Int.toNat_natCast]
  rw [hce, hle] at HL
  have HF := hide (show bsF js q st o = if leR q (jnL js o) < st.2 then (o, leR q (jnL js o)) else st from rfl)
  obtain ⟨X1, Y1, c1, f1⟩ := g1.use
  clear hxs hO1 hxs' hv hce hle
  generalize leR q (jnL js o) = m at *
  go_wp2_with fail
  refine HL.out.mono ?_
  rintro e w2 ⟨rfl, g2⟩
  have gw2 : Gr w w2 := g1.trans g2
  obtain ⟨X2, Y2, c2, f2⟩ := gw2.use
  clear g1 g2 c1 f1
  by_cases hlt : m < st.2
  · have hlt' : decide (m < st.2) = true := decide_eq_true hlt
    have HF' : Hid (bsF js q st o = (o, m)) := hide (by rw [HF.out, if_pos hlt])
    have HCL := hide (clone_any (some ⟨x.r, 0, none⟩) js.length o w2 (H.out.keep gw2).sli (by omega))
    clear hlt
    go_wp2_with fail
    refine HCL.out.mono ?_
    rintro e w3 ⟨A5, c5, rfl, hO5, g3⟩
    have hb5 : ∀ a, A5 = some a → x.lo ≤ a.block := by
      intro a ha
      subst ha
      have := (World.ownsRow.lt hO5 a.block rfl).1
      have := (H.out.keep gw2).sz
      omega
    have HP5 := hide (((H.out.keep (gw2.trans g3)).setB HXK.out (own_sli hO5) hb5).setL HXK.out m)
    obtain ⟨X3, Y3, c3, f3'⟩ := (gw2.trans g3).use
    clear hO5 hb5 c2 f2
    go_wp2
    first | go_end0 | refine bodyPost_ret (results_none rfl _ _ _) rfl ?_
    exact ⟨rfl, by rw [HF'.out]; exact HP5.out⟩
  · have hlt' : decide (m < st.2) = false := decide_eq_false hlt
    have HF' := hide (show bsF js q st o = st by rw [HF.out, if_neg hlt])
    clear hlt
    go_wp2
    first | go_end0 | refine bodyPost_ret (results_none rfl _ _ _) rfl ?_
    exact ⟨rfl, by rw [HF'.out]; exact H.out.keep (by repeat (first | with_reducible exact Gr.refl _ | with_reducible assumption | with_reducible refine Gr.alloc ?_ _ | with_reducible refine Gr.drewN ?_ _ | with_reducible refine Gr.drew ?_ | with_reducible refine Gr.setCell ?_ (by first | (dsimp only; omega) | (simp only [World.size_alloc]; omega) | (with_reducible refine Gr.size ?_; (repeat (first | with_reducible exact Gr.refl _ | with_reducible assumption | with_reducible refine Gr.alloc ?_ _ | with_reducible refine Gr.drewN ?_ _ | with_reducible refine Gr.drew ?_ | with_reducible refine Gr.trans ?_ (by with_reducible assumption))); done)) _ | with_reducible refine Gr.trans ?_ (by with_reducible assumption)))⟩
end Go.Proofs.Ytfndhddnglcliaa
