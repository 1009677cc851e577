/-
  Flat patterns turned: the mathematics.
-/
import Derived.Test.YtjnfodbniohkhaaQt2
set_option linter.unusedVariables false
set_option linter.unusedSimpArgs false
namespace Go.Proofs.Ytjnfodbniohkhaa
set_option linter.unusedVariables false
set_option linter.unusedSimpArgs false
open Go Go.ChangeShapes Go.WideShapes Go.ChangeAt Go.RowKit Go.Deep

namespace RG
/-- one quarter turn, a shift, so many quarter turns -/
def R1 (r : Rc) : Rc := ⟨-(r.y + r.h), r.x, r.h, r.w⟩
def Sh (u v : Int) (r : Rc) : Rc := ⟨r.x + u, r.y + v, r.w, r.h⟩
def RN : Nat → Rc → Rc
  | 0, r => r
  | n + 1, r => R1 (RN n r)
theorem RN_add (r : Rc) (m : Nat) : ∀ n, RN (m + n) r = RN n (RN m r)
  | 0 => rfl
  | n + 1 => by
    show R1 (RN (m + n) r) = R1 (RN n (RN m r))
    rw [RN_add r m n]
theorem RN_4 (r : Rc) : RN 4 r = r := by
  obtain ⟨x, y, w, h⟩ := r
  show R1 (R1 (R1 (R1 ⟨x, y, w, h⟩))) = _
  show (⟨_, _, _, _⟩ : Rc) = _
  simp only [R1, Rc.mk.injEq]
  refine ⟨?_, ?_, ?_, ?_⟩ <;> first | trivial | omega
theorem RN_mod (r : Rc) {n : Nat} (h : n < 8) : RN (n % 4) r = RN n r := by
  by_cases h4 : n < 4
  · rw [Nat.mod_eq_of_lt h4]
  · rw [show n = 4 + n % 4 by omega, RN_add r 4 (n % 4), RN_4, Nat.add_mod_left, Nat.mod_mod]
theorem RN_nn {r : Rc} (h : 0 ≤ r.w ∧ 0 ≤ r.h) : ∀ n, 0 ≤ (RN n r).w ∧ 0 ≤ (RN n r).h
  | 0 => h
  | n + 1 => ⟨(RN_nn h n).2, (RN_nn h n).1⟩
theorem RN_pos {r : Rc} (h : 0 < r.w ∧ 0 < r.h) : ∀ n, 0 < (RN n r).w ∧ 0 < (RN n r).h
  | 0 => h
  | n + 1 => ⟨(RN_pos h n).2, (RN_pos h n).1⟩
theorem rcM_RN {r : Rc} (h : 0 ≤ r.w ∧ 0 ≤ r.h) : ∀ t, rcM 0 0 t r = RN t r
  | 0 => by
    obtain ⟨x, y, w, k⟩ := r
    simp only [rcM, pX, pY, rtP, RN, Rc.mk.injEq] at *
    omega
  | t + 1 => by
    rw [RN, ← rcM_RN h t]
    simp only [rcM, pX, pY, rtP, R1, Rc.mk.injEq]
    refine ⟨?_, ?_, ?_, ?_⟩ <;> first | trivial | omega
theorem rcM_Sh {r : Rc} (h : 0 ≤ r.w ∧ 0 ≤ r.h) (u v : Int) : rcM u v 0 r = Sh u v r := by
  obtain ⟨x, y, w, k⟩ := r
  simp only [rcM, pX, pY, rtP, Sh, Rc.mk.injEq] at *
  omega
theorem R1_Sh (u v : Int) (r : Rc) : R1 (Sh u v r) = Sh (-v) u (R1 r) := by
  simp only [R1, Sh, Rc.mk.injEq, and_self, and_true]
  omega
theorem RN_Sh (u v : Int) (r : Rc) : ∀ n, RN n (Sh u v r) = Sh (rtP n (u, v)).1 (rtP n (u, v)).2 (RN n r)
  | 0 => rfl
  | n + 1 => by
    show R1 (RN n (Sh u v r)) = _
    rw [RN_Sh u v r n, R1_Sh]
    rfl
theorem Sh_Sh (u v p q : Int) (r : Rc) : Sh u v (Sh p q r) = Sh (p + u) (q + v) r := by
  simp only [Sh, Rc.mk.injEq, and_self, and_true]
  omega
theorem bnV_Sh (u v : Int) : ∀ (l : List Rc) (s : Int × Int × Int × Int), bnV (l.map (Sh u v)) (s.1 + u, s.2.1 + v, s.2.2.1 + u, s.2.2.2 + v) = ((bnV l s).1 + u, (bnV l s).2.1 + v, (bnV l s).2.2.1 + u, (bnV l s).2.2.2 + v)
  | [], s => rfl
  | r :: l, s => by
    have := bnV_Sh u v l (min s.1 r.x, min s.2.1 r.y, max s.2.2.1 (r.x + r.w), max s.2.2.2 (r.y + r.h))
    rw [List.map_cons]
    show bnV (l.map (Sh u v)) _ = _
    rw [show bnV (r :: l) s = bnV l (min s.1 r.x, min s.2.1 r.y, max s.2.2.1 (r.x + r.w), max s.2.2.2 (r.y + r.h)) from rfl, ← this]
    congr 1
    simp only [Sh, Prod.mk.injEq]
    omega
theorem bnR_Sh (u v : Int) {l : List Rc} (h : 0 < l.length) : bnR (l.map (Sh u v)) = Sh u v (bnR l) := by
  match l, h with
  | r :: l, _ =>
    have := bnV_Sh u v (r :: l) (r.x, r.y, r.x, r.y)
    show (⟨_, _, _, _⟩ : Rc) = _
    unfold bnW
    rw [← List.map_cons (f := Sh u v)]
    rw [show ((Sh u v r).x, (Sh u v r).y, (Sh u v r).x, (Sh u v r).y) = (r.x + u, r.y + v, r.x + u, r.y + v) from rfl, this]
    simp only [bnR, bnW, Sh, Rc.mk.injEq]
    refine ⟨?_, ?_, ?_, ?_⟩ <;> first | trivial | rfl | omega
/-- a bend line as a box, and moved as one -/
def bx (b : Bd) : Rc := ⟨b.a, b.b, b.c - b.a, b.d - b.b⟩
def bm (g : Rc → Rc) (b : Bd) : Bd := ⟨b.f, b.p, (g (bx b)).x, (g (bx b)).y, (g (bx b)).x + (g (bx b)).w, (g (bx b)).y + (g (bx b)).h, b.n, b.e⟩
theorem bx_bm (g : Rc → Rc) (b : Bd) : bx (bm g b) = g (bx b) := by
  rcases hg : g (bx b) with ⟨x, y, w, h⟩
  show (⟨(g (bx b)).x, (g (bx b)).y, (g (bx b)).x + (g (bx b)).w - (g (bx b)).x, (g (bx b)).y + (g (bx b)).h - (g (bx b)).y⟩ : Rc) = _
  rw [hg]
  simp only [Rc.mk.injEq]
  refine ⟨?_, ?_, ?_, ?_⟩ <;> first | trivial | omega
theorem bm_bm (g k : Rc → Rc) (b : Bd) : bm g (bm k b) = bm (fun r => g (k r)) b := by
  unfold bm
  rw [show bx ⟨b.f, b.p, (k (bx b)).x, (k (bx b)).y, (k (bx b)).x + (k (bx b)).w, (k (bx b)).y + (k (bx b)).h, b.n, b.e⟩ = k (bx b) from bx_bm k b]
/-- a bend line laid by a frame; in order -/
def bdM (x y : Int) (t : Nat) (b : Bd) : Bd := ⟨b.f, b.p, pX x t b.a b.b, pY y t b.a b.b, pX x t b.c b.d, pY y t b.c b.d, b.n, b.e⟩
def inO (b : Bd) : Bd := ⟨b.f, b.p, min b.a b.c, min b.b b.d, max b.a b.c, max b.b b.d, b.n, b.e⟩
def odB (b : Bd) : Bool := decide (b.a ≤ b.c) && decide (b.b ≤ b.d)
def fix (o g : Bd) : Bd := if odB o then inO g else g
theorem bd_ord {b : Bd} (h : odB b = true) (u v : Int) (t : Nat) : inO (bdM u v 0 (bdM 0 0 t b)) = bm (fun r => Sh u v (RN t r)) b := by
  unfold odB at h
  simp only [Bool.and_eq_true, decide_eq_true_eq] at h
  unfold bm
  dsimp only
  rw [← rcM_RN (r := bx b) ⟨by simp only [bx]; omega, by simp only [bx]; omega⟩ t]
  have e1 : b.a + (b.c - b.a) = b.c := by omega
  have e2 : b.b + (b.d - b.b) = b.d := by omega
  simp only [inO, bdM, bx, rcM, Sh, e1, e2]
  generalize pX 0 t b.a b.b = p1
  generalize pY 0 t b.a b.b = p2
  generalize pX 0 t b.c b.d = p3
  generalize pY 0 t b.c b.d = p4
  simp only [pX, pY, rtP, Bd.mk.injEq, true_and, and_true]
  omega
/-- a pattern laid by a frame; settled; turned -/
def patM (x y : Int) (t : Nat) (F : Pat) : Pat := ⟨F.r.map (rcM x y t), F.c.map (rcM x y t), F.f.map (rcM x y t), F.b.map (bdM x y t)⟩
def stF (F : Pat) : Pat := patM (-(bnR F.r).x) (-(bnR F.r).y) 0 F
def qtF (F : Pat) (t : Nat) : Pat := ⟨(stF (patM 0 0 t F)).r, (stF (patM 0 0 t F)).c, (stF (patM 0 0 t F)).f, List.zipWith fix F.b (stF (patM 0 0 t F)).b⟩
/-- moved as boxes -/
def mapP (g : Rc → Rc) (F : Pat) : Pat := ⟨F.r.map g, F.c.map g, F.f.map g, F.b.map (bm g)⟩
def nnB (F : Pat) : Prop := (∀ r ∈ F.r, 0 ≤ r.w ∧ 0 ≤ r.h) ∧ (∀ r ∈ F.c, 0 ≤ r.w ∧ 0 ≤ r.h) ∧ ∀ r ∈ F.f, 0 ≤ r.w ∧ 0 ≤ r.h
def oB (F : Pat) : Bool := F.b.all odB
theorem map_same {α β : Type} {f g : α → β} {l : List α} (h : ∀ x ∈ l, f x = g x) : l.map f = l.map g := List.map_congr_left h
theorem zip_map {α β γ : Type} (f : α → β → γ) (g : α → β) : ∀ l : List α, List.zipWith f l (l.map g) = l.map fun x => f x (g x)
  | [] => rfl
  | a :: l => by simp [zip_map f g l]
/-- where the turned pattern is shifted -/
def qU (F : Pat) (t : Nat) : Int := -(bnR (F.r.map (RN t))).x
def qV (F : Pat) (t : Nat) : Int := -(bnR (F.r.map (RN t))).y
theorem qt_r {F : Pat} (h : nnB F) (t : Nat) : (qtF F t).r = F.r.map (fun r => Sh (qU F t) (qV F t) (RN t r)) ∧ (qtF F t).c = F.c.map (fun r => Sh (qU F t) (qV F t) (RN t r)) ∧ (qtF F t).f = F.f.map (fun r => Sh (qU F t) (qV F t) (RN t r)) := by
  have er : (patM 0 0 t F).r = F.r.map (RN t) := map_same fun r hr => rcM_RN (h.1 r hr) t
  have eu : -(bnR (patM 0 0 t F).r).x = qU F t := by rw [er]; rfl
  have ev : -(bnR (patM 0 0 t F).r).y = qV F t := by rw [er]; rfl
  have key : ∀ l : List Rc, (∀ r ∈ l, 0 ≤ r.w ∧ 0 ≤ r.h) → (l.map (rcM 0 0 t)).map (rcM (-(bnR (patM 0 0 t F).r).x) (-(bnR (patM 0 0 t F).r).y) 0) = l.map (fun r => Sh (qU F t) (qV F t) (RN t r)) := fun l hl => by
    rw [eu, ev, List.map_map]
    exact map_same fun r hr => by
      show rcM _ _ 0 (rcM 0 0 t r) = _
      rw [rcM_RN (hl r hr) t, rcM_Sh (RN_nn (hl r hr) t)]
  exact ⟨key _ h.1, key _ h.2.1, key _ h.2.2⟩
theorem qt_map {F : Pat} (h : nnB F) (ho : oB F = true) (t : Nat) : qtF F t = mapP (fun r => Sh (qU F t) (qV F t) (RN t r)) F := by
  obtain ⟨e1, e2, e3⟩ := qt_r h t
  have er : (patM 0 0 t F).r = F.r.map (RN t) := map_same fun r hr => rcM_RN (h.1 r hr) t
  have eu : -(bnR (patM 0 0 t F).r).x = qU F t := by rw [er]; rfl
  have ev : -(bnR (patM 0 0 t F).r).y = qV F t := by rw [er]; rfl
  have e4 : (qtF F t).b = F.b.map (bm (fun r => Sh (qU F t) (qV F t) (RN t r))) := by
    show List.zipWith fix F.b ((F.b.map (bdM 0 0 t)).map (bdM (-(bnR (patM 0 0 t F).r).x) (-(bnR (patM 0 0 t F).r).y) 0)) = _
    rw [eu, ev, List.map_map, zip_map]
    exact map_same fun b hb => by
      have := List.all_eq_true.1 ho b hb
      show (if odB b then inO _ else _) = _
      rw [if_pos this]
      exact bd_ord this _ _ t
  show (⟨(qtF F t).r, (qtF F t).c, (qtF F t).f, (qtF F t).b⟩ : Pat) = _
  rw [e1, e2, e3, e4]
  rfl
theorem odB_bm {g : Rc → Rc} {b : Bd} (h : 0 ≤ (g (bx b)).w ∧ 0 ≤ (g (bx b)).h) : odB (bm g b) = true := by
  unfold odB bm
  simp only [Bool.and_eq_true, decide_eq_true_eq]
  omega
theorem bx_nn {b : Bd} (h : odB b = true) : 0 ≤ (bx b).w ∧ 0 ≤ (bx b).h := by
  unfold odB at h
  simp only [Bool.and_eq_true, decide_eq_true_eq] at h
  simp only [bx]
  omega
theorem mapP_mapP (g k : Rc → Rc) (F : Pat) : mapP g (mapP k F) = mapP (fun r => g (k r)) F := by
  unfold mapP
  simp only [List.map_map, Pat.mk.injEq]
  exact ⟨rfl, rfl, rfl, map_same fun b _ => bm_bm g k b⟩
/-- turns add up -/
theorem qt_qt {F : Pat} (h : nnB F) (ho : oB F = true) (h0 : 0 < F.r.length) (a b : Nat) : qtF (qtF F a) b = qtF F (a + b) := by
  have hG : ∀ r : Rc, 0 ≤ r.w ∧ 0 ≤ r.h → 0 ≤ (Sh (qU F a) (qV F a) (RN a r)).w ∧ 0 ≤ (Sh (qU F a) (qV F a) (RN a r)).h := fun r hr => RN_nn hr a
  have hmap : ∀ l : List Rc, (∀ r ∈ l, 0 ≤ r.w ∧ 0 ≤ r.h) → ∀ r ∈ l.map (fun r => Sh (qU F a) (qV F a) (RN a r)), 0 ≤ r.w ∧ 0 ≤ r.h := fun l hl r hr => by
    obtain ⟨q, hq, rfl⟩ := List.mem_map.1 hr
    exact hG q (hl q hq)
  rw [qt_map h ho (a + b), qt_map h ho a, qt_map (F := mapP _ F) ⟨hmap _ h.1, hmap _ h.2.1, hmap _ h.2.2⟩ (List.all_eq_true.2 fun x hx => by
    obtain ⟨q, hq, rfl⟩ := List.mem_map.1 hx
    exact odB_bm (hG _ (bx_nn (List.all_eq_true.1 ho q hq)))) b, mapP_mapP]
  have key : ∀ r, RN b (Sh (qU F a) (qV F a) (RN a r)) = Sh (rtP b (qU F a, qV F a)).1 (rtP b (qU F a, qV F a)).2 (RN (a + b) r) := fun r => by rw [RN_Sh, RN_add r a b]
  have eb : bnR (((mapP (fun r => Sh (qU F a) (qV F a) (RN a r)) F).r).map (RN b)) = Sh (rtP b (qU F a, qV F a)).1 (rtP b (qU F a, qV F a)).2 (bnR (F.r.map (RN (a + b)))) := by
    rw [← bnR_Sh _ _ (by simpa using h0)]
    congr 1
    show (F.r.map _).map (RN b) = _
    rw [List.map_map, List.map_map]
    exact map_same fun r _ => key r
  have e : ∀ r, Sh (qU (mapP (fun r => Sh (qU F a) (qV F a) (RN a r)) F) b) (qV (mapP (fun r => Sh (qU F a) (qV F a) (RN a r)) F) b) (RN b (Sh (qU F a) (qV F a) (RN a r))) = Sh (qU F (a + b)) (qV F (a + b)) (RN (a + b) r) := fun r => by
    rw [key, Sh_Sh]
    have e1 : qU (mapP (fun r => Sh (qU F a) (qV F a) (RN a r)) F) b = -(bnR (((mapP (fun r => Sh (qU F a) (qV F a) (RN a r)) F).r).map (RN b))).x := rfl
    have e2 : qV (mapP (fun r => Sh (qU F a) (qV F a) (RN a r)) F) b = -(bnR (((mapP (fun r => Sh (qU F a) (qV F a) (RN a r)) F).r).map (RN b))).y := rfl
    rw [e1, e2, eb, show qU F (a + b) = -(bnR (F.r.map (RN (a + b)))).x from rfl, show qV F (a + b) = -(bnR (F.r.map (RN (a + b)))).y from rfl]
    simp only [Sh, Rc.mk.injEq, and_self, and_true]
    refine ⟨?_, ?_⟩ <;> omega
  congr 1
  funext r
  exact e r
theorem qt_mod {F : Pat} {n : Nat} (h : nnB F) (hn : n < 8) (ho : oB F = true) : qtF F (n % 4) = qtF F n := by
  have e : (fun r => RN (n % 4) r) = fun r => RN n r := funext fun r => RN_mod r hn
  rw [qt_map h ho, qt_map h ho]
  unfold qU qV
  rw [show RN (n % 4) = RN n from e]
end RG
end Go.Proofs.Ytjnfodbniohkhaa
