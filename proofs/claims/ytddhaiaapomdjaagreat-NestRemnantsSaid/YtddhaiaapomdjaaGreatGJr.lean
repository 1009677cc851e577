/-
  Nests, plain: what pieces that are placed one by one get, and that a place that is found is right.
  Nests: arguments opened: lists of rectangles, settings, placements, pieces, sheets.
  Nests: Nest of the code: what stands while pieces are placed one by one.
  Nests: Nest of the code, one piece after another.
  Nests, plain: the chapter's example: where its pieces go.
  Nests: the chapter's example comes true.
-/
import Derived.Test.YtddhaiaapomdjaaGreatGIr
import Derived.Test.YtddhaiaapomdjaaGreatGHr
set_option linter.unusedVariables false
set_option linter.unusedSimpArgs false
namespace Go.Proofs.YtddhaiaapomdjaaGreat
set_option linter.unusedVariables false
set_option linter.unusedSimpArgs false
open Go Go.ChangeShapes Go.WideShapes Go.ChangeAt Go.RowKit Go.Deep

namespace RG
/-- the rectangles of a piece at a place -/
abbrev plc (p : Pc) (k : Nat) (x y : Int) : List Rc := (tnL p.r k p.r).map (mvR x y)
/-- r is the first place of a piece on a sheet beside what is there -/
def FitR (s : ShT) (L : List Rc) (p : Pc) (t : St) (r : Option (Nat × Int × Int)) : Prop := ∃ o : Nat → Option (Int × Int), TnO s.wd s.ht (fun k => alB p.mt s.mt p.ga s.ga p.gr s.gr k) p.r (s.cl ++ s.us) L t o ∧ FtO o r
abbrev NsO := Option (Nat × Nat × Int × Int)
/-- what one result takes on a sheet -/
def tkO (k : Nat) (p : Pc) : NsO → List (List Rc)
  | some (j, t, x, y) => if j = k then [plc p t x y] else []
  | none => []
/-- the lists of rectangles that the first i pieces take on a sheet -/
def tkX (Ps : List Pc) (rs : Nat → NsO) (k : Nat) : Nat → List (List Rc)
  | 0 => []
  | i + 1 => tkX Ps rs k i ++ (match Ps[i]? with | some p => tkO k p (rs i) | none => [])
/-- the results of all pieces, one by one -/
def NsR (S : List ShT) (Ps : List Pc) (t : St) (rs : Nat → NsO) : Prop :=
  ∀ i p, Ps[i]? = some p → ∃ r : Nat → Option (Nat × Int × Int), (∀ k s, S[k]? = some s → FitR s (tkX Ps rs k i).flatten p t (r k)) ∧ rs i = fdS S.length r S.length
theorem fdS_some {n : Nat} {r : Nat → Option (Nat × Int × Int)} {k t : Nat} {x y : Int} : ∀ {j : Nat}, j ≤ n → fdS n r j = some (k, t, x, y) → k < n ∧ r k = some (t, x, y)
  | 0, _, h => by simp [fdS] at h
  | j + 1, hj, h => by
    rw [fdS] at h
    cases hr : r (n - (j + 1)) with
    | none => rw [hr] at h; exact fdS_some (by omega) h
    | some v =>
      obtain ⟨a, b, c⟩ := v
      rw [hr] at h
      simp only [Option.some.injEq, Prod.mk.injEq] at h
      obtain ⟨rfl, rfl, rfl, rfl⟩ := h
      exact ⟨by omega, hr⟩
theorem tkX_len (Ps : List Pc) (rs : Nat → NsO) (k : Nat) : ∀ i, (tkX Ps rs k i).length ≤ i
  | 0 => by simp [tkX]
  | i + 1 => by
    have := tkX_len Ps rs k i
    have h2 : (match Ps[i]? with | some p => tkO k p (rs i) | none => []).length ≤ 1 := by
      split
      · unfold tkO
        split
        · split <;> simp
        · simp
      · simp
    rw [tkX, List.length_append]
    omega
theorem tkX_some {Ps : List Pc} {rs : Nat → NsO} {i : Nat} {p : Pc} {j t : Nat} {x y : Int} (hp : Ps[i]? = some p) (hr : rs i = some (j, t, x, y)) (k : Nat) : tkX Ps rs k (i + 1) = if j = k then tkX Ps rs k i ++ [plc p t x y] else tkX Ps rs k i := by
  rw [tkX, hp]
  dsimp only
  rw [hr, tkO]
  split
  · rfl
  · simp
theorem tkX_none {Ps : List Pc} {rs : Nat → NsO} {i : Nat} {p : Pc} (hp : Ps[i]? = some p) (hr : rs i = none) (k : Nat) : tkX Ps rs k (i + 1) = tkX Ps rs k i := by
  rw [tkX, hp]
  dsimp only
  rw [hr, tkO]
  simp
/-- a place that is found: the piece lies well there, clear of what is there -/
theorem fit_right {s : ShT} {L : List Rc} {p : Pc} {t : St} {k : Nat} {x y : Int} (hp : PcG p) (hS : ShG s) (ht : (0 ≤ t.g ∧ t.g ≤ 14400) ∧ 0 ≤ t.m ∧ t.m ≤ 14400) (hL : ∀ r ∈ L, vrR r = true) (h : FitR s L p t (some (k, x, y))) :
    k < 4 ∧ alB p.mt s.mt p.ga s.ga p.gr s.gr k = true ∧ PlP (inmR s.wd s.ht t.m) (s.cl ++ s.us) L t (tnL p.r k p.r) x y := by
  obtain ⟨o, ho, hr⟩ := h
  obtain ⟨hk, hok, _⟩ := hr.yes k x y rfl
  have hal : alB p.mt s.mt p.ga s.ga p.gr s.gr k = true := by
    cases e : alB p.mt s.mt p.ga s.ga p.gr s.gr k with
    | true => rfl
    | false => rw [ho.no k hk e] at hok; cases hok
  refine ⟨hk, hal, ?_⟩
  have hf := ((ho.yes k hk hal).yes x y hok).1
  have hw := hS.wd
  have hh := hS.ht
  exact (place_iff (hp.atT k) (by dsimp only; omega) (by dsimp only; omega) hS.v hL ht.1.1 x y).1 hf
theorem plp_lw {s : ShT} {p : Pc} {L : List Rc} {t : St} {k : Nat} {x y : Int} (hal : alB p.mt s.mt p.ga s.ga p.gr s.gr k = true) (h : PlP (inmR s.wd s.ht t.m) (s.cl ++ s.us) L t (tnL p.r k p.r) x y) : lwB p.mt p.ga p.gr (plc p k x y) s k t.m = true := by
  unfold lwB
  rw [hal, Bool.true_and, Bool.and_eq_true]
  constructor
  · unfold aiB
    rw [List.all_eq_true]
    intro r hr
    obtain ⟨q, hq, rfl⟩ := List.mem_map.1 hr
    exact h.ins q hq
  · unfold npB
    rw [Bool.not_eq_true', List.any_eq_false]
    intro r hr
    obtain ⟨q, hq, rfl⟩ := List.mem_map.1 hr
    rw [Bool.not_eq_true, List.any_eq_false]
    intro o ho
    rw [h.hard q hq o ho]
    decide
theorem plp_ic {i : Rc} {hard : List Rc} {l : List Rc} {L : List RS} {t : St} {x y : Int} (h : PlP i hard (allR L) t l x y) : icB t (l.map (mvR x y)) L = true := by
  unfold icB
  rw [List.all_eq_true]
  intro z hz
  unfold npB
  rw [Bool.not_eq_true', List.any_eq_false]
  intro r hr
  obtain ⟨q, hq, rfl⟩ := List.mem_map.1 hr
  rw [Bool.not_eq_true, List.any_eq_false]
  intro o ho
  rw [h.soft q hq o (List.mem_flatMap.2 ⟨z, hz, ho⟩)]
  decide
theorem plp_va {i : Rc} {hard L : List Rc} {l : List Rc} {t : St} {x y : Int} (h : PlP i hard L t l x y) : ∀ r ∈ l.map (mvR x y), vrR r = true := by
  intro r hr
  obtain ⟨q, hq, rfl⟩ := List.mem_map.1 hr
  exact ((isR_iff _ _).1 (h.ins q hq)).1.1
/-- all that is taken is valid -/
theorem tkX_va {S : List ShT} {Ps : List Pc} {t : St} {rs : Nat → NsO} (hP : ∀ p ∈ Ps, PcG p) (hS : ∀ s ∈ S, ShG s) (ht : (0 ≤ t.g ∧ t.g ≤ 14400) ∧ 0 ≤ t.m ∧ t.m ≤ 14400) (h : NsR S Ps t rs) (k : Nat) : ∀ i, ∀ r ∈ (tkX Ps rs k i).flatten, vrR r = true
  | 0 => by simp [tkX]
  | i + 1 => by
    have ih := tkX_va hP hS ht h k i
    cases hp : Ps[i]? with
    | none => rw [tkX, hp]; simpa using ih
    | some p =>
      cases hr : rs i with
      | none => rw [tkX_none hp hr]; exact ih
      | some v =>
        obtain ⟨j, u, x, y⟩ := v
        rw [tkX_some hp hr]
        split
        · rename_i hjk
          subst hjk
          obtain ⟨r, h1, h2⟩ := h i p hp
          rw [hr] at h2
          obtain ⟨h3, h4⟩ := fdS_some (Nat.le_refl _) h2.symm
          have hs := List.getElem?_eq_getElem h3
          have := (fit_right (hP p (List.mem_of_getElem? hp)) (hS _ (List.mem_of_getElem? hs)) ht ih (h4 ▸ h1 j _ hs)).2.2
          have hv := plp_va this
          intro r hr
          rw [List.flatten_append, List.mem_append] at hr
          rcases hr with hr | hr
          · exact ih r hr
          · exact hv r (by simpa using hr)
        · exact ih
/-- what a place is when it is far -/
theorem plp_xy {s : ShT} {L : List Rc} {p : Pc} {t : St} {k : Nat} {x y : Int} (hp : PcG p) (hS : ShG s) (htm : 0 ≤ t.m) (h : PlP (inmR s.wd s.ht t.m) (s.cl ++ s.us) L t (tnL p.r k p.r) x y) : (-1048576 ≤ x ∧ x ≤ 1048576) ∧ -1048576 ≤ y ∧ y ≤ 1048576 := by
  have a := hp.atT k
  obtain ⟨r, hr, hr0⟩ := a.zx
  obtain ⟨q, hq, hq0⟩ := a.zy
  have h1 := ((isR_iff _ _).1 (h.ins r hr)).2
  have h2 := ((isR_iff _ _).1 (h.ins q hq)).2
  have h3 := (vrR_iff.1 (a.v r hr)).w
  have h4 := (vrR_iff.1 (a.v q hq)).h
  have hw := hS.wd
  have hh := hS.ht
  simp only [mvR] at h1 h2
  omega
theorem wb_va {r q : Rc} (h : wbR r q) (hp : 0 < r.w ∧ 0 < r.h) (hq : vrR q = true) : vrR r = true := by
  have a := vrR_iff.1 hq
  have a1 := a.w; have a2 := a.h; have a3 := a.x; have a4 := a.y; have a5 := a.x'; have a6 := a.y'
  unfold wbR at h
  exact vrR_iff.2 ⟨by omega, by omega, by omega, by omega, by omega, by omega⟩
/-- a rectangle in another one, both turned and moved with the piece -/
theorem wb_mv {r q : Rc} (h : wbR r q) (rs : List Rc) (k : Nat) (x y : Int) : wbR (mvR x y (tnR rs k r)) (mvR x y (tnR rs k q)) := by
  have h1 := wbR_RN h k
  unfold wbR at h1 ⊢
  simp only [mvR, tnR, Sh]
  omega
/-- holes stay in the piece, so what a piece in place has is valid -/
theorem put_va {s : ShT} {L : List Rc} {p : Pc} {t : St} {k : Nat} {x y : Int} (hp : PcG p) (h : PlP (inmR s.wd s.ht t.m) (s.cl ++ s.us) L t (tnL p.r k p.r) x y) :
    (vaB ((tnL p.r k p.r).map (mvR x y)) && (vaB ((tnL p.r k p.c).map (mvR x y)) && vaB ((tnL p.r k p.f).map (mvR x y)))) = true := by
  have hv := plp_va h
  have key : ∀ l : List Rc, vaB l = true → (∀ r ∈ l, p.r.any (stB r) = true) → vaB ((tnL p.r k l).map (mvR x y)) = true := fun l hl hs => by
    refine vaB_iff.2 fun r hr => ?_
    obtain ⟨u, hu, rfl⟩ := List.mem_map.1 hr
    obtain ⟨c, hc, rfl⟩ := List.mem_map.1 hu
    obtain ⟨q, hq, hcq⟩ := List.any_eq_true.1 (hs c hc)
    have h1 := stB_in hcq
    have hw : wbR c q := by unfold wbR; omega
    refine wb_va (wb_mv hw p.r k x y) ?_ (hv _ (List.mem_map_of_mem (List.mem_map_of_mem hq)))
    exact RN_pos (vr_pos (vaB_iff.1 hl c hc)) k
  have ho := hp.ho
  simp only [hoFB, Bool.and_eq_true, List.all_eq_true] at ho
  rw [Bool.and_eq_true, Bool.and_eq_true]
  refine ⟨vaB_iff.2 hv, key _ hp.vc fun r hr => ?_, key _ hp.vf ho.2⟩
  have := ho.1 r hr
  simp only [hcB, Bool.and_eq_true] at this
  exact this.2.2
/-- apart from what is placed -/
structure NsA (P T : Nat) (tk : List Tk) (q : Option Nat) : Prop where
  p : q ≠ some P
  t : q ≠ some T
  d : ∀ (k : Nat) (x : Tk), tk[k]? = some x → ∀ a, x.D = some a → q ≠ some a.block
  y : ∀ (k : Nat) (x : Tk), tk[k]? = some x → ∀ y ∈ x.L, y.l ≠ [] → ∀ a, y.A = some a → q ≠ some a.block
theorem NsA.none (P T : Nat) (tk : List Tk) : NsA P T tk none := ⟨nofun, nofun, fun _ _ _ _ _ => nofun, fun _ _ _ _ _ _ _ _ => nofun⟩
theorem NsS.far_row {w w' : World} {lo P T : Nat} {pl : List Bool} {tk : List Tk} {q : Option Nat} (h : NsS w lo P T pl tk) (ha : NsA P T tk q) (g : Kx (fun i => q = some i) w w') : NsS w' lo P T pl tk := by
  have hp := h.lp
  have ht := h.lt
  have hs := h.sz
  refine ⟨fun i b hb => (g.cell (by omega) ha.p _).trans (h.p i b hb), fun i => (g.frozen (by omega) ha.p _).trans (h.pf i), fun k x hx => (g.cell (by omega) ha.t _).trans (h.t k x hx), fun i => (g.frozen (by omega) ha.t _).trans (h.tf i), fun k x hk => (h.ow k x hk).kx g (fun i hi hX => ?_), fun k x hk y hy' => SlR.kx (h.el k x hk y hy') g (fun hl a hA => ha.y k x hk y hy' hl a hA), h.far, h.dj, hp, ht, Nat.le_trans hs g.size, h.ne⟩
  have h1 := (own_map (h.ow k x hk)).1 hi
  cases hD : x.D with
  | none => rw [hD] at h1; cases h1
  | some b =>
    rw [hD] at h1
    have : b.block = i := by simpa using h1
    exact ha.d k x hk b hD (by rw [this]; exact hX)
/-- a row apart from what is placed stays so, when a piece is added -/
theorem NsA.add {w : World} {P T : Nat} {tk : List Tk} {q : Option Nat} {j : Nat} {z : Tk} {D : Option Addr} {c : Nat} {u : RS} (h : NsA P T tk q) (hz : tk[j]? = some z) (hq : ∀ b, q = some b → b < w.heap.size)
    (hD : ∀ g, D.map Addr.block = some g → z.D.map Addr.block = some g ∨ w.heap.size ≤ g) (hu : u.l ≠ [] → ∀ a, u.A = some a → w.heap.size ≤ a.block) : NsA P T (tk.set j ⟨D, c, z.L ++ [u]⟩) q := by
  refine ⟨h.p, h.t, fun k x hx a ha => ?_, fun k x hx y hy hl a ha => ?_⟩
  · rw [List.getElem?_set] at hx
    by_cases e : j = k
    · rw [if_pos e] at hx
      split at hx
      · obtain rfl := Option.some.inj hx
        dsimp only at ha
        intro hqa
        rcases hD a.block (by rw [ha]; rfl) with h1 | h1
        · cases hzD : z.D with
          | none => rw [hzD] at h1; cases h1
          | some b =>
            rw [hzD] at h1
            have : b.block = a.block := by simpa using h1
            exact h.d j z hz b hzD (by rw [this]; exact hqa)
        · have := hq _ hqa; omega
      · cases hx
    · rw [if_neg e] at hx
      exact h.d k x hx a ha
  · rw [List.getElem?_set] at hx
    by_cases e : j = k
    · rw [if_pos e] at hx
      split at hx
      · obtain rfl := Option.some.inj hx
        dsimp only at hy
        rcases List.mem_append.1 hy with hy | hy
        · exact h.y j z hz y hy hl a ha
        · rw [List.mem_singleton] at hy
          subst hy
          intro hqa
          have := hu hl a ha
          have := hq _ hqa
          omega
      · cases hx
    · rw [if_neg e] at hx
      exact h.y k x hx y hy hl a ha
/-- a new row is apart from what is placed -/
theorem NsS.apart {w : World} {lo P T : Nat} {pl : List Bool} {tk : List Tk} (h : NsS w lo P T pl tk) {q : Nat} (hq : w.heap.size ≤ q) : NsA P T tk (some q) := by
  have hp := h.lp
  have ht := h.lt
  have hs := h.sz
  refine ⟨fun e => ?_, fun e => ?_, fun k x hx a ha e => ?_, fun k x hx y hy' hl a ha e => ?_⟩
  · have := Option.some.inj e; omega
  · have := Option.some.inj e; omega
  · have := (World.ownsRow.lt (h.ow k x hx) a.block ((own_map (h.ow k x hx)).2 (by rw [ha]; rfl))).2
    have := Option.some.inj e
    omega
  · obtain ⟨r, hr⟩ : ∃ r, y.l[0]? = some r := ⟨_, List.getElem?_eq_getElem (List.length_pos_iff.2 hl)⟩
    obtain ⟨b, off, hA, c0, _⟩ := (h.el k x hx y hy').at_ hr
    rw [ha] at hA
    obtain rfl := Option.some.inj hA
    have : b < w.heap.size := cell_lt (by rw [c0]; rfl)
    have := Option.some.inj e
    dsimp only at this
    omega
theorem tkX_fl {Ps : List Pc} {rs : Nat → NsO} (hP : ∀ p ∈ Ps, PcG p) (k : Nat) : ∀ i, (tkX Ps rs k i).flatten.length ≤ 12 * i
  | 0 => by simp [tkX]
  | i + 1 => by
    have ih := tkX_fl hP k i (rs := rs)
    cases hp : Ps[i]? with
    | none => rw [tkX, hp]; simp only [List.append_nil]; omega
    | some p =>
      have hn := (hP p (List.mem_of_getElem? hp)).n1
      cases hr : rs i with
      | none => rw [tkX_none hp hr]; omega
      | some v =>
        obtain ⟨j, u, x, y⟩ := v
        rw [tkX_some hp hr]
        split
        · rw [List.flatten_append, List.length_append]
          simp only [List.flatten_cons, List.flatten_nil, List.append_nil, List.length_map, tnL]
          omega
        · omega
theorem allR_map (L : List RS) : allR L = (L.map RS.l).flatten := by
  unfold allR
  rw [List.flatMap_def]
theorem fstE_zero {α : Type} {f : α → Int} : ∀ {l : List α}, fstE (l.map f) = 0 → ∀ x ∈ l, f x = 0
  | [], _ => by simp
  | a :: l, h => by
    rw [List.map_cons, fstE] at h
    by_cases e : f a = 0
    · rw [if_neg (by simpa using e)] at h
      intro x hx
      rcases List.mem_cons.1 hx with rfl | hx
      · exact e
      · exact fstE_zero h x hx
    · rw [if_pos e] at h; exact absurd h e
theorem ck_good {S : List ShT} {P : List Pc} {bs : Pc → Bool} {t : St} (h : ckE S P bs t = 0) : (S.length ≤ 4 ∧ P.length ≤ 8) ∧ (∀ s ∈ S, vsE s = 0) ∧ (∀ p ∈ P, vpE p (bs p) = 0) ∧ vtB t = true := by
  unfold ckE at h
  by_cases e1 : clE S P bs = 0
  · rw [if_neg (by simpa using e1)] at h
    have ht : vtB t = true := by
      cases e : vtB t with
      | true => rfl
      | false => rw [e] at h; simp at h
    unfold clE at e1
    by_cases e2 : 4 < S.length ∨ 8 < P.length
    · rw [if_pos e2] at e1; omega
    · rw [if_neg e2] at e1
      by_cases e3 : fstE (S.map vsE) = 0
      · rw [if_neg (by simpa using e3)] at e1
        exact ⟨by omega, fstE_zero e3, fun p hp => fstE_zero (f := fun p => vpE p (bs p)) e1 p hp, ht⟩
      · rw [if_pos e3] at e1; exact absurd e1 e3
  · rw [if_pos e1] at h; exact absurd h e1
end RG
end Go.Proofs.YtddhaiaapomdjaaGreat
set_option linter.unusedVariables false
set_option linter.unusedSimpArgs false
namespace Go.Proofs.YtddhaiaapomdjaaGreat
set_option linter.unusedVariables false
set_option linter.unusedSimpArgs false
open Go Go.ChangeShapes Go.WideShapes Go.ChangeAt Go.RowKit Go.Deep

namespace RG
theorem c6Int : Tryz.prog.cellsOf 3 = 1 := by kernel_rfl
theorem c6Str : Tryz.prog.cellsOf 9 = 1 := by kernel_rfl
theorem c6Rect : Tryz.prog.cellsOf 70 = 4 := by kernel_rfl
theorem c6Sl : Tryz.prog.cellsOf 22 = 1 := by kernel_rfl
theorem i6Int : IntsAt Tryz.prog 3 1 := intsAt_int Tryz.underlying3
theorem i6Rect : IntsAt Tryz.prog 70 4 :=
  intsAt_struct (m := 4) (k := 1) Tryz.underlying70 i6Int c6Int rfl c6Rect (fun i hi => by
    match i, hi with
    | 0, _ => exact ⟨_, rfl, rfl, rfl⟩
    | 1, _ => exact ⟨_, rfl, rfl, rfl⟩
    | 2, _ => exact ⟨_, rfl, rfl, rfl⟩
    | 3, _ => exact ⟨_, rfl, rfl, rfl⟩)
theorem one6 {cs : List Value} (h : ∃ zs : List Int, zs.length = 1 ∧ cs = zs.map iv ∧ ∀ z ∈ zs, I64 z) : ∃ z : Int, cs = [iv z] ∧ I64 z := by
  obtain ⟨zs, hl, e, hb⟩ := h
  match zs, hl with
  | [z], _ => exact ⟨z, by simpa using e, hb z (by simp)⟩
/-- a placement -/
structure At6 where
  pi : Int
  sh : Int
  x : Int
  y : Int
  t : Int
abbrev at6L (z : At6) : List Value := [iv z.pi, iv z.sh, iv z.x, iv z.y, iv z.t]
section
variable {H : Type} {enc : TypeId × Value → H} {W : World}
set_option maxRecDepth 100000 in
theorem o6_rl {n : Nat} {cs : List Value} {x : DataW H × List MemPlace} (h : DataW.trod enc Tryz.prog W 0 (fun _ => true) true n 22 cs = some x) : ∃ (A : Option Addr) (c : Nat) (l : List Rc), cs = [.slice A l.length c] ∧ SlR W A c l := by
  obtain ⟨A, c, l, e, h1, _, h3, h4⟩ := open_list (c := rcL) (Ok := fun _ => True) Tryz.underlying22 c6Rect (by decide) (fun {n cs x} hx => by
    obtain ⟨zs, hz, hcs, _⟩ := i6Rect enc W 0 (fun _ => true) true _ _ _ hx
    match zs, hz with
    | [a, b, c, d], _ => exact ⟨⟨a, b, c, d⟩, hcs, trivial⟩) (fun _ => rfl) h
  exact ⟨A, c, l, e, h1, h3, by unfold maxLen at h4; omega⟩
set_option maxRecDepth 100000 in
theorem o6_rects {base : Nat} {v : Value} {d : DataW H} {ps : List MemPlace} (hv : Value.okWide Tryz.prog W .any base 22 v) (hd : DataW.Trod enc Tryz.prog W 0 (fun _ => true) true 22 v d ps) :
    ∃ (A : Option Addr) (c : Nat) (l : List Rc), v = .slice A l.length c ∧ SlR W A c l := by
  obtain ⟨A, len, cap, rfl⟩ := okWide_slice Tryz.underlying22 hv
  obtain ⟨fuel, h⟩ := hd
  obtain ⟨A', c, l, e, h1⟩ := o6_rl h
  have e' : Value.slice A len cap = .slice A' l.length c := by simpa [Value.cells] using e
  exact ⟨A', c, l, e', h1⟩
theorem c6Sh : Tryz.prog.cellsOf 24 = 8 := by kernel_rfl
set_option maxRecDepth 100000 in
theorem o6_sh {n : Nat} {cs : List Value} {x : DataW H × List MemPlace} (h : DataW.trod enc Tryz.prog W 0 (fun _ => true) true n 24 cs = some x) : ∃ s : ShT, cs = shL s ∧ ShW W s := by
  obtain ⟨xs, m, _, _, hl, hxl, hg⟩ := DataW.trod_struct Tryz.underlying24 h
  rw [c6Sh] at hl
  have hxl : xs.length = 8 := hxl
  have el : ∀ i : Nat, i < 8 → xs[i]? = some (xs[i]?.getD (.nil, [])) := fun i hi => by rw [List.getElem?_eq_getElem (by omega)]; rfl
  have f0 := field_use hg 0 9 0 rfl
  have f1 := field_use hg 1 9 1 rfl
  have f2 := field_use hg 2 3 2 rfl
  have f3 := field_use hg 3 3 3 rfl
  have f4 := field_use hg 4 3 4 rfl
  have f5 := field_use hg 5 3 5 rfl
  have f6 := field_use hg 6 22 6 rfl
  have f7 := field_use hg 7 22 7 rfl
  rw [c6Str, el 0 (by omega)] at f0
  rw [c6Str, el 1 (by omega)] at f1
  rw [c6Int, el 2 (by omega)] at f2
  rw [c6Int, el 3 (by omega)] at f3
  rw [c6Int, el 4 (by omega)] at f4
  rw [c6Int, el 5 (by omega)] at f5
  rw [c6Sl, el 6 (by omega)] at f6
  rw [c6Sl, el 7 (by omega)] at f7
  match cs, hl with
  | [c0, c1, c2, c3, c4, c5, c6, c7], _ =>
    obtain ⟨z0, e0, _, b0⟩ := DataW.trod_string Tryz.underlying9 f0
    obtain ⟨z1, e1, _, b1⟩ := DataW.trod_string Tryz.underlying9 f1
    obtain ⟨z2, e2, b2⟩ := one6 (i6Int enc W 0 _ _ m _ _ f2)
    obtain ⟨z3, e3, b3⟩ := one6 (i6Int enc W 0 _ _ m _ _ f3)
    obtain ⟨z4, e4, b4⟩ := one6 (i6Int enc W 0 _ _ m _ _ f4)
    obtain ⟨z5, e5, b5⟩ := one6 (i6Int enc W 0 _ _ m _ _ f5)
    obtain ⟨A6, q6, z6, e6, b6⟩ := o6_rl f6
    obtain ⟨A7, q7, z7, e7, b7⟩ := o6_rl f7
    simp at e0 e1 e2 e3 e4 e5 e6 e7
    subst e0 e1 e2 e3 e4 e5 e6 e7
    exact ⟨⟨z0, z1, z2, z3, z4, z5, A6, q6, z6, A7, q7, z7⟩, rfl, b6, b7, by unfold maxLen at b0; dsimp only; omega, by unfold maxLen at b1; dsimp only; omega⟩
set_option maxRecDepth 100000 in
theorem o6_sheet {base : Nat} {v : Value} {d : DataW H} {ps : List MemPlace} (hv : Value.okWide Tryz.prog W .any base 24 v) (hd : DataW.Trod enc Tryz.prog W 0 (fun _ => true) true 24 v d ps) : ∃ s : ShT, v = s.v ∧ ShW W s := by
  obtain ⟨cs, rfl, _⟩ := okWide_struct Tryz.underlying24 hv
  obtain ⟨fuel, h⟩ := hd
  simp only [Value.cells] at h
  obtain ⟨s, e, hs⟩ := o6_sh h
  obtain ⟨cl⟩ := cs
  simp only at e
  subst e
  exact ⟨s, rfl, hs⟩
end
end RG
end Go.Proofs.YtddhaiaapomdjaaGreat
set_option linter.unusedVariables false
set_option linter.unusedSimpArgs false
namespace Go.Proofs.YtddhaiaapomdjaaGreat
set_option linter.unusedVariables false
set_option linter.unusedSimpArgs false
open Go Go.ChangeShapes Go.WideShapes Go.ChangeAt Go.RowKit Go.Deep

namespace RG
/-- the placements, and the pieces left, of the first i pieces -/
def outL (rs : Nat → NsO) : Nat → List At6
  | 0 => []
  | i + 1 => outL rs i ++ (match rs i with | some (k, t, x, y) => [⟨i, k, x, y, t⟩] | none => [])
def lefL (rs : Nat → NsO) : Nat → List Int
  | 0 => []
  | i + 1 => lefL rs i ++ (match rs i with | some _ => [] | none => [(i : Int)])
theorem outL_some {rs : Nat → NsO} {i k t : Nat} {x y : Int} (h : rs i = some (k, t, x, y)) : outL rs (i + 1) = outL rs i ++ [⟨i, k, x, y, t⟩] ∧ lefL rs (i + 1) = lefL rs i := by
  rw [outL, lefL, h]
  exact ⟨rfl, by simp⟩
theorem outL_none {rs : Nat → NsO} {i : Nat} (h : rs i = none) : outL rs (i + 1) = outL rs i ∧ lefL rs (i + 1) = lefL rs i ++ [(i : Int)] := by
  rw [outL, lefL, h]
  exact ⟨by simp, rfl⟩
theorem out_len (rs : Nat → NsO) : ∀ i, (outL rs i).length ≤ i ∧ (lefL rs i).length ≤ i
  | 0 => by simp [outL, lefL]
  | i + 1 => by
    have h := out_len rs i
    cases e : rs i with
    | none => rw [(outL_none e).1, (outL_none e).2, List.length_append]; simp; omega
    | some v =>
      obtain ⟨k, t, x, y⟩ := v
      rw [(outL_some e).1, (outL_some e).2, List.length_append]
      simp
      omega
/-- what stands while pieces are placed -/
structure NsI (w0 wr : World) (lo P T B : Nat) (cs : Array Value) (pl : List Bool) (tk : List Tk) (u v : Value) (O : List At6) (Q : List Int) : Prop where
  gr : Gr w0 wr
  ns : NsS wr lo P T pl tk
  ol : OwnL wr lo 33 5 at6L u O
  oq : OwnL wr lo 3 1 inL v Q
  al : NsA P T tk u.ownBlock
  aq : NsA P T tk v.ownBlock
  dj : Dj u v
  mb : Made wr B cs
  b0 : w0.heap.size ≤ P ∧ w0.heap.size ≤ T
  b1 : B < lo
  b2 : B ≠ P ∧ B ≠ T
theorem NsI.grow {w0 wr w' : World} {lo P T B : Nat} {cs : Array Value} {pl : List Bool} {tk : List Tk} {u v : Value} {O : List At6} {Q : List Int} (h : NsI w0 wr lo P T B cs pl tk u v O Q) (g : Gr wr w') : NsI w0 w' lo P T B cs pl tk u v O Q :=
  ⟨h.gr.trans g, h.ns.gr g, h.ol.gr g, h.oq.gr g, h.al, h.aq, h.dj, Made.gr h.mb g, h.b0, h.b1, h.b2⟩
theorem NsI.low {w0 wr : World} {lo P T B : Nat} {cs : Array Value} {pl : List Bool} {tk : List Tk} {u v : Value} {O : List At6} {Q : List Int} (h : NsI w0 wr lo P T B cs pl tk u v O Q) : w0.heap.size ≤ lo := by
  have := h.b0
  have := h.ns.lp
  omega
/-- the row of the pieces left has grown -/
theorem NsI.left {w0 wa w8 : World} {lo P T B : Nat} {cs : Array Value} {pl : List Bool} {tk : List Tk} {u v : Value} {O : List At6} {Q Q' : List Int} {gg n cap : Nat} (h : NsI w0 wa lo P T B cs pl tk u v O Q)
    (ho : OwnL w8 lo 3 1 inL (.slice (some ⟨gg, 0, none⟩) n cap) Q') (hg : wa.grownBy w8 v.ownBlock) (hat : v.ownBlock = some gg ∨ gg = wa.heap.size) : NsI w0 w8 lo P T B cs pl tk u (.slice (some ⟨gg, 0, none⟩) n cap) O Q' := by
  have K : Kx (fun i => v.ownBlock = some i) wa w8 := Kx.grown (Kx.refl _ _) hg (fun k hk => .inl hk)
  have hl := h.low
  have e : (Value.slice (some ⟨gg, 0, none⟩) n cap).ownBlock = some gg := by simp [Value.ownBlock]
  refine ⟨K.toGr h.gr (fun i hi => Nat.le_trans hl (h.oq.lt i hi).1), h.ns.far_row h.aq K, h.ol.kept hg h.dj.ne, ho, h.al, ?_, ?_, Made.kx h.mb K (fun e => by have := (h.oq.lt B e).1; have := h.b1; omega), h.b0, h.b1, h.b2⟩
  · rw [e]
    rcases hat with a | a
    · rw [← a]; exact h.aq
    · exact h.ns.apart (by omega)
  · intro b hb
    rw [e]
    intro q
    obtain rfl := Option.some.inj q
    rcases hat with a | a
    · exact h.dj gg hb a
    · have := (h.ol.lt gg hb).2; omega
/-- the row of the placements has grown -/
theorem NsI.right {w0 wa w8 : World} {lo P T B : Nat} {cs : Array Value} {pl : List Bool} {tk : List Tk} {u v : Value} {O O' : List At6} {Q : List Int} {gg n cap : Nat} (h : NsI w0 wa lo P T B cs pl tk u v O Q)
    (ho : OwnL w8 lo 33 5 at6L (.slice (some ⟨gg, 0, none⟩) n cap) O') (hg : wa.grownBy w8 u.ownBlock) (hat : u.ownBlock = some gg ∨ gg = wa.heap.size) : NsI w0 w8 lo P T B cs pl tk (.slice (some ⟨gg, 0, none⟩) n cap) v O' Q := by
  have K : Kx (fun i => u.ownBlock = some i) wa w8 := Kx.grown (Kx.refl _ _) hg (fun k hk => .inl hk)
  have hl := h.low
  have e : (Value.slice (some ⟨gg, 0, none⟩) n cap).ownBlock = some gg := by simp [Value.ownBlock]
  refine ⟨K.toGr h.gr (fun i hi => Nat.le_trans hl (h.ol.lt i hi).1), h.ns.far_row h.al K, ho, h.oq.kept hg h.dj.symm.ne, ?_, h.aq, ?_, Made.kx h.mb K (fun e => by have := (h.ol.lt B e).1; have := h.b1; omega), h.b0, h.b1, h.b2⟩
  · rw [e]
    rcases hat with a | a
    · rw [← a]; exact h.al
    · exact h.ns.apart (by omega)
  · intro b hb q
    rw [e] at hb
    obtain rfl := Option.some.inj hb
    rcases hat with a | a
    · exact h.dj gg a q
    · have := (h.oq.lt gg q).2; omega
/-- a piece has been added -/
theorem NsI.add {w0 wa wb : World} {lo P T B : Nat} {cs : Array Value} {pl pl' : List Bool} {tk : List Tk} {u v : Value} {O : List At6} {Q : List Int} {j : Nat} {z : Tk} {D : Option Addr} {c : Nat} {r : RS} (h : NsI w0 wa lo P T B cs pl tk u v O Q) (hz : tk[j]? = some z)
    (hn : NsS wb lo P T pl' (tk.set j ⟨D, c, z.L ++ [r]⟩)) (K : Kx (fun u => u = P ∨ u = T ∨ (z.D.map Addr.block) = some u) wa wb) (hD : ∀ g, D.map Addr.block = some g → z.D.map Addr.block = some g ∨ wa.heap.size ≤ g) (hr : r.l ≠ [] → ∀ a, r.A = some a → wa.heap.size ≤ a.block) : NsI w0 wb lo P T B cs pl' (tk.set j ⟨D, c, z.L ++ [r]⟩) u v O Q := by
  have hl := h.low
  have hzl : ∀ i, z.D.map Addr.block = some i → lo ≤ i := fun i hi => (World.ownsRow.lt (h.ns.ow j z hz) i ((own_map (h.ns.ow j z hz)).2 hi)).1
  have key : ∀ {q : Option Nat}, NsA P T tk q → ∀ i, q = some i → ¬ (i = P ∨ i = T ∨ (z.D.map Addr.block) = some i) := fun ha i hi => by
    rintro (rfl | rfl | e)
    · exact ha.p hi
    · exact ha.t hi
    · cases hd : z.D with
      | none => rw [hd] at e; cases e
      | some a =>
        rw [hd] at e
        have : a.block = i := by simpa using e
        exact ha.d j z hz a hd (by rw [this]; exact hi)
  refine ⟨K.toGr h.gr (fun i hi => ?_), hn, h.ol.kx K (key h.al), h.oq.kx K (key h.aq), h.al.add hz (fun b hb => (h.ol.lt b hb).2) hD hr, h.aq.add hz (fun b hb => (h.oq.lt b hb).2) hD hr, h.dj, Made.kx h.mb K (fun e => ?_), h.b0, h.b1, h.b2⟩
  · have := h.b0
    rcases hi with rfl | rfl | e
    · omega
    · omega
    · exact Nat.le_trans hl (hzl i e)
  · have := h.b1
    rcases e with e | e | e
    · exact h.b2.1 e
    · exact h.b2.2 e
    · have := hzl B e; omega
end RG
end Go.Proofs.YtddhaiaapomdjaaGreat
set_option linter.unusedVariables false
set_option linter.unusedSimpArgs false
namespace Go.Proofs.YtddhaiaapomdjaaGreat
set_option linter.unusedVariables false
set_option linter.unusedSimpArgs false
open Go Go.ChangeShapes Go.WideShapes Go.ChangeAt Go.RowKit Go.Deep

namespace RG
theorem elPl : ElT Tryz.prog 43 33 5 40 := elT_of (atv 0 0 0 0 0) (by kernel_rfl) (by kernel_rfl) rfl
theorem elIn6 : ElT Tryz.prog 44 3 1 8 := elT_of (iv 0) (by kernel_rfl) (by kernel_rfl) rfl
theorem add6 {S : List ShT} {Ps : List Pc} {t : St} {rs : Nat → NsO} {bs : Pc → Bool} {k j u : Nat} {x y : Int} {p : Pc} (z3 : ∀ s ∈ S, vsE s = 0) (z4 : ∀ p ∈ Ps, vpE p (bs p) = 0) (z5 : vtB t = true) (hr : NsR S Ps t rs) (hp : Ps[k]? = some p) (hk : rs k = some (j, u, x, y)) :
    ∃ s, S[j]? = some s ∧ u < 4 ∧ PcG p ∧ ShG s ∧ alB p.mt s.mt p.ga s.ga p.gr s.gr u = true ∧ PlP (inmR s.wd s.ht t.m) (s.cl ++ s.us) (tkX Ps rs j k).flatten t (tnL p.r u p.r) x y := by
  have hPG : ∀ p ∈ Ps, PcG p := fun p hp => (vpE_good (z4 p hp)).1
  have hSG : ∀ s ∈ S, ShG s := fun s hs => vsE_good (z3 s hs)
  obtain ⟨r, h1, h2⟩ := hr k p hp
  rw [hk] at h2
  obtain ⟨h3, h4⟩ := fdS_some (Nat.le_refl _) h2.symm
  have hs := List.getElem?_eq_getElem h3
  have hf := h1 j _ hs
  rw [h4] at hf
  obtain ⟨a, b, c⟩ := fit_right (hPG p (List.mem_of_getElem? hp)) (hSG _ (List.mem_of_getElem? hs)) (vtB_iff.1 z5) (tkX_va hPG hSG (vtB_iff.1 z5) hr j k) hf
  exact ⟨_, hs, a, hPG p (List.mem_of_getElem? hp), hSG _ (List.mem_of_getElem? hs), b, c⟩
theorem fic6 {S : List ShT} {Ps : List Pc} {t : St} {rs : Nat → NsO} {bs : Pc → Bool} {k : Nat} {p : Pc} {r : Nat → Option (Nat × Int × Int)} {w0 wr : World} {lo P T B c d : Nat} {cs : Array Value} {pl : List Bool} {tk : List Tk} {u v : Value} {O : List At6} {Q : List Int} {A A' : Option Addr}
    (hS : SlS w0 A c S) (hP : SlP w0 A' d Ps) (hb : CoBs Ps bs) (z2 : Ps.length ≤ 8) (z3 : ∀ s ∈ S, vsE s = 0) (z4 : ∀ p ∈ Ps, vpE p (bs p) = 0) (z5 : vtB t = true) (hr : NsR S Ps t rs) (hp : Ps[k]? = some p) (hI : NsI w0 wr lo P T B cs pl tk u v O Q)
    (htk : ∀ (j : Nat) (z : Tk), tk[j]? = some z → z.L.map RS.l = tkX Ps rs j k) (hf : ∀ j s, S[j]? = some s → FitR s (tkX Ps rs j k).flatten p t (r j)) (j : Nat) (s : ShT) (x : Tk) (hs : S[j]? = some s) (hx : tk[j]? = some x) : FiC wr s x.D x.q x.L.length p t (r j) := by
  have hPG : ∀ p ∈ Ps, PcG p := fun p hp => (vpE_good (z4 p hp)).1
  have hSG : ∀ s ∈ S, ShG s := fun s hs => vsE_good (z3 s hs)
  have hk : k < Ps.length := (List.getElem?_eq_some_iff.1 hp).1
  have e := htk j x hx
  have e1 : allR x.L = (tkX Ps rs j k).flatten := by rw [allR_map, e]
  have e2 : x.L.length ≤ 1000 := by
    have := congrArg List.length e
    rw [List.length_map] at this
    have := tkX_len Ps rs j k
    omega
  have e3 : (allR x.L).length ≤ 1000 := by
    rw [e1]
    have := tkX_fl (rs := rs) hPG j k
    omega
  have e4 : ∀ r ∈ allR x.L, vrR r = true := by rw [e1]; exact tkX_va hPG hSG (vtB_iff.1 z5) hr j k
  obtain ⟨o, ho, hft⟩ := hf j s hs
  rw [← e1] at ho
  have hps := List.mem_of_getElem? hp
  have hss := List.mem_of_getElem? hs
  exact ⟨fun w' g' => fit_any s x.D x.q x.L p (bs p) t o (r j) w' ((hS.el s hss).gr (hI.gr.trans g')) ((hI.ns.slrr hx).gr g') ((hP.el p hps).gr (hI.gr.trans g')) (hb p hps) (z4 p hps) (hSG s hss) (vtB_iff.1 z5).1 (vtB_iff.1 z5).2 e2 e3 e4 ho hft⟩
set_option maxHeartbeats 8000000 in
set_option maxRecDepth 100000 in
theorem Nest_good (A : Option Addr) (c : Nat) (S : List ShT) (B : Option Addr) (d : Nat) (Ps : List Pc) (bs : Pc → Bool) (t : St) (rs : Nat → NsO) (w : World) (hS : SlS w A c S) (hP : SlP w B d Ps) (hb : CoBs Ps bs) (h0 : ckE S Ps bs t = 0) (hr : NsR S Ps t rs) :
    Calls Tryz.prog 10 #[.slice A S.length c, .slice B Ps.length d, stvv t] w fun e w' => ∃ u v : Value, e = .returned (.tuple #[u, v, iv 0]) ∧ OwnL w' w.heap.size 33 5 at6L u (outL rs Ps.length) ∧ OwnL w' w.heap.size 3 1 inL v (lefL rs Ps.length) ∧ Gr w w' := by
  obtain ⟨⟨z1, z2⟩, z3, z4, z5⟩ := ck_good h0
  have HCK := hide (fun (w' : World) (g : Gr w w') => check_any6 A c S B d Ps bs t w' (hS.gr g) (hP.gr g) hb)
  rw [h0] at HCK
  have HNN := hide (fun (w' : World) => newNesting_any A c S.length B d Ps.length t w' z1 z2)
  have HFIC := hide (fun (k : Nat) (p : Pc) (r : Nat → Option (Nat × Int × Int)) (wr : World) (lo P T B' : Nat) (cs : Array Value) (pl : List Bool) (tk : List Tk) (u v : Value) (O : List At6) (Q : List Int) (hp : Ps[k]? = some p) (hI : NsI w wr lo P T B' cs pl tk u v O Q) (htk) (hf) => fic6 (bs := bs) (r := r) (rs := rs) (t := t) hS hP hb z2 z3 z4 z5 hr hp hI htk hf)
  have HADD := hide (fun (k j u : Nat) (x y : Int) (p : Pc) (hp : Ps[k]? = some p) (hk : rs k = some (j, u, x, y)) => add6 (bs := bs) z3 z4 z5 hr hp hk)
  have Z3 := hide z3
  have Z4 := hide z4
  have Z5 := hide z5
  have HS := hide hS
  have HP := hide hP
  have HR := hide hr
  have HB := hide hb
  have n1 := hS.cap
  have n2 := hS.capB
  have n3 := hP.cap
  have n4 := hP.capB
  obtain ⟨g, m, cm⟩ := t
  clear hS hP hb h0 hr z3 z4 z5
  go_enter Tryz.func10, Tryz.ntmps10
  go_wp2_with fail
  refine (HCK.out _ (by with_reducible repeat (first | exact Gr.refl _ | assumption | refine Gr.alloc ?_ _ | refine Gr.drewN ?_ _ | refine Gr.drew ?_ | refine Gr.setCell ?_ (by first | (dsimp only; omega) | (simp only [World.size_alloc]; omega) | (refine Gr.size ?_; (repeat (first | exact Gr.refl _ | assumption | refine Gr.alloc ?_ _ | refine Gr.drewN ?_ _ | refine Gr.drew ?_ | refine Gr.trans ?_ (by assumption))); done)) _ | refine Gr.trans ?_ (by assumption)))).mono ?_
  rintro e w1 ⟨rfl, g1⟩
  obtain ⟨e0, y0, _⟩ := (Made.new w #[iv g, iv m, .bool cm] 29).gr g1
  have a00 := y0 0
  have a01 := y0 1
  have a02 := y0 2
  clear y0
  have gw1 : Gr w w1 := Gr.trans (by with_reducible repeat (first | exact Gr.refl _ | assumption | refine Gr.alloc ?_ _ | refine Gr.drewN ?_ _ | refine Gr.drew ?_ | refine Gr.setCell ?_ (by first | (dsimp only; omega) | (simp only [World.size_alloc]; omega) | (refine Gr.size ?_; (repeat (first | exact Gr.refl _ | assumption | refine Gr.alloc ?_ _ | refine Gr.drewN ?_ _ | refine Gr.drew ?_ | refine Gr.trans ?_ (by assumption))); done)) _ | refine Gr.trans ?_ (by assumption))) g1
  go_wp2_with fail
  refine (HNN.out _).mono ?_
  rintro e w2 ⟨P, T, rfl, ⟨hp, hpf⟩, ⟨ht, htf⟩, ⟨k1, k2, k3, k4, k5⟩, g2⟩
  have gw2 : Gr w w2 := gw1.trans g2
  have hw1 := gw1.size
  have HI0 := hide (show NsI w (w2.alloc (.cells #[.slice A S.length c, .slice B Ps.length d, iv g, iv m, .bool cm, .slice (some ⟨P, 0, none⟩) Ps.length Ps.length, .slice (some ⟨T, 0, none⟩) S.length S.length] 75)) (w2.heap.size + 1) P T w2.heap.size #[.slice A S.length c, .slice B Ps.length d, iv g, iv m, .bool cm, .slice (some ⟨P, 0, none⟩) Ps.length Ps.length, .slice (some ⟨T, 0, none⟩) S.length S.length] (List.replicate Ps.length false) (List.replicate S.length ⟨none, 0, []⟩) (.slice none 0 0) (.slice none 0 0) [] [] from by
    have ga : Gr w2 (w2.alloc (.cells #[.slice A S.length c, .slice B Ps.length d, iv g, iv m, .bool cm, .slice (some ⟨P, 0, none⟩) Ps.length Ps.length, .slice (some ⟨T, 0, none⟩) S.length S.length] 75)) := Gr.alloc (Gr.refl _) _
    have hrep : ∀ (k : Nat) (x : Tk), (List.replicate S.length (⟨none, 0, []⟩ : Tk))[k]? = some x → x = ⟨none, 0, []⟩ ∧ k < S.length := fun k x hx => by
      rw [List.getElem?_replicate] at hx
      split at hx
      · exact ⟨(Option.some.inj hx).symm, by assumption⟩
      · cases hx
    refine ⟨gw2.trans ga, ⟨fun i b hb => ?_, fun i => (ga.frozen _ _ k4).trans (hpf i), fun k x hx => ?_, fun i => (ga.frozen _ _ k5).trans (htf i), fun k x hx => ?_, fun k x hx y hy => ?_, fun k x hx y hy => ?_, fun k x j z hx hz _ a b ha _ => ?_, by omega, by omega, by simp, k3⟩, own_nil _ _ _ _ _, own_nil _ _ _ _ _, NsA.none _ _ _, NsA.none _ _ _, dj_nil _ _ _, Made.new _ _ _, ⟨by omega, by omega⟩, by omega, by omega, by omega⟩
    · rw [List.getElem?_replicate] at hb
      split at hb
      · obtain rfl := Option.some.inj hb
        exact (ga.cell _ _ k4).trans (hp i (by assumption))
      · cases hb
    · obtain ⟨rfl, hk⟩ := hrep k x hx
      exact (ga.cell _ _ k5).trans (ht k hk)
    · obtain ⟨rfl, hk⟩ := hrep k x hx
      exact own_nil _ _ _ _ _
    · obtain ⟨rfl, hk⟩ := hrep k x hx
      cases hy
    · obtain ⟨rfl, hk⟩ := hrep k x hx
      cases hy
    · obtain ⟨rfl, hk⟩ := hrep k x hx
      cases ha)
  obtain ⟨lo, hlo⟩ : ∃ lo, lo = w2.heap.size + 1 := ⟨_, rfl⟩
  rw [← hlo] at HI0
  clear hp hpf ht htf a00 a01 a02 e0 g1 g2
  go_wp2_with fail
  generalize w2.alloc (.cells #[.slice A S.length c, .slice B Ps.length d, iv g, iv m, .bool cm, .slice (some ⟨P, 0, none⟩) Ps.length Ps.length, .slice (some ⟨T, 0, none⟩) S.length S.length] 75) = w3 at *
  generalize w2.heap.size = b2 at *
  go_loopw [11, 12, 30] (fun u v i wr => ∃ (k : Nat) (pl : List Bool) (tk : List Tk) (O : List At6) (Q : List Int) (U V : Value), k ≤ Ps.length ∧ i = iv k ∧ U = u ∧ V = v ∧ Hid (NsI w wr lo P T b2 #[.slice A S.length c, .slice B Ps.length d, iv g, iv m, .bool cm, .slice (some ⟨P, 0, none⟩) Ps.length Ps.length, .slice (some ⟨T, 0, none⟩) S.length S.length] pl tk U V O Q) ∧ Hid (O = outL rs k) ∧ Hid (Q = lefL rs k) ∧ Hid (∀ m, k ≤ m → m < Ps.length → pl[m]? = some false) ∧ Hid (tk.length = S.length) ∧ Hid (∀ (j : Nat) (z : Tk), tk[j]? = some z → z.L.map RS.l = tkX Ps rs j k)) (fun _ _ i _ => Ps.length - (intOf i).toNat)
  case atStart =>
    refine ⟨0, _, _, [], [], _, _, by omega, rfl, rfl, rfl, HI0, hide rfl, hide rfl, hide fun m _ hm => ?_, hide (by simp), hide fun j z hz => ?_⟩
    · rw [List.getElem?_replicate, if_pos hm]
    · rw [List.getElem?_replicate] at hz
      split at hz
      · obtain rfl := Option.some.inj hz; rfl
      · cases hz
  case round =>
    obtain ⟨k, pl, tk, O, Q, u, v, hk, rfl, rfl, rfl, HI, HO, HQ, HPL, HTL, HTK⟩ := hrel
    obtain ⟨hOl, hQl⟩ : O.length ≤ k ∧ Q.length ≤ k := by rw [HO.out, HQ.out]; exact out_len rs k
    have gw := HI.out.gr
    obtain ⟨eB, yB, _⟩ := HI.out.mb
    have c0 := yB 0
    have c1 := yB 1
    have c2 := yB 2
    have c3 := yB 3
    have c4 := yB 4
    have c5 := yB 5
    have c6 := yB 6
    clear yB
    by_cases hkl : k < Ps.length
    · obtain ⟨p, hp⟩ : ∃ p, Ps[k]? = some p := ⟨_, List.getElem?_eq_getElem hkl⟩
      obtain ⟨r, hr1, hr2⟩ := HR.out k p hp
      have HF := hide (find_any A c S B d Ps ⟨g, m, cm⟩ P T tk k p r wr (HS.out.gr gw) (HP.out.gr gw) hp HI.out.ns.t HTL.out z1 z2 (fun j s x hs hx => HFIC.out k p r wr lo P T b2 _ pl tk u v O Q hp HI.out HTK.out hr1 j s x hs hx))
      rw [← hr2] at HF
      have HPI := hide hp
      clear hr1 hr2 hp
      cases hrk : rs k with
      | none =>
        obtain ⟨f1, f2⟩ := outL_none hrk
        rw [hrk] at HF
        have HF := hide (show Calls Tryz.prog 35 #[nsv A c S.length B d Ps.length ⟨g, m, cm⟩ P T, iv k] wr (fun e w' => e = .returned (.tuple #[atv 0 0 0 0 0, .bool false]) ∧ Gr wr w') from HF.out)
        have HO' := hide (show O = outL rs (k + 1) by rw [f1]; exact HO.out)
        have HQ' := hide (show Q ++ [(k : Int)] = lefL rs (k + 1) by rw [f2, HQ.out])
        have HTK' := hide (show ∀ (j : Nat) (z : Tk), tk[j]? = some z → z.L.map RS.l = tkX Ps rs j (k + 1) from fun j z hz => by rw [tkX_none HPI.out hrk]; exact HTK.out j z hz)
        have HPL' := hide (show ∀ m, k + 1 ≤ m → m < Ps.length → pl[m]? = some false from fun m h1 h2 => HPL.out m (by omega) h2)
        clear f1 f2 hrk HO HQ HTK HPL
        go_wp2_with fail
        refine (HF.out).mono ?_
        rintro e w5 ⟨rfl, g5⟩
        clear c0 c1 c2 c3 c4 c5 c6 eB
        go_upto_region 12 with fail
        have HI6 := hide (HI.out.grow (show Gr wr (w5.alloc (.cells #[iv 0, iv 0, iv 0, iv 0, iv 0] 33)) from Gr.alloc g5 _))
        generalize w5.alloc (.cells #[iv 0, iv 0, iv 0, iv 0, iv 0] 33) = w6 at *
        have HI7 := hide (HI6.out.grow (show Gr w6 (w6.alloc (.cells #[iv k] 3)) from Gr.alloc (Gr.refl _) _))
        have hls : lo ≤ (w6.alloc (.cells #[iv k] 3)).heap.size := HI7.out.ns.sz
        obtain ⟨Q2, hQ2⟩ : ∃ Q2, Q ++ [(k : Int)] = Q2 := ⟨_, rfl⟩
        rw [hQ2] at HQ'
        have HQ2 := hide hQ2
        clear hQ2
        go_wp2_with (refine wpList_app2 rfl _ _ _ rfl inL lo 3 1 8 elIn6 (by decide) Q k Q2 HQ2.out _ rfl HI7.out.oq _ 1 rfl rfl (by intro j u hu; refine newsA w6 #[iv k] 3 j u ?_; exact hu) (by intro u hu; simp at hu; subst hu; rfl) (by omega) (by decide) hls ?_; intro gg cap1 w8 hO8 _ hg8 hat8 _)
        have HI8 := hide (HI7.out.left hO8 hg8 hat8)
        clear hO8 hg8 hat8
        go_roundw
        case rel => exact ⟨k + 1, pl, tk, O, Q2, _, _, by omega, by go_num, rfl, rfl, HI8, HO', HQ', HPL', HTL, HTK'⟩
        case measure => simp only [intOf]; omega
      | some q =>
        obtain ⟨j, tt, x, y⟩ := q
        obtain ⟨f1, f2⟩ := outL_some hrk
        obtain ⟨s, hs, ht4, hpg, hsg, hal, hplp⟩ := HADD.out k j tt x y p HPI.out hrk
        rw [hrk] at HF
        have HF := hide (show Calls Tryz.prog 35 #[nsv A c S.length B d Ps.length ⟨g, m, cm⟩ P T, iv k] wr (fun e w' => e = .returned (.tuple #[atv k j x y tt, .bool true]) ∧ Gr wr w') from HF.out)
        obtain ⟨z, hz⟩ : ∃ z, tk[j]? = some z := ⟨_, List.getElem?_eq_getElem (by rw [HTL.out]; exact (List.getElem?_eq_some_iff.1 hs).1)⟩
        have e := HTK.out j z hz
        have e1 : allR z.L = (tkX Ps rs j k).flatten := by rw [allR_map, e]
        have hz8 : z.L.length ≤ 1000 := by
          have := congrArg List.length e
          rw [List.length_map] at this
          have := tkX_len Ps rs j k
          omega
        have hlw := plp_lw (t := ⟨g, m, cm⟩) hal hplp
        have hva := put_va (t := ⟨g, m, cm⟩) hpg hplp
        have hxy := plp_xy (t := ⟨g, m, cm⟩) hpg hsg (vtB_iff.1 Z5.out).2.1 hplp
        rw [← e1] at hplp
        have hic := plp_ic (t := ⟨g, m, cm⟩) hplp
        have hpm := List.mem_of_getElem? HPI.out
        have HU := hide (show ∀ w', Gr w w' → Calls Tryz.prog 67 #[p.v, atv k j x y tt] w' fun e w'' => PutOk p.nm p.mt p.ga p.gr (plc p tt x y) ((tnL p.r tt p.c).map (mvR x y)) ((tnL p.r tt p.f).map (mvR x y)) w' w'' e from fun w' gq => by
          refine (Put_ok p (bs p) k j x y tt w' ((HP.out.el p hpm).gr gq) (HB.out p hpm) (Z4.out p hpm) (by omega) hxy.1 hxy.2).mono fun e w'' h => ?_
          unfold PutR at h
          rwa [if_pos hva] at h)
        have HAD := hide (fun (w' : World) (h : NsI w w' lo P T b2 #[.slice A S.length c, .slice B Ps.length d, iv g, iv m, .bool cm, .slice (some ⟨P, 0, none⟩) Ps.length Ps.length, .slice (some ⟨T, 0, none⟩) S.length S.length] pl tk u v O Q) => add_ok A c S B d Ps lo P T pl tk ⟨g, m, cm⟩ k j p s z x y tt (plc p tt x y) ((tnL p.r tt p.c).map (mvR x y)) ((tnL p.r tt p.f).map (mvR x y)) w' (HS.out.gr h.gr) (HP.out.gr h.gr) h.ns HPI.out hs hz (HPL.out k (Nat.le_refl k) hkl) z1 z2 hsg (vtB_iff.1 Z5.out).2 (fun w'' gq => HU.out w'' (h.gr.trans gq)) hlw hic hz8)
        have HO' := hide (show O ++ [(⟨k, j, x, y, tt⟩ : At6)] = outL rs (k + 1) by rw [f1, HO.out])
        have HQ' := hide (show Q = lefL rs (k + 1) by rw [f2]; exact HQ.out)
        have HZ := hide hz
        have hjl : j < tk.length := (List.getElem?_eq_some_iff.1 hz).1
        have HTK' := hide (show ∀ (D : Option Addr) (q : Nat) (D1 : Option Addr) (q1 : Nat) (j' : Nat) (z' : Tk), (tk.set j ⟨D, q, z.L ++ [⟨D1, q1, plc p tt x y⟩]⟩)[j']? = some z' → z'.L.map RS.l = tkX Ps rs j' (k + 1) from fun D q D1 q1 j' z' hz' => by
          rw [tkX_some HPI.out hrk]
          rw [List.getElem?_set] at hz'
          by_cases ej : j = j'
          · subst ej
            rw [if_pos rfl, if_pos hjl] at hz'
            obtain rfl := Option.some.inj hz'
            rw [if_pos rfl, ← e]
            simp
          · rw [if_neg ej] at hz'
            rw [if_neg ej]
            exact HTK.out j' z' hz')
        have HPL' := hide (show ∀ m, k + 1 ≤ m → m < Ps.length → (pl.set k true)[m]? = some false from fun m h1 h2 => by
          rw [List.getElem?_set, if_neg (by omega)]
          exact HPL.out m (by omega) h2)
        have HTL' := hide (show ∀ z' : Tk, (tk.set j z').length = S.length from fun z' => by rw [List.length_set]; exact HTL.out)
        clear f1 f2 hrk HO HQ HTK HPL e e1 hlw hva hxy hplp hic hpm hs hz hal hpg hsg HADD HU hjl
        go_wp2_with fail
        refine (HF.out).mono ?_
        rintro e w5 ⟨rfl, g5⟩
        clear c0 c1 c2 c3 c4 c5 c6 eB
        go_upto_region 13 with fail
        have HI6 := hide (HI.out.grow (show Gr wr (w5.alloc (.cells #[iv k, iv j, iv x, iv y, iv tt] 33)) from Gr.alloc g5 _))
        have M14 := hide (Made.new w5 #[iv k, iv j, iv x, iv y, iv tt] 33)
        have hs5 : lo ≤ w5.heap.size := Nat.le_trans HI.out.ns.sz g5.size
        have hs6 : wr.heap.size ≤ w5.heap.size := g5.size
        generalize w5.alloc (.cells #[iv k, iv j, iv x, iv y, iv tt] 33) = w6 at *
        generalize w5.heap.size = b14 at *
        obtain ⟨eB, yB, _⟩ := HI6.out.mb
        have c0 := yB 0
        have c1 := yB 1
        have c2 := yB 2
        have c3 := yB 3
        have c4 := yB 4
        have c5 := yB 5
        have c6 := yB 6
        clear yB
        obtain ⟨e14, y14, _⟩ := M14.out
        have a0 := y14 0
        have a1 := y14 1
        have a2 := y14 2
        have a3 := y14 3
        have a4 := y14 4
        clear y14
        go_wp2_with fail
        refine (HAD.out w6 HI6.out).mono ?_
        rintro e w7 ⟨rfl, D, q, D1, q1, hns, hK, hD, hD1⟩
        have HI7 := hide (NsI.add HI6.out HZ.out hns hK hD hD1)
        have hnb : ¬ (b14 = P ∨ b14 = T ∨ (z.D.map Addr.block) = some b14) := by
          have q1 := HI.out.ns.lp
          have q2 := HI.out.ns.lt
          rintro (e | e | e)
          · omega
          · omega
          · have := (World.ownsRow.lt (HI.out.ns.ow j z HZ.out) b14 ((own_map (HI.out.ns.ow j z HZ.out)).2 e)).2
            omega
        have M7 := Made.kx M14.out hK hnb
        clear c0 c1 c2 c3 c4 c5 c6 eB e14 a0 a1 a2 a3 a4 hns hK hD hD1
        go_upto_region 16 with fail
        obtain ⟨e14, y14, _⟩ := M7
        have a0 := y14 0
        have a1 := y14 1
        have a2 := y14 2
        have a3 := y14 3
        have a4 := y14 4
        clear y14
        have HI8 := hide (HI7.out.grow (show Gr w7 (w7.alloc (.cells #[iv k, iv j, iv x, iv y, iv tt] 33)) from Gr.alloc (Gr.refl _) _))
        have hls : lo ≤ (w7.alloc (.cells #[iv k, iv j, iv x, iv y, iv tt] 33)).heap.size := HI8.out.ns.sz
        obtain ⟨O2, hO2⟩ : ∃ O2, O ++ [(⟨k, j, x, y, tt⟩ : At6)] = O2 := ⟨_, rfl⟩
        rw [hO2] at HO'
        have HO2 := hide hO2
        clear hO2
        go_wp2_with (refine wpList_app2 rfl _ _ _ rfl at6L lo 33 5 40 elPl (by decide) O ⟨k, j, x, y, tt⟩ O2 HO2.out _ rfl HI8.out.ol _ 1 rfl rfl (by intro j' u hu; refine newsA w7 #[iv k, iv j, iv x, iv y, iv tt] 33 j' u ?_; exact hu) (by intro u hu; simp at hu; rcases hu with rfl | rfl | rfl | rfl | rfl <;> rfl) (by omega) (by decide) hls ?_; intro gg cap1 w8 hO8 _ hg8 hat8 _)
        have HI9 := hide (HI8.out.right hO8 hg8 hat8)
        clear hO8 hg8 hat8
        go_roundw
        case rel => exact ⟨k + 1, _, _, O2, Q, _, _, by omega, by go_num, rfl, rfl, HI9, HO', HQ', HPL', hide (HTL'.out _), hide (HTK'.out D q D1 q1)⟩
        case measure => simp only [intOf]; omega
    · obtain rfl : k = Ps.length := by omega
      have HE := hide (show OwnL wr w.heap.size 33 5 at6L u (outL rs Ps.length) ∧ OwnL wr w.heap.size 3 1 inL v (lefL rs Ps.length) ∧ Gr w wr from ⟨by rw [← HO.out]; exact HI.out.ol.weak HI.out.low, by rw [← HQ.out]; exact HI.out.oq.weak HI.out.low, gw⟩)
      go_wp2
      exact bodyPost_ret (v := .tuple #[u, v, iv 0]) (by simp [results, Tryz.results10, go_sem, *]) rfl ⟨_, _, rfl, HE.out⟩
end RG
end Go.Proofs.YtddhaiaapomdjaaGreat
set_option linter.unusedVariables false
set_option linter.unusedSimpArgs false
namespace Go.Proofs.YtddhaiaapomdjaaGreat
set_option linter.unusedVariables false
set_option linter.unusedSimpArgs false
open Go Go.ChangeShapes Go.WideShapes Go.ChangeAt Go.RowKit Go.Deep

namespace RG
abbrev knS (nm mt : ByteArray) : ShT := ⟨nm, mt, 10, 0, 1000, 1000, none, 0, [], none, 0, []⟩
abbrev knP (nm mt : ByteArray) (A : Option Addr) : Pc := ⟨nm, mt, 10, 0, A, 1, [⟨0, 0, 100, 50⟩], none, 0, [], none, 0, []⟩
theorem kn_al (mt : ByteArray) (k : Nat) (h : k < 4) : alB mt mt 10 10 0 0 k = true := by
  unfold alB wiB gfB
  simp
  omega
theorem kn_tn (k : Nat) (h : k < 4) : tnL [⟨0, 0, 100, 50⟩] k [⟨0, 0, 100, 50⟩] = [⟨0, 0, 100, 50⟩] ∨ tnL [⟨0, 0, 100, 50⟩] k [⟨0, 0, 100, 50⟩] = [⟨0, 0, 50, 100⟩] := by
  match k, h with
  | 0, _ => exact .inl (by rfl)
  | 1, _ => exact .inr (by rfl)
  | 2, _ => exact .inl (by rfl)
  | 3, _ => exact .inr (by rfl)
theorem kn_fs0 {w h : Int} (g : Int) (hw : w = 100 ∧ h = 50 ∨ w = 50 ∧ h = 100) : FsO (fdV (inmR 1000 1000 10) [⟨0, 0, w, h⟩]) (fdB [⟨0, 0, w, h⟩] ([] ++ []) [] ⟨g, 10, false⟩) (some (10, 10)) := by
  have e : fdB [⟨0, 0, w, h⟩] ([] ++ []) [] ⟨g, 10, false⟩ = [] := rfl
  rw [e]
  constructor
  · intro x y hxy
    simp only [Option.some.injEq, Prod.mk.injEq] at hxy
    obtain ⟨rfl, rfl⟩ := hxy
    refine ⟨⟨?_, by simp⟩, ?_⟩
    · rcases hw with ⟨rfl, rfl⟩ | ⟨rfl, rfl⟩ <;> (unfold inBr; decide)
    · rintro x' y' ⟨h1, _⟩
      simp only [inBr, fdV] at h1
      omega
  · intro h; cases h
theorem kn_fs1 {w h : Int} (hw : w = 100 ∧ h = 50 ∨ w = 50 ∧ h = 100) : FsO (fdV (inmR 1000 1000 10) [⟨0, 0, w, h⟩]) (fdB [⟨0, 0, w, h⟩] ([] ++ []) [⟨10, 10, 100, 50⟩] ⟨5, 10, false⟩) (some (115, 10)) := by
  have e : fdB [⟨0, 0, w, h⟩] ([] ++ []) [⟨10, 10, 100, 50⟩] ⟨5, 10, false⟩ = [arBr ⟨0, 0, w, h⟩ ⟨10, 10, 100, 50⟩ 5] := rfl
  rw [e]
  constructor
  · intro x y hxy
    simp only [Option.some.injEq, Prod.mk.injEq] at hxy
    obtain ⟨rfl, rfl⟩ := hxy
    refine ⟨⟨?_, ?_⟩, ?_⟩
    · rcases hw with ⟨rfl, rfl⟩ | ⟨rfl, rfl⟩ <;> (unfold inBr; decide)
    · intro b hb
      rw [List.mem_singleton] at hb
      subst hb
      rcases hw with ⟨rfl, rfl⟩ | ⟨rfl, rfl⟩ <;> (unfold inBr; decide)
    · rintro x' y' ⟨h1, h2⟩
      have h3 := h2 _ (List.mem_singleton.2 rfl)
      simp only [inBr, fdV, arBr] at h1 h3
      omega
  · intro h; cases h
theorem kn_ft (x y : Int) : FtO (fun _ => some (x, y)) (some (0, x, y)) := by
  constructor
  · intro t x' y' h
    simp only [Option.some.injEq, Prod.mk.injEq] at h
    obtain ⟨rfl, rfl, rfl⟩ := h
    refine ⟨by omega, rfl, fun t' x' y' _ h => ?_⟩
    simp only [Option.some.injEq, Prod.mk.injEq] at h
    obtain ⟨rfl, rfl⟩ := h
    exact .inr ⟨rfl, .inr ⟨rfl, Nat.zero_le _⟩⟩
  · intro h; cases h
theorem kn_fit0 (a b mt : ByteArray) (A : Option Addr) (g : Int) : FitR (knS a mt) [] (knP b mt A) ⟨g, 10, false⟩ (some (0, 10, 10)) := by
  refine ⟨fun _ => some (10, 10), ⟨fun k hk h => ?_, fun k hk _ => ?_⟩, kn_ft 10 10⟩
  · rw [kn_al mt k hk] at h; cases h
  · rcases kn_tn k hk with e | e <;> (dsimp only; rw [e])
    · exact kn_fs0 g (.inl ⟨rfl, rfl⟩)
    · exact kn_fs0 g (.inr ⟨rfl, rfl⟩)
theorem kn_fit1 (a b mt : ByteArray) (A : Option Addr) : FitR (knS a mt) [⟨10, 10, 100, 50⟩] (knP b mt A) ⟨5, 10, false⟩ (some (0, 115, 10)) := by
  refine ⟨fun _ => some (115, 10), ⟨fun k hk h => ?_, fun k hk _ => ?_⟩, kn_ft 115 10⟩
  · rw [kn_al mt k hk] at h; cases h
  · rcases kn_tn k hk with e | e <;> (dsimp only; rw [e])
    · exact kn_fs1 (.inl ⟨rfl, rfl⟩)
    · exact kn_fs1 (.inr ⟨rfl, rfl⟩)
def knR (i : Nat) : NsO := if i = 0 then some (0, 0, 10, 10) else some (0, 0, 115, 10)
theorem kn_ns (a b mt : ByteArray) (A : Option Addr) : NsR [knS a mt] [knP b mt A, knP b mt A] ⟨5, 10, false⟩ knR := by
  intro i p hp
  match i, hp with
  | 0, hp =>
    obtain rfl := Option.some.inj hp
    refine ⟨fun _ => some (0, 10, 10), fun k s hs => ?_, rfl⟩
    match k, hs with
    | 0, hs => obtain rfl := Option.some.inj hs; exact kn_fit0 a b mt A 5
    | k + 1, hs => simp at hs
  | 1, hp =>
    obtain rfl := Option.some.inj hp
    refine ⟨fun _ => some (0, 115, 10), fun k s hs => ?_, rfl⟩
    match k, hs with
    | 0, hs => obtain rfl := Option.some.inj hs; exact kn_fit1 a b mt A
    | k + 1, hs => simp at hs
  | i + 2, hp => simp at hp
theorem kn_co (b : Bool) (h : CoB [⟨0, 0, 100, 50⟩] b) : b = true := h.2 fun j hj => by
  have : j = 0 := by simp at hj; exact hj
  subst this
  exact .zero
end RG
end Go.Proofs.YtddhaiaapomdjaaGreat
set_option linter.unusedVariables false
set_option linter.unusedSimpArgs false
namespace Go.Proofs.YtddhaiaapomdjaaGreat
set_option linter.unusedVariables false
set_option linter.unusedSimpArgs false
open Go Go.ChangeShapes Go.WideShapes Go.ChangeAt Go.RowKit Go.Deep

namespace RG
set_option maxHeartbeats 4000000 in
set_option maxRecDepth 100000 in
theorem samePl_any (A B : Option Addr) (c d : Nat) (l : List At6) (w : World) (hl : RdL w 5 at6L A l) (hm : RdL w 5 at6L B l) (n1 : l.length ≤ c) (n2 : c ≤ 9223372036854775807) :
    Calls Tryz.prog 12 #[.slice A l.length c, .slice B l.length d] w fun e w' => e = .returned (.bool true) ∧ Gr w w' := by
  have HL := hide hl
  have HM := hide hm
  clear hl hm
  go_enter Tryz.func12, Tryz.ntmps12
  go_wp2
  go_loopw [5] (fun i wr => ∃ k : Nat, k ≤ l.length ∧ i = iv k ∧ Gr w wr) (fun i _ => l.length - (intOf i).toNat)
  case atStart => exact ⟨0, by omega, rfl, Gr.refl _⟩
  case round =>
    obtain ⟨k, hk, rfl, g⟩ := hrel
    by_cases hkl : k < l.length
    · obtain ⟨z, hz⟩ : ∃ z, l[k]? = some z := ⟨_, List.getElem?_eq_getElem hkl⟩
      obtain ⟨b, o, rfl, x0, x1, x2, x3, x4, _⟩ := (HL.out.gr g) k z hz
      obtain ⟨b', o', rfl, y0, y1, y2, y3, y4, _⟩ := (HM.out.gr g) k z hz
      have hk0 : (0 : Int) ≤ (k : Int) := by omega
      have hk1 : (k : Int) < (l.length : Int) := by omega
      clear hz
      go_wp2
      have GC := @GrW.cell
      refine wp_region_grw _ (by kernel_rfl) (by kernel_rfl) (Gr.refl _) ?_
      repeat (go_big_quiet_step ((first | fail)))
      refine wpQuiet_nil ?_
      intro wq hwq
      obtain ⟨gq, hwq'⟩ := hwq
      subst hwq'
      clear GC
      have gq1 := gq.gr
      generalize gq.w = wq at gq1 ⊢
      obtain ⟨Xq, Yq, cq, fq⟩ := gq1.use
      have sq := gq1.size
      (try simp only [World.size_alloc, World.size_setCell, World.heap_drewN] at sq)
      go_wp2
      go_roundw
      case rel => exact ⟨k + 1, by omega, by go_num, (by with_reducible repeat (first | exact Gr.refl _ | assumption | refine Gr.alloc ?_ _ | refine Gr.drewN ?_ _ | refine Gr.drew ?_ | refine Gr.setCell ?_ (by first | (dsimp only; omega) | (simp only [World.size_alloc]; omega) | (refine Gr.size ?_; (repeat (first | exact Gr.refl _ | assumption | refine Gr.alloc ?_ _ | refine Gr.drewN ?_ _ | refine Gr.drew ?_ | refine Gr.trans ?_ (by assumption))); done)) _ | refine Gr.trans ?_ (by assumption)))⟩
      case measure => simp only [intOf]; omega
    · obtain rfl : k = l.length := by omega
      go_wp2
      go_ret
      exact ⟨rfl, (by with_reducible repeat (first | exact Gr.refl _ | assumption | refine Gr.alloc ?_ _ | refine Gr.drewN ?_ _ | refine Gr.drew ?_ | refine Gr.setCell ?_ (by first | (dsimp only; omega) | (simp only [World.size_alloc]; omega) | (refine Gr.size ?_; (repeat (first | exact Gr.refl _ | assumption | refine Gr.alloc ?_ _ | refine Gr.drewN ?_ _ | refine Gr.drew ?_ | refine Gr.trans ?_ (by assumption))); done)) _ | refine Gr.trans ?_ (by assumption)))⟩
abbrev kS : ByteArray := ⟨#[115]⟩
abbrev kP : ByteArray := ⟨#[112]⟩
abbrev kM : ByteArray := ⟨#[115, 116, 101, 101, 108]⟩
theorem kn_fi (A : Option Addr) : fiE (knS kS kM) [] (knP kP kM A) true ⟨0, 10, false⟩ = 0 := by kernel_rfl
theorem kn_ck (A : Option Addr) : ckE [knS kS kM] [knP kP kM A, knP kP kM A] (fun _ => true) ⟨5, 10, false⟩ = 0 := by kernel_rfl
theorem kn_cb : CoB [⟨0, 0, 100, 50⟩] true := by
  obtain ⟨b, hb⟩ := coB_ex [⟨0, 0, 100, 50⟩]
  have := kn_co b hb
  subst this
  exact hb
theorem slr_nil (w : World) : SlR w none 0 [] := ⟨fun i x hx => by simp at hx, by simp, by omega⟩
theorem slrr_nil (w : World) : SlRR w none 0 [] := ⟨fun i x hx => by simp at hx, fun y hy => (by simp at hy), by simp, by omega⟩
theorem kn_sw (w : World) : ShW w (knS kS kM) := ⟨slr_nil w, slr_nil w, by decide, by decide⟩
theorem kn_pw {w : World} {b : Nat} (h : SlR w (some ⟨b, 0, none⟩) 1 [⟨0, 0, 100, 50⟩]) : PcW w (knP kP kM (some ⟨b, 0, none⟩)) := ⟨h, slr_nil w, slr_nil w, by show kP.size ≤ _; decide, by show kM.size ≤ _; decide⟩
set_option maxHeartbeats 8000000 in
set_option maxRecDepth 100000 in
theorem known6_any (w : World) : Calls Tryz.prog 9 #[] w fun e w' => e = .returned (.bool true) ∧ Gr w w' := by
  have HFI := hide (fun (b : Nat) (w' : World) (h : SlR w' (some ⟨b, 0, none⟩) 1 [⟨0, 0, 100, 50⟩]) => show Calls Tryz.prog 7 #[(knS kS kM).v, .slice none 0 0, (knP kP kM (some ⟨b, 0, none⟩)).v, stvv ⟨0, 10, false⟩] w' fun e w'' => e = .returned (.tuple #[atv 0 0 10 10 0, .bool true, iv 0]) ∧ Gr w' w'' from by
    obtain ⟨o, ho, hr⟩ := kn_fit0 kS kP kM (some ⟨b, 0, none⟩) 0
    exact Fit_good (knS kS kM) none 0 [] (knP kP kM (some ⟨b, 0, none⟩)) true ⟨0, 10, false⟩ o _ w' (kn_sw w') (slrr_nil w') (kn_pw h) kn_cb (kn_fi _) ho hr)
  have HNE := hide (fun (A : Option Addr) (b : Nat) (B : Option Addr) (w' : World) (hS : SlS w' A 1 [knS kS kM]) (hP : SlP w' B 2 [knP kP kM (some ⟨b, 0, none⟩), knP kP kM (some ⟨b, 0, none⟩)]) => show Calls Tryz.prog 10 #[.slice A 1 1, .slice B 2 2, stvv ⟨5, 10, false⟩] w' fun e w'' => ∃ (D : Option Addr) (q : Nat) (D' : Option Addr) (q' : Nat), e = .returned (.tuple #[.slice D 2 q, .slice D' 0 q', iv 0]) ∧ (RdL w'' 5 at6L D [⟨0, 0, 10, 10, 0⟩, ⟨1, 0, 115, 10, 0⟩] ∧ 2 ≤ q ∧ q ≤ 9223372036854775807) ∧ Gr w' w'' from by
    refine (Nest_good A 1 [knS kS kM] B 2 [knP kP kM (some ⟨b, 0, none⟩), knP kP kM (some ⟨b, 0, none⟩)] (fun _ => true) ⟨5, 10, false⟩ knR w' hS hP (fun p hp => by
      have : p = knP kP kM (some ⟨b, 0, none⟩) := by simpa using hp
      subst this
      exact kn_cb) (kn_ck _) (kn_ns kS kP kM _)).mono fun e w'' h => ?_
    obtain ⟨u, v, rfl, h1, h2, g⟩ := h
    have h1 : OwnL w'' w'.heap.size 33 5 at6L u [⟨0, 0, 10, 10, 0⟩, ⟨1, 0, 115, 10, 0⟩] := h1
    have h2 : OwnL w'' w'.heap.size 3 1 inL v [] := h2
    obtain ⟨D, q, rfl⟩ := h1.slice
    obtain ⟨D', q', rfl⟩ := h2.slice
    obtain ⟨_, r1, r2, r3⟩ := OwnL.rd (c := at6L) (fun _ => rfl) h1
    exact ⟨D, q, D', q', rfl, ⟨r1, r2, by unfold maxLen at r3; omega⟩, g⟩)
  go_enter Tryz.func9, Tryz.ntmps9
  go_wp2_with fail
  have M0 := (Made.new w #[.string kS, .string kM, iv 10, iv 0, iv 1000, iv 1000, .slice none 0 0, .slice none 0 0] 24).gr (show Gr _ (((w.alloc (.cells #[.string kS, .string kM, iv 10, iv 0, iv 1000, iv 1000, .slice none 0 0, .slice none 0 0] 24)).alloc (.cells #[iv 0, iv 0, iv 100, iv 50] 70)).alloc (.cells #[.string kP, .string kM, iv 10, iv 0, .slice (some ⟨w.heap.size + 1, 0, none⟩) 1 1, .slice none 0 0, .slice none 0 0] 27)) from Gr.alloc (Gr.alloc (Gr.refl _) _) _)
  have HR := (own_lit (c := rcL) (k := 4) (w.alloc (.cells #[.string kS, .string kM, iv 10, iv 0, iv 1000, iv 1000, .slice none 0 0, .slice none 0 0] 24)) 0 70 #[iv 0, iv 0, iv 100, iv 50] [⟨0, 0, 100, 50⟩] (Nat.zero_le _) (fun _ => rfl) rfl (by decide)).gr (show Gr _ (((w.alloc (.cells #[.string kS, .string kM, iv 10, iv 0, iv 1000, iv 1000, .slice none 0 0, .slice none 0 0] 24)).alloc (.cells #[iv 0, iv 0, iv 100, iv 50] 70)).alloc (.cells #[.string kP, .string kM, iv 10, iv 0, .slice (some ⟨w.heap.size + 1, 0, none⟩) 1 1, .slice none 0 0, .slice none 0 0] 27)) from Gr.alloc (Gr.refl _) _)
  have M2 := Made.new ((w.alloc (.cells #[.string kS, .string kM, iv 10, iv 0, iv 1000, iv 1000, .slice none 0 0, .slice none 0 0] 24)).alloc (.cells #[iv 0, iv 0, iv 100, iv 50] 70)) #[.string kP, .string kM, iv 10, iv 0, .slice (some ⟨w.heap.size + 1, 0, none⟩) 1 1, .slice none 0 0, .slice none 0 0] 27
  rw [World.size_alloc] at HR
  rw [World.size_alloc, World.size_alloc] at M2
  have g03 : Gr w (((w.alloc (.cells #[.string kS, .string kM, iv 10, iv 0, iv 1000, iv 1000, .slice none 0 0, .slice none 0 0] 24)).alloc (.cells #[iv 0, iv 0, iv 100, iv 50] 70)).alloc (.cells #[.string kP, .string kM, iv 10, iv 0, .slice (some ⟨w.heap.size + 1, 0, none⟩) 1 1, .slice none 0 0, .slice none 0 0] 27)) := Gr.alloc (Gr.alloc (Gr.alloc (Gr.refl _) _) _) _
  have M0 := hide M0
  have M2 := hide M2
  have HSL := hide (own_slr HR)
  clear HR
  generalize ((w.alloc (.cells #[.string kS, .string kM, iv 10, iv 0, iv 1000, iv 1000, .slice none 0 0, .slice none 0 0] 24)).alloc (.cells #[iv 0, iv 0, iv 100, iv 50] 70)).alloc (.cells #[.string kP, .string kM, iv 10, iv 0, .slice (some ⟨w.heap.size + 1, 0, none⟩) 1 1, .slice none 0 0, .slice none 0 0] 27) = w3 at *
  generalize w.heap.size + 1 + 1 = b2 at *
  generalize w.heap.size + 1 = b1 at *
  generalize hb0 : w.heap.size = b0 at *
  refine (HFI.out b1 w3 HSL.out).mono ?_
  rintro e w4 ⟨rfl, g4⟩
  have g04 := g03.trans g4
  obtain ⟨l0, y0, _⟩ := M0.out.gr g4
  have a00 := y0 0
  have a01 := y0 1
  have a02 := y0 2
  have a03 := y0 3
  have a04 := y0 4
  have a05 := y0 5
  have a06 := y0 6
  have a07 := y0 7
  clear y0
  obtain ⟨l2, y2, _⟩ := M2.out.gr g4
  have a20 := y2 0
  have a21 := y2 1
  have a22 := y2 2
  have a23 := y2 3
  have a24 := y2 4
  have a25 := y2 5
  have a26 := y2 6
  clear y2
  have HSL4 := hide (HSL.out.gr g4)
  clear M0 M2 HSL HFI
  go_upto_region 4 with fail
  have M3 := hide (Made.new w4 #[iv 0, iv 0, iv 10, iv 10, iv 0] 33)
  have g05 : Gr w (w4.alloc (.cells #[iv 0, iv 0, iv 10, iv 10, iv 0] 33)) := Gr.alloc g04 _
  have g45 : Gr w4 (w4.alloc (.cells #[iv 0, iv 0, iv 10, iv 10, iv 0] 33)) := Gr.alloc (Gr.refl _) _
  have HSL5 := hide (HSL4.out.gr g45)
  have l0' := Nat.lt_of_lt_of_le l0 g45.size
  have l2' := Nat.lt_of_lt_of_le l2 g45.size
  have a00 := (g45.cell _ _ l0).trans a00
  have a01 := (g45.cell _ _ l0).trans a01
  have a02 := (g45.cell _ _ l0).trans a02
  have a03 := (g45.cell _ _ l0).trans a03
  have a04 := (g45.cell _ _ l0).trans a04
  have a05 := (g45.cell _ _ l0).trans a05
  have a06 := (g45.cell _ _ l0).trans a06
  have a07 := (g45.cell _ _ l0).trans a07
  have a20 := (g45.cell _ _ l2).trans a20
  have a21 := (g45.cell _ _ l2).trans a21
  have a22 := (g45.cell _ _ l2).trans a22
  have a23 := (g45.cell _ _ l2).trans a23
  have a24 := (g45.cell _ _ l2).trans a24
  have a25 := (g45.cell _ _ l2).trans a25
  have a26 := (g45.cell _ _ l2).trans a26
  clear g45 HSL4 g4
  generalize w4.alloc (.cells #[iv 0, iv 0, iv 10, iv 10, iv 0] 33) = w5 at *
  generalize w4.heap.size = b3 at *
  clear l0 l2 hb0
  have HS6 := (own_lit (c := shL) (k := 8) w5 0 24 #[.string kS, .string kM, iv 10, iv 0, iv 1000, iv 1000, .slice none 0 0, .slice none 0 0] [knS kS kM] (Nat.zero_le _) (fun _ => rfl) rfl (by decide)).gr (show Gr _ ((w5.alloc (.cells #[.string kS, .string kM, iv 10, iv 0, iv 1000, iv 1000, .slice none 0 0, .slice none 0 0] 24)).alloc (.cells #[.string kP, .string kM, iv 10, iv 0, .slice (some ⟨b1, 0, none⟩) 1 1, .slice none 0 0, .slice none 0 0, .string kP, .string kM, iv 10, iv 0, .slice (some ⟨b1, 0, none⟩) 1 1, .slice none 0 0, .slice none 0 0] 27)) from Gr.alloc (Gr.refl _) _)
  have HP6 := own_lit (c := pcL) (k := 7) (w5.alloc (.cells #[.string kS, .string kM, iv 10, iv 0, iv 1000, iv 1000, .slice none 0 0, .slice none 0 0] 24)) 0 27 #[.string kP, .string kM, iv 10, iv 0, .slice (some ⟨b1, 0, none⟩) 1 1, .slice none 0 0, .slice none 0 0, .string kP, .string kM, iv 10, iv 0, .slice (some ⟨b1, 0, none⟩) 1 1, .slice none 0 0, .slice none 0 0] [knP kP kM (some ⟨b1, 0, none⟩), knP kP kM (some ⟨b1, 0, none⟩)] (Nat.zero_le _) (fun _ => rfl) rfl (by show 2 ≤ 1000000; decide)
  rw [World.size_alloc] at HP6
  have g56 : Gr w5 ((w5.alloc (.cells #[.string kS, .string kM, iv 10, iv 0, iv 1000, iv 1000, .slice none 0 0, .slice none 0 0] 24)).alloc (.cells #[.string kP, .string kM, iv 10, iv 0, .slice (some ⟨b1, 0, none⟩) 1 1, .slice none 0 0, .slice none 0 0, .string kP, .string kM, iv 10, iv 0, .slice (some ⟨b1, 0, none⟩) 1 1, .slice none 0 0, .slice none 0 0] 27)) := Gr.alloc (Gr.alloc (Gr.refl _) _) _
  have HSS := hide (show SlS _ (some ⟨w5.heap.size, 0, none⟩) 1 [knS kS kM] from ⟨(OwnL.rd (c := shL) (fun _ => rfl) HS6).2.1, fun s hs => (by
    have : s = knS kS kM := by simpa using hs
    subst this
    exact kn_sw _), by decide, by decide⟩)
  have HPP := hide (show SlP _ (some ⟨w5.heap.size + 1, 0, none⟩) 2 [knP kP kM (some ⟨b1, 0, none⟩), knP kP kM (some ⟨b1, 0, none⟩)] from ⟨(OwnL.rd (c := pcL) (fun _ => rfl) HP6).2.1, fun s hs => (by
    have : s = knP kP kM (some ⟨b1, 0, none⟩) := by simpa using hs
    subst this
    exact kn_pw (HSL5.out.gr g56)), by show 2 ≤ 2; decide, by decide⟩)
  clear HS6 HP6
  go_wp2_with fail
  generalize (w5.alloc (.cells #[.string kS, .string kM, iv 10, iv 0, iv 1000, iv 1000, .slice none 0 0, .slice none 0 0] 24)).alloc (.cells #[.string kP, .string kM, iv 10, iv 0, .slice (some ⟨b1, 0, none⟩) 1 1, .slice none 0 0, .slice none 0 0, .string kP, .string kM, iv 10, iv 0, .slice (some ⟨b1, 0, none⟩) 1 1, .slice none 0 0, .slice none 0 0] 27) = w6 at *
  refine (HNE.out _ b1 _ w6 HSS.out HPP.out).mono ?_
  rintro e w7 ⟨D, q, D', q', rfl, ⟨r1, r2, r3⟩, g7⟩
  have g57 : Gr w5 w7 := g56.trans g7
  have g07 : Gr w w7 := g05.trans g57
  obtain ⟨l3, y3, _⟩ := M3.out.gr g57
  have a30 := y3 0
  have a31 := y3 1
  have a32 := y3 2
  have a33 := y3 3
  have a34 := y3 4
  clear y3 a00 a01 a02 a03 a04 a05 a06 a07 a20 a21 a22 a23 a24 a25 a26
  have R1 := hide r1
  clear r1
  go_upto_region 5 with fail
  go_wp2_with fail
  have HL7 := own_lit (c := at6L) (k := 5) w7 0 33 #[iv 0, iv 0, iv 10, iv 10, iv 0, iv 1, iv 0, iv 115, iv 10, iv 0] [⟨0, 0, 10, 10, 0⟩, ⟨1, 0, 115, 10, 0⟩] (Nat.zero_le _) (fun _ => rfl) rfl (by decide)
  refine (samePl_any D _ q 2 [⟨0, 0, 10, 10, 0⟩, ⟨1, 0, 115, 10, 0⟩] _ (R1.out.gr (Gr.alloc (Gr.refl _) _)) (OwnL.rd (c := at6L) (fun _ => rfl) HL7).2.1 r2 r3).mono ?_
  rintro e w8 ⟨rfl, g8⟩
  have g08 : Gr w w8 := g07.trans (Gr.trans (Gr.alloc (Gr.refl _) _) g8)
  go_wp2
  go_ret
  exact ⟨rfl, g08⟩
end RG
end Go.Proofs.YtddhaiaapomdjaaGreat
