/-
  Flat patterns: places of faces, plainly. No program.
  Flat patterns: the code's place of a flange for that of its parent.
  Flat patterns: the deductions of all flanges, in the code.
  Flat patterns: the places of all faces, in the code.
-/
import Derived.Test.YtdabhnefoigebaaGreatMTb
import Derived.Test.YtdabhnefoigebaaGreatML
import Derived.Test.YtdabhnefoigebaaGreatMix2
set_option linter.unusedVariables false
set_option linter.unusedSimpArgs false
namespace Go.Proofs.YtdabhnefoigebaaGreat
set_option linter.unusedVariables false
set_option linter.unusedSimpArgs false
open Go Go.ChangeShapes Go.WideShapes Go.ChangeAt Go.RowKit Go.Deep

/-- a face in the flat pattern: origin, quarter turns, size in units, what it lost -/
structure Pl where
  x : Int
  y : Int
  t : Nat
  w : Int
  h : Int
  lo : Int
def pl0 : Pl := ⟨0, 0, 0, 0, 0, 0⟩
/-- n quarter turns of a point -/
def rt : Nat → Int × Int → Int × Int
  | 0, p => p
  | n + 1, p => (-(rt n p).2, (rt n p).1)
theorem rt_add (m n : Nat) (p : Int × Int) : rt (m + n) p = rt m (rt n p) := by
  induction m with
  | zero => rw [Nat.zero_add]; rfl
  | succ m ih => rw [Nat.succ_add, rt, ih, rt]
theorem rt_lin (n : Nat) (u v : Int) : rt n (u, v) = (u * (rt n (1, 0)).1 + v * (rt n (0, 1)).1, u * (rt n (1, 0)).2 + v * (rt n (0, 1)).2) := by
  induction n with
  | zero => simp [rt]
  | succ n ih =>
    rw [rt, ih, rt, rt]
    simp only [Prod.mk.injEq, and_true]
    rw [Int.mul_neg, Int.mul_neg, Int.neg_add]
theorem rt_bd (n : Nat) {u v m : Int} (h1 : -m ≤ u ∧ u ≤ m) (h2 : -m ≤ v ∧ v ≤ m) : (-m ≤ (rt n (u, v)).1 ∧ (rt n (u, v)).1 ≤ m) ∧ -m ≤ (rt n (u, v)).2 ∧ (rt n (u, v)).2 ≤ m := by
  induction n with
  | zero => exact ⟨h1, h2⟩
  | succ n ih =>
    rw [rt]
    dsimp only
    omega
/-- where the bend line of a flange begins -/
def beU (f : Fl) (q : Pl) : Int := if f.sd = 0 then q.w else if f.sd = 1 then q.w - f.o else if f.sd = 2 then 0 else f.o
def beV (f : Fl) (q : Pl) : Int := if f.sd = 0 then q.h - f.o else if f.sd = 1 then 0 else if f.sd = 2 then f.o else q.h
def ptX (q : Pl) (u v : Int) : Int := q.x + (rt q.t (u, v)).1
def ptY (q : Pl) (u v : Int) : Int := q.y + (rt q.t (u, v)).2
def abv (q : Pl) (v : Int) : Int := v * 720 - q.lo
def plC (q : Pl) (f : Fl) (d : Int) : Pl := ⟨ptX q (beU f q * 720) (abv q (beV f q)), ptY q (beU f q * 720) (abv q (beV f q)), q.t + (3 - f.sd).toNat, f.wd, f.ln, d⟩
/-- the places of the base and of k flanges; D: what a flange loses -/
def pls (w h : Int) (l : List Fl) (D : Fl → Int) : Nat → List Pl
  | 0 => [⟨0, 0, 0, w, h, 0⟩]
  | k + 1 => match l[k]? with
    | none => pls w h l D k
    | some f => pls w h l D k ++ [plC (((pls w h l D k)[f.pa.toNat]?).getD pl0) f (D f)]
theorem pls_succ {w h : Int} {l : List Fl} {D : Fl → Int} {k : Nat} {f : Fl} (hf : l[k]? = some f) : pls w h l D (k + 1) = pls w h l D k ++ [plC (((pls w h l D k)[f.pa.toNat]?).getD pl0) f (D f)] := by
  rw [pls, hf]
theorem pls_len {w h : Int} {l : List Fl} {D : Fl → Int} : ∀ {k : Nat}, k ≤ l.length → (pls w h l D k).length = k + 1
  | 0, _ => rfl
  | k + 1, hk => by
    obtain ⟨f, hf⟩ : ∃ f, l[k]? = some f := ⟨_, List.getElem?_eq_getElem (by omega)⟩
    rw [pls_succ hf, List.length_append, pls_len (by omega)]
    rfl
theorem pls_at {w h : Int} {l : List Fl} {D : Fl → Int} {j : Nat} : ∀ {k : Nat}, j ≤ k → k ≤ l.length → (pls w h l D k)[j]? = (pls w h l D j)[j]?
  | 0, hj, _ => by
    obtain rfl : j = 0 := by omega
    rfl
  | k + 1, hj, hk => by
    rcases Nat.lt_or_ge j (k + 1) with h1 | h1
    · obtain ⟨f, hf⟩ : ∃ f, l[k]? = some f := ⟨_, List.getElem?_eq_getElem (by omega)⟩
      rw [pls_succ hf, List.getElem?_append_left (by rw [pls_len (by omega)]; omega)]
      exact pls_at (by omega) (by omega)
    · obtain rfl : j = k + 1 := by omega
      rfl
/-- what a place keeps -/
structure PlB (k : Nat) (q : Pl) : Prop where
  x : -(122400 * (k : Int)) ≤ q.x ∧ q.x ≤ 122400 * (k : Int)
  y : -(122400 * (k : Int)) ≤ q.y ∧ q.y ≤ 122400 * (k : Int)
  t : q.t ≤ 3 * k
  w : 1 ≤ q.w ∧ q.w ≤ 150
  h : 1 ≤ q.h ∧ q.h ≤ 150
  lo : 0 ≤ q.lo ∧ q.lo ≤ 14400
/-- what a flange keeps -/
structure FlB (f : Fl) : Prop where
  sd : sdOk f.sd
  o : 0 ≤ f.o ∧ f.o ≤ 150
  wd : 1 ≤ f.wd ∧ f.wd ≤ 150
  ln : 1 ≤ f.ln ∧ f.ln ≤ 150
theorem be_bd {k : Nat} {q : Pl} {f : Fl} (hq : PlB k q) (hf : FlB f) (ho : f.o ≤ 150) : (-150 ≤ beU f q ∧ beU f q ≤ 150) ∧ -150 ≤ beV f q ∧ beV f q ≤ 150 := by
  have h1 := hq.w
  have h2 := hq.h
  have h3 := hf.o
  unfold beU beV
  constructor <;> (split <;> (try split) <;> (try split) <;> omega)
/-- the point on the parent at which the bend line begins, in ticks -/
theorem be_pos {k : Nat} {q : Pl} {f : Fl} (hq : PlB k q) (hf : FlB f) (hs : f.o ≤ (if f.sd = 0 ∨ f.sd = 2 then q.h else q.w)) : (0 ≤ beU f q ∧ beU f q ≤ 150) ∧ 0 ≤ beV f q ∧ beV f q ≤ 150 := by
  have h1 := hq.w
  have h2 := hq.h
  have h3 := hf.o
  unfold beU beV
  split at hs <;> (constructor <;> (split <;> (try split) <;> (try split) <;> omega))
theorem plC_b {k : Nat} {q : Pl} {f : Fl} {d : Int} (hq : PlB k q) (hf : FlB f) (hd : 0 ≤ d ∧ d ≤ 14400) : PlB (k + 1) (plC q f d) := by
  obtain ⟨b1, b2⟩ := be_bd hq hf hf.o.2
  have h1 := hq.lo
  obtain ⟨r1, r2⟩ := rt_bd q.t (u := beU f q * 720) (v := abv q (beV f q)) (m := 122400) (by omega) (by unfold abv; omega)
  have h2 := hq.x
  have h3 := hq.y
  have h4 := hq.t
  refine ⟨?_, ?_, ?_, hf.wd, hf.ln, hd⟩
  · show -(122400 * ((k + 1 : Nat) : Int)) ≤ q.x + _ ∧ q.x + _ ≤ 122400 * ((k + 1 : Nat) : Int)
    omega
  · show -(122400 * ((k + 1 : Nat) : Int)) ≤ q.y + _ ∧ q.y + _ ≤ 122400 * ((k + 1 : Nat) : Int)
    omega
  · show q.t + (3 - f.sd).toNat ≤ 3 * (k + 1)
    have := hf.sd
    unfold sdOk at this
    omega
theorem PlB.mono {j k : Nat} {q : Pl} (h : PlB j q) (hk : j ≤ k) : PlB k q := by
  have h1 := h.x
  have h2 := h.y
  have h3 := h.t
  exact ⟨by omega, by omega, by omega, h.w, h.h, h.lo⟩
/-- what a list of flanges keeps -/
structure FlsB (w h : Int) (l : List Fl) (D : Fl → Int) : Prop where
  bw : 1 ≤ w ∧ w ≤ 150
  bh : 1 ≤ h ∧ h ≤ 150
  pa : ∀ (i : Nat) (f : Fl), l[i]? = some f → 0 ≤ f.pa ∧ f.pa ≤ i
  fl : ∀ (i : Nat) (f : Fl), l[i]? = some f → FlB f
  d : ∀ (i : Nat) (f : Fl), l[i]? = some f → 0 ≤ D f ∧ D f ≤ 14400
theorem pls_b {w h : Int} {l : List Fl} {D : Fl → Int} (H : FlsB w h l D) : ∀ {k : Nat}, k ≤ l.length → ∀ q ∈ pls w h l D k, PlB k q
  | 0, _, q, hq => by
    obtain rfl := List.mem_singleton.1 (show q ∈ [(⟨0, 0, 0, w, h, 0⟩ : Pl)] from hq)
    exact ⟨by simp, by simp, by simp, H.bw, H.bh, by simp⟩
  | k + 1, hk, q, hq => by
    obtain ⟨f, hf⟩ : ∃ f, l[k]? = some f := ⟨_, List.getElem?_eq_getElem (by omega)⟩
    rw [pls_succ hf, List.mem_append, List.mem_singleton] at hq
    rcases hq with hq | rfl
    · exact (pls_b H (by omega) q hq).mono (by omega)
    · obtain ⟨h1, h2⟩ := H.pa k f hf
      obtain ⟨g, hg⟩ : ∃ g, (pls w h l D k)[f.pa.toNat]? = some g := ⟨_, List.getElem?_eq_getElem (by rw [pls_len (by omega)]; omega)⟩
      rw [hg]
      exact plC_b (pls_b H (by omega) g (List.mem_of_getElem? hg)) (H.fl k f hf) (H.d k f hf)
/-- the parent of a flange, and the flange's own place -/
theorem pls_flange {w h : Int} {l : List Fl} {D : Fl → Int} (H : FlsB w h l D) {i : Nat} {f : Fl} (hf : l[i]? = some f) :
    ∃ g, (pls w h l D l.length)[f.pa.toNat]? = some g ∧ (pls w h l D l.length)[i + 1]? = some (plC g f (D f)) := by
  have hi := (List.getElem?_eq_some_iff.1 hf).1
  obtain ⟨h1, h2⟩ := H.pa i f hf
  obtain ⟨g, hg⟩ : ∃ g, (pls w h l D i)[f.pa.toNat]? = some g := ⟨_, List.getElem?_eq_getElem (by rw [pls_len (by omega)]; omega)⟩
  refine ⟨g, ?_, ?_⟩
  · rw [pls_at (by omega) (Nat.le_refl _), ← pls_at (k := i) (by omega) (by omega)]
    exact hg
  · rw [pls_at (by omega) (Nat.le_refl _), pls_succ hf, hg, List.getElem?_append_right (by rw [pls_len (by omega)]; omega), pls_len (by omega)]
    simp
theorem pls_zero {w h : Int} {l : List Fl} {D : Fl → Int} : (pls w h l D l.length)[0]? = some ⟨0, 0, 0, w, h, 0⟩ := by
  rw [pls_at (Nat.zero_le _) (Nat.le_refl _)]
  rfl
/-- size and loss of a place -/
theorem pls_size {w h : Int} {l : List Fl} {D : Fl → Int} (H : FlsB w h l D) {i : Nat} {f : Fl} {q : Pl} (hf : l[i]? = some f) (hq : (pls w h l D l.length)[i + 1]? = some q) : q.w = f.wd ∧ q.h = f.ln ∧ q.lo = D f := by
  obtain ⟨g, _, h2⟩ := pls_flange H hf
  rw [h2] at hq
  obtain rfl := Option.some.inj hq
  exact ⟨rfl, rfl, rfl⟩
/-- the reference's frame of a face -/
structure Fr where
  x : Int
  y : Int
  ux : Int
  uy : Int
  vx : Int
  vy : Int
  w : Int
  h : Int
  le : Int
def frO (q : Pl) : Fr := ⟨q.x, q.y, (rt q.t (1, 0)).1, (rt q.t (1, 0)).2, (rt q.t (0, 1)).1, (rt q.t (0, 1)).2, q.w * 720, q.h * 720 - q.lo, q.lo⟩
theorem ptX_lin (q : Pl) (u v : Int) : ptX q u v = q.x + u * (frO q).ux + v * (frO q).vx := by
  unfold ptX
  rw [rt_lin]
  simp only [frO]
  omega
theorem ptY_lin (q : Pl) (u v : Int) : ptY q u v = q.y + u * (frO q).uy + v * (frO q).vy := by
  unfold ptY
  rw [rt_lin]
  simp only [frO]
  omega
theorem rt1 (p : Int × Int) : rt 1 p = (-p.2, p.1) := rfl
theorem rt2 (p : Int × Int) : rt 2 p = (-p.1, -p.2) := rfl
theorem rt3 (p : Int × Int) : rt 3 p = (-(-p.2), -p.1) := rfl
theorem rt_neg (n : Nat) (u v : Int) : rt n (-u, -v) = (-(rt n (u, v)).1, -(rt n (u, v)).2) := by
  induction n with
  | zero => rfl
  | succ n ih => rw [rt, ih, rt]
/-- the frame of a flange, side by side -/
theorem frO_dir (q : Pl) (f : Fl) (d : Int) (hs : sdOk f.sd) :
    ((frO (plC q f d)).ux, (frO (plC q f d)).uy, (frO (plC q f d)).vx, (frO (plC q f d)).vy) =
      if f.sd = 0 then (-(frO q).vx, -(frO q).vy, (frO q).ux, (frO q).uy) else if f.sd = 1 then (-(frO q).ux, -(frO q).uy, -(frO q).vx, -(frO q).vy)
      else if f.sd = 2 then ((frO q).vx, (frO q).vy, -(frO q).ux, -(frO q).uy) else ((frO q).ux, (frO q).uy, (frO q).vx, (frO q).vy) := by
  have n10 := rt_neg q.t 1 0
  have n01 := rt_neg q.t 0 1
  rcases hs with h | h | h | h <;> simp only [frO, plC, h, Int.reduceEq, Int.reduceSub, if_true, if_false, rt_add]
  · rw [show (3 : Int).toNat = 3 from rfl, rt3, rt3]
    simp only [Int.neg_zero, Int.neg_neg]
    simp only [Int.neg_zero] at n10 n01
    rw [n01]
  · rw [show (2 : Int).toNat = 2 from rfl, rt2, rt2]
    simp only [Int.neg_zero]
    simp only [Int.neg_zero] at n10 n01
    rw [n10, n01]
  · rw [show (1 : Int).toNat = 1 from rfl, rt1, rt1]
    simp only [Int.neg_zero]
    simp only [Int.neg_zero] at n10 n01
    rw [n10]
  · rw [show (0 : Int).toNat = 0 from rfl, rt, rt]
end Go.Proofs.YtdabhnefoigebaaGreat
set_option linter.unusedVariables false
set_option linter.unusedSimpArgs false
namespace Go.Proofs.YtdabhnefoigebaaGreat
set_option linter.unusedVariables false
set_option linter.unusedSimpArgs false
open Go Go.ChangeShapes Go.WideShapes Go.ChangeAt Go.RowKit Go.Deep

abbrev plv (q : Pl) : Value := .agg #[iv q.x, iv q.y, iv (q.t : Int), iv q.w, iv q.h, iv q.lo]
abbrev plL (q : Pl) : List Value := [iv q.x, iv q.y, iv (q.t : Int), iv q.w, iv q.h, iv q.lo]
abbrev fmv (q : Pl) : Value := .agg #[iv q.x, iv q.y, iv (q.t : Int)]
theorem ret_i2 {a b c d : Int} (h : a = c) (k : b = d) : Ending.returned (.tuple #[iv a, iv b]) = .returned (.tuple #[iv c, iv d]) := by rw [h, k]
theorem above_any (q : Pl) (v : Int) (w : World) (h1 : -1000000 ≤ v ∧ v ≤ 1000000) (h2 : 0 ≤ q.lo ∧ q.lo ≤ 14400) :
    Calls Tryz.prog 30 #[plv q, iv v] w fun e w' => e = .returned (iv (abv q v)) ∧ Gr w w' := by
  have W1 : IntKind.i64.wrap (v * 720) = v * 720 := IntWalk.i64_in _ (by omega)
  have W2 : IntKind.i64.wrap (v * 720 - q.lo) = v * 720 - q.lo := IntWalk.i64_in _ (by omega)
  have HE := hide (show v * 720 - q.lo = abv q v from rfl)
  clear h1 h2
  go_enter Tryz.func30, Tryz.ntmps30
  go_wp2
  go_ret
  exact ⟨ret_iv HE.out, (by repeat (first | with_reducible exact Gr.refl _ | with_reducible assumption | with_reducible refine Gr.alloc ?_ _ | with_reducible refine Gr.drewN ?_ _ | with_reducible refine Gr.drew ?_ | with_reducible refine Gr.setCell ?_ (by first | (dsimp only; omega) | (simp only [World.size_alloc]; omega) | (with_reducible refine Gr.size ?_; (repeat (first | with_reducible exact Gr.refl _ | with_reducible assumption | with_reducible refine Gr.alloc ?_ _ | with_reducible refine Gr.drewN ?_ _ | with_reducible refine Gr.drew ?_ | with_reducible refine Gr.trans ?_ (by with_reducible assumption))); done)) _ | with_reducible refine Gr.trans ?_ (by with_reducible assumption)))⟩
theorem beginning_any (f : Fl) (q : Pl) (w : World) (h1 : 0 ≤ f.o ∧ f.o ≤ 150) (h2 : 1 ≤ q.w ∧ q.w ≤ 150) (h3 : 1 ≤ q.h ∧ q.h ≤ 150) :
    Calls Tryz.prog 73 #[flv f, plv q] w fun e w' => e = .returned (.tuple #[iv (beU f q), iv (beV f q)]) ∧ Gr w w' := by
  have W1 : IntKind.i64.wrap (q.h - f.o) = q.h - f.o := IntWalk.i64_in _ (by omega)
  have W2 : IntKind.i64.wrap (q.w - f.o) = q.w - f.o := IntWalk.i64_in _ (by omega)
  have HU := hide (show beU f q = _ from rfl)
  have HV := hide (show beV f q = _ from rfl)
  clear h1 h2 h3
  by_cases s0 : f.sd = 0
  · rw [show beU f q = q.w by unfold beU; rw [if_pos s0], show beV f q = q.h - f.o by unfold beV; rw [if_pos s0]]
    go_enter Tryz.func73, Tryz.ntmps73
    go_upto_region 3 with fail
    have GC := @GrW.cell
    refine wp_region_grw _ (by kernel_rfl) (by kernel_rfl) (Gr.refl _) ?_
    repeat (go_big_quiet_step ((first | fail)))
    refine wpQuiet_nil ?_
    intro wq hwq
    obtain ⟨gq, hwq'⟩ := hwq
    subst hwq'
    clear GC
    have gq1 := gq.gr
    generalize gq.w = wq at gq1 ⊢
    obtain ⟨Xq, Yq, cq, fq⟩ := gq1.use
    have sq := gq1.size
    (try simp only [World.size_alloc, World.size_setCell, World.heap_drewN] at sq)
    go_wp2
    refine bodyPost_ret (v := .tuple #[iv (q.w), iv (q.h - f.o)]) (by simp [results, Tryz.results73, go_sem, *]) rfl ⟨rfl, (by repeat (first | with_reducible exact Gr.refl _ | with_reducible assumption | with_reducible refine Gr.alloc ?_ _ | with_reducible refine Gr.drewN ?_ _ | with_reducible refine Gr.drew ?_ | with_reducible refine Gr.setCell ?_ (by first | (dsimp only; omega) | (simp only [World.size_alloc]; omega) | (with_reducible refine Gr.size ?_; (repeat (first | with_reducible exact Gr.refl _ | with_reducible assumption | with_reducible refine Gr.alloc ?_ _ | with_reducible refine Gr.drewN ?_ _ | with_reducible refine Gr.drew ?_ | with_reducible refine Gr.trans ?_ (by with_reducible assumption))); done)) _ | with_reducible refine Gr.trans ?_ (by with_reducible assumption)))⟩
  by_cases s1 : f.sd = 1
  · rw [show beU f q = q.w - f.o by unfold beU; rw [if_neg s0, if_pos s1], show beV f q = 0 by unfold beV; rw [if_neg s0, if_pos s1]]
    go_enter Tryz.func73, Tryz.ntmps73
    go_wp2
    refine bodyPost_ret (v := .tuple #[iv (q.w - f.o), iv (0)]) (by simp [results, Tryz.results73, go_sem, *]) rfl ⟨rfl, (by repeat (first | with_reducible exact Gr.refl _ | with_reducible assumption | with_reducible refine Gr.alloc ?_ _ | with_reducible refine Gr.drewN ?_ _ | with_reducible refine Gr.drew ?_ | with_reducible refine Gr.setCell ?_ (by first | (dsimp only; omega) | (simp only [World.size_alloc]; omega) | (with_reducible refine Gr.size ?_; (repeat (first | with_reducible exact Gr.refl _ | with_reducible assumption | with_reducible refine Gr.alloc ?_ _ | with_reducible refine Gr.drewN ?_ _ | with_reducible refine Gr.drew ?_ | with_reducible refine Gr.trans ?_ (by with_reducible assumption))); done)) _ | with_reducible refine Gr.trans ?_ (by with_reducible assumption)))⟩
  by_cases s2 : f.sd = 2
  · rw [show beU f q = 0 by unfold beU; rw [if_neg s0, if_neg s1, if_pos s2], show beV f q = f.o by unfold beV; rw [if_neg s0, if_neg s1, if_pos s2]]
    go_enter Tryz.func73, Tryz.ntmps73
    go_upto_region 7 with fail
    have GC := @GrW.cell
    refine wp_region_grw _ (by kernel_rfl) (by kernel_rfl) (Gr.refl _) ?_
    repeat (go_big_quiet_step ((first | fail)))
    refine wpQuiet_nil ?_
    intro wq hwq
    obtain ⟨gq, hwq'⟩ := hwq
    subst hwq'
    clear GC
    have gq1 := gq.gr
    generalize gq.w = wq at gq1 ⊢
    obtain ⟨Xq, Yq, cq, fq⟩ := gq1.use
    have sq := gq1.size
    (try simp only [World.size_alloc, World.size_setCell, World.heap_drewN] at sq)
    go_wp2
    refine bodyPost_ret (v := .tuple #[iv (0), iv (f.o)]) (by simp [results, Tryz.results73, go_sem, *]) rfl ⟨rfl, (by repeat (first | with_reducible exact Gr.refl _ | with_reducible assumption | with_reducible refine Gr.alloc ?_ _ | with_reducible refine Gr.drewN ?_ _ | with_reducible refine Gr.drew ?_ | with_reducible refine Gr.setCell ?_ (by first | (dsimp only; omega) | (simp only [World.size_alloc]; omega) | (with_reducible refine Gr.size ?_; (repeat (first | with_reducible exact Gr.refl _ | with_reducible assumption | with_reducible refine Gr.alloc ?_ _ | with_reducible refine Gr.drewN ?_ _ | with_reducible refine Gr.drew ?_ | with_reducible refine Gr.trans ?_ (by with_reducible assumption))); done)) _ | with_reducible refine Gr.trans ?_ (by with_reducible assumption)))⟩
  · rw [show beU f q = f.o by unfold beU; rw [if_neg s0, if_neg s1, if_neg s2], show beV f q = q.h by unfold beV; rw [if_neg s0, if_neg s1, if_neg s2]]
    go_enter Tryz.func73, Tryz.ntmps73
    go_upto_region 8 with fail
    have GC := @GrW.cell
    refine wp_region_grw _ (by kernel_rfl) (by kernel_rfl) (Gr.refl _) ?_
    repeat (go_big_quiet_step ((first | fail)))
    refine wpQuiet_nil ?_
    intro wq hwq
    obtain ⟨gq, hwq'⟩ := hwq
    subst hwq'
    clear GC
    have gq1 := gq.gr
    generalize gq.w = wq at gq1 ⊢
    obtain ⟨Xq, Yq, cq, fq⟩ := gq1.use
    have sq := gq1.size
    (try simp only [World.size_alloc, World.size_setCell, World.heap_drewN] at sq)
    go_wp2
    refine bodyPost_ret (v := .tuple #[iv (f.o), iv (q.h)]) (by simp [results, Tryz.results73, go_sem, *]) rfl ⟨rfl, (by repeat (first | with_reducible exact Gr.refl _ | with_reducible assumption | with_reducible refine Gr.alloc ?_ _ | with_reducible refine Gr.drewN ?_ _ | with_reducible refine Gr.drew ?_ | with_reducible refine Gr.setCell ?_ (by first | (dsimp only; omega) | (simp only [World.size_alloc]; omega) | (with_reducible refine Gr.size ?_; (repeat (first | with_reducible exact Gr.refl _ | with_reducible assumption | with_reducible refine Gr.alloc ?_ _ | with_reducible refine Gr.drewN ?_ _ | with_reducible refine Gr.drew ?_ | with_reducible refine Gr.trans ?_ (by with_reducible assumption))); done)) _ | with_reducible refine Gr.trans ?_ (by with_reducible assumption)))⟩
set_option maxHeartbeats 1000000 in
theorem point_any (q : Pl) (u v : Int) (w : World) (h1 : -10000000 ≤ u ∧ u ≤ 10000000) (h2 : -10000000 ≤ v ∧ v ≤ 10000000) (h3 : -10000000 ≤ q.x ∧ q.x ≤ 10000000) (h4 : -10000000 ≤ q.y ∧ q.y ≤ 10000000) (h5 : q.t ≤ 1000) :
    Calls Tryz.prog 74 #[fmv q, iv u, iv v] w fun e w' => e = .returned (.tuple #[iv (ptX q u v), iv (ptY q u v)]) ∧ Gr w w' := by
  have HB := hide (fun n => rt_bd n h1 h2)
  have HX := hide (show ∀ z : Int × Int, z = rt q.t (u, v) → q.x + z.1 = ptX q u v ∧ q.y + z.2 = ptY q u v by rintro z rfl; exact ⟨rfl, rfl⟩)
  clear h1 h2
  go_enter Tryz.func74, Tryz.ntmps74
  go_wp2
  go_loopw [1, 2, 10] (fun a b i wr => ∃ k : Nat, k ≤ q.t ∧ i = iv k ∧ a = iv (rt k (u, v)).1 ∧ b = iv (rt k (u, v)).2 ∧ Gr (w.alloc (.cells #[iv q.x, iv q.y, iv (q.t : Int)] 84)) wr) (fun _ _ i _ => q.t - (intOf i).toNat)
  case atStart => exact ⟨0, by omega, rfl, rfl, rfl, Gr.refl _⟩
  case round =>
    obtain ⟨k, hk, rfl, rfl, rfl, g⟩ := hrel
    obtain ⟨Xr, Yr, cr, fr⟩ := g.use
    have zr := g.size
    simp only [World.size_alloc] at zr
    have l0 : w.heap.size < wr.heap.size := by omega
    obtain ⟨b1, b2⟩ := HB.out k
    by_cases hkl : k < q.t
    · have W1 : IntKind.i64.wrap (-(rt k (u, v)).2) = (rt (k + 1) (u, v)).1 := by rw [IntWalk.i64_in _ (by omega)]; rfl
      go_wp2
      go_roundw
      case rel => exact ⟨k + 1, by omega, by go_num, rfl, rfl, (by repeat (first | with_reducible exact Gr.refl _ | with_reducible assumption | with_reducible refine Gr.alloc ?_ _ | with_reducible refine Gr.drewN ?_ _ | with_reducible refine Gr.drew ?_ | with_reducible refine Gr.setCell ?_ (by first | (dsimp only; omega) | (simp only [World.size_alloc]; omega) | (with_reducible refine Gr.size ?_; (repeat (first | with_reducible exact Gr.refl _ | with_reducible assumption | with_reducible refine Gr.alloc ?_ _ | with_reducible refine Gr.drewN ?_ _ | with_reducible refine Gr.drew ?_ | with_reducible refine Gr.trans ?_ (by with_reducible assumption))); done)) _ | with_reducible refine Gr.trans ?_ (by with_reducible assumption)))⟩
      case measure => simp only [intOf]; omega
    · obtain rfl : k = q.t := by omega
      obtain ⟨e1, e2⟩ := HX.out _ rfl
      have W1 : IntKind.i64.wrap (q.x + (rt q.t (u, v)).1) = ptX q u v := by rw [IntWalk.i64_in _ (by omega)]; exact e1
      have W2 : IntKind.i64.wrap (q.y + (rt q.t (u, v)).2) = ptY q u v := by rw [IntWalk.i64_in _ (by omega)]; exact e2
      clear e1 e2 HX HB b1 b2
      generalize rt q.t (u, v) = z at *
      go_upto_region 5 with fail
      have GC := @GrW.cell
      refine wp_region_grw _ (by kernel_rfl) (by kernel_rfl) (Gr.refl _) ?_
      repeat (go_big_quiet_step ((first | fail)))
      refine wpQuiet_nil ?_
      intro wq hwq
      obtain ⟨gq, hwq'⟩ := hwq
      subst hwq'
      clear GC
      have gq1 := gq.gr
      generalize gq.w = wq at gq1 ⊢
      obtain ⟨Xq, Yq, cq, fq⟩ := gq1.use
      have sq := gq1.size
      (try simp only [World.size_alloc, World.size_setCell, World.heap_drewN] at sq)
      go_wp2
      refine bodyPost_ret (v := .tuple #[iv (ptX q u v), iv (ptY q u v)]) (by simp [results, Tryz.results74, go_sem, *]) rfl ⟨rfl, (by repeat (first | with_reducible exact Gr.refl _ | with_reducible assumption | with_reducible refine Gr.alloc ?_ _ | with_reducible refine Gr.drewN ?_ _ | with_reducible refine Gr.drew ?_ | with_reducible refine Gr.setCell ?_ (by first | (dsimp only; omega) | (simp only [World.size_alloc]; omega) | (with_reducible refine Gr.size ?_; (repeat (first | with_reducible exact Gr.refl _ | with_reducible assumption | with_reducible refine Gr.alloc ?_ _ | with_reducible refine Gr.drewN ?_ _ | with_reducible refine Gr.drew ?_ | with_reducible refine Gr.trans ?_ (by with_reducible assumption))); done)) _ | with_reducible refine Gr.trans ?_ (by with_reducible assumption)))⟩
theorem turnsTo_any (s : Int) (w : World) (h : sdOk s) :
    Calls Tryz.prog 75 #[iv s] w fun e w' => e = .returned (iv (3 - s)) ∧ w = w' := by
  have W1 : IntKind.i64.wrap (3 - s) = 3 - s := by unfold sdOk at h; rw [IntWalk.i64_in _ (by omega)]
  clear h
  go_enter Tryz.func75, Tryz.ntmps75
  go_wp2
  go_ret
  exact ⟨rfl, rfl⟩
set_option maxRecDepth 100000 in
set_option maxHeartbeats 1000000 in
theorem placeOf_any (f : Fl) (q : Pl) (d : Int) (k : Nat) (w : World) (hq : PlB k q) (hf : FlB f) (hk : k ≤ 10) :
    Calls Tryz.prog 43 #[flv f, plv q, iv d] w fun e w' => e = .returned (plv (plC q f d)) ∧ Gr w w' := by
  obtain ⟨u1, u2⟩ := be_bd hq hf hf.o.2
  have hx := hq.x
  have hy := hq.y
  have ht := hq.t
  have hlo := hq.lo
  have hw := hq.w
  have hh := hq.h
  have ho := hf.o
  have HA := hide (fun w => above_any q (beV f q) w (by omega) (by omega))
  have HB := hide (fun w => beginning_any f q w (by omega) (by omega) (by omega))
  have HP := hide (fun w => point_any q (beU f q * 720) (abv q (beV f q)) w (by omega) (by unfold abv; omega) (by omega) (by omega) (by omega))
  have HT := hide (fun w => turnsTo_any f.sd w hf.sd)
  have hs := hf.sd
  have W1 : IntKind.i64.wrap (beU f q * 720) = beU f q * 720 := IntWalk.i64_in _ (by omega)
  have W2 : IntKind.i64.wrap ((q.t : Int) + (3 - f.sd)) = ((plC q f d).t : Int) := by
    unfold sdOk at hs
    rw [IntWalk.i64_in _ (by omega)]
    show _ = ((q.t + (3 - f.sd).toNat : Nat) : Int)
    omega
  have HE := hide (show plC q f d = ⟨ptX q (beU f q * 720) (abv q (beV f q)), ptY q (beU f q * 720) (abv q (beV f q)), (plC q f d).t, f.wd, f.ln, d⟩ from rfl)
  rw [HE.out]
  clear hq hf u1 u2 hx hy ht hlo hw hh ho hs
  generalize (plC q f d).t = t9 at *
  generalize ptX q (beU f q * 720) (abv q (beV f q)) = px at *
  generalize ptY q (beU f q * 720) (abv q (beV f q)) = py at *
  generalize abv q (beV f q) = ab at *
  generalize beU f q = bu at *
  generalize beV f q = bv at *
  generalize 3 - f.sd = tt at *
  clear HE
  go_enter Tryz.func43, Tryz.ntmps43
  go_upto_region 2 with (first | (go_at_call 73; refine (HB.out _).mono ?_; rintro e w1 ⟨rfl, g1⟩; obtain ⟨X1, Y1, c1, f1⟩ := g1.use; have z1 := g1.size; (try simp only [World.size_alloc, World.size_setCell, World.heap_drewN, Nat.add_one_le_iff] at z1); (try have l0 : w.heap.size < w1.heap.size := by omega); (try have l1 : w.heap.size + 1 < w1.heap.size := by omega); (try have l2 : w.heap.size + 1 + 1 < w1.heap.size := by omega)))
  have GC := @GrW.cell
  refine wp_region_grw _ (by kernel_rfl) (by kernel_rfl) (Gr.refl _) ?_
  repeat (go_big_quiet_step ((first | (go_at_call 30; exact quiet_grw (HA.out _)) | (go_at_call 74; exact quiet_grw (HP.out _)))))
  refine wpQuiet_nil ?_
  intro wq hwq
  obtain ⟨gq, hwq'⟩ := hwq
  subst hwq'
  clear GC
  have gq1 := gq.gr
  generalize gq.w = wq at gq1 ⊢
  obtain ⟨Xq, Yq, cq, fq⟩ := gq1.use
  have sq := gq1.size
  (try simp only [World.size_alloc, World.size_setCell, World.heap_drewN] at sq)
  have l0 : w.heap.size < wq.heap.size := by omega
  have l1 : w.heap.size + 1 < wq.heap.size := by omega
  have l2 : w.heap.size + 1 + 1 < wq.heap.size := by omega
  go_upto_region 3 with fail
  have GC := @GrW.cell
  refine wp_region_grw_tail _ 16 (by kernel_rfl) (by kernel_rfl) (Gr.refl _) ?_
  simp only [List.take_succ_cons, List.take_zero, List.drop_succ_cons, List.drop_zero]
  repeat (go_big_quiet_step ((first | (go_at_call 75; exact quiet_grs (HT.out _)))))
  refine wpQuiet_nil ?_
  intro wq hwq
  obtain ⟨gq, hwq'⟩ := hwq
  subst hwq'
  clear GC
  have gq1 := gq.gr
  generalize gq.w = wq at gq1 ⊢
  obtain ⟨Xq, Yq, cq, fq⟩ := gq1.use
  have sq := gq1.size
  (try simp only [World.size_alloc, World.size_setCell, World.heap_drewN] at sq)
  go_wp2
  refine bodyPost_ret (v := plv ⟨px, py, t9, f.wd, f.ln, d⟩) (by simp [results, Tryz.results43, go_sem, *]) rfl ⟨rfl, (by repeat (first | with_reducible exact Gr.refl _ | with_reducible assumption | with_reducible refine Gr.alloc ?_ _ | with_reducible refine Gr.drewN ?_ _ | with_reducible refine Gr.drew ?_ | with_reducible refine Gr.setCell ?_ (by first | (dsimp only; omega) | (simp only [World.size_alloc]; omega) | (with_reducible refine Gr.size ?_; (repeat (first | with_reducible exact Gr.refl _ | with_reducible assumption | with_reducible refine Gr.alloc ?_ _ | with_reducible refine Gr.drewN ?_ _ | with_reducible refine Gr.drew ?_ | with_reducible refine Gr.trans ?_ (by with_reducible assumption))); done)) _ | with_reducible refine Gr.trans ?_ (by with_reducible assumption)))⟩
end Go.Proofs.YtdabhnefoigebaaGreat
set_option linter.unusedVariables false
set_option linter.unusedSimpArgs false
namespace Go.Proofs.YtdabhnefoigebaaGreat
set_option linter.unusedVariables false
set_option linter.unusedSimpArgs false
open Go Go.ChangeShapes Go.WideShapes Go.ChangeAt Go.RowKit Go.Deep

def abI (a : Int) : Int := if a < 0 then -a else a
/-- what a flange loses: the deduction, its ticks -/
def dR (t : Tb) (f : Fl) : R3 := dedA t (abI f.an)
def dT (t : Tb) (f : Fl) : Int := if (dR t f).2.2 = 0 then (tikV (dR t f).1 (dR t f).2.1).1 else 0
def dA (t : Tb) (l : List Fl) (i : Nat) : Int := match l[i]? with
  | some f => (dR t f).2.2
  | none => 0
def fitB (p : Pa) (t : Tb) : Bool := t.mt.toList == p.mt.toList && t.ga == p.ga
/-- the error of a part and a table -/
noncomputable def dlE (p : Pa) (t : Tb) : Int := if valE p ≠ 0 then valE p else if tbE t ≠ 0 then tbE t else if !fitB p t then 9 else firE (dA t p.fl) p.fl.length
theorem dlE_part {p : Pa} {t : Tb} (h : ¬ valE p = 0) : dlE p t = valE p := by
  unfold dlE
  rw [if_pos h]
theorem dlE_table {p : Pa} {t : Tb} (h : valE p = 0) (k : ¬ tbE t = 0) : dlE p t = tbE t := by
  unfold dlE
  rw [if_neg (by simpa using h), if_pos k]
theorem dlE_fit {p : Pa} {t : Tb} (h : valE p = 0) (k : tbE t = 0) (m : fitB p t = false) : dlE p t = 9 := by
  unfold dlE
  rw [if_neg (by simpa using h), if_neg (by simpa using k), m]
  rfl
theorem dlE_rest {p : Pa} {t : Tb} (h : valE p = 0) (k : tbE t = 0) (m : fitB p t = true) : dlE p t = firE (dA t p.fl) p.fl.length := by
  unfold dlE
  rw [if_neg (by simpa using h), if_neg (by simpa using k), m]
  rfl
theorem dlE_zero {p : Pa} {t : Tb} (h : dlE p t = 0) : valE p = 0 ∧ tbE t = 0 ∧ fitB p t = true ∧ firE (dA t p.fl) p.fl.length = 0 := by
  by_cases h1 : valE p = 0
  · by_cases h2 : tbE t = 0
    · cases h3 : fitB p t with
      | false => rw [dlE_fit h1 h2 h3] at h; cases h
      | true => rw [dlE_rest h1 h2 h3] at h; exact ⟨h1, h2, rfl, h⟩
    · rw [dlE_table h1 h2] at h; exact absurd h h2
  · rw [dlE_part h1] at h; exact absurd h h1
theorem dA_at {t : Tb} {l : List Fl} {i : Nat} {f : Fl} (h : l[i]? = some f) : dA t l i = (dR t f).2.2 := by
  unfold dA
  rw [h]
/-- a deduction without an error has ticks -/
theorem dR_ok {t : Tb} {f : Fl} (h : (dR t f).2.2 = 0) : tikV (dR t f).1 (dR t f).2.1 = (dT t f, 0) ∧ 0 ≤ dT t f ∧ dT t f ≤ 14400 := by
  have e : dedA t (abI f.an) = ((dR t f).1, (dR t f).2.1, 0) := by
    show dR t f = _
    rw [← h]
  obtain ⟨n, y, D⟩ := ded_ok e
  have h1 := D.tik
  have h2 := D.nn
  have h3 : dT t f = n := by unfold dT; rw [if_pos h, h1]
  rw [h3]
  exact ⟨h1, h2⟩
theorem dT_bd (t : Tb) (f : Fl) : 0 ≤ dT t f ∧ dT t f ≤ 14400 := by
  by_cases h : (dR t f).2.2 = 0
  · exact (dR_ok h).2
  · unfold dT
    rw [if_neg h]
    decide
theorem dT_list {t : Tb} {l : List Fl} {k : Nat} {f : Fl} (h : l[k]? = some f) : (l.take (k + 1)).map (dT t) = (l.take k).map (dT t) ++ [dT t f] := by
  obtain ⟨h1, rfl⟩ := List.getElem?_eq_some_iff.1 h
  rw [List.take_succ_eq_append_getElem h1, List.map_append]
  rfl
theorem ne_fit {p : Pa} {t : Tb} (h : fitB p t = false) : (t.mt.toList = p.mt.toList ∧ ¬ t.ga = p.ga) ∨ ¬ t.mt.toList = p.mt.toList := by
  unfold fitB at h
  simp only [Bool.and_eq_false_iff, beq_eq_false_iff_ne] at h
  by_cases k : t.mt.toList = p.mt.toList
  · rcases h with h | h
    · exact absurd k h
    · exact .inl ⟨k, h⟩
  · exact .inr k
theorem eq_fit {p : Pa} {t : Tb} (h : fitB p t = true) : t.mt.toList = p.mt.toList ∧ t.ga = p.ga := by
  unfold fitB at h
  simpa only [Bool.and_eq_true, beq_iff_eq] using h
set_option maxRecDepth 100000 in
set_option maxHeartbeats 4000000 in
theorem deductions_any (p : Pa) (t : Tb) (A B C : Option Addr) (c d q : Nat) (w : World) (hP : PaW w p A c B d) (hE : SlE w C q t.en) (hs : t.mt.size ≤ 1000) :
    Calls Tryz.prog 42 #[pav p A c B d, tbv t C q] w fun e w' => ∃ v, e = .returned (sle v (dlE p t)) ∧ (dlE p t = 0 → OwnL w' w.heap.size 3 1 inL v (p.fl.map (dT t))) ∧ Gr w w' := by
  have HV := hide (fun (w' : World) (g : Gr w w') => Validate_any p A B c d w' (hP.gr g))
  have HT := hide (fun (w' : World) (g : Gr w w') => fValidate_any t C q w' (hE.gr g) hs)
  have HF := hide hP.fl
  have HE := hide hE
  have hpl := hP.fl.len
  have hen := hE.len
  by_cases h1 : valE p = 0
  · rw [h1] at HV
    by_cases h2 : tbE t = 0
    · rw [h2] at HT
      cases h3 : fitB p t with
      | false =>
        have HN := hide (dlE_fit h1 h2 h3)
        have HK := hide (ne_fit h3)
        all_goals
          clear h1 h2 h3 hP hE
          go_enter Tryz.func42, Tryz.ntmps42
          go_wp2_with fail
          refine (HV.out _ (by repeat (first | with_reducible exact Gr.refl _ | with_reducible assumption | with_reducible refine Gr.alloc ?_ _ | with_reducible refine Gr.drewN ?_ _ | with_reducible refine Gr.drew ?_ | with_reducible refine Gr.setCell ?_ (by first | (dsimp only; omega) | (simp only [World.size_alloc]; omega) | (with_reducible refine Gr.size ?_; (repeat (first | with_reducible exact Gr.refl _ | with_reducible assumption | with_reducible refine Gr.alloc ?_ _ | with_reducible refine Gr.drewN ?_ _ | with_reducible refine Gr.drew ?_ | with_reducible refine Gr.trans ?_ (by with_reducible assumption))); done)) _ | with_reducible refine Gr.trans ?_ (by with_reducible assumption)))).mono ?_
          rintro e w1 ⟨rfl, g1⟩
          obtain ⟨X1, Y1, c1, f1⟩ := g1.use
          have z1 := g1.size
          simp only [World.size_alloc] at z1
          have l1 : w.heap.size + 1 < w1.heap.size := by omega
          have l0 : w.heap.size < w1.heap.size := by omega
          go_wp2_with fail
          refine (HT.out _ (by repeat (first | with_reducible exact Gr.refl _ | with_reducible assumption | with_reducible refine Gr.alloc ?_ _ | with_reducible refine Gr.drewN ?_ _ | with_reducible refine Gr.drew ?_ | with_reducible refine Gr.setCell ?_ (by first | (dsimp only; omega) | (simp only [World.size_alloc]; omega) | (with_reducible refine Gr.size ?_; (repeat (first | with_reducible exact Gr.refl _ | with_reducible assumption | with_reducible refine Gr.alloc ?_ _ | with_reducible refine Gr.drewN ?_ _ | with_reducible refine Gr.drew ?_ | with_reducible refine Gr.trans ?_ (by with_reducible assumption))); done)) _ | with_reducible refine Gr.trans ?_ (by with_reducible assumption)))).mono ?_
          rintro e w2 ⟨rfl, g2⟩
          obtain ⟨X2, Y2, c2, f2⟩ := g2.use
          have z2 := g2.size
          have m1 : w.heap.size + 1 < w2.heap.size := by omega
          have m0 : w.heap.size < w2.heap.size := by omega
          rcases HK.out with ⟨k1, k2⟩ | k1
          all_goals
           go_wp2_with fail
           refine bodyPost_ret (v := sle (.slice none 0 0) 9) (by simp [results, Tryz.results42, go_sem, *]) rfl ⟨_, ret_sle HN.out.symm, (fun h => by rw [HN.out] at h; cases h), (by repeat (first | with_reducible exact Gr.refl _ | with_reducible assumption | with_reducible refine Gr.alloc ?_ _ | with_reducible refine Gr.drewN ?_ _ | with_reducible refine Gr.drew ?_ | with_reducible refine Gr.setCell ?_ (by first | (dsimp only; omega) | (simp only [World.size_alloc]; omega) | (with_reducible refine Gr.size ?_; (repeat (first | with_reducible exact Gr.refl _ | with_reducible assumption | with_reducible refine Gr.alloc ?_ _ | with_reducible refine Gr.drewN ?_ _ | with_reducible refine Gr.drew ?_ | with_reducible refine Gr.trans ?_ (by with_reducible assumption))); done)) _ | with_reducible refine Gr.trans ?_ (by with_reducible assumption)))⟩
      | true =>
        have HN := hide (dlE_rest h1 h2 h3)
        have HB := hide (good_of h1)
        have HK := hide (eq_fit h3)
        clear h1 h2 h3 hP hE
        go_enter Tryz.func42, Tryz.ntmps42
        go_wp2_with fail
        refine (HV.out _ (by repeat (first | with_reducible exact Gr.refl _ | with_reducible assumption | with_reducible refine Gr.alloc ?_ _ | with_reducible refine Gr.drewN ?_ _ | with_reducible refine Gr.drew ?_ | with_reducible refine Gr.setCell ?_ (by first | (dsimp only; omega) | (simp only [World.size_alloc]; omega) | (with_reducible refine Gr.size ?_; (repeat (first | with_reducible exact Gr.refl _ | with_reducible assumption | with_reducible refine Gr.alloc ?_ _ | with_reducible refine Gr.drewN ?_ _ | with_reducible refine Gr.drew ?_ | with_reducible refine Gr.trans ?_ (by with_reducible assumption))); done)) _ | with_reducible refine Gr.trans ?_ (by with_reducible assumption)))).mono ?_
        rintro e w1 ⟨rfl, g1⟩
        obtain ⟨X1, Y1, c1, f1⟩ := g1.use
        have z1 := g1.size
        simp only [World.size_alloc] at z1
        have l1 : w.heap.size + 1 < w1.heap.size := by omega
        have l0 : w.heap.size < w1.heap.size := by omega
        go_wp2_with fail
        refine (HT.out _ (by repeat (first | with_reducible exact Gr.refl _ | with_reducible assumption | with_reducible refine Gr.alloc ?_ _ | with_reducible refine Gr.drewN ?_ _ | with_reducible refine Gr.drew ?_ | with_reducible refine Gr.setCell ?_ (by first | (dsimp only; omega) | (simp only [World.size_alloc]; omega) | (with_reducible refine Gr.size ?_; (repeat (first | with_reducible exact Gr.refl _ | with_reducible assumption | with_reducible refine Gr.alloc ?_ _ | with_reducible refine Gr.drewN ?_ _ | with_reducible refine Gr.drew ?_ | with_reducible refine Gr.trans ?_ (by with_reducible assumption))); done)) _ | with_reducible refine Gr.trans ?_ (by with_reducible assumption)))).mono ?_
        rintro e w2 ⟨rfl, g2⟩
        obtain ⟨X2, Y2, c2, f2⟩ := g2.use
        have z2 := g2.size
        have m1 : w.heap.size + 1 < w2.heap.size := by omega
        have m0 : w.heap.size < w2.heap.size := by omega
        have gw2 : Gr w w2 := (by repeat (first | with_reducible exact Gr.refl _ | with_reducible assumption | with_reducible refine Gr.alloc ?_ _ | with_reducible refine Gr.drewN ?_ _ | with_reducible refine Gr.drew ?_ | with_reducible refine Gr.setCell ?_ (by first | (dsimp only; omega) | (simp only [World.size_alloc]; omega) | (with_reducible refine Gr.size ?_; (repeat (first | with_reducible exact Gr.refl _ | with_reducible assumption | with_reducible refine Gr.alloc ?_ _ | with_reducible refine Gr.drewN ?_ _ | with_reducible refine Gr.drew ?_ | with_reducible refine Gr.trans ?_ (by with_reducible assumption))); done)) _ | with_reducible refine Gr.trans ?_ (by with_reducible assumption)))
        have n0 : w2.cell? ⟨w.heap.size + 1, 0, none⟩ = some (.string t.mt) := by rw [c2, c1]; simp [go_sem]
        have n1 : w2.cell? ⟨w.heap.size + 1, 1, none⟩ = some (iv t.ga) := by rw [c2, c1]; simp [go_sem]
        have n2 : w2.cell? ⟨w.heap.size + 1, 2, none⟩ = some (iv t.di) := by rw [c2, c1]; simp [go_sem]
        have n3 : w2.cell? ⟨w.heap.size + 1, 3, none⟩ = some (.slice C t.en.length q) := by rw [c2, c1]; simp [go_sem]
        obtain ⟨k1, k2⟩ := HK.out
        go_upto_region 8 with fail
        clear k1 k2
        go_wp2_with fail
        clear X1 Y1 c1 f1 X2 Y2 c2 f2
        go_loopw [8, 39] (fun v i wr => ∃ (k : Nat) (A1 : Option Addr) (d1 : Nat), k ≤ p.fl.length ∧ i = iv k ∧ v = .slice A1 k d1 ∧ Gr w2 wr ∧ Hid (∀ j, j < k → dA t p.fl j = 0) ∧ Hid (OwnL wr w2.heap.size 3 1 inL (.slice A1 k d1) ((p.fl.take k).map (dT t)))) (fun _ i _ => p.fl.length - (intOf i).toNat)
        case atStart => exact ⟨0, none, 0, by omega, rfl, rfl, Gr.refl _, (fun j hj => by omega), own_nil _ _ _ _ _⟩
        case round =>
          obtain ⟨k, A1, d1, hk, rfl, rfl, g, HS, HO⟩ := hrel
          have gW : Gr w wr := gw2.trans g
          have zr := g.size
          have l0 : w.heap.size < wr.heap.size := by omega
          have l1 : w.heap.size + 1 < wr.heap.size := by omega
          have o0 := (g.cell _ _ m1).trans n0
          have o1 := (g.cell _ _ m1).trans n1
          have o2 := (g.cell _ _ m1).trans n2
          have o3 := (g.cell _ _ m1).trans n3
          clear n0 n1 n2 n3
          by_cases hkl : k < p.fl.length
          · obtain ⟨f, hf⟩ : ∃ f, p.fl[k]? = some f := ⟨_, List.getElem?_eq_getElem hkl⟩
            obtain ⟨b, off, hA, x0, x1, x2, x3, x4, x5, x6⟩ := HF.out.rd.fl hf
            subst hA
            have hb : b < w.heap.size := cell_lt (by rw [x0]; rfl)
            have hbr : b < wr.heap.size := by omega
            have y0 := (gW.cell _ _ hb).trans x0
            have y1 := (gW.cell _ _ hb).trans x1
            have y2 := (gW.cell _ _ hb).trans x2
            have y3 := (gW.cell _ _ hb).trans x3
            have y4 := (gW.cell _ _ hb).trans x4
            have y5 := (gW.cell _ _ hb).trans x5
            have y6 := (gW.cell _ _ hb).trans x6
            clear x0 x1 x2 x3 x4 x5 x6
            have han : anOk f.an := (HB.out.fl.fl k f hkl hf).2.2.1
            have hk0 : (0 : Int) ≤ (k : Int) := by omega
            have hk1 : (k : Int) < (p.fl.length : Int) := by omega
            have HDED := hide (show ∀ z, z = abI f.an → ∀ w', Gr w w' → Calls Tryz.prog 17 #[tbv t C q, iv z] w' fun e w'' => e = .returned (trV (dR t f)) ∧ Gr w' w'' from fun z hz w' g => by rw [hz]; exact Deduction_any t C q (abI f.an) w' (HE.out.gr g) hs)
            have HAT := hide (dA_at (t := t) hf)
            have HLS := hide (dT_list (t := t) hf)
            have HOK := hide (fun h => dR_ok (t := t) (f := f) h)
            have hT : dT t f = dT t f := rfl
            obtain ⟨d1', d2', d3', hdr⟩ : ∃ a b c, dR t f = (a, b, c) := ⟨_, _, _, rfl⟩
            rw [hdr] at HDED HAT HOK
            simp only at HAT HOK
            have hab1 : ∀ z, z = f.an → wrap64 (-f.an) ≤ f.an → z = abI f.an := by
              intro z hz h
              unfold anOk at han
              rw [w_in (show I64 (-f.an) by unfold I64; omega)] at h
              unfold abI
              split <;> omega
            have hab2 : ∀ z, z = wrap64 (-f.an) → f.an ≤ wrap64 (-f.an) → z = abI f.an := by
              intro z hz h
              unfold anOk at han
              rw [w_in (show I64 (-f.an) by unfold I64; omega)] at h hz
              unfold abI
              split <;> omega
            have HA1 := hide hab1
            have HA2 := hide hab2
            clear hab1 hab2 han hT hdr hf
            by_cases he : d3' = 0
            · subst he
              obtain ⟨htk, hn1, hn2⟩ := HOK.out rfl
              have HTK := hide (fun w => Ticks_any d1' d2' w)
              rw [htk] at HTK
              have HS2 := hide (show ∀ j, j < k + 1 → dA t p.fl j = 0 by
                intro j hj
                rcases Nat.lt_or_ge j k with h | h
                · exact HS.out j h
                · obtain rfl : j = k := by omega
                  exact HAT.out)
              clear HOK htk HAT HS
              generalize dT t f = n at *
              obtain ⟨M1, hM1⟩ : ∃ M, (p.fl.take k).map (dT t) = M := ⟨_, rfl⟩
              obtain ⟨M2, hM2⟩ : ∃ M, (p.fl.take (k + 1)).map (dT t) = M := ⟨_, rfl⟩
              have HM2 := hide hM2
              have HL1 := hide (show k = M1.length by rw [← hM1, List.length_map, List.length_take]; omega)
              have HL2 := hide (show M2.length = k + 1 by rw [← hM2, List.length_map, List.length_take]; omega)
              rw [hM1] at HO HLS
              rw [hM2] at HLS
              clear hM1 hM2
              go_upto_region 14 with fail
              case' inr => refine (HDED.out f.an (HA1.out _ rfl h) _ (by repeat (first | with_reducible exact Gr.refl _ | with_reducible assumption | with_reducible refine Gr.alloc ?_ _ | with_reducible refine Gr.drewN ?_ _ | with_reducible refine Gr.drew ?_ | with_reducible refine Gr.setCell ?_ (by first | (dsimp only; omega) | (simp only [World.size_alloc]; omega) | (with_reducible refine Gr.size ?_; (repeat (first | with_reducible exact Gr.refl _ | with_reducible assumption | with_reducible refine Gr.alloc ?_ _ | with_reducible refine Gr.drewN ?_ _ | with_reducible refine Gr.drew ?_ | with_reducible refine Gr.trans ?_ (by with_reducible assumption))); done)) _ | with_reducible refine Gr.trans ?_ (by with_reducible assumption)))).mono ?_
              case' inl => refine (HDED.out (wrap64 (-f.an)) (HA2.out _ rfl (by omega)) _ (by repeat (first | with_reducible exact Gr.refl _ | with_reducible assumption | with_reducible refine Gr.alloc ?_ _ | with_reducible refine Gr.drewN ?_ _ | with_reducible refine Gr.drew ?_ | with_reducible refine Gr.setCell ?_ (by first | (dsimp only; omega) | (simp only [World.size_alloc]; omega) | (with_reducible refine Gr.size ?_; (repeat (first | with_reducible exact Gr.refl _ | with_reducible assumption | with_reducible refine Gr.alloc ?_ _ | with_reducible refine Gr.drewN ?_ _ | with_reducible refine Gr.drew ?_ | with_reducible refine Gr.trans ?_ (by with_reducible assumption))); done)) _ | with_reducible refine Gr.trans ?_ (by with_reducible assumption)))).mono ?_
              all_goals
                rintro e w3 ⟨rfl, g3⟩
                have z3 := g3.size
                simp only [World.size_alloc] at z3
                go_wp2_with fail
                refine (HTK.out _).mono ?_
                rintro e w4 ⟨rfl, g4⟩
                have z4 := g4.size
                simp only [World.size_alloc] at z4
                have gr4 : Gr wr w4 := (by repeat (first | with_reducible exact Gr.refl _ | with_reducible assumption | with_reducible refine Gr.alloc ?_ _ | with_reducible refine Gr.drewN ?_ _ | with_reducible refine Gr.drew ?_ | with_reducible refine Gr.setCell ?_ (by first | (dsimp only; omega) | (simp only [World.size_alloc]; omega) | (with_reducible refine Gr.size ?_; (repeat (first | with_reducible exact Gr.refl _ | with_reducible assumption | with_reducible refine Gr.alloc ?_ _ | with_reducible refine Gr.drewN ?_ _ | with_reducible refine Gr.drew ?_ | with_reducible refine Gr.trans ?_ (by with_reducible assumption))); done)) _ | with_reducible refine Gr.trans ?_ (by with_reducible assumption)))
                go_wp2_with (refine wpList_app1 rfl _ _ _ rfl inL w2.heap.size 3 1 8 elInt (by decide) M1 n M2 HLS.out.symm _ (by rw [HL1.out]) (by have := HO.out.gr gr4; rw [HL1.out] at this; exact OwnL.gr this (Gr.alloc (Gr.refl _) _)) _ 1 rfl rfl (by intro j u hu; refine newsA w4 #[iv n] 3 j u ?_; exact hu) (by intro u hu; simp at hu; subst hu; rfl) (by have := HL1.out; omega) (by decide) (by simp only [World.size_alloc]; omega) ?_; intro gg cap1 w8 hO8 hG8 _ _ _)
                go_roundw
                case rel => exact ⟨k + 1, some ⟨gg, 0, none⟩, cap1, by omega, by go_num, by rw [HL2.out], hG8 _ ((g.trans gr4).trans (Gr.alloc (Gr.refl _) _)) (Nat.le_refl _), HS2, by rw [HM2.out, ← HL2.out]; exact hO8⟩
                case measure => simp only [intOf]; omega
            · have HE0 := hide (show dlE p t = d3' by
                rw [HN.out, firE_at HS.out (by rw [HAT.out]; exact he) hkl, HAT.out])
              clear HOK HAT HS HLS HO
              go_upto_region 14 with fail
              case' inr => refine (HDED.out f.an (HA1.out _ rfl h) _ (by repeat (first | with_reducible exact Gr.refl _ | with_reducible assumption | with_reducible refine Gr.alloc ?_ _ | with_reducible refine Gr.drewN ?_ _ | with_reducible refine Gr.drew ?_ | with_reducible refine Gr.setCell ?_ (by first | (dsimp only; omega) | (simp only [World.size_alloc]; omega) | (with_reducible refine Gr.size ?_; (repeat (first | with_reducible exact Gr.refl _ | with_reducible assumption | with_reducible refine Gr.alloc ?_ _ | with_reducible refine Gr.drewN ?_ _ | with_reducible refine Gr.drew ?_ | with_reducible refine Gr.trans ?_ (by with_reducible assumption))); done)) _ | with_reducible refine Gr.trans ?_ (by with_reducible assumption)))).mono ?_
              case' inl => refine (HDED.out (wrap64 (-f.an)) (HA2.out _ rfl (by omega)) _ (by repeat (first | with_reducible exact Gr.refl _ | with_reducible assumption | with_reducible refine Gr.alloc ?_ _ | with_reducible refine Gr.drewN ?_ _ | with_reducible refine Gr.drew ?_ | with_reducible refine Gr.setCell ?_ (by first | (dsimp only; omega) | (simp only [World.size_alloc]; omega) | (with_reducible refine Gr.size ?_; (repeat (first | with_reducible exact Gr.refl _ | with_reducible assumption | with_reducible refine Gr.alloc ?_ _ | with_reducible refine Gr.drewN ?_ _ | with_reducible refine Gr.drew ?_ | with_reducible refine Gr.trans ?_ (by with_reducible assumption))); done)) _ | with_reducible refine Gr.trans ?_ (by with_reducible assumption)))).mono ?_
              all_goals
                rintro e w3 ⟨rfl, g3⟩
                go_wp2_with fail
                refine bodyPost_ret (v := sle (.slice none 0 0) d3') (by simp [results, Tryz.results42, go_sem, *]) rfl ⟨_, ret_sle HE0.out.symm, (fun h => by rw [HE0.out] at h; exact absurd h he), gW.trans (by repeat (first | with_reducible exact Gr.refl _ | with_reducible assumption | with_reducible refine Gr.alloc ?_ _ | with_reducible refine Gr.drewN ?_ _ | with_reducible refine Gr.drew ?_ | with_reducible refine Gr.setCell ?_ (by first | (dsimp only; omega) | (simp only [World.size_alloc]; omega) | (with_reducible refine Gr.size ?_; (repeat (first | with_reducible exact Gr.refl _ | with_reducible assumption | with_reducible refine Gr.alloc ?_ _ | with_reducible refine Gr.drewN ?_ _ | with_reducible refine Gr.drew ?_ | with_reducible refine Gr.trans ?_ (by with_reducible assumption))); done)) _ | with_reducible refine Gr.trans ?_ (by with_reducible assumption)))⟩
          · obtain rfl : k = p.fl.length := by omega
            have HE0 := hide (show dlE p t = 0 by rw [HN.out]; exact firE_none HS.out)
            rw [List.take_length] at HO
            have HO9 := hide (HO.out.weak (show w.heap.size ≤ w2.heap.size by omega))
            clear HO
            go_wp2
            refine bodyPost_ret (v := sle (.slice A1 p.fl.length d1) 0) (by simp [results, Tryz.results42, go_sem, *]) rfl ⟨_, ret_sle HE0.out.symm, (fun _ => HO9.out), gW⟩
    · have HN := hide (dlE_table h1 h2)
      have HZ := hide h2
      clear h1 h2 hP hE
      generalize tbE t = te at *
      have hz : ¬ te = 0 := HZ.out
      go_enter Tryz.func42, Tryz.ntmps42
      go_wp2_with fail
      refine (HV.out _ (by repeat (first | with_reducible exact Gr.refl _ | with_reducible assumption | with_reducible refine Gr.alloc ?_ _ | with_reducible refine Gr.drewN ?_ _ | with_reducible refine Gr.drew ?_ | with_reducible refine Gr.setCell ?_ (by first | (dsimp only; omega) | (simp only [World.size_alloc]; omega) | (with_reducible refine Gr.size ?_; (repeat (first | with_reducible exact Gr.refl _ | with_reducible assumption | with_reducible refine Gr.alloc ?_ _ | with_reducible refine Gr.drewN ?_ _ | with_reducible refine Gr.drew ?_ | with_reducible refine Gr.trans ?_ (by with_reducible assumption))); done)) _ | with_reducible refine Gr.trans ?_ (by with_reducible assumption)))).mono ?_
      rintro e w1 ⟨rfl, g1⟩
      obtain ⟨X1, Y1, c1, f1⟩ := g1.use
      have z1 := g1.size
      simp only [World.size_alloc] at z1
      have l1 : w.heap.size + 1 < w1.heap.size := by omega
      have l0 : w.heap.size < w1.heap.size := by omega
      go_wp2_with fail
      refine (HT.out _ (by repeat (first | with_reducible exact Gr.refl _ | with_reducible assumption | with_reducible refine Gr.alloc ?_ _ | with_reducible refine Gr.drewN ?_ _ | with_reducible refine Gr.drew ?_ | with_reducible refine Gr.setCell ?_ (by first | (dsimp only; omega) | (simp only [World.size_alloc]; omega) | (with_reducible refine Gr.size ?_; (repeat (first | with_reducible exact Gr.refl _ | with_reducible assumption | with_reducible refine Gr.alloc ?_ _ | with_reducible refine Gr.drewN ?_ _ | with_reducible refine Gr.drew ?_ | with_reducible refine Gr.trans ?_ (by with_reducible assumption))); done)) _ | with_reducible refine Gr.trans ?_ (by with_reducible assumption)))).mono ?_
      rintro e w2 ⟨rfl, g2⟩
      go_wp2_with fail
      refine bodyPost_ret (v := sle (.slice none 0 0) te) (by simp [results, Tryz.results42, go_sem, *]) rfl ⟨_, ret_sle HN.out.symm, (fun h => by rw [HN.out] at h; exact absurd h hz), (by repeat (first | with_reducible exact Gr.refl _ | with_reducible assumption | with_reducible refine Gr.alloc ?_ _ | with_reducible refine Gr.drewN ?_ _ | with_reducible refine Gr.drew ?_ | with_reducible refine Gr.setCell ?_ (by first | (dsimp only; omega) | (simp only [World.size_alloc]; omega) | (with_reducible refine Gr.size ?_; (repeat (first | with_reducible exact Gr.refl _ | with_reducible assumption | with_reducible refine Gr.alloc ?_ _ | with_reducible refine Gr.drewN ?_ _ | with_reducible refine Gr.drew ?_ | with_reducible refine Gr.trans ?_ (by with_reducible assumption))); done)) _ | with_reducible refine Gr.trans ?_ (by with_reducible assumption)))⟩
  · have HN := hide (dlE_part (t := t) h1)
    have HZ := hide h1
    clear h1 hP hE
    generalize valE p = te at *
    have hz : ¬ te = 0 := HZ.out
    go_enter Tryz.func42, Tryz.ntmps42
    go_wp2_with fail
    refine (HV.out _ (by repeat (first | with_reducible exact Gr.refl _ | with_reducible assumption | with_reducible refine Gr.alloc ?_ _ | with_reducible refine Gr.drewN ?_ _ | with_reducible refine Gr.drew ?_ | with_reducible refine Gr.setCell ?_ (by first | (dsimp only; omega) | (simp only [World.size_alloc]; omega) | (with_reducible refine Gr.size ?_; (repeat (first | with_reducible exact Gr.refl _ | with_reducible assumption | with_reducible refine Gr.alloc ?_ _ | with_reducible refine Gr.drewN ?_ _ | with_reducible refine Gr.drew ?_ | with_reducible refine Gr.trans ?_ (by with_reducible assumption))); done)) _ | with_reducible refine Gr.trans ?_ (by with_reducible assumption)))).mono ?_
    rintro e w1 ⟨rfl, g1⟩
    go_wp2_with fail
    refine bodyPost_ret (v := sle (.slice none 0 0) te) (by simp [results, Tryz.results42, go_sem, *]) rfl ⟨_, ret_sle HN.out.symm, (fun h => by rw [HN.out] at h; exact absurd h hz), (by repeat (first | with_reducible exact Gr.refl _ | with_reducible assumption | with_reducible refine Gr.alloc ?_ _ | with_reducible refine Gr.drewN ?_ _ | with_reducible refine Gr.drew ?_ | with_reducible refine Gr.setCell ?_ (by first | (dsimp only; omega) | (simp only [World.size_alloc]; omega) | (with_reducible refine Gr.size ?_; (repeat (first | with_reducible exact Gr.refl _ | with_reducible assumption | with_reducible refine Gr.alloc ?_ _ | with_reducible refine Gr.drewN ?_ _ | with_reducible refine Gr.drew ?_ | with_reducible refine Gr.trans ?_ (by with_reducible assumption))); done)) _ | with_reducible refine Gr.trans ?_ (by with_reducible assumption)))⟩
end Go.Proofs.YtdabhnefoigebaaGreat
set_option linter.unusedVariables false
set_option linter.unusedSimpArgs false
namespace Go.Proofs.YtdabhnefoigebaaGreat
set_option linter.unusedVariables false
set_option linter.unusedSimpArgs false
open Go Go.ChangeShapes Go.WideShapes Go.ChangeAt Go.RowKit Go.Deep

theorem elPl : ElT Tryz.prog 60 86 6 48 := elT_of (.agg #[.int .i64 0, .int .i64 0, .int .i64 0, .int .i64 0, .int .i64 0, .int .i64 0]) Tryz.underlying60 (by kernel_rfl) rfl
theorem one_pl (q : Pl) : ∀ u ∈ plL q, u.oneCell' = true := by
  intro u hu
  simp at hu
  rcases hu with rfl | rfl | rfl | rfl | rfl | rfl <;> rfl
theorem RdL.pl {w : World} {A : Option Addr} {l : List Pl} (h : RdL w 6 plL A l) {i : Nat} {f : Pl} (hi : l[i]? = some f) : ∃ b off, A = some ⟨b, off, none⟩ ∧ w.cell? ⟨b, off + i * 6, none⟩ = some (iv f.x) ∧ w.cell? ⟨b, off + i * 6 + 1, none⟩ = some (iv f.y) ∧
    w.cell? ⟨b, off + i * 6 + 2, none⟩ = some (iv (f.t : Int)) ∧ w.cell? ⟨b, off + i * 6 + 3, none⟩ = some (iv f.w) ∧ w.cell? ⟨b, off + i * 6 + 4, none⟩ = some (iv f.h) ∧ w.cell? ⟨b, off + i * 6 + 5, none⟩ = some (iv f.lo) := by
  obtain ⟨b, off, e, h0, h1, h2, h3, h4, h5, _⟩ := h i f hi
  exact ⟨b, off, e, h0, h1, h2, h3, h4, h5⟩
/-- a slice of places, as a callee gets it -/
structure SlP (w : World) (A : Option Addr) (c : Nat) (l : List Pl) : Prop where
  rd : RdL w 6 plL A l
  cap : l.length ≤ c
  capB : c ≤ 9223372036854775807
theorem SlP.gr {w w' : World} {A : Option Addr} {c : Nat} {l : List Pl} (h : SlP w A c l) (g : Gr w w') : SlP w' A c l := ⟨h.rd.gr g, h.cap, h.capB⟩
theorem slP_own {w : World} {base : Nat} {e : TypeId} {A : Option Addr} {n d : Nat} {xs : List Pl} (h : OwnL w base e 6 plL (.slice A n d) xs) : SlP w A d xs := by
  obtain ⟨_, h1, h2, h3⟩ := OwnL.rd (c := plL) (fun _ => rfl) h
  exact ⟨h1, h2, by unfold maxLen at h3; omega⟩
/-- the places of all faces of a part -/
def plsA (p : Pa) (t : Tb) : List Pl := pls p.wd p.ht p.fl (dT t) p.fl.length
def shB (l : List Pl) : Bool := l.any fun q => decide (abv q q.h < 1)
noncomputable def plE (p : Pa) (t : Tb) : Int := if dlE p t ≠ 0 then dlE p t else if shB (plsA p t) then 8 else 0
theorem plE_ded {p : Pa} {t : Tb} (h : ¬ dlE p t = 0) : plE p t = dlE p t := by
  unfold plE
  rw [if_pos h]
theorem plE_short {p : Pa} {t : Tb} (h : dlE p t = 0) {i : Nat} {q : Pl} (hq : (plsA p t)[i]? = some q) (k : abv q q.h < 1) : plE p t = 8 := by
  unfold plE shB
  rw [if_neg (by simpa using h), if_pos (List.any_eq_true.2 ⟨q, List.mem_of_getElem? hq, by simpa using k⟩)]
theorem plE_ok {p : Pa} {t : Tb} (h : dlE p t = 0) (k : ∀ i q, i < (plsA p t).length → (plsA p t)[i]? = some q → 1 ≤ abv q q.h) : plE p t = 0 := by
  unfold plE shB
  rw [if_neg (by simpa using h), if_neg]
  rw [List.any_eq_true]
  rintro ⟨q, hq, hk⟩
  obtain ⟨i, hi⟩ := List.mem_iff_getElem?.1 hq
  have := k i q (List.getElem?_eq_some_iff.1 hi).1 hi
  have hk2 : abv q q.h < 1 := by simpa using hk
  omega
theorem plE_zero {p : Pa} {t : Tb} (h : plE p t = 0) : dlE p t = 0 ∧ ∀ q ∈ plsA p t, 1 ≤ abv q q.h := by
  by_cases h1 : dlE p t = 0
  · refine ⟨h1, fun q hq => ?_⟩
    obtain ⟨i, hi⟩ := List.mem_iff_getElem?.1 hq
    refine Int.not_lt.1 fun k => ?_
    rw [plE_short h1 hi k] at h
    cases h
  · rw [plE_ded h1] at h
    exact absurd h h1
/-- a valid part's flanges, with the deductions of a table -/
theorem flsB_v {p : Pa} (t : Tb) (h1 : valE p = 0) : FlsB p.wd p.ht p.fl (dT t) := by
  have G := good_of h1
  have F := G.fl
  refine ⟨F.wd, F.ht, fun i f hf => ?_, fun i f hf => ?_, fun i f hf => dT_bd t f⟩
  · exact (F.fl i f (List.getElem?_eq_some_iff.1 hf).1 hf).1
  · obtain ⟨_, a2, _, a4, a5, a6⟩ := F.fl i f (List.getElem?_eq_some_iff.1 hf).1 hf
    exact ⟨a2, a6, a4, a5⟩
theorem flsB_of {p : Pa} {t : Tb} (h : dlE p t = 0) : FlsB p.wd p.ht p.fl (dT t) := flsB_v t (dlE_zero h).1
set_option maxRecDepth 100000 in
set_option maxHeartbeats 4000000 in
theorem places_any (p : Pa) (t : Tb) (A B C : Option Addr) (c d q : Nat) (w : World) (hP : PaW w p A c B d) (hE : SlE w C q t.en) (hs : t.mt.size ≤ 1000) :
    Calls Tryz.prog 20 #[pav p A c B d, tbv t C q] w fun e w' => ∃ v, e = .returned (sle v (plE p t)) ∧ (plE p t = 0 → OwnL w' w.heap.size 86 6 plL v (plsA p t)) ∧ Gr w w' := by
  have HD := hide (fun (w' : World) (g : Gr w w') => deductions_any p t A B C c d q w' (hP.gr g) (hE.gr g) hs)
  have HP := hide hP
  by_cases h0 : dlE p t = 0
  · have HB := hide (flsB_of h0)
    have HZ := hide h0
    have h5 := (good_of (dlE_zero h0).1).nfl
    rw [h0] at HD
    clear hP hE h0
    go_enter Tryz.func20, Tryz.ntmps20
    go_upto_region 2 with fail
    refine (HD.out _ (by repeat (first | with_reducible exact Gr.refl _ | with_reducible assumption | with_reducible refine Gr.alloc ?_ _ | with_reducible refine Gr.drewN ?_ _ | with_reducible refine Gr.drew ?_ | with_reducible refine Gr.setCell ?_ (by first | (dsimp only; omega) | (simp only [World.size_alloc]; omega) | (with_reducible refine Gr.size ?_; (repeat (first | with_reducible exact Gr.refl _ | with_reducible assumption | with_reducible refine Gr.alloc ?_ _ | with_reducible refine Gr.drewN ?_ _ | with_reducible refine Gr.drew ?_ | with_reducible refine Gr.trans ?_ (by with_reducible assumption))); done)) _ | with_reducible refine Gr.trans ?_ (by with_reducible assumption)))).mono ?_
    rintro e w1 ⟨v1, rfl, hO1, g1⟩
    have hO1 := hO1 (by trivial)
    obtain ⟨A1, d1, rfl⟩ := hO1.slice
    rw [List.length_map] at hO1 ⊢
    obtain ⟨X1, Y1, c1, f1⟩ := g1.use
    have z1 := g1.size
    simp only [World.size_alloc] at z1
    have l1 : w.heap.size + 1 < w1.heap.size := by omega
    have l0 : w.heap.size < w1.heap.size := by omega
    have gw1 : Gr w w1 := (by repeat (first | with_reducible exact Gr.refl _ | with_reducible assumption | with_reducible refine Gr.alloc ?_ _ | with_reducible refine Gr.drewN ?_ _ | with_reducible refine Gr.drew ?_ | with_reducible refine Gr.setCell ?_ (by first | (dsimp only; omega) | (simp only [World.size_alloc]; omega) | (with_reducible refine Gr.size ?_; (repeat (first | with_reducible exact Gr.refl _ | with_reducible assumption | with_reducible refine Gr.alloc ?_ _ | with_reducible refine Gr.drewN ?_ _ | with_reducible refine Gr.drew ?_ | with_reducible refine Gr.trans ?_ (by with_reducible assumption))); done)) _ | with_reducible refine Gr.trans ?_ (by with_reducible assumption)))
    have n4 : w1.cell? ⟨w.heap.size, 4, none⟩ = some (iv p.wd) := by rw [c1]; simp [go_sem]
    have n5 : w1.cell? ⟨w.heap.size, 5, none⟩ = some (iv p.ht) := by rw [c1]; simp [go_sem]
    have n6 : w1.cell? ⟨w.heap.size, 6, none⟩ = some (.slice A p.fl.length c) := by rw [c1]; simp [go_sem]
    have HO1 := hide hO1
    clear X1 Y1 c1 f1 hO1
    go_upto_region 5 with fail
    have g1b : Gr w1 (w1.alloc (.cells #[iv 0, iv 0, iv 0, iv p.wd, iv p.ht, iv 0] 86)) := Gr.alloc (Gr.refl _) _
    have own0 := own_lit (c := plL) (k := 6) w1 w1.heap.size 86 #[iv 0, iv 0, iv 0, iv p.wd, iv p.ht, iv 0] [⟨0, 0, 0, p.wd, p.ht, 0⟩] (Nat.le_refl _) (fun _ => rfl) rfl (by simp)
    have HO0 := hide own0
    clear own0
    go_wp2_with fail
    go_loopw [8, 31] (fun v i wr => ∃ (k : Nat) (A2 : Option Addr) (d2 : Nat), k ≤ p.fl.length ∧ i = iv k ∧ v = .slice A2 (k + 1) d2 ∧ Gr w1 wr ∧ Hid (OwnL wr w1.heap.size 86 6 plL (.slice A2 (k + 1) d2) (pls p.wd p.ht p.fl (dT t) k))) (fun _ i _ => p.fl.length - (intOf i).toNat)
    case atStart => exact ⟨0, _, _, by omega, rfl, rfl, g1b, HO0.out⟩
    case round =>
      obtain ⟨k, A2, d2, hk, rfl, rfl, g, HO⟩ := hrel
      have gW : Gr w wr := gw1.trans g
      have zr := g.size
      have l0 : w.heap.size < wr.heap.size := by omega
      have hlen : (pls p.wd p.ht p.fl (dT t) k).length = k + 1 := pls_len hk
      by_cases hkl : k < p.fl.length
      · obtain ⟨f, hf⟩ : ∃ f, p.fl[k]? = some f := ⟨_, List.getElem?_eq_getElem hkl⟩
        obtain ⟨b, off, hA, x0, x1, x2, x3, x4, x5, x6⟩ := HP.out.fl.rd.fl hf
        subst hA
        have hb : b < w.heap.size := cell_lt (by rw [x0]; rfl)
        have hbr : b < wr.heap.size := by omega
        have y0 := (gW.cell _ _ hb).trans x0
        have y1 := (gW.cell _ _ hb).trans x1
        have y2 := (gW.cell _ _ hb).trans x2
        have y3 := (gW.cell _ _ hb).trans x3
        have y4 := (gW.cell _ _ hb).trans x4
        have y5 := (gW.cell _ _ hb).trans x5
        have y6 := (gW.cell _ _ hb).trans x6
        clear x0 x1 x2 x3 x4 x5 x6
        have hpa := HB.out.pa k f hf
        obtain ⟨m, hm⟩ : ∃ m : Nat, f.pa = m := ⟨f.pa.toNat, by omega⟩
        have hmk : m ≤ k := by omega
        obtain ⟨gp, hgp⟩ : ∃ gp, (pls p.wd p.ht p.fl (dT t) k)[m]? = some gp := ⟨_, List.getElem?_eq_getElem (by omega)⟩
        have hpb : PlB k gp := pls_b HB.out hk gp (List.mem_of_getElem? hgp)
        have HPO := hide (fun w => placeOf_any f gp (dT t f) k w hpb (HB.out.fl k f hf) (by omega))
        have HS := hide (show pls p.wd p.ht p.fl (dT t) k ++ [plC gp f (dT t f)] = pls p.wd p.ht p.fl (dT t) (k + 1) by
          rw [pls_succ hf, hm, show ((m : Int)).toNat = m from rfl, hgp]; rfl)
        have HN := hide (pls_len (w := p.wd) (h := p.ht) (l := p.fl) (D := dT t) (k := k + 1) (by omega))
        obtain ⟨bs, os, hA2, v0, v1, v2, v3, v4, v5⟩ := (slP_own HO.out).rd.pl hgp
        subst hA2
        have hbs : bs < wr.heap.size := cell_lt (by rw [v0]; rfl)
        obtain ⟨lb, ol, hA3, u0⟩ := ((OwnL.rd (c := inL) (fun _ => rfl) HO1.out).2.1).int (i := k) (z := dT t f) (by rw [List.getElem?_map, hf]; rfl)
        subst hA3
        have hlb : lb < w1.heap.size := cell_lt (by rw [u0]; rfl)
        have u1 := (g.cell _ _ hlb).trans u0
        have hlb2 : lb < wr.heap.size := by omega
        clear u0 hgp hpb hf
        generalize hL1 : pls p.wd p.ht p.fl (dT t) k = L1 at *
        generalize hL2 : pls p.wd p.ht p.fl (dT t) (k + 1) = L2 at *
        have HL1 := hide hL1
        have HL2 := hide hL2
        clear hL1 hL2
        generalize dT t f = dd at *
        obtain ⟨nm, pa, sd, fo, wd, ln, an⟩ := f
        simp only at hm hpa y0 y1 y2 y3 y4 y5 y6
        subst hm
        have HPV := hide (show plC gp ⟨nm, (m : Int), sd, fo, wd, ln, an⟩ dd = plC gp ⟨nm, (m : Int), sd, fo, wd, ln, an⟩ dd from rfl)
        generalize plC gp ⟨nm, (m : Int), sd, fo, wd, ln, an⟩ dd = pq at *
        obtain ⟨q1, q2, q3, q4, q5, q6⟩ := pq
        have hk0 : (0 : Int) ≤ (k : Int) := by omega
        have hk1 : (k : Int) < (p.fl.length : Int) := by omega
        have hm0 : (0 : Int) ≤ (m : Int) := by omega
        have hm1 : (m : Int) < (k : Int) + 1 := by omega
        clear n4 n5 n6
        go_upto_region 8 with fail
        refine wp_region_build1 _ 12 (by kernel_rfl) (by kernel_rfl) (Gr.refl _) (d1 := some 48) rfl ?_
        intro s gs
        obtain ⟨Xs, Ys, cs, fs⟩ := gs.use
        have GC := @GrW.cell
        simp only [List.take_succ_cons, List.take_zero]
        repeat (go_big_quiet_step ((first | (go_at_call 43; exact quiet_grw (HPO.out _)))))
        refine wpQuiet_nil ?_
        clear GC cs fs gs
        refine ⟨fun BB => .slice (some ⟨BB, 0, none⟩) 1 1, #[iv q1, iv q2, iv (q3 : Int), iv q4, iv q5, iv q6], 86, ⟨rfl, rfl, fun w => by go_simp⟩, ?_⟩
        intro B1 wq gq1 l1 ⟨b1, c1, f1⟩
        obtain ⟨Xq, Yq, cq, fq⟩ := gq1.use
        have sq := gq1.size
        (try simp only [World.size_alloc, World.size_setCell, World.heap_drewN] at sq l1)
        simp only [List.drop_succ_cons, List.drop_zero]
        refine wpList_app1 rfl _ _ _ rfl plL w1.heap.size 86 6 48 elPl (by decide) L1 ⟨q1, q2, q3, q4, q5, q6⟩ L2 HS.out (.slice (some ⟨bs, os, none⟩) (k + 1) d2) rfl (HO.out.gr (show Gr wr wq from (by repeat (first | with_reducible exact Gr.refl _ | with_reducible assumption | with_reducible refine Gr.alloc ?_ _ | with_reducible refine Gr.drewN ?_ _ | with_reducible refine Gr.drew ?_ | with_reducible refine Gr.setCell ?_ (by first | (dsimp only; omega) | (simp only [World.size_alloc]; omega) | (with_reducible refine Gr.size ?_; (repeat (first | with_reducible exact Gr.refl _ | with_reducible assumption | with_reducible refine Gr.alloc ?_ _ | with_reducible refine Gr.drewN ?_ _ | with_reducible refine Gr.drew ?_ | with_reducible refine Gr.trans ?_ (by with_reducible assumption))); done)) _ | with_reducible refine Gr.trans ?_ (by with_reducible assumption))))) ⟨B1, 0, none⟩ 1 rfl rfl (by intro j u hu; rw [addr_add, Nat.zero_add, c1]; simpa using hu) (one_pl _) (by omega) (by decide) (by omega) ?_
        intro gg cap1 w8 hO8 hG8 _ _ _
        have G8 : Gr w1 w8 := hG8 _ (g.trans (show Gr wr wq from (by repeat (first | with_reducible exact Gr.refl _ | with_reducible assumption | with_reducible refine Gr.alloc ?_ _ | with_reducible refine Gr.drewN ?_ _ | with_reducible refine Gr.drew ?_ | with_reducible refine Gr.setCell ?_ (by first | (dsimp only; omega) | (simp only [World.size_alloc]; omega) | (with_reducible refine Gr.size ?_; (repeat (first | with_reducible exact Gr.refl _ | with_reducible assumption | with_reducible refine Gr.alloc ?_ _ | with_reducible refine Gr.drewN ?_ _ | with_reducible refine Gr.drew ?_ | with_reducible refine Gr.trans ?_ (by with_reducible assumption))); done)) _ | with_reducible refine Gr.trans ?_ (by with_reducible assumption))))) (Nat.le_refl _)
        clear c1 f1 cq fq hG8
        go_wp2
        go_roundw
        case rel => exact ⟨k + 1, some ⟨gg, 0, none⟩, cap1, by omega, by go_num, by rw [HN.out], G8, by rw [HL2.out, ← HN.out]; exact hO8⟩
        case measure => simp only [intOf]; omega
      · obtain rfl : k = p.fl.length := by omega
        have HLL := hide (show pls p.wd p.ht p.fl (dT t) p.fl.length = plsA p t from rfl)
        rw [HLL.out] at HO hlen
        have HS9 := hide (slP_own HO.out)
        have HLN := hide hlen
        have HW9 := hide (HO.out.weak (show w.heap.size ≤ w1.heap.size by omega))
        clear HO hlen n4 n5 n6
        go_wp2_with fail
        have HZE := hide (fun i q hq k => plE_short (t := t) (i := i) (q := q) HZ.out hq k)
        have HZO := hide (fun k => plE_ok (t := t) HZ.out k)
        rw [HLN.out] at HZO
        have HPB := hide (fun q hq => pls_b HB.out (Nat.le_refl _) q hq)
        rw [HLL.out] at HPB
        have HN5 := h5
        clear HD HO1 HO0 HLL
        generalize hLe : plsA p t = L at *
        have HLE := hide hLe
        clear hLe
        obtain ⟨wo, rfl⟩ : ∃ wo, wo = wr := ⟨_, rfl⟩
        go_loopw [53] (fun i wx => ∃ j : Nat, j ≤ p.fl.length + 1 ∧ i = iv j ∧ Gr wo wx ∧ Hid (∀ i q, i < j → L[i]? = some q → 1 ≤ abv q q.h)) (fun i _ => p.fl.length + 1 - (intOf i).toNat)
        case atStart => exact ⟨0, by omega, rfl, Gr.refl _, fun i q hi => by omega⟩
        case round =>
          obtain ⟨j, hj, rfl, g2, HS⟩ := hrel
          have zx := g2.size
          by_cases hjl : j < p.fl.length + 1
          · obtain ⟨q, hq⟩ : ∃ q, L[j]? = some q := ⟨_, List.getElem?_eq_getElem (by rw [HLN.out]; omega)⟩
            obtain ⟨b, off, hA2, v0, v1, v2, v3, v4, v5⟩ := (HS9.out.gr g2).rd.pl hq
            subst hA2
            have hbb : b < wr.heap.size := cell_lt (by rw [v0]; rfl)
            have hqb := HPB.out q (List.mem_of_getElem? hq)
            have hh1 := hqb.h
            have hh2 := hqb.lo
            have HAB := hide (fun w => above_any q q.h w (by omega) (by omega))
            have HQ := hide hq
            have hk0 : (0 : Int) ≤ (j : Int) := by omega
            have hk1 : (j : Int) < (p.fl.length : Int) + 1 := by omega
            clear hq hqb
            by_cases hsh : abv q q.h < 1
            · have HE := hide (HZE.out j q HQ.out hsh)
              go_wp2_with (first | (go_at_call 30; refine (HAB.out _).mono ?_; rintro e w1 ⟨rfl, g1⟩; obtain ⟨X1, Y1, c1, f1⟩ := g1.use; have z1 := g1.size; (try simp only [World.size_alloc, World.size_setCell, World.heap_drewN, Nat.add_one_le_iff] at z1); (try have l0 : w.heap.size < w1.heap.size := by omega); (try have l1 : w.heap.size + 1 < w1.heap.size := by omega); (try have l2 : w.heap.size + 1 + 1 < w1.heap.size := by omega)))
              refine bodyPost_ret (v := sle (.slice none 0 0) 8) (by simp [results, Tryz.results20, go_sem, *]) rfl ⟨_, ret_sle HE.out.symm, (fun h => by rw [HE.out] at h; cases h), (gW.trans g2).trans (by repeat (first | with_reducible exact Gr.refl _ | with_reducible assumption | with_reducible refine Gr.alloc ?_ _ | with_reducible refine Gr.drewN ?_ _ | with_reducible refine Gr.drew ?_ | with_reducible refine Gr.setCell ?_ (by first | (dsimp only; omega) | (simp only [World.size_alloc]; omega) | (with_reducible refine Gr.size ?_; (repeat (first | with_reducible exact Gr.refl _ | with_reducible assumption | with_reducible refine Gr.alloc ?_ _ | with_reducible refine Gr.drewN ?_ _ | with_reducible refine Gr.drew ?_ | with_reducible refine Gr.trans ?_ (by with_reducible assumption))); done)) _ | with_reducible refine Gr.trans ?_ (by with_reducible assumption)))⟩
            · have HS2 := hide (show ∀ i z, i < j + 1 → L[i]? = some z → 1 ≤ abv z z.h by
                intro i z hi hz
                rcases Nat.lt_or_ge i j with h | h
                · exact HS.out i z h hz
                · obtain rfl : i = j := by omega
                  rw [HQ.out] at hz
                  obtain rfl := Option.some.inj hz
                  omega)
              go_wp2_with (first | (go_at_call 30; refine (HAB.out _).mono ?_; rintro e w1 ⟨rfl, g1⟩; obtain ⟨X1, Y1, c1, f1⟩ := g1.use; have z1 := g1.size; (try simp only [World.size_alloc, World.size_setCell, World.heap_drewN, Nat.add_one_le_iff] at z1); (try have l0 : w.heap.size < w1.heap.size := by omega); (try have l1 : w.heap.size + 1 < w1.heap.size := by omega); (try have l2 : w.heap.size + 1 + 1 < w1.heap.size := by omega)))
              go_roundw
              case rel => exact ⟨j + 1, by omega, by go_num, g2.trans (by repeat (first | with_reducible exact Gr.refl _ | with_reducible assumption | with_reducible refine Gr.alloc ?_ _ | with_reducible refine Gr.drewN ?_ _ | with_reducible refine Gr.drew ?_ | with_reducible refine Gr.setCell ?_ (by first | (dsimp only; omega) | (simp only [World.size_alloc]; omega) | (with_reducible refine Gr.size ?_; (repeat (first | with_reducible exact Gr.refl _ | with_reducible assumption | with_reducible refine Gr.alloc ?_ _ | with_reducible refine Gr.drewN ?_ _ | with_reducible refine Gr.drew ?_ | with_reducible refine Gr.trans ?_ (by with_reducible assumption))); done)) _ | with_reducible refine Gr.trans ?_ (by with_reducible assumption))), HS2⟩
              case measure => simp only [intOf]; omega
          · obtain rfl : j = p.fl.length + 1 := by omega
            have HE := hide (HZO.out HS.out)
            go_wp2_with fail
            refine bodyPost_ret (v := sle (.slice A2 (p.fl.length + 1) d2) 0) (by simp [results, Tryz.results20, go_sem, *]) rfl ⟨_, ret_sle HE.out.symm, (fun _ => by rw [HLE.out]; exact HW9.out.gr g2), gW.trans g2⟩
  · have HN := hide (plE_ded h0)
    have HZ := hide h0
    clear h0 hP hE
    generalize dlE p t = te at *
    have hz : ¬ te = 0 := HZ.out
    go_enter Tryz.func20, Tryz.ntmps20
    go_wp2_with fail
    refine (HD.out _ (by repeat (first | with_reducible exact Gr.refl _ | with_reducible assumption | with_reducible refine Gr.alloc ?_ _ | with_reducible refine Gr.drewN ?_ _ | with_reducible refine Gr.drew ?_ | with_reducible refine Gr.setCell ?_ (by first | (dsimp only; omega) | (simp only [World.size_alloc]; omega) | (with_reducible refine Gr.size ?_; (repeat (first | with_reducible exact Gr.refl _ | with_reducible assumption | with_reducible refine Gr.alloc ?_ _ | with_reducible refine Gr.drewN ?_ _ | with_reducible refine Gr.drew ?_ | with_reducible refine Gr.trans ?_ (by with_reducible assumption))); done)) _ | with_reducible refine Gr.trans ?_ (by with_reducible assumption)))).mono ?_
    rintro e w1 ⟨v1, rfl, -, g1⟩
    go_wp2_with fail
    refine bodyPost_ret (v := sle (.slice none 0 0) te) (by simp [results, Tryz.results20, go_sem, *]) rfl ⟨_, ret_sle HN.out.symm, (fun h => by rw [HN.out] at h; exact absurd h hz), (by repeat (first | with_reducible exact Gr.refl _ | with_reducible assumption | with_reducible refine Gr.alloc ?_ _ | with_reducible refine Gr.drewN ?_ _ | with_reducible refine Gr.drew ?_ | with_reducible refine Gr.setCell ?_ (by first | (dsimp only; omega) | (simp only [World.size_alloc]; omega) | (with_reducible refine Gr.size ?_; (repeat (first | with_reducible exact Gr.refl _ | with_reducible assumption | with_reducible refine Gr.alloc ?_ _ | with_reducible refine Gr.drewN ?_ _ | with_reducible refine Gr.drew ?_ | with_reducible refine Gr.trans ?_ (by with_reducible assumption))); done)) _ | with_reducible refine Gr.trans ?_ (by with_reducible assumption)))⟩
end Go.Proofs.YtdabhnefoigebaaGreat
