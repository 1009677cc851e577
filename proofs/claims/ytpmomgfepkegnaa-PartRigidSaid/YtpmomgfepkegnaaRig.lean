/-
  Parts, plain: frames in the coordinates of a frame.
  Parts, plain: a flange's bit moves its faces as one rotation does.
  PartRigid: the walk.
-/
import Derived.Test.YtpmomgfepkegnaaVal0
import Derived.Test.YtpmomgfepkegnaaMov
import Derived.Test.YtpmomgfepkegnaaRCorn
set_option linter.unusedVariables false
set_option linter.unusedSimpArgs false
namespace Go.Proofs.Ytpmomgfepkegnaa
set_option linter.unusedVariables false
set_option linter.unusedSimpArgs false
open Go Go.ChangeShapes Go.WideShapes Go.ChangeAt Go.RowKit Go.Deep

/-- a frame, without the machine's bounds: an origin and two directions -/
structure Fr where
  o : V3
  u : V3
  v : V3
def vA (a b : V3) : V3 := (a.1 + b.1, a.2.1 + b.2.1, a.2.2 + b.2.2)
def vX (a b : V3) : V3 := (a.2.1 * b.2.2 - a.2.2 * b.2.1, a.2.2 * b.1 - a.1 * b.2.2, a.1 * b.2.1 - a.2.1 * b.1)
def vD (a b : V3) : Int := a.1 * b.1 + a.2.1 * b.2.1 + a.2.2 * b.2.2
def lin (u v n c : V3) : V3 := (c.1 * u.1 + c.2.1 * v.1 + c.2.2 * n.1, c.1 * u.2.1 + c.2.1 * v.2.1 + c.2.2 * n.2.1, c.1 * u.2.2 + c.2.1 * v.2.2 + c.2.2 * n.2.2)
/-- a vector of a frame's coordinates -/
def atF (A : Fr) (c : V3) : V3 := lin A.u A.v (vX A.u A.v) c
/-- a frame of a frame's coordinates -/
def cmp (A c : Fr) : Fr := ⟨vA A.o (atF A c.o), atF A c.u, atF A c.v⟩
structure Ort (A : Fr) : Prop where
  uu : vD A.u A.u = 1
  vv : vD A.v A.v = 1
  uv : vD A.u A.v = 0
def id3 : Fr := ⟨(0, 0, 0), (1, 0, 0), (0, 1, 0)⟩
theorem vX_lin (u v n c d : V3) : vX (lin u v n c) (lin u v n d) = lin (vX v n) (vX n u) (vX u v) (vX c d) := by
  obtain ⟨u1, u2, u3⟩ := u
  obtain ⟨v1, v2, v3⟩ := v
  obtain ⟨n1, n2, n3⟩ := n
  obtain ⟨c1, c2, c3⟩ := c
  obtain ⟨d1, d2, d3⟩ := d
  simp only [vX, lin, Prod.mk.injEq]
  refine ⟨?_, ?_, ?_⟩ <;> grind
theorem vD_lin (u v n c d : V3) : vD (lin u v n c) (lin u v n d) = c.1 * d.1 * vD u u + c.2.1 * d.2.1 * vD v v + c.2.2 * d.2.2 * vD n n + (c.1 * d.2.1 + c.2.1 * d.1) * vD u v + (c.1 * d.2.2 + c.2.2 * d.1) * vD u n + (c.2.1 * d.2.2 + c.2.2 * d.2.1) * vD v n := by
  obtain ⟨u1, u2, u3⟩ := u
  obtain ⟨v1, v2, v3⟩ := v
  obtain ⟨n1, n2, n3⟩ := n
  obtain ⟨c1, c2, c3⟩ := c
  obtain ⟨d1, d2, d3⟩ := d
  simp only [vD, lin]
  grind
theorem Ort.vn {A : Fr} (h : Ort A) : vX A.v (vX A.u A.v) = A.u := by
  obtain ⟨h1, h2, h3⟩ := h
  obtain ⟨o, ⟨u1, u2, u3⟩, ⟨v1, v2, v3⟩⟩ := A
  simp only [vX, vD, Prod.mk.injEq] at *
  refine ⟨?_, ?_, ?_⟩
  · have : v2 * (u1 * v2 - u2 * v1) - v3 * (u3 * v1 - u1 * v3) = u1 * (v1 * v1 + v2 * v2 + v3 * v3) - v1 * (u1 * v1 + u2 * v2 + u3 * v3) := by grind
    rw [this, h2, h3]; omega
  · have : v3 * (u2 * v3 - u3 * v2) - v1 * (u1 * v2 - u2 * v1) = u2 * (v1 * v1 + v2 * v2 + v3 * v3) - v2 * (u1 * v1 + u2 * v2 + u3 * v3) := by grind
    rw [this, h2, h3]; omega
  · have : v1 * (u3 * v1 - u1 * v3) - v2 * (u2 * v3 - u3 * v2) = u3 * (v1 * v1 + v2 * v2 + v3 * v3) - v3 * (u1 * v1 + u2 * v2 + u3 * v3) := by grind
    rw [this, h2, h3]; omega
theorem Ort.nu {A : Fr} (h : Ort A) : vX (vX A.u A.v) A.u = A.v := by
  obtain ⟨h1, h2, h3⟩ := h
  obtain ⟨o, ⟨u1, u2, u3⟩, ⟨v1, v2, v3⟩⟩ := A
  simp only [vX, vD, Prod.mk.injEq] at *
  refine ⟨?_, ?_, ?_⟩
  · have : (u3 * v1 - u1 * v3) * u3 - (u1 * v2 - u2 * v1) * u2 = v1 * (u1 * u1 + u2 * u2 + u3 * u3) - u1 * (u1 * v1 + u2 * v2 + u3 * v3) := by grind
    rw [this, h1, h3]; omega
  · have : (u1 * v2 - u2 * v1) * u1 - (u2 * v3 - u3 * v2) * u3 = v2 * (u1 * u1 + u2 * u2 + u3 * u3) - u2 * (u1 * v1 + u2 * v2 + u3 * v3) := by grind
    rw [this, h1, h3]; omega
  · have : (u2 * v3 - u3 * v2) * u2 - (u3 * v1 - u1 * v3) * u1 = v3 * (u1 * u1 + u2 * u2 + u3 * u3) - u3 * (u1 * v1 + u2 * v2 + u3 * v3) := by grind
    rw [this, h1, h3]; omega
theorem vD_un (u v : V3) : vD u (vX u v) = 0 := by
  simp only [vD, vX]
  grind
theorem vD_vn (u v : V3) : vD v (vX u v) = 0 := by
  simp only [vD, vX]
  grind
theorem vD_nn (u v : V3) : vD (vX u v) (vX u v) = vD u u * vD v v - vD u v * vD u v := by
  simp only [vD, vX]
  grind
theorem atF_cross {A : Fr} (h : Ort A) (c d : V3) : vX (atF A c) (atF A d) = atF A (vX c d) := by
  unfold atF
  rw [vX_lin, h.vn, h.nu]
theorem atF_dot {A : Fr} (h : Ort A) (c d : V3) : vD (atF A c) (atF A d) = vD c d := by
  unfold atF
  rw [vD_lin, h.uu, h.vv, h.uv, vD_un, vD_vn, vD_nn, h.uu, h.vv, h.uv]
  simp only [vD]
  grind
theorem atF_add (A : Fr) (c d : V3) : atF A (vA c d) = vA (atF A c) (atF A d) := by
  unfold atF
  generalize vX A.u A.v = n
  simp only [lin, vA, Prod.mk.injEq]
  refine ⟨?_, ?_, ?_⟩ <;> grind
theorem atF_lin (A : Fr) (a b c d : V3) : lin (atF A a) (atF A b) (atF A c) d = atF A (lin a b c d) := by
  unfold atF
  generalize vX A.u A.v = n
  simp only [lin, Prod.mk.injEq]
  refine ⟨?_, ?_, ?_⟩ <;> grind
theorem atF_cmp {A : Fr} (h : Ort A) (c : Fr) (d : V3) : atF (cmp A c) d = atF A (atF c d) := by
  show lin (atF A c.u) (atF A c.v) (vX (atF A c.u) (atF A c.v)) d = atF A (lin c.u c.v (vX c.u c.v) d)
  rw [atF_cross h, atF_lin]
theorem vA_assoc (a b c : V3) : vA (vA a b) c = vA a (vA b c) := by
  simp only [vA, Prod.mk.injEq]
  refine ⟨?_, ?_, ?_⟩ <;> omega
theorem cmp_assoc {A : Fr} (h : Ort A) (c d : Fr) : cmp (cmp A c) d = cmp A (cmp c d) := by
  show (⟨vA (vA A.o (atF A c.o)) (atF (cmp A c) d.o), atF (cmp A c) d.u, atF (cmp A c) d.v⟩ : Fr) = ⟨vA A.o (atF A (vA c.o (atF c d.o))), atF A (atF c d.u), atF A (atF c d.v)⟩
  rw [atF_cmp h, atF_cmp h, atF_cmp h, atF_add, vA_assoc]
theorem cmp_id (A : Fr) : cmp A id3 = A := by
  obtain ⟨o, ⟨u1, u2, u3⟩, ⟨v1, v2, v3⟩⟩ := A
  simp [cmp, atF, lin, id3, vA]
theorem Ort.cmp {A c : Fr} (h : Ort A) (k : Ort c) : Ort (cmp A c) :=
  ⟨(atF_dot h _ _).trans k.uu, (atF_dot h _ _).trans k.vv, (atF_dot h _ _).trans k.uv⟩
theorem ort_id : Ort id3 := ⟨by decide, by decide, by decide⟩
/-- a flange's second direction, in its parent's coordinates -/
def locV (s a : Int) (b : Bool) : V3 :=
  if b then (if a = 180 ∨ a = -180 then (-staO0 s, -staO1 s, 0) else if a = -90 then (0, 0, -1) else if a = 90 then (0, 0, 1) else (staO0 s, staO1 s, 0)) else (staO0 s, staO1 s, 0)
/-- a flange's frame, in its parent's coordinates -/
def loc (w h : Int) (f : Fl) (b : Bool) : Fr := ⟨(staA f.sd w + f.o * staD0 f.sd, staB f.sd h + f.o * staD1 f.sd, 0), (staD0 f.sd, staD1 f.sd, 0), locV f.sd f.an b⟩
theorem ort_loc {w h : Int} {f : Fl} {b : Bool} (hs : sdOk f.sd) (ha : anOk f.an) : Ort (loc w h f b) := by
  unfold sdOk at hs
  unfold anOk at ha
  rcases hs with e | e | e | e <;> rcases ha with k | k | k | k <;> cases b <;> (refine ⟨?_, ?_, ?_⟩ <;> simp [loc, locV, vD, e, k, staD0, staD1, staO0, staO1])
/-- the machine's face of a frame -/
def fcO (x : Fr × Int × Int) : Fc := ⟨wrap64 x.1.o.1, wrap64 x.1.o.2.1, wrap64 x.1.o.2.2, wrap64 x.1.u.1, wrap64 x.1.u.2.1, wrap64 x.1.u.2.2, wrap64 x.1.v.1, wrap64 x.1.v.2.1, wrap64 x.1.v.2.2, x.2.1, x.2.2⟩
def stp (x : Fr × Int × Int) (f : Fl) (b : Bool) : Fr × Int × Int := (cmp x.1 (loc x.2.1 x.2.2 f b), f.wd, f.ln)
theorem atR_ex (s o w h c u v n : Int) : atR s o w h (wrap64 c) (wrap64 u) (wrap64 v) = wrap64 (c + ((staA s w + o * staD0 s) * u + (staB s h + o * staD1 s) * v + 0 * n)) := by
  rw [atR_w]
  exact m_strip (m_add (m_add (m_wrap (m_refl _)) (m_mul (m_refl _) (m_wrap (m_refl _)))) (m_mul (m_refl _) (m_wrap (m_refl _)))) (m_refl _) (by grind)
theorem dir_ex (s u v n : Int) : al (al 0 (staD0 s) (wrap64 u)) (staD1 s) (wrap64 v) = wrap64 (staD0 s * u + staD1 s * v + 0 * n) := by
  rw [dir_w]
  exact m_strip (m_add (m_mul (m_refl _) (m_wrap (m_refl _))) (m_mul (m_refl _) (m_wrap (m_refl _)))) (m_refl _) (by grind)
theorem awy_ex (s u v : Int) : awy s (wrap64 u) (wrap64 v) = wrap64 (staO0 s * u + staO1 s * v) := by
  rw [awy_w]
  exact m_strip (m_add (m_mul (m_refl _) (m_wrap (m_refl _))) (m_mul (m_refl _) (m_wrap (m_refl _)))) (m_refl _) rfl
theorem cr_ex (a b c d : Int) : wrap64 (wrap64 (wrap64 a * wrap64 b) - wrap64 (wrap64 c * wrap64 d)) = wrap64 (a * b - c * d) :=
  m_strip (m_sub (m_wrap (m_mul (m_wrap (m_refl _)) (m_wrap (m_refl _)))) (m_wrap (m_mul (m_wrap (m_refl _)) (m_wrap (m_refl _))))) (m_refl _) rfl
theorem next_ex (s a u v n : Int) (b : Bool) (ha : anOk a) : nextR a b (wrap64 n) (awy s (wrap64 u) (wrap64 v)) = wrap64 ((locV s a b).1 * u + (locV s a b).2.1 * v + (locV s a b).2.2 * n) := by
  rw [awy_ex]
  unfold anOk at ha
  rcases ha with rfl | rfl | rfl | rfl <;> cases b <;> simp only [nextR, locV, Bool.false_eq_true, if_false, if_true, reduceCtorEq, Int.reduceNeg, Int.reduceEq, or_self, or_true, true_or, or_false, false_or, al_neg] <;>
    first
    | exact m_strip (m_refl _) (m_refl _) (by grind)
    | exact m_strip (m_mul (m_refl _) (m_wrap (m_refl _))) (m_refl _) (by grind)
theorem fcO_flR (x : Fr × Int × Int) (f : Fl) (b : Bool) (ha : anOk f.an) : flR (fcO x) f b = fcO (stp x f b) := by
  apply Fc.ext
  · exact atR_ex _ _ _ _ _ _ _ _
  · exact atR_ex _ _ _ _ _ _ _ _
  · exact atR_ex _ _ _ _ _ _ _ _
  · exact dir_ex _ _ _ _
  · exact dir_ex _ _ _ _
  · exact dir_ex _ _ _ _
  · show nextR f.an b (crX (fcO x)) _ = _
    rw [show crX (fcO x) = wrap64 (vX x.1.u x.1.v).1 from cr_ex _ _ _ _]
    exact next_ex _ _ _ _ _ _ ha
  · show nextR f.an b (crY (fcO x)) _ = _
    rw [show crY (fcO x) = wrap64 (vX x.1.u x.1.v).2.1 from cr_ex _ _ _ _]
    exact next_ex _ _ _ _ _ _ ha
  · show nextR f.an b (crZ (fcO x)) _ = _
    rw [show crZ (fcO x) = wrap64 (vX x.1.u x.1.v).2.2 from cr_ex _ _ _ _]
    exact next_ex _ _ _ _ _ _ ha
  · rfl
  · rfl
def x0 : Fr × Int × Int := (⟨(0, 0, 0), (0, 0, 0), (0, 0, 0)⟩, 0, 0)
/-- the frames and sizes behind k flanges -/
def exs (w h : Int) (l : List Fl) (m : Nat → Bool) : Nat → List (Fr × Int × Int)
  | 0 => [(id3, w, h)]
  | k + 1 => match l[k]? with
    | some f => exs w h l m k ++ [stp ((exs w h l m k)[f.pa.toNat]?.getD x0) f (m k)]
    | none => exs w h l m k
section
variable {w h : Int} {l : List Fl} {m : Nat → Bool}
theorem exs_succ {k : Nat} {f : Fl} (hf : l[k]? = some f) : exs w h l m (k + 1) = exs w h l m k ++ [stp ((exs w h l m k)[f.pa.toNat]?.getD x0) f (m k)] := by
  rw [exs, hf]
theorem exs_len : ∀ {k : Nat}, k ≤ l.length → (exs w h l m k).length = k + 1
  | 0, _ => rfl
  | k + 1, hk => by
    rw [exs_succ (List.getElem?_eq_getElem (by omega)), List.length_append, exs_len (by omega)]
    rfl
theorem exs_at {j : Nat} : ∀ {k : Nat}, j ≤ k → k ≤ l.length → (exs w h l m k)[j]? = (exs w h l m j)[j]?
  | 0, hj, _ => by
    obtain rfl : j = 0 := by omega
    rfl
  | k + 1, hj, hk => by
    rcases Nat.lt_or_ge j (k + 1) with q | q
    · rw [exs_succ (List.getElem?_eq_getElem (by omega)), List.getElem?_append_left (by rw [exs_len (by omega)]; omega)]
      exact exs_at (by omega) (by omega)
    · obtain rfl : j = k + 1 := by omega
      rfl
end
/-- the frame and size of a face -/
def exA (w h : Int) (l : List Fl) (m : Nat → Bool) (j : Nat) : Fr × Int × Int := (exs w h l m l.length)[j]?.getD x0
theorem exA_zero (w h : Int) (l : List Fl) (m : Nat → Bool) : exA w h l m 0 = (id3, w, h) := by
  unfold exA
  rw [exs_at (Nat.zero_le _) (Nat.le_refl _)]
  rfl
theorem exA_succ {w h : Int} {l : List Fl} {m : Nat → Bool} {k : Nat} {f : Fl} (hf : l[k]? = some f) (hk : f.pa.toNat ≤ k) : exA w h l m (k + 1) = stp (exA w h l m f.pa.toNat) f (m k) := by
  have hkl := (List.getElem?_eq_some_iff.1 hf).1
  unfold exA
  rw [exs_at (show k + 1 ≤ l.length by omega) (Nat.le_refl _), exs_succ hf, List.getElem?_append_right (by rw [exs_len (by omega)]; omega), exs_len (by omega)]
  simp only [Nat.sub_self, List.getElem?_cons_zero, Option.getD_some]
  rw [exs_at hk (by omega), exs_at (show f.pa.toNat ≤ l.length by omega) (Nat.le_refl _)]
theorem facs_exs {w h : Int} {l : List Fl} {m : Nat → Bool} (ok : Fit l) : ∀ {k : Nat}, k ≤ l.length → facs flR w h l m k = (exs w h l m k).map fcO
  | 0, _ => by
    simp only [facs, exs, List.map_cons, List.map_nil, List.cons.injEq, and_true]
    unfold fcO id3 bas
    simp only [show wrap64 0 = 0 by unfold wrap64; omega, show wrap64 1 = 1 by unfold wrap64; omega]
  | k + 1, hk => by
    obtain ⟨f, hf⟩ : ∃ f, l[k]? = some f := ⟨_, List.getElem?_eq_getElem (by omega)⟩
    obtain ⟨t0, t1, t2, t3⟩ := ok k f hf
    have ih := facs_exs (w := w) (h := h) (m := m) ok (k := k) (by omega)
    rw [facs_succ hf, exs_succ hf, List.map_append, ih, List.getElem?_map]
    obtain ⟨x, hx⟩ : ∃ x, (exs w h l m k)[f.pa.toNat]? = some x := ⟨_, List.getElem?_eq_getElem (by rw [exs_len (by omega)]; omega)⟩
    rw [hx]
    simp only [Option.map_some, Option.getD_some, List.map_cons, List.map_nil]
    rw [fcO_flR _ _ _ t3]
theorem facs_exA {w h : Int} {l : List Fl} {m : Nat → Bool} (ok : Fit l) {j : Nat} (hj : j ≤ l.length) : (facs flC w h l m l.length)[j]? = some (fcO (exA w h l m j)) := by
  obtain ⟨x, hx⟩ : ∃ x, (exs w h l m l.length)[j]? = some x := ⟨_, List.getElem?_eq_getElem (by rw [exs_len (Nat.le_refl _)]; omega)⟩
  rw [(facs_eq ok l.length (Nat.le_refl _)).1, facs_exs ok (Nat.le_refl _), List.getElem?_map, hx]
  unfold exA
  rw [hx]
  rfl
section
variable {w h : Int} {l : List Fl} {m m' : Nat → Bool} {fl : Nat}
theorem exA_ort (ok : Fit l) : ∀ {j : Nat}, j ≤ l.length → Ort (exA w h l m j).1 := by
  intro j
  induction j using Nat.strongRecOn with
  | ind j ih =>
    intro hj
    cases j with
    | zero => rw [exA_zero]; exact ort_id
    | succ k =>
      obtain ⟨f, hf⟩ : ∃ f, l[k]? = some f := ⟨_, List.getElem?_eq_getElem (by omega)⟩
      obtain ⟨t0, t1, t2, t3⟩ := ok k f hf
      rw [exA_succ hf (by omega)]
      exact (ih f.pa.toNat (by omega) (by omega)).cmp (ort_loc t2 t3)
theorem exA_size (ok : Fit l) {j : Nat} (hj : j ≤ l.length) : (exA w h l m j).2 = (exA w h l m' j).2 := by
  cases j with
  | zero => rw [exA_zero, exA_zero]
  | succ k =>
    obtain ⟨f, hf⟩ : ∃ f, l[k]? = some f := ⟨_, List.getElem?_eq_getElem (by omega)⟩
    obtain ⟨t0, t1, -, -⟩ := ok k f hf
    rw [exA_succ hf (by omega), exA_succ hf (by omega)]
    rfl
end
/-- the square of the distance of two points, as the machine reckons it -/
def sqW (a b c d e f : Int) : Int := wrap64 (wrap64 (wrap64 (wrap64 (a - d) * wrap64 (a - d)) + wrap64 (wrap64 (b - e) * wrap64 (b - e))) + wrap64 (wrap64 (c - f) * wrap64 (c - f)))
/-- the square of the distance of a face's origin and the corner of another one -/
def sqF (x y : Fc) : Int := sqW x.ox x.oy x.oz (po y.ox y.w y.ux y.h y.vx) (po y.oy y.w y.uy y.h y.vy) (po y.oz y.w y.uz y.h y.vz)
def dfV (x y : Fr) (w h : Int) : V3 := (x.o.1 - (y.o.1 + (w * y.u.1 + h * y.v.1)), x.o.2.1 - (y.o.2.1 + (w * y.u.2.1 + h * y.v.2.1)), x.o.2.2 - (y.o.2.2 + (w * y.u.2.2 + h * y.v.2.2)))
theorem df_m (a b c d w h : Int) : M64 (wrap64 (wrap64 a - po (wrap64 b) w (wrap64 c) h (wrap64 d))) (a - (b + (w * c + h * d))) := by
  rw [po_w]
  exact m_wrap (m_sub (m_wrap (m_refl _)) (m_wrap (m_add (m_wrap (m_refl _)) (m_add (m_mul (m_refl _) (m_wrap (m_refl _))) (m_mul (m_refl _) (m_wrap (m_refl _)))))))
theorem sqF_ex (x y : Fr × Int × Int) : sqF (fcO x) (fcO y) = wrap64 (vD (dfV x.1 y.1 y.2.1 y.2.2) (dfV x.1 y.1 y.2.1 y.2.2)) := by
  unfold sqF sqW
  exact m_strip (m_add (m_wrap (m_add (m_wrap (m_mul (df_m _ _ _ _ _ _) (df_m _ _ _ _ _ _))) (m_wrap (m_mul (df_m _ _ _ _ _ _) (df_m _ _ _ _ _ _))))) (m_wrap (m_mul (df_m _ _ _ _ _ _) (df_m _ _ _ _ _ _)))) (m_refl _) rfl
theorem dfV_cmp (A c d : Fr) (w h : Int) : dfV (cmp A c) (cmp A d) w h = atF A (dfV c d w h) := by
  unfold cmp dfV atF
  generalize vX A.u A.v = n
  simp only [lin, vA, Prod.mk.injEq]
  refine ⟨?_, ?_, ?_⟩ <;> grind
end Go.Proofs.Ytpmomgfepkegnaa
namespace Go.Proofs.Ytpmomgfepkegnaa
open Go Go.ChangeShapes Go.WideShapes Go.ChangeAt Go.RowKit Go.Deep

section
variable {w h : Int} {l : List Fl} {m m' : Nat → Bool} {fl : Nat}
theorem exA_same (ok : Fit l) (hm : ∀ i, ¬ i = fl → m i = m' i) : ∀ {j : Nat}, j ≤ l.length → mvB l fl j = false → exA w h l m j = exA w h l m' j := by
  intro j
  induction j using Nat.strongRecOn with
  | ind j ih =>
    intro hj hb
    cases j with
    | zero => rw [exA_zero, exA_zero]
    | succ k =>
      obtain ⟨f, hf⟩ : ∃ f, l[k]? = some f := ⟨_, List.getElem?_eq_getElem (by omega)⟩
      obtain ⟨t0, t1, -, -⟩ := ok k f hf
      rw [mvB_succ (q := f.pa.toNat) hf (by omega) (by omega), Bool.or_eq_false_iff] at hb
      rw [exA_succ hf (by omega), exA_succ hf (by omega), ih f.pa.toNat (by omega) (by omega) hb.2, hm k (by simpa using hb.1)]
theorem exA_rig (ok : Fit l) (hfl : fl < l.length) (hm : ∀ i, ¬ i = fl → m i = m' i) : ∀ {j : Nat}, j ≤ l.length → mvB l fl j = true → ∃ c, (exA w h l m j).1 = cmp (exA w h l m (fl + 1)).1 c ∧ (exA w h l m' j).1 = cmp (exA w h l m' (fl + 1)).1 c := by
  intro j
  induction j using Nat.strongRecOn with
  | ind j ih =>
    intro hj hb
    cases j with
    | zero => rw [mvB_zero] at hb; cases hb
    | succ k =>
      by_cases hk : k = fl
      · subst hk
        exact ⟨id3, (cmp_id _).symm, (cmp_id _).symm⟩
      · obtain ⟨f, hf⟩ : ∃ f, l[k]? = some f := ⟨_, List.getElem?_eq_getElem (by omega)⟩
        obtain ⟨t0, t1, -, -⟩ := ok k f hf
        rw [mvB_succ (q := f.pa.toNat) hf (by omega) (by omega)] at hb
        simp only [hk, decide_false, Bool.false_or] at hb
        obtain ⟨c, h1, h2⟩ := ih f.pa.toNat (by omega) (by omega) hb
        refine ⟨cmp c (loc (exA w h l m f.pa.toNat).2.1 (exA w h l m f.pa.toNat).2.2 f (m k)), ?_, ?_⟩
        · rw [exA_succ hf (by omega)]
          show cmp (exA w h l m f.pa.toNat).1 _ = _
          rw [h1, cmp_assoc (exA_ort ok (by omega))]
        · rw [exA_succ hf (by omega)]
          show cmp (exA w h l m' f.pa.toNat).1 (loc (exA w h l m' f.pa.toNat).2.1 (exA w h l m' f.pa.toNat).2.2 f (m' k)) = _
          rw [h2, cmp_assoc (exA_ort ok (by omega)), ← exA_size (m := m) (m' := m') ok (show f.pa.toNat ≤ l.length by omega), ← hm k hk]
end
theorem sqF_same {w h : Int} {l : List Fl} {m m' : Nat → Bool} {fl i j : Nat} (ok : Fit l) (hfl : fl < l.length) (hm : ∀ i, ¬ i = fl → m i = m' i) (hi : i ≤ l.length) (hj : j ≤ l.length) (bi : mvB l fl i = true) (bj : mvB l fl j = true) :
    sqF (fcO (exA w h l m i)) (fcO (exA w h l m j)) = sqF (fcO (exA w h l m' i)) (fcO (exA w h l m' j)) := by
  obtain ⟨c, c1, c2⟩ := exA_rig (w := w) (h := h) ok hfl hm hi bi
  obtain ⟨d, d1, d2⟩ := exA_rig (w := w) (h := h) ok hfl hm hj bj
  rw [sqF_ex, sqF_ex, c1, c2, d1, d2, dfV_cmp, dfV_cmp, atF_dot (exA_ort ok (by omega)), atF_dot (exA_ort ok (by omega)), exA_size (m := m) (m' := m') ok hj]
end Go.Proofs.Ytpmomgfepkegnaa
namespace Go.Proofs.Ytpmomgfepkegnaa
open Go Go.ChangeShapes Go.WideShapes Go.ChangeAt Go.RowKit Go.Deep

theorem moL_mem {l : List Fl} {fl : Nat} {z : Int} : ∀ {K : Nat}, z ∈ moL l fl K ↔ ∃ j : Nat, z = (j : Int) ∧ 1 ≤ j ∧ j ≤ K ∧ mvB l fl j = true
  | 0 => by
    constructor
    · intro h; simp [moL] at h
    · rintro ⟨j, _, h1, h2, _⟩; omega
  | K + 1 => by
    have ih := moL_mem (l := l) (fl := fl) (z := z) (K := K)
    unfold moL
    split
    · rename_i hb
      rw [List.mem_append, ih, List.mem_singleton]
      constructor
      · rintro (⟨j, h1, h2, h3, h4⟩ | h)
        · exact ⟨j, h1, h2, by omega, h4⟩
        · exact ⟨K + 1, by omega, by omega, by omega, hb⟩
      · rintro ⟨j, h1, h2, h3, h4⟩
        by_cases hj : j = K + 1
        · exact .inr (by subst hj; omega)
        · exact .inl ⟨j, h1, h2, by omega, h4⟩
    · rename_i hb
      rw [ih]
      constructor
      · rintro ⟨j, h1, h2, h3, h4⟩
        exact ⟨j, h1, h2, by omega, h4⟩
      · rintro ⟨j, h1, h2, h3, h4⟩
        by_cases hj : j = K + 1
        · subst hj; exact absurd h4 hb
        · exact ⟨j, h1, h2, by omega, h4⟩
theorem movE_zero {p : Pa} {m : Int} (h : movE p m = 0) : valE p = 0 ∧ wiB m 0 (p.fl.length - 1) = true := by
  unfold movE at h
  split at h
  · rename_i h1
    exact absurd h h1
  · rename_i h1
    split at h
    · rename_i h2
      exact ⟨by simpa using h1, h2⟩
    · cases h
theorem xor_all : ∀ (m : Fin 64) (j : Fin 6), bits BinOp.xor IntKind.i64 ((m.val : Nat) : Int) (wrap64 ((2 : Int) ^ j.val)) = ((m.val ^^^ 2 ^ j.val : Nat) : Int) := by decide +kernel
theorem xor_bit (m j : Nat) (hm : m < 64) (hj : j < 6) : bits BinOp.xor IntKind.i64 (m : Int) (wrap64 ((2 : Int) ^ j)) = ((m ^^^ 2 ^ j : Nat) : Int) := xor_all ⟨m, hm⟩ ⟨j, hj⟩
/-- what a flange's bit does to the faces -/
structure Rgd (n : Nat) (mv : Nat → Bool) (f g : Nat → Fc) : Prop where
  w : ∀ j, j ≤ n → (f j).w = (g j).w ∧ (f j).h = (g j).h
  same : ∀ j, j ≤ n → mv j = false → f j = g j
  sq : ∀ i j, i ≤ n → j ≤ n → mv i = true → mv j = true → sqF (f i) (f j) = sqF (g i) (g j)
theorem rgd_of {w h : Int} {l : List Fl} {m m' : Nat → Bool} {fl : Nat} (ok : Fit l) (hfl : fl < l.length) (hm : ∀ i, ¬ i = fl → m i = m' i) : Rgd l.length (mvB l fl) (fun j => fcO (exA w h l m j)) (fun j => fcO (exA w h l m' j)) :=
  ⟨fun j hj => by
    have := exA_size (w := w) (h := h) (m := m) (m' := m') ok hj
    show (exA w h l m j).2.1 = (exA w h l m' j).2.1 ∧ (exA w h l m j).2.2 = (exA w h l m' j).2.2
    rw [this]
    exact ⟨rfl, rfl⟩,
   fun j hj hb => congrArg fcO (exA_same ok hm hj hb),
   fun i j hi hj bi bj => sqF_same ok hfl hm hi hj bi bj⟩
theorem sFcR : Try.prog.underlying 48 = some (.struct (Try.prog.fieldsOf 48)) := by kernel_rfl
theorem pFcR : Try.prog.stoodInHeld 48 = false := by kernel_rfl
theorem gFcR : Try.prog.eqGuardType Try.prog.depth 48 = false := by kernel_rfl
set_option maxHeartbeats 1000000 in
theorem eqFcR (f : Fc) (w : World) : (Op.equalIn 10000 48 (fv f) (fv f)).run Try.prog w = .ok true w := by
  have e0 : ∀ (a b c : Int) (w : World), (Op.equalIn 9999 46 (vc a b c) (vc a b c)).run Try.prog w = .ok true w := fun a b c w => by rw [← veB_self a b c]; exact eqInVec 9997 a b c a b c w
  have u3 := Try.underlying3
  have a3 := Try.isAgg3
  have z3 := Try.sizeOf3
  have a4 := Try.isAgg46
  have z4 := Try.sizeOf46
  rw [run_equalIn_agg w 9999 48 _ _ sFcR pFcR]
  simp only [Program.fieldsOf, Try.underlying48]
  go_simp
theorem slC_ownR {w : World} {base : Nat} {A : Option Addr} {n d : Nat} {xs : List Fc} (h : OwnL w base 48 11 fcL (.slice A n d) xs) (hl : xs.length ≤ 1000) : SlC w A d xs := by
  obtain ⟨h0, h1, h2, h3⟩ := OwnL.rdC h
  exact ⟨h1, h2, by unfold maxLen at h3; omega, hl⟩
/-- the faces behind two masks that differ in one flange -/
theorem rigid_plain {p : Pa} {m fl : Int} (hM : movE p fl = 0) (hF : facE p m = 0) : ∃ (km q : Nat) (f g : Nat → Fc), m = km ∧ fl = q ∧ q < 5 ∧ km < 64 ∧ p.fl.length ≤ 5 ∧ facE p ((km ^^^ 2 ^ q : Nat) : Int) = 0 ∧
    (facL p m).length = p.fl.length + 1 ∧ (facL p ((km ^^^ 2 ^ q : Nat) : Int)).length = p.fl.length + 1 ∧ (∀ j, j ≤ p.fl.length → (facL p m)[j]? = some (f j) ∧ (facL p ((km ^^^ 2 ^ q : Nat) : Int))[j]? = some (g j)) ∧
    Rgd p.fl.length (mvB p.fl q) f g ∧ (∀ z, z ∈ movL p fl → ∃ j : Nat, z = (j : Int) ∧ j ≤ p.fl.length ∧ mvB p.fl q j = true) ∧ (∀ j : Nat, j ≤ p.fl.length → mvB p.fl q j = true → (j : Int) ∈ movL p fl) := by
  obtain ⟨hv, hw⟩ := facE_zero hF
  have G := good_of hv
  have ok := G.fl.fit
  obtain ⟨km, rfl, hk⟩ := fuM_lt G.nfl hw
  obtain ⟨q, rfl, hq⟩ := wi_nat (movE_zero hM).2
  have hn := G.nfl
  have hk2 : km < 2 ^ p.fl.length := by
    have := (wiB_iff.1 hw).2
    unfold fuM at this
    have h1 : 1 ≤ 2 ^ p.fl.length := Nat.one_le_two_pow
    omega
  have hq2 : 2 ^ q < 2 ^ p.fl.length := Nat.pow_lt_pow_right (by omega) hq
  have hx : km ^^^ 2 ^ q < 2 ^ p.fl.length := Nat.xor_lt_two_pow hk2 hq2
  have hE2 : facE p ((km ^^^ 2 ^ q : Nat) : Int) = 0 := facE_ok hv (wiB_iff.2 ⟨by omega, by unfold fuM; omega⟩)
  have hb : ∀ i, ¬ i = q → km.testBit i = (km ^^^ 2 ^ q).testBit i := by
    intro i hi
    rw [Nat.testBit_xor, Nat.testBit_two_pow]
    simp [Ne.symm hi, show ¬ q = i from fun e => hi e.symm]
  refine ⟨km, q, fun j => fcO (exA p.wd p.ht p.fl (fun i => km.testBit i) j), fun j => fcO (exA p.wd p.ht p.fl (fun i => (km ^^^ 2 ^ q).testBit i) j), rfl, rfl, by omega, hk, hn, hE2, ?_, ?_, ?_, rgd_of ok hq hb, ?_, ?_⟩
  · rw [facL_some hF, facs_len (Nat.le_refl _)]
  · rw [facL_some hE2, facs_len (Nat.le_refl _)]
  · intro j hj
    rw [facL_some hF, facL_some hE2]
    exact ⟨facs_exA ok hj, facs_exA ok hj⟩
  · intro z hz
    rw [movL_some hM] at hz
    obtain ⟨j, h1, _, h3, h4⟩ := moL_mem.1 hz
    exact ⟨j, h1, h3, h4⟩
  · intro j hj hb'
    rw [movL_some hM]
    refine moL_mem.2 ⟨j, rfl, Nat.pos_of_ne_zero ?_, hj, hb'⟩
    rintro rfl
    rw [mvB_zero] at hb'
    cases hb'
abbrev cornA (f : Fc) : Value := .agg #[iv f.ox, iv f.oy, iv f.oz, iv (po f.ox f.w f.ux 0 f.vx), iv (po f.oy f.w f.uy 0 f.vy), iv (po f.oz f.w f.uz 0 f.vz), iv (po f.ox f.w f.ux f.h f.vx), iv (po f.oy f.w f.uy f.h f.vy), iv (po f.oz f.w f.uz f.h f.vz), iv (po f.ox 0 f.ux f.h f.vx), iv (po f.oy 0 f.uy f.h f.vy), iv (po f.oz 0 f.uz f.h f.vz)]
theorem corn_lit (f : Fc) (w : World) : Calls Try.prog 29 #[fv f] w fun e w' => e = .returned (cornA f) ∧ Gr w w' := corn_any f w
/-- the corners of a face, stored -/
def stF (w : World) (B : Nat) (f : Fc) : World := ((((((((((((w.setCell ⟨B, 0, none⟩ (iv f.ox)).setCell ⟨B, 1, none⟩ (iv f.oy)).setCell ⟨B, 2, none⟩ (iv f.oz)).setCell ⟨B, 3, none⟩ (iv (po f.ox f.w f.ux 0 f.vx))).setCell ⟨B, 4, none⟩ (iv (po f.oy f.w f.uy 0 f.vy))).setCell ⟨B, 5, none⟩ (iv (po f.oz f.w f.uz 0 f.vz))).setCell ⟨B, 6, none⟩ (iv (po f.ox f.w f.ux f.h f.vx))).setCell ⟨B, 7, none⟩ (iv (po f.oy f.w f.uy f.h f.vy))).setCell ⟨B, 8, none⟩ (iv (po f.oz f.w f.uz f.h f.vz))).setCell ⟨B, 9, none⟩ (iv (po f.ox 0 f.ux f.h f.vx))).setCell ⟨B, 10, none⟩ (iv (po f.oy 0 f.uy f.h f.vy))).setCell ⟨B, 11, none⟩ (iv (po f.oz 0 f.uz f.h f.vz)))
theorem stF_size (w : World) (B : Nat) (f : Fc) : (stF w B f).heap.size = w.heap.size := by
  unfold stF
  simp only [World.size_setCell]
theorem stF_gr {a w : World} (g : Gr a w) {B : Nat} (h : a.heap.size ≤ B) (f : Fc) : Gr a (stF w B f) := by
  unfold stF
  repeat (with_reducible refine Gr.setCell ?_ (by dsimp only; omega) _)
  exact g
theorem stF_other (w : World) {B b : Nat} (f : Fc) (o : Nat) (h : b ≠ B) : (stF w B f).cell? ⟨b, o, none⟩ = w.cell? ⟨b, o, none⟩ := by
  unfold stF
  simp [go_sem, h]
/-- a block holds the corners of a face: the first and the third -/
structure CA (w : World) (B : Nat) (f : Fc) : Prop where
  lt : B < w.heap.size
  c0 : w.cell? ⟨B, 0, none⟩ = some (iv f.ox)
  c1 : w.cell? ⟨B, 1, none⟩ = some (iv f.oy)
  c2 : w.cell? ⟨B, 2, none⟩ = some (iv f.oz)
  c6 : w.cell? ⟨B, 6, none⟩ = some (iv (po f.ox f.w f.ux f.h f.vx))
  c7 : w.cell? ⟨B, 7, none⟩ = some (iv (po f.oy f.w f.uy f.h f.vy))
  c8 : w.cell? ⟨B, 8, none⟩ = some (iv (po f.oz f.w f.uz f.h f.vz))
theorem CA.gr {w w' : World} {B : Nat} {f : Fc} (h : CA w B f) (g : Gr w w') : CA w' B f :=
  ⟨Nat.lt_of_lt_of_le h.lt g.size, (g.cell _ _ h.lt).trans h.c0, (g.cell _ _ h.lt).trans h.c1, (g.cell _ _ h.lt).trans h.c2, (g.cell _ _ h.lt).trans h.c6, (g.cell _ _ h.lt).trans h.c7, (g.cell _ _ h.lt).trans h.c8⟩
theorem CA.other {w : World} {B B' : Nat} {f : Fc} (h : CA w B f) (hne : B ≠ B') (g : Fc) : CA (stF w B' g) B f :=
  ⟨by rw [stF_size]; exact h.lt, (stF_other _ _ _ hne).trans h.c0, (stF_other _ _ _ hne).trans h.c1, (stF_other _ _ _ hne).trans h.c2, (stF_other _ _ _ hne).trans h.c6, (stF_other _ _ _ hne).trans h.c7, (stF_other _ _ _ hne).trans h.c8⟩
set_option maxHeartbeats 1000000 in
theorem ca_of {w : World} {B : Nat} (f : Fc) (hB : B < w.heap.size) (h : ∀ o, w.cell? ⟨B, o, none⟩ = (#[iv 0, iv 0, iv 0, iv 0, iv 0, iv 0, iv 0, iv 0, iv 0, iv 0, iv 0, iv 0] : Array Value)[o]?) : CA (stF w B f) B f := by
  refine ⟨by rw [stF_size]; exact hB, ?_, ?_, ?_, ?_, ?_, ?_⟩ <;> (unfold stF; simp [go_sem, h])
theorem square_any (a b c d e f : Int) (w : World) :
    Calls Try.prog 30 #[vc a b c, vc d e f] w fun x w' => x = .returned (iv (sqW a b c d e f)) ∧ Gr w w' := by
  go_enter Try.func30, Try.ntmps30
  go_wp2
  go_ret
  exact ⟨rfl, (by repeat (first | with_reducible exact Gr.refl _ | with_reducible assumption | with_reducible refine Gr.alloc ?_ _ | with_reducible refine Gr.drewN ?_ _ | with_reducible refine Gr.drew ?_ | with_reducible refine Gr.setCell ?_ (by first | (dsimp only; omega) | (simp only [World.size_alloc]; omega) | (with_reducible refine Gr.size ?_; (repeat (first | with_reducible exact Gr.refl _ | with_reducible assumption | with_reducible refine Gr.alloc ?_ _ | with_reducible refine Gr.drewN ?_ _ | with_reducible refine Gr.drew ?_ | with_reducible refine Gr.trans ?_ (by with_reducible assumption))); done)) _ | with_reducible refine Gr.trans ?_ (by with_reducible assumption)))⟩
set_option maxRecDepth 100000 in
set_option maxHeartbeats 4000000 in
theorem rigid_walk (p : Pa) (A B : Option Addr) (c d : Nat) (m fl : Int) (w : World) (hX : PaX w p A c B d) :
    Calls Try.prog 6 #[pav p A c B d, iv m, iv fl] w fun x w' => x = .returned (.bool true) ∧ Gr w w' := by
  have HBG := hide (fun (w' : World) (g : Gr w w') => big_any p A B c d w' (hX.gr g))
  cases hb : bgB p with
  | true =>
    rw [hb] at HBG
    clear hb hX
    go_enter Try.func6, Try.ntmps6
    go_wp2_with fail
    refine (HBG.out _ (by repeat (first | with_reducible exact Gr.refl _ | with_reducible assumption | with_reducible refine Gr.alloc ?_ _ | with_reducible refine Gr.drewN ?_ _ | with_reducible refine Gr.drew ?_ | with_reducible refine Gr.setCell ?_ (by first | (dsimp only; omega) | (simp only [World.size_alloc]; omega) | (with_reducible refine Gr.size ?_; (repeat (first | with_reducible exact Gr.refl _ | with_reducible assumption | with_reducible refine Gr.alloc ?_ _ | with_reducible refine Gr.drewN ?_ _ | with_reducible refine Gr.drew ?_ | with_reducible refine Gr.trans ?_ (by with_reducible assumption))); done)) _ | with_reducible refine Gr.trans ?_ (by with_reducible assumption)))).mono ?_
    rintro e w1 ⟨rfl, g1⟩
    go_wp2_with (first | (go_at_call 16; refine (known_any _).mono ?_; rintro e w1 ⟨rfl, g1⟩; obtain ⟨X1, Y1, c1, f1⟩ := g1.use; have z1 := g1.size; (try simp only [World.size_alloc, World.size_setCell, World.heap_drewN, Nat.add_one_le_iff] at z1); (try have l0 : w.heap.size < w1.heap.size := by omega); (try have l1 : w.heap.size + 1 < w1.heap.size := by omega); (try have l2 : w.heap.size + 1 + 1 < w1.heap.size := by omega)))
    go_ret
    exact ⟨rfl, (by repeat (first | with_reducible exact Gr.refl _ | with_reducible assumption | with_reducible refine Gr.alloc ?_ _ | with_reducible refine Gr.drewN ?_ _ | with_reducible refine Gr.drew ?_ | with_reducible refine Gr.setCell ?_ (by first | (dsimp only; omega) | (simp only [World.size_alloc]; omega) | (with_reducible refine Gr.size ?_; (repeat (first | with_reducible exact Gr.refl _ | with_reducible assumption | with_reducible refine Gr.alloc ?_ _ | with_reducible refine Gr.drewN ?_ _ | with_reducible refine Gr.drew ?_ | with_reducible refine Gr.trans ?_ (by with_reducible assumption))); done)) _ | with_reducible refine Gr.trans ?_ (by with_reducible assumption)))⟩
  | false =>
    have hP := hX.small hb
    rw [hb] at HBG
    have HM := hide (fun (w' : World) (g : Gr w w') => Moves_any p A B c d fl w' (hP.gr g))
    have HF := hide (fun (x : Int) (w' : World) (g : Gr w w') => Faces_any p A B c d x w' (hP.gr g))
    have hml := movL_len (p := p) (m := fl) hP.fl.len
    by_cases hM : movE p fl = 0
    · by_cases hF : facE p m = 0
      · obtain ⟨km, q, f, g, rfl, rfl, hq, hk, hn, hE2, hl1, hl2, hat, HR, hmem, hmem2⟩ := rigid_plain hM hF
        have HF1 := hide (HF.out (km : Int))
        have HF2 := hide (HF.out ((km ^^^ 2 ^ q : Nat) : Int))
        rw [hM] at HM
        rw [hF] at HF1
        rw [hE2] at HF2
        have HX := xor_bit km q hk (by omega)
        generalize ((km ^^^ 2 ^ q : Nat) : Int) = m2 at *
        generalize facL p (km : Int) = XS at *
        generalize facL p m2 = YS at *
        generalize movL p (q : Int) = ML at *
        generalize mvB p.fl q = mv at *
        have HAT := hide hat
        have HRG := hide HR
        have HME := hide hmem
        have HME2 := hide hmem2
        have hq0 : (0 : Int) ≤ (q : Int) := by omega
        have hq1 : (q : Int) ≤ 20 := by omega
        have hlx : XS.length ≤ 1000 := by omega
        have hly : YS.length ≤ 1000 := by omega
        have e1 : (XS.length : Int) = (p.fl.length : Int) + 1 := by omega
        have e2 : (YS.length : Int) = (p.fl.length : Int) + 1 := by omega
        clear hM hF hE2 hat HR hmem hmem2 hb hX hP HF
        go_enter Try.func6, Try.ntmps6
        go_wp2_with fail
        refine (HBG.out _ (by repeat (first | with_reducible exact Gr.refl _ | with_reducible assumption | with_reducible refine Gr.alloc ?_ _ | with_reducible refine Gr.drewN ?_ _ | with_reducible refine Gr.drew ?_ | with_reducible refine Gr.setCell ?_ (by first | (dsimp only; omega) | (simp only [World.size_alloc]; omega) | (with_reducible refine Gr.size ?_; (repeat (first | with_reducible exact Gr.refl _ | with_reducible assumption | with_reducible refine Gr.alloc ?_ _ | with_reducible refine Gr.drewN ?_ _ | with_reducible refine Gr.drew ?_ | with_reducible refine Gr.trans ?_ (by with_reducible assumption))); done)) _ | with_reducible refine Gr.trans ?_ (by with_reducible assumption)))).mono ?_
        rintro e w1 ⟨rfl, g1⟩
        obtain ⟨X1, Y1, c1, f1⟩ := g1.use
        have z1 := g1.size
        simp only [World.size_alloc] at z1
        have l1 : w.heap.size < w1.heap.size := by omega
        have gw1 : Gr w w1 := (by repeat (first | with_reducible exact Gr.refl _ | with_reducible assumption | with_reducible refine Gr.alloc ?_ _ | with_reducible refine Gr.drewN ?_ _ | with_reducible refine Gr.drew ?_ | with_reducible refine Gr.setCell ?_ (by first | (dsimp only; omega) | (simp only [World.size_alloc]; omega) | (with_reducible refine Gr.size ?_; (repeat (first | with_reducible exact Gr.refl _ | with_reducible assumption | with_reducible refine Gr.alloc ?_ _ | with_reducible refine Gr.drewN ?_ _ | with_reducible refine Gr.drew ?_ | with_reducible refine Gr.trans ?_ (by with_reducible assumption))); done)) _ | with_reducible refine Gr.trans ?_ (by with_reducible assumption)))
        go_wp2_with fail
        refine (HM.out _ gw1).mono ?_
        rintro e w2 ⟨v2, rfl, o2, g2⟩
        obtain ⟨A2, d2, rfl⟩ := o2.slice
        have z2 := g2.size
        have l2 : w.heap.size < w2.heap.size := by omega
        have gw2 : Gr w w2 := gw1.trans g2
        obtain ⟨X2, Y2, c2, f2⟩ := g2.use
        have HI1 := hide (slI_own o2 hml)
        clear o2
        go_wp2_with fail
        refine (HF1.out _ gw2).mono ?_
        rintro e w3 ⟨v3, rfl, o3, g3⟩
        obtain ⟨A3, d3, rfl⟩ := o3.slice
        have z3 := g3.size
        have l3 : w.heap.size < w3.heap.size := by omega
        have gw3 : Gr w w3 := gw2.trans g3
        obtain ⟨X3, Y3, c3, f3⟩ := g3.use
        have HXS := hide (slC_ownR o3 hlx)
        clear o3
        go_wp2_with fail
        refine (HF2.out _ gw3).mono ?_
        rintro e w4 ⟨v4, rfl, o4, g4⟩
        obtain ⟨A4, d4, rfl⟩ := o4.slice
        have z4 := g4.size
        have l4 : w.heap.size < w4.heap.size := by omega
        have gw4 : Gr w w4 := gw3.trans g4
        obtain ⟨X4, Y4, c4, f4⟩ := g4.use
        have HYS := hide (slC_ownR o4 hly)
        have HXS4 := hide (HXS.out.gr g4)
        have HI4 := hide (HI1.out.gr (g3.trans g4))
        clear o4 HX
        go_wp2_with fail
        clear X1 Y1 c1 f1 X2 Y2 c2 f2 X3 Y3 c3 f3 X4 Y4 c4 f4
        go_loopw [12] (fun i wr => ∃ k : Nat, k ≤ p.fl.length + 1 ∧ i = iv k ∧ Gr w4 wr) (fun i _ => p.fl.length + 1 - (intOf i).toNat)
        case atStart => exact ⟨0, by omega, rfl, Gr.refl _⟩
        case round =>
          obtain ⟨k, hk, rfl, g'⟩ := hrel
          by_cases hkl : k < p.fl.length + 1
          · have hkI : (k : Int) < (p.fl.length : Int) + 1 := by omega
            have hkJ : (0 : Int) ≤ (k : Int) := by omega
            go_wp2_with fail
            obtain ⟨wo, rfl⟩ : ∃ wo, wo = wr := ⟨_, rfl⟩
            go_loopw [13, 14] (fun b j wr => ∃ (t : Nat) (s : Bool), t ≤ ML.length ∧ j = iv t ∧ b = .bool s ∧ Gr wo wr ∧ Hid (s = true ↔ ∃ u, u < t ∧ ML[u]? = some (k : Int))) (fun _ j _ => ML.length - (intOf j).toNat)
            case atStart => exact ⟨0, false, by omega, rfl, rfl, Gr.refl _, hide ⟨fun h => (by cases h), fun ⟨u, h, _⟩ => absurd h (Nat.not_lt_zero u)⟩⟩
            case round =>
              obtain ⟨t, s, ht, rfl, rfl, g2, HS⟩ := hrel
              by_cases htl : t < ML.length
              · obtain ⟨z, hz⟩ : ∃ z, ML[t]? = some z := ⟨_, List.getElem?_eq_getElem htl⟩
                obtain ⟨bI, oI, rfl, x0⟩ := (HI4.out.gr (g'.trans g2)).rd.int hz
                have ht0 : (0 : Int) ≤ (t : Int) := by omega
                have ht1 : (t : Int) < (ML.length : Int) := by omega
                cases s with
                | true =>
                  have HS' := hide (show true = true ↔ ∃ u, u < t + 1 ∧ ML[u]? = some (k : Int) by
                    obtain ⟨u, h1, h2⟩ := HS.out.1 rfl
                    exact ⟨fun _ => ⟨u, by omega, h2⟩, fun _ => rfl⟩)
                  clear hz HS
                  go_wp2_with fail
                  go_roundw
                  case rel => exact ⟨t + 1, true, by omega, by go_num, rfl, g2, HS'⟩
                  case measure => simp only [intOf]; omega
                | false =>
                  by_cases hzk : z = (k : Int)
                  · have HS' := hide (show true = true ↔ ∃ u, u < t + 1 ∧ ML[u]? = some (k : Int) from ⟨fun _ => ⟨t, by omega, by rw [hz, hzk]⟩, fun _ => rfl⟩)
                    have hzb : (z == (k : Int)) = true := by simpa using hzk
                    clear hz HS hzk
                    go_wp2_with fail
                    go_roundw
                    case rel => exact ⟨t + 1, true, by omega, by go_num, rfl, g2, HS'⟩
                    case measure => simp only [intOf]; omega
                  · have HS' := hide (show false = true ↔ ∃ u, u < t + 1 ∧ ML[u]? = some (k : Int) by
                      refine ⟨fun h => (by cases h), ?_⟩
                      rintro ⟨u, h1, h2⟩
                      rcases Nat.lt_or_ge u t with q | q
                      · exact HS.out.2 ⟨u, q, h2⟩
                      · obtain rfl : u = t := by omega
                        rw [hz] at h2
                        exact absurd (Option.some.inj h2) hzk)
                    have hzb : (z == (k : Int)) = false := by simpa using hzk
                    clear hz HS hzk
                    go_wp2_with fail
                    go_roundw
                    case rel => exact ⟨t + 1, false, by omega, by go_num, rfl, g2, HS'⟩
                    case measure => simp only [intOf]; omega
              · obtain rfl : t = ML.length := by omega
                have hs1 : s = true → mv k = true := fun h => by
                  obtain ⟨u, _, h2⟩ := HS.out.1 h
                  obtain ⟨j, hj1, _, hj3⟩ := HME.out _ (List.mem_of_getElem? h2)
                  rwa [show k = j by omega]
                have hs2 : s = false → mv k = false := fun h => by
                  cases hb : mv k with
                  | false => rfl
                  | true =>
                    obtain ⟨u, hu⟩ := List.mem_iff_getElem?.1 (HME2.out k (by omega) hb)
                    have := HS.out.2 ⟨u, (List.getElem?_eq_some_iff.1 hu).1, hu⟩
                    rw [h] at this
                    cases this
                clear HS
                obtain ⟨hx, hy⟩ := HAT.out k (by omega)
                have gW : Gr w4 wr := g'.trans g2
                obtain ⟨bX, oX, rfl, x0, x1, x2, x3, x4, x5, x6, x7, x8, x9, x10⟩ := (HXS4.out.gr gW).rd.fc hx
                obtain ⟨bY, oY, rfl, y0, y1, y2, y3, y4, y5, y6, y7, y8, y9, y10⟩ := (HYS.out.gr gW).rd.fc hy
                have hbX : bX < wr.heap.size := cell_lt (by rw [x0]; rfl)
                have hbY : bY < wr.heap.size := cell_lt (by rw [y0]; rfl)
                have GP := gFcR
                cases s with
                | false =>
                  have hsame := HRG.out.same k (by omega) (hs2 rfl)
                  rw [← hsame] at y0 y1 y2 y3 y4 y5 y6 y7 y8 y9 y10
                  clear hsame hs1 hs2 hx hy
                  generalize f k = F at *
                  have NEQ := fun w => eqFcR F w
                  go_upto_region 18 with fail
                  have GC := @GrW.cell
                  refine wp_region_grw _ (by kernel_rfl) (by kernel_rfl) (Gr.refl _) ?_
                  repeat (go_big_quiet_step ((first | fail)))
                  refine wpQuiet_nil ?_
                  intro wq hwq
                  obtain ⟨gq, hwq'⟩ := hwq
                  subst hwq'
                  clear GC
                  have gq1 := gq.gr
                  generalize gq.w = wq at gq1 ⊢
                  obtain ⟨Xq, Yq, cq, fq⟩ := gq1.use
                  have sq := gq1.size
                  (try simp only [World.size_alloc, World.size_setCell, World.heap_drewN] at sq)
                  have sq18 := sq
                  go_upto_region 20 with fail
                  refine wp_region_new2 _ 10 (by kernel_rfl) (by kernel_rfl) (Gr.refl _) (z1 := #[iv 0, iv 0, iv 0, iv 0, iv 0, iv 0, iv 0, iv 0, iv 0, iv 0, iv 0, iv 0]) (t1 := 49) (z2 := #[iv 0, iv 0, iv 0, iv 0, iv 0, iv 0, iv 0, iv 0, iv 0, iv 0, iv 0, iv 0]) (t2 := 49) rfl rfl ⟨rfl, fun _ => rfl, rfl, fun a w => by go_simp⟩ ⟨rfl, fun _ => rfl, rfl, fun a w => by go_simp⟩ (fun a u v => (Act.put_comm a u v (by decide))) ?_
                  intro s gs
                  obtain ⟨Xs, Ys, cs, fs⟩ := gs.use
                  have GC := @GrW.cell
                  simp only [List.take_succ_cons, List.take_zero]
                  repeat (go_big_quiet_step ((first | (go_at_call 29; exact quiet_grw (corn_lit _ _)))))
                  refine wpQuiet_nil ?_
                  clear GC cs fs gs
                  intro B1 B2 wq gq1 l1 l2 n12 ⟨b1, c1, f1⟩ ⟨b2, c2, f2⟩
                  obtain ⟨Xq, Yq, cq, fq⟩ := gq1.use
                  have sq := gq1.size
                  (try simp only [World.size_alloc, World.size_setCell, World.heap_drewN] at sq l1 l2)
                  simp only [List.drop_succ_cons, List.drop_zero]
                  have a1 : w4.heap.size ≤ B1 := by have := gW.size; omega
                  have a2 : w4.heap.size ≤ B2 := by have := gW.size; omega
                  have gvq : Gr w4 wq := (gW.trans (by assumption)).trans gq1
                  have hCA1 := hide (CA.other (ca_of F b1 c1) n12 F)
                  have hCA2 := hide (ca_of (w := stF wq B1 F) (B := B2) F (by rw [stF_size]; exact b2) (fun o => (stF_other _ _ _ (Ne.symm n12)).trans (c2 o)))
                  have gv := stF_gr (stF_gr gvq a1 F) a2 F
                  go_wp2_with fail
                  refine (show Code.wp _ _ _ _ (stF (stF wq B1 F) B2 F) from ?_)
                  generalize stF (stF wq B1 F) B2 F = v at *
                  clear cq fq c1 f1 c2 f2
                  go_loopw [17] (fun j wr => j = iv 0 ∧ Gr v wr) (fun _ _ => 0)
                  case atStart => exact ⟨rfl, Gr.refl _⟩
                  case round =>
                    obtain ⟨rfl, g3'⟩ := hrel
                    by_cases hml0 : 0 < ML.length
                    all_goals
                      go_wp2_with fail
                      go_roundw
                      case rel => exact ⟨k + 1, by omega, by go_num, gv.trans g3'⟩
                      case measure => simp only [intOf]; omega
                | true =>
                  have mvk := hs1 rfl
                  obtain ⟨hww, hhh⟩ := HRG.out.w k (by omega)
                  have Y9 := hide y9
                  have Y10 := hide y10
                  rw [← hww] at y9
                  rw [← hhh] at y10
                  have HRK := hide (fun j (hj : j ≤ p.fl.length) (hb : mv j = true) => HRG.out.sq k j (by omega) hj mvk hb)
                  clear hs1 hs2 hx hy hww hhh GP mvk
                  generalize f k = F at *
                  generalize g k = G at *
                  go_upto_region 18 with fail
                  have GC := @GrW.cell
                  refine wp_region_grw _ (by kernel_rfl) (by kernel_rfl) (Gr.refl _) ?_
                  repeat (go_big_quiet_step ((first | fail)))
                  refine wpQuiet_nil ?_
                  intro wq hwq
                  obtain ⟨gq, hwq'⟩ := hwq
                  subst hwq'
                  clear GC
                  have gq1 := gq.gr
                  generalize gq.w = wq at gq1 ⊢
                  obtain ⟨Xq, Yq, cq, fq⟩ := gq1.use
                  have sq := gq1.size
                  (try simp only [World.size_alloc, World.size_setCell, World.heap_drewN] at sq)
                  clear y9 y10
                  have y9 := Y9.out
                  have y10 := Y10.out
                  have sq18 := sq
                  go_upto_region 20 with fail
                  refine wp_region_new2 _ 10 (by kernel_rfl) (by kernel_rfl) (Gr.refl _) (z1 := #[iv 0, iv 0, iv 0, iv 0, iv 0, iv 0, iv 0, iv 0, iv 0, iv 0, iv 0, iv 0]) (t1 := 49) (z2 := #[iv 0, iv 0, iv 0, iv 0, iv 0, iv 0, iv 0, iv 0, iv 0, iv 0, iv 0, iv 0]) (t2 := 49) rfl rfl ⟨rfl, fun _ => rfl, rfl, fun a w => by go_simp⟩ ⟨rfl, fun _ => rfl, rfl, fun a w => by go_simp⟩ (fun a u v => (Act.put_comm a u v (by decide))) ?_
                  intro s gs
                  obtain ⟨Xs, Ys, cs, fs⟩ := gs.use
                  have GC := @GrW.cell
                  simp only [List.take_succ_cons, List.take_zero]
                  repeat (go_big_quiet_step ((first | (go_at_call 29; exact quiet_grw (corn_lit _ _)))))
                  refine wpQuiet_nil ?_
                  clear GC cs fs gs
                  intro B1 B2 wq gq1 l1 l2 n12 ⟨b1, c1, f1⟩ ⟨b2, c2, f2⟩
                  obtain ⟨Xq, Yq, cq, fq⟩ := gq1.use
                  have sq := gq1.size
                  (try simp only [World.size_alloc, World.size_setCell, World.heap_drewN] at sq l1 l2)
                  simp only [List.drop_succ_cons, List.drop_zero]
                  have a1 : w4.heap.size ≤ B1 := by have := gW.size; omega
                  have a2 : w4.heap.size ≤ B2 := by have := gW.size; omega
                  have gvq : Gr w4 wq := (gW.trans (by assumption)).trans gq1
                  have hCA1 := hide (CA.other (ca_of F b1 c1) n12 G)
                  have hCA2 := hide (ca_of (w := stF wq B1 F) (B := B2) G (by rw [stF_size]; exact b2) (fun o => (stF_other _ _ _ (Ne.symm n12)).trans (c2 o)))
                  have gv := stF_gr (stF_gr gvq a1 F) a2 G
                  go_wp2_with fail
                  refine (show Code.wp _ _ _ _ (stF (stF wq B1 F) B2 G) from ?_)
                  generalize stF (stF wq B1 F) B2 G = v at *
                  clear cq fq c1 f1 c2 f2
                  go_loopw [17] (fun j wr => ∃ t : Nat, t ≤ ML.length ∧ j = iv t ∧ Gr v wr) (fun j _ => ML.length - (intOf j).toNat)
                  case atStart => exact ⟨0, by omega, rfl, Gr.refl _⟩
                  case round =>
                    obtain ⟨t, ht, rfl, g3'⟩ := hrel
                    by_cases htl : t < ML.length
                    · obtain ⟨z, hz⟩ : ∃ z, ML[t]? = some z := ⟨_, List.getElem?_eq_getElem htl⟩
                      have gV := gv.trans g3'
                      obtain ⟨bI, oI, rfl, i0⟩ := (HI4.out.gr gV).rd.int hz
                      obtain ⟨e, rfl, he, hme⟩ := HME.out _ (List.mem_of_getElem? hz)
                      have ht0 : (0 : Int) ≤ (t : Int) := by omega
                      have ht1 : (t : Int) < (ML.length : Int) := by omega
                      have he0 : (0 : Int) ≤ (e : Int) := by omega
                      have he1 : (e : Int) < (p.fl.length : Int) + 1 := by omega
                      have hbI : bI < wr.heap.size := cell_lt (by rw [i0]; rfl)
                      have hsq := HRK.out e he hme
                      obtain ⟨hx, hy⟩ := HAT.out e he
                      clear hz x0 x1 x2 x3 x4 x5 x6 x7 x8 x9 x10 y0 y1 y2 y3 y4 y5 y6 y7 y8 y9 y10
                      obtain ⟨_, _, hA3, x0, x1, x2, x3, x4, x5, x6, x7, x8, x9, x10⟩ := (HXS4.out.gr gV).rd.fc hx
                      obtain ⟨rfl, rfl⟩ : bX = _ ∧ oX = _ := by simpa using hA3
                      obtain ⟨_, _, hA4, y0, y1, y2, y3, y4, y5, y6, y7, y8, y9, y10⟩ := (HYS.out.gr gV).rd.fc hy
                      obtain ⟨rfl, rfl⟩ : bY = _ ∧ oY = _ := by simpa using hA4
                      have hbX' : bX < wr.heap.size := cell_lt (by rw [x0]; rfl)
                      have hbY' : bY < wr.heap.size := cell_lt (by rw [y0]; rfl)
                      generalize f e = P at *
                      generalize g e = Q at *
                      clear hx hy hA3 hA4 hme
                      obtain ⟨C1, rfl⟩ : ∃ C1, C1 = B1 := ⟨_, rfl⟩
                      obtain ⟨C2, rfl⟩ : ∃ C2, C2 = B2 := ⟨_, rfl⟩
                      go_upto_region 26 with fail
                      refine wp_region_new2 _ 16 (by kernel_rfl) (by kernel_rfl) (Gr.refl _) (z1 := #[iv 0, iv 0, iv 0, iv 0, iv 0, iv 0, iv 0, iv 0, iv 0, iv 0, iv 0, iv 0]) (t1 := 49) (z2 := #[iv 0, iv 0, iv 0, iv 0, iv 0, iv 0, iv 0, iv 0, iv 0, iv 0, iv 0, iv 0]) (t2 := 49) rfl rfl ⟨rfl, fun _ => rfl, rfl, fun a w => by go_simp⟩ ⟨rfl, fun _ => rfl, rfl, fun a w => by go_simp⟩ (fun a u v => (Act.put_comm a u v (by decide))) ?_
                      intro s gs
                      obtain ⟨Xs, Ys, cs, fs⟩ := gs.use
                      have GC := @GrW.cell
                      simp only [List.take_succ_cons, List.take_zero]
                      repeat (go_big_quiet_step ((first | (go_at_call 29; exact quiet_grw (corn_lit _ _)))))
                      refine wpQuiet_nil ?_
                      clear GC cs fs gs
                      intro B1 B2 wq gq1 l1 l2 n12 ⟨b1, c1, f1⟩ ⟨b2, c2, f2⟩
                      obtain ⟨Xq, Yq, cq, fq⟩ := gq1.use
                      have sq := gq1.size
                      (try simp only [World.size_alloc, World.size_setCell, World.heap_drewN] at sq l1 l2)
                      simp only [List.drop_succ_cons, List.drop_zero]
                      have gwq : Gr v wq := g3'.trans gq1
                      have s1 := hCA1.out.lt
                      have s2 := hCA2.out.lt
                      have s3 := g3'.size
                      have a3 : v.heap.size ≤ B1 := by omega
                      have a4 : v.heap.size ≤ B2 := by omega
                      have hCA3 := hide (CA.other (ca_of P b1 c1) n12 Q)
                      have hCA4 := hide (ca_of (w := stF wq B1 P) (B := B2) Q (by rw [stF_size]; exact b2) (fun o => (stF_other _ _ _ (Ne.symm n12)).trans (c2 o)))
                      have hC1 := hide (CA.other (CA.other (hCA1.out.gr gwq) (show C1 ≠ B1 by omega) P) (show C1 ≠ B2 by omega) Q)
                      have hC2 := hide (CA.other (CA.other (hCA2.out.gr gwq) (show C2 ≠ B1 by omega) P) (show C2 ≠ B2 by omega) Q)
                      have gv2 := stF_gr (stF_gr gwq a3 P) a4 Q
                      have hsq' : (sqW F.ox F.oy F.oz (po P.ox P.w P.ux P.h P.vx) (po P.oy P.w P.uy P.h P.vy) (po P.oz P.w P.uz P.h P.vz) != sqW G.ox G.oy G.oz (po Q.ox Q.w Q.ux Q.h Q.vx) (po Q.oy Q.w Q.uy Q.h Q.vy) (po Q.oz Q.w Q.uz Q.h Q.vz)) = false := by
                        rw [bne_eq_false_iff_eq]
                        exact hsq
                      go_upto_region 27 with fail
                      refine (show Code.wp _ _ _ _ (stF (stF wq B1 P) B2 Q) from ?_)
                      generalize stF (stF wq B1 P) B2 Q = v2 at *
                      clear cq fq c1 f1 c2 f2 hCA1 hCA2
                      obtain ⟨q0, q1, q2, q3, -, -, -⟩ := hC1.out
                      obtain ⟨r0, r1, r2, r3, -, -, -⟩ := hC2.out
                      obtain ⟨t0, -, -, -, t1, t2, t3⟩ := hCA3.out
                      obtain ⟨u0, -, -, -, u1, u2, u3⟩ := hCA4.out
                      have GC := @GrW.cell
                      refine wp_region_grw _ (by kernel_rfl) (by kernel_rfl) (Gr.refl _) ?_
                      repeat (go_big_quiet_step ((first | (go_at_call 30; exact quiet_grw (square_any _ _ _ _ _ _ _)))))
                      refine wpQuiet_nil ?_
                      intro wq hwq
                      obtain ⟨gq, hwq'⟩ := hwq
                      subst hwq'
                      clear GC
                      have gq1 := gq.gr
                      generalize gq.w = wq at gq1 ⊢
                      obtain ⟨Xq, Yq, cq, fq⟩ := gq1.use
                      have sq := gq1.size
                      (try simp only [World.size_alloc, World.size_setCell, World.heap_drewN] at sq)
                      go_wp2_with fail
                      go_roundw
                      case rel => exact ⟨t + 1, by omega, by go_num, gv2.trans (by assumption)⟩
                      case measure => simp only [intOf]; omega
                    · obtain rfl : t = ML.length := by omega
                      go_wp2_with fail
                      go_roundw
                      case rel => exact ⟨k + 1, by omega, by go_num, gv.trans g3'⟩
                      case measure => simp only [intOf]; omega
          · obtain rfl : k = p.fl.length + 1 := by omega
            go_wp2_with (first | (go_at_call 16; refine (known_any _).mono ?_; rintro e w1 ⟨rfl, g1⟩; obtain ⟨X1, Y1, c1, f1⟩ := g1.use))
            go_ret
            exact ⟨rfl, (by repeat (first | with_reducible exact Gr.refl _ | with_reducible assumption | with_reducible refine Gr.alloc ?_ _ | with_reducible refine Gr.drewN ?_ _ | with_reducible refine Gr.drew ?_ | with_reducible refine Gr.setCell ?_ (by first | (dsimp only; omega) | (simp only [World.size_alloc]; omega) | (with_reducible refine Gr.size ?_; (repeat (first | with_reducible exact Gr.refl _ | with_reducible assumption | with_reducible refine Gr.alloc ?_ _ | with_reducible refine Gr.drewN ?_ _ | with_reducible refine Gr.drew ?_ | with_reducible refine Gr.trans ?_ (by with_reducible assumption))); done)) _ | with_reducible refine Gr.trans ?_ (by with_reducible assumption)))⟩
      · have HF1 := hide (HF.out m)
        rw [hM] at HM
        have hE : (facE p m != 0) = true := by simpa using hF
        generalize facE p m = E at *
        generalize facL p m = XS at *
        generalize movL p fl = ML at *
        clear hM hF hb hX hP HF hml
        go_enter Try.func6, Try.ntmps6
        go_wp2_with fail
        refine (HBG.out _ (by repeat (first | with_reducible exact Gr.refl _ | with_reducible assumption | with_reducible refine Gr.alloc ?_ _ | with_reducible refine Gr.drewN ?_ _ | with_reducible refine Gr.drew ?_ | with_reducible refine Gr.setCell ?_ (by first | (dsimp only; omega) | (simp only [World.size_alloc]; omega) | (with_reducible refine Gr.size ?_; (repeat (first | with_reducible exact Gr.refl _ | with_reducible assumption | with_reducible refine Gr.alloc ?_ _ | with_reducible refine Gr.drewN ?_ _ | with_reducible refine Gr.drew ?_ | with_reducible refine Gr.trans ?_ (by with_reducible assumption))); done)) _ | with_reducible refine Gr.trans ?_ (by with_reducible assumption)))).mono ?_
        rintro e w1 ⟨rfl, g1⟩
        obtain ⟨X1, Y1, c1, f1⟩ := g1.use
        have z1 := g1.size
        simp only [World.size_alloc] at z1
        have l1 : w.heap.size < w1.heap.size := by omega
        have gw1 : Gr w w1 := (by repeat (first | with_reducible exact Gr.refl _ | with_reducible assumption | with_reducible refine Gr.alloc ?_ _ | with_reducible refine Gr.drewN ?_ _ | with_reducible refine Gr.drew ?_ | with_reducible refine Gr.setCell ?_ (by first | (dsimp only; omega) | (simp only [World.size_alloc]; omega) | (with_reducible refine Gr.size ?_; (repeat (first | with_reducible exact Gr.refl _ | with_reducible assumption | with_reducible refine Gr.alloc ?_ _ | with_reducible refine Gr.drewN ?_ _ | with_reducible refine Gr.drew ?_ | with_reducible refine Gr.trans ?_ (by with_reducible assumption))); done)) _ | with_reducible refine Gr.trans ?_ (by with_reducible assumption)))
        go_wp2_with fail
        refine (HM.out _ gw1).mono ?_
        rintro e w2 ⟨v2, rfl, o2, g2⟩
        obtain ⟨A2, d2, rfl⟩ := o2.slice
        have z2 := g2.size
        have l2 : w.heap.size < w2.heap.size := by omega
        have gw2 : Gr w w2 := gw1.trans g2
        obtain ⟨X2, Y2, c2, f2⟩ := g2.use
        clear o2
        go_wp2_with fail
        refine (HF1.out _ gw2).mono ?_
        rintro e w3 ⟨v3, rfl, o3, g3⟩
        obtain ⟨A3, d3, rfl⟩ := o3.slice
        have gw3 : Gr w w3 := gw2.trans g3
        clear o3
        go_wp2_with (first | (go_at_call 16; refine (known_any _).mono ?_; rintro e w1 ⟨rfl, g1⟩; obtain ⟨X1, Y1, c1, f1⟩ := g1.use))
        go_ret
        exact ⟨rfl, (by repeat (first | with_reducible exact Gr.refl _ | with_reducible assumption | with_reducible refine Gr.alloc ?_ _ | with_reducible refine Gr.drewN ?_ _ | with_reducible refine Gr.drew ?_ | with_reducible refine Gr.setCell ?_ (by first | (dsimp only; omega) | (simp only [World.size_alloc]; omega) | (with_reducible refine Gr.size ?_; (repeat (first | with_reducible exact Gr.refl _ | with_reducible assumption | with_reducible refine Gr.alloc ?_ _ | with_reducible refine Gr.drewN ?_ _ | with_reducible refine Gr.drew ?_ | with_reducible refine Gr.trans ?_ (by with_reducible assumption))); done)) _ | with_reducible refine Gr.trans ?_ (by with_reducible assumption)))⟩
    · have HF1 := hide (HF.out m)
      have hE : (movE p fl != 0) = true := by simpa using hM
      generalize movE p fl = E at *
      generalize facE p m = E2 at *
      generalize facL p m = XS at *
      generalize movL p fl = ML at *
      clear hM hb hX hP HF hml
      go_enter Try.func6, Try.ntmps6
      go_wp2_with fail
      refine (HBG.out _ (by repeat (first | with_reducible exact Gr.refl _ | with_reducible assumption | with_reducible refine Gr.alloc ?_ _ | with_reducible refine Gr.drewN ?_ _ | with_reducible refine Gr.drew ?_ | with_reducible refine Gr.setCell ?_ (by first | (dsimp only; omega) | (simp only [World.size_alloc]; omega) | (with_reducible refine Gr.size ?_; (repeat (first | with_reducible exact Gr.refl _ | with_reducible assumption | with_reducible refine Gr.alloc ?_ _ | with_reducible refine Gr.drewN ?_ _ | with_reducible refine Gr.drew ?_ | with_reducible refine Gr.trans ?_ (by with_reducible assumption))); done)) _ | with_reducible refine Gr.trans ?_ (by with_reducible assumption)))).mono ?_
      rintro e w1 ⟨rfl, g1⟩
      obtain ⟨X1, Y1, c1, f1⟩ := g1.use
      have z1 := g1.size
      simp only [World.size_alloc] at z1
      have l1 : w.heap.size < w1.heap.size := by omega
      have gw1 : Gr w w1 := (by repeat (first | with_reducible exact Gr.refl _ | with_reducible assumption | with_reducible refine Gr.alloc ?_ _ | with_reducible refine Gr.drewN ?_ _ | with_reducible refine Gr.drew ?_ | with_reducible refine Gr.setCell ?_ (by first | (dsimp only; omega) | (simp only [World.size_alloc]; omega) | (with_reducible refine Gr.size ?_; (repeat (first | with_reducible exact Gr.refl _ | with_reducible assumption | with_reducible refine Gr.alloc ?_ _ | with_reducible refine Gr.drewN ?_ _ | with_reducible refine Gr.drew ?_ | with_reducible refine Gr.trans ?_ (by with_reducible assumption))); done)) _ | with_reducible refine Gr.trans ?_ (by with_reducible assumption)))
      go_wp2_with fail
      refine (HM.out _ gw1).mono ?_
      rintro e w2 ⟨v2, rfl, o2, g2⟩
      obtain ⟨A2, d2, rfl⟩ := o2.slice
      have z2 := g2.size
      have l2 : w.heap.size < w2.heap.size := by omega
      have gw2 : Gr w w2 := gw1.trans g2
      obtain ⟨X2, Y2, c2, f2⟩ := g2.use
      clear o2
      go_wp2_with fail
      refine (HF1.out _ gw2).mono ?_
      rintro e w3 ⟨v3, rfl, o3, g3⟩
      obtain ⟨A3, d3, rfl⟩ := o3.slice
      have gw3 : Gr w w3 := gw2.trans g3
      clear o3
      go_wp2_with (first | (go_at_call 16; refine (known_any _).mono ?_; rintro e w1 ⟨rfl, g1⟩; obtain ⟨X1, Y1, c1, f1⟩ := g1.use))
      go_ret
      exact ⟨rfl, (by repeat (first | with_reducible exact Gr.refl _ | with_reducible assumption | with_reducible refine Gr.alloc ?_ _ | with_reducible refine Gr.drewN ?_ _ | with_reducible refine Gr.drew ?_ | with_reducible refine Gr.setCell ?_ (by first | (dsimp only; omega) | (simp only [World.size_alloc]; omega) | (with_reducible refine Gr.size ?_; (repeat (first | with_reducible exact Gr.refl _ | with_reducible assumption | with_reducible refine Gr.alloc ?_ _ | with_reducible refine Gr.drewN ?_ _ | with_reducible refine Gr.drew ?_ | with_reducible refine Gr.trans ?_ (by with_reducible assumption))); done)) _ | with_reducible refine Gr.trans ?_ (by with_reducible assumption)))⟩
end Go.Proofs.Ytpmomgfepkegnaa
