/-
  Parts, plain: their numbers, the faces of a part as either side reckons them, and that these are the same.
-/
import Derived.Test.YtefjgfglommefaaCorners
set_option linter.unusedVariables false
set_option linter.unusedSimpArgs false
namespace Go.Proofs.Ytefjgfglommefaa
set_option linter.unusedVariables false
set_option linter.unusedSimpArgs false
open Go Go.ChangeShapes Go.WideShapes Go.ChangeAt Go.RowKit Go.Deep

/-- A flange. -/
structure Fl where
  nm : ByteArray
  pa : Int
  sd : Int
  o : Int
  wd : Int
  ln : Int
  an : Int
/-- A hole. -/
structure Ho where
  fa : Int
  kd : Int
  x : Int
  y : Int
  w : Int
  h : Int
/-- A part. -/
structure Pa where
  nm : ByteArray
  mt : ByteArray
  ga : Int
  gr : Int
  wd : Int
  ht : Int
  fl : List Fl
  ho : List Ho
theorem w_add_l (a b : Int) : wrap64 (wrap64 a + b) = wrap64 (a + b) := by unfold wrap64; omega
theorem w_add_r (a b : Int) : wrap64 (a + wrap64 b) = wrap64 (a + b) := by unfold wrap64; omega
theorem w_sub_l (a b : Int) : wrap64 (wrap64 a - b) = wrap64 (a - b) := by unfold wrap64; omega
theorem w_sub_r (a b : Int) : wrap64 (a - wrap64 b) = wrap64 (a - b) := by unfold wrap64; omega
theorem w_w (a : Int) : wrap64 (wrap64 a) = wrap64 a := by unfold wrap64; omega
theorem w_ex (a : Int) : ∃ k : Int, wrap64 a = a + 18446744073709551616 * k := ⟨-((a + 9223372036854775808) / 18446744073709551616), by unfold wrap64; omega⟩
theorem w_cong (a k : Int) : wrap64 (a + 18446744073709551616 * k) = wrap64 a := by unfold wrap64; omega
theorem w_mul_r (a b : Int) : wrap64 (a * wrap64 b) = wrap64 (a * b) := by
  obtain ⟨k, hk⟩ := w_ex b
  rw [hk, show a * (b + 18446744073709551616 * k) = a * b + 18446744073709551616 * (a * k) by grind, w_cong]
theorem w_mul_l (a b : Int) : wrap64 (wrap64 a * b) = wrap64 (a * b) := by rw [Int.mul_comm, w_mul_r, Int.mul_comm]
theorem w_in {a : Int} (h : I64 a) : wrap64 a = a := by unfold I64 at h; unfold wrap64; omega
theorem w_I64 (a : Int) : I64 (wrap64 a) := by unfold I64 wrap64; omega
/-- the face whose local coordinates are turned by a quarter -/
def qua (f : Fc) : Fc := ⟨po f.ox 0 f.ux f.h f.vx, po f.oy 0 f.uy f.h f.vy, po f.oz 0 f.uz f.h f.vz, wrap64 (-1 * f.vx), wrap64 (-1 * f.vy), wrap64 (-1 * f.vz), f.ux, f.uy, f.uz, f.h, f.w⟩
def tur (f : Fc) (s : Int) : Fc := if s = 2 then qua (qua (qua f)) else if s = 1 then qua (qua f) else if s = 0 then qua f else f
/-- three numbers -/
abbrev V3 := Int × Int × Int
def bdir (f : Fc) (a : Int) : V3 :=
  if a = 90 then (nx f, ny f, nz f) else if a = -90 then (wrap64 (-1 * nx f), wrap64 (-1 * ny f), wrap64 (-1 * nz f)) else (wrap64 (-1 * f.vx), wrap64 (-1 * f.vy), wrap64 (-1 * f.vz))
def nextC (s : Fc) (a : Int) (b : Bool) : V3 := if b then bdir s a else (s.vx, s.vy, s.vz)
/-- a flange's face, as the code reckons it -/
def flC (g : Fc) (f : Fl) (b : Bool) : Fc :=
  ⟨po (tur g f.sd).ox f.o (tur g f.sd).ux (tur g f.sd).h (tur g f.sd).vx, po (tur g f.sd).oy f.o (tur g f.sd).uy (tur g f.sd).h (tur g f.sd).vy, po (tur g f.sd).oz f.o (tur g f.sd).uz (tur g f.sd).h (tur g f.sd).vz,
   (tur g f.sd).ux, (tur g f.sd).uy, (tur g f.sd).uz, (nextC (tur g f.sd) f.an b).1, (nextC (tur g f.sd) f.an b).2.1, (nextC (tur g f.sd) f.an b).2.2, f.wd, f.ln⟩
/-- what the reference's start gives: two numbers, the direction, the outward direction -/
def staA (s w : Int) : Int := if s = 0 then w else if s = 1 then w else 0
def staB (s h : Int) : Int := if s = 0 then h else if s = 1 then 0 else if s = 2 then 0 else h
def staD0 (s : Int) : Int := if s = 0 then 0 else if s = 1 then -1 else if s = 2 then 0 else 1
def staD1 (s : Int) : Int := if s = 0 then -1 else if s = 1 then 0 else if s = 2 then 1 else 0
def staO0 (s : Int) : Int := if s = 0 then 1 else if s = 1 then 0 else if s = 2 then -1 else 0
def staO1 (s : Int) : Int := if s = 0 then 0 else if s = 1 then -1 else if s = 2 then 0 else 1
/-- the reference's along, one number -/
def al (a k b : Int) : Int := wrap64 (a + wrap64 (k * b))
def crX (f : Fc) : Int := wrap64 (wrap64 (f.uy * f.vz) - wrap64 (f.uz * f.vy))
def crY (f : Fc) : Int := wrap64 (wrap64 (f.uz * f.vx) - wrap64 (f.ux * f.vz))
def crZ (f : Fc) : Int := wrap64 (wrap64 (f.ux * f.vy) - wrap64 (f.uy * f.vx))
/-- the reference's outward direction of a flange, one number: n is that of the normal, w that of the outward direction in the plane -/
def nextR (a : Int) (b : Bool) (n w : Int) : Int := if b then (if a = 180 ∨ a = -180 then al 0 (-1) w else if a = -90 then al 0 (-1) n else if a = 90 then n else w) else w
def awy (s u v : Int) : Int := al (al 0 (staO0 s) u) (staO1 s) v
def atR (s o w h c u v : Int) : Int := al (al c (wrap64 (staA s w + wrap64 (o * staD0 s))) u) (wrap64 (staB s h + wrap64 (o * staD1 s))) v
/-- a flange's face, as the reference reckons it -/
def flR (g : Fc) (f : Fl) (b : Bool) : Fc :=
  ⟨atR f.sd f.o g.w g.h g.ox g.ux g.vx, atR f.sd f.o g.w g.h g.oy g.uy g.vy, atR f.sd f.o g.w g.h g.oz g.uz g.vz,
   al (al 0 (staD0 f.sd) g.ux) (staD1 f.sd) g.vx, al (al 0 (staD0 f.sd) g.uy) (staD1 f.sd) g.vy, al (al 0 (staD0 f.sd) g.uz) (staD1 f.sd) g.vz,
   nextR f.an b (crX g) (awy f.sd g.ux g.vx), nextR f.an b (crY g) (awy f.sd g.uy g.vy), nextR f.an b (crZ g) (awy f.sd g.uz g.vz), f.wd, f.ln⟩
/-- the directions are numbers of the machine -/
structure Wf (g : Fc) : Prop where
  ux : I64 g.ux
  uy : I64 g.uy
  uz : I64 g.uz
  vx : I64 g.vx
  vy : I64 g.vy
  vz : I64 g.vz
def sdOk (s : Int) : Prop := s = 0 ∨ s = 1 ∨ s = 2 ∨ s = 3
def anOk (a : Int) : Prop := a = 90 ∨ a = -90 ∨ a = 180 ∨ a = -180
theorem al_w (a k b : Int) : al a k b = wrap64 (a + k * b) := by unfold al; rw [w_add_r]
/-- the same modulo the machine's numbers -/
def M64 (a b : Int) : Prop := wrap64 a = wrap64 b
theorem m_refl (a : Int) : M64 a a := rfl
theorem m_wrap {a b : Int} (h : M64 a b) : M64 (wrap64 a) b := (w_w a).trans h
theorem m_add {a b c d : Int} (h : M64 a b) (k : M64 c d) : M64 (a + c) (b + d) := by
  unfold M64 at *
  rw [← w_add_l a c, ← w_add_r (wrap64 a) c, ← w_add_l b d, ← w_add_r (wrap64 b) d, h, k]
theorem m_sub {a b c d : Int} (h : M64 a b) (k : M64 c d) : M64 (a - c) (b - d) := by
  unfold M64 at *
  rw [← w_sub_l a c, ← w_sub_r (wrap64 a) c, ← w_sub_l b d, ← w_sub_r (wrap64 b) d, h, k]
theorem m_mul {a b c d : Int} (h : M64 a b) (k : M64 c d) : M64 (a * c) (b * d) := by
  unfold M64 at *
  rw [← w_mul_l a c, ← w_mul_r (wrap64 a) c, ← w_mul_l b d, ← w_mul_r (wrap64 b) d, h, k]
theorem m_neg {a b : Int} (h : M64 a b) : M64 (-a) (-b) := by
  have := m_sub (m_refl 0) h
  rwa [Int.zero_sub, Int.zero_sub] at this
theorem m_strip {a b x y : Int} (h : M64 a x) (k : M64 b y) (e : x = y) : wrap64 a = wrap64 b := by subst e; exact h.trans k.symm
theorem m_strip1 {a b x : Int} (h : M64 a x) (e : x = b) : M64 a b := by subst e; exact h
theorem atR_w (s o w h c u v : Int) : atR s o w h c u v = wrap64 (c + (staA s w + o * staD0 s) * u + (staB s h + o * staD1 s) * v) := by
  unfold atR
  rw [al_w, al_w]
  exact m_add (m_wrap (m_add (m_refl _) (m_mul (m_wrap (m_add (m_refl _) (m_wrap (m_refl _)))) (m_refl _)))) (m_mul (m_wrap (m_add (m_refl _) (m_wrap (m_refl _)))) (m_refl _))
theorem awy_w (s u v : Int) : awy s u v = wrap64 (staO0 s * u + staO1 s * v) := by
  unfold awy
  rw [al_w, al_w]
  exact m_strip1 (m_add (m_wrap (m_add (m_refl _) (m_refl _))) (m_refl _)) (by omega)
theorem dir_w (s u v : Int) : al (al 0 (staD0 s) u) (staD1 s) v = wrap64 (staD0 s * u + staD1 s * v) := by
  rw [al_w, al_w]
  exact m_strip1 (m_add (m_wrap (m_add (m_refl _) (m_refl _))) (m_refl _)) (by omega)
theorem po_w (o a u b v : Int) : po o a u b v = wrap64 (o + (a * u + b * v)) := by
  unfold po
  exact m_add (m_refl _) (m_wrap (m_add (m_wrap (m_refl _)) (m_wrap (m_refl _))))
/-- where the origin of a flange's face is -/
def orC (s o w h c u v : Int) : Int := c + (staA s w + o * staD0 s) * u + (staB s h + o * staD1 s) * v
theorem tur_o {g : Fc} {s : Int} (o : Int) (hs : sdOk s) :
    po (tur g s).ox o (tur g s).ux (tur g s).h (tur g s).vx = atR s o g.w g.h g.ox g.ux g.vx ∧
    po (tur g s).oy o (tur g s).uy (tur g s).h (tur g s).vy = atR s o g.w g.h g.oy g.uy g.vy ∧
    po (tur g s).oz o (tur g s).uz (tur g s).h (tur g s).vz = atR s o g.w g.h g.oz g.uz g.vz := by
  unfold sdOk at hs
  rcases hs with rfl | rfl | rfl | rfl <;>
  (refine ⟨?_, ?_, ?_⟩ <;> rw [atR_w, po_w] <;> simp [tur, qua, po_w, staA, staB, staD0, staD1] <;>
    (apply m_strip
     case h => with_reducible repeat' first | apply m_wrap | apply m_add | apply m_sub | apply m_neg | apply m_mul | apply m_refl
     case k => with_reducible repeat' first | apply m_wrap | apply m_add | apply m_sub | apply m_neg | apply m_mul | apply m_refl
     case e => grind))
theorem tur_uv {g : Fc} {s : Int} (hg : Wf g) (hs : sdOk s) :
    ((tur g s).ux = al (al 0 (staD0 s) g.ux) (staD1 s) g.vx ∧ (tur g s).uy = al (al 0 (staD0 s) g.uy) (staD1 s) g.vy ∧ (tur g s).uz = al (al 0 (staD0 s) g.uz) (staD1 s) g.vz) ∧
    (tur g s).vx = awy s g.ux g.vx ∧ (tur g s).vy = awy s g.uy g.vy ∧ (tur g s).vz = awy s g.uz g.vz := by
  obtain ⟨h1, h2, h3, h4, h5, h6⟩ := hg
  have e1 := w_in h1
  have e2 := w_in h2
  have e3 := w_in h3
  have e4 := w_in h4
  have e5 := w_in h5
  have e6 := w_in h6
  unfold sdOk at hs
  have nn : ∀ a : Int, wrap64 (-wrap64 (-a)) = wrap64 a := fun a => m_strip (m_neg (m_wrap (m_neg (m_refl a)))) (m_refl a) (by omega)
  rcases hs with rfl | rfl | rfl | rfl <;>
  (refine ⟨⟨?_, ?_, ?_⟩, ?_, ?_, ?_⟩ <;> (try rw [dir_w]) <;> (try rw [awy_w]) <;> simp [tur, qua, staD0, staD1, staO0, staO1, nn, e1, e2, e3, e4, e5, e6])
theorem tur_n {g : Fc} {s : Int} (hs : sdOk s) : nx (tur g s) = crX g ∧ ny (tur g s) = crY g ∧ nz (tur g s) = crZ g := by
  unfold sdOk at hs
  rcases hs with rfl | rfl | rfl | rfl <;>
  (refine ⟨?_, ?_, ?_⟩ <;> simp [nx, ny, nz, crX, crY, crZ, tur, qua] <;>
    (apply m_strip
     case h => with_reducible repeat' first | apply m_wrap | apply m_add | apply m_sub | apply m_neg | apply m_mul | apply m_refl
     case k => with_reducible repeat' first | apply m_wrap | apply m_add | apply m_sub | apply m_neg | apply m_mul | apply m_refl
     case e => grind))
theorem al_neg (a : Int) : al 0 (-1) a = wrap64 (-1 * a) := by rw [al_w, Int.zero_add]
theorem fl_eq {g : Fc} {f : Fl} (b : Bool) (hg : Wf g) (hs : sdOk f.sd) (ha : anOk f.an) : flC g f b = flR g f b := by
  obtain ⟨o1, o2, o3⟩ := tur_o (g := g) f.o hs
  obtain ⟨⟨u1, u2, u3⟩, v1, v2, v3⟩ := tur_uv hg hs
  obtain ⟨n1, n2, n3⟩ := tur_n (g := g) hs
  unfold flC flR
  rw [o1, o2, o3, u1, u2, u3]
  have hn : nextC (tur g f.sd) f.an b = (nextR f.an b (crX g) (awy f.sd g.ux g.vx), nextR f.an b (crY g) (awy f.sd g.uy g.vy), nextR f.an b (crZ g) (awy f.sd g.uz g.vz)) := by
    unfold nextC nextR
    cases b with
    | false => simp only [Bool.false_eq_true, if_false]; rw [v1, v2, v3]
    | true =>
      simp only [if_true]
      unfold bdir
      rw [n1, n2, n3, v1, v2, v3]
      unfold anOk at ha
      rcases ha with h | h | h | h <;> rw [h] <;> simp [al_neg]
  rw [hn]
theorem wf_flR {g : Fc} {f : Fl} (b : Bool) : Wf (flR g f b) := by
  have hn : ∀ {n w : Int}, I64 n → I64 w → I64 (nextR f.an b n w) := by
    intro n w hn hw
    unfold nextR
    split
    · split
      · exact w_I64 _
      · split
        · exact w_I64 _
        · split
          · exact hn
          · exact hw
    · exact hw
  exact ⟨w_I64 _, w_I64 _, w_I64 _, hn (w_I64 _) (w_I64 _), hn (w_I64 _) (w_I64 _), hn (w_I64 _) (w_I64 _)⟩
def fc0 : Fc := ⟨0, 0, 0, 0, 0, 0, 0, 0, 0, 0, 0⟩
def bas (w h : Int) : Fc := ⟨0, 0, 0, 1, 0, 0, 0, 1, 0, w, h⟩
/-- the faces behind k flanges; m tells which are bent -/
def facs (F : Fc → Fl → Bool → Fc) (w h : Int) (l : List Fl) (m : Nat → Bool) : Nat → List Fc
  | 0 => [bas w h]
  | k + 1 => match l[k]? with
    | some f => facs F w h l m k ++ [F ((facs F w h l m k)[f.pa.toNat]?.getD fc0) f (m k)]
    | none => facs F w h l m k
/-- each flange has its side, its angle, and its parent before it -/
def Fit (l : List Fl) : Prop := ∀ (i : Nat) (f : Fl), l[i]? = some f → 0 ≤ f.pa ∧ f.pa ≤ i ∧ sdOk f.sd ∧ anOk f.an
theorem facs_len {F : Fc → Fl → Bool → Fc} {w h : Int} {l : List Fl} {m : Nat → Bool} {k : Nat} (hk : k ≤ l.length) : (facs F w h l m k).length = k + 1 := by
  induction k with
  | zero => rfl
  | succ k ih =>
    have := ih (by omega)
    unfold facs
    rw [List.getElem?_eq_getElem (by omega)]
    simp [this]
theorem facs_succ {F : Fc → Fl → Bool → Fc} {w h : Int} {l : List Fl} {m : Nat → Bool} {k : Nat} {f : Fl} (hf : l[k]? = some f) :
    facs F w h l m (k + 1) = facs F w h l m k ++ [F ((facs F w h l m k)[f.pa.toNat]?.getD fc0) f (m k)] := by
  rw [facs, hf]
theorem facs_eq {w h : Int} {l : List Fl} {m : Nat → Bool} (hl : Fit l) (k : Nat) (hk : k ≤ l.length) :
    facs flC w h l m k = facs flR w h l m k ∧ ∀ g ∈ facs flR w h l m k, Wf g := by
  induction k with
  | zero =>
    refine ⟨rfl, fun g hg => ?_⟩
    obtain rfl : g = bas w h := by simpa [facs] using hg
    exact ⟨by unfold bas I64; dsimp only; decide, by unfold bas I64; dsimp only; decide, by unfold bas I64; dsimp only; decide, by unfold bas I64; dsimp only; decide, by unfold bas I64; dsimp only; decide, by unfold bas I64; dsimp only; decide⟩
  | succ k ih =>
    obtain ⟨e, hw⟩ := ih (by omega)
    obtain ⟨f, hf⟩ : ∃ f, l[k]? = some f := ⟨_, List.getElem?_eq_getElem (by omega)⟩
    obtain ⟨p0, p1, p2, p3⟩ := hl k f hf
    rw [facs_succ hf, facs_succ hf, e]
    have hlen : (facs flR w h l m k).length = k + 1 := facs_len (by omega)
    obtain ⟨g, hg⟩ : ∃ g, (facs flR w h l m k)[f.pa.toNat]? = some g := ⟨_, List.getElem?_eq_getElem (by omega)⟩
    have hgw := hw g (List.mem_of_getElem? hg)
    rw [hg]
    refine ⟨by rw [Option.getD_some, fl_eq _ hgw p2 p3], fun x hx => ?_⟩
    rcases List.mem_append.1 hx with hx | hx
    · exact hw x hx
    · obtain rfl : x = _ := by simpa using hx
      exact wf_flR _
end Go.Proofs.Ytefjgfglommefaa
