/-
  Clash, plain: on sound faces the document's tests and the code's say the same.
-/
import Derived.Test.YtefjgfglommefaaClash5
import Derived.Test.YtefjgfglommefaaClash7
namespace Go.Proofs.Ytefjgfglommefaa
set_option linter.unusedVariables false
set_option linter.unusedSimpArgs false
open Go Go.ChangeShapes Go.WideShapes Go.ChangeAt Go.RowKit Go.Deep

/-- a direction's number: -1, 0 or 1 -/
def uni (u v : Int) : Prop := (u = 0 ∧ v = 0) ∨ ((u = 1 ∨ u = -1) ∧ v = 0) ∨ (u = 0 ∧ (v = 1 ∨ v = -1))
def big (n : Int) : Prop := -1048576 ≤ n ∧ n ≤ 1048576
def size (n : Int) : Prop := 1 ≤ n ∧ n ≤ 1048576
theorem po_at {o a u b v : Int} (ho : big o) (ha : 0 ≤ a ∧ a ≤ 1048576) (hb : 0 ≤ b ∧ b ≤ 1048576) (h : uni u v) : po o a u b v = o + a * u + b * v := by
  unfold big at ho
  unfold po wrap64
  rcases h with ⟨rfl, rfl⟩ | ⟨rfl | rfl, rfl⟩ | ⟨rfl, rfl | rfl⟩ <;> simp only [Int.mul_zero, Int.mul_one, Int.mul_neg] <;> omega
def lowC (o w u h v : Int) : Int := if o + w * u + h * v < o then o + w * u + h * v else o
def higC (o w u h v : Int) : Int := if o < o + w * u + h * v then o + w * u + h * v else o
theorem coordL {o w u h v : Int} (ho : big o) (hw : size w) (hh : size h) (k : uni u v) :
    mn (mn (mn o (po o w u 0 v)) (po o w u h v)) (po o 0 u h v) = lowC o w u h v := by
  have hw' : 0 ≤ w ∧ w ≤ 1048576 := by unfold size at hw; omega
  have hh' : 0 ≤ h ∧ h ≤ 1048576 := by unfold size at hh; omega
  rw [po_at ho hw' (by omega) k, po_at ho hw' hh' k, po_at ho (by omega) hh' k]
  unfold size at hw hh
  unfold lowC mn
  rcases k with ⟨rfl, rfl⟩ | ⟨rfl | rfl, rfl⟩ | ⟨rfl, rfl | rfl⟩ <;> simp only [Int.mul_zero, Int.mul_one, Int.mul_neg, Int.neg_zero] <;> grind
theorem coordH {o w u h v : Int} (ho : big o) (hw : size w) (hh : size h) (k : uni u v) :
    mx (mx (mx o (po o w u 0 v)) (po o w u h v)) (po o 0 u h v) = higC o w u h v := by
  have hw' : 0 ≤ w ∧ w ≤ 1048576 := by unfold size at hw; omega
  have hh' : 0 ≤ h ∧ h ≤ 1048576 := by unfold size at hh; omega
  rw [po_at ho hw' (by omega) k, po_at ho hw' hh' k, po_at ho (by omega) hh' k]
  unfold size at hw hh
  unfold higC mx
  rcases k with ⟨rfl, rfl⟩ | ⟨rfl | rfl, rfl⟩ | ⟨rfl, rfl | rfl⟩ <;> simp only [Int.mul_zero, Int.mul_one, Int.mul_neg, Int.neg_zero] <;> grind
theorem coord_flat {o w u h v : Int} (hw : size w) (hh : size h) (k : uni u v) : lowC o w u h v = higC o w u h v ↔ (u = 0 ∧ v = 0) := by
  unfold size at hw hh
  unfold lowC higC
  rcases k with ⟨rfl, rfl⟩ | ⟨rfl | rfl, rfl⟩ | ⟨rfl, rfl | rfl⟩ <;> simp only [Int.mul_zero, Int.mul_one, Int.mul_neg] <;> grind
theorem coord_le {o w u h v : Int} : lowC o w u h v ≤ higC o w u h v := by
  unfold lowC higC
  grind
theorem lw_at {o w u h v : Int} (ho : big o) (hw : size w) (hh : size h) (k : uni u v) (i : Int) (hi : i < 3) : lw 3 i o (po o w u h v) = lowC o w u h v := by
  unfold size at hw hh
  rw [po_at ho (by omega) (by omega) k]
  unfold lw lowC
  rw [if_pos hi]
theorem hw_at {o w u h v : Int} (ho : big o) (hw' : size w) (hh : size h) (k : uni u v) (i : Int) (hi : i < 3) : hw 3 i o (po o w u h v) = higC o w u h v := by
  unfold size at hw' hh
  rw [po_at ho (by omega) (by omega) k]
  unfold hw higC
  rw [if_pos hi]
/-- the reference's axis of a face's normal -/
def axN (f : Fc) : Int := axI (nx f) (ny f) (nz f)
/-- what a sound face has -/
structure Snd (f : Fc) : Prop where
  ox : big f.ox
  oy : big f.oy
  oz : big f.oz
  w : size f.w
  h : size f.h
  x : uni f.ux f.vx
  y : uni f.uy f.vy
  z : uni f.uz f.vz
  n : axN f = nrm f
  nx : (f.ux = 0 ∧ f.vx = 0) ↔ nrm f = 0
  ny : (f.uy = 0 ∧ f.vy = 0) ↔ nrm f = 1
  nz : (f.uz = 0 ∧ f.vz = 0) ↔ nrm f = 2
theorem ax_cases {x y z : Int} (h : axB x y z = true) : (x = 1 ∧ y = 0 ∧ z = 0) ∨ (x = -1 ∧ y = 0 ∧ z = 0) ∨ (x = 0 ∧ y = 1 ∧ z = 0) ∨ (x = 0 ∧ y = -1 ∧ z = 0) ∨ (x = 0 ∧ y = 0 ∧ z = 1) ∨ (x = 0 ∧ y = 0 ∧ z = -1) := by
  unfold axB axI at h
  grind
theorem snd_of {f : Fc} (hs : soB f = true) : Snd f := by
  simp only [soB, Bool.and_eq_true, Bool.not_eq_true', decide_eq_false_iff_not] at hs
  obtain ⟨⟨⟨⟨⟨s1, s2⟩, s3⟩, s4⟩, s5⟩, s6⟩ := hs
  have c1 := ax_cases s1
  have c2 := ax_cases s2
  clear s1 s2
  have s4' : size f.w := by unfold size; unfold wiB at s4; simp at s4; omega
  have s5' : size f.h := by unfold size; unfold wiB at s5; simp at s5; omega
  have s6' : big f.ox ∧ big f.oy ∧ big f.oz := by unfold big; unfold orgB limB wiB at s6; simp at s6; omega
  clear s4 s5 s6
  obtain ⟨b1, b2, b3⟩ := s6'
  cases f with
  | mk ox oy oz ux uy uz vx vy vz w h =>
    simp only at *
    rcases c1 with ⟨rfl, rfl, rfl⟩ | ⟨rfl, rfl, rfl⟩ | ⟨rfl, rfl, rfl⟩ | ⟨rfl, rfl, rfl⟩ | ⟨rfl, rfl, rfl⟩ | ⟨rfl, rfl, rfl⟩ <;>
    rcases c2 with ⟨rfl, rfl, rfl⟩ | ⟨rfl, rfl, rfl⟩ | ⟨rfl, rfl, rfl⟩ | ⟨rfl, rfl, rfl⟩ | ⟨rfl, rfl, rfl⟩ | ⟨rfl, rfl, rfl⟩ <;>
    first
    | exact absurd (by decide +kernel) s3
    | exact ⟨b1, b2, b3, s4', s5', by simp [uni], by simp [uni], by simp [uni], by unfold axN nrm Go.Proofs.Ytefjgfglommefaa.nx Go.Proofs.Ytefjgfglommefaa.ny Go.Proofs.Ytefjgfglommefaa.nz; dsimp only; decide +kernel, by unfold nrm; dsimp only; decide +kernel, by unfold nrm; dsimp only; decide +kernel, by unfold nrm; dsimp only; decide +kernel⟩
/-- the document's test along an axis -/
def tst (lo hi fr tt : Int) : Bool := !((lo == hi) && !(decide (fr < lo) && decide (lo < tt)) || (fr == tt) && !(decide (lo < fr) && decide (fr < hi))) && !(decide (lo < hi) && decide (fr < tt) && (decide (hi ≤ fr) || decide (tt ≤ lo)))
theorem tst_gap {lo hi fr tt : Int} (h1 : lo ≤ hi) (h2 : fr ≤ tt) (h : ¬ (lo = hi ∧ fr = tt)) : tst lo hi fr tt = gapB lo hi fr tt := by
  rw [Bool.eq_iff_iff]
  unfold tst gapB
  simp
  omega
def clR (a b : Fc) : Bool := soB a && soB b && !(axN a == axN b) && (tst (boL a 0) (boH a 0) (boL b 0) (boH b 0) && tst (boL a 1) (boH a 1) (boL b 1) (boH b 1) && tst (boL a 2) (boH a 2) (boL b 2) (boH b 2))
theorem Snd.lo0 {f : Fc} (s : Snd f) : boL f 0 = lowC f.ox f.w f.ux f.h f.vx ∧ boH f 0 = higC f.ox f.w f.ux f.h f.vx ∧ Go.Proofs.Ytefjgfglommefaa.lo0 f = boL f 0 ∧ hi0 f = boH f 0 := by
  have e1 : boL f 0 = lowC f.ox f.w f.ux f.h f.vx := coordL s.ox s.w s.h s.x
  have e2 : boH f 0 = higC f.ox f.w f.ux f.h f.vx := coordH s.ox s.w s.h s.x
  exact ⟨e1, e2, (lw_at s.ox s.w s.h s.x 0 (by omega)).trans e1.symm, (hw_at s.ox s.w s.h s.x 0 (by omega)).trans e2.symm⟩
theorem Snd.lo1 {f : Fc} (s : Snd f) : boL f 1 = lowC f.oy f.w f.uy f.h f.vy ∧ boH f 1 = higC f.oy f.w f.uy f.h f.vy ∧ Go.Proofs.Ytefjgfglommefaa.lo1 f = boL f 1 ∧ hi1 f = boH f 1 := by
  have e1 : boL f 1 = lowC f.oy f.w f.uy f.h f.vy := coordL s.oy s.w s.h s.y
  have e2 : boH f 1 = higC f.oy f.w f.uy f.h f.vy := coordH s.oy s.w s.h s.y
  exact ⟨e1, e2, (lw_at s.oy s.w s.h s.y 1 (by omega)).trans e1.symm, (hw_at s.oy s.w s.h s.y 1 (by omega)).trans e2.symm⟩
theorem Snd.lo2 {f : Fc} (s : Snd f) : boL f 2 = lowC f.oz f.w f.uz f.h f.vz ∧ boH f 2 = higC f.oz f.w f.uz f.h f.vz ∧ Go.Proofs.Ytefjgfglommefaa.lo2 f = boL f 2 ∧ hi2 f = boH f 2 := by
  have e1 : boL f 2 = lowC f.oz f.w f.uz f.h f.vz := coordL s.oz s.w s.h s.z
  have e2 : boH f 2 = higC f.oz f.w f.uz f.h f.vz := coordH s.oz s.w s.h s.z
  exact ⟨e1, e2, (lw_at s.oz s.w s.h s.z 2 (by omega)).trans e1.symm, (hw_at s.oz s.w s.h s.z 2 (by omega)).trans e2.symm⟩
theorem cl_eq (a b : Fc) : clC a b = clR a b := by
  unfold clC clR
  cases ha : soB a with
  | false => simp
  | true =>
    cases hb : soB b with
    | false => simp
    | true =>
      have sa := snd_of ha
      have sb := snd_of hb
      rw [sa.n, sb.n]
      cases hn : (nrm a == nrm b) with
      | true => simp
      | false =>
        have hn' : nrm a ≠ nrm b := by simpa using hn
        obtain ⟨p1, p2, p3, p4⟩ := sa.lo0
        obtain ⟨q1, q2, q3, q4⟩ := sb.lo0
        obtain ⟨p5, p6, p7, p8⟩ := sa.lo1
        obtain ⟨q5, q6, q7, q8⟩ := sb.lo1
        obtain ⟨p9, p10, p11, p12⟩ := sa.lo2
        obtain ⟨q9, q10, q11, q12⟩ := sb.lo2
        rw [p3, p4, q3, q4, p7, p8, q7, q8, p11, p12, q11, q12]
        rw [tst_gap (by rw [p1, p2]; exact coord_le) (by rw [q1, q2]; exact coord_le) (by rw [p1, p2, q1, q2, coord_flat sa.w sa.h sa.x, coord_flat sb.w sb.h sb.x, sa.nx, sb.nx]; omega)]
        rw [tst_gap (by rw [p5, p6]; exact coord_le) (by rw [q5, q6]; exact coord_le) (by rw [p5, p6, q5, q6, coord_flat sa.w sa.h sa.y, coord_flat sb.w sb.h sb.y, sa.ny, sb.ny]; omega)]
        rw [tst_gap (by rw [p9, p10]; exact coord_le) (by rw [q9, q10]; exact coord_le) (by rw [p9, p10, q9, q10, coord_flat sa.w sa.h sa.z, coord_flat sb.w sb.h sb.z, sa.nz, sb.nz]; omega)]
theorem gap_comm (a b c d : Int) : gapB a b c d = gapB c d a b := by
  unfold gapB
  exact Bool.and_comm _ _
theorem cl_comm (a b : Fc) : clC a b = clC b a := by
  unfold clC
  rw [gap_comm (lo0 a), gap_comm (lo1 a), gap_comm (lo2 a), Bool.and_comm (soB a), BEq.comm (a := nrm a)]
theorem cl_self (a : Fc) : clC a a = false := by
  unfold clC
  simp
theorem clash_any (a b : Fc) (w : World) :
    Calls Try.prog 37 #[fv a, fv b] w fun e w' => e = .returned (.bool (clC a b)) ∧ Gr w w' := by
  cases ha : soB a with
  | false =>
    have : clC a b = false := by unfold clC; simp [ha]
    rw [this]
    exact clash_no a b w (.inl ha)
  | true =>
    cases hb : soB b with
    | false =>
      have : clC a b = false := by unfold clC; simp [hb]
      rw [this]
      exact clash_no a b w (.inr (.inl hb))
    | true =>
      cases hn : (nrm a == nrm b) with
      | true =>
        have : clC a b = false := by unfold clC; rw [hn]; simp
        rw [this]
        exact clash_no a b w (.inr (.inr hn))
      | false =>
        have := clash_yes a b w ha hb hn
        unfold clC
        rw [ha, hb, hn]
        exact this
end Go.Proofs.Ytefjgfglommefaa
