/-
  Rationals, plain: reduction, sums, comparison and ticks.
-/
import Derived.Test.YtjnfodbniohkhaaRat1
set_option linter.unusedVariables false
set_option linter.unusedSimpArgs false
namespace Go.Proofs.Ytjnfodbniohkhaa
set_option linter.unusedVariables false
set_option linter.unusedSimpArgs false
open Go Go.ChangeShapes Go.WideShapes Go.ChangeAt Go.RowKit Go.Deep

/-- the greatest common divisor -/
def gn (n d : Int) : Int := (Nat.gcd n.natAbs d.natAbs : Nat)
def rdN (n d : Int) : Int := n.tdiv (gn n d)
def rdD (n d : Int) : Int := d.tdiv (gn n d)
theorem gn_pos {n d : Int} (h : 1 ≤ d) : 1 ≤ gn n d := by
  unfold gn
  have := Nat.gcd_pos_of_pos_right n.natAbs (show 0 < d.natAbs by omega)
  omega
theorem gn_le {n d : Int} (h : 1 ≤ d) : gn n d ≤ d := by
  unfold gn
  have := Nat.gcd_le_right n.natAbs (show 0 < d.natAbs by omega)
  omega
theorem rdN_mul (n d : Int) : rdN n d * gn n d = n := by
  unfold rdN
  exact Int.tdiv_mul_cancel (by unfold gn; exact Int.ofNat_dvd_left.2 (Nat.gcd_dvd_left _ _))
theorem rdD_mul (n d : Int) : rdD n d * gn n d = d := by
  unfold rdD
  exact Int.tdiv_mul_cancel (by unfold gn; exact Int.ofNat_dvd_left.2 (Nat.gcd_dvd_right _ _))
theorem rdD_pos {n d : Int} (h : 1 ≤ d) : 1 ≤ rdD n d := by
  have h1 := gn_pos (n := n) h
  have h2 := rdD_mul n d
  rcases Int.lt_or_le (rdD n d) 1 with h3 | h3
  · exfalso
    have : rdD n d * gn n d ≤ 0 * gn n d := Int.mul_le_mul_of_nonneg_right (by omega) (by omega)
    rw [h2, Int.zero_mul] at this
    omega
  · exact h3
/-- three numbers: those of a rational, and an error -/
abbrev R3 := Int × Int × Int
def redV (n d : Int) : R3 := if raB n d then (rdN n d, rdD n d, 0) else (0, 0, 1)
def adN (a b c d : Int) : Int := a * d + c * b
def adD (b d : Int) : Int := b * d
def addV (a b c d : Int) : R3 := if raB a b && raB c d then (if raB (rdN (adN a b c d) (adD b d)) (rdD (adN a b c d) (adD b d)) then (rdN (adN a b c d) (adD b d), rdD (adN a b c d) (adD b d), 0) else (0, 0, 4)) else (0, 0, 1)
def cmI (p q : Int) : Int := if p < q then -1 else if q < p then 1 else 0
def cmpV (a b c d : Int) : Int × Int := if raB a b && raB c d then (cmI (a * d) (c * b), 0) else (0, 1)
def tikV (n d : Int) : Int × Int := if raB n d then (if (n * 720).tmod d = 0 then ((n * 720).tdiv d, 0) else (0, 5)) else (0, 1)
theorem add_comm' (a b c d : Int) : addV a b c d = addV c d a b := by
  unfold addV
  rw [show adN a b c d = adN c d a b by unfold adN; omega, show adD b d = adD d b by unfold adD; exact Int.mul_comm _ _, Bool.and_comm]
theorem cm_mul {k p q : Int} (h : 0 < k) : cmI (k * p) (k * q) = cmI p q := by
  unfold cmI
  simp only [Int.mul_lt_mul_left h]
theorem cm_add (p q r : Int) : cmI (p + r) (q + r) = cmI p q := by
  unfold cmI
  grind
theorem cm_sum {an ad bn bd cn cd : Int} (h1 : 1 ≤ ad) (h2 : 1 ≤ bd) (h3 : 1 ≤ cd) :
    cmI (rdN (adN an ad bn bd) (adD ad bd) * rdD (adN cn cd bn bd) (adD cd bd)) (rdN (adN cn cd bn bd) (adD cd bd) * rdD (adN an ad bn bd) (adD ad bd)) = cmI (an * cd) (cn * ad) := by
  have d1 : 1 ≤ adD ad bd := Int.mul_pos (by omega) (by omega)
  have d2 : 1 ≤ adD cd bd := Int.mul_pos (by omega) (by omega)
  have e1 := rdN_mul (adN an ad bn bd) (adD ad bd)
  have e2 := rdD_mul (adN an ad bn bd) (adD ad bd)
  have e3 := rdN_mul (adN cn cd bn bd) (adD cd bd)
  have e4 := rdD_mul (adN cn cd bn bd) (adD cd bd)
  have p1 := gn_pos (n := adN an ad bn bd) d1
  have p2 := gn_pos (n := adN cn cd bn bd) d2
  generalize rdN (adN an ad bn bd) (adD ad bd) = x1 at *
  generalize rdD (adN an ad bn bd) (adD ad bd) = y1 at *
  generalize rdN (adN cn cd bn bd) (adD cd bd) = x2 at *
  generalize rdD (adN cn cd bn bd) (adD cd bd) = y2 at *
  generalize gn (adN an ad bn bd) (adD ad bd) = g1 at *
  generalize gn (adN cn cd bn bd) (adD cd bd) = g2 at *
  have hk : 0 < g1 * g2 := Int.mul_pos (by omega) (by omega)
  rw [← cm_mul hk]
  have f1 : g1 * g2 * (x1 * y2) = (bd * bd) * (an * cd) + bn * ad * cd * bd := by
    have : g1 * g2 * (x1 * y2) = (x1 * g1) * (y2 * g2) := by grind
    rw [this, e1, e4]
    unfold adN adD
    grind
  have f2 : g1 * g2 * (x2 * y1) = (bd * bd) * (cn * ad) + bn * ad * cd * bd := by
    have : g1 * g2 * (x2 * y1) = (x2 * g2) * (y1 * g1) := by grind
    rw [this, e3, e2]
    unfold adN adD
    grind
  rw [f1, f2, cm_add]
  exact cm_mul (Int.mul_pos (by omega) (by omega))
theorem tik_mul {n d : Int} (h : (n * 720).tmod d = 0) : (n * 720).tdiv d * d = n * 720 := by
  have := Int.tmod_add_mul_tdiv (n * 720) d
  rw [h, Int.zero_add] at this
  rw [Int.mul_comm]
  exact this
theorem tik_at {n d m : Int} (hd : 1 ≤ d) (h : m * d = n * 720) : (n * 720).tmod d = 0 ∧ (n * 720).tdiv d = m := by
  rw [← h]
  exact ⟨Int.mul_tmod_left _ _, Int.mul_tdiv_cancel _ (by omega)⟩
theorem tik_sum {an ad bn bd m n : Int} (h1 : 1 ≤ ad) (h2 : 1 ≤ bd) (ha : m * ad = an * 720) (hb : n * bd = bn * 720) :
    (m + n) * rdD (adN an ad bn bd) (adD ad bd) = rdN (adN an ad bn bd) (adD ad bd) * 720 := by
  have d1 : 1 ≤ adD ad bd := Int.mul_pos (by omega) (by omega)
  have e1 := rdN_mul (adN an ad bn bd) (adD ad bd)
  have e2 := rdD_mul (adN an ad bn bd) (adD ad bd)
  have p1 := gn_pos (n := adN an ad bn bd) d1
  generalize rdN (adN an ad bn bd) (adD ad bd) = x1 at *
  generalize rdD (adN an ad bn bd) (adD ad bd) = y1 at *
  generalize gn (adN an ad bn bd) (adD ad bd) = g1 at *
  have : g1 * ((m + n) * y1) = g1 * (x1 * 720) := by
    have f1 : g1 * ((m + n) * y1) = (m + n) * (y1 * g1) := by grind
    have f2 : g1 * (x1 * 720) = (x1 * g1) * 720 := by grind
    rw [f1, f2, e1, e2]
    unfold adN adD
    grind
  exact Int.eq_of_mul_eq_mul_left (by omega) this
end Go.Proofs.Ytjnfodbniohkhaa
