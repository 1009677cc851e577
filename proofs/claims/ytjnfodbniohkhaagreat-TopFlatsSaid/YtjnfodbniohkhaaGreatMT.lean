/-
  Rationals: what both sides' reduction returns.
  Rationals, plain: reduction, sums, comparison and ticks.
  Sums of rationals, plain: what the law of FlatAdds needs.
  Bend tables, plain: which are valid, which deductions they have.
  An argument that is a bend table, opened.
  Rationals: what the functions of both sides return.
  Rationals: the exported functions of both sides; what the law's known returns.
  Rationals: ticks; the law's known; FlatRationals: the walk.
  Bend tables: both sides' Validate.
  Bend tables: the search for an angle, in the code.
  Bend tables: the deduction of an angle, in the code.
  Bend tables: the reference's Validate.
  Bend tables: the deduction of an angle, in the reference.
  Bend tables: the reference's Deduction; FlatTables: the walk.
  Bend tables, plain: the ticks of a deduction.
-/
import Derived.Test.YtjnfodbniohkhaaGreatName3
import Derived.IntWalk
import Derived.Deep.DeepCutAuto
import Derived.StillTactics
import Derived.Test.YtjnfodbniohkhaaGreatOpenPa
import Derived.Test.YtjnfodbniohkhaaGreatTail
import Derived.Laws.StructEq
set_option linter.unusedVariables false
set_option linter.unusedSimpArgs false
namespace Go.Proofs.YtjnfodbniohkhaaGreat
set_option linter.unusedVariables false
set_option linter.unusedSimpArgs false
open Go Go.ChangeShapes Go.WideShapes Go.ChangeAt Go.RowKit Go.Deep

abbrev ra (n d : Int) : Value := .agg #[iv n, iv d]
theorem fwithin_any (n lo hi : Int) (w : World) :
    Calls Tryz.prog 41 #[iv n, iv lo, iv hi] w fun e w' => e = .returned (.bool (wiB n lo hi)) ∧ w = w' := by
  go_enter Tryz.func41, Tryz.ntmps41
  go_wp2
  all_goals
    go_ret
    exact ⟨ret_bool (by simp [wiB]; omega), rfl⟩
theorem ret_iv' {a b : Int} (h : a = b) : Ending.returned (iv a) = .returned (iv b) := by rw [h]
def raB (n d : Int) : Bool := wiB n (-16777216) 16777216 && wiB d 1 4096
theorem raB_iff {n d : Int} : raB n d = true ↔ (-16777216 ≤ n ∧ n ≤ 16777216) ∧ 1 ≤ d ∧ d ≤ 4096 := by simp [raB, wiB]
theorem validRat_any (n d : Int) (w : World) :
    Calls Tryz.prog 39 #[ra n d] w fun e w' => e = .returned (.bool (raB n d)) ∧ Gr w w' := by
  go_enter Tryz.func39, Tryz.ntmps39
  go_wp2_with (go_at_call 41; refine (fwithin_any _ _ _ _).mono ?_; rintro e w1 ⟨rfl, rfl⟩)
  all_goals
    go_ret
    exact ⟨ret_bool (by simp [raB, *]), (by repeat (first | with_reducible exact Gr.refl _ | with_reducible assumption | with_reducible refine Gr.alloc ?_ _ | with_reducible refine Gr.drewN ?_ _ | with_reducible refine Gr.drew ?_ | with_reducible refine Gr.setCell ?_ (by first | (dsimp only; omega) | (simp only [World.size_alloc]; omega) | (with_reducible refine Gr.size ?_; (repeat (first | with_reducible exact Gr.refl _ | with_reducible assumption | with_reducible refine Gr.alloc ?_ _ | with_reducible refine Gr.drewN ?_ _ | with_reducible refine Gr.drew ?_ | with_reducible refine Gr.trans ?_ (by with_reducible assumption))); done)) _ | with_reducible refine Gr.trans ?_ (by with_reducible assumption)))⟩
set_option maxHeartbeats 1000000 in
theorem cd_any (m n : Nat) (w : World) (hn : n ≤ 1099511627776) (hm : m ≤ 1099511627776) :
    Calls Tryz.prog 72 #[iv m, iv n] w fun e w' => e = .returned (iv (Nat.gcd m n : Nat)) ∧ w = w' := by
  go_enter Tryz.func72, Tryz.ntmps72
  go_wp2
  go_loop [0, 1] (fun a b => ∃ (z : Int) (x y : Nat), a = iv z ∧ z = x ∧ b = iv y ∧ x ≤ 1099511627776 ∧ y ≤ 1099511627776 ∧ Hid (Nat.gcd x y = Nat.gcd m n)) (fun a _ => (intOf a).toNat)
  case atStart => exact ⟨m, m, n, rfl, rfl, rfl, hm, hn, rfl⟩
  case round =>
    obtain ⟨z, x, y, rfl, hz, rfl, hx, hy, HG⟩ := hrel
    by_cases h0 : x = 0
    · subst h0
      obtain rfl : z = 0 := by omega
      have HE := hide (show y = Nat.gcd m n by have := HG.out; rwa [Nat.gcd_zero_left] at this)
      clear HG hx hy hz hn hm
      go_wp2
      go_ret
      exact ⟨ret_iv' (by rw [HE.out]), rfl⟩
    · obtain rfl : z = (x : Int) := hz
      go_wp2
      go_round
      case rel => exact ⟨_, y % x, x, rfl, by omega, rfl, by have := Nat.mod_lt y (show 0 < x by omega); omega, hx, by have := HG.out; rw [← Nat.gcd_rec]; exact this⟩
      case measure => simp only [intOf]; have := Nat.mod_lt y (show 0 < x by omega); omega
end Go.Proofs.YtjnfodbniohkhaaGreat
set_option linter.unusedVariables false
set_option linter.unusedSimpArgs false
namespace Go.Proofs.YtjnfodbniohkhaaGreat
set_option linter.unusedVariables false
set_option linter.unusedSimpArgs false
open Go Go.ChangeShapes Go.WideShapes Go.ChangeAt Go.RowKit Go.Deep

/-- the greatest common divisor -/
def gn (n d : Int) : Int := (Nat.gcd n.natAbs d.natAbs : Nat)
def rdN (n d : Int) : Int := n.tdiv (gn n d)
def rdD (n d : Int) : Int := d.tdiv (gn n d)
theorem gn_pos {n d : Int} (h : 1 ≤ d) : 1 ≤ gn n d := by
  unfold gn
  have := Nat.gcd_pos_of_pos_right n.natAbs (show 0 < d.natAbs by omega)
  omega
theorem gn_le {n d : Int} (h : 1 ≤ d) : gn n d ≤ d := by
  unfold gn
  have := Nat.gcd_le_right n.natAbs (show 0 < d.natAbs by omega)
  omega
theorem rdN_mul (n d : Int) : rdN n d * gn n d = n := by
  unfold rdN
  exact Int.tdiv_mul_cancel (by unfold gn; exact Int.ofNat_dvd_left.2 (Nat.gcd_dvd_left _ _))
theorem rdD_mul (n d : Int) : rdD n d * gn n d = d := by
  unfold rdD
  exact Int.tdiv_mul_cancel (by unfold gn; exact Int.ofNat_dvd_left.2 (Nat.gcd_dvd_right _ _))
theorem rdD_pos {n d : Int} (h : 1 ≤ d) : 1 ≤ rdD n d := by
  have h1 := gn_pos (n := n) h
  have h2 := rdD_mul n d
  rcases Int.lt_or_le (rdD n d) 1 with h3 | h3
  · exfalso
    have : rdD n d * gn n d ≤ 0 * gn n d := Int.mul_le_mul_of_nonneg_right (by omega) (by omega)
    rw [h2, Int.zero_mul] at this
    omega
  · exact h3
/-- three numbers: those of a rational, and an error -/
abbrev R3 := Int × Int × Int
def redV (n d : Int) : R3 := if raB n d then (rdN n d, rdD n d, 0) else (0, 0, 1)
def adN (a b c d : Int) : Int := a * d + c * b
def adD (b d : Int) : Int := b * d
def addV (a b c d : Int) : R3 := if raB a b && raB c d then (if raB (rdN (adN a b c d) (adD b d)) (rdD (adN a b c d) (adD b d)) then (rdN (adN a b c d) (adD b d), rdD (adN a b c d) (adD b d), 0) else (0, 0, 4)) else (0, 0, 1)
def cmI (p q : Int) : Int := if p < q then -1 else if q < p then 1 else 0
def cmpV (a b c d : Int) : Int × Int := if raB a b && raB c d then (cmI (a * d) (c * b), 0) else (0, 1)
def tikV (n d : Int) : Int × Int := if raB n d then (if (n * 720).tmod d = 0 then ((n * 720).tdiv d, 0) else (0, 5)) else (0, 1)
theorem add_comm' (a b c d : Int) : addV a b c d = addV c d a b := by
  unfold addV
  rw [show adN a b c d = adN c d a b by unfold adN; omega, show adD b d = adD d b by unfold adD; exact Int.mul_comm _ _, Bool.and_comm]
theorem cm_mul {k p q : Int} (h : 0 < k) : cmI (k * p) (k * q) = cmI p q := by
  unfold cmI
  simp only [Int.mul_lt_mul_left h]
theorem cm_add (p q r : Int) : cmI (p + r) (q + r) = cmI p q := by
  unfold cmI
  grind
theorem cm_sum {an ad bn bd cn cd : Int} (h1 : 1 ≤ ad) (h2 : 1 ≤ bd) (h3 : 1 ≤ cd) :
    cmI (rdN (adN an ad bn bd) (adD ad bd) * rdD (adN cn cd bn bd) (adD cd bd)) (rdN (adN cn cd bn bd) (adD cd bd) * rdD (adN an ad bn bd) (adD ad bd)) = cmI (an * cd) (cn * ad) := by
  have d1 : 1 ≤ adD ad bd := Int.mul_pos (by omega) (by omega)
  have d2 : 1 ≤ adD cd bd := Int.mul_pos (by omega) (by omega)
  have e1 := rdN_mul (adN an ad bn bd) (adD ad bd)
  have e2 := rdD_mul (adN an ad bn bd) (adD ad bd)
  have e3 := rdN_mul (adN cn cd bn bd) (adD cd bd)
  have e4 := rdD_mul (adN cn cd bn bd) (adD cd bd)
  have p1 := gn_pos (n := adN an ad bn bd) d1
  have p2 := gn_pos (n := adN cn cd bn bd) d2
  generalize rdN (adN an ad bn bd) (adD ad bd) = x1 at *
  generalize rdD (adN an ad bn bd) (adD ad bd) = y1 at *
  generalize rdN (adN cn cd bn bd) (adD cd bd) = x2 at *
  generalize rdD (adN cn cd bn bd) (adD cd bd) = y2 at *
  generalize gn (adN an ad bn bd) (adD ad bd) = g1 at *
  generalize gn (adN cn cd bn bd) (adD cd bd) = g2 at *
  have hk : 0 < g1 * g2 := Int.mul_pos (by omega) (by omega)
  rw [← cm_mul hk]
  have f1 : g1 * g2 * (x1 * y2) = (bd * bd) * (an * cd) + bn * ad * cd * bd := by
    have : g1 * g2 * (x1 * y2) = (x1 * g1) * (y2 * g2) := by grind
    rw [this, e1, e4]
    unfold adN adD
    grind
  have f2 : g1 * g2 * (x2 * y1) = (bd * bd) * (cn * ad) + bn * ad * cd * bd := by
    have : g1 * g2 * (x2 * y1) = (x2 * g2) * (y1 * g1) := by grind
    rw [this, e3, e2]
    unfold adN adD
    grind
  rw [f1, f2, cm_add]
  exact cm_mul (Int.mul_pos (by omega) (by omega))
theorem tik_mul {n d : Int} (h : (n * 720).tmod d = 0) : (n * 720).tdiv d * d = n * 720 := by
  have := Int.tmod_add_mul_tdiv (n * 720) d
  rw [h, Int.zero_add] at this
  rw [Int.mul_comm]
  exact this
theorem tik_at {n d m : Int} (hd : 1 ≤ d) (h : m * d = n * 720) : (n * 720).tmod d = 0 ∧ (n * 720).tdiv d = m := by
  rw [← h]
  exact ⟨Int.mul_tmod_left _ _, Int.mul_tdiv_cancel _ (by omega)⟩
theorem tik_sum {an ad bn bd m n : Int} (h1 : 1 ≤ ad) (h2 : 1 ≤ bd) (ha : m * ad = an * 720) (hb : n * bd = bn * 720) :
    (m + n) * rdD (adN an ad bn bd) (adD ad bd) = rdN (adN an ad bn bd) (adD ad bd) * 720 := by
  have d1 : 1 ≤ adD ad bd := Int.mul_pos (by omega) (by omega)
  have e1 := rdN_mul (adN an ad bn bd) (adD ad bd)
  have e2 := rdD_mul (adN an ad bn bd) (adD ad bd)
  have p1 := gn_pos (n := adN an ad bn bd) d1
  generalize rdN (adN an ad bn bd) (adD ad bd) = x1 at *
  generalize rdD (adN an ad bn bd) (adD ad bd) = y1 at *
  generalize gn (adN an ad bn bd) (adD ad bd) = g1 at *
  have : g1 * ((m + n) * y1) = g1 * (x1 * 720) := by
    have f1 : g1 * ((m + n) * y1) = (m + n) * (y1 * g1) := by grind
    have f2 : g1 * (x1 * 720) = (x1 * g1) * 720 := by grind
    rw [f1, f2, e1, e2]
    unfold adN adD
    grind
  exact Int.eq_of_mul_eq_mul_left (by omega) this
end Go.Proofs.YtjnfodbniohkhaaGreat
set_option linter.unusedVariables false
set_option linter.unusedSimpArgs false
namespace Go.Proofs.YtjnfodbniohkhaaGreat
set_option linter.unusedVariables false
set_option linter.unusedSimpArgs false
open Go Go.ChangeShapes Go.WideShapes Go.ChangeAt Go.RowKit Go.Deep

theorem addV_ok {a b c d x y : Int} (h : addV a b c d = (x, y, 0)) : raB a b = true ∧ raB c d = true ∧ x = rdN (adN a b c d) (adD b d) ∧ y = rdD (adN a b c d) (adD b d) ∧ raB x y = true := by
  unfold addV at h
  split at h
  · rename_i h1
    split at h
    · rename_i h2
      simp only [Prod.mk.injEq] at h
      obtain ⟨rfl, rfl, _⟩ := h
      simp only [Bool.and_eq_true] at h1
      exact ⟨h1.1, h1.2, rfl, rfl, h2⟩
    · simp at h
  · simp at h
theorem cmpV_ok {a b c d s : Int} (h : cmpV a b c d = (s, 0)) : raB a b = true ∧ raB c d = true ∧ s = cmI (a * d) (c * b) := by
  unfold cmpV at h
  split at h
  · rename_i h1
    simp only [Prod.mk.injEq] at h
    simp only [Bool.and_eq_true] at h1
    exact ⟨h1.1, h1.2, h.1.symm⟩
  · simp at h
theorem tikV_ok {n d m : Int} (h : tikV n d = (m, 0)) : raB n d = true ∧ (n * 720).tmod d = 0 ∧ m = (n * 720).tdiv d := by
  unfold tikV at h
  split at h
  · rename_i h1
    split at h
    · rename_i h2
      simp only [Prod.mk.injEq] at h
      exact ⟨h1, h2, h.1.symm⟩
    · simp at h
  · simp at h
theorem adds_cmp {a b c d p q x1 x2 z1 z2 s : Int} (h1 : addV a b c d = (x1, x2, 0)) (h2 : addV p q c d = (z1, z2, 0)) (h3 : cmpV a b p q = (s, 0)) : cmpV x1 x2 z1 z2 = (s, 0) := by
  obtain ⟨r1, r2, e1, e2, r3⟩ := addV_ok h1
  obtain ⟨r4, r5, e3, e4, r6⟩ := addV_ok h2
  obtain ⟨_, _, e5⟩ := cmpV_ok h3
  obtain ⟨_, b1⟩ := raB_iff.1 r1
  obtain ⟨_, b2⟩ := raB_iff.1 r2
  obtain ⟨_, b4⟩ := raB_iff.1 r4
  unfold cmpV
  rw [r3, r6, e5, e1, e2, e3, e4]
  simp only [Bool.and_self, if_true]
  rw [cm_sum (by omega) (by omega) (by omega)]
theorem adds_tik {a b c d x1 x2 m n : Int} (h1 : addV a b c d = (x1, x2, 0)) (h2 : tikV a b = (m, 0)) (h3 : tikV c d = (n, 0)) : tikV x1 x2 = (m + n, 0) ∧ -9223372036854775808 ≤ m + n ∧ m + n ≤ 9223372036854775807 := by
  obtain ⟨r1, r2, e1, e2, r3⟩ := addV_ok h1
  obtain ⟨_, t1, t2⟩ := tikV_ok h2
  obtain ⟨_, t3, t4⟩ := tikV_ok h3
  obtain ⟨a1, b1⟩ := raB_iff.1 r1
  obtain ⟨a2, b2⟩ := raB_iff.1 r2
  have k1 := tik_mul t1
  have k2 := tik_mul t3
  rw [← t2] at k1
  rw [← t4] at k2
  have hs := tik_sum (an := a) (ad := b) (bn := c) (bd := d) b1.1 b2.1 k1 k2
  rw [← e1, ← e2] at hs
  obtain ⟨_, b3⟩ := raB_iff.1 r3
  obtain ⟨u1, u2⟩ := tik_at b3.1 hs
  have bm : ∀ {u v k : Int}, k * v = u * 720 → (-16777216 ≤ u ∧ u ≤ 16777216) → 1 ≤ v → -12079595520 ≤ k ∧ k ≤ 12079595520 := by
    intro u v k h hu hv
    have e : k = (u * 720).tdiv v := by rw [← h, Int.mul_tdiv_cancel _ (by omega)]
    have e2 := tdiv_eq_if (u * 720) v
    have q1 := Int.ediv_le_self (a := u * 720) v
    have q2 := Int.ediv_le_self (a := -(u * 720)) v
    have q3 := @Int.ediv_nonneg (u * 720) v
    have q4 := @Int.ediv_nonneg (-(u * 720)) v
    rw [e, e2]
    split
    · have := q1 (by omega); have := q3 (by omega) (by omega); omega
    · have := q2 (by omega); have := q4 (by omega) (by omega); omega
  have v1 := bm k1 a1 b1.1
  have v2 := bm k2 a2 b2.1
  refine ⟨?_, by omega, by omega⟩
  unfold tikV
  rw [r3, if_pos rfl, if_pos u1, u2]
end Go.Proofs.YtjnfodbniohkhaaGreat
set_option linter.unusedVariables false
set_option linter.unusedSimpArgs false
namespace Go.Proofs.YtjnfodbniohkhaaGreat
set_option linter.unusedVariables false
set_option linter.unusedSimpArgs false
open Go Go.ChangeShapes Go.WideShapes Go.ChangeAt Go.RowKit Go.Deep

/-- An entry. -/
structure En where
  an : Int
  nm : Int
  dn : Int
/-- A table. -/
structure Tb where
  mt : ByteArray
  ga : Int
  di : Int
  en : List En
def a6B (a : Int) : Bool := decide (a = 30) || decide (a = 60) || decide (a = 90) || decide (a = 120) || decide (a = 150) || decide (a = 180)
def dnB (n : Int) : Bool := decide (n = 1) || decide (n = 2) || decide (n = 3) || decide (n = 4) || decide (n = 6) || decide (n = 12)
theorem a6B_iff {a : Int} : a6B a = true ↔ a = 30 ∨ a = 60 ∨ a = 90 ∨ a = 120 ∨ a = 150 ∨ a = 180 := by
  unfold a6B
  simp [or_assoc]
theorem dnB_iff {a : Int} : dnB a = true ↔ a = 1 ∨ a = 2 ∨ a = 3 ∨ a = 4 ∨ a = 6 ∨ a = 12 := by
  unfold dnB
  simp [or_assoc]
theorem a6_mod {a : Int} : a6B a = true ↔ (30 ≤ a ∧ a ≤ 180) ∧ a % 30 = 0 := by
  rw [a6B_iff]
  omega
theorem dn_mod {a : Int} : dnB a = true ↔ (1 ≤ a ∧ a ≤ 12) ∧ 12 % a = 0 := by
  rw [dnB_iff]
  constructor
  · rintro (rfl | rfl | rfl | rfl | rfl | rfl) <;> decide
  · rintro ⟨⟨h1, h2⟩, h3⟩
    rcases (by omega : a = 1 ∨ a = 2 ∨ a = 3 ∨ a = 4 ∨ a = 5 ∨ a = 6 ∨ a = 7 ∨ a = 8 ∨ a = 9 ∨ a = 10 ∨ a = 11 ∨ a = 12) with rfl | rfl | rfl | rfl | rfl | rfl | rfl | rfl | rfl | rfl | rfl | rfl <;> first | omega | (exfalso; revert h3; decide)
def enB (x : En) : Bool := a6B x.an && dnB x.dn && wiB x.nm 0 (20 * x.dn)
/-- an entry is right behind one of angle l -/
def etB (l : Int) (x : En) : Bool := decide (l < x.an) && enB x
/-- the angle ahead of entry k -/
def laI (l : List En) (k : Nat) : Int := if k = 0 then 0 else ((l[k-1]?).map En.an).getD 0
/-- the first n entries are right -/
def okB (l : List En) : Nat → Bool
  | 0 => true
  | k + 1 => okB l k && (match l[k]? with
    | some x => etB (laI l k) x
    | none => true)
theorem okB_at {l : List En} {k : Nat} {x : En} (hx : l[k]? = some x) : okB l (k + 1) = (okB l k && etB (laI l k) x) := by
  rw [okB, hx]
theorem okB_stop {l : List En} {k : Nat} {x : En} (hx : l[k]? = some x) (h : etB (laI l k) x = false) : ∀ {n : Nat}, k < n → okB l n = false
  | 0, hk => by omega
  | n + 1, hk => by
    rcases Nat.lt_or_ge k n with h1 | h1
    · unfold okB
      rw [okB_stop hx h h1]
      rfl
    · obtain rfl : k = n := by omega
      rw [okB_at hx, h, Bool.and_false]
theorem okB_use {l : List En} : ∀ {n : Nat}, okB l n = true → ∀ {k : Nat} {x : En}, k < n → l[k]? = some x → etB (laI l k) x = true
  | 0, _, k, x, hk, _ => by omega
  | n + 1, h, k, x, hk, hx => by
    unfold okB at h
    rw [Bool.and_eq_true] at h
    rcases Nat.lt_or_ge k n with h1 | h1
    · exact okB_use h.1 h1 hx
    · obtain rfl : k = n := by omega
      have := h.2
      rwa [hx] at this
def hdB (t : Tb) : Bool := nameB t.mt.toList && wiB t.ga 1 60 && wiB t.di 1 1000 && wiB t.en.length 1 6
/-- the error of a table -/
def tbE (t : Tb) : Int := if hdB t && okB t.en t.en.length then 0 else 9
theorem tbE_cases (t : Tb) : tbE t = 0 ∨ tbE t = 9 := by
  unfold tbE
  split <;> simp
theorem tbE_ok {t : Tb} (h : tbE t = 0) : hdB t = true ∧ okB t.en t.en.length = true := by
  unfold tbE at h
  split at h
  · rename_i h1
    simpa using h1
  · cases h
theorem hdB_len {t : Tb} (h : hdB t = true) : 1 ≤ t.en.length ∧ t.en.length ≤ 6 := by
  unfold hdB at h
  simp only [Bool.and_eq_true, wiB_iff] at h
  omega
/-- what a right entry has -/
theorem enB_use {x : En} (h : enB x = true) : (30 ≤ x.an ∧ x.an ≤ 180) ∧ (x.dn = 1 ∨ x.dn = 2 ∨ x.dn = 3 ∨ x.dn = 4 ∨ x.dn = 6 ∨ x.dn = 12) ∧ 0 ≤ x.nm ∧ x.nm ≤ 20 * x.dn := by
  unfold enB at h
  simp only [Bool.and_eq_true, wiB_iff, dnB_iff, a6_mod] at h
  exact ⟨h.1.1.1, h.1.2, h.2⟩
/-- the entries' angles ascend -/
def Asc (l : List En) : Prop := ∀ (i k : Nat) (x y : En), i < k → l[i]? = some x → l[k]? = some y → x.an < y.an
theorem asc_of {l : List En} (h : okB l l.length = true) : Asc l := by
  intro i k
  induction k with
  | zero => intro x y hi; omega
  | succ k ih =>
    intro x y hi hx hy
    have hk : k + 1 < l.length := (List.getElem?_eq_some_iff.1 hy).1
    have e := okB_use h hk hy
    unfold etB laI at e
    simp only [Bool.and_eq_true, decide_eq_true_eq, Nat.add_sub_cancel] at e
    rw [if_neg (by omega)] at e
    obtain ⟨z, hz⟩ : ∃ z, l[k]? = some z := ⟨_, List.getElem?_eq_getElem (by omega)⟩
    rw [hz] at e
    have e1 : z.an < y.an := e.1
    rcases Nat.lt_or_ge i k with h1 | h1
    · have := ih x z h1 hx hz
      omega
    · obtain rfl : i = k := by omega
      rw [hx] at hz
      obtain rfl := Option.some.inj hz
      exact e1
theorem en_of {l : List En} (h : okB l l.length = true) {k : Nat} {x : En} (hx : l[k]? = some x) : enB x = true := by
  have e := okB_use h (List.getElem?_eq_some_iff.1 hx).1 hx
  unfold etB at e
  simp only [Bool.and_eq_true] at e
  exact e.2
/-- how many entries have a smaller angle -/
def cutI (l : List En) (a : Int) : Nat := l.findIdx fun x => decide (a ≤ x.an)
theorem cut_le (l : List En) (a : Int) : cutI l a ≤ l.length := List.findIdx_le_length
theorem cut_lt {l : List En} {a : Int} {k : Nat} {x : En} (hk : k < cutI l a) (hx : l[k]? = some x) : x.an < a := by
  have := List.not_of_lt_findIdx (p := fun x : En => decide (a ≤ x.an)) (xs := l) hk
  obtain ⟨h, e⟩ := List.getElem?_eq_some_iff.1 hx
  rw [e] at this
  simp at this
  omega
theorem cut_at {l : List En} {a : Int} {x : En} (hx : l[cutI l a]? = some x) : a ≤ x.an := by
  obtain ⟨h, e⟩ := List.getElem?_eq_some_iff.1 hx
  have := List.findIdx_getElem (p := fun x : En => decide (a ≤ x.an)) (xs := l) (w := h)
  have e' : l[List.findIdx (fun x : En => decide (a ≤ x.an)) l]'h = x := e
  simp only [e'] at this
  simpa using this
theorem cut_gt {l : List En} {a : Int} (hs : Asc l) {k : Nat} {x : En} (hk : cutI l a < k) (hx : l[k]? = some x) : a < x.an := by
  have hkl := (List.getElem?_eq_some_iff.1 hx).1
  obtain ⟨y, hy⟩ : ∃ y, l[cutI l a]? = some y := ⟨_, List.getElem?_eq_getElem (by omega)⟩
  have := cut_at hy
  have := hs _ _ _ _ hk hy hx
  omega
theorem cut_eq {l : List En} {a : Int} {i : Nat} (hi : i ≤ l.length) (h1 : ∀ k x, k < i → l[k]? = some x → x.an < a) (h2 : ∀ k x, i ≤ k → l[k]? = some x → a ≤ x.an) : i = cutI l a := by
  have hc := cut_le l a
  rcases Nat.lt_trichotomy i (cutI l a) with h | h | h
  · obtain ⟨x, hx⟩ : ∃ x, l[i]? = some x := ⟨_, List.getElem?_eq_getElem (by omega)⟩
    have := cut_lt h hx
    have := h2 i x (Nat.le_refl _) hx
    omega
  · exact h
  · obtain ⟨x, hx⟩ : ∃ x, l[cutI l a]? = some x := ⟨_, List.getElem?_eq_getElem (by omega)⟩
    have := cut_at hx
    have := h1 _ x h hx
    omega
def twI (x : En) : Int := (x.nm * 12).tdiv x.dn
def beN (x y : En) (a : Int) : Int := twI x * (y.an - a) + twI y * (a - x.an)
def beD (x y : En) : Int := 12 * (y.an - x.an)
/-- the deduction of an angle in a valid table -/
def dedV (l : List En) (a : Int) : R3 :=
  match l[cutI l a]? with
  | none => (0, 0, 5)
  | some y => if y.an = a then (rdN y.nm y.dn, rdD y.nm y.dn, 0) else
    if cutI l a = 0 then (0, 0, 5) else match l[cutI l a - 1]? with
      | none => (0, 0, 5)
      | some x => (rdN (beN x y a) (beD x y), rdD (beN x y a) (beD x y), 0)
def dedA (t : Tb) (a : Int) : R3 := if tbE t ≠ 0 then (0, 0, tbE t) else if !a6B a then (0, 0, 1) else dedV t.en a
theorem tw_eq {x : En} (h : x.dn = 1 ∨ x.dn = 2 ∨ x.dn = 3 ∨ x.dn = 4 ∨ x.dn = 6 ∨ x.dn = 12) : twI x = x.nm * (12 / x.dn) := by
  unfold twI
  obtain ⟨a, n, d⟩ := x
  simp only at h ⊢
  have key : ∀ q e : Int, q * e = 12 → e ≠ 0 → (n * 12).tdiv e = n * q := by
    intro q e h1 h2
    rw [← h1, ← Int.mul_assoc, Int.mul_tdiv_cancel _ h2]
  rcases h with rfl | rfl | rfl | rfl | rfl | rfl <;> exact key _ _ (by decide) (by decide)
theorem tw_bd {x : En} (h : enB x = true) : 0 ≤ twI x ∧ twI x ≤ 240 := by
  obtain ⟨_, h1, h2, h3⟩ := enB_use h
  rw [tw_eq h1]
  obtain ⟨a, n, d⟩ := x
  simp only at h1 h2 h3 ⊢
  rcases h1 with rfl | rfl | rfl | rfl | rfl | rfl <;> omega
theorem be_ok {x y : En} {a : Int} (hx : enB x = true) (hy : enB y = true) (h1 : x.an < a) (h2 : a < y.an) :
    raB (beN x y a) (beD x y) = true ∧ (0 ≤ beN x y a ∧ beN x y a ≤ 240 * 150) ∧ 12 ≤ beD x y ∧ beD x y ≤ 1800 := by
  obtain ⟨a1, _⟩ := enB_use hx
  obtain ⟨a2, _⟩ := enB_use hy
  have t1 := tw_bd hx
  have t2 := tw_bd hy
  have p1 : 0 ≤ twI x * (y.an - a) := Int.mul_nonneg (by omega) (by omega)
  have p2 : 0 ≤ twI y * (a - x.an) := Int.mul_nonneg (by omega) (by omega)
  have p3 : twI x * (y.an - a) ≤ 240 * (y.an - a) := Int.mul_le_mul_of_nonneg_right t1.2 (by omega)
  have p4 : twI y * (a - x.an) ≤ 240 * (a - x.an) := Int.mul_le_mul_of_nonneg_right t2.2 (by omega)
  have q : (0 ≤ beN x y a ∧ beN x y a ≤ 240 * 150) ∧ 12 ≤ beD x y ∧ beD x y ≤ 1800 := by
    unfold beN beD
    omega
  exact ⟨raB_iff.2 (by omega), q⟩
theorem en_ra {x : En} (h : enB x = true) : raB x.nm x.dn = true ∧ (0 ≤ x.nm ∧ x.nm ≤ 240) ∧ 1 ≤ x.dn ∧ x.dn ≤ 12 := by
  obtain ⟨_, h1, h2, h3⟩ := enB_use h
  exact ⟨raB_iff.2 (by omega), by omega, by omega⟩
end Go.Proofs.YtjnfodbniohkhaaGreat
set_option linter.unusedVariables false
set_option linter.unusedSimpArgs false
namespace Go.Proofs.YtjnfodbniohkhaaGreat
set_option linter.unusedVariables false
set_option linter.unusedSimpArgs false
open Go Go.ChangeShapes Go.WideShapes Go.ChangeAt Go.RowKit Go.Deep

abbrev enL (x : En) : List Value := [iv x.an, iv x.nm, iv x.dn]
abbrev env (x : En) : Value := .agg #[iv x.an, iv x.nm, iv x.dn]
abbrev RdE (w : World) (A : Option Addr) (l : List En) : Prop := RdL w 3 enL A l
theorem RdL.en {w : World} {A : Option Addr} {l : List En} (h : RdL w 3 enL A l) {i : Nat} {f : En} (hi : l[i]? = some f) : ∃ b off, A = some ⟨b, off, none⟩ ∧ w.cell? ⟨b, off + i * 3, none⟩ = some (iv f.an) ∧ w.cell? ⟨b, off + i * 3 + 1, none⟩ = some (iv f.nm) ∧ w.cell? ⟨b, off + i * 3 + 2, none⟩ = some (iv f.dn) := by
  obtain ⟨b, off, e, h0, h1, h2, _⟩ := h i f hi
  exact ⟨b, off, e, h0, h1, h2⟩
abbrev tbv (t : Tb) (A : Option Addr) (c : Nat) : Value := .agg #[.string t.mt, iv t.ga, iv t.di, .slice A t.en.length c]
/-- a slice of entries as an argument has it -/
structure SlE (w : World) (A : Option Addr) (c : Nat) (l : List En) : Prop where
  rd : RdE w A l
  cap : l.length ≤ c
  capB : c ≤ 9223372036854775807
  len : l.length ≤ 1000
theorem SlE.gr {w w' : World} {A : Option Addr} {c : Nat} {l : List En} (h : SlE w A c l) (g : Gr w w') : SlE w' A c l := ⟨h.rd.gr g, h.cap, h.capB, h.len⟩
def EnI (f : En) : Prop := I64 f.an ∧ I64 f.nm ∧ I64 f.dn
theorem cellsEntry : Tryz.prog.cellsOf 88 = 3 := by kernel_rfl
theorem cellsSlE : Tryz.prog.cellsOf 26 = 1 := by kernel_rfl
theorem cellsTab : Tryz.prog.cellsOf 28 = 4 := by kernel_rfl
theorem intsEntry : IntsAt Tryz.prog 88 3 :=
  intsAt_struct (m := 3) (k := 1) Tryz.underlying88 intsInt cellsInt rfl cellsEntry (fun i hi => by
    match i, hi with
    | 0, _ => exact ⟨_, rfl, rfl, rfl⟩
    | 1, _ => exact ⟨_, rfl, rfl, rfl⟩
    | 2, _ => exact ⟨_, rfl, rfl, rfl⟩)
section
variable {H : Type} {enc : TypeId × Value → H} {W : World}
theorem open_entry {n : Nat} {cs : List Value} {x : DataW H × List MemPlace} (h : DataW.trod enc Tryz.prog W 0 (fun _ => true) true n 88 cs = some x) : ∃ f : En, cs = enL f ∧ EnI f := by
  obtain ⟨zs, hl, e, hb⟩ := intsEntry enc W 0 _ _ n _ _ h
  match zs, hl with
  | [a, b, c], _ => exact ⟨⟨a, b, c⟩, e, hb a (by simp), hb b (by simp), hb c (by simp)⟩
set_option maxRecDepth 100000 in
theorem open_tab {base : Nat} {v : Value} {d : DataW H} {ps : List MemPlace} (hv : Value.okWide Tryz.prog W .any base 28 v) (hd : DataW.Trod enc Tryz.prog W 0 (fun _ => true) true 28 v d ps) :
    ∃ (t : Tb) (A : Option Addr) (c : Nat), v = tbv t A c ∧ RdE W A t.en ∧ t.mt.size ≤ maxLen ∧ (∀ f ∈ t.en, EnI f) ∧ (t.en.length ≤ c ∧ c ≤ maxLen) := by
  obtain ⟨cs, rfl, _⟩ := okWide_struct Tryz.underlying28 hv
  obtain ⟨fuel, h⟩ := hd
  simp only [Value.cells] at h
  obtain ⟨xs, m, _, _, hl, hxl, hg⟩ := DataW.trod_struct Tryz.underlying28 h
  rw [cellsTab] at hl
  have hxl : xs.length = 4 := hxl
  have el : ∀ i : Nat, i < 4 → xs[i]? = some (xs[i]?.getD (.nil, [])) := fun i hi => by rw [List.getElem?_eq_getElem (by omega)]; rfl
  have f0 := field_use hg 0 9 0 rfl
  have f1 := field_use hg 1 3 1 rfl
  have f2 := field_use hg 2 3 2 rfl
  have f3 := field_use hg 3 26 3 rfl
  rw [cellsStr, el 0 (by omega)] at f0
  rw [cellsInt, el 1 (by omega)] at f1
  rw [cellsInt, el 2 (by omega)] at f2
  rw [cellsSlE, el 3 (by omega)] at f3
  obtain ⟨cl⟩ := cs
  simp only at hl f0 f1 f2 f3
  match cl, hl with
  | [c0, c1, c2, c3], _ =>
    obtain ⟨s, e0, _, hs⟩ := DataW.trod_string Tryz.underlying9 f0
    obtain ⟨z1, e1, b1⟩ := one_i64 (intsInt enc W 0 _ _ m _ _ f1)
    obtain ⟨z2, e2, b2⟩ := one_i64 (intsInt enc W 0 _ _ m _ _ f2)
    obtain ⟨A, c, l, e3, r, o, n⟩ := open_list (c := enL) (Ok := EnI) Tryz.underlying26 cellsEntry (by omega) (fun h => open_entry h) (fun _ => rfl) f3
    simp at e0 e1 e2 e3
    subst e0 e1 e2 e3
    exact ⟨⟨s, z1, z2, l⟩, A, c, rfl, r, hs, o, n⟩
end
end Go.Proofs.YtjnfodbniohkhaaGreat
set_option linter.unusedVariables false
set_option linter.unusedSimpArgs false
namespace Go.Proofs.YtjnfodbniohkhaaGreat
set_option linter.unusedVariables false
set_option linter.unusedSimpArgs false
open Go Go.ChangeShapes Go.WideShapes Go.ChangeAt Go.RowKit Go.Deep

theorem cd_pos (n d : Int) (w : World) (h0 : 0 ≤ n) (hn : n ≤ 1099511627776) (hd : 1 ≤ d) (hd2 : d ≤ 1099511627776) :
    Calls Tryz.prog 72 #[iv n, iv d] w fun e w' => e = .returned (iv (gn n d)) ∧ w = w' := by
  have := cd_any n.natAbs d.natAbs w (by omega) (by omega)
  rw [show (iv (n.natAbs : Int)) = iv n by congr 1; omega, show (iv (d.natAbs : Int)) = iv d by congr 1; omega] at this
  exact this
theorem cd_neg (n d : Int) (w : World) (h0 : n < 0) (hn : -1099511627776 ≤ n) (hd : 1 ≤ d) (hd2 : d ≤ 1099511627776) :
    Calls Tryz.prog 72 #[iv (-n), iv d] w fun e w' => e = .returned (iv (gn n d)) ∧ w = w' := by
  have := cd_any n.natAbs d.natAbs w (by omega) (by omega)
  rw [show (iv (n.natAbs : Int)) = iv (-n) by congr 1; omega, show (iv (d.natAbs : Int)) = iv d by congr 1; omega] at this
  exact this
set_option maxHeartbeats 1000000 in
theorem reduced_any (n d : Int) (w : World) (hn : -549755813888 ≤ n ∧ n ≤ 549755813888) (hd : 1 ≤ d ∧ d ≤ 16777216) :
    Calls Tryz.prog 51 #[ra n d] w fun e w' => e = .returned (ra (rdN n d) (rdD n d)) ∧ Gr w w' := by
  have hg := gn_pos (n := n) hd.1
  have hg2 := gn_le (n := n) hd.1
  have W1 : IntKind.i64.wrap (n.tdiv (gn n d)) = rdN n d := IntWalk.i64_quo' _ _ (by omega)
  have W2 : IntKind.i64.wrap (d.tdiv (gn n d)) = rdD n d := IntWalk.i64_quo' _ _ (by omega)
  have hz : ¬ gn n d = 0 := by omega
  have hz2 : (gn n d == 0) = false := by simpa using hz
  by_cases h0 : 0 ≤ n
  · have HC := hide (fun w => cd_pos n d w h0 (by omega) (by omega) (by omega))
    have hm : ¬ n < -n := by omega
    generalize gn n d = g at *
    generalize rdN n d = x at *
    generalize rdD n d = y at *
    go_enter Tryz.func51, Tryz.ntmps51
    go_upto_region 1 with fail
    go_wp2_with (go_at_call 72; refine (HC.out _).mono ?_; rintro e w1 ⟨rfl, rfl⟩)
    have GC := @GrW.cell
    refine wp_region_grw_tail _ 9 (by kernel_rfl) (by kernel_rfl) (Gr.refl _) ?_
    simp only [List.take_succ_cons, List.take_zero, List.drop_succ_cons, List.drop_zero]
    repeat (go_big_quiet_step ((first | fail)))
    refine wpQuiet_nil ?_
    intro wq hwq
    obtain ⟨gq, hwq'⟩ := hwq
    subst hwq'
    clear GC
    have gq1 := gq.gr
    generalize gq.w = wq at gq1 ⊢
    obtain ⟨Xq, Yq, cq, fq⟩ := gq1.use
    have sq := gq1.size
    (try simp only [World.size_alloc, World.size_setCell, World.heap_drewN] at sq)
    go_wp2
    refine bodyPost_ret (v := ra x y) (by simp [results, Tryz.results51, go_sem, cq, fq]) rfl ⟨rfl, (by repeat (first | with_reducible exact Gr.refl _ | with_reducible assumption | with_reducible refine Gr.alloc ?_ _ | with_reducible refine Gr.drewN ?_ _ | with_reducible refine Gr.drew ?_ | with_reducible refine Gr.setCell ?_ (by first | (dsimp only; omega) | (simp only [World.size_alloc]; omega) | (with_reducible refine Gr.size ?_; (repeat (first | with_reducible exact Gr.refl _ | with_reducible assumption | with_reducible refine Gr.alloc ?_ _ | with_reducible refine Gr.drewN ?_ _ | with_reducible refine Gr.drew ?_ | with_reducible refine Gr.trans ?_ (by with_reducible assumption))); done)) _ | with_reducible refine Gr.trans ?_ (by with_reducible assumption)))⟩
  · have HC := hide (fun w => cd_neg n d w (by omega) (by omega) (by omega) (by omega))
    have hm : n < -n := by omega
    generalize gn n d = g at *
    generalize rdN n d = x at *
    generalize rdD n d = y at *
    go_enter Tryz.func51, Tryz.ntmps51
    go_upto_region 1 with fail
    go_wp2_with (go_at_call 72; refine (HC.out _).mono ?_; rintro e w1 ⟨rfl, rfl⟩)
    have GC := @GrW.cell
    refine wp_region_grw_tail _ 9 (by kernel_rfl) (by kernel_rfl) (Gr.refl _) ?_
    simp only [List.take_succ_cons, List.take_zero, List.drop_succ_cons, List.drop_zero]
    repeat (go_big_quiet_step ((first | fail)))
    refine wpQuiet_nil ?_
    intro wq hwq
    obtain ⟨gq, hwq'⟩ := hwq
    subst hwq'
    clear GC
    have gq1 := gq.gr
    generalize gq.w = wq at gq1 ⊢
    obtain ⟨Xq, Yq, cq, fq⟩ := gq1.use
    have sq := gq1.size
    (try simp only [World.size_alloc, World.size_setCell, World.heap_drewN] at sq)
    go_wp2
    refine bodyPost_ret (v := ra x y) (by simp [results, Tryz.results51, go_sem, cq, fq]) rfl ⟨rfl, (by repeat (first | with_reducible exact Gr.refl _ | with_reducible assumption | with_reducible refine Gr.alloc ?_ _ | with_reducible refine Gr.drewN ?_ _ | with_reducible refine Gr.drew ?_ | with_reducible refine Gr.setCell ?_ (by first | (dsimp only; omega) | (simp only [World.size_alloc]; omega) | (with_reducible refine Gr.size ?_; (repeat (first | with_reducible exact Gr.refl _ | with_reducible assumption | with_reducible refine Gr.alloc ?_ _ | with_reducible refine Gr.drewN ?_ _ | with_reducible refine Gr.drew ?_ | with_reducible refine Gr.trans ?_ (by with_reducible assumption))); done)) _ | with_reducible refine Gr.trans ?_ (by with_reducible assumption)))⟩
end Go.Proofs.YtjnfodbniohkhaaGreat
set_option linter.unusedVariables false
set_option linter.unusedSimpArgs false
namespace Go.Proofs.YtjnfodbniohkhaaGreat
set_option linter.unusedVariables false
set_option linter.unusedSimpArgs false
open Go Go.ChangeShapes Go.WideShapes Go.ChangeAt Go.RowKit Go.Deep

theorem ret_pr {a b c d : Int} (h : a = b) (k : c = d) : Ending.returned (.tuple #[iv a, iv c]) = .returned (.tuple #[iv b, iv d]) := by rw [h, k]
theorem cm_cases (p q : Int) : (p < q ∧ cmI p q = -1) ∨ (q < p ∧ cmI p q = 1) ∨ (p = q ∧ cmI p q = 0) := by
  unfold cmI
  split
  · exact .inl ⟨by assumption, rfl⟩
  · split
    · exact .inr (.inl ⟨by assumption, rfl⟩)
    · exact .inr (.inr ⟨by omega, rfl⟩)
theorem mul_bd {a d A D : Int} (h1 : -A ≤ a ∧ a ≤ A) (h2 : 1 ≤ d ∧ d ≤ D) (hA : 0 ≤ A) : -(A * D) ≤ a * d ∧ a * d ≤ A * D := by
  have e1 : a * d ≤ A * d := Int.mul_le_mul_of_nonneg_right h1.2 (by omega)
  have e2 : A * d ≤ A * D := Int.mul_le_mul_of_nonneg_left h2.2 hA
  have e3 : -A * d ≤ a * d := Int.mul_le_mul_of_nonneg_right h1.1 (by omega)
  rw [Int.neg_mul] at e3
  omega
theorem mul_bp {a d A D : Int} (h1 : 1 ≤ a ∧ a ≤ A) (h2 : 1 ≤ d ∧ d ≤ D) : 1 ≤ a * d ∧ a * d ≤ A * D := by
  have e1 : a * d ≤ A * d := Int.mul_le_mul_of_nonneg_right h1.2 (by omega)
  have e2 : A * d ≤ A * D := Int.mul_le_mul_of_nonneg_left h2.2 (by omega)
  have e3 : 0 < a * d := Int.mul_pos (by omega) (by omega)
  omega
abbrev trV (p : R3) : Value := .tuple #[ra p.1 p.2.1, iv p.2.2]
abbrev prV (p : Int × Int) : Value := .tuple #[iv p.1, iv p.2]
theorem Reduce_any (n d : Int) (w : World) :
    Calls Tryz.prog 21 #[ra n d] w fun e w' => e = .returned (trV (redV n d)) ∧ Gr w w' := by
  by_cases h : raB n d = true
  · rw [show redV n d = (rdN n d, rdD n d, 0) by simp [redV, h]]
    obtain ⟨h1, h2⟩ := raB_iff.1 h
    have HR := hide (fun w => reduced_any n d w (by omega) (by omega))
    generalize rdN n d = x at *
    generalize rdD n d = y at *
    go_enter Tryz.func21, Tryz.ntmps21
    go_wp2_with (first | (go_at_call 39; refine (validRat_any _ _ _).mono ?_; rintro e w1 ⟨rfl, g1⟩; obtain ⟨X1, Y1, c1, f1⟩ := g1.use; have z1 := g1.size; (try simp only [World.size_alloc, World.size_setCell, World.heap_drewN, Nat.add_one_le_iff] at z1); (try have l0 : w.heap.size < w1.heap.size := by omega); (try have l1 : w.heap.size + 1 < w1.heap.size := by omega); (try have l2 : w.heap.size + 1 + 1 < w1.heap.size := by omega)) | (go_at_call 51; refine (HR.out _).mono ?_; rintro e w1 ⟨rfl, g1⟩; obtain ⟨X1, Y1, c1, f1⟩ := g1.use; have z1 := g1.size; (try simp only [World.size_alloc, World.size_setCell, World.heap_drewN, Nat.add_one_le_iff] at z1); (try have l0 : w.heap.size < w1.heap.size := by omega); (try have l1 : w.heap.size + 1 < w1.heap.size := by omega); (try have l2 : w.heap.size + 1 + 1 < w1.heap.size := by omega)))
    refine bodyPost_ret (v := trV (x, y, 0)) (by simp [results, Tryz.results21, go_sem, *]) rfl ⟨rfl, (by repeat (first | with_reducible exact Gr.refl _ | with_reducible assumption | with_reducible refine Gr.alloc ?_ _ | with_reducible refine Gr.drewN ?_ _ | with_reducible refine Gr.drew ?_ | with_reducible refine Gr.setCell ?_ (by first | (dsimp only; omega) | (simp only [World.size_alloc]; omega) | (with_reducible refine Gr.size ?_; (repeat (first | with_reducible exact Gr.refl _ | with_reducible assumption | with_reducible refine Gr.alloc ?_ _ | with_reducible refine Gr.drewN ?_ _ | with_reducible refine Gr.drew ?_ | with_reducible refine Gr.trans ?_ (by with_reducible assumption))); done)) _ | with_reducible refine Gr.trans ?_ (by with_reducible assumption)))⟩
  · have h' : raB n d = false := by simpa using h
    rw [show redV n d = (0, 0, 1) by simp [redV, h']]
    clear h
    go_enter Tryz.func21, Tryz.ntmps21
    go_wp2_with (first | (go_at_call 39; refine (validRat_any _ _ _).mono ?_; rintro e w1 ⟨rfl, g1⟩; obtain ⟨X1, Y1, c1, f1⟩ := g1.use; have z1 := g1.size; (try simp only [World.size_alloc, World.size_setCell, World.heap_drewN, Nat.add_one_le_iff] at z1); (try have l0 : w.heap.size < w1.heap.size := by omega); (try have l1 : w.heap.size + 1 < w1.heap.size := by omega); (try have l2 : w.heap.size + 1 + 1 < w1.heap.size := by omega)))
    refine bodyPost_ret (v := trV (0, 0, 1)) (by simp [results, Tryz.results21, go_sem, *]) rfl ⟨rfl, (by repeat (first | with_reducible exact Gr.refl _ | with_reducible assumption | with_reducible refine Gr.alloc ?_ _ | with_reducible refine Gr.drewN ?_ _ | with_reducible refine Gr.drew ?_ | with_reducible refine Gr.setCell ?_ (by first | (dsimp only; omega) | (simp only [World.size_alloc]; omega) | (with_reducible refine Gr.size ?_; (repeat (first | with_reducible exact Gr.refl _ | with_reducible assumption | with_reducible refine Gr.alloc ?_ _ | with_reducible refine Gr.drewN ?_ _ | with_reducible refine Gr.drew ?_ | with_reducible refine Gr.trans ?_ (by with_reducible assumption))); done)) _ | with_reducible refine Gr.trans ?_ (by with_reducible assumption)))⟩
theorem isNaN_any (x : Int) (w : World) :
    Calls Tryz.prog 64 #[iv x] w fun e w' => e = .returned (.bool false) ∧ w = w' := by
  go_enter Tryz.func64, Tryz.ntmps64
  go_wp2
  go_ret
  exact ⟨rfl, rfl⟩
theorem cmpC_any (x y : Int) (w : World) :
    Calls Tryz.prog 37 #[iv x, iv y] w fun e w' => e = .returned (iv (cmI x y)) ∧ w = w' := by
  go_enter Tryz.func37, Tryz.ntmps37
  go_wp2_with (go_at_call 64; refine (isNaN_any _ _).mono ?_; rintro e w1 ⟨rfl, rfl⟩)
  all_goals
    go_ret
    exact ⟨ret_iv' (by unfold cmI; grind), rfl⟩
end Go.Proofs.YtjnfodbniohkhaaGreat
set_option linter.unusedVariables false
set_option linter.unusedSimpArgs false
namespace Go.Proofs.YtjnfodbniohkhaaGreat
set_option linter.unusedVariables false
set_option linter.unusedSimpArgs false
open Go Go.ChangeShapes Go.WideShapes Go.ChangeAt Go.RowKit Go.Deep

set_option maxHeartbeats 1000000 in
theorem Ticks_any (n d : Int) (w : World) :
    Calls Tryz.prog 17 #[ra n d] w fun e w' => e = .returned (prV (tikV n d)) ∧ Gr w w' := by
  by_cases h : raB n d = true
  · obtain ⟨h1, h2⟩ := raB_iff.1 h
    have W1 : IntKind.i64.wrap (n * 720) = n * 720 := IntWalk.i64_in _ (by omega)
    have W2 : IntKind.i64.wrap ((n * 720).tdiv d) = (n * 720).tdiv d := IntWalk.i64_quo' _ _ (by omega)
    have hz : ¬ d = 0 := by omega
    have hz2 : (d == 0) = false := by simpa using hz
    have E := hide (show tikV n d = if (n * 720).tmod d = 0 then ((n * 720).tdiv d, 0) else (0, 5) by simp [tikV, h])
    generalize hm : (n * 720).tmod d = m at *
    generalize hq : (n * 720).tdiv d = q at *
    clear h1 h2
    by_cases k : m = 0
    · rw [E.out, if_pos k]
      go_enter Tryz.func17, Tryz.ntmps17
      go_wp2_with (first | (go_at_call 39; refine (validRat_any _ _ _).mono ?_; rintro e w1 ⟨rfl, g1⟩; obtain ⟨X1, Y1, c1, f1⟩ := g1.use; have z1 := g1.size; (try simp only [World.size_alloc, World.size_setCell, World.heap_drewN, Nat.add_one_le_iff] at z1); (try have l0 : w.heap.size < w1.heap.size := by omega); (try have l1 : w.heap.size + 1 < w1.heap.size := by omega); (try have l2 : w.heap.size + 1 + 1 < w1.heap.size := by omega)))
      go_ret2
      exact ⟨rfl, (by repeat (first | with_reducible exact Gr.refl _ | with_reducible assumption | with_reducible refine Gr.alloc ?_ _ | with_reducible refine Gr.drewN ?_ _ | with_reducible refine Gr.drew ?_ | with_reducible refine Gr.setCell ?_ (by first | (dsimp only; omega) | (simp only [World.size_alloc]; omega) | (with_reducible refine Gr.size ?_; (repeat (first | with_reducible exact Gr.refl _ | with_reducible assumption | with_reducible refine Gr.alloc ?_ _ | with_reducible refine Gr.drewN ?_ _ | with_reducible refine Gr.drew ?_ | with_reducible refine Gr.trans ?_ (by with_reducible assumption))); done)) _ | with_reducible refine Gr.trans ?_ (by with_reducible assumption)))⟩
    · rw [E.out, if_neg k]
      go_enter Tryz.func17, Tryz.ntmps17
      go_wp2_with (first | (go_at_call 39; refine (validRat_any _ _ _).mono ?_; rintro e w1 ⟨rfl, g1⟩; obtain ⟨X1, Y1, c1, f1⟩ := g1.use; have z1 := g1.size; (try simp only [World.size_alloc, World.size_setCell, World.heap_drewN, Nat.add_one_le_iff] at z1); (try have l0 : w.heap.size < w1.heap.size := by omega); (try have l1 : w.heap.size + 1 < w1.heap.size := by omega); (try have l2 : w.heap.size + 1 + 1 < w1.heap.size := by omega)))
      go_ret2
      exact ⟨rfl, (by repeat (first | with_reducible exact Gr.refl _ | with_reducible assumption | with_reducible refine Gr.alloc ?_ _ | with_reducible refine Gr.drewN ?_ _ | with_reducible refine Gr.drew ?_ | with_reducible refine Gr.setCell ?_ (by first | (dsimp only; omega) | (simp only [World.size_alloc]; omega) | (with_reducible refine Gr.size ?_; (repeat (first | with_reducible exact Gr.refl _ | with_reducible assumption | with_reducible refine Gr.alloc ?_ _ | with_reducible refine Gr.drewN ?_ _ | with_reducible refine Gr.drew ?_ | with_reducible refine Gr.trans ?_ (by with_reducible assumption))); done)) _ | with_reducible refine Gr.trans ?_ (by with_reducible assumption)))⟩
  · have h' : raB n d = false := by simpa using h
    rw [show tikV n d = (0, 1) by simp [tikV, h']]
    clear h
    go_enter Tryz.func17, Tryz.ntmps17
    go_wp2_with (first | (go_at_call 39; refine (validRat_any _ _ _).mono ?_; rintro e w1 ⟨rfl, g1⟩; obtain ⟨X1, Y1, c1, f1⟩ := g1.use; have z1 := g1.size; (try simp only [World.size_alloc, World.size_setCell, World.heap_drewN, Nat.add_one_le_iff] at z1); (try have l0 : w.heap.size < w1.heap.size := by omega); (try have l1 : w.heap.size + 1 < w1.heap.size := by omega); (try have l2 : w.heap.size + 1 + 1 < w1.heap.size := by omega)))
    go_ret2
    exact ⟨rfl, (by repeat (first | with_reducible exact Gr.refl _ | with_reducible assumption | with_reducible refine Gr.alloc ?_ _ | with_reducible refine Gr.drewN ?_ _ | with_reducible refine Gr.drew ?_ | with_reducible refine Gr.setCell ?_ (by first | (dsimp only; omega) | (simp only [World.size_alloc]; omega) | (with_reducible refine Gr.size ?_; (repeat (first | with_reducible exact Gr.refl _ | with_reducible assumption | with_reducible refine Gr.alloc ?_ _ | with_reducible refine Gr.drewN ?_ _ | with_reducible refine Gr.drew ?_ | with_reducible refine Gr.trans ?_ (by with_reducible assumption))); done)) _ | with_reducible refine Gr.trans ?_ (by with_reducible assumption)))⟩
theorem sRat : Tryz.prog.underlying 54 = some (.struct (Tryz.prog.fieldsOf 54)) := by kernel_rfl
theorem pRat : Tryz.prog.stoodInHeld 54 = false := by kernel_rfl
theorem gRat : Tryz.prog.eqGuardType Tryz.prog.depth 54 = false := by kernel_rfl
theorem eqInRat (d : Nat) (a b x y : Int) (w : World) : (Op.equalIn (d + 2) 54 (ra a b) (ra x y)).run Tryz.prog w = .ok (a == x && b == y) w := by
  have u3 := Tryz.underlying3
  have a3 := Tryz.isAgg3
  have z3 := Tryz.sizeOf3
  rw [run_equalIn_agg w (d + 1) 54 _ _ sRat pRat]
  simp only [Program.fieldsOf, Tryz.underlying54]
  go_simp
  by_cases h1 : a = x <;> by_cases h2 : b = y <;> simp [h1, h2]
theorem eqRat (a b x y : Int) (w : World) : (Op.equalIn 10000 54 (ra a b) (ra x y)).run Tryz.prog w = .ok (a == x && b == y) w := eqInRat 9998 a b x y w
theorem eqRat1 (a b : Int) (w : World) : (Op.equalIn 10000 54 (ra a b) (ra a b)).run Tryz.prog w = .ok true w := by
  have := eqRat a b a b w
  simpa using this
set_option maxHeartbeats 1000000 in
theorem known3_any (w : World) : Calls Tryz.prog 7 #[] w fun e w' => e = .returned (.bool true) ∧ Gr w w' := by
  have h1 := fun w => Reduce_any 14 4 w
  rw [show redV 14 4 = (7, 2, 0) from by decide +kernel] at h1
  have h2 := fun w => Ticks_any 7 2 w
  rw [show tikV 7 2 = (2520, 0) from by decide +kernel] at h2
  have H1 := hide h1
  have H2 := hide h2
  clear h1 h2
  have NEQ := fun w => eqRat1 7 2 w
  have GP := gRat
  go_enter Tryz.func7, Tryz.ntmps7
  go_wp2_with fail
  refine (H1.out _).mono ?_
  rintro e w1 ⟨rfl, g1⟩
  obtain ⟨X1, Y1, c1, f1⟩ := g1.use
  go_wp2_with fail
  refine (H2.out _).mono ?_
  rintro e w2 ⟨rfl, g2⟩
  obtain ⟨X2, Y2, c2, f2⟩ := g2.use
  have l2 : w1.heap.size < w2.heap.size := by have := g2.size; simp only [World.size_alloc, World.size_setCell] at this; omega
  go_wp2_with fail
  go_ret
  exact ⟨rfl, (by repeat (first | with_reducible exact Gr.refl _ | with_reducible assumption | with_reducible refine Gr.alloc ?_ _ | with_reducible refine Gr.drewN ?_ _ | with_reducible refine Gr.drew ?_ | with_reducible refine Gr.setCell ?_ (by first | (dsimp only; omega) | (simp only [World.size_alloc]; omega) | (with_reducible refine Gr.size ?_; (repeat (first | with_reducible exact Gr.refl _ | with_reducible assumption | with_reducible refine Gr.alloc ?_ _ | with_reducible refine Gr.drewN ?_ _ | with_reducible refine Gr.drew ?_ | with_reducible refine Gr.trans ?_ (by with_reducible assumption))); done)) _ | with_reducible refine Gr.trans ?_ (by with_reducible assumption)))⟩
end Go.Proofs.YtjnfodbniohkhaaGreat
set_option linter.unusedVariables false
set_option linter.unusedSimpArgs false
namespace Go.Proofs.YtjnfodbniohkhaaGreat
set_option linter.unusedVariables false
set_option linter.unusedSimpArgs false
open Go Go.ChangeShapes Go.WideShapes Go.ChangeAt Go.RowKit Go.Deep

theorem fvalidAngle_any (n : Int) (w : World) :
    Calls Tryz.prog 34 #[iv n] w fun e w' => e = .returned (.bool (a6B n)) ∧ w = w' := by
  go_enter Tryz.func34, Tryz.ntmps34
  go_wp2
  all_goals
    go_ret
    exact ⟨ret_bool (by unfold a6B; simp at *; omega), rfl⟩
theorem validDen_any (n : Int) (w : World) :
    Calls Tryz.prog 84 #[iv n] w fun e w' => e = .returned (.bool (dnB n)) ∧ w = w' := by
  go_enter Tryz.func84, Tryz.ntmps84
  go_wp2
  all_goals
    go_ret
    exact ⟨ret_bool (by unfold dnB; simp at *; omega), rfl⟩
theorem validEntry_any (x : En) (w : World) :
    Calls Tryz.prog 63 #[env x] w fun e w' => e = .returned (.bool (enB x)) ∧ Gr w w' := by
  cases h : dnB x.dn with
  | false =>
    go_enter Tryz.func63, Tryz.ntmps63
    go_wp2_with (first | (go_at_call 34; refine (fvalidAngle_any _ _).mono ?_; rintro e w1 ⟨rfl, rfl⟩) | (go_at_call 84; refine (validDen_any _ _).mono ?_; rintro e w1 ⟨rfl, rfl⟩))
    all_goals
      go_ret
      exact ⟨ret_bool (by unfold enB; simp [*]), (by repeat (first | with_reducible exact Gr.refl _ | with_reducible assumption | with_reducible refine Gr.alloc ?_ _ | with_reducible refine Gr.drewN ?_ _ | with_reducible refine Gr.drew ?_ | with_reducible refine Gr.setCell ?_ (by first | (dsimp only; omega) | (simp only [World.size_alloc]; omega) | (with_reducible refine Gr.size ?_; (repeat (first | with_reducible exact Gr.refl _ | with_reducible assumption | with_reducible refine Gr.alloc ?_ _ | with_reducible refine Gr.drewN ?_ _ | with_reducible refine Gr.drew ?_ | with_reducible refine Gr.trans ?_ (by with_reducible assumption))); done)) _ | with_reducible refine Gr.trans ?_ (by with_reducible assumption)))⟩
  | true =>
    have hd := dnB_iff.1 h
    have h1 : 1 ≤ x.dn := by omega
    have h2 : x.dn ≤ 12 := by omega
    clear hd
    go_enter Tryz.func63, Tryz.ntmps63
    go_wp2_with (first | (go_at_call 34; refine (fvalidAngle_any _ _).mono ?_; rintro e w1 ⟨rfl, rfl⟩) | (go_at_call 84; refine (validDen_any _ _).mono ?_; rintro e w1 ⟨rfl, rfl⟩) | (go_at_call 41; refine (fwithin_any _ _ _ _).mono ?_; rintro e w1 ⟨rfl, rfl⟩))
    all_goals
      go_ret
      exact ⟨ret_bool (by unfold enB; simp [*]), (by repeat (first | with_reducible exact Gr.refl _ | with_reducible assumption | with_reducible refine Gr.alloc ?_ _ | with_reducible refine Gr.drewN ?_ _ | with_reducible refine Gr.drew ?_ | with_reducible refine Gr.setCell ?_ (by first | (dsimp only; omega) | (simp only [World.size_alloc]; omega) | (with_reducible refine Gr.size ?_; (repeat (first | with_reducible exact Gr.refl _ | with_reducible assumption | with_reducible refine Gr.alloc ?_ _ | with_reducible refine Gr.drewN ?_ _ | with_reducible refine Gr.drew ?_ | with_reducible refine Gr.trans ?_ (by with_reducible assumption))); done)) _ | with_reducible refine Gr.trans ?_ (by with_reducible assumption)))⟩
theorem nb_t {b : Bool} (h : (!b) = false) : b = true := by simpa using h
theorem tbE_bad {t : Tb} (h : hdB t = false) : tbE t = 9 := by
  unfold tbE
  rw [h]
  rfl
theorem tbE_stop {t : Tb} (h : okB t.en t.en.length = false) : tbE t = 9 := by
  unfold tbE
  rw [h]
  simp
theorem tbE_good {t : Tb} (h : hdB t = true) (k : okB t.en t.en.length = true) : tbE t = 0 := by
  unfold tbE
  rw [h, k]
  rfl
theorem hdB_parts {t : Tb} : hdB t = true ↔ nameB t.mt.toList = true ∧ wiB t.ga 1 60 = true ∧ wiB t.di 1 1000 = true ∧ wiB t.en.length 1 6 = true := by
  unfold hdB
  simp only [Bool.and_eq_true, and_assoc]
theorem laI_succ {l : List En} {k : Nat} {x : En} (hx : l[k]? = some x) : laI l (k + 1) = x.an := by
  unfold laI
  rw [if_neg (by omega), Nat.add_sub_cancel, hx]
  rfl
set_option maxRecDepth 100000 in
set_option maxHeartbeats 2000000 in
theorem fValidate_any (t : Tb) (A : Option Addr) (c : Nat) (w : World) (hE : SlE w A c t.en) (hs : t.mt.size ≤ 1000) :
    Calls Tryz.prog 33 #[tbv t A c] w fun e w' => e = .returned (iv (tbE t)) ∧ Gr w w' := by
  have hlen := hE.len
  have HF := hide hE
  clear hE
  cases hh : hdB t with
  | false =>
    have HE := hide (tbE_bad hh)
    have HN := hide (show ¬ (nameB t.mt.toList = true ∧ wiB t.ga 1 60 = true ∧ wiB t.di 1 1000 = true ∧ wiB t.en.length 1 6 = true) by rw [← hdB_parts, hh]; simp)
    clear hh
    go_enter Tryz.func33, Tryz.ntmps33
    go_upto_region 3 with (first | (go_at_call 62; refine (validName_any _ _ (by omega)).mono ?_; rintro e w1 ⟨rfl, rfl⟩) | (go_at_call 41; refine (fwithin_any _ _ _ _).mono ?_; rintro e w1 ⟨rfl, rfl⟩))
    all_goals first
      | (exfalso
         exact HN.out ⟨by assumption, by assumption, by assumption, by first | assumption | exact nb_t (by assumption)⟩)
      | (go_ret
         exact ⟨ret_iv' HE.out.symm, (by repeat (first | with_reducible exact Gr.refl _ | with_reducible assumption | with_reducible refine Gr.alloc ?_ _ | with_reducible refine Gr.drewN ?_ _ | with_reducible refine Gr.drew ?_ | with_reducible refine Gr.setCell ?_ (by first | (dsimp only; omega) | (simp only [World.size_alloc]; omega) | (with_reducible refine Gr.size ?_; (repeat (first | with_reducible exact Gr.refl _ | with_reducible assumption | with_reducible refine Gr.alloc ?_ _ | with_reducible refine Gr.drewN ?_ _ | with_reducible refine Gr.drew ?_ | with_reducible refine Gr.trans ?_ (by with_reducible assumption))); done)) _ | with_reducible refine Gr.trans ?_ (by with_reducible assumption)))⟩)
  | true =>
    obtain ⟨h1, h2, h3, h4⟩ := hdB_parts.1 hh
    have HH := hide hh
    clear hh
    go_enter Tryz.func33, Tryz.ntmps33
    go_upto_region 3 with (first | (go_at_call 62; refine (validName_any _ _ (by omega)).mono ?_; rintro e w1 ⟨rfl, rfl⟩) | (go_at_call 41; refine (fwithin_any _ _ _ _).mono ?_; rintro e w1 ⟨rfl, rfl⟩))
    go_wp2
    clear h1 h2 h3 h4
    go_loopw [3, 32] (fun l i wr => ∃ k : Nat, k ≤ t.en.length ∧ i = iv k ∧ l = iv (laI t.en k) ∧ Gr (w.alloc (.cells #[.string t.mt, iv t.ga, iv t.di, .slice A t.en.length c] 28)) wr ∧ Hid (okB t.en k = true)) (fun _ i _ => t.en.length - (intOf i).toNat)
    case atStart => exact ⟨0, by omega, rfl, rfl, Gr.refl _, rfl⟩
    case round =>
      obtain ⟨k, hk, rfl, rfl, g, HO⟩ := hrel
      have gW : Gr w wr := (by repeat (first | with_reducible exact Gr.refl _ | with_reducible assumption | with_reducible refine Gr.alloc ?_ _ | with_reducible refine Gr.drewN ?_ _ | with_reducible refine Gr.drew ?_ | with_reducible refine Gr.setCell ?_ (by first | (dsimp only; omega) | (simp only [World.size_alloc]; omega) | (with_reducible refine Gr.size ?_; (repeat (first | with_reducible exact Gr.refl _ | with_reducible assumption | with_reducible refine Gr.alloc ?_ _ | with_reducible refine Gr.drewN ?_ _ | with_reducible refine Gr.drew ?_ | with_reducible refine Gr.trans ?_ (by with_reducible assumption))); done)) _ | with_reducible refine Gr.trans ?_ (by with_reducible assumption)))
      obtain ⟨Xr, Yr, cr, fr⟩ := g.use
      have zr := g.size
      simp only [World.size_alloc] at zr
      have l0 : w.heap.size < wr.heap.size := by omega
      by_cases hkl : k < t.en.length
      · obtain ⟨x, hx⟩ : ∃ x, t.en[k]? = some x := ⟨_, List.getElem?_eq_getElem hkl⟩
        obtain ⟨b, off, rfl, x0, x1, x2⟩ := HF.out.rd.en hx
        have hb : b < w.heap.size := cell_lt (by rw [x0]; rfl)
        have HL := hide hx
        clear hx
        have HR := hide (laI_succ HL.out)
        cases he : etB (laI t.en k) x with
        | false =>
          have HE := hide (tbE_stop (okB_stop HL.out he hkl))
          unfold etB at he
          rw [Bool.and_eq_false_iff] at he
          generalize laI t.en k = L at *
          by_cases h1 : L < x.an
          · have h2 : enB x = false := by
              rcases he with h | h
              · exact absurd h1 (by simpa using h)
              · exact h
            clear he
            go_wp2_with (first | (go_at_call 63; refine (validEntry_any _ _).mono ?_; rintro e w1 ⟨rfl, g1⟩; obtain ⟨X1, Y1, c1, f1⟩ := g1.use))
            go_ret
            exact ⟨ret_iv' HE.out.symm, (by repeat (first | with_reducible exact Gr.refl _ | with_reducible assumption | with_reducible refine Gr.alloc ?_ _ | with_reducible refine Gr.drewN ?_ _ | with_reducible refine Gr.drew ?_ | with_reducible refine Gr.setCell ?_ (by first | (dsimp only; omega) | (simp only [World.size_alloc]; omega) | (with_reducible refine Gr.size ?_; (repeat (first | with_reducible exact Gr.refl _ | with_reducible assumption | with_reducible refine Gr.alloc ?_ _ | with_reducible refine Gr.drewN ?_ _ | with_reducible refine Gr.drew ?_ | with_reducible refine Gr.trans ?_ (by with_reducible assumption))); done)) _ | with_reducible refine Gr.trans ?_ (by with_reducible assumption)))⟩
          · clear he
            go_wp2_with (first | (go_at_call 63; refine (validEntry_any _ _).mono ?_; rintro e w1 ⟨rfl, g1⟩; obtain ⟨X1, Y1, c1, f1⟩ := g1.use))
            go_ret
            exact ⟨ret_iv' HE.out.symm, (by repeat (first | with_reducible exact Gr.refl _ | with_reducible assumption | with_reducible refine Gr.alloc ?_ _ | with_reducible refine Gr.drewN ?_ _ | with_reducible refine Gr.drew ?_ | with_reducible refine Gr.setCell ?_ (by first | (dsimp only; omega) | (simp only [World.size_alloc]; omega) | (with_reducible refine Gr.size ?_; (repeat (first | with_reducible exact Gr.refl _ | with_reducible assumption | with_reducible refine Gr.alloc ?_ _ | with_reducible refine Gr.drewN ?_ _ | with_reducible refine Gr.drew ?_ | with_reducible refine Gr.trans ?_ (by with_reducible assumption))); done)) _ | with_reducible refine Gr.trans ?_ (by with_reducible assumption)))⟩
        | true =>
          have HO' := hide (show okB t.en (k + 1) = true by rw [okB_at HL.out, HO.out, he]; rfl)
          unfold etB at he
          simp only [Bool.and_eq_true, decide_eq_true_eq] at he
          obtain ⟨h1, h2⟩ := he
          generalize laI t.en k = L at *
          go_wp2_with (first | (go_at_call 63; refine (validEntry_any _ _).mono ?_; rintro e w1 ⟨rfl, g1⟩; obtain ⟨X1, Y1, c1, f1⟩ := g1.use; have z1 := g1.size; (try simp only [World.size_alloc, World.size_setCell, World.heap_drewN, Nat.add_one_le_iff] at z1); (try have l0 : w.heap.size < w1.heap.size := by omega); (try have l1 : w.heap.size + 1 < w1.heap.size := by omega); (try have l2 : w.heap.size + 1 + 1 < w1.heap.size := by omega)))
          go_roundw
          case rel => exact ⟨k + 1, by omega, by go_num, by rw [HR.out], (by repeat (first | with_reducible exact Gr.refl _ | with_reducible assumption | with_reducible refine Gr.alloc ?_ _ | with_reducible refine Gr.drewN ?_ _ | with_reducible refine Gr.drew ?_ | with_reducible refine Gr.setCell ?_ (by first | (dsimp only; omega) | (simp only [World.size_alloc]; omega) | (with_reducible refine Gr.size ?_; (repeat (first | with_reducible exact Gr.refl _ | with_reducible assumption | with_reducible refine Gr.alloc ?_ _ | with_reducible refine Gr.drewN ?_ _ | with_reducible refine Gr.drew ?_ | with_reducible refine Gr.trans ?_ (by with_reducible assumption))); done)) _ | with_reducible refine Gr.trans ?_ (by with_reducible assumption))), HO'⟩
          case measure => simp only [intOf]; omega
      · obtain rfl : k = t.en.length := by omega
        have HE := hide (tbE_good HH.out HO.out)
        go_wp2
        go_ret
        exact ⟨ret_iv' HE.out.symm, (by repeat (first | with_reducible exact Gr.refl _ | with_reducible assumption | with_reducible refine Gr.alloc ?_ _ | with_reducible refine Gr.drewN ?_ _ | with_reducible refine Gr.drew ?_ | with_reducible refine Gr.setCell ?_ (by first | (dsimp only; omega) | (simp only [World.size_alloc]; omega) | (with_reducible refine Gr.size ?_; (repeat (first | with_reducible exact Gr.refl _ | with_reducible assumption | with_reducible refine Gr.alloc ?_ _ | with_reducible refine Gr.drewN ?_ _ | with_reducible refine Gr.drew ?_ | with_reducible refine Gr.trans ?_ (by with_reducible assumption))); done)) _ | with_reducible refine Gr.trans ?_ (by with_reducible assumption)))⟩
end Go.Proofs.YtjnfodbniohkhaaGreat
set_option linter.unusedVariables false
set_option linter.unusedSimpArgs false
namespace Go.Proofs.YtjnfodbniohkhaaGreat
set_option linter.unusedVariables false
set_option linter.unusedSimpArgs false
open Go Go.ChangeShapes Go.WideShapes Go.ChangeAt Go.RowKit Go.Deep

theorem ret_ib {a b : Int} {x y : Bool} (h : a = b) (k : x = y) : Ending.returned (.tuple #[iv a, .bool x]) = .returned (.tuple #[iv b, .bool y]) := by rw [h, k]
/-- whether a table has the angle -/
def fdB (l : List En) (a : Int) : Bool := match l[cutI l a]? with
  | some y => y.an == a
  | none => false
theorem cmF_any (x : En) (a : Int) (w : World) :
    Calls Tryz.prog 36 #[env x, iv a] w fun e w' => e = .returned (iv (cmI x.an a)) ∧ Gr w w' := by
  go_enter Tryz.func36, Tryz.ntmps36
  go_wp2_with (first | (go_at_call 37; refine (cmpC_any _ _ _).mono ?_; rintro e w1 ⟨rfl, rfl⟩))
  go_ret
  exact ⟨rfl, (by repeat (first | with_reducible exact Gr.refl _ | with_reducible assumption | with_reducible refine Gr.alloc ?_ _ | with_reducible refine Gr.drewN ?_ _ | with_reducible refine Gr.drew ?_ | with_reducible refine Gr.setCell ?_ (by first | (dsimp only; omega) | (simp only [World.size_alloc]; omega) | (with_reducible refine Gr.size ?_; (repeat (first | with_reducible exact Gr.refl _ | with_reducible assumption | with_reducible refine Gr.alloc ?_ _ | with_reducible refine Gr.drewN ?_ _ | with_reducible refine Gr.drew ?_ | with_reducible refine Gr.trans ?_ (by with_reducible assumption))); done)) _ | with_reducible refine Gr.trans ?_ (by with_reducible assumption)))⟩
theorem half_nat (x y : Nat) (h : x + y ≤ 2000) : (IntKind.u64.wrap ((x : Int) + y)) = ((x + y : Nat) : Int) := by
  unfold IntKind.wrap
  simp [IntKind.bits, IntKind.signed]
  omega
set_option maxRecDepth 100000 in
set_option maxHeartbeats 2000000 in
theorem bsf_any (A : Option Addr) (c : Nat) (l : List En) (a : Int) (w : World) (hE : SlE w A c l) (hs : Asc l) :
    Calls Tryz.prog 35 #[.slice A l.length c, iv a, .func (.func 36) #[] #[]] w fun e w' => e = .returned (.tuple #[iv (cutI l a), .bool (fdB l a)]) ∧ Gr w w' := by
  have hlen := hE.len
  have HF := hide hE
  have HS := hide hs
  clear hE hs
  go_enter Tryz.func35, Tryz.ntmps35
  go_wp2
  go_loopw [9, 10] (fun i j wr => ∃ x y : Nat, i = iv x ∧ j = iv y ∧ x ≤ y ∧ y ≤ l.length ∧ Gr w wr ∧ Hid (∀ k e, k < x → l[k]? = some e → e.an < a) ∧ Hid (∀ k e, y ≤ k → l[k]? = some e → a ≤ e.an)) (fun i j _ => (intOf j).toNat - (intOf i).toNat)
  case atStart => exact ⟨0, l.length, rfl, rfl, by omega, by omega, Gr.refl _, fun k e hk => by omega, fun k e hk he => by have := (List.getElem?_eq_some_iff.1 he).1; omega⟩
  case round =>
    obtain ⟨x, y, rfl, rfl, hxy, hy, g, HX, HY⟩ := hrel
    by_cases hlt : x < y
    · obtain ⟨e, he⟩ : ∃ e, l[(x + y) / 2]? = some e := ⟨_, List.getElem?_eq_getElem (by omega)⟩
      obtain ⟨b, off, rfl, x0, x1, x2⟩ := (HF.out.gr g).rd.en he
      have hb : b < wr.heap.size := cell_lt (by rw [x0]; rfl)
      have HV := hide (fun w => cmF_any e a w)
      have HL := hide he
      clear he
      by_cases hea : e.an < a
      · have HX' := hide (show ∀ k e, k < (x + y) / 2 + 1 → l[k]? = some e → e.an < a by
          intro k e' hk he'
          rcases Nat.lt_or_ge k ((x + y) / 2) with h | h
          · have := HS.out k _ e' e h he' HL.out
            omega
          · obtain rfl : k = (x + y) / 2 := by omega
            rw [HL.out] at he'
            obtain rfl := Option.some.inj he'
            exact hea)
        rw [show cmI e.an a = -1 by unfold cmI; rw [if_pos hea]] at HV
        clear hea
        go_wp2_with (first | (go_at_call 36; refine (HV.out _).mono ?_; rintro e w1 ⟨rfl, g1⟩; obtain ⟨X1, Y1, c1, f1⟩ := g1.use))
        go_roundw
        case rel => exact ⟨(x + y) / 2 + 1, y, by go_num, rfl, by omega, hy, (by repeat (first | with_reducible exact Gr.refl _ | with_reducible assumption | with_reducible refine Gr.alloc ?_ _ | with_reducible refine Gr.drewN ?_ _ | with_reducible refine Gr.drew ?_ | with_reducible refine Gr.setCell ?_ (by first | (dsimp only; omega) | (simp only [World.size_alloc]; omega) | (with_reducible refine Gr.size ?_; (repeat (first | with_reducible exact Gr.refl _ | with_reducible assumption | with_reducible refine Gr.alloc ?_ _ | with_reducible refine Gr.drewN ?_ _ | with_reducible refine Gr.drew ?_ | with_reducible refine Gr.trans ?_ (by with_reducible assumption))); done)) _ | with_reducible refine Gr.trans ?_ (by with_reducible assumption))), HX', HY⟩
        case measure => simp only [intOf]; omega
      · have HY' := hide (show ∀ k e, (x + y) / 2 ≤ k → l[k]? = some e → a ≤ e.an by
          intro k e' hk he'
          rcases Nat.lt_or_ge ((x + y) / 2) k with h | h
          · have := HS.out _ k e e' h HL.out he'
            omega
          · obtain rfl : k = (x + y) / 2 := by omega
            rw [HL.out] at he'
            obtain rfl := Option.some.inj he'
            omega)
        have hc : 0 ≤ cmI e.an a := by unfold cmI; rw [if_neg hea]; split <;> omega
        generalize cmI e.an a = cc at *
        clear hea
        go_wp2_with (first | (go_at_call 36; refine (HV.out _).mono ?_; rintro e w1 ⟨rfl, g1⟩; obtain ⟨X1, Y1, c1, f1⟩ := g1.use))
        go_roundw
        case rel => exact ⟨x, (x + y) / 2, rfl, by go_num, by omega, by omega, (by repeat (first | with_reducible exact Gr.refl _ | with_reducible assumption | with_reducible refine Gr.alloc ?_ _ | with_reducible refine Gr.drewN ?_ _ | with_reducible refine Gr.drew ?_ | with_reducible refine Gr.setCell ?_ (by first | (dsimp only; omega) | (simp only [World.size_alloc]; omega) | (with_reducible refine Gr.size ?_; (repeat (first | with_reducible exact Gr.refl _ | with_reducible assumption | with_reducible refine Gr.alloc ?_ _ | with_reducible refine Gr.drewN ?_ _ | with_reducible refine Gr.drew ?_ | with_reducible refine Gr.trans ?_ (by with_reducible assumption))); done)) _ | with_reducible refine Gr.trans ?_ (by with_reducible assumption))), HX, HY'⟩
        case measure => simp only [intOf]; omega
    · obtain rfl : x = y := by omega
      have HC := hide (cut_eq hy HX.out HY.out)
      clear HX HY
      by_cases hlt : x < l.length
      · obtain ⟨e, he⟩ : ∃ e, l[x]? = some e := ⟨_, List.getElem?_eq_getElem hlt⟩
        obtain ⟨b, off, rfl, x0, x1, x2⟩ := (HF.out.gr g).rd.en he
        have hb : b < wr.heap.size := cell_lt (by rw [x0]; rfl)
        have HV := hide (fun w => cmF_any e a w)
        have HD := hide (show fdB l a = (cmI e.an a == 0) by
          unfold fdB
          rw [← HC.out, he]
          have h0 : a ≤ e.an := by rw [HC.out] at he; exact cut_at he
          unfold cmI
          by_cases h : e.an = a
          · rw [if_neg (by omega), if_neg (by omega)]; simpa using h
          · rw [if_neg (by omega), if_pos (by omega)]; simpa using h)
        clear he
        generalize cmI e.an a = cc at *
        go_wp2_with (first | (go_at_call 36; refine (HV.out _).mono ?_; rintro e w1 ⟨rfl, g1⟩; obtain ⟨X1, Y1, c1, f1⟩ := g1.use; have z1 := g1.size; (try simp only [World.size_alloc, World.size_setCell, World.heap_drewN, Nat.add_one_le_iff] at z1); (try have l0 : w.heap.size < w1.heap.size := by omega); (try have l1 : w.heap.size + 1 < w1.heap.size := by omega); (try have l2 : w.heap.size + 1 + 1 < w1.heap.size := by omega)))
        go_ret2
        exact ⟨ret_ib (by rw [← HC.out]) HD.out.symm, (by repeat (first | with_reducible exact Gr.refl _ | with_reducible assumption | with_reducible refine Gr.alloc ?_ _ | with_reducible refine Gr.drewN ?_ _ | with_reducible refine Gr.drew ?_ | with_reducible refine Gr.setCell ?_ (by first | (dsimp only; omega) | (simp only [World.size_alloc]; omega) | (with_reducible refine Gr.size ?_; (repeat (first | with_reducible exact Gr.refl _ | with_reducible assumption | with_reducible refine Gr.alloc ?_ _ | with_reducible refine Gr.drewN ?_ _ | with_reducible refine Gr.drew ?_ | with_reducible refine Gr.trans ?_ (by with_reducible assumption))); done)) _ | with_reducible refine Gr.trans ?_ (by with_reducible assumption)))⟩
      · have HD := hide (show fdB l a = false by
          unfold fdB
          rw [← HC.out, List.getElem?_eq_none (by omega)])
        go_wp2_with fail
        go_ret2
        exact ⟨ret_ib (by rw [← HC.out]) HD.out.symm, (by repeat (first | with_reducible exact Gr.refl _ | with_reducible assumption | with_reducible refine Gr.alloc ?_ _ | with_reducible refine Gr.drewN ?_ _ | with_reducible refine Gr.drew ?_ | with_reducible refine Gr.setCell ?_ (by first | (dsimp only; omega) | (simp only [World.size_alloc]; omega) | (with_reducible refine Gr.size ?_; (repeat (first | with_reducible exact Gr.refl _ | with_reducible assumption | with_reducible refine Gr.alloc ?_ _ | with_reducible refine Gr.drewN ?_ _ | with_reducible refine Gr.drew ?_ | with_reducible refine Gr.trans ?_ (by with_reducible assumption))); done)) _ | with_reducible refine Gr.trans ?_ (by with_reducible assumption)))⟩
end Go.Proofs.YtjnfodbniohkhaaGreat
set_option linter.unusedVariables false
set_option linter.unusedSimpArgs false
namespace Go.Proofs.YtjnfodbniohkhaaGreat
set_option linter.unusedVariables false
set_option linter.unusedSimpArgs false
open Go Go.ChangeShapes Go.WideShapes Go.ChangeAt Go.RowKit Go.Deep

set_option maxHeartbeats 1000000 in
theorem twelfths_any (x : En) (w : World) (h : enB x = true) :
    Calls Tryz.prog 65 #[env x] w fun e w' => e = .returned (iv (twI x)) ∧ Gr w w' := by
  obtain ⟨-, b1, b2⟩ := en_ra h
  have W1 : IntKind.i64.wrap (x.nm * 12) = x.nm * 12 := IntWalk.i64_in _ (by omega)
  have W2 : IntKind.i64.wrap ((x.nm * 12).tdiv x.dn) = (x.nm * 12).tdiv x.dn := IntWalk.i64_quo' _ _ (by omega)
  have hz : ¬ x.dn = 0 := by omega
  have hz2 : (x.dn == 0) = false := by simpa using hz
  have HE := hide (show (x.nm * 12).tdiv x.dn = twI x from rfl)
  clear b1 b2 h
  go_enter Tryz.func65, Tryz.ntmps65
  go_wp2
  go_ret
  exact ⟨ret_iv' HE.out, (by repeat (first | with_reducible exact Gr.refl _ | with_reducible assumption | with_reducible refine Gr.alloc ?_ _ | with_reducible refine Gr.drewN ?_ _ | with_reducible refine Gr.drew ?_ | with_reducible refine Gr.setCell ?_ (by first | (dsimp only; omega) | (simp only [World.size_alloc]; omega) | (with_reducible refine Gr.size ?_; (repeat (first | with_reducible exact Gr.refl _ | with_reducible assumption | with_reducible refine Gr.alloc ?_ _ | with_reducible refine Gr.drewN ?_ _ | with_reducible refine Gr.drew ?_ | with_reducible refine Gr.trans ?_ (by with_reducible assumption))); done)) _ | with_reducible refine Gr.trans ?_ (by with_reducible assumption)))⟩
set_option maxRecDepth 100000 in
set_option maxHeartbeats 1000000 in
theorem between_any (x y : En) (a : Int) (w : World) (hx : enB x = true) (hy : enB y = true) (h1 : x.an < a) (h2 : a < y.an) :
    Calls Tryz.prog 38 #[env x, env y, iv a] w fun e w' => e = .returned (ra (beN x y a) (beD x y)) ∧ Gr w w' := by
  obtain ⟨-, ⟨p1, p2⟩, p3, p4⟩ := be_ok hx hy h1 h2
  obtain ⟨a1, _⟩ := enB_use hx
  obtain ⟨a2, _⟩ := enB_use hy
  have t1 := tw_bd hx
  have t2 := tw_bd hy
  have q3 : 0 ≤ twI x * (y.an - a) := Int.mul_nonneg (by omega) (by omega)
  have q4 : 0 ≤ twI y * (a - x.an) := Int.mul_nonneg (by omega) (by omega)
  have HE := hide (show twI x * (y.an - a) + twI y * (a - x.an) = beN x y a from rfl)
  have HD := hide (show 12 * (y.an - x.an) = beD x y from rfl)
  have HX := hide (fun w => twelfths_any x w hx)
  have HY := hide (fun w => twelfths_any y w hy)
  rw [← HE.out] at p1 p2
  generalize twI x = p at *
  generalize twI y = q at *
  have W1 : IntKind.i64.wrap (y.an - a) = y.an - a := IntWalk.i64_in _ (by omega)
  have W2 : IntKind.i64.wrap (p * (y.an - a)) = p * (y.an - a) := IntWalk.i64_in _ (by omega)
  have W3 : IntKind.i64.wrap (a - x.an) = a - x.an := IntWalk.i64_in _ (by omega)
  have W4 : IntKind.i64.wrap (q * (a - x.an)) = q * (a - x.an) := IntWalk.i64_in _ (by omega)
  have W5 : IntKind.i64.wrap (p * (y.an - a) + q * (a - x.an)) = p * (y.an - a) + q * (a - x.an) := IntWalk.i64_in _ (by omega)
  have W6 : IntKind.i64.wrap (y.an - x.an) = y.an - x.an := IntWalk.i64_in _ (by omega)
  have W7 : IntKind.i64.wrap (12 * (y.an - x.an)) = 12 * (y.an - x.an) := IntWalk.i64_in _ (by omega)
  clear p1 p2 p3 p4 a1 a2 t1 t2 q3 q4 h1 h2 hx hy
  go_enter Tryz.func38, Tryz.ntmps38
  go_upto_region 1 with fail
  have GC := @GrW.cell
  refine wp_region_grw_tail _ 22 (by kernel_rfl) (by kernel_rfl) (Gr.refl _) ?_
  simp only [List.take_succ_cons, List.take_zero, List.drop_succ_cons, List.drop_zero]
  repeat (go_big_quiet_step ((first | (go_at_call 65; exact quiet_grw (HX.out _)) | (go_at_call 65; exact quiet_grw (HY.out _)))))
  refine wpQuiet_nil ?_
  intro wq hwq
  obtain ⟨gq, hwq'⟩ := hwq
  subst hwq'
  clear GC
  have gq1 := gq.gr
  generalize gq.w = wq at gq1 ⊢
  obtain ⟨Xq, Yq, cq, fq⟩ := gq1.use
  have sq := gq1.size
  (try simp only [World.size_alloc, World.size_setCell, World.heap_drewN] at sq)
  go_wp2
  refine bodyPost_ret (v := ra (p * (y.an - a) + q * (a - x.an)) (12 * (y.an - x.an))) (by simp [results, Tryz.results38, go_sem, *]) rfl ⟨by rw [HE.out, HD.out], (by repeat (first | with_reducible exact Gr.refl _ | with_reducible assumption | with_reducible refine Gr.alloc ?_ _ | with_reducible refine Gr.drewN ?_ _ | with_reducible refine Gr.drew ?_ | with_reducible refine Gr.setCell ?_ (by first | (dsimp only; omega) | (simp only [World.size_alloc]; omega) | (with_reducible refine Gr.size ?_; (repeat (first | with_reducible exact Gr.refl _ | with_reducible assumption | with_reducible refine Gr.alloc ?_ _ | with_reducible refine Gr.drewN ?_ _ | with_reducible refine Gr.drew ?_ | with_reducible refine Gr.trans ?_ (by with_reducible assumption))); done)) _ | with_reducible refine Gr.trans ?_ (by with_reducible assumption)))⟩
theorem dedA_bad {t : Tb} {a : Int} (h : tbE t = 9) : dedA t a = (0, 0, 9) := by
  unfold dedA
  rw [h]
  rfl
theorem dedA_ang {t : Tb} {a : Int} (h : tbE t = 0) (k : a6B a = false) : dedA t a = (0, 0, 1) := by
  unfold dedA
  rw [h, k]
  rfl
theorem dedA_good {t : Tb} {a : Int} (h : tbE t = 0) (k : a6B a = true) : dedA t a = dedV t.en a := by
  unfold dedA
  rw [h, k]
  rfl
theorem dedV_none {l : List En} {a : Int} (h : l[cutI l a]? = none) : dedV l a = (0, 0, 5) := by
  unfold dedV
  rw [h]
theorem dedV_found {l : List En} {a : Int} {y : En} (h : l[cutI l a]? = some y) (e : y.an = a) : dedV l a = (rdN y.nm y.dn, rdD y.nm y.dn, 0) := by
  unfold dedV
  rw [h]
  exact if_pos e
theorem dedV_zero {l : List En} {a : Int} {y : En} (h : l[cutI l a]? = some y) (e : ¬ y.an = a) (k : cutI l a = 0) : dedV l a = (0, 0, 5) := by
  unfold dedV
  rw [h]
  simp only [if_neg e, if_pos k]
theorem dedV_mid {l : List En} {a : Int} {x y : En} (h : l[cutI l a]? = some y) (e : ¬ y.an = a) (k : ¬ cutI l a = 0) (hx : l[cutI l a - 1]? = some x) : dedV l a = (rdN (beN x y a) (beD x y), rdD (beN x y a) (beD x y), 0) := by
  unfold dedV
  rw [h]
  simp only [if_neg e, if_neg k, hx]
theorem fdB_some {l : List En} {a : Int} {y : En} (h : l[cutI l a]? = some y) : fdB l a = (y.an == a) := by
  unfold fdB
  rw [h]
theorem fdB_none {l : List En} {a : Int} (h : l[cutI l a]? = none) : fdB l a = false := by
  unfold fdB
  rw [h]
set_option maxRecDepth 100000 in
set_option maxHeartbeats 4000000 in
theorem Deduction_any (t : Tb) (A : Option Addr) (c : Nat) (a : Int) (w : World) (hE : SlE w A c t.en) (hs : t.mt.size ≤ 1000) :
    Calls Tryz.prog 16 #[tbv t A c, iv a] w fun e w' => e = .returned (trV (dedA t a)) ∧ Gr w w' := by
  have hlen := hE.len
  have HF := hide hE
  have HV := hide (fun (w' : World) (g : Gr w w') => fValidate_any t A c w' (hE.gr g) hs)
  clear hE
  rcases tbE_cases t with h0 | h0
  · rw [h0] at HV
    cases ha : a6B a with
    | false =>
      rw [dedA_ang h0 ha]
      go_enter Tryz.func16, Tryz.ntmps16
      go_wp2_with fail
      refine (HV.out _ (by repeat (first | with_reducible exact Gr.refl _ | with_reducible assumption | with_reducible refine Gr.alloc ?_ _ | with_reducible refine Gr.drewN ?_ _ | with_reducible refine Gr.drew ?_ | with_reducible refine Gr.setCell ?_ (by first | (dsimp only; omega) | (simp only [World.size_alloc]; omega) | (with_reducible refine Gr.size ?_; (repeat (first | with_reducible exact Gr.refl _ | with_reducible assumption | with_reducible refine Gr.alloc ?_ _ | with_reducible refine Gr.drewN ?_ _ | with_reducible refine Gr.drew ?_ | with_reducible refine Gr.trans ?_ (by with_reducible assumption))); done)) _ | with_reducible refine Gr.trans ?_ (by with_reducible assumption)))).mono ?_
      rintro e w1 ⟨rfl, g1⟩
      obtain ⟨X1, Y1, c1, f1⟩ := g1.use
      have z1 := g1.size
      simp only [World.size_alloc] at z1
      have l1 : w.heap.size + 1 < w1.heap.size := by omega
      have l0 : w.heap.size < w1.heap.size := by omega
      go_wp2_with (first | (go_at_call 34; refine (fvalidAngle_any _ _).mono ?_; rintro e w1 ⟨rfl, rfl⟩))
      refine bodyPost_ret (v := trV (0, 0, 1)) (by simp [results, Tryz.results16, go_sem, *]) rfl ⟨rfl, (by repeat (first | with_reducible exact Gr.refl _ | with_reducible assumption | with_reducible refine Gr.alloc ?_ _ | with_reducible refine Gr.drewN ?_ _ | with_reducible refine Gr.drew ?_ | with_reducible refine Gr.setCell ?_ (by first | (dsimp only; omega) | (simp only [World.size_alloc]; omega) | (with_reducible refine Gr.size ?_; (repeat (first | with_reducible exact Gr.refl _ | with_reducible assumption | with_reducible refine Gr.alloc ?_ _ | with_reducible refine Gr.drewN ?_ _ | with_reducible refine Gr.drew ?_ | with_reducible refine Gr.trans ?_ (by with_reducible assumption))); done)) _ | with_reducible refine Gr.trans ?_ (by with_reducible assumption)))⟩
    | true =>
      obtain ⟨hok1, hok2⟩ := tbE_ok h0
      have HS := hide (asc_of hok2)
      have HEN := hide (fun (k : Nat) (x : En) (hx : t.en[k]? = some x) => en_of hok2 hx)
      have HB := hide (fun (w' : World) (g : Gr w w') => bsf_any A c t.en a w' (HF.out.gr g) HS.out)
      rw [dedA_good h0 ha]
      have hc := cut_le t.en a
      clear hok1 hok2 h0
      cases hy : t.en[cutI t.en a]? with
      | none =>
        rw [dedV_none hy]
        rw [fdB_none hy] at HB
        have hn : cutI t.en a = t.en.length := by have := List.getElem?_eq_none_iff.1 hy; omega
        have hn1 : ((t.en.length : Int) == 0) = true ∨ (((t.en.length : Int) == 0) = false) := by cases ((t.en.length : Int) == 0) <;> simp
        rw [hn] at HB
        clear hy hn hc
        go_enter Tryz.func16, Tryz.ntmps16
        go_wp2_with fail
        refine (HV.out _ (by repeat (first | with_reducible exact Gr.refl _ | with_reducible assumption | with_reducible refine Gr.alloc ?_ _ | with_reducible refine Gr.drewN ?_ _ | with_reducible refine Gr.drew ?_ | with_reducible refine Gr.setCell ?_ (by first | (dsimp only; omega) | (simp only [World.size_alloc]; omega) | (with_reducible refine Gr.size ?_; (repeat (first | with_reducible exact Gr.refl _ | with_reducible assumption | with_reducible refine Gr.alloc ?_ _ | with_reducible refine Gr.drewN ?_ _ | with_reducible refine Gr.drew ?_ | with_reducible refine Gr.trans ?_ (by with_reducible assumption))); done)) _ | with_reducible refine Gr.trans ?_ (by with_reducible assumption)))).mono ?_
        rintro e w1 ⟨rfl, g1⟩
        obtain ⟨X1, Y1, c1, f1⟩ := g1.use
        have z1 := g1.size
        simp only [World.size_alloc] at z1
        have l1 : w.heap.size + 1 < w1.heap.size := by omega
        have l0 : w.heap.size < w1.heap.size := by omega
        go_wp2_with (first | (go_at_call 34; refine (fvalidAngle_any _ _).mono ?_; rintro e w1 ⟨rfl, rfl⟩))
        refine (HB.out _ (by repeat (first | with_reducible exact Gr.refl _ | with_reducible assumption | with_reducible refine Gr.alloc ?_ _ | with_reducible refine Gr.drewN ?_ _ | with_reducible refine Gr.drew ?_ | with_reducible refine Gr.setCell ?_ (by first | (dsimp only; omega) | (simp only [World.size_alloc]; omega) | (with_reducible refine Gr.size ?_; (repeat (first | with_reducible exact Gr.refl _ | with_reducible assumption | with_reducible refine Gr.alloc ?_ _ | with_reducible refine Gr.drewN ?_ _ | with_reducible refine Gr.drew ?_ | with_reducible refine Gr.trans ?_ (by with_reducible assumption))); done)) _ | with_reducible refine Gr.trans ?_ (by with_reducible assumption)))).mono ?_
        rintro e w2 ⟨rfl, g2⟩
        obtain ⟨X2, Y2, c2, f2⟩ := g2.use
        have z2 := g2.size
        have m1 : w.heap.size + 1 < w2.heap.size := by omega
        have m0 : w.heap.size < w2.heap.size := by omega
        rcases hn1 with hn1 | hn1
        all_goals
          go_wp2_with fail
          refine bodyPost_ret (v := trV (0, 0, 5)) (by simp [results, Tryz.results16, go_sem, *]) rfl ⟨rfl, (by repeat (first | with_reducible exact Gr.refl _ | with_reducible assumption | with_reducible refine Gr.alloc ?_ _ | with_reducible refine Gr.drewN ?_ _ | with_reducible refine Gr.drew ?_ | with_reducible refine Gr.setCell ?_ (by first | (dsimp only; omega) | (simp only [World.size_alloc]; omega) | (with_reducible refine Gr.size ?_; (repeat (first | with_reducible exact Gr.refl _ | with_reducible assumption | with_reducible refine Gr.alloc ?_ _ | with_reducible refine Gr.drewN ?_ _ | with_reducible refine Gr.drew ?_ | with_reducible refine Gr.trans ?_ (by with_reducible assumption))); done)) _ | with_reducible refine Gr.trans ?_ (by with_reducible assumption)))⟩
      | some y =>
        have hn : cutI t.en a < t.en.length := (List.getElem?_eq_some_iff.1 hy).1
        rw [fdB_some hy] at HB
        have HY := hide hy
        have hey := HEN.out _ _ hy
        obtain ⟨b, off, hA, y0, y1, y2⟩ := HF.out.rd.en hy
        subst hA
        have hb : b < w.heap.size := cell_lt (by rw [y0]; rfl)
        clear hy hc
        by_cases hya : y.an = a
        · rw [dedV_found HY.out hya]
          have HR := hide (fun w => Reduce_any y.nm y.dn w)
          rw [show redV y.nm y.dn = (rdN y.nm y.dn, rdD y.nm y.dn, 0) by unfold redV; rw [(en_ra hey).1]; rfl] at HR
          rw [show (y.an == a) = true by simpa using hya] at HB
          generalize rdN y.nm y.dn = rn at *
          generalize rdD y.nm y.dn = rd at *
          clear HY hey hya
          generalize cutI t.en a = n at *
          have hn0 : (0 : Int) ≤ (n : Int) := by omega
          have hn1 : (n : Int) < (t.en.length : Int) := by omega
          go_enter Tryz.func16, Tryz.ntmps16
          go_wp2_with fail
          refine (HV.out _ (by repeat (first | with_reducible exact Gr.refl _ | with_reducible assumption | with_reducible refine Gr.alloc ?_ _ | with_reducible refine Gr.drewN ?_ _ | with_reducible refine Gr.drew ?_ | with_reducible refine Gr.setCell ?_ (by first | (dsimp only; omega) | (simp only [World.size_alloc]; omega) | (with_reducible refine Gr.size ?_; (repeat (first | with_reducible exact Gr.refl _ | with_reducible assumption | with_reducible refine Gr.alloc ?_ _ | with_reducible refine Gr.drewN ?_ _ | with_reducible refine Gr.drew ?_ | with_reducible refine Gr.trans ?_ (by with_reducible assumption))); done)) _ | with_reducible refine Gr.trans ?_ (by with_reducible assumption)))).mono ?_
          rintro e w1 ⟨rfl, g1⟩
          obtain ⟨X1, Y1, c1, f1⟩ := g1.use
          have z1 := g1.size
          simp only [World.size_alloc] at z1
          have l1 : w.heap.size + 1 < w1.heap.size := by omega
          have l0 : w.heap.size < w1.heap.size := by omega
          go_wp2_with (first | (go_at_call 34; refine (fvalidAngle_any _ _).mono ?_; rintro e w1 ⟨rfl, rfl⟩))
          refine (HB.out _ (by repeat (first | with_reducible exact Gr.refl _ | with_reducible assumption | with_reducible refine Gr.alloc ?_ _ | with_reducible refine Gr.drewN ?_ _ | with_reducible refine Gr.drew ?_ | with_reducible refine Gr.setCell ?_ (by first | (dsimp only; omega) | (simp only [World.size_alloc]; omega) | (with_reducible refine Gr.size ?_; (repeat (first | with_reducible exact Gr.refl _ | with_reducible assumption | with_reducible refine Gr.alloc ?_ _ | with_reducible refine Gr.drewN ?_ _ | with_reducible refine Gr.drew ?_ | with_reducible refine Gr.trans ?_ (by with_reducible assumption))); done)) _ | with_reducible refine Gr.trans ?_ (by with_reducible assumption)))).mono ?_
          rintro e w2 ⟨rfl, g2⟩
          obtain ⟨X2, Y2, c2, f2⟩ := g2.use
          have z2 := g2.size
          have m1 : w.heap.size + 1 < w2.heap.size := by omega
          have m0 : w.heap.size < w2.heap.size := by omega
          have hb2 : b < w2.heap.size := by omega
          have hb1 : b < w1.heap.size := by omega
          go_upto_region 8 with fail
          have GC := @GrW.cell
          refine wp_region_grw_tail _ 16 (by kernel_rfl) (by kernel_rfl) (Gr.refl _) ?_
          simp only [List.take_succ_cons, List.take_zero, List.drop_succ_cons, List.drop_zero]
          repeat (go_big_quiet_step ((first | (go_at_call 21; exact quiet_grw (HR.out _)))))
          refine wpQuiet_nil ?_
          intro wq hwq
          obtain ⟨gq, hwq'⟩ := hwq
          subst hwq'
          clear GC
          have gq1 := gq.gr
          generalize gq.w = wq at gq1 ⊢
          obtain ⟨Xq, Yq, cq, fq⟩ := gq1.use
          have sq := gq1.size
          (try simp only [World.size_alloc, World.size_setCell, World.heap_drewN] at sq)
          go_wp2
          refine bodyPost_ret (v := trV (rn, rd, 0)) (by simp [results, Tryz.results16, go_sem, *]) rfl ⟨rfl, (by repeat (first | with_reducible exact Gr.refl _ | with_reducible assumption | with_reducible refine Gr.alloc ?_ _ | with_reducible refine Gr.drewN ?_ _ | with_reducible refine Gr.drew ?_ | with_reducible refine Gr.setCell ?_ (by first | (dsimp only; omega) | (simp only [World.size_alloc]; omega) | (with_reducible refine Gr.size ?_; (repeat (first | with_reducible exact Gr.refl _ | with_reducible assumption | with_reducible refine Gr.alloc ?_ _ | with_reducible refine Gr.drewN ?_ _ | with_reducible refine Gr.drew ?_ | with_reducible refine Gr.trans ?_ (by with_reducible assumption))); done)) _ | with_reducible refine Gr.trans ?_ (by with_reducible assumption)))⟩
        · rw [show (y.an == a) = false by simpa using hya] at HB
          by_cases hn0 : cutI t.en a = 0
          · rw [dedV_zero HY.out hya hn0]
            rw [hn0] at HB hn
            have HB' := HB
            clear HY hey hya hn0
            have hl0 : 0 < t.en.length := hn
            go_enter Tryz.func16, Tryz.ntmps16
            go_wp2_with fail
            refine (HV.out _ (by repeat (first | with_reducible exact Gr.refl _ | with_reducible assumption | with_reducible refine Gr.alloc ?_ _ | with_reducible refine Gr.drewN ?_ _ | with_reducible refine Gr.drew ?_ | with_reducible refine Gr.setCell ?_ (by first | (dsimp only; omega) | (simp only [World.size_alloc]; omega) | (with_reducible refine Gr.size ?_; (repeat (first | with_reducible exact Gr.refl _ | with_reducible assumption | with_reducible refine Gr.alloc ?_ _ | with_reducible refine Gr.drewN ?_ _ | with_reducible refine Gr.drew ?_ | with_reducible refine Gr.trans ?_ (by with_reducible assumption))); done)) _ | with_reducible refine Gr.trans ?_ (by with_reducible assumption)))).mono ?_
            rintro e w1 ⟨rfl, g1⟩
            obtain ⟨X1, Y1, c1, f1⟩ := g1.use
            have z1 := g1.size
            simp only [World.size_alloc] at z1
            have l1 : w.heap.size + 1 < w1.heap.size := by omega
            have l0 : w.heap.size < w1.heap.size := by omega
            go_wp2_with (first | (go_at_call 34; refine (fvalidAngle_any _ _).mono ?_; rintro e w1 ⟨rfl, rfl⟩))
            refine (HB.out _ (by repeat (first | with_reducible exact Gr.refl _ | with_reducible assumption | with_reducible refine Gr.alloc ?_ _ | with_reducible refine Gr.drewN ?_ _ | with_reducible refine Gr.drew ?_ | with_reducible refine Gr.setCell ?_ (by first | (dsimp only; omega) | (simp only [World.size_alloc]; omega) | (with_reducible refine Gr.size ?_; (repeat (first | with_reducible exact Gr.refl _ | with_reducible assumption | with_reducible refine Gr.alloc ?_ _ | with_reducible refine Gr.drewN ?_ _ | with_reducible refine Gr.drew ?_ | with_reducible refine Gr.trans ?_ (by with_reducible assumption))); done)) _ | with_reducible refine Gr.trans ?_ (by with_reducible assumption)))).mono ?_
            rintro e w2 ⟨rfl, g2⟩
            obtain ⟨X2, Y2, c2, f2⟩ := g2.use
            have z2 := g2.size
            have m1 : w.heap.size + 1 < w2.heap.size := by omega
            have m0 : w.heap.size < w2.heap.size := by omega
            have hb2 : b < w2.heap.size := by omega
            have hb1 : b < w1.heap.size := by omega
            go_wp2_with fail
            refine bodyPost_ret (v := trV (0, 0, 5)) (by simp [results, Tryz.results16, go_sem, *]) rfl ⟨rfl, (by repeat (first | with_reducible exact Gr.refl _ | with_reducible assumption | with_reducible refine Gr.alloc ?_ _ | with_reducible refine Gr.drewN ?_ _ | with_reducible refine Gr.drew ?_ | with_reducible refine Gr.setCell ?_ (by first | (dsimp only; omega) | (simp only [World.size_alloc]; omega) | (with_reducible refine Gr.size ?_; (repeat (first | with_reducible exact Gr.refl _ | with_reducible assumption | with_reducible refine Gr.alloc ?_ _ | with_reducible refine Gr.drewN ?_ _ | with_reducible refine Gr.drew ?_ | with_reducible refine Gr.trans ?_ (by with_reducible assumption))); done)) _ | with_reducible refine Gr.trans ?_ (by with_reducible assumption)))⟩
          · obtain ⟨n, hn'⟩ : ∃ n : Nat, cutI t.en a = n + 1 := ⟨cutI t.en a - 1, by omega⟩
            obtain ⟨x, hx⟩ : ∃ x, t.en[n]? = some x := ⟨_, List.getElem?_eq_getElem (by omega)⟩
            have hx' : t.en[cutI t.en a - 1]? = some x := by rw [hn']; exact hx
            rw [dedV_mid HY.out hya hn0 hx']
            have hex := HEN.out _ _ hx
            have hxa : x.an < a := cut_lt (by omega) hx
            have hay : a < y.an := by have := cut_at HY.out; omega
            obtain ⟨hra, -⟩ := be_ok hex hey hxa hay
            have HBE := hide (fun w => between_any x y a w hex hey hxa hay)
            have HR := hide (fun w => Reduce_any (beN x y a) (beD x y) w)
            rw [show redV (beN x y a) (beD x y) = (rdN (beN x y a) (beD x y), rdD (beN x y a) (beD x y), 0) by unfold redV; rw [hra]; rfl] at HR
            obtain ⟨b', off', hA, x0, x1, x2⟩ := HF.out.rd.en hx
            obtain ⟨rfl, rfl⟩ : b = b' ∧ off = off' := by simpa using hA
            clear hA HY hey hya hn0 hra hx' hex hxa hay hx
            rw [hn'] at HB y0 y1 y2 hn
            clear hn'
            generalize rdN (beN x y a) (beD x y) = rn at *
            generalize rdD (beN x y a) (beD x y) = rd at *
            generalize beN x y a = bn at *
            generalize beD x y = bd at *
            have W1 : IntKind.i64.wrap ((n : Int) + 1 - 1) = (n : Int) := by rw [IntWalk.i64_in _ (by omega)]; omega
            have hk0 : (0 : Int) ≤ (n : Int) + 1 := by omega
            have hk1 : (n : Int) + 1 < (t.en.length : Int) := by omega
            have q1 : ((n : Int) + 1 == 0) = false := by rw [beq_eq_false_iff_ne]; omega
            have q2 : ((n : Int) + 1 == (t.en.length : Int)) = false := by rw [beq_eq_false_iff_ne]; omega
            have hk2 : (0 : Int) ≤ (n : Int) := by omega
            have hk3 : (n : Int) < (t.en.length : Int) := by omega
            go_enter Tryz.func16, Tryz.ntmps16
            go_wp2_with fail
            refine (HV.out _ (by repeat (first | with_reducible exact Gr.refl _ | with_reducible assumption | with_reducible refine Gr.alloc ?_ _ | with_reducible refine Gr.drewN ?_ _ | with_reducible refine Gr.drew ?_ | with_reducible refine Gr.setCell ?_ (by first | (dsimp only; omega) | (simp only [World.size_alloc]; omega) | (with_reducible refine Gr.size ?_; (repeat (first | with_reducible exact Gr.refl _ | with_reducible assumption | with_reducible refine Gr.alloc ?_ _ | with_reducible refine Gr.drewN ?_ _ | with_reducible refine Gr.drew ?_ | with_reducible refine Gr.trans ?_ (by with_reducible assumption))); done)) _ | with_reducible refine Gr.trans ?_ (by with_reducible assumption)))).mono ?_
            rintro e w1 ⟨rfl, g1⟩
            obtain ⟨X1, Y1, c1, f1⟩ := g1.use
            have z1 := g1.size
            simp only [World.size_alloc] at z1
            have l1 : w.heap.size + 1 < w1.heap.size := by omega
            have l0 : w.heap.size < w1.heap.size := by omega
            go_wp2_with (first | (go_at_call 34; refine (fvalidAngle_any _ _).mono ?_; rintro e w1 ⟨rfl, rfl⟩))
            refine (HB.out _ (by repeat (first | with_reducible exact Gr.refl _ | with_reducible assumption | with_reducible refine Gr.alloc ?_ _ | with_reducible refine Gr.drewN ?_ _ | with_reducible refine Gr.drew ?_ | with_reducible refine Gr.setCell ?_ (by first | (dsimp only; omega) | (simp only [World.size_alloc]; omega) | (with_reducible refine Gr.size ?_; (repeat (first | with_reducible exact Gr.refl _ | with_reducible assumption | with_reducible refine Gr.alloc ?_ _ | with_reducible refine Gr.drewN ?_ _ | with_reducible refine Gr.drew ?_ | with_reducible refine Gr.trans ?_ (by with_reducible assumption))); done)) _ | with_reducible refine Gr.trans ?_ (by with_reducible assumption)))).mono ?_
            rintro e w2 ⟨rfl, g2⟩
            obtain ⟨X2, Y2, c2, f2⟩ := g2.use
            have z2 := g2.size
            have m1 : w.heap.size + 1 < w2.heap.size := by omega
            have m0 : w.heap.size < w2.heap.size := by omega
            have hb2 : b < w2.heap.size := by omega
            have hb1 : b < w1.heap.size := by omega
            go_upto_region 11 with fail
            have GC := @GrW.cell
            refine wp_region_grw_tail _ 16 (by kernel_rfl) (by kernel_rfl) (Gr.refl _) ?_
            simp only [List.take_succ_cons, List.take_zero, List.drop_succ_cons, List.drop_zero]
            repeat (go_big_quiet_step ((first | (go_at_call 38; exact quiet_grw (HBE.out _)) | (go_at_call 21; exact quiet_grw (HR.out _)))))
            refine wpQuiet_nil ?_
            intro wq hwq
            obtain ⟨gq, hwq'⟩ := hwq
            subst hwq'
            clear GC
            have gq1 := gq.gr
            generalize gq.w = wq at gq1 ⊢
            obtain ⟨Xq, Yq, cq, fq⟩ := gq1.use
            have sq := gq1.size
            (try simp only [World.size_alloc, World.size_setCell, World.heap_drewN] at sq)
            go_wp2
            refine bodyPost_ret (v := trV (rn, rd, 0)) (by simp [results, Tryz.results16, go_sem, *]) rfl ⟨rfl, (by repeat (first | with_reducible exact Gr.refl _ | with_reducible assumption | with_reducible refine Gr.alloc ?_ _ | with_reducible refine Gr.drewN ?_ _ | with_reducible refine Gr.drew ?_ | with_reducible refine Gr.setCell ?_ (by first | (dsimp only; omega) | (simp only [World.size_alloc]; omega) | (with_reducible refine Gr.size ?_; (repeat (first | with_reducible exact Gr.refl _ | with_reducible assumption | with_reducible refine Gr.alloc ?_ _ | with_reducible refine Gr.drewN ?_ _ | with_reducible refine Gr.drew ?_ | with_reducible refine Gr.trans ?_ (by with_reducible assumption))); done)) _ | with_reducible refine Gr.trans ?_ (by with_reducible assumption)))⟩
  · rw [h0] at HV
    rw [dedA_bad h0]
    clear h0
    go_enter Tryz.func16, Tryz.ntmps16
    go_wp2_with fail
    refine (HV.out _ (by repeat (first | with_reducible exact Gr.refl _ | with_reducible assumption | with_reducible refine Gr.alloc ?_ _ | with_reducible refine Gr.drewN ?_ _ | with_reducible refine Gr.drew ?_ | with_reducible refine Gr.setCell ?_ (by first | (dsimp only; omega) | (simp only [World.size_alloc]; omega) | (with_reducible refine Gr.size ?_; (repeat (first | with_reducible exact Gr.refl _ | with_reducible assumption | with_reducible refine Gr.alloc ?_ _ | with_reducible refine Gr.drewN ?_ _ | with_reducible refine Gr.drew ?_ | with_reducible refine Gr.trans ?_ (by with_reducible assumption))); done)) _ | with_reducible refine Gr.trans ?_ (by with_reducible assumption)))).mono ?_
    rintro e w1 ⟨rfl, g1⟩
    obtain ⟨X1, Y1, c1, f1⟩ := g1.use
    have z1 := g1.size
    simp only [World.size_alloc] at z1
    have l1 : w.heap.size + 1 < w1.heap.size := by omega
    have l0 : w.heap.size < w1.heap.size := by omega
    go_wp2_with fail
    refine bodyPost_ret (v := trV (0, 0, 9)) (by simp [results, Tryz.results16, go_sem, *]) rfl ⟨rfl, (by repeat (first | with_reducible exact Gr.refl _ | with_reducible assumption | with_reducible refine Gr.alloc ?_ _ | with_reducible refine Gr.drewN ?_ _ | with_reducible refine Gr.drew ?_ | with_reducible refine Gr.setCell ?_ (by first | (dsimp only; omega) | (simp only [World.size_alloc]; omega) | (with_reducible refine Gr.size ?_; (repeat (first | with_reducible exact Gr.refl _ | with_reducible assumption | with_reducible refine Gr.alloc ?_ _ | with_reducible refine Gr.drewN ?_ _ | with_reducible refine Gr.drew ?_ | with_reducible refine Gr.trans ?_ (by with_reducible assumption))); done)) _ | with_reducible refine Gr.trans ?_ (by with_reducible assumption)))⟩
end Go.Proofs.YtjnfodbniohkhaaGreat
set_option linter.unusedVariables false
set_option linter.unusedSimpArgs false
namespace Go.Proofs.YtjnfodbniohkhaaGreat
set_option linter.unusedVariables false
set_option linter.unusedSimpArgs false
open Go Go.ChangeShapes Go.WideShapes Go.ChangeAt Go.RowKit Go.Deep

theorem eq_bn' {x y : Int} (h : x = y) : (x != y) = false := by
  unfold bne
  rw [h, beq_self_eq_true]
  rfl
theorem etB_bad {l : Int} {x : En} (h : enB x = false) : etB l x = false := by
  unfold etB
  rw [h, Bool.and_false]
theorem enB_ang {x : En} (h : a6B x.an = false) : enB x = false := by
  unfold enB
  rw [h]
  rfl
theorem enB_den {x : En} (h : dnB x.dn = false) : enB x = false := by
  unfold enB
  rw [h]
  simp
theorem enB_num {x : En} (h : wiB x.nm 0 (20 * x.dn) = false) : enB x = false := by
  unfold enB
  rw [h]
  simp
theorem etB_good {l : Int} {x : En} (h0 : l < x.an) (h1 : a6B x.an = true) (h2 : dnB x.dn = true) (h3 : wiB x.nm 0 (20 * x.dn) = true) : etB l x = true := by
  unfold etB enB
  rw [h1, h2, h3]
  simpa using h0
theorem a6_no1 {a : Int} (h : wiB a 30 180 = false) : a6B a = false := by
  rw [← Bool.not_eq_true, a6_mod]
  rw [← Bool.not_eq_true, wiB_iff] at h
  omega
theorem a6_no2 {a : Int} (h : wiB a 30 180 = true) (k : ¬ a.tmod 30 = 0) : a6B a = false := by
  rw [← Bool.not_eq_true, a6_mod]
  rw [wiB_iff] at h
  rw [Int.tmod_eq_emod_of_nonneg (by omega)] at k
  omega
theorem a6_yes {a : Int} (h : wiB a 30 180 = true) (k : a.tmod 30 = 0) : a6B a = true := by
  rw [a6_mod]
  rw [wiB_iff] at h
  rw [Int.tmod_eq_emod_of_nonneg (by omega)] at k
  omega
theorem dn_no1 {a : Int} (h : wiB a 1 12 = false) : dnB a = false := by
  rw [← Bool.not_eq_true, dn_mod]
  rw [← Bool.not_eq_true, wiB_iff] at h
  omega
theorem dn_no2 {a : Int} (h : wiB a 1 12 = true) (k : ¬ (12 : Int).tmod a = 0) : dnB a = false := by
  rw [← Bool.not_eq_true, dn_mod]
  rw [Int.tmod_eq_emod_of_nonneg (by omega)] at k
  omega
theorem dn_yes {a : Int} (h : wiB a 1 12 = true) (k : (12 : Int).tmod a = 0) : dnB a = true := by
  rw [dn_mod]
  rw [wiB_iff] at h
  rw [Int.tmod_eq_emod_of_nonneg (by omega)] at k
  omega
end Go.Proofs.YtjnfodbniohkhaaGreat
set_option linter.unusedVariables false
set_option linter.unusedSimpArgs false
namespace Go.Proofs.YtjnfodbniohkhaaGreat
set_option linter.unusedVariables false
set_option linter.unusedSimpArgs false
open Go Go.ChangeShapes Go.WideShapes Go.ChangeAt Go.RowKit Go.Deep

/-- the reference's two places behind k entries -/
def loI (l : List En) (a : Int) (k : Nat) : Int := (if k ≤ cutI l a then (k : Int) else if fdB l a then (cutI l a : Int) + 1 else (cutI l a : Int)) - 1
def hiI (l : List En) (a : Int) (k : Nat) : Int := if k ≤ cutI l a then -1 else (cutI l a : Int)
theorem lohi_low {l : List En} {a : Int} {k : Nat} (h : k < cutI l a) : loI l a (k + 1) = k ∧ hiI l a (k + 1) = hiI l a k := by
  unfold loI hiI
  rw [if_pos (by omega), if_pos (by omega), if_pos (by omega)]
  omega
theorem lohi_eq {l : List En} {a : Int} {x : En} (hx : l[cutI l a]? = some x) (h : x.an = a) : loI l a (cutI l a + 1) = cutI l a ∧ hiI l a (cutI l a) = -1 ∧ hiI l a (cutI l a + 1) = cutI l a := by
  have hf : fdB l a = true := by rw [fdB_some hx]; simpa using h
  unfold loI hiI
  rw [if_neg (by omega), hf, if_pos rfl, if_pos (by omega), if_neg (by omega)]
  omega
theorem lohi_gt {l : List En} {a : Int} {x : En} (hx : l[cutI l a]? = some x) (h : ¬ x.an = a) : loI l a (cutI l a + 1) = loI l a (cutI l a) ∧ hiI l a (cutI l a) = -1 ∧ hiI l a (cutI l a + 1) = cutI l a := by
  have hf : fdB l a = false := by rw [fdB_some hx]; simpa using h
  have h1 : ¬ cutI l a + 1 ≤ cutI l a := by omega
  have h2 : cutI l a ≤ cutI l a := Nat.le_refl _
  simp only [loI, hiI, if_neg h1, if_pos h2, hf, Bool.false_eq_true, if_false, and_self]
theorem lohi_up {l : List En} {a : Int} {k : Nat} (h : cutI l a < k) : loI l a (k + 1) = loI l a k ∧ hiI l a k = cutI l a ∧ hiI l a (k + 1) = cutI l a := by
  have h1 : ¬ k + 1 ≤ cutI l a := by omega
  have h2 : ¬ k ≤ cutI l a := by omega
  simp only [loI, hiI, if_neg h1, if_neg h2, and_self]
end Go.Proofs.YtjnfodbniohkhaaGreat
set_option linter.unusedVariables false
set_option linter.unusedSimpArgs false
namespace Go.Proofs.YtjnfodbniohkhaaGreat
set_option linter.unusedVariables false
set_option linter.unusedSimpArgs false
open Go Go.ChangeShapes Go.WideShapes Go.ChangeAt Go.RowKit Go.Deep

/-- whether a table is wide -/
def wdB (t : Tb) : Bool := decide (300 < t.mt.size) || decide (40 < t.en.length)
theorem wide_any (t : Tb) (A : Option Addr) (c : Nat) (w : World) (h1 : t.mt.size ≤ 9223372036854775807) (h2 : t.en.length ≤ 9223372036854775807) :
    Calls Tryz.prog 6 #[tbv t A c] w fun e w' => e = .returned (.bool (wdB t)) ∧ Gr w w' := by
  by_cases hm : 300 < t.mt.size
  · go_enter Tryz.func6, Tryz.ntmps6
    go_wp2
    go_ret
    exact ⟨ret_bool (by unfold wdB; first | (congr 1 <;> exact decide_eq_decide.mpr (by omega)) | (simp; omega)), (by repeat (first | with_reducible exact Gr.refl _ | with_reducible assumption | with_reducible refine Gr.alloc ?_ _ | with_reducible refine Gr.drewN ?_ _ | with_reducible refine Gr.drew ?_ | with_reducible refine Gr.setCell ?_ (by first | (dsimp only; omega) | (simp only [World.size_alloc]; omega) | (with_reducible refine Gr.size ?_; (repeat (first | with_reducible exact Gr.refl _ | with_reducible assumption | with_reducible refine Gr.alloc ?_ _ | with_reducible refine Gr.drewN ?_ _ | with_reducible refine Gr.drew ?_ | with_reducible refine Gr.trans ?_ (by with_reducible assumption))); done)) _ | with_reducible refine Gr.trans ?_ (by with_reducible assumption)))⟩
  · by_cases hn : 40 < t.en.length
    · go_enter Tryz.func6, Tryz.ntmps6
      go_wp2
      go_ret
      exact ⟨ret_bool (by unfold wdB; first | (congr 1 <;> exact decide_eq_decide.mpr (by omega)) | (simp; omega)), (by repeat (first | with_reducible exact Gr.refl _ | with_reducible assumption | with_reducible refine Gr.alloc ?_ _ | with_reducible refine Gr.drewN ?_ _ | with_reducible refine Gr.drew ?_ | with_reducible refine Gr.setCell ?_ (by first | (dsimp only; omega) | (simp only [World.size_alloc]; omega) | (with_reducible refine Gr.size ?_; (repeat (first | with_reducible exact Gr.refl _ | with_reducible assumption | with_reducible refine Gr.alloc ?_ _ | with_reducible refine Gr.drewN ?_ _ | with_reducible refine Gr.drew ?_ | with_reducible refine Gr.trans ?_ (by with_reducible assumption))); done)) _ | with_reducible refine Gr.trans ?_ (by with_reducible assumption)))⟩
    · go_enter Tryz.func6, Tryz.ntmps6
      go_wp2
      go_ret
      exact ⟨ret_bool (by unfold wdB; first | (congr 1 <;> exact decide_eq_decide.mpr (by omega)) | (simp; omega)), (by repeat (first | with_reducible exact Gr.refl _ | with_reducible assumption | with_reducible refine Gr.alloc ?_ _ | with_reducible refine Gr.drewN ?_ _ | with_reducible refine Gr.drew ?_ | with_reducible refine Gr.setCell ?_ (by first | (dsimp only; omega) | (simp only [World.size_alloc]; omega) | (with_reducible refine Gr.size ?_; (repeat (first | with_reducible exact Gr.refl _ | with_reducible assumption | with_reducible refine Gr.alloc ?_ _ | with_reducible refine Gr.drewN ?_ _ | with_reducible refine Gr.drew ?_ | with_reducible refine Gr.trans ?_ (by with_reducible assumption))); done)) _ | with_reducible refine Gr.trans ?_ (by with_reducible assumption)))⟩
end Go.Proofs.YtjnfodbniohkhaaGreat
set_option linter.unusedVariables false
set_option linter.unusedSimpArgs false
namespace Go.Proofs.YtjnfodbniohkhaaGreat
set_option linter.unusedVariables false
set_option linter.unusedSimpArgs false
open Go Go.ChangeShapes Go.WideShapes Go.ChangeAt Go.RowKit Go.Deep

theorem ra_red {n d : Int} (h : raB n d = true) : raB (rdN n d) (rdD n d) = true := by
  obtain ⟨h1, h2⟩ := raB_iff.1 h
  have e1 := rdN_mul n d
  have e2 := rdD_mul n d
  have g1 := gn_pos (n := n) h2.1
  have p := rdD_pos (n := n) h2.1
  generalize rdN n d = x at *
  generalize rdD n d = y at *
  generalize gn n d = g at *
  have a1 : y * 1 ≤ y * g := Int.mul_le_mul_of_nonneg_left g1 (by omega)
  have a2 : x ≤ 16777216 := by
    rcases Int.lt_or_le 0 x with h | h
    · have : x * 1 ≤ x * g := Int.mul_le_mul_of_nonneg_left g1 (by omega)
      omega
    · omega
  have a3 : -16777216 ≤ x := by
    rcases Int.lt_or_le x 0 with h | h
    · have : (-x) * 1 ≤ (-x) * g := Int.mul_le_mul_of_nonneg_left g1 (by omega)
      simp only [Int.neg_mul] at this
      omega
    · omega
  exact raB_iff.2 ⟨⟨a3, a2⟩, p, by omega⟩
theorem tik_red {n d m : Int} (h : raB n d = true) (e : m * d = n * 720) : tikV (rdN n d) (rdD n d) = (m, 0) := by
  have h2 := (raB_iff.1 h).2
  have hr := ra_red h
  have e1 := rdN_mul n d
  have e2 := rdD_mul n d
  have g1 := gn_pos (n := n) h2.1
  have p := rdD_pos (n := n) h2.1
  have key : m * rdD n d = rdN n d * 720 := by
    generalize rdN n d = x at *
    generalize rdD n d = y at *
    generalize gn n d = g at *
    have : g * (m * y) = g * (x * 720) := by
      have f1 : g * (m * y) = m * (y * g) := by grind
      have f2 : g * (x * 720) = (x * g) * 720 := by grind
      rw [f1, f2, e1, e2, e]
    exact Int.eq_of_mul_eq_mul_left (by omega) this
  obtain ⟨u1, u2⟩ := tik_at p key
  unfold tikV
  rw [hr, if_pos rfl, if_pos u1, u2]
/-- the ticks of an entry -/
def tkI (x : En) : Int := twI x * 60
theorem tk_mul {x : En} (h : enB x = true) : tkI x * x.dn = x.nm * 720 := by
  obtain ⟨_, h1, _⟩ := enB_use h
  unfold tkI
  rw [tw_eq h1]
  rcases h1 with h | h | h | h | h | h <;> rw [h] <;> omega
theorem tk_tik {x : En} (h : enB x = true) : tikV x.nm x.dn = (tkI x, 0) := by
  obtain ⟨hr, _, h2⟩ := en_ra h
  obtain ⟨u1, u2⟩ := tik_at h2.1 (tk_mul h)
  unfold tikV
  rw [hr, if_pos rfl, if_pos u1, u2]
theorem tk_bd {x : En} (h : enB x = true) : 0 ≤ tkI x ∧ tkI x ≤ 14400 := by
  have := tw_bd h
  unfold tkI
  omega
/-- the ticks of a deduction between two entries -/
theorem mid_tik {x y : En} {a : Int} (hx : enB x = true) (hy : enB y = true) (ha : a6B a = true) (h1 : x.an < a) (h2 : a < y.an) :
    ∃ n : Int, tikV (rdN (beN x y a) (beD x y)) (rdD (beN x y a) (beD x y)) = (n, 0) ∧ (0 ≤ n ∧ n ≤ 14400) ∧ ((tkI x ≤ n ∧ n ≤ tkI y) ∨ (tkI y ≤ n ∧ n ≤ tkI x)) := by
  obtain ⟨hr, _⟩ := be_ok hx hy h1 h2
  have t1 := tw_bd hx
  have t2 := tw_bd hy
  have a1 : a6B x.an = true := by unfold enB at hx; simp only [Bool.and_eq_true] at hx; exact hx.1.1
  have a2 : a6B y.an = true := by unfold enB at hy; simp only [Bool.and_eq_true] at hy; exact hy.1.1
  rw [a6_mod] at a1 a2 ha
  obtain ⟨u, hu⟩ : ∃ u : Int, y.an - a = 30 * u := ⟨(y.an - a) / 30, by omega⟩
  obtain ⟨v, hv⟩ : ∃ v : Int, a - x.an = 30 * v := ⟨(a - x.an) / 30, by omega⟩
  have hN : beN x y a = twI x * (30 * u) + twI y * (30 * v) := by unfold beN; rw [hu, hv]
  have hD : beD x y = 12 * (30 * (u + v)) := by unfold beD; omega
  rw [hN, hD] at hr ⊢
  unfold tkI
  generalize twI x = p at *
  generalize twI y = q at *
  have go : ∀ n : Int, n * (12 * (30 * (u + v))) = (p * (30 * u) + q * (30 * v)) * 720 → (0 ≤ n ∧ n ≤ 14400) → ((p * 60 ≤ n ∧ n ≤ q * 60) ∨ (q * 60 ≤ n ∧ n ≤ p * 60)) →
      ∃ n : Int, tikV (rdN (p * (30 * u) + q * (30 * v)) (12 * (30 * (u + v)))) (rdD (p * (30 * u) + q * (30 * v)) (12 * (30 * (u + v)))) = (n, 0) ∧ (0 ≤ n ∧ n ≤ 14400) ∧ ((p * 60 ≤ n ∧ n ≤ q * 60) ∨ (q * 60 ≤ n ∧ n ≤ p * 60)) := fun n e1 e2 e3 => ⟨n, tik_red hr e1, e2, e3⟩
  clear hN hD hr hx hy
  have hu' : u = 1 ∨ u = 2 ∨ u = 3 ∨ u = 4 := by omega
  have hv' : v = 1 ∨ v = 2 ∨ v = 3 ∨ v = 4 := by omega
  have huv : u + v ≤ 5 := by omega
  clear hu hv a1 a2 ha h1 h2
  rcases hu' with rfl | rfl | rfl | rfl <;> rcases hv' with rfl | rfl | rfl | rfl <;> first
    | (exfalso; omega)
    | exact go (30 * (p * 1 + q * 1)) (by omega) (by omega) (by omega)
    | exact go (20 * (p * 1 + q * 2)) (by omega) (by omega) (by omega)
    | exact go (20 * (p * 2 + q * 1)) (by omega) (by omega) (by omega)
    | exact go (15 * (p * 1 + q * 3)) (by omega) (by omega) (by omega)
    | exact go (15 * (p * 3 + q * 1)) (by omega) (by omega) (by omega)
    | exact go (15 * (p * 2 + q * 2)) (by omega) (by omega) (by omega)
    | exact go (12 * (p * 1 + q * 4)) (by omega) (by omega) (by omega)
    | exact go (12 * (p * 4 + q * 1)) (by omega) (by omega) (by omega)
    | exact go (12 * (p * 2 + q * 3)) (by omega) (by omega) (by omega)
    | exact go (12 * (p * 3 + q * 2)) (by omega) (by omega) (by omega)
theorem ded_err {t : Tb} {a d1 d2 e : Int} (h : dedA t a = (d1, d2, e)) (he : ¬ e = 0) : d1 = 0 ∧ d2 = 0 := by
  unfold dedA at h
  split at h
  · simp at h; omega
  split at h
  · simp at h; omega
  unfold dedV at h
  split at h
  · simp at h; omega
  split at h
  · simp at h; omega
  split at h
  · simp at h; omega
  split at h
  · simp at h; omega
  · simp at h; omega
/-- what a deduction has -/
structure Ded (t : Tb) (a d1 d2 n : Int) (y : En) : Prop where
  ok : okB t.en t.en.length = true
  len : 1 ≤ t.en.length ∧ t.en.length ≤ 6
  tik : tikV d1 d2 = (n, 0)
  nn : 0 ≤ n ∧ n ≤ 14400
  at_ : t.en[cutI t.en a]? = some y
  or : (y.an = a ∧ n = tkI y) ∨ (¬ y.an = a ∧ ∃ j x, cutI t.en a = j + 1 ∧ t.en[j]? = some x ∧ ((tkI x ≤ n ∧ n ≤ tkI y) ∨ (tkI y ≤ n ∧ n ≤ tkI x)))
theorem ded_ok {t : Tb} {a d1 d2 : Int} (h : dedA t a = (d1, d2, 0)) : ∃ n y, Ded t a d1 d2 n y := by
  rcases tbE_cases t with h0 | h0
  · obtain ⟨k1, k2⟩ := tbE_ok h0
    cases ha : a6B a with
    | false => rw [dedA_ang h0 ha] at h; simp at h
    | true =>
      rw [dedA_good h0 ha] at h
      cases hy : t.en[cutI t.en a]? with
      | none => rw [dedV_none hy] at h; simp at h
      | some y =>
        have hey := en_of k2 hy
        by_cases hya : y.an = a
        · rw [dedV_found hy hya] at h
          simp only [Prod.mk.injEq, and_true] at h
          obtain ⟨rfl, rfl⟩ := h
          exact ⟨tkI y, y, k2, hdB_len k1, tik_red (en_ra hey).1 (tk_mul hey), tk_bd hey, hy, .inl ⟨hya, rfl⟩⟩
        · by_cases hn0 : cutI t.en a = 0
          · rw [dedV_zero hy hya hn0] at h; simp at h
          · obtain ⟨j, hj⟩ : ∃ j : Nat, cutI t.en a = j + 1 := ⟨cutI t.en a - 1, by omega⟩
            have hlt := (List.getElem?_eq_some_iff.1 hy).1
            obtain ⟨x, hx⟩ : ∃ x, t.en[j]? = some x := ⟨_, List.getElem?_eq_getElem (by omega)⟩
            rw [dedV_mid hy hya hn0 (by rw [hj]; exact hx)] at h
            simp only [Prod.mk.injEq, and_true] at h
            obtain ⟨rfl, rfl⟩ := h
            have hxa : x.an < a := cut_lt (by omega) hx
            have hay : a < y.an := by have := cut_at hy; omega
            obtain ⟨n, e1, e2, e3⟩ := mid_tik (en_of k2 hx) hey ha hxa hay
            exact ⟨n, y, k2, hdB_len k1, e1, e2, hy, .inr ⟨hya, j, x, hj, hx, e3⟩⟩
  · rw [dedA_bad h0] at h; simp at h
end Go.Proofs.YtjnfodbniohkhaaGreat
