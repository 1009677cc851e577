/-
  Rationals: what both sides' reduction returns.
  Rationals, plain: reduction, sums, comparison and ticks.
  Sums of rationals, plain: what the law of FlatAdds needs.
  Rationals: what the functions of both sides return.
  Rationals: the exported functions of both sides; what the law's known returns.
  Rationals: ticks; the law's known; FlatRationals: the walk.
-/
import Derived.Test.YtjnfodbniohkhaaGreatName3
import Derived.IntWalk
import Derived.Deep.DeepCutAuto
import Derived.StillTactics
import Derived.Test.YtjnfodbniohkhaaGreatTail
import Derived.Laws.StructEq
set_option linter.unusedVariables false
set_option linter.unusedSimpArgs false
namespace Go.Proofs.YtjnfodbniohkhaaGreat
set_option linter.unusedVariables false
set_option linter.unusedSimpArgs false
open Go Go.ChangeShapes Go.WideShapes Go.ChangeAt Go.RowKit Go.Deep

abbrev ra (n d : Int) : Value := .agg #[iv n, iv d]
theorem fwithin_any (n lo hi : Int) (w : World) :
    Calls Tryz.prog 41 #[iv n, iv lo, iv hi] w fun e w' => e = .returned (.bool (wiB n lo hi)) ∧ w = w' := by
  go_enter Tryz.func41, Tryz.ntmps41
  go_wp2
  all_goals
    go_ret
    exact ⟨ret_bool (by simp [wiB]; omega), rfl⟩
theorem ret_iv' {a b : Int} (h : a = b) : Ending.returned (iv a) = .returned (iv b) := by rw [h]
def raB (n d : Int) : Bool := wiB n (-16777216) 16777216 && wiB d 1 4096
theorem raB_iff {n d : Int} : raB n d = true ↔ (-16777216 ≤ n ∧ n ≤ 16777216) ∧ 1 ≤ d ∧ d ≤ 4096 := by simp [raB, wiB]
theorem validRat_any (n d : Int) (w : World) :
    Calls Tryz.prog 39 #[ra n d] w fun e w' => e = .returned (.bool (raB n d)) ∧ Gr w w' := by
  go_enter Tryz.func39, Tryz.ntmps39
  go_wp2_with (go_at_call 41; refine (fwithin_any _ _ _ _).mono ?_; rintro e w1 ⟨rfl, rfl⟩)
  all_goals
    go_ret
    exact ⟨ret_bool (by simp [raB, *]), (by repeat (first | with_reducible exact Gr.refl _ | with_reducible assumption | with_reducible refine Gr.alloc ?_ _ | with_reducible refine Gr.drewN ?_ _ | with_reducible refine Gr.drew ?_ | with_reducible refine Gr.setCell ?_ (by first | (dsimp only; omega) | (simp only [World.size_alloc]; omega) | (with_reducible refine Gr.size ?_; (repeat (first | with_reducible exact Gr.refl _ | with_reducible assumption | with_reducible refine Gr.alloc ?_ _ | with_reducible refine Gr.drewN ?_ _ | with_reducible refine Gr.drew ?_ | with_reducible refine Gr.trans ?_ (by with_reducible assumption))); done)) _ | with_reducible refine Gr.trans ?_ (by with_reducible assumption)))⟩
set_option maxHeartbeats 1000000 in
theorem cd_any (m n : Nat) (w : World) (hn : n ≤ 1099511627776) (hm : m ≤ 1099511627776) :
    Calls Tryz.prog 72 #[iv m, iv n] w fun e w' => e = .returned (iv (Nat.gcd m n : Nat)) ∧ w = w' := by
  go_enter Tryz.func72, Tryz.ntmps72
  go_wp2
  go_loop [0, 1] (fun a b => ∃ (z : Int) (x y : Nat), a = iv z ∧ z = x ∧ b = iv y ∧ x ≤ 1099511627776 ∧ y ≤ 1099511627776 ∧ Hid (Nat.gcd x y = Nat.gcd m n)) (fun a _ => (intOf a).toNat)
  case atStart => exact ⟨m, m, n, rfl, rfl, rfl, hm, hn, rfl⟩
  case round =>
    obtain ⟨z, x, y, rfl, hz, rfl, hx, hy, HG⟩ := hrel
    by_cases h0 : x = 0
    · subst h0
      obtain rfl : z = 0 := by omega
      have HE := hide (show y = Nat.gcd m n by have := HG.out; rwa [Nat.gcd_zero_left] at this)
      clear HG hx hy hz hn hm
      go_wp2
      go_ret
      exact ⟨ret_iv' (by rw [HE.out]), rfl⟩
    · obtain rfl : z = (x : Int) := hz
      go_wp2
      go_round
      case rel => exact ⟨_, y % x, x, rfl, by omega, rfl, by have := Nat.mod_lt y (show 0 < x by omega); omega, hx, by have := HG.out; rw [← Nat.gcd_rec]; exact this⟩
      case measure => simp only [intOf]; have := Nat.mod_lt y (show 0 < x by omega); omega
end Go.Proofs.YtjnfodbniohkhaaGreat
set_option linter.unusedVariables false
set_option linter.unusedSimpArgs false
namespace Go.Proofs.YtjnfodbniohkhaaGreat
set_option linter.unusedVariables false
set_option linter.unusedSimpArgs false
open Go Go.ChangeShapes Go.WideShapes Go.ChangeAt Go.RowKit Go.Deep

/-- the greatest common divisor -/
def gn (n d : Int) : Int := (Nat.gcd n.natAbs d.natAbs : Nat)
def rdN (n d : Int) : Int := n.tdiv (gn n d)
def rdD (n d : Int) : Int := d.tdiv (gn n d)
theorem gn_pos {n d : Int} (h : 1 ≤ d) : 1 ≤ gn n d := by
  unfold gn
  have := Nat.gcd_pos_of_pos_right n.natAbs (show 0 < d.natAbs by omega)
  omega
theorem gn_le {n d : Int} (h : 1 ≤ d) : gn n d ≤ d := by
  unfold gn
  have := Nat.gcd_le_right n.natAbs (show 0 < d.natAbs by omega)
  omega
theorem rdN_mul (n d : Int) : rdN n d * gn n d = n := by
  unfold rdN
  exact Int.tdiv_mul_cancel (by unfold gn; exact Int.ofNat_dvd_left.2 (Nat.gcd_dvd_left _ _))
theorem rdD_mul (n d : Int) : rdD n d * gn n d = d := by
  unfold rdD
  exact Int.tdiv_mul_cancel (by unfold gn; exact Int.ofNat_dvd_left.2 (Nat.gcd_dvd_right _ _))
theorem rdD_pos {n d : Int} (h : 1 ≤ d) : 1 ≤ rdD n d := by
  have h1 := gn_pos (n := n) h
  have h2 := rdD_mul n d
  rcases Int.lt_or_le (rdD n d) 1 with h3 | h3
  · exfalso
    have : rdD n d * gn n d ≤ 0 * gn n d := Int.mul_le_mul_of_nonneg_right (by omega) (by omega)
    rw [h2, Int.zero_mul] at this
    omega
  · exact h3
/-- three numbers: those of a rational, and an error -/
abbrev R3 := Int × Int × Int
def redV (n d : Int) : R3 := if raB n d then (rdN n d, rdD n d, 0) else (0, 0, 1)
def adN (a b c d : Int) : Int := a * d + c * b
def adD (b d : Int) : Int := b * d
def addV (a b c d : Int) : R3 := if raB a b && raB c d then (if raB (rdN (adN a b c d) (adD b d)) (rdD (adN a b c d) (adD b d)) then (rdN (adN a b c d) (adD b d), rdD (adN a b c d) (adD b d), 0) else (0, 0, 4)) else (0, 0, 1)
def cmI (p q : Int) : Int := if p < q then -1 else if q < p then 1 else 0
def cmpV (a b c d : Int) : Int × Int := if raB a b && raB c d then (cmI (a * d) (c * b), 0) else (0, 1)
def tikV (n d : Int) : Int × Int := if raB n d then (if (n * 720).tmod d = 0 then ((n * 720).tdiv d, 0) else (0, 5)) else (0, 1)
theorem add_comm' (a b c d : Int) : addV a b c d = addV c d a b := by
  unfold addV
  rw [show adN a b c d = adN c d a b by unfold adN; omega, show adD b d = adD d b by unfold adD; exact Int.mul_comm _ _, Bool.and_comm]
theorem cm_mul {k p q : Int} (h : 0 < k) : cmI (k * p) (k * q) = cmI p q := by
  unfold cmI
  simp only [Int.mul_lt_mul_left h]
theorem cm_add (p q r : Int) : cmI (p + r) (q + r) = cmI p q := by
  unfold cmI
  grind
theorem cm_sum {an ad bn bd cn cd : Int} (h1 : 1 ≤ ad) (h2 : 1 ≤ bd) (h3 : 1 ≤ cd) :
    cmI (rdN (adN an ad bn bd) (adD ad bd) * rdD (adN cn cd bn bd) (adD cd bd)) (rdN (adN cn cd bn bd) (adD cd bd) * rdD (adN an ad bn bd) (adD ad bd)) = cmI (an * cd) (cn * ad) := by
  have d1 : 1 ≤ adD ad bd := Int.mul_pos (by omega) (by omega)
  have d2 : 1 ≤ adD cd bd := Int.mul_pos (by omega) (by omega)
  have e1 := rdN_mul (adN an ad bn bd) (adD ad bd)
  have e2 := rdD_mul (adN an ad bn bd) (adD ad bd)
  have e3 := rdN_mul (adN cn cd bn bd) (adD cd bd)
  have e4 := rdD_mul (adN cn cd bn bd) (adD cd bd)
  have p1 := gn_pos (n := adN an ad bn bd) d1
  have p2 := gn_pos (n := adN cn cd bn bd) d2
  generalize rdN (adN an ad bn bd) (adD ad bd) = x1 at *
  generalize rdD (adN an ad bn bd) (adD ad bd) = y1 at *
  generalize rdN (adN cn cd bn bd) (adD cd bd) = x2 at *
  generalize rdD (adN cn cd bn bd) (adD cd bd) = y2 at *
  generalize gn (adN an ad bn bd) (adD ad bd) = g1 at *
  generalize gn (adN cn cd bn bd) (adD cd bd) = g2 at *
  have hk : 0 < g1 * g2 := Int.mul_pos (by omega) (by omega)
  rw [← cm_mul hk]
  have f1 : g1 * g2 * (x1 * y2) = (bd * bd) * (an * cd) + bn * ad * cd * bd := by
    have : g1 * g2 * (x1 * y2) = (x1 * g1) * (y2 * g2) := by grind
    rw [this, e1, e4]
    unfold adN adD
    grind
  have f2 : g1 * g2 * (x2 * y1) = (bd * bd) * (cn * ad) + bn * ad * cd * bd := by
    have : g1 * g2 * (x2 * y1) = (x2 * g2) * (y1 * g1) := by grind
    rw [this, e3, e2]
    unfold adN adD
    grind
  rw [f1, f2, cm_add]
  exact cm_mul (Int.mul_pos (by omega) (by omega))
theorem tik_mul {n d : Int} (h : (n * 720).tmod d = 0) : (n * 720).tdiv d * d = n * 720 := by
  have := Int.tmod_add_mul_tdiv (n * 720) d
  rw [h, Int.zero_add] at this
  rw [Int.mul_comm]
  exact this
theorem tik_at {n d m : Int} (hd : 1 ≤ d) (h : m * d = n * 720) : (n * 720).tmod d = 0 ∧ (n * 720).tdiv d = m := by
  rw [← h]
  exact ⟨Int.mul_tmod_left _ _, Int.mul_tdiv_cancel _ (by omega)⟩
theorem tik_sum {an ad bn bd m n : Int} (h1 : 1 ≤ ad) (h2 : 1 ≤ bd) (ha : m * ad = an * 720) (hb : n * bd = bn * 720) :
    (m + n) * rdD (adN an ad bn bd) (adD ad bd) = rdN (adN an ad bn bd) (adD ad bd) * 720 := by
  have d1 : 1 ≤ adD ad bd := Int.mul_pos (by omega) (by omega)
  have e1 := rdN_mul (adN an ad bn bd) (adD ad bd)
  have e2 := rdD_mul (adN an ad bn bd) (adD ad bd)
  have p1 := gn_pos (n := adN an ad bn bd) d1
  generalize rdN (adN an ad bn bd) (adD ad bd) = x1 at *
  generalize rdD (adN an ad bn bd) (adD ad bd) = y1 at *
  generalize gn (adN an ad bn bd) (adD ad bd) = g1 at *
  have : g1 * ((m + n) * y1) = g1 * (x1 * 720) := by
    have f1 : g1 * ((m + n) * y1) = (m + n) * (y1 * g1) := by grind
    have f2 : g1 * (x1 * 720) = (x1 * g1) * 720 := by grind
    rw [f1, f2, e1, e2]
    unfold adN adD
    grind
  exact Int.eq_of_mul_eq_mul_left (by omega) this
end Go.Proofs.YtjnfodbniohkhaaGreat
set_option linter.unusedVariables false
set_option linter.unusedSimpArgs false
namespace Go.Proofs.YtjnfodbniohkhaaGreat
set_option linter.unusedVariables false
set_option linter.unusedSimpArgs false
open Go Go.ChangeShapes Go.WideShapes Go.ChangeAt Go.RowKit Go.Deep

theorem addV_ok {a b c d x y : Int} (h : addV a b c d = (x, y, 0)) : raB a b = true ∧ raB c d = true ∧ x = rdN (adN a b c d) (adD b d) ∧ y = rdD (adN a b c d) (adD b d) ∧ raB x y = true := by
  unfold addV at h
  split at h
  · rename_i h1
    split at h
    · rename_i h2
      simp only [Prod.mk.injEq] at h
      obtain ⟨rfl, rfl, _⟩ := h
      simp only [Bool.and_eq_true] at h1
      exact ⟨h1.1, h1.2, rfl, rfl, h2⟩
    · simp at h
  · simp at h
theorem cmpV_ok {a b c d s : Int} (h : cmpV a b c d = (s, 0)) : raB a b = true ∧ raB c d = true ∧ s = cmI (a * d) (c * b) := by
  unfold cmpV at h
  split at h
  · rename_i h1
    simp only [Prod.mk.injEq] at h
    simp only [Bool.and_eq_true] at h1
    exact ⟨h1.1, h1.2, h.1.symm⟩
  · simp at h
theorem tikV_ok {n d m : Int} (h : tikV n d = (m, 0)) : raB n d = true ∧ (n * 720).tmod d = 0 ∧ m = (n * 720).tdiv d := by
  unfold tikV at h
  split at h
  · rename_i h1
    split at h
    · rename_i h2
      simp only [Prod.mk.injEq] at h
      exact ⟨h1, h2, h.1.symm⟩
    · simp at h
  · simp at h
theorem adds_cmp {a b c d p q x1 x2 z1 z2 s : Int} (h1 : addV a b c d = (x1, x2, 0)) (h2 : addV p q c d = (z1, z2, 0)) (h3 : cmpV a b p q = (s, 0)) : cmpV x1 x2 z1 z2 = (s, 0) := by
  obtain ⟨r1, r2, e1, e2, r3⟩ := addV_ok h1
  obtain ⟨r4, r5, e3, e4, r6⟩ := addV_ok h2
  obtain ⟨_, _, e5⟩ := cmpV_ok h3
  obtain ⟨_, b1⟩ := raB_iff.1 r1
  obtain ⟨_, b2⟩ := raB_iff.1 r2
  obtain ⟨_, b4⟩ := raB_iff.1 r4
  unfold cmpV
  rw [r3, r6, e5, e1, e2, e3, e4]
  simp only [Bool.and_self, if_true]
  rw [cm_sum (by omega) (by omega) (by omega)]
theorem adds_tik {a b c d x1 x2 m n : Int} (h1 : addV a b c d = (x1, x2, 0)) (h2 : tikV a b = (m, 0)) (h3 : tikV c d = (n, 0)) : tikV x1 x2 = (m + n, 0) ∧ -9223372036854775808 ≤ m + n ∧ m + n ≤ 9223372036854775807 := by
  obtain ⟨r1, r2, e1, e2, r3⟩ := addV_ok h1
  obtain ⟨_, t1, t2⟩ := tikV_ok h2
  obtain ⟨_, t3, t4⟩ := tikV_ok h3
  obtain ⟨a1, b1⟩ := raB_iff.1 r1
  obtain ⟨a2, b2⟩ := raB_iff.1 r2
  have k1 := tik_mul t1
  have k2 := tik_mul t3
  rw [← t2] at k1
  rw [← t4] at k2
  have hs := tik_sum (an := a) (ad := b) (bn := c) (bd := d) b1.1 b2.1 k1 k2
  rw [← e1, ← e2] at hs
  obtain ⟨_, b3⟩ := raB_iff.1 r3
  obtain ⟨u1, u2⟩ := tik_at b3.1 hs
  have bm : ∀ {u v k : Int}, k * v = u * 720 → (-16777216 ≤ u ∧ u ≤ 16777216) → 1 ≤ v → -12079595520 ≤ k ∧ k ≤ 12079595520 := by
    intro u v k h hu hv
    have e : k = (u * 720).tdiv v := by rw [← h, Int.mul_tdiv_cancel _ (by omega)]
    have e2 := tdiv_eq_if (u * 720) v
    have q1 := Int.ediv_le_self (a := u * 720) v
    have q2 := Int.ediv_le_self (a := -(u * 720)) v
    have q3 := @Int.ediv_nonneg (u * 720) v
    have q4 := @Int.ediv_nonneg (-(u * 720)) v
    rw [e, e2]
    split
    · have := q1 (by omega); have := q3 (by omega) (by omega); omega
    · have := q2 (by omega); have := q4 (by omega) (by omega); omega
  have v1 := bm k1 a1 b1.1
  have v2 := bm k2 a2 b2.1
  refine ⟨?_, by omega, by omega⟩
  unfold tikV
  rw [r3, if_pos rfl, if_pos u1, u2]
end Go.Proofs.YtjnfodbniohkhaaGreat
set_option linter.unusedVariables false
set_option linter.unusedSimpArgs false
namespace Go.Proofs.YtjnfodbniohkhaaGreat
set_option linter.unusedVariables false
set_option linter.unusedSimpArgs false
open Go Go.ChangeShapes Go.WideShapes Go.ChangeAt Go.RowKit Go.Deep

theorem cd_pos (n d : Int) (w : World) (h0 : 0 ≤ n) (hn : n ≤ 1099511627776) (hd : 1 ≤ d) (hd2 : d ≤ 1099511627776) :
    Calls Tryz.prog 72 #[iv n, iv d] w fun e w' => e = .returned (iv (gn n d)) ∧ w = w' := by
  have := cd_any n.natAbs d.natAbs w (by omega) (by omega)
  rw [show (iv (n.natAbs : Int)) = iv n by congr 1; omega, show (iv (d.natAbs : Int)) = iv d by congr 1; omega] at this
  exact this
theorem cd_neg (n d : Int) (w : World) (h0 : n < 0) (hn : -1099511627776 ≤ n) (hd : 1 ≤ d) (hd2 : d ≤ 1099511627776) :
    Calls Tryz.prog 72 #[iv (-n), iv d] w fun e w' => e = .returned (iv (gn n d)) ∧ w = w' := by
  have := cd_any n.natAbs d.natAbs w (by omega) (by omega)
  rw [show (iv (n.natAbs : Int)) = iv (-n) by congr 1; omega, show (iv (d.natAbs : Int)) = iv d by congr 1; omega] at this
  exact this
set_option maxHeartbeats 1000000 in
theorem reduced_any (n d : Int) (w : World) (hn : -549755813888 ≤ n ∧ n ≤ 549755813888) (hd : 1 ≤ d ∧ d ≤ 16777216) :
    Calls Tryz.prog 51 #[ra n d] w fun e w' => e = .returned (ra (rdN n d) (rdD n d)) ∧ Gr w w' := by
  have hg := gn_pos (n := n) hd.1
  have hg2 := gn_le (n := n) hd.1
  have W1 : IntKind.i64.wrap (n.tdiv (gn n d)) = rdN n d := IntWalk.i64_quo' _ _ (by omega)
  have W2 : IntKind.i64.wrap (d.tdiv (gn n d)) = rdD n d := IntWalk.i64_quo' _ _ (by omega)
  have hz : ¬ gn n d = 0 := by omega
  have hz2 : (gn n d == 0) = false := by simpa using hz
  by_cases h0 : 0 ≤ n
  · have HC := hide (fun w => cd_pos n d w h0 (by omega) (by omega) (by omega))
    have hm : ¬ n < -n := by omega
    generalize gn n d = g at *
    generalize rdN n d = x at *
    generalize rdD n d = y at *
    go_enter Tryz.func51, Tryz.ntmps51
    go_upto_region 1 with fail
    go_wp2_with (go_at_call 72; refine (HC.out _).mono ?_; rintro e w1 ⟨rfl, rfl⟩)
    have GC := @GrW.cell
    refine wp_region_grw_tail _ 9 (by kernel_rfl) (by kernel_rfl) (Gr.refl _) ?_
    simp only [List.take_succ_cons, List.take_zero, List.drop_succ_cons, List.drop_zero]
    repeat (go_big_quiet_step ((first | fail)))
    refine wpQuiet_nil ?_
    intro wq hwq
    obtain ⟨gq, hwq'⟩ := hwq
    subst hwq'
    clear GC
    have gq1 := gq.gr
    generalize gq.w = wq at gq1 ⊢
    obtain ⟨Xq, Yq, cq, fq⟩ := gq1.use
    have sq := gq1.size
    (try simp only [World.size_alloc, World.size_setCell, World.heap_drewN] at sq)
    go_wp2
    refine bodyPost_ret (v := ra x y) (by simp [results, Tryz.results51, go_sem, cq, fq]) rfl ⟨rfl, (by repeat (first | with_reducible exact Gr.refl _ | with_reducible assumption | with_reducible refine Gr.alloc ?_ _ | with_reducible refine Gr.drewN ?_ _ | with_reducible refine Gr.drew ?_ | with_reducible refine Gr.setCell ?_ (by first | (dsimp only; omega) | (simp only [World.size_alloc]; omega) | (with_reducible refine Gr.size ?_; (repeat (first | with_reducible exact Gr.refl _ | with_reducible assumption | with_reducible refine Gr.alloc ?_ _ | with_reducible refine Gr.drewN ?_ _ | with_reducible refine Gr.drew ?_ | with_reducible refine Gr.trans ?_ (by with_reducible assumption))); done)) _ | with_reducible refine Gr.trans ?_ (by with_reducible assumption)))⟩
  · have HC := hide (fun w => cd_neg n d w (by omega) (by omega) (by omega) (by omega))
    have hm : n < -n := by omega
    generalize gn n d = g at *
    generalize rdN n d = x at *
    generalize rdD n d = y at *
    go_enter Tryz.func51, Tryz.ntmps51
    go_upto_region 1 with fail
    go_wp2_with (go_at_call 72; refine (HC.out _).mono ?_; rintro e w1 ⟨rfl, rfl⟩)
    have GC := @GrW.cell
    refine wp_region_grw_tail _ 9 (by kernel_rfl) (by kernel_rfl) (Gr.refl _) ?_
    simp only [List.take_succ_cons, List.take_zero, List.drop_succ_cons, List.drop_zero]
    repeat (go_big_quiet_step ((first | fail)))
    refine wpQuiet_nil ?_
    intro wq hwq
    obtain ⟨gq, hwq'⟩ := hwq
    subst hwq'
    clear GC
    have gq1 := gq.gr
    generalize gq.w = wq at gq1 ⊢
    obtain ⟨Xq, Yq, cq, fq⟩ := gq1.use
    have sq := gq1.size
    (try simp only [World.size_alloc, World.size_setCell, World.heap_drewN] at sq)
    go_wp2
    refine bodyPost_ret (v := ra x y) (by simp [results, Tryz.results51, go_sem, cq, fq]) rfl ⟨rfl, (by repeat (first | with_reducible exact Gr.refl _ | with_reducible assumption | with_reducible refine Gr.alloc ?_ _ | with_reducible refine Gr.drewN ?_ _ | with_reducible refine Gr.drew ?_ | with_reducible refine Gr.setCell ?_ (by first | (dsimp only; omega) | (simp only [World.size_alloc]; omega) | (with_reducible refine Gr.size ?_; (repeat (first | with_reducible exact Gr.refl _ | with_reducible assumption | with_reducible refine Gr.alloc ?_ _ | with_reducible refine Gr.drewN ?_ _ | with_reducible refine Gr.drew ?_ | with_reducible refine Gr.trans ?_ (by with_reducible assumption))); done)) _ | with_reducible refine Gr.trans ?_ (by with_reducible assumption)))⟩
end Go.Proofs.YtjnfodbniohkhaaGreat
set_option linter.unusedVariables false
set_option linter.unusedSimpArgs false
namespace Go.Proofs.YtjnfodbniohkhaaGreat
set_option linter.unusedVariables false
set_option linter.unusedSimpArgs false
open Go Go.ChangeShapes Go.WideShapes Go.ChangeAt Go.RowKit Go.Deep

theorem ret_pr {a b c d : Int} (h : a = b) (k : c = d) : Ending.returned (.tuple #[iv a, iv c]) = .returned (.tuple #[iv b, iv d]) := by rw [h, k]
theorem cm_cases (p q : Int) : (p < q ∧ cmI p q = -1) ∨ (q < p ∧ cmI p q = 1) ∨ (p = q ∧ cmI p q = 0) := by
  unfold cmI
  split
  · exact .inl ⟨by assumption, rfl⟩
  · split
    · exact .inr (.inl ⟨by assumption, rfl⟩)
    · exact .inr (.inr ⟨by omega, rfl⟩)
theorem mul_bd {a d A D : Int} (h1 : -A ≤ a ∧ a ≤ A) (h2 : 1 ≤ d ∧ d ≤ D) (hA : 0 ≤ A) : -(A * D) ≤ a * d ∧ a * d ≤ A * D := by
  have e1 : a * d ≤ A * d := Int.mul_le_mul_of_nonneg_right h1.2 (by omega)
  have e2 : A * d ≤ A * D := Int.mul_le_mul_of_nonneg_left h2.2 hA
  have e3 : -A * d ≤ a * d := Int.mul_le_mul_of_nonneg_right h1.1 (by omega)
  rw [Int.neg_mul] at e3
  omega
theorem mul_bp {a d A D : Int} (h1 : 1 ≤ a ∧ a ≤ A) (h2 : 1 ≤ d ∧ d ≤ D) : 1 ≤ a * d ∧ a * d ≤ A * D := by
  have e1 : a * d ≤ A * d := Int.mul_le_mul_of_nonneg_right h1.2 (by omega)
  have e2 : A * d ≤ A * D := Int.mul_le_mul_of_nonneg_left h2.2 (by omega)
  have e3 : 0 < a * d := Int.mul_pos (by omega) (by omega)
  omega
abbrev trV (p : R3) : Value := .tuple #[ra p.1 p.2.1, iv p.2.2]
abbrev prV (p : Int × Int) : Value := .tuple #[iv p.1, iv p.2]
theorem Reduce_any (n d : Int) (w : World) :
    Calls Tryz.prog 21 #[ra n d] w fun e w' => e = .returned (trV (redV n d)) ∧ Gr w w' := by
  by_cases h : raB n d = true
  · rw [show redV n d = (rdN n d, rdD n d, 0) by simp [redV, h]]
    obtain ⟨h1, h2⟩ := raB_iff.1 h
    have HR := hide (fun w => reduced_any n d w (by omega) (by omega))
    generalize rdN n d = x at *
    generalize rdD n d = y at *
    go_enter Tryz.func21, Tryz.ntmps21
    go_wp2_with (first | (go_at_call 39; refine (validRat_any _ _ _).mono ?_; rintro e w1 ⟨rfl, g1⟩; obtain ⟨X1, Y1, c1, f1⟩ := g1.use; have z1 := g1.size; (try simp only [World.size_alloc, World.size_setCell, World.heap_drewN, Nat.add_one_le_iff] at z1); (try have l0 : w.heap.size < w1.heap.size := by omega); (try have l1 : w.heap.size + 1 < w1.heap.size := by omega); (try have l2 : w.heap.size + 1 + 1 < w1.heap.size := by omega)) | (go_at_call 51; refine (HR.out _).mono ?_; rintro e w1 ⟨rfl, g1⟩; obtain ⟨X1, Y1, c1, f1⟩ := g1.use; have z1 := g1.size; (try simp only [World.size_alloc, World.size_setCell, World.heap_drewN, Nat.add_one_le_iff] at z1); (try have l0 : w.heap.size < w1.heap.size := by omega); (try have l1 : w.heap.size + 1 < w1.heap.size := by omega); (try have l2 : w.heap.size + 1 + 1 < w1.heap.size := by omega)))
    refine bodyPost_ret (v := trV (x, y, 0)) (by simp [results, Tryz.results21, go_sem, *]) rfl ⟨rfl, (by repeat (first | with_reducible exact Gr.refl _ | with_reducible assumption | with_reducible refine Gr.alloc ?_ _ | with_reducible refine Gr.drewN ?_ _ | with_reducible refine Gr.drew ?_ | with_reducible refine Gr.setCell ?_ (by first | (dsimp only; omega) | (simp only [World.size_alloc]; omega) | (with_reducible refine Gr.size ?_; (repeat (first | with_reducible exact Gr.refl _ | with_reducible assumption | with_reducible refine Gr.alloc ?_ _ | with_reducible refine Gr.drewN ?_ _ | with_reducible refine Gr.drew ?_ | with_reducible refine Gr.trans ?_ (by with_reducible assumption))); done)) _ | with_reducible refine Gr.trans ?_ (by with_reducible assumption)))⟩
  · have h' : raB n d = false := by simpa using h
    rw [show redV n d = (0, 0, 1) by simp [redV, h']]
    clear h
    go_enter Tryz.func21, Tryz.ntmps21
    go_wp2_with (first | (go_at_call 39; refine (validRat_any _ _ _).mono ?_; rintro e w1 ⟨rfl, g1⟩; obtain ⟨X1, Y1, c1, f1⟩ := g1.use; have z1 := g1.size; (try simp only [World.size_alloc, World.size_setCell, World.heap_drewN, Nat.add_one_le_iff] at z1); (try have l0 : w.heap.size < w1.heap.size := by omega); (try have l1 : w.heap.size + 1 < w1.heap.size := by omega); (try have l2 : w.heap.size + 1 + 1 < w1.heap.size := by omega)))
    refine bodyPost_ret (v := trV (0, 0, 1)) (by simp [results, Tryz.results21, go_sem, *]) rfl ⟨rfl, (by repeat (first | with_reducible exact Gr.refl _ | with_reducible assumption | with_reducible refine Gr.alloc ?_ _ | with_reducible refine Gr.drewN ?_ _ | with_reducible refine Gr.drew ?_ | with_reducible refine Gr.setCell ?_ (by first | (dsimp only; omega) | (simp only [World.size_alloc]; omega) | (with_reducible refine Gr.size ?_; (repeat (first | with_reducible exact Gr.refl _ | with_reducible assumption | with_reducible refine Gr.alloc ?_ _ | with_reducible refine Gr.drewN ?_ _ | with_reducible refine Gr.drew ?_ | with_reducible refine Gr.trans ?_ (by with_reducible assumption))); done)) _ | with_reducible refine Gr.trans ?_ (by with_reducible assumption)))⟩
theorem isNaN_any (x : Int) (w : World) :
    Calls Tryz.prog 64 #[iv x] w fun e w' => e = .returned (.bool false) ∧ w = w' := by
  go_enter Tryz.func64, Tryz.ntmps64
  go_wp2
  go_ret
  exact ⟨rfl, rfl⟩
theorem cmpC_any (x y : Int) (w : World) :
    Calls Tryz.prog 37 #[iv x, iv y] w fun e w' => e = .returned (iv (cmI x y)) ∧ w = w' := by
  go_enter Tryz.func37, Tryz.ntmps37
  go_wp2_with (go_at_call 64; refine (isNaN_any _ _).mono ?_; rintro e w1 ⟨rfl, rfl⟩)
  all_goals
    go_ret
    exact ⟨ret_iv' (by unfold cmI; grind), rfl⟩
end Go.Proofs.YtjnfodbniohkhaaGreat
set_option linter.unusedVariables false
set_option linter.unusedSimpArgs false
namespace Go.Proofs.YtjnfodbniohkhaaGreat
set_option linter.unusedVariables false
set_option linter.unusedSimpArgs false
open Go Go.ChangeShapes Go.WideShapes Go.ChangeAt Go.RowKit Go.Deep

set_option maxHeartbeats 1000000 in
theorem Ticks_any (n d : Int) (w : World) :
    Calls Tryz.prog 17 #[ra n d] w fun e w' => e = .returned (prV (tikV n d)) ∧ Gr w w' := by
  by_cases h : raB n d = true
  · obtain ⟨h1, h2⟩ := raB_iff.1 h
    have W1 : IntKind.i64.wrap (n * 720) = n * 720 := IntWalk.i64_in _ (by omega)
    have W2 : IntKind.i64.wrap ((n * 720).tdiv d) = (n * 720).tdiv d := IntWalk.i64_quo' _ _ (by omega)
    have hz : ¬ d = 0 := by omega
    have hz2 : (d == 0) = false := by simpa using hz
    have E := hide (show tikV n d = if (n * 720).tmod d = 0 then ((n * 720).tdiv d, 0) else (0, 5) by simp [tikV, h])
    generalize hm : (n * 720).tmod d = m at *
    generalize hq : (n * 720).tdiv d = q at *
    clear h1 h2
    by_cases k : m = 0
    · rw [E.out, if_pos k]
      go_enter Tryz.func17, Tryz.ntmps17
      go_wp2_with (first | (go_at_call 39; refine (validRat_any _ _ _).mono ?_; rintro e w1 ⟨rfl, g1⟩; obtain ⟨X1, Y1, c1, f1⟩ := g1.use; have z1 := g1.size; (try simp only [World.size_alloc, World.size_setCell, World.heap_drewN, Nat.add_one_le_iff] at z1); (try have l0 : w.heap.size < w1.heap.size := by omega); (try have l1 : w.heap.size + 1 < w1.heap.size := by omega); (try have l2 : w.heap.size + 1 + 1 < w1.heap.size := by omega)))
      go_ret2
      exact ⟨rfl, (by repeat (first | with_reducible exact Gr.refl _ | with_reducible assumption | with_reducible refine Gr.alloc ?_ _ | with_reducible refine Gr.drewN ?_ _ | with_reducible refine Gr.drew ?_ | with_reducible refine Gr.setCell ?_ (by first | (dsimp only; omega) | (simp only [World.size_alloc]; omega) | (with_reducible refine Gr.size ?_; (repeat (first | with_reducible exact Gr.refl _ | with_reducible assumption | with_reducible refine Gr.alloc ?_ _ | with_reducible refine Gr.drewN ?_ _ | with_reducible refine Gr.drew ?_ | with_reducible refine Gr.trans ?_ (by with_reducible assumption))); done)) _ | with_reducible refine Gr.trans ?_ (by with_reducible assumption)))⟩
    · rw [E.out, if_neg k]
      go_enter Tryz.func17, Tryz.ntmps17
      go_wp2_with (first | (go_at_call 39; refine (validRat_any _ _ _).mono ?_; rintro e w1 ⟨rfl, g1⟩; obtain ⟨X1, Y1, c1, f1⟩ := g1.use; have z1 := g1.size; (try simp only [World.size_alloc, World.size_setCell, World.heap_drewN, Nat.add_one_le_iff] at z1); (try have l0 : w.heap.size < w1.heap.size := by omega); (try have l1 : w.heap.size + 1 < w1.heap.size := by omega); (try have l2 : w.heap.size + 1 + 1 < w1.heap.size := by omega)))
      go_ret2
      exact ⟨rfl, (by repeat (first | with_reducible exact Gr.refl _ | with_reducible assumption | with_reducible refine Gr.alloc ?_ _ | with_reducible refine Gr.drewN ?_ _ | with_reducible refine Gr.drew ?_ | with_reducible refine Gr.setCell ?_ (by first | (dsimp only; omega) | (simp only [World.size_alloc]; omega) | (with_reducible refine Gr.size ?_; (repeat (first | with_reducible exact Gr.refl _ | with_reducible assumption | with_reducible refine Gr.alloc ?_ _ | with_reducible refine Gr.drewN ?_ _ | with_reducible refine Gr.drew ?_ | with_reducible refine Gr.trans ?_ (by with_reducible assumption))); done)) _ | with_reducible refine Gr.trans ?_ (by with_reducible assumption)))⟩
  · have h' : raB n d = false := by simpa using h
    rw [show tikV n d = (0, 1) by simp [tikV, h']]
    clear h
    go_enter Tryz.func17, Tryz.ntmps17
    go_wp2_with (first | (go_at_call 39; refine (validRat_any _ _ _).mono ?_; rintro e w1 ⟨rfl, g1⟩; obtain ⟨X1, Y1, c1, f1⟩ := g1.use; have z1 := g1.size; (try simp only [World.size_alloc, World.size_setCell, World.heap_drewN, Nat.add_one_le_iff] at z1); (try have l0 : w.heap.size < w1.heap.size := by omega); (try have l1 : w.heap.size + 1 < w1.heap.size := by omega); (try have l2 : w.heap.size + 1 + 1 < w1.heap.size := by omega)))
    go_ret2
    exact ⟨rfl, (by repeat (first | with_reducible exact Gr.refl _ | with_reducible assumption | with_reducible refine Gr.alloc ?_ _ | with_reducible refine Gr.drewN ?_ _ | with_reducible refine Gr.drew ?_ | with_reducible refine Gr.setCell ?_ (by first | (dsimp only; omega) | (simp only [World.size_alloc]; omega) | (with_reducible refine Gr.size ?_; (repeat (first | with_reducible exact Gr.refl _ | with_reducible assumption | with_reducible refine Gr.alloc ?_ _ | with_reducible refine Gr.drewN ?_ _ | with_reducible refine Gr.drew ?_ | with_reducible refine Gr.trans ?_ (by with_reducible assumption))); done)) _ | with_reducible refine Gr.trans ?_ (by with_reducible assumption)))⟩
theorem sRat : Tryz.prog.underlying 54 = some (.struct (Tryz.prog.fieldsOf 54)) := by kernel_rfl
theorem pRat : Tryz.prog.stoodInHeld 54 = false := by kernel_rfl
theorem gRat : Tryz.prog.eqGuardType Tryz.prog.depth 54 = false := by kernel_rfl
theorem eqInRat (d : Nat) (a b x y : Int) (w : World) : (Op.equalIn (d + 2) 54 (ra a b) (ra x y)).run Tryz.prog w = .ok (a == x && b == y) w := by
  have u3 := Tryz.underlying3
  have a3 := Tryz.isAgg3
  have z3 := Tryz.sizeOf3
  rw [run_equalIn_agg w (d + 1) 54 _ _ sRat pRat]
  simp only [Program.fieldsOf, Tryz.underlying54]
  go_simp
  by_cases h1 : a = x <;> by_cases h2 : b = y <;> simp [h1, h2]
theorem eqRat (a b x y : Int) (w : World) : (Op.equalIn 10000 54 (ra a b) (ra x y)).run Tryz.prog w = .ok (a == x && b == y) w := eqInRat 9998 a b x y w
theorem eqRat1 (a b : Int) (w : World) : (Op.equalIn 10000 54 (ra a b) (ra a b)).run Tryz.prog w = .ok true w := by
  have := eqRat a b a b w
  simpa using this
set_option maxHeartbeats 1000000 in
theorem known3_any (w : World) : Calls Tryz.prog 7 #[] w fun e w' => e = .returned (.bool true) ∧ Gr w w' := by
  have h1 := fun w => Reduce_any 14 4 w
  rw [show redV 14 4 = (7, 2, 0) from by decide +kernel] at h1
  have h2 := fun w => Ticks_any 7 2 w
  rw [show tikV 7 2 = (2520, 0) from by decide +kernel] at h2
  have H1 := hide h1
  have H2 := hide h2
  clear h1 h2
  have NEQ := fun w => eqRat1 7 2 w
  have GP := gRat
  go_enter Tryz.func7, Tryz.ntmps7
  go_wp2_with fail
  refine (H1.out _).mono ?_
  rintro e w1 ⟨rfl, g1⟩
  obtain ⟨X1, Y1, c1, f1⟩ := g1.use
  go_wp2_with fail
  refine (H2.out _).mono ?_
  rintro e w2 ⟨rfl, g2⟩
  obtain ⟨X2, Y2, c2, f2⟩ := g2.use
  have l2 : w1.heap.size < w2.heap.size := by have := g2.size; simp only [World.size_alloc, World.size_setCell] at this; omega
  go_wp2_with fail
  go_ret
  exact ⟨rfl, (by repeat (first | with_reducible exact Gr.refl _ | with_reducible assumption | with_reducible refine Gr.alloc ?_ _ | with_reducible refine Gr.drewN ?_ _ | with_reducible refine Gr.drew ?_ | with_reducible refine Gr.setCell ?_ (by first | (dsimp only; omega) | (simp only [World.size_alloc]; omega) | (with_reducible refine Gr.size ?_; (repeat (first | with_reducible exact Gr.refl _ | with_reducible assumption | with_reducible refine Gr.alloc ?_ _ | with_reducible refine Gr.drewN ?_ _ | with_reducible refine Gr.drew ?_ | with_reducible refine Gr.trans ?_ (by with_reducible assumption))); done)) _ | with_reducible refine Gr.trans ?_ (by with_reducible assumption)))⟩
end Go.Proofs.YtjnfodbniohkhaaGreat
