/-
  Bend tables, plain: the ticks of a deduction.
-/
import Derived.Test.YtpmomgfepkegnaaTab7
set_option linter.unusedVariables false
set_option linter.unusedSimpArgs false
namespace Go.Proofs.Ytpmomgfepkegnaa
set_option linter.unusedVariables false
set_option linter.unusedSimpArgs false
open Go Go.ChangeShapes Go.WideShapes Go.ChangeAt Go.RowKit Go.Deep

theorem ra_red {n d : Int} (h : raB n d = true) : raB (rdN n d) (rdD n d) = true := by
  obtain ⟨h1, h2⟩ := raB_iff.1 h
  have e1 := rdN_mul n d
  have e2 := rdD_mul n d
  have g1 := gn_pos (n := n) h2.1
  have p := rdD_pos (n := n) h2.1
  generalize rdN n d = x at *
  generalize rdD n d = y at *
  generalize gn n d = g at *
  have a1 : y * 1 ≤ y * g := Int.mul_le_mul_of_nonneg_left g1 (by omega)
  have a2 : x ≤ 16777216 := by
    rcases Int.lt_or_le 0 x with h | h
    · have : x * 1 ≤ x * g := Int.mul_le_mul_of_nonneg_left g1 (by omega)
      omega
    · omega
  have a3 : -16777216 ≤ x := by
    rcases Int.lt_or_le x 0 with h | h
    · have : (-x) * 1 ≤ (-x) * g := Int.mul_le_mul_of_nonneg_left g1 (by omega)
      simp only [Int.neg_mul] at this
      omega
    · omega
  exact raB_iff.2 ⟨⟨a3, a2⟩, p, by omega⟩
theorem tik_red {n d m : Int} (h : raB n d = true) (e : m * d = n * 720) : tikV (rdN n d) (rdD n d) = (m, 0) := by
  have h2 := (raB_iff.1 h).2
  have hr := ra_red h
  have e1 := rdN_mul n d
  have e2 := rdD_mul n d
  have g1 := gn_pos (n := n) h2.1
  have p := rdD_pos (n := n) h2.1
  have key : m * rdD n d = rdN n d * 720 := by
    generalize rdN n d = x at *
    generalize rdD n d = y at *
    generalize gn n d = g at *
    have : g * (m * y) = g * (x * 720) := by
      have f1 : g * (m * y) = m * (y * g) := by grind
      have f2 : g * (x * 720) = (x * g) * 720 := by grind
      rw [f1, f2, e1, e2, e]
    exact Int.eq_of_mul_eq_mul_left (by omega) this
  obtain ⟨u1, u2⟩ := tik_at p key
  unfold tikV
  rw [hr, if_pos rfl, if_pos u1, u2]
/-- the ticks of an entry -/
def tkI (x : En) : Int := twI x * 60
theorem tk_mul {x : En} (h : enB x = true) : tkI x * x.dn = x.nm * 720 := by
  obtain ⟨_, h1, _⟩ := enB_use h
  unfold tkI
  rw [tw_eq h1]
  rcases h1 with h | h | h | h | h | h <;> rw [h] <;> omega
theorem tk_tik {x : En} (h : enB x = true) : tikV x.nm x.dn = (tkI x, 0) := by
  obtain ⟨hr, _, h2⟩ := en_ra h
  obtain ⟨u1, u2⟩ := tik_at h2.1 (tk_mul h)
  unfold tikV
  rw [hr, if_pos rfl, if_pos u1, u2]
theorem tk_bd {x : En} (h : enB x = true) : 0 ≤ tkI x ∧ tkI x ≤ 14400 := by
  have := tw_bd h
  unfold tkI
  omega
/-- the ticks of a deduction between two entries -/
theorem mid_tik {x y : En} {a : Int} (hx : enB x = true) (hy : enB y = true) (ha : a6B a = true) (h1 : x.an < a) (h2 : a < y.an) :
    ∃ n : Int, tikV (rdN (beN x y a) (beD x y)) (rdD (beN x y a) (beD x y)) = (n, 0) ∧ (0 ≤ n ∧ n ≤ 14400) ∧ ((tkI x ≤ n ∧ n ≤ tkI y) ∨ (tkI y ≤ n ∧ n ≤ tkI x)) := by
  obtain ⟨hr, _⟩ := be_ok hx hy h1 h2
  have t1 := tw_bd hx
  have t2 := tw_bd hy
  have a1 : a6B x.an = true := by unfold enB at hx; simp only [Bool.and_eq_true] at hx; exact hx.1.1
  have a2 : a6B y.an = true := by unfold enB at hy; simp only [Bool.and_eq_true] at hy; exact hy.1.1
  rw [a6_mod] at a1 a2 ha
  obtain ⟨u, hu⟩ : ∃ u : Int, y.an - a = 30 * u := ⟨(y.an - a) / 30, by omega⟩
  obtain ⟨v, hv⟩ : ∃ v : Int, a - x.an = 30 * v := ⟨(a - x.an) / 30, by omega⟩
  have hN : beN x y a = twI x * (30 * u) + twI y * (30 * v) := by unfold beN; rw [hu, hv]
  have hD : beD x y = 12 * (30 * (u + v)) := by unfold beD; omega
  rw [hN, hD] at hr ⊢
  unfold tkI
  generalize twI x = p at *
  generalize twI y = q at *
  have go : ∀ n : Int, n * (12 * (30 * (u + v))) = (p * (30 * u) + q * (30 * v)) * 720 → (0 ≤ n ∧ n ≤ 14400) → ((p * 60 ≤ n ∧ n ≤ q * 60) ∨ (q * 60 ≤ n ∧ n ≤ p * 60)) →
      ∃ n : Int, tikV (rdN (p * (30 * u) + q * (30 * v)) (12 * (30 * (u + v)))) (rdD (p * (30 * u) + q * (30 * v)) (12 * (30 * (u + v)))) = (n, 0) ∧ (0 ≤ n ∧ n ≤ 14400) ∧ ((p * 60 ≤ n ∧ n ≤ q * 60) ∨ (q * 60 ≤ n ∧ n ≤ p * 60)) := fun n e1 e2 e3 => ⟨n, tik_red hr e1, e2, e3⟩
  clear hN hD hr hx hy
  have hu' : u = 1 ∨ u = 2 ∨ u = 3 ∨ u = 4 := by omega
  have hv' : v = 1 ∨ v = 2 ∨ v = 3 ∨ v = 4 := by omega
  have huv : u + v ≤ 5 := by omega
  clear hu hv a1 a2 ha h1 h2
  rcases hu' with rfl | rfl | rfl | rfl <;> rcases hv' with rfl | rfl | rfl | rfl <;> first
    | (exfalso; omega)
    | exact go (30 * (p * 1 + q * 1)) (by omega) (by omega) (by omega)
    | exact go (20 * (p * 1 + q * 2)) (by omega) (by omega) (by omega)
    | exact go (20 * (p * 2 + q * 1)) (by omega) (by omega) (by omega)
    | exact go (15 * (p * 1 + q * 3)) (by omega) (by omega) (by omega)
    | exact go (15 * (p * 3 + q * 1)) (by omega) (by omega) (by omega)
    | exact go (15 * (p * 2 + q * 2)) (by omega) (by omega) (by omega)
    | exact go (12 * (p * 1 + q * 4)) (by omega) (by omega) (by omega)
    | exact go (12 * (p * 4 + q * 1)) (by omega) (by omega) (by omega)
    | exact go (12 * (p * 2 + q * 3)) (by omega) (by omega) (by omega)
    | exact go (12 * (p * 3 + q * 2)) (by omega) (by omega) (by omega)
theorem ded_err {t : Tb} {a d1 d2 e : Int} (h : dedA t a = (d1, d2, e)) (he : ¬ e = 0) : d1 = 0 ∧ d2 = 0 := by
  unfold dedA at h
  split at h
  · simp at h; omega
  split at h
  · simp at h; omega
  unfold dedV at h
  split at h
  · simp at h; omega
  split at h
  · simp at h; omega
  split at h
  · simp at h; omega
  split at h
  · simp at h; omega
  · simp at h; omega
/-- what a deduction has -/
structure Ded (t : Tb) (a d1 d2 n : Int) (y : En) : Prop where
  ok : okB t.en t.en.length = true
  len : 1 ≤ t.en.length ∧ t.en.length ≤ 6
  tik : tikV d1 d2 = (n, 0)
  nn : 0 ≤ n ∧ n ≤ 14400
  at_ : t.en[cutI t.en a]? = some y
  or : (y.an = a ∧ n = tkI y) ∨ (¬ y.an = a ∧ ∃ j x, cutI t.en a = j + 1 ∧ t.en[j]? = some x ∧ ((tkI x ≤ n ∧ n ≤ tkI y) ∨ (tkI y ≤ n ∧ n ≤ tkI x)))
theorem ded_ok {t : Tb} {a d1 d2 : Int} (h : dedA t a = (d1, d2, 0)) : ∃ n y, Ded t a d1 d2 n y := by
  rcases tbE_cases t with h0 | h0
  · obtain ⟨k1, k2⟩ := tbE_ok h0
    cases ha : a6B a with
    | false => rw [dedA_ang h0 ha] at h; simp at h
    | true =>
      rw [dedA_good h0 ha] at h
      cases hy : t.en[cutI t.en a]? with
      | none => rw [dedV_none hy] at h; simp at h
      | some y =>
        have hey := en_of k2 hy
        by_cases hya : y.an = a
        · rw [dedV_found hy hya] at h
          simp only [Prod.mk.injEq, and_true] at h
          obtain ⟨rfl, rfl⟩ := h
          exact ⟨tkI y, y, k2, hdB_len k1, tik_red (en_ra hey).1 (tk_mul hey), tk_bd hey, hy, .inl ⟨hya, rfl⟩⟩
        · by_cases hn0 : cutI t.en a = 0
          · rw [dedV_zero hy hya hn0] at h; simp at h
          · obtain ⟨j, hj⟩ : ∃ j : Nat, cutI t.en a = j + 1 := ⟨cutI t.en a - 1, by omega⟩
            have hlt := (List.getElem?_eq_some_iff.1 hy).1
            obtain ⟨x, hx⟩ : ∃ x, t.en[j]? = some x := ⟨_, List.getElem?_eq_getElem (by omega)⟩
            rw [dedV_mid hy hya hn0 (by rw [hj]; exact hx)] at h
            simp only [Prod.mk.injEq, and_true] at h
            obtain ⟨rfl, rfl⟩ := h
            have hxa : x.an < a := cut_lt (by omega) hx
            have hay : a < y.an := by have := cut_at hy; omega
            obtain ⟨n, e1, e2, e3⟩ := mid_tik (en_of k2 hx) hey ha hxa hay
            exact ⟨n, y, k2, hdB_len k1, e1, e2, hy, .inr ⟨hya, j, x, hj, hx, e3⟩⟩
  · rw [dedA_bad h0] at h; simp at h
end Go.Proofs.Ytpmomgfepkegnaa
