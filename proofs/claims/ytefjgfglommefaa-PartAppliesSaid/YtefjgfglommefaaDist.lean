/-
  Distances of rectangles, for seats of other layers (names under R).
-/
import Derived.Test.YtefjgfglommefaaPlain
import Derived.Deep.RegionHeld3
import Derived.IntWalk
import Derived.Deep.DeepCutAuto
import Derived.StillTactics
set_option linter.unusedVariables false
set_option linter.unusedSimpArgs false
namespace Go.Proofs.Ytefjgfglommefaa
set_option linter.unusedVariables false
set_option linter.unusedSimpArgs false
open Go Go.ChangeShapes Go.WideShapes Go.ChangeAt Go.RowKit Go.Deep

namespace R
abbrev rc (x y w h : Int) : Value := .agg #[iv x, iv y, iv w, iv h]
/-- n is from -l to l -/
def inB (n l : Int) : Bool := decide (-l ≤ n) && decide (n ≤ l)
theorem inB_iff (n l : Int) : inB n l = true ↔ -l ≤ n ∧ n ≤ l := by simp [inB]
def rinB (a b l : Int) : Bool := inB a l && inB b l
def Lim (l n : Int) : Prop := -l ≤ n ∧ n ≤ l
theorem lim_of {n l : Int} (h : inB n l = true) : Lim l n := (inB_iff n l).1 h
theorem lims_of {a b l : Int} (h : rinB a b l = true) : Lim l a ∧ Lim l b := by
  simp only [rinB, Bool.and_eq_true] at h
  exact ⟨lim_of h.1, lim_of h.2⟩
theorem Lim.mono {l m n : Int} (h : Lim l n) (hm : l ≤ m) : Lim m n := by unfold Lim at *; omega
theorem Lim.sub {l m a b : Int} (h : Lim l a) (k : Lim m b) : Lim (l + m) (a - b) := by unfold Lim at *; omega
theorem Lim.add {l m a b : Int} (h : Lim l a) (k : Lim m b) : Lim (l + m) (a + b) := by unfold Lim at *; omega
theorem Lim.mul {l m a b : Int} (h : Lim l a) (k : Lim m b) : Lim (l * m) (a * b) := by
  obtain ⟨h1, h2⟩ := h
  obtain ⟨k1, k2⟩ := k
  have p1 : 0 ≤ (l - a) * (m - b) := Int.mul_nonneg (by omega) (by omega)
  have p2 : 0 ≤ (l + a) * (m + b) := Int.mul_nonneg (by omega) (by omega)
  have p3 : 0 ≤ (l - a) * (m + b) := Int.mul_nonneg (by omega) (by omega)
  have p4 : 0 ≤ (l + a) * (m - b) := Int.mul_nonneg (by omega) (by omega)
  constructor <;> grind
theorem ret_bool {a b : Bool} (h : a = b) : Ending.returned (.bool a) = .returned (.bool b) := by rw [h]
theorem ret_iv {a b : Int} (h : a = b) : Ending.returned (iv a) = .returned (iv b) := by rw [h]

theorem within_any (n l : Int) (w : World) (h0 : 0 ≤ l) (h1 : l ≤ 1073741824) :
    Calls Try.prog 104 #[iv n, iv l] w fun e w' => e = .returned (.bool (inB n l)) ∧ w = w' := by
  go_enter Try.func104, Try.ntmps104
  go_wp2
  all_goals
    go_ret
    exact ⟨ret_bool (by simp [inB]; omega), rfl⟩

/-- an interval from s of length n is valid -/
def vsB (s n : Int) : Bool := decide (0 < n) && (inB s 1048576 && decide (n ≤ 1048576 - s))
def vrB (x y w h : Int) : Bool := vsB x w && vsB y h
theorem vsB_iff (s n : Int) : vsB s n = true ↔ 0 < n ∧ -1048576 ≤ s ∧ s ≤ 1048576 ∧ n ≤ 1048576 - s := by
  simp only [vsB, inB, Bool.and_eq_true, decide_eq_true_eq]
  constructor <;> (rintro ⟨h1, h2⟩; omega)
theorem validSpan_any (s n : Int) (w : World) :
    Calls Try.prog 101 #[iv s, iv n] w fun e w' => e = .returned (.bool (vsB s n)) ∧ w = w' := by
  by_cases h : inB s 1048576 = true
  · obtain ⟨h1, h2⟩ := lim_of h
    go_enter Try.func101, Try.ntmps101
    go_wp2_with (go_at_call 104; refine (within_any _ _ _ (by omega) (by omega)).mono ?_; rintro e w1 ⟨rfl, rfl⟩)
    all_goals
      go_ret
      exact ⟨ret_bool (by simp [vsB, h]; omega), rfl⟩
  · have h' : inB s 1048576 = false := by simpa using h
    clear h
    go_enter Try.func101, Try.ntmps101
    go_wp2_with (go_at_call 104; refine (within_any _ _ _ (by omega) (by omega)).mono ?_; rintro e w1 ⟨rfl, rfl⟩)
    all_goals
      go_ret
      exact ⟨ret_bool (by simp [vsB, h']), rfl⟩
theorem ValidRect_any (x y u h : Int) (w : World) :
    Calls Try.prog 86 #[rc x y u h] w fun e w' => e = .returned (.bool (vrB x y u h)) ∧ Gr w w' := by
  go_enter Try.func86, Try.ntmps86
  go_wp2_with (go_at_call 101; refine (validSpan_any _ _ _).mono ?_; rintro e w1 ⟨rfl, rfl⟩)
  all_goals
    go_ret
    exact ⟨ret_bool (by simp [vrB, *]), (by repeat (first | with_reducible exact Gr.refl _ | with_reducible assumption | with_reducible refine Gr.alloc ?_ _ | with_reducible refine Gr.drewN ?_ _ | with_reducible refine Gr.drew ?_ | with_reducible refine Gr.setCell ?_ (by first | (dsimp only; omega) | (simp only [World.size_alloc]; omega) | (with_reducible refine Gr.size ?_; (repeat (first | with_reducible exact Gr.refl _ | with_reducible assumption | with_reducible refine Gr.alloc ?_ _ | with_reducible refine Gr.drewN ?_ _ | with_reducible refine Gr.drew ?_ | with_reducible refine Gr.trans ?_ (by with_reducible assumption))); done)) _ | with_reducible refine Gr.trans ?_ (by with_reducible assumption)))⟩
def wiB (n l m : Int) : Bool := decide (l ≤ n) && decide (n ≤ m)
theorem rwithin2_any (n l m : Int) (w : World) :
    Calls Try.prog 103 #[iv n, iv l, iv m] w fun e w' => e = .returned (.bool (wiB n l m)) ∧ w = w' := by
  go_enter Try.func103, Try.ntmps103
  go_wp2
  all_goals
    go_ret
    exact ⟨ret_bool (by simp [wiB]; omega), rfl⟩
theorem wiB_iff {n l m : Int} : wiB n l m = true ↔ l ≤ n ∧ n ≤ m := by simp [wiB]
theorem rValidRect_any (x y u h : Int) (w : World) :
    Calls Try.prog 97 #[rc x y u h] w fun e w' => e = .returned (.bool (vrB x y u h)) ∧ Gr w w' := by
  have e : vrB x y u h = (wiB x (-1048576) 1048576 && wiB y (-1048576) 1048576 && wiB u 1 2097152 && wiB h 1 2097152 && decide (x + u ≤ 1048576) && decide (y + h ≤ 1048576)) := by
    rw [Bool.eq_iff_iff]
    simp only [vrB, Bool.and_eq_true, vsB_iff, wiB_iff, decide_eq_true_eq]
    omega
  rw [e]
  clear e
  by_cases h1 : wiB x (-1048576) 1048576 = true
  · by_cases h2 : wiB y (-1048576) 1048576 = true
    · by_cases h3 : wiB u 1 2097152 = true
      · by_cases h4 : wiB h 1 2097152 = true
        · obtain ⟨a1, a2⟩ := wiB_iff.1 h1
          obtain ⟨b1, b2⟩ := wiB_iff.1 h2
          obtain ⟨c1, c2⟩ := wiB_iff.1 h3
          obtain ⟨d1, d2⟩ := wiB_iff.1 h4
          go_enter Try.func97, Try.ntmps97
          go_wp2_with (go_at_call 103; refine (rwithin2_any _ _ _ _).mono ?_; rintro e w1 ⟨rfl, rfl⟩)
          all_goals
            go_ret
            exact ⟨ret_bool (by simp [h1, h2, h3, h4]; omega), (by repeat (first | with_reducible exact Gr.refl _ | with_reducible assumption | with_reducible refine Gr.alloc ?_ _ | with_reducible refine Gr.drewN ?_ _ | with_reducible refine Gr.drew ?_ | with_reducible refine Gr.setCell ?_ (by first | (dsimp only; omega) | (simp only [World.size_alloc]; omega) | (with_reducible refine Gr.size ?_; (repeat (first | with_reducible exact Gr.refl _ | with_reducible assumption | with_reducible refine Gr.alloc ?_ _ | with_reducible refine Gr.drewN ?_ _ | with_reducible refine Gr.drew ?_ | with_reducible refine Gr.trans ?_ (by with_reducible assumption))); done)) _ | with_reducible refine Gr.trans ?_ (by with_reducible assumption)))⟩
        · have h4' : wiB h 1 2097152 = false := by simpa using h4
          clear h4
          go_enter Try.func97, Try.ntmps97
          go_wp2_with (go_at_call 103; refine (rwithin2_any _ _ _ _).mono ?_; rintro e w1 ⟨rfl, rfl⟩)
          all_goals
            go_ret
            exact ⟨ret_bool (by simp [h4']), (by repeat (first | with_reducible exact Gr.refl _ | with_reducible assumption | with_reducible refine Gr.alloc ?_ _ | with_reducible refine Gr.drewN ?_ _ | with_reducible refine Gr.drew ?_ | with_reducible refine Gr.setCell ?_ (by first | (dsimp only; omega) | (simp only [World.size_alloc]; omega) | (with_reducible refine Gr.size ?_; (repeat (first | with_reducible exact Gr.refl _ | with_reducible assumption | with_reducible refine Gr.alloc ?_ _ | with_reducible refine Gr.drewN ?_ _ | with_reducible refine Gr.drew ?_ | with_reducible refine Gr.trans ?_ (by with_reducible assumption))); done)) _ | with_reducible refine Gr.trans ?_ (by with_reducible assumption)))⟩
      · have h3' : wiB u 1 2097152 = false := by simpa using h3
        clear h3
        go_enter Try.func97, Try.ntmps97
        go_wp2_with (go_at_call 103; refine (rwithin2_any _ _ _ _).mono ?_; rintro e w1 ⟨rfl, rfl⟩)
        all_goals
          go_ret
          exact ⟨ret_bool (by simp [h3']), (by repeat (first | with_reducible exact Gr.refl _ | with_reducible assumption | with_reducible refine Gr.alloc ?_ _ | with_reducible refine Gr.drewN ?_ _ | with_reducible refine Gr.drew ?_ | with_reducible refine Gr.setCell ?_ (by first | (dsimp only; omega) | (simp only [World.size_alloc]; omega) | (with_reducible refine Gr.size ?_; (repeat (first | with_reducible exact Gr.refl _ | with_reducible assumption | with_reducible refine Gr.alloc ?_ _ | with_reducible refine Gr.drewN ?_ _ | with_reducible refine Gr.drew ?_ | with_reducible refine Gr.trans ?_ (by with_reducible assumption))); done)) _ | with_reducible refine Gr.trans ?_ (by with_reducible assumption)))⟩
    · have h2' : wiB y (-1048576) 1048576 = false := by simpa using h2
      clear h2
      go_enter Try.func97, Try.ntmps97
      go_wp2_with (go_at_call 103; refine (rwithin2_any _ _ _ _).mono ?_; rintro e w1 ⟨rfl, rfl⟩)
      all_goals
        go_ret
        exact ⟨ret_bool (by simp [h2']), (by repeat (first | with_reducible exact Gr.refl _ | with_reducible assumption | with_reducible refine Gr.alloc ?_ _ | with_reducible refine Gr.drewN ?_ _ | with_reducible refine Gr.drew ?_ | with_reducible refine Gr.setCell ?_ (by first | (dsimp only; omega) | (simp only [World.size_alloc]; omega) | (with_reducible refine Gr.size ?_; (repeat (first | with_reducible exact Gr.refl _ | with_reducible assumption | with_reducible refine Gr.alloc ?_ _ | with_reducible refine Gr.drewN ?_ _ | with_reducible refine Gr.drew ?_ | with_reducible refine Gr.trans ?_ (by with_reducible assumption))); done)) _ | with_reducible refine Gr.trans ?_ (by with_reducible assumption)))⟩
  · have h1' : wiB x (-1048576) 1048576 = false := by simpa using h1
    clear h1
    go_enter Try.func97, Try.ntmps97
    go_wp2_with (go_at_call 103; refine (rwithin2_any _ _ _ _).mono ?_; rintro e w1 ⟨rfl, rfl⟩)
    all_goals
      go_ret
      exact ⟨ret_bool (by simp [h1']), (by repeat (first | with_reducible exact Gr.refl _ | with_reducible assumption | with_reducible refine Gr.alloc ?_ _ | with_reducible refine Gr.drewN ?_ _ | with_reducible refine Gr.drew ?_ | with_reducible refine Gr.setCell ?_ (by first | (dsimp only; omega) | (simp only [World.size_alloc]; omega) | (with_reducible refine Gr.size ?_; (repeat (first | with_reducible exact Gr.refl _ | with_reducible assumption | with_reducible refine Gr.alloc ?_ _ | with_reducible refine Gr.drewN ?_ _ | with_reducible refine Gr.drew ?_ | with_reducible refine Gr.trans ?_ (by with_reducible assumption))); done)) _ | with_reducible refine Gr.trans ?_ (by with_reducible assumption)))⟩
/-- a number of a side, small enough for sums -/
def soB (a l b m : Int) : Bool := decide (a < b + m) && decide (b < a + l)
def siB (a l b m : Int) : Bool := decide (b ≤ a) && decide (a + l ≤ b + m)
def gaV (a b c d : Int) : Int := if a - d < c - b then c - b else a - d
def poV (x : Int) : Int := if x < 0 then 0 else x
theorem gap_any (a b c d : Int) (w : World) (ha : Lim 4194304 a) (hl : Lim 4194304 b) (hb : Lim 4194304 c) (hm : Lim 4194304 d) :
    Calls Try.prog 98 #[iv a, iv b, iv c, iv d] w fun e w' => e = .returned (iv (gaV a b c d)) ∧ w = w' := by
  obtain ⟨a1, a2⟩ := ha
  obtain ⟨l1, l2⟩ := hl
  obtain ⟨b1, b2⟩ := hb
  obtain ⟨m1, m2⟩ := hm
  go_enter Try.func98, Try.ntmps98
  go_wp2
  all_goals
    go_ret
    exact ⟨ret_iv (by simp only [gaV]; split <;> omega), rfl⟩
theorem spanGap_any (a l b m : Int) (w : World) (ha : Lim 4194304 a) (hl : Lim 4194304 l) (hb : Lim 4194304 b) (hm : Lim 4194304 m) :
    Calls Try.prog 87 #[iv a, iv l, iv b, iv m] w fun e w' => e = .returned (iv (poV (gaV a (a + l) b (b + m)))) ∧ w = w' := by
  obtain ⟨a1, a2⟩ := ha
  obtain ⟨l1, l2⟩ := hl
  obtain ⟨b1, b2⟩ := hb
  obtain ⟨m1, m2⟩ := hm
  go_enter Try.func87, Try.ntmps87
  go_wp2
  all_goals
    go_ret
    exact ⟨ret_iv (by simp only [gaV, poV]; split <;> split <;> omega), rfl⟩

structure Four (l a b c d : Int) : Prop where
  l1 : Lim l a
  l2 : Lim l b
  l3 : Lim l c
  l4 : Lim l d
theorem vr_lims {x y u h : Int} (k : vrB x y u h = true) : Four 2097152 x y u h ∧ Lim 2097152 (x + u) ∧ Lim 2097152 (y + h) := by
  simp only [vrB, Bool.and_eq_true, vsB_iff] at k
  exact ⟨⟨by unfold Lim; omega, by unfold Lim; omega, by unfold Lim; omega, by unfold Lim; omega⟩, by unfold Lim; omega, by unfold Lim; omega⟩
/-- what the functions of two rectangles return -/
def ovB (x y u h a b c d : Int) : Bool := (vrB x y u h && vrB a b c d) && (soB x u a c && soB y h b d)
def isB (x y u h a b c d : Int) : Bool := (vrB x y u h && vrB a b c d) && (siB x u a c && siB y h b d)
def diM (x y : Int) : Int := if x < y then y else x
def diV (x y u h a b c d : Int) : Int := if vrB x y u h && vrB a b c d then diM (poV (gaV x (x + u) a (a + c))) (poV (gaV y (y + h) b (b + d))) else 0
theorem soB_gap (a l b m : Int) : soB a l b m = decide (gaV a (a + l) b (b + m) < 0) := by
  unfold soB gaV
  by_cases h1 : a < b + m <;> by_cases h2 : b < a + l <;> simp [h1, h2] <;> split <;> omega
set_option maxHeartbeats 1000000 in
theorem Distance_any (x y u h a b c d : Int) (w : World) :
    Calls Try.prog 60 #[rc x y u h, rc a b c d] w fun e w' => e = .returned (iv (diV x y u h a b c d)) ∧ Gr w w' := by
  by_cases h1 : vrB x y u h = true
  · by_cases h2 : vrB a b c d = true
    · obtain ⟨⟨p1, p2, p3, p4⟩, p5, p6⟩ := vr_lims h1
      obtain ⟨⟨q1, q2, q3, q4⟩, q5, q6⟩ := vr_lims h2
      go_enter Try.func60, Try.ntmps60
      go_upto_region 3 with (go_at_call 86; refine (ValidRect_any _ _ _ _ _).mono ?_; rintro e w1 ⟨rfl, g1⟩; obtain ⟨X1, Y1, c1, f1⟩ := g1.use)
      go_region_held3 (fun w' => Gr (((w.alloc (Obj.cells #[iv x, iv y, iv u, iv h] 75)).alloc (Obj.cells #[iv a, iv b, iv c, iv d] 75))) w' ∧ ∀ ii oo, ii < (((w.alloc (Obj.cells #[iv x, iv y, iv u, iv h] 75)).alloc (Obj.cells #[iv a, iv b, iv c, iv d] 75))).heap.size → w'.cell? ⟨ii, oo, none⟩ = (((w.alloc (Obj.cells #[iv x, iv y, iv u, iv h] 75)).alloc (Obj.cells #[iv a, iv b, iv c, iv d] 75))).cell? ⟨ii, oo, none⟩) ((refine And.intro ?_ (Gr.cell ?_) <;> ((repeat (first | with_reducible exact Gr.refl _ | with_reducible assumption | with_reducible refine Gr.alloc ?_ _ | with_reducible refine Gr.drewN ?_ _ | with_reducible refine Gr.drew ?_ | with_reducible refine Gr.setCell ?_ (by first | (dsimp only; omega) | (simp only [World.size_alloc]; omega) | (with_reducible refine Gr.size ?_; (repeat (first | with_reducible exact Gr.refl _ | with_reducible assumption | with_reducible refine Gr.alloc ?_ _ | with_reducible refine Gr.drewN ?_ _ | with_reducible refine Gr.drew ?_ | with_reducible refine Gr.trans ?_ (by with_reducible assumption))); done)) _ | with_reducible refine Gr.trans ?_ (by with_reducible assumption))); done)))
       (first | (go_at_call 87; refine (spanGap_any _ _ _ _ _ (by apply Lim.mono; with_reducible assumption; omega) (by apply Lim.mono; with_reducible assumption; omega) (by apply Lim.mono; with_reducible assumption; omega) (by apply Lim.mono; with_reducible assumption; omega)).mono ?_; rintro e w1 ⟨rfl, rfl⟩))
      go_wp2
      all_goals
        go_ret
        exact ⟨ret_iv (by simp only [diV, h1, h2, Bool.and_self, if_true, diM]; split <;> omega), (by repeat (first | with_reducible exact Gr.refl _ | with_reducible assumption | with_reducible refine Gr.alloc ?_ _ | with_reducible refine Gr.drewN ?_ _ | with_reducible refine Gr.drew ?_ | with_reducible refine Gr.setCell ?_ (by first | (dsimp only; omega) | (simp only [World.size_alloc]; omega) | (with_reducible refine Gr.size ?_; (repeat (first | with_reducible exact Gr.refl _ | with_reducible assumption | with_reducible refine Gr.alloc ?_ _ | with_reducible refine Gr.drewN ?_ _ | with_reducible refine Gr.drew ?_ | with_reducible refine Gr.trans ?_ (by with_reducible assumption))); done)) _ | with_reducible refine Gr.trans ?_ (by with_reducible assumption)))⟩
    · have h2' : vrB a b c d = false := by simpa using h2
      clear h2
      go_enter Try.func60, Try.ntmps60
      go_wp2_with (first | (go_at_call 86; refine (ValidRect_any _ _ _ _ _).mono ?_; rintro e w1 ⟨rfl, g1⟩; obtain ⟨X1, Y1, c1, f1⟩ := g1.use))
      go_ret
      exact ⟨ret_iv (by simp [diV, h2']), (by repeat (first | with_reducible exact Gr.refl _ | with_reducible assumption | with_reducible refine Gr.alloc ?_ _ | with_reducible refine Gr.drewN ?_ _ | with_reducible refine Gr.drew ?_ | with_reducible refine Gr.setCell ?_ (by first | (dsimp only; omega) | (simp only [World.size_alloc]; omega) | (with_reducible refine Gr.size ?_; (repeat (first | with_reducible exact Gr.refl _ | with_reducible assumption | with_reducible refine Gr.alloc ?_ _ | with_reducible refine Gr.drewN ?_ _ | with_reducible refine Gr.drew ?_ | with_reducible refine Gr.trans ?_ (by with_reducible assumption))); done)) _ | with_reducible refine Gr.trans ?_ (by with_reducible assumption)))⟩
  · have h1' : vrB x y u h = false := by simpa using h1
    clear h1
    go_enter Try.func60, Try.ntmps60
    go_wp2_with (first | (go_at_call 86; refine (ValidRect_any _ _ _ _ _).mono ?_; rintro e w1 ⟨rfl, g1⟩; obtain ⟨X1, Y1, c1, f1⟩ := g1.use))
    go_ret
    exact ⟨ret_iv (by simp [diV, h1']), (by repeat (first | with_reducible exact Gr.refl _ | with_reducible assumption | with_reducible refine Gr.alloc ?_ _ | with_reducible refine Gr.drewN ?_ _ | with_reducible refine Gr.drew ?_ | with_reducible refine Gr.setCell ?_ (by first | (dsimp only; omega) | (simp only [World.size_alloc]; omega) | (with_reducible refine Gr.size ?_; (repeat (first | with_reducible exact Gr.refl _ | with_reducible assumption | with_reducible refine Gr.alloc ?_ _ | with_reducible refine Gr.drewN ?_ _ | with_reducible refine Gr.drew ?_ | with_reducible refine Gr.trans ?_ (by with_reducible assumption))); done)) _ | with_reducible refine Gr.trans ?_ (by with_reducible assumption)))⟩
theorem diM_po (p q : Int) : diM (poV p) (poV q) = poV (diM p q) := by
  unfold diM poV
  repeat' split
  all_goals omega
set_option maxHeartbeats 1000000 in
theorem rDistance_any (x y u h a b c d : Int) (w : World) :
    Calls Try.prog 74 #[rc x y u h, rc a b c d] w fun e w' => e = .returned (iv (diV x y u h a b c d)) ∧ Gr w w' := by
  by_cases h1 : vrB x y u h = true
  · by_cases h2 : vrB a b c d = true
    · obtain ⟨⟨p1, p2, p3, p4⟩, p5, p6⟩ := vr_lims h1
      obtain ⟨⟨q1, q2, q3, q4⟩, q5, q6⟩ := vr_lims h2
      obtain ⟨_, _⟩ := id p1
      obtain ⟨_, _⟩ := id p2
      obtain ⟨_, _⟩ := id p3
      obtain ⟨_, _⟩ := id p4
      obtain ⟨_, _⟩ := id q1
      obtain ⟨_, _⟩ := id q2
      obtain ⟨_, _⟩ := id q3
      obtain ⟨_, _⟩ := id q4
      go_enter Try.func74, Try.ntmps74
      go_upto_region 3 with (go_at_call 97; refine (rValidRect_any _ _ _ _ _).mono ?_; rintro e w1 ⟨rfl, g1⟩; obtain ⟨X1, Y1, c1, f1⟩ := g1.use)
      have W1 : IntKind.i64.wrap (x + u) = x + u := IntWalk.i64_in _ (by omega)
      have W2 : IntKind.i64.wrap (y + h) = y + h := IntWalk.i64_in _ (by omega)
      have W3 : IntKind.i64.wrap (a + c) = a + c := IntWalk.i64_in _ (by omega)
      have W4 : IntKind.i64.wrap (b + d) = b + d := IntWalk.i64_in _ (by omega)
      go_region_held3 (fun w' => Gr (((w.alloc (Obj.cells #[iv x, iv y, iv u, iv h] 75)).alloc (Obj.cells #[iv a, iv b, iv c, iv d] 75))) w' ∧ ∀ ii oo, ii < (((w.alloc (Obj.cells #[iv x, iv y, iv u, iv h] 75)).alloc (Obj.cells #[iv a, iv b, iv c, iv d] 75))).heap.size → w'.cell? ⟨ii, oo, none⟩ = (((w.alloc (Obj.cells #[iv x, iv y, iv u, iv h] 75)).alloc (Obj.cells #[iv a, iv b, iv c, iv d] 75))).cell? ⟨ii, oo, none⟩) ((refine And.intro ?_ (Gr.cell ?_) <;> ((repeat (first | with_reducible exact Gr.refl _ | with_reducible assumption | with_reducible refine Gr.alloc ?_ _ | with_reducible refine Gr.drewN ?_ _ | with_reducible refine Gr.drew ?_ | with_reducible refine Gr.setCell ?_ (by first | (dsimp only; omega) | (simp only [World.size_alloc]; omega) | (with_reducible refine Gr.size ?_; (repeat (first | with_reducible exact Gr.refl _ | with_reducible assumption | with_reducible refine Gr.alloc ?_ _ | with_reducible refine Gr.drewN ?_ _ | with_reducible refine Gr.drew ?_ | with_reducible refine Gr.trans ?_ (by with_reducible assumption))); done)) _ | with_reducible refine Gr.trans ?_ (by with_reducible assumption))); done)))
       (first | (go_at_call 98; refine (gap_any _ _ _ _ _ (by apply Lim.mono; with_reducible assumption; decide) (by apply Lim.mono; with_reducible assumption; decide) (by apply Lim.mono; with_reducible assumption; decide) (by apply Lim.mono; with_reducible assumption; decide)).mono ?_; rintro e w1 ⟨rfl, rfl⟩))
      clear W1 W2 W3 W4
      go_wp2
      all_goals
        go_ret
        exact ⟨ret_iv (by simp only [diV, h1, h2, Bool.and_self, if_true, diM_po]; unfold diM poV; repeat' split; all_goals omega), (by repeat (first | with_reducible exact Gr.refl _ | with_reducible assumption | with_reducible refine Gr.alloc ?_ _ | with_reducible refine Gr.drewN ?_ _ | with_reducible refine Gr.drew ?_ | with_reducible refine Gr.setCell ?_ (by first | (dsimp only; omega) | (simp only [World.size_alloc]; omega) | (with_reducible refine Gr.size ?_; (repeat (first | with_reducible exact Gr.refl _ | with_reducible assumption | with_reducible refine Gr.alloc ?_ _ | with_reducible refine Gr.drewN ?_ _ | with_reducible refine Gr.drew ?_ | with_reducible refine Gr.trans ?_ (by with_reducible assumption))); done)) _ | with_reducible refine Gr.trans ?_ (by with_reducible assumption)))⟩
    · have h2' : vrB a b c d = false := by simpa using h2
      clear h2
      go_enter Try.func74, Try.ntmps74
      go_wp2_with (first | (go_at_call 97; refine (rValidRect_any _ _ _ _ _).mono ?_; rintro e w1 ⟨rfl, g1⟩; obtain ⟨X1, Y1, c1, f1⟩ := g1.use))
      go_ret
      exact ⟨ret_iv (by simp [diV, h2']), (by repeat (first | with_reducible exact Gr.refl _ | with_reducible assumption | with_reducible refine Gr.alloc ?_ _ | with_reducible refine Gr.drewN ?_ _ | with_reducible refine Gr.drew ?_ | with_reducible refine Gr.setCell ?_ (by first | (dsimp only; omega) | (simp only [World.size_alloc]; omega) | (with_reducible refine Gr.size ?_; (repeat (first | with_reducible exact Gr.refl _ | with_reducible assumption | with_reducible refine Gr.alloc ?_ _ | with_reducible refine Gr.drewN ?_ _ | with_reducible refine Gr.drew ?_ | with_reducible refine Gr.trans ?_ (by with_reducible assumption))); done)) _ | with_reducible refine Gr.trans ?_ (by with_reducible assumption)))⟩
  · have h1' : vrB x y u h = false := by simpa using h1
    clear h1
    go_enter Try.func74, Try.ntmps74
    go_wp2_with (first | (go_at_call 97; refine (rValidRect_any _ _ _ _ _).mono ?_; rintro e w1 ⟨rfl, g1⟩; obtain ⟨X1, Y1, c1, f1⟩ := g1.use))
    go_ret
    exact ⟨ret_iv (by simp [diV, h1']), (by repeat (first | with_reducible exact Gr.refl _ | with_reducible assumption | with_reducible refine Gr.alloc ?_ _ | with_reducible refine Gr.drewN ?_ _ | with_reducible refine Gr.drew ?_ | with_reducible refine Gr.setCell ?_ (by first | (dsimp only; omega) | (simp only [World.size_alloc]; omega) | (with_reducible refine Gr.size ?_; (repeat (first | with_reducible exact Gr.refl _ | with_reducible assumption | with_reducible refine Gr.alloc ?_ _ | with_reducible refine Gr.drewN ?_ _ | with_reducible refine Gr.drew ?_ | with_reducible refine Gr.trans ?_ (by with_reducible assumption))); done)) _ | with_reducible refine Gr.trans ?_ (by with_reducible assumption)))⟩
end R
end Go.Proofs.Ytefjgfglommefaa
