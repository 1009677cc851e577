/-
  What the functions of rectangles return, of the program and of the reference.
-/
import Derived.Test.YtfapbiiknfeidaaDoorLaid
namespace Go.Proofs.YtfapbiiknfeidaaDoor
set_option linter.unusedVariables false
set_option linter.unusedSimpArgs false
open Go Go.ChangeShapes Go.WideShapes Go.ChangeAt Go.RowKit Go.Deep

/-- an interval from s of length n is valid -/
def vsB (s n : Int) : Bool := decide (0 < n) && (inB s 1048576 && decide (n ≤ 1048576 - s))
def vrB (x y w h : Int) : Bool := vsB x w && vsB y h
theorem vsB_iff (s n : Int) : vsB s n = true ↔ 0 < n ∧ -1048576 ≤ s ∧ s ≤ 1048576 ∧ n ≤ 1048576 - s := by
  simp only [vsB, inB, Bool.and_eq_true, decide_eq_true_eq]
  constructor <;> (rintro ⟨h1, h2⟩; omega)
theorem validSpan_any (s n : Int) (w : World) :
    Calls Tryd.prog 74 #[iv s, iv n] w fun e w' => e = .returned (.bool (vsB s n)) ∧ w = w' := by
  by_cases h : inB s 1048576 = true
  · obtain ⟨h1, h2⟩ := lim_of h
    go_enter Tryd.func74, Tryd.ntmps74
    go_wp2_with (go_at_call 88; refine (within_any _ _ _ (by omega) (by omega)).mono ?_; rintro e w1 ⟨rfl, rfl⟩)
    all_goals
      go_ret
      exact ⟨ret_bool (by simp [vsB, h]; omega), rfl⟩
  · have h' : inB s 1048576 = false := by simpa using h
    clear h
    go_enter Tryd.func74, Tryd.ntmps74
    go_wp2_with (go_at_call 88; refine (within_any _ _ _ (by omega) (by omega)).mono ?_; rintro e w1 ⟨rfl, rfl⟩)
    all_goals
      go_ret
      exact ⟨ret_bool (by simp [vsB, h']), rfl⟩
theorem ValidRect_any (x y u h : Int) (w : World) :
    Calls Tryd.prog 36 #[rc x y u h] w fun e w' => e = .returned (.bool (vrB x y u h)) ∧ Gr w w' := by
  go_enter Tryd.func36, Tryd.ntmps36
  go_wp2_with (go_at_call 74; refine (validSpan_any _ _ _).mono ?_; rintro e w1 ⟨rfl, rfl⟩)
  all_goals
    go_ret
    exact ⟨ret_bool (by simp [vrB, *]), (by repeat (first | with_reducible exact Gr.refl _ | with_reducible assumption | with_reducible refine Gr.alloc ?_ _ | with_reducible refine Gr.drewN ?_ _ | with_reducible refine Gr.drew ?_ | with_reducible refine Gr.setCell ?_ (by first | (dsimp only; omega) | (simp only [World.size_alloc]; omega) | (with_reducible refine Gr.size ?_; (repeat (first | with_reducible exact Gr.refl _ | with_reducible assumption | with_reducible refine Gr.alloc ?_ _ | with_reducible refine Gr.drewN ?_ _ | with_reducible refine Gr.drew ?_ | with_reducible refine Gr.trans ?_ (by with_reducible assumption))); done)) _ | with_reducible refine Gr.trans ?_ (by with_reducible assumption)))⟩
def wiB (n l m : Int) : Bool := decide (l ≤ n) && decide (n ≤ m)
theorem rwithin2_any (n l m : Int) (w : World) :
    Calls Tryd.prog 60 #[iv n, iv l, iv m] w fun e w' => e = .returned (.bool (wiB n l m)) ∧ w = w' := by
  go_enter Tryd.func60, Tryd.ntmps60
  go_wp2
  all_goals
    go_ret
    exact ⟨ret_bool (by simp [wiB]; omega), rfl⟩
theorem wiB_iff {n l m : Int} : wiB n l m = true ↔ l ≤ n ∧ n ≤ m := by simp [wiB]
theorem rValidRect_any (x y u h : Int) (w : World) :
    Calls Tryd.prog 37 #[rc x y u h] w fun e w' => e = .returned (.bool (vrB x y u h)) ∧ Gr w w' := by
  have e : vrB x y u h = (wiB x (-1048576) 1048576 && wiB y (-1048576) 1048576 && wiB u 1 2097152 && wiB h 1 2097152 && decide (x + u ≤ 1048576) && decide (y + h ≤ 1048576)) := by
    rw [Bool.eq_iff_iff]
    simp only [vrB, Bool.and_eq_true, vsB_iff, wiB_iff, decide_eq_true_eq]
    omega
  rw [e]
  clear e
  by_cases h1 : wiB x (-1048576) 1048576 = true
  · by_cases h2 : wiB y (-1048576) 1048576 = true
    · by_cases h3 : wiB u 1 2097152 = true
      · by_cases h4 : wiB h 1 2097152 = true
        · obtain ⟨a1, a2⟩ := wiB_iff.1 h1
          obtain ⟨b1, b2⟩ := wiB_iff.1 h2
          obtain ⟨c1, c2⟩ := wiB_iff.1 h3
          obtain ⟨d1, d2⟩ := wiB_iff.1 h4
          go_enter Tryd.func37, Tryd.ntmps37
          go_wp2_with (go_at_call 60; refine (rwithin2_any _ _ _ _).mono ?_; rintro e w1 ⟨rfl, rfl⟩)
          all_goals
            go_ret
            exact ⟨ret_bool (by simp [h1, h2, h3, h4]; omega), (by repeat (first | with_reducible exact Gr.refl _ | with_reducible assumption | with_reducible refine Gr.alloc ?_ _ | with_reducible refine Gr.drewN ?_ _ | with_reducible refine Gr.drew ?_ | with_reducible refine Gr.setCell ?_ (by first | (dsimp only; omega) | (simp only [World.size_alloc]; omega) | (with_reducible refine Gr.size ?_; (repeat (first | with_reducible exact Gr.refl _ | with_reducible assumption | with_reducible refine Gr.alloc ?_ _ | with_reducible refine Gr.drewN ?_ _ | with_reducible refine Gr.drew ?_ | with_reducible refine Gr.trans ?_ (by with_reducible assumption))); done)) _ | with_reducible refine Gr.trans ?_ (by with_reducible assumption)))⟩
        · have h4' : wiB h 1 2097152 = false := by simpa using h4
          clear h4
          go_enter Tryd.func37, Tryd.ntmps37
          go_wp2_with (go_at_call 60; refine (rwithin2_any _ _ _ _).mono ?_; rintro e w1 ⟨rfl, rfl⟩)
          all_goals
            go_ret
            exact ⟨ret_bool (by simp [h4']), (by repeat (first | with_reducible exact Gr.refl _ | with_reducible assumption | with_reducible refine Gr.alloc ?_ _ | with_reducible refine Gr.drewN ?_ _ | with_reducible refine Gr.drew ?_ | with_reducible refine Gr.setCell ?_ (by first | (dsimp only; omega) | (simp only [World.size_alloc]; omega) | (with_reducible refine Gr.size ?_; (repeat (first | with_reducible exact Gr.refl _ | with_reducible assumption | with_reducible refine Gr.alloc ?_ _ | with_reducible refine Gr.drewN ?_ _ | with_reducible refine Gr.drew ?_ | with_reducible refine Gr.trans ?_ (by with_reducible assumption))); done)) _ | with_reducible refine Gr.trans ?_ (by with_reducible assumption)))⟩
      · have h3' : wiB u 1 2097152 = false := by simpa using h3
        clear h3
        go_enter Tryd.func37, Tryd.ntmps37
        go_wp2_with (go_at_call 60; refine (rwithin2_any _ _ _ _).mono ?_; rintro e w1 ⟨rfl, rfl⟩)
        all_goals
          go_ret
          exact ⟨ret_bool (by simp [h3']), (by repeat (first | with_reducible exact Gr.refl _ | with_reducible assumption | with_reducible refine Gr.alloc ?_ _ | with_reducible refine Gr.drewN ?_ _ | with_reducible refine Gr.drew ?_ | with_reducible refine Gr.setCell ?_ (by first | (dsimp only; omega) | (simp only [World.size_alloc]; omega) | (with_reducible refine Gr.size ?_; (repeat (first | with_reducible exact Gr.refl _ | with_reducible assumption | with_reducible refine Gr.alloc ?_ _ | with_reducible refine Gr.drewN ?_ _ | with_reducible refine Gr.drew ?_ | with_reducible refine Gr.trans ?_ (by with_reducible assumption))); done)) _ | with_reducible refine Gr.trans ?_ (by with_reducible assumption)))⟩
    · have h2' : wiB y (-1048576) 1048576 = false := by simpa using h2
      clear h2
      go_enter Tryd.func37, Tryd.ntmps37
      go_wp2_with (go_at_call 60; refine (rwithin2_any _ _ _ _).mono ?_; rintro e w1 ⟨rfl, rfl⟩)
      all_goals
        go_ret
        exact ⟨ret_bool (by simp [h2']), (by repeat (first | with_reducible exact Gr.refl _ | with_reducible assumption | with_reducible refine Gr.alloc ?_ _ | with_reducible refine Gr.drewN ?_ _ | with_reducible refine Gr.drew ?_ | with_reducible refine Gr.setCell ?_ (by first | (dsimp only; omega) | (simp only [World.size_alloc]; omega) | (with_reducible refine Gr.size ?_; (repeat (first | with_reducible exact Gr.refl _ | with_reducible assumption | with_reducible refine Gr.alloc ?_ _ | with_reducible refine Gr.drewN ?_ _ | with_reducible refine Gr.drew ?_ | with_reducible refine Gr.trans ?_ (by with_reducible assumption))); done)) _ | with_reducible refine Gr.trans ?_ (by with_reducible assumption)))⟩
  · have h1' : wiB x (-1048576) 1048576 = false := by simpa using h1
    clear h1
    go_enter Tryd.func37, Tryd.ntmps37
    go_wp2_with (go_at_call 60; refine (rwithin2_any _ _ _ _).mono ?_; rintro e w1 ⟨rfl, rfl⟩)
    all_goals
      go_ret
      exact ⟨ret_bool (by simp [h1']), (by repeat (first | with_reducible exact Gr.refl _ | with_reducible assumption | with_reducible refine Gr.alloc ?_ _ | with_reducible refine Gr.drewN ?_ _ | with_reducible refine Gr.drew ?_ | with_reducible refine Gr.setCell ?_ (by first | (dsimp only; omega) | (simp only [World.size_alloc]; omega) | (with_reducible refine Gr.size ?_; (repeat (first | with_reducible exact Gr.refl _ | with_reducible assumption | with_reducible refine Gr.alloc ?_ _ | with_reducible refine Gr.drewN ?_ _ | with_reducible refine Gr.drew ?_ | with_reducible refine Gr.trans ?_ (by with_reducible assumption))); done)) _ | with_reducible refine Gr.trans ?_ (by with_reducible assumption)))⟩
/-- a number of a side, small enough for sums -/
def soB (a l b m : Int) : Bool := decide (a < b + m) && decide (b < a + l)
def siB (a l b m : Int) : Bool := decide (b ≤ a) && decide (a + l ≤ b + m)
def gaV (a b c d : Int) : Int := if a - d < c - b then c - b else a - d
def poV (x : Int) : Int := if x < 0 then 0 else x
theorem spansOverlap_any (a l b m : Int) (w : World) (ha : Lim 4194304 a) (hl : Lim 4194304 l) (hb : Lim 4194304 b) (hm : Lim 4194304 m) :
    Calls Tryd.prog 75 #[iv a, iv l, iv b, iv m] w fun e w' => e = .returned (.bool (soB a l b m)) ∧ w = w' := by
  obtain ⟨a1, a2⟩ := ha
  obtain ⟨l1, l2⟩ := hl
  obtain ⟨b1, b2⟩ := hb
  obtain ⟨m1, m2⟩ := hm
  go_enter Tryd.func75, Tryd.ntmps75
  go_wp2
  all_goals
    go_ret
    exact ⟨ret_bool (by simp [soB]; omega), rfl⟩
theorem spanInside_any (a l b m : Int) (w : World) (ha : Lim 4194304 a) (hl : Lim 4194304 l) (hb : Lim 4194304 b) (hm : Lim 4194304 m) :
    Calls Tryd.prog 77 #[iv a, iv l, iv b, iv m] w fun e w' => e = .returned (.bool (siB a l b m)) ∧ w = w' := by
  obtain ⟨a1, a2⟩ := ha
  obtain ⟨l1, l2⟩ := hl
  obtain ⟨b1, b2⟩ := hb
  obtain ⟨m1, m2⟩ := hm
  go_enter Tryd.func77, Tryd.ntmps77
  go_wp2
  all_goals
    go_ret
    exact ⟨ret_bool (by simp [siB]; omega), rfl⟩
theorem gap_any (a b c d : Int) (w : World) (ha : Lim 4194304 a) (hl : Lim 4194304 b) (hb : Lim 4194304 c) (hm : Lim 4194304 d) :
    Calls Tryd.prog 76 #[iv a, iv b, iv c, iv d] w fun e w' => e = .returned (iv (gaV a b c d)) ∧ w = w' := by
  obtain ⟨a1, a2⟩ := ha
  obtain ⟨l1, l2⟩ := hl
  obtain ⟨b1, b2⟩ := hb
  obtain ⟨m1, m2⟩ := hm
  go_enter Tryd.func76, Tryd.ntmps76
  go_wp2
  all_goals
    go_ret
    exact ⟨ret_iv (by simp only [gaV]; split <;> omega), rfl⟩
theorem spanGap_any (a l b m : Int) (w : World) (ha : Lim 4194304 a) (hl : Lim 4194304 l) (hb : Lim 4194304 b) (hm : Lim 4194304 m) :
    Calls Tryd.prog 78 #[iv a, iv l, iv b, iv m] w fun e w' => e = .returned (iv (poV (gaV a (a + l) b (b + m)))) ∧ w = w' := by
  obtain ⟨a1, a2⟩ := ha
  obtain ⟨l1, l2⟩ := hl
  obtain ⟨b1, b2⟩ := hb
  obtain ⟨m1, m2⟩ := hm
  go_enter Tryd.func78, Tryd.ntmps78
  go_wp2
  all_goals
    go_ret
    exact ⟨ret_iv (by simp only [gaV, poV]; split <;> split <;> omega), rfl⟩
end Go.Proofs.YtfapbiiknfeidaaDoor
