/-
  Regions: what the functions of single rectangles and of the errors of lists return, of the program and of the reference.
-/
import Derived.Test.YtddhaiaapomdjaaGreatGenr
import Derived.Test.YtddhaiaapomdjaaGreatRg3r
set_option linter.unusedVariables false
set_option linter.unusedSimpArgs false
namespace Go.Proofs.YtddhaiaapomdjaaGreat
set_option linter.unusedVariables false
set_option linter.unusedSimpArgs false
open Go Go.ChangeShapes Go.WideShapes Go.ChangeAt Go.RowKit Go.Deep

namespace RG
def inB (n l : Int) : Bool := decide (-l ≤ n) && decide (n ≤ l)
theorem inB_iff (n l : Int) : inB n l = true ↔ -l ≤ n ∧ n ≤ l := by simp [inB]
theorem within_any (n l : Int) (w : World) (h0 : 0 ≤ l) (h1 : l ≤ 1073741824) :
    Calls Tryz.prog 166 #[iv n, iv l] w fun e w' => e = .returned (.bool (inB n l)) ∧ w = w' := by
  go_enter Tryz.func166, Tryz.ntmps166
  go_wp2
  all_goals
    go_ret
    exact ⟨ret_bool (by simp [inB]; omega), rfl⟩
def vsB (s n : Int) : Bool := decide (0 < n) && (inB s 1048576 && decide (n ≤ 1048576 - s))
def vrB (x y w h : Int) : Bool := vsB x w && vsB y h
theorem vsB_iff (s n : Int) : vsB s n = true ↔ 0 < n ∧ -1048576 ≤ s ∧ s ≤ 1048576 ∧ n ≤ 1048576 - s := by
  simp only [vsB, inB, Bool.and_eq_true, decide_eq_true_eq]
  constructor <;> (rintro ⟨h1, h2⟩; omega)
theorem validSpan_any (s n : Int) (w : World) :
    Calls Tryz.prog 134 #[iv s, iv n] w fun e w' => e = .returned (.bool (vsB s n)) ∧ w = w' := by
  by_cases h : inB s 1048576 = true
  · obtain ⟨h1, h2⟩ := (inB_iff _ _).1 h
    go_enter Tryz.func134, Tryz.ntmps134
    go_wp2_with (go_at_call 166; refine (within_any _ _ _ (by omega) (by omega)).mono ?_; rintro e w1 ⟨rfl, rfl⟩)
    all_goals
      go_ret
      exact ⟨ret_bool (by simp [vsB, h]; omega), rfl⟩
  · have h' : inB s 1048576 = false := by simpa using h
    clear h
    go_enter Tryz.func134, Tryz.ntmps134
    go_wp2_with (go_at_call 166; refine (within_any _ _ _ (by omega) (by omega)).mono ?_; rintro e w1 ⟨rfl, rfl⟩)
    all_goals
      go_ret
      exact ⟨ret_bool (by simp [vsB, h']), rfl⟩
theorem ValidRect_any (x y u h : Int) (w : World) :
    Calls Tryz.prog 90 #[rc x y u h] w fun e w' => e = .returned (.bool (vrB x y u h)) ∧ Gr w w' := by
  go_enter Tryz.func90, Tryz.ntmps90
  go_wp2_with (go_at_call 134; refine (validSpan_any _ _ _).mono ?_; rintro e w1 ⟨rfl, rfl⟩)
  all_goals
    go_ret
    exact ⟨ret_bool (by simp [vrB, *]), (by with_reducible repeat (first | exact Gr.refl _ | assumption | refine Gr.alloc ?_ _ | refine Gr.drewN ?_ _ | refine Gr.drew ?_ | refine Gr.setCell ?_ (by first | (dsimp only; omega) | (simp only [World.size_alloc]; omega) | (refine Gr.size ?_; (repeat (first | exact Gr.refl _ | assumption | refine Gr.alloc ?_ _ | refine Gr.drewN ?_ _ | refine Gr.drew ?_ | refine Gr.trans ?_ (by assumption))); done)) _ | refine Gr.trans ?_ (by assumption)))⟩
def vrR (r : Rc) : Bool := vrB r.x r.y r.w r.h
theorem vrR_iff {r : Rc} : vrR r = true ↔ InM 1048576 r := by
  unfold vrR vrB
  simp only [Bool.and_eq_true, vsB_iff]
  constructor
  · rintro ⟨h1, h2⟩
    exact ⟨by omega, by omega, by omega, by omega, by omega, by omega⟩
  · intro h
    have := h.w; have := h.h; have := h.x; have := h.y; have := h.x'; have := h.y'
    omega
def wiB (n l m : Int) : Bool := decide (l ≤ n) && decide (n ≤ m)
theorem wiB_iff {n l m : Int} : wiB n l m = true ↔ l ≤ n ∧ n ≤ m := by simp [wiB]
/-- the error of a list -/
def ceL (l : List Rc) : Int := if 48 < l.length then 4 else if l.all vrR then 0 else 1
theorem ceL_ok {l : List Rc} (h : ¬ 48 < l.length) (k : ∀ j r, j < l.length → l[j]? = some r → vrR r = true) : ceL l = 0 := by
  unfold ceL
  rw [if_neg h, if_pos]
  rw [List.all_eq_true]
  intro r hr
  obtain ⟨j, hj⟩ := List.mem_iff_getElem?.1 hr
  exact k j r (List.getElem?_eq_some_iff.1 hj).1 hj
theorem ceL_zero {l : List Rc} (h : ceL l = 0) : l.length ≤ 48 ∧ ∀ r ∈ l, InM 1048576 r := by
  unfold ceL at h
  split at h
  · cases h
  · split at h
    · rename_i k
      refine ⟨by omega, fun r hr => vrR_iff.1 (List.all_eq_true.1 k r hr)⟩
    · cases h
/-- all of the first k are such -/
theorem all_more {p : Rc → Bool} {l : List Rc} {k : Nat} {r : Rc} (h : ∀ (j : Nat) (s : Rc), j < k → l[j]? = some s → p s = true) (hs : l[k]? = some r) (q : p r = true) : ∀ (j : Nat) (s : Rc), j < k + 1 → l[j]? = some s → p s = true := by
  intro j x hj hx
  rcases Nat.lt_or_ge j k with c | c
  · exact h j x c hx
  · obtain rfl : j = k := by omega
    rw [hs] at hx
    obtain rfl := Option.some.inj hx
    exact q
theorem cov_true_at {l : List Rc} {k : Nat} {r : Rc} {x y : Int} (h : l[k]? = some r) (q : inR r x y = true) : cov l x y = true := cov_true (List.mem_of_getElem? h) q
theorem cov_none {l : List Rc} {x y : Int} (h : ∀ (j : Nat) (s : Rc), j < l.length → l[j]? = some s → (!inR s x y) = true) : cov l x y = false := cov_false fun i r hi hr => by simpa using h i r hi hr
end RG
end Go.Proofs.YtddhaiaapomdjaaGreat
