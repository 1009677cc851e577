/-
  Regions: what the functions of single rectangles and of the errors of lists return, of the program and of the reference.
-/
import Derived.Test.YtjnfodbniohkhaaGen
import Derived.Test.YtjnfodbniohkhaaRg3
set_option linter.unusedVariables false
set_option linter.unusedSimpArgs false
namespace Go.Proofs.Ytjnfodbniohkhaa
set_option linter.unusedVariables false
set_option linter.unusedSimpArgs false
open Go Go.ChangeShapes Go.WideShapes Go.ChangeAt Go.RowKit Go.Deep

namespace RG
def inB (n l : Int) : Bool := decide (-l ≤ n) && decide (n ≤ l)
theorem inB_iff (n l : Int) : inB n l = true ↔ -l ≤ n ∧ n ≤ l := by simp [inB]
def Lm (l n : Int) : Prop := -l ≤ n ∧ n ≤ l
theorem within_any (n l : Int) (w : World) (h0 : 0 ≤ l) (h1 : l ≤ 1073741824) :
    Calls Try.prog 56 #[iv n, iv l] w fun e w' => e = .returned (.bool (inB n l)) ∧ w = w' := by
  go_enter Try.func56, Try.ntmps56
  go_wp2
  all_goals
    go_ret
    exact ⟨ret_bool (by simp [inB]; omega), rfl⟩
def vsB (s n : Int) : Bool := decide (0 < n) && (inB s 1048576 && decide (n ≤ 1048576 - s))
def vrB (x y w h : Int) : Bool := vsB x w && vsB y h
theorem vsB_iff (s n : Int) : vsB s n = true ↔ 0 < n ∧ -1048576 ≤ s ∧ s ≤ 1048576 ∧ n ≤ 1048576 - s := by
  simp only [vsB, inB, Bool.and_eq_true, decide_eq_true_eq]
  constructor <;> (rintro ⟨h1, h2⟩; omega)
theorem validSpan_any (s n : Int) (w : World) :
    Calls Try.prog 49 #[iv s, iv n] w fun e w' => e = .returned (.bool (vsB s n)) ∧ w = w' := by
  by_cases h : inB s 1048576 = true
  · obtain ⟨h1, h2⟩ := (inB_iff _ _).1 h
    go_enter Try.func49, Try.ntmps49
    go_wp2_with (go_at_call 56; refine (within_any _ _ _ (by omega) (by omega)).mono ?_; rintro e w1 ⟨rfl, rfl⟩)
    all_goals
      go_ret
      exact ⟨ret_bool (by simp [vsB, h]; omega), rfl⟩
  · have h' : inB s 1048576 = false := by simpa using h
    clear h
    go_enter Try.func49, Try.ntmps49
    go_wp2_with (go_at_call 56; refine (within_any _ _ _ (by omega) (by omega)).mono ?_; rintro e w1 ⟨rfl, rfl⟩)
    all_goals
      go_ret
      exact ⟨ret_bool (by simp [vsB, h']), rfl⟩
theorem ValidRect_any (x y u h : Int) (w : World) :
    Calls Try.prog 35 #[rc x y u h] w fun e w' => e = .returned (.bool (vrB x y u h)) ∧ Gr w w' := by
  go_enter Try.func35, Try.ntmps35
  go_wp2_with (go_at_call 49; refine (validSpan_any _ _ _).mono ?_; rintro e w1 ⟨rfl, rfl⟩)
  all_goals
    go_ret
    exact ⟨ret_bool (by simp [vrB, *]), (by repeat (first | with_reducible exact Gr.refl _ | with_reducible assumption | with_reducible refine Gr.alloc ?_ _ | with_reducible refine Gr.drewN ?_ _ | with_reducible refine Gr.drew ?_ | with_reducible refine Gr.setCell ?_ (by first | (dsimp only; omega) | (simp only [World.size_alloc]; omega) | (with_reducible refine Gr.size ?_; (repeat (first | with_reducible exact Gr.refl _ | with_reducible assumption | with_reducible refine Gr.alloc ?_ _ | with_reducible refine Gr.drewN ?_ _ | with_reducible refine Gr.drew ?_ | with_reducible refine Gr.trans ?_ (by with_reducible assumption))); done)) _ | with_reducible refine Gr.trans ?_ (by with_reducible assumption)))⟩
def vrR (r : Rc) : Bool := vrB r.x r.y r.w r.h
theorem vrR_iff {r : Rc} : vrR r = true ↔ InM 1048576 r := by
  unfold vrR vrB
  simp only [Bool.and_eq_true, vsB_iff]
  constructor
  · rintro ⟨h1, h2⟩
    exact ⟨by omega, by omega, by omega, by omega, by omega, by omega⟩
  · intro h
    have := h.w; have := h.h; have := h.x; have := h.y; have := h.x'; have := h.y'
    omega
def wiB (n l m : Int) : Bool := decide (l ≤ n) && decide (n ≤ m)
theorem rwithin2_any (n l m : Int) (w : World) :
    Calls Try.prog 85 #[iv n, iv l, iv m] w fun e w' => e = .returned (.bool (wiB n l m)) ∧ w = w' := by
  go_enter Try.func85, Try.ntmps85
  go_wp2
  all_goals
    go_ret
    exact ⟨ret_bool (by simp [wiB]; omega), rfl⟩
theorem wiB_iff {n l m : Int} : wiB n l m = true ↔ l ≤ n ∧ n ≤ m := by simp [wiB]
theorem rValidRect_any (x y u h : Int) (w : World) :
    Calls Try.prog 76 #[rc x y u h] w fun e w' => e = .returned (.bool (vrB x y u h)) ∧ Gr w w' := by
  have e : vrB x y u h = (wiB x (-1048576) 1048576 && wiB y (-1048576) 1048576 && wiB u 1 2097152 && wiB h 1 2097152 && decide (x + u ≤ 1048576) && decide (y + h ≤ 1048576)) := by
    rw [Bool.eq_iff_iff]
    simp only [vrB, Bool.and_eq_true, vsB_iff, wiB_iff, decide_eq_true_eq]
    omega
  rw [e]
  clear e
  by_cases h1 : wiB x (-1048576) 1048576 = true
  · by_cases h2 : wiB y (-1048576) 1048576 = true
    · by_cases h3 : wiB u 1 2097152 = true
      · by_cases h4 : wiB h 1 2097152 = true
        · obtain ⟨a1, a2⟩ := wiB_iff.1 h1
          obtain ⟨b1, b2⟩ := wiB_iff.1 h2
          obtain ⟨c1, c2⟩ := wiB_iff.1 h3
          obtain ⟨d1, d2⟩ := wiB_iff.1 h4
          go_enter Try.func76, Try.ntmps76
          go_wp2_with (go_at_call 85; refine (rwithin2_any _ _ _ _).mono ?_; rintro e w1 ⟨rfl, rfl⟩)
          all_goals
            go_ret
            exact ⟨ret_bool (by simp [h1, h2, h3, h4]; omega), (by repeat (first | with_reducible exact Gr.refl _ | with_reducible assumption | with_reducible refine Gr.alloc ?_ _ | with_reducible refine Gr.drewN ?_ _ | with_reducible refine Gr.drew ?_ | with_reducible refine Gr.setCell ?_ (by first | (dsimp only; omega) | (simp only [World.size_alloc]; omega) | (with_reducible refine Gr.size ?_; (repeat (first | with_reducible exact Gr.refl _ | with_reducible assumption | with_reducible refine Gr.alloc ?_ _ | with_reducible refine Gr.drewN ?_ _ | with_reducible refine Gr.drew ?_ | with_reducible refine Gr.trans ?_ (by with_reducible assumption))); done)) _ | with_reducible refine Gr.trans ?_ (by with_reducible assumption)))⟩
        · have h4' : wiB h 1 2097152 = false := by simpa using h4
          clear h4
          go_enter Try.func76, Try.ntmps76
          go_wp2_with (go_at_call 85; refine (rwithin2_any _ _ _ _).mono ?_; rintro e w1 ⟨rfl, rfl⟩)
          all_goals
            go_ret
            exact ⟨ret_bool (by simp [h4']), (by repeat (first | with_reducible exact Gr.refl _ | with_reducible assumption | with_reducible refine Gr.alloc ?_ _ | with_reducible refine Gr.drewN ?_ _ | with_reducible refine Gr.drew ?_ | with_reducible refine Gr.setCell ?_ (by first | (dsimp only; omega) | (simp only [World.size_alloc]; omega) | (with_reducible refine Gr.size ?_; (repeat (first | with_reducible exact Gr.refl _ | with_reducible assumption | with_reducible refine Gr.alloc ?_ _ | with_reducible refine Gr.drewN ?_ _ | with_reducible refine Gr.drew ?_ | with_reducible refine Gr.trans ?_ (by with_reducible assumption))); done)) _ | with_reducible refine Gr.trans ?_ (by with_reducible assumption)))⟩
      · have h3' : wiB u 1 2097152 = false := by simpa using h3
        clear h3
        go_enter Try.func76, Try.ntmps76
        go_wp2_with (go_at_call 85; refine (rwithin2_any _ _ _ _).mono ?_; rintro e w1 ⟨rfl, rfl⟩)
        all_goals
          go_ret
          exact ⟨ret_bool (by simp [h3']), (by repeat (first | with_reducible exact Gr.refl _ | with_reducible assumption | with_reducible refine Gr.alloc ?_ _ | with_reducible refine Gr.drewN ?_ _ | with_reducible refine Gr.drew ?_ | with_reducible refine Gr.setCell ?_ (by first | (dsimp only; omega) | (simp only [World.size_alloc]; omega) | (with_reducible refine Gr.size ?_; (repeat (first | with_reducible exact Gr.refl _ | with_reducible assumption | with_reducible refine Gr.alloc ?_ _ | with_reducible refine Gr.drewN ?_ _ | with_reducible refine Gr.drew ?_ | with_reducible refine Gr.trans ?_ (by with_reducible assumption))); done)) _ | with_reducible refine Gr.trans ?_ (by with_reducible assumption)))⟩
    · have h2' : wiB y (-1048576) 1048576 = false := by simpa using h2
      clear h2
      go_enter Try.func76, Try.ntmps76
      go_wp2_with (go_at_call 85; refine (rwithin2_any _ _ _ _).mono ?_; rintro e w1 ⟨rfl, rfl⟩)
      all_goals
        go_ret
        exact ⟨ret_bool (by simp [h2']), (by repeat (first | with_reducible exact Gr.refl _ | with_reducible assumption | with_reducible refine Gr.alloc ?_ _ | with_reducible refine Gr.drewN ?_ _ | with_reducible refine Gr.drew ?_ | with_reducible refine Gr.setCell ?_ (by first | (dsimp only; omega) | (simp only [World.size_alloc]; omega) | (with_reducible refine Gr.size ?_; (repeat (first | with_reducible exact Gr.refl _ | with_reducible assumption | with_reducible refine Gr.alloc ?_ _ | with_reducible refine Gr.drewN ?_ _ | with_reducible refine Gr.drew ?_ | with_reducible refine Gr.trans ?_ (by with_reducible assumption))); done)) _ | with_reducible refine Gr.trans ?_ (by with_reducible assumption)))⟩
  · have h1' : wiB x (-1048576) 1048576 = false := by simpa using h1
    clear h1
    go_enter Try.func76, Try.ntmps76
    go_wp2_with (go_at_call 85; refine (rwithin2_any _ _ _ _).mono ?_; rintro e w1 ⟨rfl, rfl⟩)
    all_goals
      go_ret
      exact ⟨ret_bool (by simp [h1']), (by repeat (first | with_reducible exact Gr.refl _ | with_reducible assumption | with_reducible refine Gr.alloc ?_ _ | with_reducible refine Gr.drewN ?_ _ | with_reducible refine Gr.drew ?_ | with_reducible refine Gr.setCell ?_ (by first | (dsimp only; omega) | (simp only [World.size_alloc]; omega) | (with_reducible refine Gr.size ?_; (repeat (first | with_reducible exact Gr.refl _ | with_reducible assumption | with_reducible refine Gr.alloc ?_ _ | with_reducible refine Gr.drewN ?_ _ | with_reducible refine Gr.drew ?_ | with_reducible refine Gr.trans ?_ (by with_reducible assumption))); done)) _ | with_reducible refine Gr.trans ?_ (by with_reducible assumption)))⟩
/-- the error of a list -/
def ceL (l : List Rc) : Int := if 48 < l.length then 4 else if l.all vrR then 0 else 1
theorem ceL_many {l : List Rc} (h : 48 < l.length) : ceL l = 4 := if_pos h
theorem ceL_ok {l : List Rc} (h : ¬ 48 < l.length) (k : ∀ j r, j < l.length → l[j]? = some r → vrR r = true) : ceL l = 0 := by
  unfold ceL
  rw [if_neg h, if_pos]
  rw [List.all_eq_true]
  intro r hr
  obtain ⟨j, hj⟩ := List.mem_iff_getElem?.1 hr
  exact k j r (List.getElem?_eq_some_iff.1 hj).1 hj
theorem ceL_bad {l : List Rc} {j : Nat} {r : Rc} (h : ¬ 48 < l.length) (k : l[j]? = some r) (q : vrR r = false) : ceL l = 1 := by
  unfold ceL
  rw [if_neg h, if_neg]
  intro a
  rw [List.all_eq_true] at a
  rw [a r (List.mem_of_getElem? k)] at q
  cases q
theorem ceL_zero {l : List Rc} (h : ceL l = 0) : l.length ≤ 48 ∧ ∀ r ∈ l, InM 1048576 r := by
  unfold ceL at h
  split at h
  · cases h
  · split at h
    · rename_i k
      refine ⟨by omega, fun r hr => vrR_iff.1 (List.all_eq_true.1 k r hr)⟩
    · cases h
/-- all of the first k are such -/
theorem all_more {p : Rc → Bool} {l : List Rc} {k : Nat} {r : Rc} (h : ∀ (j : Nat) (s : Rc), j < k → l[j]? = some s → p s = true) (hs : l[k]? = some r) (q : p r = true) : ∀ (j : Nat) (s : Rc), j < k + 1 → l[j]? = some s → p s = true := by
  intro j x hj hx
  rcases Nat.lt_or_ge j k with c | c
  · exact h j x c hx
  · obtain rfl : j = k := by omega
    rw [hs] at hx
    obtain rfl := Option.some.inj hx
    exact q
set_option maxHeartbeats 1000000 in
set_option maxRecDepth 100000 in
theorem rCheck_any (A : Option Addr) (c : Nat) (l : List Rc) (w : World) (hl : SlR w A c l) :
    Calls Try.prog 54 #[.slice A l.length c] w fun e w' => e = .returned (iv (ceL l)) ∧ Gr w w' := by
  have n1 := hl.cap
  have n2 := hl.capB
  have HL := hide hl
  clear hl
  by_cases h48 : 48 < l.length
  · have HE := hide (ceL_many h48)
    have h48' : (48 : Int) < (l.length : Int) := by omega
    clear h48
    go_enter Try.func54, Try.ntmps54
    go_wp2
    go_ret
    exact ⟨ret_iv HE.out.symm, (by repeat (first | with_reducible exact Gr.refl _ | with_reducible assumption | with_reducible refine Gr.alloc ?_ _ | with_reducible refine Gr.drewN ?_ _ | with_reducible refine Gr.drew ?_ | with_reducible refine Gr.setCell ?_ (by first | (dsimp only; omega) | (simp only [World.size_alloc]; omega) | (with_reducible refine Gr.size ?_; (repeat (first | with_reducible exact Gr.refl _ | with_reducible assumption | with_reducible refine Gr.alloc ?_ _ | with_reducible refine Gr.drewN ?_ _ | with_reducible refine Gr.drew ?_ | with_reducible refine Gr.trans ?_ (by with_reducible assumption))); done)) _ | with_reducible refine Gr.trans ?_ (by with_reducible assumption)))⟩
  · have h48' : ¬ (48 : Int) < (l.length : Int) := by omega
    go_enter Try.func54, Try.ntmps54
    go_wp2
    go_loopw [3] (fun i wr => ∃ k : Nat, k ≤ l.length ∧ i = iv k ∧ Gr w wr ∧ Hid (∀ j r, j < k → l[j]? = some r → vrR r = true)) (fun i _ => l.length - (intOf i).toNat)
    case atStart => exact ⟨0, by omega, rfl, Gr.refl _, hide (fun j r h => absurd h (Nat.not_lt_zero j))⟩
    case round =>
      obtain ⟨k, hk, rfl, g, HS⟩ := hrel
      by_cases hkl : k < l.length
      · obtain ⟨r, hr⟩ : ∃ r, l[k]? = some r := ⟨_, List.getElem?_eq_getElem hkl⟩
        obtain ⟨b, o, rfl, x0, x1, x2, x3⟩ := (HL.out.gr g).at_ hr
        have HR := hide hr
        have hk0 : (0 : Int) ≤ (k : Int) := by omega
        have hk1 : (k : Int) < (l.length : Int) := by omega
        have HI := hide (fun w' => rValidRect_any r.x r.y r.w r.h w')
        rw [show vrB r.x r.y r.w r.h = vrR r from rfl] at HI
        clear hr
        cases hv : vrR r with
        | true =>
          have HS' := hide (all_more HS.out HR.out hv)
          rw [hv] at HI
          clear hv
          go_wp2_with (first | (go_at_call 76; refine (HI.out _).mono ?_; rintro e w1 ⟨rfl, g1⟩; obtain ⟨X1, Y1, c1, f1⟩ := g1.use))
          go_roundw
          case rel => exact ⟨k + 1, by omega, by go_num, (by repeat (first | with_reducible exact Gr.refl _ | with_reducible assumption | with_reducible refine Gr.alloc ?_ _ | with_reducible refine Gr.drewN ?_ _ | with_reducible refine Gr.drew ?_ | with_reducible refine Gr.setCell ?_ (by first | (dsimp only; omega) | (simp only [World.size_alloc]; omega) | (with_reducible refine Gr.size ?_; (repeat (first | with_reducible exact Gr.refl _ | with_reducible assumption | with_reducible refine Gr.alloc ?_ _ | with_reducible refine Gr.drewN ?_ _ | with_reducible refine Gr.drew ?_ | with_reducible refine Gr.trans ?_ (by with_reducible assumption))); done)) _ | with_reducible refine Gr.trans ?_ (by with_reducible assumption))), HS'⟩
          case measure => simp only [intOf]; omega
        | false =>
          have HE := hide (ceL_bad h48 HR.out hv)
          rw [hv] at HI
          clear hv
          go_wp2_with (first | (go_at_call 76; refine (HI.out _).mono ?_; rintro e w1 ⟨rfl, g1⟩; obtain ⟨X1, Y1, c1, f1⟩ := g1.use))
          go_ret
          exact ⟨ret_iv HE.out.symm, (by repeat (first | with_reducible exact Gr.refl _ | with_reducible assumption | with_reducible refine Gr.alloc ?_ _ | with_reducible refine Gr.drewN ?_ _ | with_reducible refine Gr.drew ?_ | with_reducible refine Gr.setCell ?_ (by first | (dsimp only; omega) | (simp only [World.size_alloc]; omega) | (with_reducible refine Gr.size ?_; (repeat (first | with_reducible exact Gr.refl _ | with_reducible assumption | with_reducible refine Gr.alloc ?_ _ | with_reducible refine Gr.drewN ?_ _ | with_reducible refine Gr.drew ?_ | with_reducible refine Gr.trans ?_ (by with_reducible assumption))); done)) _ | with_reducible refine Gr.trans ?_ (by with_reducible assumption)))⟩
      · obtain rfl : k = l.length := by omega
        have HE := hide (ceL_ok h48 HS.out)
        go_wp2
        go_ret
        exact ⟨ret_iv HE.out.symm, (by repeat (first | with_reducible exact Gr.refl _ | with_reducible assumption | with_reducible refine Gr.alloc ?_ _ | with_reducible refine Gr.drewN ?_ _ | with_reducible refine Gr.drew ?_ | with_reducible refine Gr.setCell ?_ (by first | (dsimp only; omega) | (simp only [World.size_alloc]; omega) | (with_reducible refine Gr.size ?_; (repeat (first | with_reducible exact Gr.refl _ | with_reducible assumption | with_reducible refine Gr.alloc ?_ _ | with_reducible refine Gr.drewN ?_ _ | with_reducible refine Gr.drew ?_ | with_reducible refine Gr.trans ?_ (by with_reducible assumption))); done)) _ | with_reducible refine Gr.trans ?_ (by with_reducible assumption)))⟩
theorem cov_true_at {l : List Rc} {k : Nat} {r : Rc} {x y : Int} (h : l[k]? = some r) (q : inR r x y = true) : cov l x y = true := cov_true (List.mem_of_getElem? h) q
theorem cov_none {l : List Rc} {x y : Int} (h : ∀ (j : Nat) (s : Rc), j < l.length → l[j]? = some s → (!inR s x y) = true) : cov l x y = false := cov_false fun i r hi hr => by simpa using h i r hi hr
set_option maxHeartbeats 4000000 in
set_option maxRecDepth 100000 in
theorem covers_any (A : Option Addr) (c : Nat) (l : List Rc) (x y : Int) (w : World) (hl : SlR w A c l) (hv : ∀ r ∈ l, InM 1048576 r) :
    Calls Try.prog 45 #[.slice A l.length c, iv x, iv y] w fun e w' => e = .returned (.bool (cov l x y)) ∧ Gr w w' := by
  have n1 := hl.cap
  have n2 := hl.capB
  have HL := hide hl
  have HV := hide hv
  clear hl hv
  go_enter Try.func45, Try.ntmps45
  go_wp2
  go_loopw [7] (fun i wr => ∃ k : Nat, k ≤ l.length ∧ i = iv k ∧ Gr w wr ∧ Hid (∀ (j : Nat) (s : Rc), j < k → l[j]? = some s → (!inR s x y) = true)) (fun i _ => l.length - (intOf i).toNat)
  case atStart => exact ⟨0, by omega, rfl, Gr.refl _, hide (fun j r h => absurd h (Nat.not_lt_zero j))⟩
  case round =>
    obtain ⟨k, hk, rfl, g, HS⟩ := hrel
    by_cases hkl : k < l.length
    · obtain ⟨r, hr⟩ : ∃ r, l[k]? = some r := ⟨_, List.getElem?_eq_getElem hkl⟩
      obtain ⟨b, o, rfl, x0, x1, x2, x3⟩ := (HL.out.gr g).at_ hr
      have HR := hide hr
      have hb := HV.out r (List.mem_of_getElem? hr)
      have m1 := hb.w
      have m2 := hb.h
      have m3 := hb.x
      have m4 := hb.y
      have m5 := hb.x'
      have m6 := hb.y'
      have hk0 : (0 : Int) ≤ (k : Int) := by omega
      have hk1 : (k : Int) < (l.length : Int) := by omega
      have e1 : IntKind.i64.wrap (r.x + r.w) = r.x + r.w := IntWalk.i64_in _ (by omega)
      have e2 : IntKind.i64.wrap (r.y + r.h) = r.y + r.h := IntWalk.i64_in _ (by omega)
      clear hr hb
      have HIR := hide (@inR_iff r x y)
      have key : (decide (r.x ≤ x) = false) ∨ (decide (r.x ≤ x) = true ∧ decide (x < r.x + r.w) = false) ∨ (decide (r.x ≤ x) = true ∧ decide (x < r.x + r.w) = true ∧ decide (r.y ≤ y) = false) ∨ (decide (r.x ≤ x) = true ∧ decide (x < r.x + r.w) = true ∧ decide (r.y ≤ y) = true ∧ decide (y < r.y + r.h) = false) ∨ (decide (r.x ≤ x) = true ∧ decide (x < r.x + r.w) = true ∧ decide (r.y ≤ y) = true ∧ decide (y < r.y + r.h) = true) := by
        simp only [decide_eq_true_eq, decide_eq_false_iff_not]
        omega
      have HS' := hide (fun q => all_more (p := fun s => !inR s x y) HS.out HR.out q)
      have HE := hide (fun q => cov_true_at (x := x) (y := y) HR.out q)
      clear m1 m2 m3 m4 m5 m6
      rcases key with a1 | ⟨a1, a2⟩ | ⟨a1, a2, a3⟩ | ⟨a1, a2, a3, a4⟩ | ⟨a1, a2, a3, a4⟩
      · have HS2 := hide (HS'.out (by simp only [Bool.not_eq_true', Bool.eq_false_iff]; intro k; have := HIR.out.1 k; simp only [decide_eq_false_iff_not] at a1; omega))
        clear HS' HE HIR
        go_wp2
        have GC := @GrW.cell
        refine wp_region_grw _ (by kernel_rfl) (by kernel_rfl) (Gr.refl _) ?_
        repeat (go_big_quiet_step ((first | fail)))
        refine wpQuiet_nil ?_
        intro wq hwq
        obtain ⟨gq, hwq'⟩ := hwq
        subst hwq'
        clear GC
        have gq1 := gq.gr
        generalize gq.w = wq at gq1 ⊢
        obtain ⟨Xq, Yq, cq, fq⟩ := gq1.use
        have sq := gq1.size
        (try simp only [World.size_alloc, World.size_setCell, World.heap_drewN] at sq)
        go_wp2
        go_roundw
        case rel => exact ⟨k + 1, by omega, by go_num, (by repeat (first | with_reducible exact Gr.refl _ | with_reducible assumption | with_reducible refine Gr.alloc ?_ _ | with_reducible refine Gr.drewN ?_ _ | with_reducible refine Gr.drew ?_ | with_reducible refine Gr.setCell ?_ (by first | (dsimp only; omega) | (simp only [World.size_alloc]; omega) | (with_reducible refine Gr.size ?_; (repeat (first | with_reducible exact Gr.refl _ | with_reducible assumption | with_reducible refine Gr.alloc ?_ _ | with_reducible refine Gr.drewN ?_ _ | with_reducible refine Gr.drew ?_ | with_reducible refine Gr.trans ?_ (by with_reducible assumption))); done)) _ | with_reducible refine Gr.trans ?_ (by with_reducible assumption))), HS2⟩
        case measure => simp only [intOf]; omega
      · have HS2 := hide (HS'.out (by simp only [Bool.not_eq_true', Bool.eq_false_iff]; intro k; have := HIR.out.1 k; simp only [decide_eq_false_iff_not] at a2; omega))
        clear HS' HE HIR
        go_wp2
        have GC := @GrW.cell
        refine wp_region_grw _ (by kernel_rfl) (by kernel_rfl) (Gr.refl _) ?_
        repeat (go_big_quiet_step ((first | fail)))
        refine wpQuiet_nil ?_
        intro wq hwq
        obtain ⟨gq, hwq'⟩ := hwq
        subst hwq'
        clear GC
        have gq1 := gq.gr
        generalize gq.w = wq at gq1 ⊢
        obtain ⟨Xq, Yq, cq, fq⟩ := gq1.use
        have sq := gq1.size
        (try simp only [World.size_alloc, World.size_setCell, World.heap_drewN] at sq)
        go_wp2
        go_roundw
        case rel => exact ⟨k + 1, by omega, by go_num, (by repeat (first | with_reducible exact Gr.refl _ | with_reducible assumption | with_reducible refine Gr.alloc ?_ _ | with_reducible refine Gr.drewN ?_ _ | with_reducible refine Gr.drew ?_ | with_reducible refine Gr.setCell ?_ (by first | (dsimp only; omega) | (simp only [World.size_alloc]; omega) | (with_reducible refine Gr.size ?_; (repeat (first | with_reducible exact Gr.refl _ | with_reducible assumption | with_reducible refine Gr.alloc ?_ _ | with_reducible refine Gr.drewN ?_ _ | with_reducible refine Gr.drew ?_ | with_reducible refine Gr.trans ?_ (by with_reducible assumption))); done)) _ | with_reducible refine Gr.trans ?_ (by with_reducible assumption))), HS2⟩
        case measure => simp only [intOf]; omega
      · have HS2 := hide (HS'.out (by simp only [Bool.not_eq_true', Bool.eq_false_iff]; intro k; have := HIR.out.1 k; simp only [decide_eq_false_iff_not] at a3; omega))
        clear HS' HE HIR
        go_wp2
        have GC := @GrW.cell
        refine wp_region_grw _ (by kernel_rfl) (by kernel_rfl) (Gr.refl _) ?_
        repeat (go_big_quiet_step ((first | fail)))
        refine wpQuiet_nil ?_
        intro wq hwq
        obtain ⟨gq, hwq'⟩ := hwq
        subst hwq'
        clear GC
        have gq1 := gq.gr
        generalize gq.w = wq at gq1 ⊢
        obtain ⟨Xq, Yq, cq, fq⟩ := gq1.use
        have sq := gq1.size
        (try simp only [World.size_alloc, World.size_setCell, World.heap_drewN] at sq)
        go_wp2
        go_roundw
        case rel => exact ⟨k + 1, by omega, by go_num, (by repeat (first | with_reducible exact Gr.refl _ | with_reducible assumption | with_reducible refine Gr.alloc ?_ _ | with_reducible refine Gr.drewN ?_ _ | with_reducible refine Gr.drew ?_ | with_reducible refine Gr.setCell ?_ (by first | (dsimp only; omega) | (simp only [World.size_alloc]; omega) | (with_reducible refine Gr.size ?_; (repeat (first | with_reducible exact Gr.refl _ | with_reducible assumption | with_reducible refine Gr.alloc ?_ _ | with_reducible refine Gr.drewN ?_ _ | with_reducible refine Gr.drew ?_ | with_reducible refine Gr.trans ?_ (by with_reducible assumption))); done)) _ | with_reducible refine Gr.trans ?_ (by with_reducible assumption))), HS2⟩
        case measure => simp only [intOf]; omega
      · have HS2 := hide (HS'.out (by simp only [Bool.not_eq_true', Bool.eq_false_iff]; intro k; have := HIR.out.1 k; simp only [decide_eq_false_iff_not] at a4; omega))
        clear HS' HE HIR
        go_wp2
        have GC := @GrW.cell
        refine wp_region_grw _ (by kernel_rfl) (by kernel_rfl) (Gr.refl _) ?_
        repeat (go_big_quiet_step ((first | fail)))
        refine wpQuiet_nil ?_
        intro wq hwq
        obtain ⟨gq, hwq'⟩ := hwq
        subst hwq'
        clear GC
        have gq1 := gq.gr
        generalize gq.w = wq at gq1 ⊢
        obtain ⟨Xq, Yq, cq, fq⟩ := gq1.use
        have sq := gq1.size
        (try simp only [World.size_alloc, World.size_setCell, World.heap_drewN] at sq)
        go_wp2
        go_roundw
        case rel => exact ⟨k + 1, by omega, by go_num, (by repeat (first | with_reducible exact Gr.refl _ | with_reducible assumption | with_reducible refine Gr.alloc ?_ _ | with_reducible refine Gr.drewN ?_ _ | with_reducible refine Gr.drew ?_ | with_reducible refine Gr.setCell ?_ (by first | (dsimp only; omega) | (simp only [World.size_alloc]; omega) | (with_reducible refine Gr.size ?_; (repeat (first | with_reducible exact Gr.refl _ | with_reducible assumption | with_reducible refine Gr.alloc ?_ _ | with_reducible refine Gr.drewN ?_ _ | with_reducible refine Gr.drew ?_ | with_reducible refine Gr.trans ?_ (by with_reducible assumption))); done)) _ | with_reducible refine Gr.trans ?_ (by with_reducible assumption))), HS2⟩
        case measure => simp only [intOf]; omega
      · have HE2 := hide (HE.out (HIR.out.2 (by simp only [decide_eq_true_eq] at a1 a2 a3 a4; omega)))
        clear HS' HE HIR
        go_wp2
        have GC := @GrW.cell
        refine wp_region_grw _ (by kernel_rfl) (by kernel_rfl) (Gr.refl _) ?_
        repeat (go_big_quiet_step ((first | fail)))
        refine wpQuiet_nil ?_
        intro wq hwq
        obtain ⟨gq, hwq'⟩ := hwq
        subst hwq'
        clear GC
        have gq1 := gq.gr
        generalize gq.w = wq at gq1 ⊢
        obtain ⟨Xq, Yq, cq, fq⟩ := gq1.use
        have sq := gq1.size
        (try simp only [World.size_alloc, World.size_setCell, World.heap_drewN] at sq)
        go_wp2
        go_ret
        exact ⟨ret_bool HE2.out.symm, (by repeat (first | with_reducible exact Gr.refl _ | with_reducible assumption | with_reducible refine Gr.alloc ?_ _ | with_reducible refine Gr.drewN ?_ _ | with_reducible refine Gr.drew ?_ | with_reducible refine Gr.setCell ?_ (by first | (dsimp only; omega) | (simp only [World.size_alloc]; omega) | (with_reducible refine Gr.size ?_; (repeat (first | with_reducible exact Gr.refl _ | with_reducible assumption | with_reducible refine Gr.alloc ?_ _ | with_reducible refine Gr.drewN ?_ _ | with_reducible refine Gr.drew ?_ | with_reducible refine Gr.trans ?_ (by with_reducible assumption))); done)) _ | with_reducible refine Gr.trans ?_ (by with_reducible assumption)))⟩
    · obtain rfl : k = l.length := by omega
      have HE := hide (cov_none HS.out)
      go_wp2
      go_ret
      exact ⟨ret_bool HE.out.symm, (by repeat (first | with_reducible exact Gr.refl _ | with_reducible assumption | with_reducible refine Gr.alloc ?_ _ | with_reducible refine Gr.drewN ?_ _ | with_reducible refine Gr.drew ?_ | with_reducible refine Gr.setCell ?_ (by first | (dsimp only; omega) | (simp only [World.size_alloc]; omega) | (with_reducible refine Gr.size ?_; (repeat (first | with_reducible exact Gr.refl _ | with_reducible assumption | with_reducible refine Gr.alloc ?_ _ | with_reducible refine Gr.drewN ?_ _ | with_reducible refine Gr.drew ?_ | with_reducible refine Gr.trans ?_ (by with_reducible assumption))); done)) _ | with_reducible refine Gr.trans ?_ (by with_reducible assumption)))⟩
end RG
end Go.Proofs.Ytjnfodbniohkhaa
