/-
  Edits: what belongs to a face, on both sides.
  Edits: rows of the call's own, stored over and cut; slices.Delete of one element.
  Edits: holes copied; lists whose first elements are turned.
  Edits: whether an edit can be made, in the code.
  Edits, plainly: the part after an edit; what Apply returns; that an edit can be taken back.
  Edits: a part copied by the code.
  Edits: the numbers of the faces behind one that was removed are lowered, in the code.
  Parts, plain: the faces that move with a flange.
  Parts: the exported Moves of the code.
  Parts: the reference's Moves; the exported Moves of both sides.
  Parts: the exported Moves and Size of both sides; PartMoves: the walk.
  Parts: the reference's Size; lists of numbers compared; PartMoves: the walk.
  append of one element onto a slice of the call's own, said of lists, for seats of parts.
  Edits: a variable of eight cells stored; the part after an edit, in the code.
  Edits: Apply of the code.
  An argument that is an edit, opened.
-/
import Derived.Test.YtefjgfglommefaaML
import Derived.Test.YtefjgfglommefaaMix2
import Derived.OwnWalk
import Derived.Test.YtefjgfglommefaaOpenPa
set_option linter.unusedVariables false
set_option linter.unusedSimpArgs false
namespace Go.Proofs.Ytefjgfglommefaa
set_option linter.unusedVariables false
set_option linter.unusedSimpArgs false
open Go Go.ChangeShapes Go.WideShapes Go.ChangeAt Go.RowKit Go.Deep

theorem any_yes {α : Type} {f : α → Bool} {l : List α} {i : Nat} {x : α} (h : l[i]? = some x) (k : f x = true) : l.any f = true := List.any_eq_true.2 ⟨x, List.mem_of_getElem? h, k⟩
theorem any_no {α : Type} {f : α → Bool} {l : List α} (h : ∀ i x, i < l.length → l[i]? = some x → f x = false) : l.any f = false := by
  rw [List.any_eq_false]
  intro x hx
  obtain ⟨i, hi⟩ := List.mem_iff_getElem?.1 hx
  rw [h i x (List.getElem?_eq_some_iff.1 hi).1 hi]
  simp
def usF (l : List Fl) (n : Int) : Bool := l.any fun x => x.pa == n
def usH (l : List Ho) (n : Int) : Bool := l.any fun x => x.fa == n
/-- whether a flange or hole belongs to a face -/
def usB (p : Pa) (n : Int) : Bool := usF p.fl n || usH p.ho n
theorem hasFl_any (p : Pa) (A B : Option Addr) (c d : Nat) (n : Int) (w : World) :
    Calls Try.prog 38 #[pav p A c B d, iv n] w fun e w' => e = .returned (.bool (wiB n 0 (p.fl.length - 1))) ∧ Gr w w' := by
  go_enter Try.func38, Try.ntmps38
  go_wp2
  all_goals
    go_ret
    exact ⟨ret_bool (by unfold wiB; simp [*] <;> omega), (by repeat (first | with_reducible exact Gr.refl _ | with_reducible assumption | with_reducible refine Gr.alloc ?_ _ | with_reducible refine Gr.drewN ?_ _ | with_reducible refine Gr.drew ?_ | with_reducible refine Gr.setCell ?_ (by first | (dsimp only; omega) | (simp only [World.size_alloc]; omega) | (with_reducible refine Gr.size ?_; (repeat (first | with_reducible exact Gr.refl _ | with_reducible assumption | with_reducible refine Gr.alloc ?_ _ | with_reducible refine Gr.drewN ?_ _ | with_reducible refine Gr.drew ?_ | with_reducible refine Gr.trans ?_ (by with_reducible assumption))); done)) _ | with_reducible refine Gr.trans ?_ (by with_reducible assumption)))⟩
theorem hasHole_any (p : Pa) (A B : Option Addr) (c d : Nat) (n : Int) (w : World) :
    Calls Try.prog 39 #[pav p A c B d, iv n] w fun e w' => e = .returned (.bool (wiB n 0 (p.ho.length - 1))) ∧ Gr w w' := by
  go_enter Try.func39, Try.ntmps39
  go_wp2
  all_goals
    go_ret
    exact ⟨ret_bool (by unfold wiB; simp [*] <;> omega), (by repeat (first | with_reducible exact Gr.refl _ | with_reducible assumption | with_reducible refine Gr.alloc ?_ _ | with_reducible refine Gr.drewN ?_ _ | with_reducible refine Gr.drew ?_ | with_reducible refine Gr.setCell ?_ (by first | (dsimp only; omega) | (simp only [World.size_alloc]; omega) | (with_reducible refine Gr.size ?_; (repeat (first | with_reducible exact Gr.refl _ | with_reducible assumption | with_reducible refine Gr.alloc ?_ _ | with_reducible refine Gr.drewN ?_ _ | with_reducible refine Gr.drew ?_ | with_reducible refine Gr.trans ?_ (by with_reducible assumption))); done)) _ | with_reducible refine Gr.trans ?_ (by with_reducible assumption)))⟩
theorem hmf (fn : Fn) (first cap : Array Value) (w : World) : (Instr.makeFunc fn first cap).run Try.prog w = .ok (.func fn first cap) w := rfl
theorem carF_any (x : Fl) (n : Int) (B : Nat) (w : World) (h : w.cell? ⟨B, 0, none⟩ = some (iv n)) :
    Calls Try.prog 65 #[flv x, .pointer (some ⟨B, 0, none⟩)] w fun e w' => e = .returned (.bool (x.pa == n)) ∧ Gr w w' := by
  have hB : B < w.heap.size := cell_lt (by rw [h]; rfl)
  go_enter Try.func65, Try.ntmps65
  go_wp2
  go_ret
  exact ⟨rfl, (by repeat (first | with_reducible exact Gr.refl _ | with_reducible assumption | with_reducible refine Gr.alloc ?_ _ | with_reducible refine Gr.drewN ?_ _ | with_reducible refine Gr.drew ?_ | with_reducible refine Gr.setCell ?_ (by first | (dsimp only; omega) | (simp only [World.size_alloc]; omega) | (with_reducible refine Gr.size ?_; (repeat (first | with_reducible exact Gr.refl _ | with_reducible assumption | with_reducible refine Gr.alloc ?_ _ | with_reducible refine Gr.drewN ?_ _ | with_reducible refine Gr.drew ?_ | with_reducible refine Gr.trans ?_ (by with_reducible assumption))); done)) _ | with_reducible refine Gr.trans ?_ (by with_reducible assumption)))⟩
set_option maxRecDepth 100000 in
set_option maxHeartbeats 2000000 in
theorem ixF_any (A : Option Addr) (c : Nat) (l : List Fl) (n : Int) (B : Nat) (w : World) (hl : SlF w A c l) (hB : w.cell? ⟨B, 0, none⟩ = some (iv n)) :
    Calls Try.prog 94 #[.slice A l.length c, .func (.func 65) #[] #[.pointer (some ⟨B, 0, none⟩)]] w fun e w' => (∃ i : Int, e = .returned (iv i) ∧ decide (0 ≤ i) = usF l n) ∧ Gr w w' := by
  have n1 := hl.len
  have hlt : B < w.heap.size := cell_lt (by rw [hB]; rfl)
  have HL := hide hl
  have HC := hide (fun (x : Fl) (w' : World) (g : Gr w w') => carF_any x n B w' ((g.cell _ _ hlt).trans hB))
  clear hl hB hlt
  go_enter Try.func94, Try.ntmps94
  go_wp2
  go_loopw [8] (fun i wr => ∃ k : Nat, k ≤ l.length ∧ i = iv k ∧ Gr w wr ∧ Hid (∀ i x, i < k → l[i]? = some x → (x.pa == n) = false)) (fun i _ => l.length - (intOf i).toNat)
  case atStart => exact ⟨0, by omega, rfl, Gr.refl _, hide (fun i x hi => absurd hi (Nat.not_lt_zero i))⟩
  case round =>
    obtain ⟨k, hk, rfl, g, HS⟩ := hrel
    by_cases hkl : k < l.length
    · obtain ⟨x, hx⟩ : ∃ x, l[k]? = some x := ⟨_, List.getElem?_eq_getElem hkl⟩
      obtain ⟨b, o, rfl, x0, x1, x2, x3, x4, x5, x6⟩ := (HL.out.gr g).rd.fl hx
      have hk0 : (0 : Int) ≤ (k : Int) := by omega
      have hk1 : (k : Int) < (l.length : Int) := by omega
      have HX := hide hx
      have HC1 := hide (fun w' g => HC.out x w' g)
      clear hx
      cases hv : (x.pa == n) with
      | true =>
        have HE := hide (any_yes (f := fun x : Fl => x.pa == n) HX.out hv)
        rw [hv] at HC1
        clear hv
        go_wp2_with (first | (go_at_call 65; refine (HC1.out _ g).mono ?_; rintro e w1 ⟨rfl, g1⟩; obtain ⟨X1, Y1, c1, f1⟩ := g1.use))
        go_ret
        exact ⟨⟨(k : Int), rfl, by unfold usF; rw [HE.out]; simp⟩, (by repeat (first | with_reducible exact Gr.refl _ | with_reducible assumption | with_reducible refine Gr.alloc ?_ _ | with_reducible refine Gr.drewN ?_ _ | with_reducible refine Gr.drew ?_ | with_reducible refine Gr.setCell ?_ (by first | (dsimp only; omega) | (simp only [World.size_alloc]; omega) | (with_reducible refine Gr.size ?_; (repeat (first | with_reducible exact Gr.refl _ | with_reducible assumption | with_reducible refine Gr.alloc ?_ _ | with_reducible refine Gr.drewN ?_ _ | with_reducible refine Gr.drew ?_ | with_reducible refine Gr.trans ?_ (by with_reducible assumption))); done)) _ | with_reducible refine Gr.trans ?_ (by with_reducible assumption)))⟩
      | false =>
        have HS' := hide (show ∀ i y, i < k + 1 → l[i]? = some y → (y.pa == n) = false by
          intro i y hi hy
          rcases Nat.lt_or_ge i k with h | h
          · exact HS.out i y h hy
          · obtain rfl : i = k := by omega
            rw [HX.out] at hy
            obtain rfl := Option.some.inj hy
            exact hv)
        rw [hv] at HC1
        clear hv
        go_wp2_with (first | (go_at_call 65; refine (HC1.out _ g).mono ?_; rintro e w1 ⟨rfl, g1⟩; obtain ⟨X1, Y1, c1, f1⟩ := g1.use))
        go_roundw
        case rel => exact ⟨k + 1, by omega, by go_num, (by repeat (first | with_reducible exact Gr.refl _ | with_reducible assumption | with_reducible refine Gr.alloc ?_ _ | with_reducible refine Gr.drewN ?_ _ | with_reducible refine Gr.drew ?_ | with_reducible refine Gr.setCell ?_ (by first | (dsimp only; omega) | (simp only [World.size_alloc]; omega) | (with_reducible refine Gr.size ?_; (repeat (first | with_reducible exact Gr.refl _ | with_reducible assumption | with_reducible refine Gr.alloc ?_ _ | with_reducible refine Gr.drewN ?_ _ | with_reducible refine Gr.drew ?_ | with_reducible refine Gr.trans ?_ (by with_reducible assumption))); done)) _ | with_reducible refine Gr.trans ?_ (by with_reducible assumption))), HS'⟩
        case measure => simp only [intOf]; omega
    · obtain rfl : k = l.length := by omega
      have HE := hide (any_no (f := fun x : Fl => x.pa == n) HS.out)
      go_wp2
      go_ret
      exact ⟨⟨-1, rfl, by unfold usF; rw [HE.out]; rfl⟩, (by repeat (first | with_reducible exact Gr.refl _ | with_reducible assumption | with_reducible refine Gr.alloc ?_ _ | with_reducible refine Gr.drewN ?_ _ | with_reducible refine Gr.drew ?_ | with_reducible refine Gr.setCell ?_ (by first | (dsimp only; omega) | (simp only [World.size_alloc]; omega) | (with_reducible refine Gr.size ?_; (repeat (first | with_reducible exact Gr.refl _ | with_reducible assumption | with_reducible refine Gr.alloc ?_ _ | with_reducible refine Gr.drewN ?_ _ | with_reducible refine Gr.drew ?_ | with_reducible refine Gr.trans ?_ (by with_reducible assumption))); done)) _ | with_reducible refine Gr.trans ?_ (by with_reducible assumption)))⟩
theorem coF_any (A : Option Addr) (c : Nat) (l : List Fl) (n : Int) (B : Nat) (w : World) (hl : SlF w A c l) (hB : w.cell? ⟨B, 0, none⟩ = some (iv n)) :
    Calls Try.prog 64 #[.slice A l.length c, .func (.func 65) #[] #[.pointer (some ⟨B, 0, none⟩)]] w fun e w' => e = .returned (.bool (usF l n)) ∧ Gr w w' := by
  have HI := hide (ixF_any A c l n B w hl hB)
  clear hl hB
  go_enter Try.func64, Try.ntmps64
  go_wp2_with fail
  refine HI.out.mono ?_
  rintro e w1 ⟨⟨i, rfl, hi⟩, g1⟩
  go_wp2
  go_ret
  exact ⟨rfl, (by repeat (first | with_reducible exact Gr.refl _ | with_reducible assumption | with_reducible refine Gr.alloc ?_ _ | with_reducible refine Gr.drewN ?_ _ | with_reducible refine Gr.drew ?_ | with_reducible refine Gr.setCell ?_ (by first | (dsimp only; omega) | (simp only [World.size_alloc]; omega) | (with_reducible refine Gr.size ?_; (repeat (first | with_reducible exact Gr.refl _ | with_reducible assumption | with_reducible refine Gr.alloc ?_ _ | with_reducible refine Gr.drewN ?_ _ | with_reducible refine Gr.drew ?_ | with_reducible refine Gr.trans ?_ (by with_reducible assumption))); done)) _ | with_reducible refine Gr.trans ?_ (by with_reducible assumption)))⟩
theorem carH_any (x : Ho) (n : Int) (B : Nat) (w : World) (h : w.cell? ⟨B, 0, none⟩ = some (iv n)) :
    Calls Try.prog 67 #[hov x, .pointer (some ⟨B, 0, none⟩)] w fun e w' => e = .returned (.bool (x.fa == n)) ∧ Gr w w' := by
  have hB : B < w.heap.size := cell_lt (by rw [h]; rfl)
  go_enter Try.func67, Try.ntmps67
  go_wp2
  go_ret
  exact ⟨rfl, (by repeat (first | with_reducible exact Gr.refl _ | with_reducible assumption | with_reducible refine Gr.alloc ?_ _ | with_reducible refine Gr.drewN ?_ _ | with_reducible refine Gr.drew ?_ | with_reducible refine Gr.setCell ?_ (by first | (dsimp only; omega) | (simp only [World.size_alloc]; omega) | (with_reducible refine Gr.size ?_; (repeat (first | with_reducible exact Gr.refl _ | with_reducible assumption | with_reducible refine Gr.alloc ?_ _ | with_reducible refine Gr.drewN ?_ _ | with_reducible refine Gr.drew ?_ | with_reducible refine Gr.trans ?_ (by with_reducible assumption))); done)) _ | with_reducible refine Gr.trans ?_ (by with_reducible assumption)))⟩
set_option maxRecDepth 100000 in
set_option maxHeartbeats 2000000 in
theorem ixH_any (A : Option Addr) (c : Nat) (l : List Ho) (n : Int) (B : Nat) (w : World) (hl : SlH w A c l) (hB : w.cell? ⟨B, 0, none⟩ = some (iv n)) :
    Calls Try.prog 95 #[.slice A l.length c, .func (.func 67) #[] #[.pointer (some ⟨B, 0, none⟩)]] w fun e w' => (∃ i : Int, e = .returned (iv i) ∧ decide (0 ≤ i) = usH l n) ∧ Gr w w' := by
  have n1 := hl.len
  have hlt : B < w.heap.size := cell_lt (by rw [hB]; rfl)
  have HL := hide hl
  have HC := hide (fun (x : Ho) (w' : World) (g : Gr w w') => carH_any x n B w' ((g.cell _ _ hlt).trans hB))
  clear hl hB hlt
  go_enter Try.func95, Try.ntmps95
  go_wp2
  go_loopw [8] (fun i wr => ∃ k : Nat, k ≤ l.length ∧ i = iv k ∧ Gr w wr ∧ Hid (∀ i x, i < k → l[i]? = some x → (x.fa == n) = false)) (fun i _ => l.length - (intOf i).toNat)
  case atStart => exact ⟨0, by omega, rfl, Gr.refl _, hide (fun i x hi => absurd hi (Nat.not_lt_zero i))⟩
  case round =>
    obtain ⟨k, hk, rfl, g, HS⟩ := hrel
    by_cases hkl : k < l.length
    · obtain ⟨x, hx⟩ : ∃ x, l[k]? = some x := ⟨_, List.getElem?_eq_getElem hkl⟩
      obtain ⟨b, o, rfl, x0, x1, x2, x3, x4, x5⟩ := (HL.out.gr g).rd.ho hx
      have hk0 : (0 : Int) ≤ (k : Int) := by omega
      have hk1 : (k : Int) < (l.length : Int) := by omega
      have HX := hide hx
      have HC1 := hide (fun w' g => HC.out x w' g)
      clear hx
      cases hv : (x.fa == n) with
      | true =>
        have HE := hide (any_yes (f := fun x : Ho => x.fa == n) HX.out hv)
        rw [hv] at HC1
        clear hv
        go_wp2_with (first | (go_at_call 67; refine (HC1.out _ g).mono ?_; rintro e w1 ⟨rfl, g1⟩; obtain ⟨X1, Y1, c1, f1⟩ := g1.use))
        go_ret
        exact ⟨⟨(k : Int), rfl, by unfold usH; rw [HE.out]; simp⟩, (by repeat (first | with_reducible exact Gr.refl _ | with_reducible assumption | with_reducible refine Gr.alloc ?_ _ | with_reducible refine Gr.drewN ?_ _ | with_reducible refine Gr.drew ?_ | with_reducible refine Gr.setCell ?_ (by first | (dsimp only; omega) | (simp only [World.size_alloc]; omega) | (with_reducible refine Gr.size ?_; (repeat (first | with_reducible exact Gr.refl _ | with_reducible assumption | with_reducible refine Gr.alloc ?_ _ | with_reducible refine Gr.drewN ?_ _ | with_reducible refine Gr.drew ?_ | with_reducible refine Gr.trans ?_ (by with_reducible assumption))); done)) _ | with_reducible refine Gr.trans ?_ (by with_reducible assumption)))⟩
      | false =>
        have HS' := hide (show ∀ i y, i < k + 1 → l[i]? = some y → (y.fa == n) = false by
          intro i y hi hy
          rcases Nat.lt_or_ge i k with h | h
          · exact HS.out i y h hy
          · obtain rfl : i = k := by omega
            rw [HX.out] at hy
            obtain rfl := Option.some.inj hy
            exact hv)
        rw [hv] at HC1
        clear hv
        go_wp2_with (first | (go_at_call 67; refine (HC1.out _ g).mono ?_; rintro e w1 ⟨rfl, g1⟩; obtain ⟨X1, Y1, c1, f1⟩ := g1.use))
        go_roundw
        case rel => exact ⟨k + 1, by omega, by go_num, (by repeat (first | with_reducible exact Gr.refl _ | with_reducible assumption | with_reducible refine Gr.alloc ?_ _ | with_reducible refine Gr.drewN ?_ _ | with_reducible refine Gr.drew ?_ | with_reducible refine Gr.setCell ?_ (by first | (dsimp only; omega) | (simp only [World.size_alloc]; omega) | (with_reducible refine Gr.size ?_; (repeat (first | with_reducible exact Gr.refl _ | with_reducible assumption | with_reducible refine Gr.alloc ?_ _ | with_reducible refine Gr.drewN ?_ _ | with_reducible refine Gr.drew ?_ | with_reducible refine Gr.trans ?_ (by with_reducible assumption))); done)) _ | with_reducible refine Gr.trans ?_ (by with_reducible assumption))), HS'⟩
        case measure => simp only [intOf]; omega
    · obtain rfl : k = l.length := by omega
      have HE := hide (any_no (f := fun x : Ho => x.fa == n) HS.out)
      go_wp2
      go_ret
      exact ⟨⟨-1, rfl, by unfold usH; rw [HE.out]; rfl⟩, (by repeat (first | with_reducible exact Gr.refl _ | with_reducible assumption | with_reducible refine Gr.alloc ?_ _ | with_reducible refine Gr.drewN ?_ _ | with_reducible refine Gr.drew ?_ | with_reducible refine Gr.setCell ?_ (by first | (dsimp only; omega) | (simp only [World.size_alloc]; omega) | (with_reducible refine Gr.size ?_; (repeat (first | with_reducible exact Gr.refl _ | with_reducible assumption | with_reducible refine Gr.alloc ?_ _ | with_reducible refine Gr.drewN ?_ _ | with_reducible refine Gr.drew ?_ | with_reducible refine Gr.trans ?_ (by with_reducible assumption))); done)) _ | with_reducible refine Gr.trans ?_ (by with_reducible assumption)))⟩
theorem coH_any (A : Option Addr) (c : Nat) (l : List Ho) (n : Int) (B : Nat) (w : World) (hl : SlH w A c l) (hB : w.cell? ⟨B, 0, none⟩ = some (iv n)) :
    Calls Try.prog 66 #[.slice A l.length c, .func (.func 67) #[] #[.pointer (some ⟨B, 0, none⟩)]] w fun e w' => e = .returned (.bool (usH l n)) ∧ Gr w w' := by
  have HI := hide (ixH_any A c l n B w hl hB)
  clear hl hB
  go_enter Try.func66, Try.ntmps66
  go_wp2_with fail
  refine HI.out.mono ?_
  rintro e w1 ⟨⟨i, rfl, hi⟩, g1⟩
  go_wp2
  go_ret
  exact ⟨rfl, (by repeat (first | with_reducible exact Gr.refl _ | with_reducible assumption | with_reducible refine Gr.alloc ?_ _ | with_reducible refine Gr.drewN ?_ _ | with_reducible refine Gr.drew ?_ | with_reducible refine Gr.setCell ?_ (by first | (dsimp only; omega) | (simp only [World.size_alloc]; omega) | (with_reducible refine Gr.size ?_; (repeat (first | with_reducible exact Gr.refl _ | with_reducible assumption | with_reducible refine Gr.alloc ?_ _ | with_reducible refine Gr.drewN ?_ _ | with_reducible refine Gr.drew ?_ | with_reducible refine Gr.trans ?_ (by with_reducible assumption))); done)) _ | with_reducible refine Gr.trans ?_ (by with_reducible assumption)))⟩
set_option maxRecDepth 100000 in
set_option maxHeartbeats 2000000 in
theorem carries_any (p : Pa) (A B : Option Addr) (c d : Nat) (n : Int) (w : World) (hP : PaW w p A c B d) :
    Calls Try.prog 40 #[pav p A c B d, iv n] w fun e w' => e = .returned (.bool (usB p n)) ∧ Gr w w' := by
  have hm := hmf
  have HF := hide (fun (w' : World) (g : Gr w w') hB => coF_any A c p.fl n (w.heap.size + 1) w' (hP.fl.gr g) hB)
  have HH := hide (fun (w' : World) (g : Gr w w') hB => coH_any B d p.ho n (w.heap.size + 1) w' (hP.ho.gr g) hB)
  have HE := hide (show usB p n = (usF p.fl n || usH p.ho n) from rfl)
  clear hP
  cases hf : usF p.fl n with
  | true =>
    rw [hf] at HF HE
    clear hf
    go_enter Try.func40, Try.ntmps40
    go_wp2_with fail
    refine (HF.out _ (by repeat (first | with_reducible exact Gr.refl _ | with_reducible assumption | with_reducible refine Gr.alloc ?_ _ | with_reducible refine Gr.drewN ?_ _ | with_reducible refine Gr.drew ?_ | with_reducible refine Gr.setCell ?_ (by first | (dsimp only; omega) | (simp only [World.size_alloc]; omega) | (with_reducible refine Gr.size ?_; (repeat (first | with_reducible exact Gr.refl _ | with_reducible assumption | with_reducible refine Gr.alloc ?_ _ | with_reducible refine Gr.drewN ?_ _ | with_reducible refine Gr.drew ?_ | with_reducible refine Gr.trans ?_ (by with_reducible assumption))); done)) _ | with_reducible refine Gr.trans ?_ (by with_reducible assumption))) (by simp [go_sem])).mono ?_
    rintro e w1 ⟨rfl, g1⟩
    go_wp2
    go_ret
    exact ⟨ret_bool HE.out.symm, (by repeat (first | with_reducible exact Gr.refl _ | with_reducible assumption | with_reducible refine Gr.alloc ?_ _ | with_reducible refine Gr.drewN ?_ _ | with_reducible refine Gr.drew ?_ | with_reducible refine Gr.setCell ?_ (by first | (dsimp only; omega) | (simp only [World.size_alloc]; omega) | (with_reducible refine Gr.size ?_; (repeat (first | with_reducible exact Gr.refl _ | with_reducible assumption | with_reducible refine Gr.alloc ?_ _ | with_reducible refine Gr.drewN ?_ _ | with_reducible refine Gr.drew ?_ | with_reducible refine Gr.trans ?_ (by with_reducible assumption))); done)) _ | with_reducible refine Gr.trans ?_ (by with_reducible assumption)))⟩
  | false =>
    rw [hf, Bool.false_or] at HE
    rw [hf] at HF
    clear hf
    go_enter Try.func40, Try.ntmps40
    go_wp2_with fail
    refine (HF.out _ (by repeat (first | with_reducible exact Gr.refl _ | with_reducible assumption | with_reducible refine Gr.alloc ?_ _ | with_reducible refine Gr.drewN ?_ _ | with_reducible refine Gr.drew ?_ | with_reducible refine Gr.setCell ?_ (by first | (dsimp only; omega) | (simp only [World.size_alloc]; omega) | (with_reducible refine Gr.size ?_; (repeat (first | with_reducible exact Gr.refl _ | with_reducible assumption | with_reducible refine Gr.alloc ?_ _ | with_reducible refine Gr.drewN ?_ _ | with_reducible refine Gr.drew ?_ | with_reducible refine Gr.trans ?_ (by with_reducible assumption))); done)) _ | with_reducible refine Gr.trans ?_ (by with_reducible assumption))) (by simp [go_sem])).mono ?_
    rintro e w1 ⟨rfl, g1⟩
    obtain ⟨X1, Y1, c1, f1⟩ := g1.use
    have z1 := g1.size
    simp only [World.size_alloc] at z1
    have l1 : w.heap.size < w1.heap.size := by omega
    have l2 : w.heap.size + 1 < w1.heap.size := by omega
    have gw1 : Gr w w1 := (by repeat (first | with_reducible exact Gr.refl _ | with_reducible assumption | with_reducible refine Gr.alloc ?_ _ | with_reducible refine Gr.drewN ?_ _ | with_reducible refine Gr.drew ?_ | with_reducible refine Gr.setCell ?_ (by first | (dsimp only; omega) | (simp only [World.size_alloc]; omega) | (with_reducible refine Gr.size ?_; (repeat (first | with_reducible exact Gr.refl _ | with_reducible assumption | with_reducible refine Gr.alloc ?_ _ | with_reducible refine Gr.drewN ?_ _ | with_reducible refine Gr.drew ?_ | with_reducible refine Gr.trans ?_ (by with_reducible assumption))); done)) _ | with_reducible refine Gr.trans ?_ (by with_reducible assumption)))
    go_wp2_with fail
    refine (HH.out _ gw1 (by simp [go_sem, c1])).mono ?_
    rintro e w2 ⟨rfl, g2⟩
    go_wp2
    go_ret
    exact ⟨ret_bool HE.out.symm, (by repeat (first | with_reducible exact Gr.refl _ | with_reducible assumption | with_reducible refine Gr.alloc ?_ _ | with_reducible refine Gr.drewN ?_ _ | with_reducible refine Gr.drew ?_ | with_reducible refine Gr.setCell ?_ (by first | (dsimp only; omega) | (simp only [World.size_alloc]; omega) | (with_reducible refine Gr.size ?_; (repeat (first | with_reducible exact Gr.refl _ | with_reducible assumption | with_reducible refine Gr.alloc ?_ _ | with_reducible refine Gr.drewN ?_ _ | with_reducible refine Gr.drew ?_ | with_reducible refine Gr.trans ?_ (by with_reducible assumption))); done)) _ | with_reducible refine Gr.trans ?_ (by with_reducible assumption)))⟩
set_option maxRecDepth 100000 in
set_option maxHeartbeats 2000000 in
theorem rused_any (p : Pa) (A B : Option Addr) (c d : Nat) (n : Int) (w : World) (hP : PaW w p A c B d) :
    Calls Try.prog 19 #[pav p A c B d, iv n] w fun e w' => e = .returned (.bool (usB p n)) ∧ Gr w w' := by
  have HP := hide hP
  have n1 := hP.fl.len
  have n2 := hP.ho.len
  clear hP
  go_enter Try.func19, Try.ntmps19
  go_wp2
  go_loopw [5] (fun i wr => ∃ k : Nat, k ≤ p.fl.length ∧ i = iv k ∧ Gr (w.alloc (.cells #[.string p.nm, .string p.mt, iv p.ga, iv p.gr, iv p.wd, iv p.ht, .slice A p.fl.length c, .slice B p.ho.length d] 25)) wr ∧ Hid (∀ i x, i < k → p.fl[i]? = some x → (x.pa == n) = false)) (fun i _ => p.fl.length - (intOf i).toNat)
  case atStart => exact ⟨0, by omega, rfl, Gr.refl _, hide (fun i x hi => absurd hi (Nat.not_lt_zero i))⟩
  case round =>
    obtain ⟨k, hk, rfl, g, HS⟩ := hrel
    have gW : Gr w wr := (by repeat (first | with_reducible exact Gr.refl _ | with_reducible assumption | with_reducible refine Gr.alloc ?_ _ | with_reducible refine Gr.drewN ?_ _ | with_reducible refine Gr.drew ?_ | with_reducible refine Gr.setCell ?_ (by first | (dsimp only; omega) | (simp only [World.size_alloc]; omega) | (with_reducible refine Gr.size ?_; (repeat (first | with_reducible exact Gr.refl _ | with_reducible assumption | with_reducible refine Gr.alloc ?_ _ | with_reducible refine Gr.drewN ?_ _ | with_reducible refine Gr.drew ?_ | with_reducible refine Gr.trans ?_ (by with_reducible assumption))); done)) _ | with_reducible refine Gr.trans ?_ (by with_reducible assumption)))
    have zr := g.size
    simp only [World.size_alloc] at zr
    have l0 : w.heap.size < wr.heap.size := by omega
    have hp6 : wr.cell? ⟨w.heap.size, 6, none⟩ = some (.slice A p.fl.length c) := (g.cell w.heap.size 6 (by simp)).trans (by simp [go_sem])
    have hp7 : wr.cell? ⟨w.heap.size, 7, none⟩ = some (.slice B p.ho.length d) := (g.cell w.heap.size 7 (by simp)).trans (by simp [go_sem])
    by_cases hkl : k < p.fl.length
    · obtain ⟨x, hx⟩ : ∃ x, p.fl[k]? = some x := ⟨_, List.getElem?_eq_getElem hkl⟩
      obtain ⟨b, o, rfl, x0, x1, x2, x3, x4, x5, x6⟩ := (HP.out.fl.gr gW).rd.fl hx
      have hk0 : (0 : Int) ≤ (k : Int) := by omega
      have hk1 : (k : Int) < (p.fl.length : Int) := by omega
      have HX := hide hx
      clear hx
      cases hv : (x.pa == n) with
      | true =>
        have HE := hide (show usB p n = true by unfold usB usF; rw [any_yes (f := fun x : Fl => x.pa == n) HX.out hv]; rfl)
        go_wp2
        go_ret
        exact ⟨ret_bool HE.out.symm, (by repeat (first | with_reducible exact Gr.refl _ | with_reducible assumption | with_reducible refine Gr.alloc ?_ _ | with_reducible refine Gr.drewN ?_ _ | with_reducible refine Gr.drew ?_ | with_reducible refine Gr.setCell ?_ (by first | (dsimp only; omega) | (simp only [World.size_alloc]; omega) | (with_reducible refine Gr.size ?_; (repeat (first | with_reducible exact Gr.refl _ | with_reducible assumption | with_reducible refine Gr.alloc ?_ _ | with_reducible refine Gr.drewN ?_ _ | with_reducible refine Gr.drew ?_ | with_reducible refine Gr.trans ?_ (by with_reducible assumption))); done)) _ | with_reducible refine Gr.trans ?_ (by with_reducible assumption)))⟩
      | false =>
        have HS' := hide (show ∀ i y, i < k + 1 → p.fl[i]? = some y → (y.pa == n) = false by
          intro i y hi hy
          rcases Nat.lt_or_ge i k with h | h
          · exact HS.out i y h hy
          · obtain rfl : i = k := by omega
            rw [HX.out] at hy
            obtain rfl := Option.some.inj hy
            exact hv)
        go_wp2
        go_roundw
        case rel => exact ⟨k + 1, by omega, by go_num, (by repeat (first | with_reducible exact Gr.refl _ | with_reducible assumption | with_reducible refine Gr.alloc ?_ _ | with_reducible refine Gr.drewN ?_ _ | with_reducible refine Gr.drew ?_ | with_reducible refine Gr.setCell ?_ (by first | (dsimp only; omega) | (simp only [World.size_alloc]; omega) | (with_reducible refine Gr.size ?_; (repeat (first | with_reducible exact Gr.refl _ | with_reducible assumption | with_reducible refine Gr.alloc ?_ _ | with_reducible refine Gr.drewN ?_ _ | with_reducible refine Gr.drew ?_ | with_reducible refine Gr.trans ?_ (by with_reducible assumption))); done)) _ | with_reducible refine Gr.trans ?_ (by with_reducible assumption))), HS'⟩
        case measure => simp only [intOf]; omega
    · obtain rfl : k = p.fl.length := by omega
      have HF := hide (show usB p n = usH p.ho n by unfold usB usF; rw [any_no (f := fun x : Fl => x.pa == n) HS.out]; rfl)
      clear HS
      go_wp2
      clear hp6 hp7
      obtain ⟨wT, rfl⟩ : ∃ wT, wT = wr := ⟨_, rfl⟩
      go_loopw [6] (fun i wr => ∃ k : Nat, k ≤ p.ho.length ∧ i = iv k ∧ Gr wT wr ∧ Hid (∀ i x, i < k → p.ho[i]? = some x → (x.fa == n) = false)) (fun i _ => p.ho.length - (intOf i).toNat)
      case atStart => exact ⟨0, by omega, rfl, Gr.refl _, hide (fun i x hi => absurd hi (Nat.not_lt_zero i))⟩
      case round =>
        obtain ⟨k, hk, rfl, g2, HS⟩ := hrel
        have gW2 : Gr w wr := gW.trans g2
        have l2 : w.heap.size < wr.heap.size := by have := g2.size; omega
        have hp7 : wr.cell? ⟨w.heap.size, 7, none⟩ = some (.slice B p.ho.length d) := ((g.trans g2).cell w.heap.size 7 (by simp)).trans (by simp [go_sem])
        by_cases hkl : k < p.ho.length
        · obtain ⟨x, hx⟩ : ∃ x, p.ho[k]? = some x := ⟨_, List.getElem?_eq_getElem hkl⟩
          obtain ⟨b, o, rfl, x0, x1, x2, x3, x4, x5⟩ := (HP.out.ho.gr gW2).rd.ho hx
          have hk0 : (0 : Int) ≤ (k : Int) := by omega
          have hk1 : (k : Int) < (p.ho.length : Int) := by omega
          have HX := hide hx
          clear hx
          cases hv : (x.fa == n) with
          | true =>
            have HE := hide (show usB p n = true by rw [HF.out]; exact any_yes (f := fun x : Ho => x.fa == n) HX.out hv)
            go_wp2
            go_ret
            exact ⟨ret_bool HE.out.symm, (by repeat (first | with_reducible exact Gr.refl _ | with_reducible assumption | with_reducible refine Gr.alloc ?_ _ | with_reducible refine Gr.drewN ?_ _ | with_reducible refine Gr.drew ?_ | with_reducible refine Gr.setCell ?_ (by first | (dsimp only; omega) | (simp only [World.size_alloc]; omega) | (with_reducible refine Gr.size ?_; (repeat (first | with_reducible exact Gr.refl _ | with_reducible assumption | with_reducible refine Gr.alloc ?_ _ | with_reducible refine Gr.drewN ?_ _ | with_reducible refine Gr.drew ?_ | with_reducible refine Gr.trans ?_ (by with_reducible assumption))); done)) _ | with_reducible refine Gr.trans ?_ (by with_reducible assumption)))⟩
          | false =>
            have HS' := hide (show ∀ i y, i < k + 1 → p.ho[i]? = some y → (y.fa == n) = false by
              intro i y hi hy
              rcases Nat.lt_or_ge i k with h | h
              · exact HS.out i y h hy
              · obtain rfl : i = k := by omega
                rw [HX.out] at hy
                obtain rfl := Option.some.inj hy
                exact hv)
            go_wp2
            go_roundw
            case rel => exact ⟨k + 1, by omega, by go_num, (by repeat (first | with_reducible exact Gr.refl _ | with_reducible assumption | with_reducible refine Gr.alloc ?_ _ | with_reducible refine Gr.drewN ?_ _ | with_reducible refine Gr.drew ?_ | with_reducible refine Gr.setCell ?_ (by first | (dsimp only; omega) | (simp only [World.size_alloc]; omega) | (with_reducible refine Gr.size ?_; (repeat (first | with_reducible exact Gr.refl _ | with_reducible assumption | with_reducible refine Gr.alloc ?_ _ | with_reducible refine Gr.drewN ?_ _ | with_reducible refine Gr.drew ?_ | with_reducible refine Gr.trans ?_ (by with_reducible assumption))); done)) _ | with_reducible refine Gr.trans ?_ (by with_reducible assumption))), HS'⟩
            case measure => simp only [intOf]; omega
        · obtain rfl : k = p.ho.length := by omega
          have HE := hide (show usB p n = false by rw [HF.out]; exact any_no (f := fun x : Ho => x.fa == n) HS.out)
          go_wp2
          go_ret
          exact ⟨ret_bool HE.out.symm, (by repeat (first | with_reducible exact Gr.refl _ | with_reducible assumption | with_reducible refine Gr.alloc ?_ _ | with_reducible refine Gr.drewN ?_ _ | with_reducible refine Gr.drew ?_ | with_reducible refine Gr.setCell ?_ (by first | (dsimp only; omega) | (simp only [World.size_alloc]; omega) | (with_reducible refine Gr.size ?_; (repeat (first | with_reducible exact Gr.refl _ | with_reducible assumption | with_reducible refine Gr.alloc ?_ _ | with_reducible refine Gr.drewN ?_ _ | with_reducible refine Gr.drew ?_ | with_reducible refine Gr.trans ?_ (by with_reducible assumption))); done)) _ | with_reducible refine Gr.trans ?_ (by with_reducible assumption)))⟩
end Go.Proofs.Ytefjgfglommefaa
set_option linter.unusedVariables false
set_option linter.unusedSimpArgs false
namespace Go.Proofs.Ytefjgfglommefaa
set_option linter.unusedVariables false
set_option linter.unusedSimpArgs false
open Go Go.ChangeShapes Go.WideShapes Go.ChangeAt Go.RowKit Go.Deep

/-- a row with some cells stored over -/
def ovw : List Value → Nat → List Value → List Value
  | xs, _, [] => xs
  | xs, o, v :: vs => ovw (xs.set o v) (o + 1) vs
theorem own_over {base : Nat} {e : TypeId} {size g n cap : Nat} : ∀ (vs : List Value) (o : Nat) {w : World} {xs : List Value}, w.ownsRow base e size (.slice (some ⟨g, 0, none⟩) n cap) n xs → (w.setCells g o vs).ownsRow base e size (.slice (some ⟨g, 0, none⟩) n cap) n (ovw xs o vs)
  | [], o, w, xs, h => h
  | v :: vs, o, w, xs, h => own_over vs (o + 1) (World.ownsRow.stored h o v).1
theorem ovw_take : ∀ (vs : List Value) (o : Nat) (xs : List Value), o + vs.length ≤ xs.length → (ovw xs o vs).take (o + vs.length) = xs.take o ++ vs
  | [], o, xs, _ => by simp [ovw]
  | v :: vs, o, xs, h => by
    have hl : o < xs.length := by simp at h; omega
    unfold ovw
    have ih := ovw_take vs (o + 1) (xs.set o v) (by simp at h ⊢; omega)
    rw [show o + (v :: vs).length = o + 1 + vs.length by simp; omega, ih, List.take_add_one, List.take_set_of_le (Nat.le_refl o), List.getElem?_set_self hl]
    simp
theorem own_keepE {base : Nat} {e : TypeId} {size g n cap : Nat} : ∀ (vs : List Value) (o : Nat) {w : World} {xs : List Value}, w.ownsRow base e size (.slice (some ⟨g, 0, none⟩) n cap) n xs →
    ∃ ys, (w.setCells g o vs).ownsRow base e size (.slice (some ⟨g, 0, none⟩) n cap) n ys ∧ ys.take o = xs.take o
  | [], o, w, xs, h => ⟨xs, h, rfl⟩
  | v :: vs, o, w, xs, h => by
    obtain ⟨ys, h1, h2⟩ := own_keepE vs (o + 1) (World.ownsRow.stored h o v).1
    refine ⟨ys, h1, ?_⟩
    have : (ys.take (o + 1)).take o = ((xs.set o v).take (o + 1)).take o := by rw [h2]
    rw [List.take_take, List.take_take, Nat.min_eq_left (by omega)] at this
    rw [this, List.take_set_of_le (Nat.le_refl o)]
theorem own_cutE {w : World} {base : Nat} {e : TypeId} {size g n cap m : Nat} {ys zs : List Value} (h : w.ownsRow base e size (.slice (some ⟨g, 0, none⟩) n cap) n ys) (hm : m ≤ n) (hl : zs.length = m * size) (ht : ys.take (m * size) = zs) :
    w.ownsRow base e size (.slice (some ⟨g, 0, none⟩) m cap) m zs := by
  rcases h.2 with ⟨h0, _⟩ | ⟨g', cap', cur, hv, hg, hh, hn', hcap, hsz, htake⟩
  · cases h0
  · cases hv
    refine ⟨hl, .inr ⟨g, cap, cur, rfl, hg, hh, by omega, hcap, hsz, ?_⟩⟩
    rw [← ht, ← htake, List.take_take, Nat.min_eq_left (Nat.mul_le_mul_right _ hm)]
theorem gr_over {a : World} {g : Nat} (hg : a.heap.size ≤ g) : ∀ (vs : List Value) (o : Nat) {b : World}, Gr a b → Gr a (b.setCells g o vs)
  | [], _, _, h => h
  | v :: vs, o, b, h => gr_over hg vs (o + 1) (h.setCell (p := ⟨g, o, none⟩) hg v)
/-- w' is w but for one block -/
structure But (w w' : World) (g : Nat) : Prop where
  size : w'.heap.size = w.heap.size
  block : ∀ k, ¬ k = g → w'.heap[k]? = w.heap[k]?
theorem But.refl (w : World) (g : Nat) : But w w g := ⟨rfl, fun _ _ => rfl⟩
theorem But.trans {a b c : World} {g : Nat} (h : But a b g) (k : But b c g) : But a c g := ⟨k.size.trans h.size, fun i hi => (k.block i hi).trans (h.block i hi)⟩
theorem But.setCell (w : World) (g o : Nat) (v : Value) : But w (w.setCell ⟨g, o, none⟩ v) g := ⟨by simp, fun k hk => heap_setCell_other w ⟨g, o, none⟩ k v (fun e => hk (by simp [e]))⟩
theorem But.over (g : Nat) : ∀ (vs : List Value) (o : Nat) (w : World), But w (w.setCells g o vs) g
  | [], _, w => But.refl w g
  | v :: vs, o, w => (But.setCell w g o v).trans (But.over g vs (o + 1) _)
theorem But.own {w w' : World} {g base : Nat} {e : TypeId} {k n : Nat} {v : Value} {xs : List Value} (hb : But w w' g) (h : w.ownsRow base e k v n xs) (hv : ¬ v.ownBlock = some g) : w'.ownsRow base e k v n xs := by
  obtain ⟨h0, h1 | ⟨b, cap, cur, h1, hb', h2, h3⟩⟩ := id h
  · exact ⟨h0, .inl h1⟩
  · refine ⟨h0, .inr ⟨b, cap, cur, h1, hb', ?_, h3⟩⟩
    rw [← h2]
    exact hb.block b (fun e => hv (by rw [h1, e]; rfl))
theorem fm_take {α : Type} {c : α → List Value} {k : Nat} (hc : ∀ x, (c x).length = k) (l : List α) (i : Nat) (hi : i ≤ l.length) : (l.flatMap c).take (i * k) = (l.take i).flatMap c := by
  have e : l.flatMap c = (l.take i).flatMap c ++ (l.drop i).flatMap c := by rw [← List.flatMap_append, List.take_append_drop]
  rw [e, List.take_left']
  rw [fm_len hc, List.length_take, Nat.min_eq_left hi]
theorem fm_drop {α : Type} {c : α → List Value} {k : Nat} (hc : ∀ x, (c x).length = k) (l : List α) (i : Nat) (hi : i ≤ l.length) {j : Nat} {u : Value} (h : ((l.drop i).flatMap c)[j]? = some u) : (l.flatMap c)[i * k + j]? = some u := by
  have e : l.flatMap c = (l.take i).flatMap c ++ (l.drop i).flatMap c := by rw [← List.flatMap_append, List.take_append_drop]
  have hl : ((l.take i).flatMap c).length = i * k := by rw [fm_len hc, List.length_take, Nat.min_eq_left hi]
  rw [e, List.getElem?_append_right (by omega), hl, Nat.add_sub_cancel_left]
  exact h
theorem run_clearF (w : World) (ty : TypeId) (b o c : Nat)
    (hc : ∀ j, j < 7 → (w.cell? ⟨b, o + j, none⟩).isSome = true) (hf : ∀ j, j < 7 → w.frozen? ⟨b, o + j, none⟩ = false) :
    (Builtin.clear_ #[22] ty #[.slice (some ⟨b, o, none⟩) 1 c]).run Try.prog w = .ok (.tuple #[]) (w.setCells b o [.string ⟨#[]⟩, iv 0, iv 0, iv 0, iv 0, iv 0, iv 0]) := by
  have hv : ∀ w, (zeroValue 27).run Try.prog w = .ok (.agg #[.string ⟨#[]⟩, iv 0, iv 0, iv 0, iv 0, iv 0, iv 0]) w := Try.zeroValue27
  have hzc : (Builtin.zeroCells (.agg #[.string ⟨#[]⟩, iv 0, iv 0, iv 0, iv 0, iv 0, iv 0] : Value).cells 1).toList = [.string ⟨#[]⟩, iv 0, iv 0, iv 0, iv 0, iv 0, iv 0] := by
    simp only [Value.cells, Builtin.zeroCells]
    apply List.ext_getElem
    · simp
    · intro i h1 h2
      simp at h1 h2 ⊢
      match i, h2 with
      | 0, _ => rfl
      | 1, _ => rfl
      | 2, _ => rfl
      | 3, _ => rfl
      | 4, _ => rfl
      | 5, _ => rfl
      | 6, _ => rfl
  have hst := run_storeCells_cells (P := Try.prog) b o [.string ⟨#[]⟩, iv 0, iv 0, iv 0, iv 0, iv 0, iv 0] 0 w (by simpa using hc) (by simpa using hf) (by intro v hv'; simp at hv'; rcases hv' with rfl | rfl <;> rfl)
  simp only [Nat.add_zero] at hst
  simp [Builtin.clear_, run_underlying Try.underlying22, hv, hzc, hst]
set_option maxRecDepth 100000 in
set_option maxHeartbeats 4000000 in
theorem delF_any (base g cap i : Nat) (l : List Fl) (w : World) (hO : OwnL w base 27 7 flL (.slice (some ⟨g, 0, none⟩) l.length cap) l) (hi : i < l.length) (hn : l.length ≤ 1000) :
    Calls Try.prog 42 #[.slice (some ⟨g, 0, none⟩) l.length cap, iv i, iv ((i : Int) + 1)] w fun e w' => e = .returned (.slice (some ⟨g, 0, none⟩) (l.length - 1) cap) ∧
      OwnL w' base 27 7 flL (.slice (some ⟨g, 0, none⟩) (l.length - 1) cap) (l.eraseIdx i) ∧ But w w' g ∧ ∀ a, Gr a w → a.heap.size ≤ g → Gr a w' := by
  obtain ⟨i0, hi0, hz0, hz1, hz2⟩ := info_parts infoFl
  have hO1 : World.ownsRow w base 27 7 (.slice (some ⟨g, 0, none⟩) l.length cap) l.length (l.flatMap flL) := hO
  have hlen : (l.flatMap flL).length = l.length * 7 := fm_len (c := flL) (fun _ => rfl) l
  have hcapn : l.length ≤ cap ∧ cap ≤ maxLen := by
    rcases hO1.2 with ⟨h0, _⟩ | ⟨g', cap', cur, hv, hg, hh, hn', hcap, hsz, htake⟩
    · cases h0
    · cases hv
      exact ⟨hn', hcap⟩
  unfold maxLen at hcapn
  obtain ⟨news, hnews⟩ : ∃ news, news = (l.drop (i + 1)).flatMap flL := ⟨_, rfl⟩
  have hnl : news.length = (l.length - (i + 1)) * 7 := by rw [hnews, fm_len (c := flL) (k := 7) (fun _ => rfl), List.length_drop]
  obtain ⟨A, hA, hsrc⟩ : ∃ A : Addr, (if cap = i + 1 then some (⟨g, 0, none⟩ : Addr) else some ⟨g, (i + 1) * 7, none⟩) = some A ∧ Hid (∀ j u, news[j]? = some u → w.drew.cell? (A.add j) = some u) := by
    by_cases h : cap = i + 1
    · refine ⟨⟨g, 0, none⟩, by simp [h], fun j u hu => ?_⟩
      have h0 : news.length = 0 := by rw [hnl]; have : l.length - (i + 1) = 0 := by omega
                                      rw [this]
      rw [List.length_eq_zero_iff.1 h0] at hu
      simp at hu
    · refine ⟨⟨g, (i + 1) * 7, none⟩, by simp [h], fun j u hu => ?_⟩
      have hj := (List.getElem?_eq_some_iff.1 hu).1
      rw [hnl] at hj
      rw [hnews] at hu
      have hu2 := fm_drop (c := flL) (k := 7) (fun _ => rfl) l (i + 1) (by omega) hu
      rw [addr_add]
      show w.cell? _ = _
      rw [World.ownsRow.cellAt hO1 _ (by omega)]
      exact hu2
  have s1 : Hid (news.length = (l.length - (i + 1)) * 7) := hnl
  have s2 : Hid (∀ u ∈ news, u.oneCell' = true) := by
    intro u hu
    rw [hnews] at hu
    obtain ⟨x, _, hu⟩ := List.mem_flatMap.1 hu
    exact one_fl x u hu
  have s3 : Hid (∀ j, j < news.length → (w.drew.cell? ⟨g, 0 + i * 7 + j, none⟩).isSome = true ∧ w.drew.frozen? ⟨g, 0 + i * 7 + j, none⟩ = false) := by
    intro j hj
    rw [hnl] at hj
    rw [Nat.zero_add]
    refine ⟨?_, World.ownsRow.frozenAt hO1 _⟩
    show (w.cell? _).isSome = true
    rw [World.ownsRow.cellAt hO1 _ (by omega), List.getElem?_eq_getElem (by omega)]
    rfl
  have hW1 := own_over (w := w.drew) news (i * 7) hO1
  have hT1 := ovw_take news (i * 7) (l.flatMap flL) (by rw [hlen, hnl]; omega)
  have hB1 := But.over g news (i * 7) w.drew
  obtain ⟨W1, hW1e⟩ : ∃ W1, W1 = w.drew.setCells g (i * 7) news := ⟨_, rfl⟩
  rw [← hW1e] at hW1 hB1
  have hG1 : Hid (∀ a, Gr a w → a.heap.size ≤ g → Gr a W1) := fun a h1 h2 => by rw [hW1e]; exact gr_over h2 _ _ h1.drew
  have e1 : (ovw (l.flatMap flL) (i * 7) news).take ((l.length - 1) * 7) = (l.eraseIdx i).flatMap flL := by
    have : (l.length - 1) * 7 = i * 7 + news.length := by rw [hnl]; omega
    rw [this, hT1, fm_take (c := flL) (k := 7) (fun _ => rfl) l i (by omega), hnews, ← List.flatMap_append, List.eraseIdx_eq_take_drop_succ]
  have hcl : ∀ ty, (Builtin.clear_ #[22] ty #[.slice (some ⟨g, (l.length - 1) * 7, none⟩) 1 (cap - (l.length - 1))]).run Try.prog W1 = .ok (.tuple #[]) (W1.setCells g ((l.length - 1) * 7) [.string ⟨#[]⟩, iv 0, iv 0, iv 0, iv 0, iv 0, iv 0]) :=
    fun ty => run_clearF W1 ty g _ _ (fun j hj => by
      rw [World.ownsRow.cellAt hW1 _ (by omega), List.getElem?_eq_getElem (by rw [hW1.1]; omega)]
      rfl) (fun j hj => World.ownsRow.frozenAt hW1 _)
  have hN : i + (l.length - (i + 1)) = l.length - 1 := by omega
  have hcl2 : ∀ ty, (Builtin.clear_ #[22] ty #[.slice (some ⟨g, (i + (l.length - (i + 1))) * 7, none⟩) (l.length - (i + (l.length - (i + 1)))) (cap - (i + (l.length - (i + 1))))]).run Try.prog W1 = .ok (.tuple #[]) (W1.setCells g ((l.length - 1) * 7) [.string ⟨#[]⟩, iv 0, iv 0, iv 0, iv 0, iv 0, iv 0]) := fun ty => by
    rw [hN, show l.length - (l.length - 1) = 1 by omega]
    exact hcl ty
  have FIN := hide (show OwnL (W1.setCells g ((l.length - 1) * 7) [.string ⟨#[]⟩, iv 0, iv 0, iv 0, iv 0, iv 0, iv 0]) base 27 7 flL (.slice (some ⟨g, 0, none⟩) (l.length - 1) cap) (l.eraseIdx i) ∧ But w (W1.setCells g ((l.length - 1) * 7) [.string ⟨#[]⟩, iv 0, iv 0, iv 0, iv 0, iv 0, iv 0]) g ∧ ∀ a, Gr a w → a.heap.size ≤ g → Gr a (W1.setCells g ((l.length - 1) * 7) [.string ⟨#[]⟩, iv 0, iv 0, iv 0, iv 0, iv 0, iv 0]) by
    obtain ⟨ys, q1, q2⟩ := own_keepE [.string ⟨#[]⟩, iv 0, iv 0, iv 0, iv 0, iv 0, iv 0] ((l.length - 1) * 7) hW1
    have hel : (l.eraseIdx i).length = l.length - 1 := List.length_eraseIdx_of_lt hi
    refine ⟨?_, (⟨hB1.size, hB1.block⟩ : But w W1 g).trans (But.over g _ _ _), fun a h1 h2 => gr_over h2 _ _ (hG1.out a h1 h2)⟩
    unfold OwnL
    rw [hel]
    exact own_cutE q1 (by omega) (by rw [fm_len (c := flL) (k := 7) (fun _ => rfl), hel]) (by rw [q2, e1]))
  have hWe : Hid (W1 = w.drew.setCells g (0 + i * 7) news) := by rw [Nat.zero_add]; exact hW1e
  have hwr : IntKind.i64.wrap ((i : Int) + 1) = (i : Int) + 1 := by rw [IntKind.wrap_i64]; omega
  have hic : i ≤ cap := by omega
  have hp0 : (0 : Int) ≤ (i : Int) + 1 := by omega
  have hp1 : (i : Int) + 1 ≤ (l.length : Int) := by omega
  have hjc : i + 1 ≤ cap := by omega
  have HN := hide hN
  clear hO hO1 hW1 hT1 hB1 hW1e hG1 e1 hnews hnl hlen hz0 hz2 hcl hN
  go_enter Try.func42, Try.ntmps42
  go_wp2_with fail
  go_region_law (refine step_append_room rfl (.tmp 22) (.tmp 25) 22 rfl 27 i0 7 Try.underlying22 hi0 hz1 g 0 i cap (by simp [Act.eval, Act.put]) A (l.length - (i + 1)) (cap - (i + 1)) news (by simp [Act.eval, Act.put]) s1.out hsrc.out s2.out (by omega) s3.out ?_; rw [← hWe.out])
  go_wp2
  go_ret
  exact ⟨(show Ending.returned (Value.slice (some ⟨g, 0, none⟩) (i + (l.length - (i + 1))) cap) = _ by rw [HN.out]), FIN.out⟩
theorem run_clearH (w : World) (ty : TypeId) (b o c : Nat)
    (hc : ∀ j, j < 6 → (w.cell? ⟨b, o + j, none⟩).isSome = true) (hf : ∀ j, j < 6 → w.frozen? ⟨b, o + j, none⟩ = false) :
    (Builtin.clear_ #[23] ty #[.slice (some ⟨b, o, none⟩) 1 c]).run Try.prog w = .ok (.tuple #[]) (w.setCells b o [iv 0, iv 0, iv 0, iv 0, iv 0, iv 0]) := by
  have hv : ∀ w, (zeroValue 29).run Try.prog w = .ok (.agg #[iv 0, iv 0, iv 0, iv 0, iv 0, iv 0]) w := Try.zeroValue29
  have hzc : (Builtin.zeroCells (.agg #[iv 0, iv 0, iv 0, iv 0, iv 0, iv 0] : Value).cells 1).toList = [iv 0, iv 0, iv 0, iv 0, iv 0, iv 0] := by
    simp only [Value.cells, Builtin.zeroCells]
    apply List.ext_getElem
    · simp
    · intro i h1 h2
      simp at h1 h2 ⊢
      match i, h2 with
      | 0, _ => rfl
      | 1, _ => rfl
      | 2, _ => rfl
      | 3, _ => rfl
      | 4, _ => rfl
      | 5, _ => rfl
  have hst := run_storeCells_cells (P := Try.prog) b o [iv 0, iv 0, iv 0, iv 0, iv 0, iv 0] 0 w (by simpa using hc) (by simpa using hf) (by intro v hv'; simp at hv'; subst hv'; rfl)
  simp only [Nat.add_zero] at hst
  simp [Builtin.clear_, run_underlying Try.underlying23, hv, hzc, hst]
set_option maxRecDepth 100000 in
set_option maxHeartbeats 4000000 in
theorem delH_any (base g cap i : Nat) (l : List Ho) (w : World) (hO : OwnL w base 29 6 hoL (.slice (some ⟨g, 0, none⟩) l.length cap) l) (hi : i < l.length) (hn : l.length ≤ 1000) :
    Calls Try.prog 44 #[.slice (some ⟨g, 0, none⟩) l.length cap, iv i, iv ((i : Int) + 1)] w fun e w' => e = .returned (.slice (some ⟨g, 0, none⟩) (l.length - 1) cap) ∧
      OwnL w' base 29 6 hoL (.slice (some ⟨g, 0, none⟩) (l.length - 1) cap) (l.eraseIdx i) ∧ But w w' g ∧ ∀ a, Gr a w → a.heap.size ≤ g → Gr a w' := by
  obtain ⟨i0, hi0, hz0, hz1, hz2⟩ := info_parts infoHo
  have hO1 : World.ownsRow w base 29 6 (.slice (some ⟨g, 0, none⟩) l.length cap) l.length (l.flatMap hoL) := hO
  have hlen : (l.flatMap hoL).length = l.length * 6 := fm_len (c := hoL) (fun _ => rfl) l
  have hcapn : l.length ≤ cap ∧ cap ≤ maxLen := by
    rcases hO1.2 with ⟨h0, _⟩ | ⟨g', cap', cur, hv, hg, hh, hn', hcap, hsz, htake⟩
    · cases h0
    · cases hv
      exact ⟨hn', hcap⟩
  unfold maxLen at hcapn
  obtain ⟨news, hnews⟩ : ∃ news, news = (l.drop (i + 1)).flatMap hoL := ⟨_, rfl⟩
  have hnl : news.length = (l.length - (i + 1)) * 6 := by rw [hnews, fm_len (c := hoL) (k := 6) (fun _ => rfl), List.length_drop]
  obtain ⟨A, hA, hsrc⟩ : ∃ A : Addr, (if cap = i + 1 then some (⟨g, 0, none⟩ : Addr) else some ⟨g, (i + 1) * 6, none⟩) = some A ∧ Hid (∀ j u, news[j]? = some u → w.drew.cell? (A.add j) = some u) := by
    by_cases h : cap = i + 1
    · refine ⟨⟨g, 0, none⟩, by simp [h], fun j u hu => ?_⟩
      have h0 : news.length = 0 := by rw [hnl]; have : l.length - (i + 1) = 0 := by omega
                                      rw [this]
      rw [List.length_eq_zero_iff.1 h0] at hu
      simp at hu
    · refine ⟨⟨g, (i + 1) * 6, none⟩, by simp [h], fun j u hu => ?_⟩
      have hj := (List.getElem?_eq_some_iff.1 hu).1
      rw [hnl] at hj
      rw [hnews] at hu
      have hu2 := fm_drop (c := hoL) (k := 6) (fun _ => rfl) l (i + 1) (by omega) hu
      rw [addr_add]
      show w.cell? _ = _
      rw [World.ownsRow.cellAt hO1 _ (by omega)]
      exact hu2
  have s1 : Hid (news.length = (l.length - (i + 1)) * 6) := hnl
  have s2 : Hid (∀ u ∈ news, u.oneCell' = true) := by
    intro u hu
    rw [hnews] at hu
    obtain ⟨x, _, hu⟩ := List.mem_flatMap.1 hu
    exact one_ho x u hu
  have s3 : Hid (∀ j, j < news.length → (w.drew.cell? ⟨g, 0 + i * 6 + j, none⟩).isSome = true ∧ w.drew.frozen? ⟨g, 0 + i * 6 + j, none⟩ = false) := by
    intro j hj
    rw [hnl] at hj
    rw [Nat.zero_add]
    refine ⟨?_, World.ownsRow.frozenAt hO1 _⟩
    show (w.cell? _).isSome = true
    rw [World.ownsRow.cellAt hO1 _ (by omega), List.getElem?_eq_getElem (by omega)]
    rfl
  have hW1 := own_over (w := w.drew) news (i * 6) hO1
  have hT1 := ovw_take news (i * 6) (l.flatMap hoL) (by rw [hlen, hnl]; omega)
  have hB1 := But.over g news (i * 6) w.drew
  obtain ⟨W1, hW1e⟩ : ∃ W1, W1 = w.drew.setCells g (i * 6) news := ⟨_, rfl⟩
  rw [← hW1e] at hW1 hB1
  have hG1 : Hid (∀ a, Gr a w → a.heap.size ≤ g → Gr a W1) := fun a h1 h2 => by rw [hW1e]; exact gr_over h2 _ _ h1.drew
  have e1 : (ovw (l.flatMap hoL) (i * 6) news).take ((l.length - 1) * 6) = (l.eraseIdx i).flatMap hoL := by
    have : (l.length - 1) * 6 = i * 6 + news.length := by rw [hnl]; omega
    rw [this, hT1, fm_take (c := hoL) (k := 6) (fun _ => rfl) l i (by omega), hnews, ← List.flatMap_append, List.eraseIdx_eq_take_drop_succ]
  have hcl : ∀ ty, (Builtin.clear_ #[23] ty #[.slice (some ⟨g, (l.length - 1) * 6, none⟩) 1 (cap - (l.length - 1))]).run Try.prog W1 = .ok (.tuple #[]) (W1.setCells g ((l.length - 1) * 6) [iv 0, iv 0, iv 0, iv 0, iv 0, iv 0]) :=
    fun ty => run_clearH W1 ty g _ _ (fun j hj => by
      rw [World.ownsRow.cellAt hW1 _ (by omega), List.getElem?_eq_getElem (by rw [hW1.1]; omega)]
      rfl) (fun j hj => World.ownsRow.frozenAt hW1 _)
  have hN : i + (l.length - (i + 1)) = l.length - 1 := by omega
  have hcl2 : ∀ ty, (Builtin.clear_ #[23] ty #[.slice (some ⟨g, (i + (l.length - (i + 1))) * 6, none⟩) (l.length - (i + (l.length - (i + 1)))) (cap - (i + (l.length - (i + 1))))]).run Try.prog W1 = .ok (.tuple #[]) (W1.setCells g ((l.length - 1) * 6) [iv 0, iv 0, iv 0, iv 0, iv 0, iv 0]) := fun ty => by
    rw [hN, show l.length - (l.length - 1) = 1 by omega]
    exact hcl ty
  have FIN := hide (show OwnL (W1.setCells g ((l.length - 1) * 6) [iv 0, iv 0, iv 0, iv 0, iv 0, iv 0]) base 29 6 hoL (.slice (some ⟨g, 0, none⟩) (l.length - 1) cap) (l.eraseIdx i) ∧ But w (W1.setCells g ((l.length - 1) * 6) [iv 0, iv 0, iv 0, iv 0, iv 0, iv 0]) g ∧ ∀ a, Gr a w → a.heap.size ≤ g → Gr a (W1.setCells g ((l.length - 1) * 6) [iv 0, iv 0, iv 0, iv 0, iv 0, iv 0]) by
    obtain ⟨ys, q1, q2⟩ := own_keepE [iv 0, iv 0, iv 0, iv 0, iv 0, iv 0] ((l.length - 1) * 6) hW1
    have hel : (l.eraseIdx i).length = l.length - 1 := List.length_eraseIdx_of_lt hi
    refine ⟨?_, (⟨hB1.size, hB1.block⟩ : But w W1 g).trans (But.over g _ _ _), fun a h1 h2 => gr_over h2 _ _ (hG1.out a h1 h2)⟩
    unfold OwnL
    rw [hel]
    exact own_cutE q1 (by omega) (by rw [fm_len (c := hoL) (k := 6) (fun _ => rfl), hel]) (by rw [q2, e1]))
  have hWe : Hid (W1 = w.drew.setCells g (0 + i * 6) news) := by rw [Nat.zero_add]; exact hW1e
  have hwr : IntKind.i64.wrap ((i : Int) + 1) = (i : Int) + 1 := by rw [IntKind.wrap_i64]; omega
  have hic : i ≤ cap := by omega
  have hp0 : (0 : Int) ≤ (i : Int) + 1 := by omega
  have hp1 : (i : Int) + 1 ≤ (l.length : Int) := by omega
  have hjc : i + 1 ≤ cap := by omega
  have HN := hide hN
  clear hO hO1 hW1 hT1 hB1 hW1e hG1 e1 hnews hnl hlen hz0 hz2 hcl hN
  go_enter Try.func44, Try.ntmps44
  go_wp2_with fail
  go_region_law (refine step_append_room rfl (.tmp 22) (.tmp 25) 23 rfl 29 i0 6 Try.underlying23 hi0 hz1 g 0 i cap (by simp [Act.eval, Act.put]) A (l.length - (i + 1)) (cap - (i + 1)) news (by simp [Act.eval, Act.put]) s1.out hsrc.out s2.out (by omega) s3.out ?_; rw [← hWe.out])
  go_wp2
  go_ret
  exact ⟨(show Ending.returned (Value.slice (some ⟨g, 0, none⟩) (i + (l.length - (i + 1))) cap) = _ by rw [HN.out]), FIN.out⟩
end Go.Proofs.Ytefjgfglommefaa
set_option linter.unusedVariables false
set_option linter.unusedSimpArgs false
namespace Go.Proofs.Ytefjgfglommefaa
set_option linter.unusedVariables false
set_option linter.unusedSimpArgs false
open Go Go.ChangeShapes Go.WideShapes Go.ChangeAt Go.RowKit Go.Deep

theorem rdH_none {w : World} {l : List Ho} (h : RdH w none l) : l = [] := by
  cases l with
  | nil => rfl
  | cons f l =>
    obtain ⟨b, off, e, _⟩ := h.ho (i := 0) (f := f) rfl
    cases e
set_option maxRecDepth 100000 in
set_option maxHeartbeats 2000000 in
theorem cloneHos_any (A : Option Addr) (c : Nat) (l : List Ho) (w : World) (hl : SlH w A c l) :
    Calls Try.prog 69 #[.slice A l.length c] w fun e w' => ∃ A' c', e = .returned (.slice A' l.length c') ∧ OwnL w' w.heap.size 29 6 hoL (.slice A' l.length c') l ∧ Gr w w' := by
  have q22 : ∀ (w : World) (a : Option Addr) (n c n' c' : Nat), (binOp .eql 23 (.slice a n c) (.slice none n' c')).run Try.prog w = .ok (.bool a.isNone) w := fun w a n c n' c' => Lib.run_eql_slice_nil w _ _ a n c n' c' Try.underlying23
  cases A with
  | none =>
    obtain rfl := rdH_none hl.rd
    clear hl
    go_enter Try.func69, Try.ntmps69
    go_wp2
    go_ret
    exact ⟨none, 0, rfl, own_nil _ _ _ _ _, Gr.refl _⟩
  | some a =>
    obtain ⟨i0, hi0, hz0, hz1, hz2⟩ := info_parts infoHo
    have n1 := hl.len
    have HL := hide hl
    clear hl
    go_enter Try.func69, Try.ntmps69
    go_wp2_with (at_builtin; refine wpList_append_own _ rfl _ _ 23 rfl w.heap.size 29 i0 _ 6 48 Try.underlying23 hi0 hz0 hz1 hz2 rfl (by omega) _ _ _ rfl (World.ownsRow_made w #[] 0 (Nat.le_refl _) (Nat.zero_le _) (by simp)) a l.length c (l.flatMap hoL) rfl ?qc1 ?qc2 ?qc3 ?qc4 ?qc5 ?qc6 ?_)
    case qc1 => exact fm_len (c := hoL) (fun _ => rfl) l
    case qc2 =>
      intro j u hj
      have hlt := (List.getElem?_eq_some_iff.1 hj).1
      rw [fm_len (c := hoL) (k := 6) (fun _ => rfl) l] at hlt
      obtain ⟨f, hf⟩ : ∃ f, l[j / 6]? = some f := ⟨_, List.getElem?_eq_getElem (by omega)⟩
      obtain ⟨b, off, e, hat⟩ := HL.out.rd (j / 6) f hf
      have e2 := fm_at (c := hoL) (k := 6) (fun _ => rfl) l (j / 6) f (j % 6) hf (by omega)
      rw [show j / 6 * 6 + j % 6 = j by omega, hj] at e2
      obtain rfl := Option.some.inj e
      have e3 := at_get hat e2.symm
      rw [show off + j / 6 * 6 + j % 6 = off + j by omega] at e3
      rw [addr_add]
      exact Lib.cell?_alloc_some _ e3
    case qc3 =>
      intro u hu
      obtain ⟨f, _, hu⟩ := List.mem_flatMap.1 hu
      exact one_ho f u hu
    case qc4 => unfold maxLen; omega
    case qc5 => omega
    case qc6 => simp
    intro v' w1 hown hgrow hnil
    have ho : OwnL w1 w.heap.size 29 6 hoL v' l := by
      unfold OwnL
      simpa using hown
    obtain ⟨A', c', rfl⟩ := ho.slice
    go_wp2
    go_ret
    exact ⟨A', c', rfl, ho, Gr.grown (Gr.alloc (Gr.refl _) _) hgrow (by intro k hk; simp [Value.ownBlock] at hk; omega)⟩
/-- a list, its first k elements turned by f -/
def mixG {α : Type} (f : α → α) (l : List α) (k : Nat) : List α := (l.take k).map f ++ l.drop k
section
variable {α : Type} {f : α → α} {l : List α}
theorem mixG_zero (f : α → α) (l : List α) : mixG f l 0 = l := by simp [mixG]
theorem mixG_end (f : α → α) (l : List α) : mixG f l l.length = l.map f := by simp [mixG]
theorem mixG_len {k : Nat} (h : k ≤ l.length) : (mixG f l k).length = l.length := by
  simp only [mixG, List.length_append, List.length_map, List.length_take, List.length_drop]
  omega
theorem mixG_at {k : Nat} {x : α} (h : l[k]? = some x) : mixG f l k = (l.take k).map f ++ x :: l.drop (k + 1) ∧ mixG f l (k + 1) = (l.take k).map f ++ f x :: l.drop (k + 1) := by
  have hk := (List.getElem?_eq_some_iff.1 h).1
  constructor
  · unfold mixG
    rw [List.drop_eq_getElem_cons hk, (List.getElem?_eq_some_iff.1 h).2]
  · unfold mixG
    rw [take_snoc h]
    simp
theorem mixG_skip {k : Nat} {x : α} (h : l[k]? = some x) (e : f x = x) : mixG f l (k + 1) = mixG f l k := by
  rw [(mixG_at (f := f) h).1, (mixG_at (f := f) h).2, e]
theorem mixG_set {c : α → List Value} {s : Nat} (hc : ∀ x, (c x).length = s) {k o : Nat} {x : α} {v : Value} (h : l[k]? = some x) (ho : o < s) (e : c (f x) = (c x).set o v) : ((mixG f l k).flatMap c).set (k * s + o) v = (mixG f l (k + 1)).flatMap c := by
  have hk := (List.getElem?_eq_some_iff.1 h).1
  rw [(mixG_at (f := f) h).1, (mixG_at (f := f) h).2, List.flatMap_append, List.flatMap_append, List.flatMap_cons, List.flatMap_cons, e]
  have hl : (((l.take k).map f).flatMap c).length = k * s := by
    rw [fm_len hc, List.length_map, List.length_take, Nat.min_eq_left (Nat.le_of_lt hk)]
  rw [List.set_append, if_neg (by omega), hl, Nat.add_sub_cancel_left, List.set_append, if_pos (by rw [hc]; exact ho)]
theorem mixG_cell {c : α → List Value} {s : Nat} (hc : ∀ x, (c x).length = s) {k o : Nat} {x : α} (h : l[k]? = some x) (ho : o < s) : ((mixG f l k).flatMap c)[k * s + o]? = (c x)[o]? := by
  have hk := (List.getElem?_eq_some_iff.1 h).1
  exact fm_at hc (mixG f l k) k x o (by rw [(mixG_at h).1, List.getElem?_append_right (by rw [List.length_map, List.length_take]; omega)]; simp [Nat.min_eq_left (Nat.le_of_lt hk)]) ho
end
end Go.Proofs.Ytefjgfglommefaa
set_option linter.unusedVariables false
set_option linter.unusedSimpArgs false
namespace Go.Proofs.Ytefjgfglommefaa
set_option linter.unusedVariables false
set_option linter.unusedSimpArgs false
open Go Go.ChangeShapes Go.WideShapes Go.ChangeAt Go.RowKit Go.Deep

/-- An edit. -/
structure Ed where
  k : Int
  i : Int
  fl : Fl
  ho : Ho
  w : Int
  h : Int
abbrev edv (x : Ed) : Value := .agg #[iv x.k, iv x.i, .string x.fl.nm, iv x.fl.pa, iv x.fl.sd, iv x.fl.o, iv x.fl.wd, iv x.fl.ln, iv x.fl.an, iv x.ho.fa, iv x.ho.kd, iv x.ho.x, iv x.ho.y, iv x.ho.w, iv x.ho.h, iv x.w, iv x.h]
/-- the error by which an edit can't be made -/
def ceE (p : Pa) (x : Ed) : Int :=
  if x.k = 1 ∨ x.k = 3 ∨ x.k = 5 then 0
  else if x.k = 2 then (if wiB x.i 0 (p.fl.length - 1) then 0 else 5)
  else if x.k = 4 then (if wiB x.i 0 (p.fl.length - 1) then (if usB p (x.i + 1) then 12 else 0) else 5)
  else if x.k = 6 then (if wiB x.i 0 (p.ho.length - 1) then 0 else 5)
  else 1
set_option maxRecDepth 100000 in
set_option maxHeartbeats 4000000 in
theorem checkEdit_any (p : Pa) (A B : Option Addr) (c d : Nat) (x : Ed) (w : World) (hP : PaW w p A c B d) :
    Calls Try.prog 15 #[pav p A c B d, edv x] w fun e w' => e = .returned (iv (ceE p x)) ∧ Gr w w' := by
  have n1 := hP.fl.len
  have HF := hide (fun w' => hasFl_any p A B c d x.i w')
  have HH := hide (fun w' => hasHole_any p A B c d x.i w')
  have HC := hide (fun (w' : World) (g : Gr w w') => carries_any p A B c d (x.i + 1) w' (hP.gr g))
  obtain ⟨k, i, fl, ho, ww, hh⟩ := x
  dsimp only at HF HH HC
  clear hP
  by_cases k1 : k = 1
  · subst k1
    go_enter Try.func15, Try.ntmps15
    go_wp2
    go_ret
    exact ⟨rfl, (by repeat (first | with_reducible exact Gr.refl _ | with_reducible assumption | with_reducible refine Gr.alloc ?_ _ | with_reducible refine Gr.drewN ?_ _ | with_reducible refine Gr.drew ?_ | with_reducible refine Gr.setCell ?_ (by first | (dsimp only; omega) | (simp only [World.size_alloc]; omega) | (with_reducible refine Gr.size ?_; (repeat (first | with_reducible exact Gr.refl _ | with_reducible assumption | with_reducible refine Gr.alloc ?_ _ | with_reducible refine Gr.drewN ?_ _ | with_reducible refine Gr.drew ?_ | with_reducible refine Gr.trans ?_ (by with_reducible assumption))); done)) _ | with_reducible refine Gr.trans ?_ (by with_reducible assumption)))⟩
  by_cases k3 : k = 3
  · subst k3
    go_enter Try.func15, Try.ntmps15
    go_wp2
    go_ret
    exact ⟨rfl, (by repeat (first | with_reducible exact Gr.refl _ | with_reducible assumption | with_reducible refine Gr.alloc ?_ _ | with_reducible refine Gr.drewN ?_ _ | with_reducible refine Gr.drew ?_ | with_reducible refine Gr.setCell ?_ (by first | (dsimp only; omega) | (simp only [World.size_alloc]; omega) | (with_reducible refine Gr.size ?_; (repeat (first | with_reducible exact Gr.refl _ | with_reducible assumption | with_reducible refine Gr.alloc ?_ _ | with_reducible refine Gr.drewN ?_ _ | with_reducible refine Gr.drew ?_ | with_reducible refine Gr.trans ?_ (by with_reducible assumption))); done)) _ | with_reducible refine Gr.trans ?_ (by with_reducible assumption)))⟩
  by_cases k5 : k = 5
  · subst k5
    go_enter Try.func15, Try.ntmps15
    go_wp2
    go_ret
    exact ⟨rfl, (by repeat (first | with_reducible exact Gr.refl _ | with_reducible assumption | with_reducible refine Gr.alloc ?_ _ | with_reducible refine Gr.drewN ?_ _ | with_reducible refine Gr.drew ?_ | with_reducible refine Gr.setCell ?_ (by first | (dsimp only; omega) | (simp only [World.size_alloc]; omega) | (with_reducible refine Gr.size ?_; (repeat (first | with_reducible exact Gr.refl _ | with_reducible assumption | with_reducible refine Gr.alloc ?_ _ | with_reducible refine Gr.drewN ?_ _ | with_reducible refine Gr.drew ?_ | with_reducible refine Gr.trans ?_ (by with_reducible assumption))); done)) _ | with_reducible refine Gr.trans ?_ (by with_reducible assumption)))⟩
  by_cases k2 : k = 2
  · subst k2
    have HE := hide (show ceE p ⟨2, i, fl, ho, ww, hh⟩ = if wiB i 0 (p.fl.length - 1) then 0 else 5 from rfl)
    cases hm : wiB i 0 (p.fl.length - 1) with
    | true =>
      rw [hm] at HF HE
      clear hm
      go_enter Try.func15, Try.ntmps15
      go_wp2_with fail
      refine (HF.out _).mono ?_
      rintro e w1 ⟨rfl, g1⟩
      obtain ⟨X1, Y1, c1, f1⟩ := g1.use
      have z1 := g1.size
      simp only [World.size_alloc] at z1
      have l1 : w.heap.size < w1.heap.size := by omega
      have l2 : w.heap.size + 1 < w1.heap.size := by omega
      go_wp2
      go_ret
      exact ⟨ret_iv HE.out.symm, (by repeat (first | with_reducible exact Gr.refl _ | with_reducible assumption | with_reducible refine Gr.alloc ?_ _ | with_reducible refine Gr.drewN ?_ _ | with_reducible refine Gr.drew ?_ | with_reducible refine Gr.setCell ?_ (by first | (dsimp only; omega) | (simp only [World.size_alloc]; omega) | (with_reducible refine Gr.size ?_; (repeat (first | with_reducible exact Gr.refl _ | with_reducible assumption | with_reducible refine Gr.alloc ?_ _ | with_reducible refine Gr.drewN ?_ _ | with_reducible refine Gr.drew ?_ | with_reducible refine Gr.trans ?_ (by with_reducible assumption))); done)) _ | with_reducible refine Gr.trans ?_ (by with_reducible assumption)))⟩
    | false =>
      rw [hm] at HF HE
      clear hm
      go_enter Try.func15, Try.ntmps15
      go_wp2_with fail
      refine (HF.out _).mono ?_
      rintro e w1 ⟨rfl, g1⟩
      go_wp2
      go_ret
      exact ⟨ret_iv HE.out.symm, (by repeat (first | with_reducible exact Gr.refl _ | with_reducible assumption | with_reducible refine Gr.alloc ?_ _ | with_reducible refine Gr.drewN ?_ _ | with_reducible refine Gr.drew ?_ | with_reducible refine Gr.setCell ?_ (by first | (dsimp only; omega) | (simp only [World.size_alloc]; omega) | (with_reducible refine Gr.size ?_; (repeat (first | with_reducible exact Gr.refl _ | with_reducible assumption | with_reducible refine Gr.alloc ?_ _ | with_reducible refine Gr.drewN ?_ _ | with_reducible refine Gr.drew ?_ | with_reducible refine Gr.trans ?_ (by with_reducible assumption))); done)) _ | with_reducible refine Gr.trans ?_ (by with_reducible assumption)))⟩
  by_cases k4 : k = 4
  · subst k4
    have HE := hide (show ceE p ⟨4, i, fl, ho, ww, hh⟩ = if wiB i 0 (p.fl.length - 1) then (if usB p (i + 1) then 12 else 0) else 5 from rfl)
    cases hm : wiB i 0 (p.fl.length - 1) with
    | true =>
      obtain ⟨i0, i1⟩ := wiB_iff.1 hm
      have hwr : IntKind.i64.wrap (i + 1) = i + 1 := by rw [IntKind.wrap_i64]; omega
      rw [hm] at HF HE
      clear hm
      cases hu : usB p (i + 1) with
      | true =>
        rw [hu] at HC HE
        clear hu
        go_enter Try.func15, Try.ntmps15
        go_wp2_with fail
        refine (HF.out _).mono ?_
        rintro e w1 ⟨rfl, g1⟩
        obtain ⟨X1, Y1, c1, f1⟩ := g1.use
        have z1 := g1.size
        simp only [World.size_alloc] at z1
        have l1 : w.heap.size < w1.heap.size := by omega
        have l2 : w.heap.size + 1 < w1.heap.size := by omega
        have gw1 : Gr w w1 := (by repeat (first | with_reducible exact Gr.refl _ | with_reducible assumption | with_reducible refine Gr.alloc ?_ _ | with_reducible refine Gr.drewN ?_ _ | with_reducible refine Gr.drew ?_ | with_reducible refine Gr.setCell ?_ (by first | (dsimp only; omega) | (simp only [World.size_alloc]; omega) | (with_reducible refine Gr.size ?_; (repeat (first | with_reducible exact Gr.refl _ | with_reducible assumption | with_reducible refine Gr.alloc ?_ _ | with_reducible refine Gr.drewN ?_ _ | with_reducible refine Gr.drew ?_ | with_reducible refine Gr.trans ?_ (by with_reducible assumption))); done)) _ | with_reducible refine Gr.trans ?_ (by with_reducible assumption)))
        go_wp2_with fail
        refine (HC.out _ gw1).mono ?_
        rintro e w2 ⟨rfl, g2⟩
        go_wp2
        go_ret
        exact ⟨ret_iv HE.out.symm, (by repeat (first | with_reducible exact Gr.refl _ | with_reducible assumption | with_reducible refine Gr.alloc ?_ _ | with_reducible refine Gr.drewN ?_ _ | with_reducible refine Gr.drew ?_ | with_reducible refine Gr.setCell ?_ (by first | (dsimp only; omega) | (simp only [World.size_alloc]; omega) | (with_reducible refine Gr.size ?_; (repeat (first | with_reducible exact Gr.refl _ | with_reducible assumption | with_reducible refine Gr.alloc ?_ _ | with_reducible refine Gr.drewN ?_ _ | with_reducible refine Gr.drew ?_ | with_reducible refine Gr.trans ?_ (by with_reducible assumption))); done)) _ | with_reducible refine Gr.trans ?_ (by with_reducible assumption)))⟩
      | false =>
        rw [hu] at HC HE
        clear hu
        go_enter Try.func15, Try.ntmps15
        go_wp2_with fail
        refine (HF.out _).mono ?_
        rintro e w1 ⟨rfl, g1⟩
        obtain ⟨X1, Y1, c1, f1⟩ := g1.use
        have z1 := g1.size
        simp only [World.size_alloc] at z1
        have l1 : w.heap.size < w1.heap.size := by omega
        have l2 : w.heap.size + 1 < w1.heap.size := by omega
        have gw1 : Gr w w1 := (by repeat (first | with_reducible exact Gr.refl _ | with_reducible assumption | with_reducible refine Gr.alloc ?_ _ | with_reducible refine Gr.drewN ?_ _ | with_reducible refine Gr.drew ?_ | with_reducible refine Gr.setCell ?_ (by first | (dsimp only; omega) | (simp only [World.size_alloc]; omega) | (with_reducible refine Gr.size ?_; (repeat (first | with_reducible exact Gr.refl _ | with_reducible assumption | with_reducible refine Gr.alloc ?_ _ | with_reducible refine Gr.drewN ?_ _ | with_reducible refine Gr.drew ?_ | with_reducible refine Gr.trans ?_ (by with_reducible assumption))); done)) _ | with_reducible refine Gr.trans ?_ (by with_reducible assumption)))
        go_wp2_with fail
        refine (HC.out _ gw1).mono ?_
        rintro e w2 ⟨rfl, g2⟩
        go_wp2
        go_ret
        exact ⟨ret_iv HE.out.symm, (by repeat (first | with_reducible exact Gr.refl _ | with_reducible assumption | with_reducible refine Gr.alloc ?_ _ | with_reducible refine Gr.drewN ?_ _ | with_reducible refine Gr.drew ?_ | with_reducible refine Gr.setCell ?_ (by first | (dsimp only; omega) | (simp only [World.size_alloc]; omega) | (with_reducible refine Gr.size ?_; (repeat (first | with_reducible exact Gr.refl _ | with_reducible assumption | with_reducible refine Gr.alloc ?_ _ | with_reducible refine Gr.drewN ?_ _ | with_reducible refine Gr.drew ?_ | with_reducible refine Gr.trans ?_ (by with_reducible assumption))); done)) _ | with_reducible refine Gr.trans ?_ (by with_reducible assumption)))⟩
    | false =>
      rw [hm] at HF HE
      clear hm
      go_enter Try.func15, Try.ntmps15
      go_wp2_with fail
      refine (HF.out _).mono ?_
      rintro e w1 ⟨rfl, g1⟩
      go_wp2
      go_ret
      exact ⟨ret_iv HE.out.symm, (by repeat (first | with_reducible exact Gr.refl _ | with_reducible assumption | with_reducible refine Gr.alloc ?_ _ | with_reducible refine Gr.drewN ?_ _ | with_reducible refine Gr.drew ?_ | with_reducible refine Gr.setCell ?_ (by first | (dsimp only; omega) | (simp only [World.size_alloc]; omega) | (with_reducible refine Gr.size ?_; (repeat (first | with_reducible exact Gr.refl _ | with_reducible assumption | with_reducible refine Gr.alloc ?_ _ | with_reducible refine Gr.drewN ?_ _ | with_reducible refine Gr.drew ?_ | with_reducible refine Gr.trans ?_ (by with_reducible assumption))); done)) _ | with_reducible refine Gr.trans ?_ (by with_reducible assumption)))⟩
  by_cases k6 : k = 6
  · subst k6
    have HE := hide (show ceE p ⟨6, i, fl, ho, ww, hh⟩ = if wiB i 0 (p.ho.length - 1) then 0 else 5 from rfl)
    cases hm : wiB i 0 (p.ho.length - 1) with
    | true =>
      rw [hm] at HH HE
      clear hm
      go_enter Try.func15, Try.ntmps15
      go_wp2_with fail
      refine (HH.out _).mono ?_
      rintro e w1 ⟨rfl, g1⟩
      obtain ⟨X1, Y1, c1, f1⟩ := g1.use
      have z1 := g1.size
      simp only [World.size_alloc] at z1
      have l1 : w.heap.size < w1.heap.size := by omega
      have l2 : w.heap.size + 1 < w1.heap.size := by omega
      go_wp2
      go_ret
      exact ⟨ret_iv HE.out.symm, (by repeat (first | with_reducible exact Gr.refl _ | with_reducible assumption | with_reducible refine Gr.alloc ?_ _ | with_reducible refine Gr.drewN ?_ _ | with_reducible refine Gr.drew ?_ | with_reducible refine Gr.setCell ?_ (by first | (dsimp only; omega) | (simp only [World.size_alloc]; omega) | (with_reducible refine Gr.size ?_; (repeat (first | with_reducible exact Gr.refl _ | with_reducible assumption | with_reducible refine Gr.alloc ?_ _ | with_reducible refine Gr.drewN ?_ _ | with_reducible refine Gr.drew ?_ | with_reducible refine Gr.trans ?_ (by with_reducible assumption))); done)) _ | with_reducible refine Gr.trans ?_ (by with_reducible assumption)))⟩
    | false =>
      rw [hm] at HH HE
      clear hm
      go_enter Try.func15, Try.ntmps15
      go_wp2_with fail
      refine (HH.out _).mono ?_
      rintro e w1 ⟨rfl, g1⟩
      go_wp2
      go_ret
      exact ⟨ret_iv HE.out.symm, (by repeat (first | with_reducible exact Gr.refl _ | with_reducible assumption | with_reducible refine Gr.alloc ?_ _ | with_reducible refine Gr.drewN ?_ _ | with_reducible refine Gr.drew ?_ | with_reducible refine Gr.setCell ?_ (by first | (dsimp only; omega) | (simp only [World.size_alloc]; omega) | (with_reducible refine Gr.size ?_; (repeat (first | with_reducible exact Gr.refl _ | with_reducible assumption | with_reducible refine Gr.alloc ?_ _ | with_reducible refine Gr.drewN ?_ _ | with_reducible refine Gr.drew ?_ | with_reducible refine Gr.trans ?_ (by with_reducible assumption))); done)) _ | with_reducible refine Gr.trans ?_ (by with_reducible assumption)))⟩
  · have HE := hide (show ceE p ⟨k, i, fl, ho, ww, hh⟩ = 1 by
      unfold ceE
      dsimp only
      rw [if_neg (by omega), if_neg k2, if_neg k4, if_neg k6])
    have b1 : (k == 1) = false := by simpa using k1
    have b2 : (k == 2) = false := by simpa using k2
    have b3 : (k == 3) = false := by simpa using k3
    have b4 : (k == 4) = false := by simpa using k4
    have b5 : (k == 5) = false := by simpa using k5
    have b6 : (k == 6) = false := by simpa using k6
    clear k1 k2 k3 k4 k5 k6
    go_enter Try.func15, Try.ntmps15
    go_wp2
    go_ret
    exact ⟨ret_iv HE.out.symm, (by repeat (first | with_reducible exact Gr.refl _ | with_reducible assumption | with_reducible refine Gr.alloc ?_ _ | with_reducible refine Gr.drewN ?_ _ | with_reducible refine Gr.drew ?_ | with_reducible refine Gr.setCell ?_ (by first | (dsimp only; omega) | (simp only [World.size_alloc]; omega) | (with_reducible refine Gr.size ?_; (repeat (first | with_reducible exact Gr.refl _ | with_reducible assumption | with_reducible refine Gr.alloc ?_ _ | with_reducible refine Gr.drewN ?_ _ | with_reducible refine Gr.drew ?_ | with_reducible refine Gr.trans ?_ (by with_reducible assumption))); done)) _ | with_reducible refine Gr.trans ?_ (by with_reducible assumption)))⟩
end Go.Proofs.Ytefjgfglommefaa
set_option linter.unusedVariables false
set_option linter.unusedSimpArgs false
namespace Go.Proofs.Ytefjgfglommefaa
set_option linter.unusedVariables false
set_option linter.unusedSimpArgs false
open Go Go.ChangeShapes Go.WideShapes Go.ChangeAt Go.RowKit Go.Deep

def loF (r : Int) (f : Fl) : Fl := if r < f.pa then ⟨f.nm, f.pa - 1, f.sd, f.o, f.wd, f.ln, f.an⟩ else f
def loH (r : Int) (x : Ho) : Ho := if r < x.fa then ⟨x.fa - 1, x.kd, x.x, x.y, x.w, x.h⟩ else x
/-- the part after an edit that can be made -/
def edP (p : Pa) (x : Ed) : Pa :=
  if x.k = 1 then ⟨p.nm, p.mt, p.ga, p.gr, x.w, x.h, p.fl, p.ho⟩
  else if x.k = 2 then ⟨p.nm, p.mt, p.ga, p.gr, p.wd, p.ht, p.fl.set x.i.toNat x.fl, p.ho⟩
  else if x.k = 3 then ⟨p.nm, p.mt, p.ga, p.gr, p.wd, p.ht, p.fl ++ [x.fl], p.ho⟩
  else if x.k = 4 then ⟨p.nm, p.mt, p.ga, p.gr, p.wd, p.ht, (p.fl.eraseIdx x.i.toNat).map (loF (x.i + 1)), p.ho.map (loH (x.i + 1))⟩
  else if x.k = 5 then ⟨p.nm, p.mt, p.ga, p.gr, p.wd, p.ht, p.fl, p.ho ++ [x.ho]⟩
  else ⟨p.nm, p.mt, p.ga, p.gr, p.wd, p.ht, p.fl, p.ho.eraseIdx x.i.toNat⟩
def paN : Pa := ⟨⟨#[]⟩, ⟨#[]⟩, 0, 0, 0, 0, [], []⟩
/-- what Apply returns -/
noncomputable def apE (p : Pa) (x : Ed) : Int := if valE p ≠ 0 then valE p else if ceE p x ≠ 0 then ceE p x else valE (edP p x)
noncomputable def apP (p : Pa) (x : Ed) : Pa := if apE p x = 0 then edP p x else paN
theorem apE_val {p : Pa} {x : Ed} (h : ¬ valE p = 0) : apE p x = valE p := by
  unfold apE
  rw [if_pos (by simpa using h)]
theorem apE_ce {p : Pa} {x : Ed} (h : valE p = 0) (k : ¬ ceE p x = 0) : apE p x = ceE p x := by
  unfold apE
  rw [if_neg (by simpa using h), if_pos (by simpa using k)]
theorem apE_ed {p : Pa} {x : Ed} (h : valE p = 0) (k : ceE p x = 0) : apE p x = valE (edP p x) := by
  unfold apE
  rw [if_neg (by simpa using h), if_neg (by simpa using k)]
theorem apE_zero {p : Pa} {x : Ed} (h : apE p x = 0) : valE p = 0 ∧ ceE p x = 0 ∧ valE (edP p x) = 0 := by
  by_cases h1 : valE p = 0
  · by_cases h2 : ceE p x = 0
    · exact ⟨h1, h2, by rw [← apE_ed h1 h2]; exact h⟩
    · rw [apE_ce h1 h2] at h; exact absurd h h2
  · rw [apE_val h1] at h; exact absurd h h1
theorem apP_ok {p : Pa} {x : Ed} (h : apE p x = 0) : apP p x = edP p x := if_pos h
theorem apP_no {p : Pa} {x : Ed} (h : ¬ apE p x = 0) : apP p x = paN := if_neg h
/-- what an edit that can be made is -/
theorem ce_zero {p : Pa} {x : Ed} (h : ceE p x = 0) : x.k = 1 ∨ x.k = 3 ∨ x.k = 5 ∨ (x.k = 2 ∧ ∃ i : Nat, x.i = i ∧ i < p.fl.length) ∨ (x.k = 4 ∧ (∃ i : Nat, x.i = i ∧ i < p.fl.length) ∧ usB p (x.i + 1) = false) ∨ (x.k = 6 ∧ ∃ i : Nat, x.i = i ∧ i < p.ho.length) := by
  unfold ceE at h
  have key : ∀ (n : Nat), wiB x.i 0 ((n : Int) - 1) = true → ∃ i : Nat, x.i = i ∧ i < n := fun n hn => by
    rw [wiB_iff] at hn
    exact ⟨x.i.toNat, by omega, by omega⟩
  split at h
  · rename_i hk; omega
  split at h
  · rename_i hk
    split at h
    · rename_i hw; exact .inr (.inr (.inr (.inl ⟨hk, key _ hw⟩)))
    · omega
  split at h
  · rename_i hk
    split at h
    · rename_i hw
      split at h
      · omega
      · rename_i hu; exact .inr (.inr (.inr (.inr (.inl ⟨hk, key _ hw, by simpa using hu⟩))))
    · omega
  split at h
  · rename_i hk
    split at h
    · rename_i hw; exact .inr (.inr (.inr (.inr (.inr ⟨hk, key _ hw⟩))))
    · omega
  · omega
theorem loF_same {r : Int} {l : List Fl} (h : ∀ f ∈ l, f.pa ≤ r) : l.map (loF r) = l := by
  conv => rhs; rw [← List.map_id l]
  exact List.map_congr_left fun f hf => by
    unfold loF
    rw [if_neg (by have := h f hf; omega)]
    rfl
theorem loH_same {r : Int} {l : List Ho} (h : ∀ f ∈ l, f.fa ≤ r) : l.map (loH r) = l := by
  conv => rhs; rw [← List.map_id l]
  exact List.map_congr_left fun f hf => by
    unfold loH
    rw [if_neg (by have := h f hf; omega)]
    rfl
theorem pa_le {p : Pa} (h : valE p = 0) {i : Nat} {f : Fl} (hf : p.fl[i]? = some f) : f.pa ≤ i :=
  (((good_of h).fl.fl i f (List.getElem?_eq_some_iff.1 hf).1 hf).1).2
theorem fa_le {p : Pa} (h : valE p = 0) : ∀ x ∈ p.ho, x.fa ≤ p.fl.length := fun x hx => by
  have := List.all_eq_true.1 (good_of h).ho x hx
  simp [hoB, wiB] at this
  omega
def fl0 : Fl := ⟨⟨#[]⟩, 0, 0, 0, 0, 0, 0⟩
def ho0 : Ho := ⟨0, 0, 0, 0, 0, 0⟩
/-- the edit that takes an edit back -/
def bkE (p : Pa) (x : Ed) : Ed :=
  if x.k = 1 then ⟨1, 0, fl0, ho0, p.wd, p.ht⟩
  else if x.k = 2 then ⟨2, x.i, (p.fl[x.i.toNat]?).getD fl0, ho0, 0, 0⟩
  else if x.k = 3 then ⟨4, p.fl.length, fl0, ho0, 0, 0⟩
  else if x.k = 4 then ⟨3, 0, (p.fl[x.i.toNat]?).getD fl0, ho0, 0, 0⟩
  else if x.k = 5 then ⟨6, p.ho.length, fl0, ho0, 0, 0⟩
  else ⟨5, 0, fl0, (p.ho[x.i.toNat]?).getD ho0, 0, 0⟩
theorem last_back {α : Type} {l : List α} {n : Nat} {x : α} (hn : l.length = n + 1) (hx : l[n]? = some x) : l.eraseIdx n ++ [x] = l := by
  rw [List.eraseIdx_eq_take_drop_succ, List.drop_of_length_le (by omega), List.append_nil]
  have : l.take (n + 1) = l.take n ++ [x] := by rw [List.take_add_one, hx]; rfl
  rw [← this, List.take_of_length_le (by omega)]
theorem erase_last {α : Type} (l : List α) (x : α) : (l ++ [x]).eraseIdx l.length = l := by
  rw [List.eraseIdx_append_of_length_le (Nat.le_refl _), Nat.sub_self]
  simp
theorem bk_1 {p : Pa} {x : Ed} (hk : x.k = 1) : ceE (edP p x) (bkE p x) = 0 ∧ edP (edP p x) (bkE p x) = p := by
  unfold bkE edP ceE
  simp [hk]
theorem bk_2 {p : Pa} {x : Ed} (hk : x.k = 2) {i : Nat} (hi : x.i = i) (hl : i < p.fl.length) : ceE (edP p x) (bkE p x) = 0 ∧ edP (edP p x) (bkE p x) = p := by
  obtain ⟨f, hf⟩ : ∃ f, p.fl[i]? = some f := ⟨_, List.getElem?_eq_getElem hl⟩
  have hw : wiB (i : Int) 0 ((p.fl.length : Int) - 1) = true := wiB_iff.2 (by omega)
  have e : p.fl.set i f = p.fl := by
    obtain ⟨_, rfl⟩ := List.getElem?_eq_some_iff.1 hf
    exact List.set_getElem_self _
  unfold bkE edP ceE
  simp [hk, hi, hf, hw, e]
theorem bk_3 {p : Pa} {x : Ed} (hv : valE (edP p x) = 0) (hp : valE p = 0) (hk : x.k = 3) : ceE (edP p x) (bkE p x) = 0 ∧ edP (edP p x) (bkE p x) = p := by
  have ea : edP p x = ⟨p.nm, p.mt, p.ga, p.gr, p.wd, p.ht, p.fl ++ [x.fl], p.ho⟩ := by
    unfold edP
    simp [hk]
  have eb : bkE p x = ⟨4, p.fl.length, fl0, ho0, 0, 0⟩ := by
    unfold bkE
    simp [hk]
  have hfa := fa_le hp
  have hpa : ∀ f ∈ p.fl ++ [x.fl], f.pa ≤ (p.fl.length : Int) := fun f hf => by
    obtain ⟨i, hi⟩ := List.mem_iff_getElem?.1 hf
    have hl := (List.getElem?_eq_some_iff.1 hi).1
    have := pa_le hv (i := i) (f := f) (by rw [ea]; exact hi)
    simp at hl
    omega
  rw [ea, eb]
  have hu : usB ⟨p.nm, p.mt, p.ga, p.gr, p.wd, p.ht, p.fl ++ [x.fl], p.ho⟩ ((p.fl.length : Int) + 1) = false := by
    unfold usB usF usH
    rw [Bool.or_eq_false_iff, List.any_eq_false, List.any_eq_false]
    refine ⟨fun f hf => ?_, fun f hf => ?_⟩
    · have := hpa f hf
      simp only [beq_iff_eq]
      omega
    · have := hfa f hf
      simp only [beq_iff_eq]
      omega
  have hw : wiB (p.fl.length : Int) 0 (p.fl.length : Int) = true := wiB_iff.2 (by omega)
  refine ⟨?_, ?_⟩
  · unfold ceE
    simp [hw, hu]
  · unfold edP
    simp only [Int.toNat_natCast, erase_last]
    rw [loF_same fun f hf => by have := hpa f (List.mem_append_left _ hf); omega, loH_same fun f hf => by have := hfa f hf; omega]
    rfl
theorem bk_4 {p : Pa} {x : Ed} (hp : valE p = 0) (hk : x.k = 4) {i : Nat} (hi : x.i = i) (hl : p.fl.length = i + 1) : ceE (edP p x) (bkE p x) = 0 ∧ edP (edP p x) (bkE p x) = p := by
  obtain ⟨f, hf⟩ : ∃ f, p.fl[i]? = some f := ⟨_, List.getElem?_eq_getElem (by omega)⟩
  have hfa := fa_le hp
  have e1 : (p.fl.eraseIdx i).map (loF ((i : Int) + 1)) = p.fl.eraseIdx i := loF_same fun g hg => by
    obtain ⟨j, hj⟩ := List.mem_iff_getElem?.1 (List.mem_of_mem_eraseIdx hg)
    have := pa_le hp hj
    have := (List.getElem?_eq_some_iff.1 hj).1
    omega
  have e2 : p.ho.map (loH ((i : Int) + 1)) = p.ho := loH_same fun g hg => by have := hfa g hg; omega
  have e3 := last_back hl hf
  unfold bkE edP ceE
  simp [hk, hi, hf, e1, e2, e3]
theorem bk_5 {p : Pa} {x : Ed} (hk : x.k = 5) : ceE (edP p x) (bkE p x) = 0 ∧ edP (edP p x) (bkE p x) = p := by
  have hw : wiB (p.ho.length : Int) 0 (p.ho.length : Int) = true := wiB_iff.2 (by omega)
  have ea : edP p x = ⟨p.nm, p.mt, p.ga, p.gr, p.wd, p.ht, p.fl, p.ho ++ [x.ho]⟩ := by
    unfold edP
    simp [hk]
  have eb : bkE p x = ⟨6, p.ho.length, fl0, ho0, 0, 0⟩ := by
    unfold bkE
    simp [hk]
  rw [ea, eb]
  refine ⟨?_, ?_⟩
  · unfold ceE
    simp [hw]
  · unfold edP
    simp only [Int.toNat_natCast, erase_last]
    rfl
theorem bk_6 {p : Pa} {x : Ed} (hk : x.k = 6) {i : Nat} (hi : x.i = i) (hl : p.ho.length = i + 1) : ceE (edP p x) (bkE p x) = 0 ∧ edP (edP p x) (bkE p x) = p := by
  obtain ⟨f, hf⟩ : ∃ f, p.ho[i]? = some f := ⟨_, List.getElem?_eq_getElem (by omega)⟩
  have e3 := last_back hl hf
  unfold bkE edP ceE
  simp [hk, hi, hf, e3]
/-- the edit of the way back gives the part again -/
theorem bk_ok {p : Pa} {x : Ed} (h : apE p x = 0) (h4 : x.k = 4 → x.i = (p.fl.length : Int) - 1) (h6 : x.k = 6 → x.i = (p.ho.length : Int) - 1) : apE (edP p x) (bkE p x) = 0 ∧ apP (edP p x) (bkE p x) = p := by
  obtain ⟨hp, hc, hv⟩ := apE_zero h
  have key : ceE (edP p x) (bkE p x) = 0 ∧ edP (edP p x) (bkE p x) = p := by
    rcases ce_zero hc with hk | hk | hk | ⟨hk, i, hi, hl⟩ | ⟨hk, ⟨i, hi, hl⟩, hu⟩ | ⟨hk, i, hi, hl⟩
    · exact bk_1 hk
    · exact bk_3 hv hp hk
    · exact bk_5 hk
    · exact bk_2 hk hi hl
    · exact bk_4 hp hk hi (by have := h4 hk; omega)
    · exact bk_6 hk hi (by have := h6 hk; omega)
  have e : apE (edP p x) (bkE p x) = 0 := by rw [apE_ed hv key.1, key.2]; exact hp
  exact ⟨e, by rw [apP_ok e, key.2]⟩
/-- lengths after an edit -/
theorem ed_len4 {p : Pa} {x : Ed} (hk : x.k = 4) {i : Nat} (hi : x.i = i) (hl : i < p.fl.length) : (edP p x).fl.length = p.fl.length - 1 := by
  unfold edP
  simp [hk, hi, List.length_eraseIdx_of_lt hl]
theorem ed_len6 {p : Pa} {x : Ed} (hk : x.k = 6) {i : Nat} (hi : x.i = i) (hl : i < p.ho.length) : (edP p x).ho.length = p.ho.length - 1 := by
  unfold edP
  simp [hk, hi, List.length_eraseIdx_of_lt hl]
end Go.Proofs.Ytefjgfglommefaa
set_option linter.unusedVariables false
set_option linter.unusedSimpArgs false
namespace Go.Proofs.Ytefjgfglommefaa
set_option linter.unusedVariables false
set_option linter.unusedSimpArgs false
open Go Go.ChangeShapes Go.WideShapes Go.ChangeAt Go.RowKit Go.Deep

/-- the blocks from lo to hi are as they were -/
structure Kb (lo hi : Nat) (w w' : World) : Prop where
  block : ∀ b, lo ≤ b → b < hi → w'.heap[b]? = w.heap[b]?
theorem Kb.refl {lo hi : Nat} (w : World) : Kb lo hi w w := ⟨fun _ _ _ => rfl⟩
theorem Kb.gr {lo hi : Nat} {w w' w'' : World} (h : Kb lo hi w w') (g : Gr w' w'') (hs : hi ≤ w'.heap.size) : Kb lo hi w w'' :=
  ⟨fun b h1 h2 => (Below.block g b (Nat.lt_of_lt_of_le h2 hs)).trans (h.block b h1 h2)⟩
theorem Kb.alloc {lo hi : Nat} {w w' : World} (h : Kb lo hi w w') (hs : hi ≤ w'.heap.size) (x : Obj) : Kb lo hi w (w'.alloc x) := h.gr (Gr.alloc (Gr.refl _) _) hs
theorem Kb.drew {lo hi : Nat} {w w' : World} (h : Kb lo hi w w') : Kb lo hi w w'.drew := ⟨fun b h1 h2 => h.block b h1 h2⟩
theorem Kb.set {lo hi B i : Nat} {w w' : World} (h : Kb lo hi w w') (hB : B < lo ∨ hi ≤ B) (v : Value) : Kb lo hi w (w'.setCell ⟨B, i, none⟩ v) :=
  ⟨fun b h1 h2 => (Below.heap_setCell w' ⟨B, i, none⟩ v b (by show b ≠ B; omega)).trans (h.block b h1 h2)⟩
theorem Kb.trans {lo hi : Nat} {w w' w'' : World} (h : Kb lo hi w w') (k : Kb lo hi w' w'') : Kb lo hi w w'' := ⟨fun b h1 h2 => (k.block b h1 h2).trans (h.block b h1 h2)⟩
theorem own_kb {α : Type} {c : α → List Value} {w w' : World} {base lo hi : Nat} {e : TypeId} {k : Nat} {v : Value} {xs : List α} (h : OwnL w base e k c v xs) (hk : Kb lo hi w w') (h1 : lo ≤ base) (h2 : w.heap.size ≤ hi) : OwnL w' base e k c v xs := by
  obtain ⟨h0, h3 | ⟨b, cap, cur, h3, hb, h4, h5⟩⟩ := id h
  · exact ⟨h0, .inl h3⟩
  · refine ⟨h0, .inr ⟨b, cap, cur, h3, hb, ?_, h5⟩⟩
    have hlt : b < w.heap.size := (Array.getElem?_eq_some_iff.1 h4).1
    rw [← h4]
    exact hk.block b (by omega) (by omega)
theorem own_weakKb {α : Type} {c : α → List Value} {w w' : World} {base lo : Nat} {e : TypeId} {k : Nat} {v : Value} {xs : List α} (h : OwnL w base e k c v xs) (hk : Kb base w.heap.size w w') (h1 : lo ≤ base) : OwnL w' lo e k c v xs :=
  (own_kb h hk (Nat.le_refl _) (Nat.le_refl _)).weak h1
/-- two rows of the call's own lie apart -/
def DJ (u v : Value) : Prop := ∀ b, u.ownBlock = some b → v.ownBlock ≠ some b
theorem DJ.comm {u v : Value} (h : DJ u v) : DJ v u := fun b h1 h2 => h b h2 h1
theorem own_lt {α : Type} {c : α → List Value} {w : World} {base : Nat} {e : TypeId} {k : Nat} {v : Value} {xs : List α} (h : OwnL w base e k c v xs) : ∀ b, v.ownBlock = some b → base ≤ b ∧ b < w.heap.size := fun b hb => World.ownsRow.lt h b hb
theorem dj_of {α β : Type} {c : α → List Value} {c' : β → List Value} {w w' : World} {base base' : Nat} {e e' : TypeId} {k k' : Nat} {u v : Value} {xs : List α} {ys : List β} (h : OwnL w base e k c u xs) (h' : OwnL w' base' e' k' c' v ys) (hb : w.heap.size ≤ base') : DJ u v :=
  fun b h1 h2 => by have := (own_lt h b h1).2; have := (own_lt h' b h2).1; omega
/-- a variable of eight cells -/
structure Bx8 (w : World) (B : Nat) (a0 a1 a2 a3 a4 a5 a6 a7 : Value) : Prop where
  lt : B < w.heap.size
  c0 : w.cell? ⟨B, 0, none⟩ = some a0
  c1 : w.cell? ⟨B, 1, none⟩ = some a1
  c2 : w.cell? ⟨B, 2, none⟩ = some a2
  c3 : w.cell? ⟨B, 3, none⟩ = some a3
  c4 : w.cell? ⟨B, 4, none⟩ = some a4
  c5 : w.cell? ⟨B, 5, none⟩ = some a5
  c6 : w.cell? ⟨B, 6, none⟩ = some a6
  c7 : w.cell? ⟨B, 7, none⟩ = some a7
  fz : ∀ j, w.frozen? ⟨B, j, none⟩ = false
theorem Bx8.gr {w w' : World} {B : Nat} {a0 a1 a2 a3 a4 a5 a6 a7 : Value} (h : Bx8 w B a0 a1 a2 a3 a4 a5 a6 a7) (g : Gr w w') : Bx8 w' B a0 a1 a2 a3 a4 a5 a6 a7 :=
  ⟨Nat.lt_of_lt_of_le h.lt g.size, (g.cell _ _ h.lt).trans h.c0, (g.cell _ _ h.lt).trans h.c1, (g.cell _ _ h.lt).trans h.c2, (g.cell _ _ h.lt).trans h.c3, (g.cell _ _ h.lt).trans h.c4, (g.cell _ _ h.lt).trans h.c5, (g.cell _ _ h.lt).trans h.c6, (g.cell _ _ h.lt).trans h.c7, fun j => (g.frozen _ _ h.lt).trans (h.fz j)⟩
theorem fz_set1 (w : World) (a b : Addr) (v : Value) : (w.setCell a v).frozen? b = w.frozen? b := by simp [go_sem]
structure ClF (w0 : World) (A : Option Addr) (n c : Nat) (l : List Fl) : Prop where
  use : ∀ w', Gr w0 w' → Calls Try.prog 68 #[.slice A n c] w' fun e w'' => ∃ A' c', e = .returned (.slice A' n c') ∧ OwnL w'' w'.heap.size 27 7 flL (.slice A' n c') l ∧ Gr w' w''
structure ClH (w0 : World) (A : Option Addr) (n c : Nat) (l : List Ho) : Prop where
  use : ∀ w', Gr w0 w' → Calls Try.prog 69 #[.slice A n c] w' fun e w'' => ∃ A' c', e = .returned (.slice A' n c') ∧ OwnL w'' w'.heap.size 29 6 hoL (.slice A' n c') l ∧ Gr w' w''
theorem clF_at {w0 : World} {A : Option Addr} {n c : Nat} {l : List Fl} (h : ClF w0 A n c l) (w' : World) (g : Gr w0 w') : Calls Try.prog 68 #[.slice A n c] w' fun e w'' => ∃ A' c', e = .returned (.slice A' n c') ∧ OwnL w'' w'.heap.size 27 7 flL (.slice A' n c') l ∧ Gr w' w'' := h.use w' g
theorem clH_at {w0 : World} {A : Option Addr} {n c : Nat} {l : List Ho} (h : ClH w0 A n c l) (w' : World) (g : Gr w0 w') : Calls Try.prog 69 #[.slice A n c] w' fun e w'' => ∃ A' c', e = .returned (.slice A' n c') ∧ OwnL w'' w'.heap.size 29 6 hoL (.slice A' n c') l ∧ Gr w' w'' := h.use w' g
set_option maxHeartbeats 8000000 in
set_option maxRecDepth 100000 in
theorem copyPart_any (p : Pa) (A B : Option Addr) (c d : Nat) (w : World) (hP : PaW w p A c B d) :
    Calls Try.prog 41 #[pav p A c B d] w fun e w' => ∃ (A' : Option Addr) (c' : Nat) (B' : Option Addr) (d' : Nat), e = .returned (pav p A' c' B' d') ∧ OwnL w' w.heap.size 27 7 flL (.slice A' p.fl.length c') p.fl ∧ OwnL w' w.heap.size 29 6 hoL (.slice B' p.ho.length d') p.ho ∧ DJ (.slice A' p.fl.length c') (.slice B' p.ho.length d') ∧ Gr w w' := by
  obtain ⟨w0, hw0⟩ : ∃ w0, (w.alloc (.cells #[.string p.nm, .string p.mt, iv p.ga, iv p.gr, iv p.wd, iv p.ht, .slice A p.fl.length c, .slice B p.ho.length d] 25)).alloc (.cells #[.string ⟨#[]⟩, .string ⟨#[]⟩, iv 0, iv 0, iv 0, iv 0, .slice none 0 0, .slice none 0 0] 25) = w0 := ⟨_, rfl⟩
  have gw0 : Gr w w0 := by rw [← hw0]; exact Gr.alloc (Gr.alloc (Gr.refl _) _) _
  have r1 : ClF w0 A p.fl.length c p.fl := ⟨fun w' g => cloneFls_any A c p.fl w' (hP.fl.gr (gw0.trans g))⟩
  have r2 : ClH w0 B p.ho.length d p.ho := ⟨fun w' g => cloneHos_any B d p.ho w' (hP.ho.gr (gw0.trans g))⟩
  have s0 : w0.heap.size = w.heap.size + 2 := by rw [← hw0]; simp
  have k0 : Bx8 w0 w.heap.size (.string p.nm) (.string p.mt) (iv p.ga) (iv p.gr) (iv p.wd) (iv p.ht) (.slice A p.fl.length c) (.slice B p.ho.length d) := by rw [← hw0]; constructor <;> simp [go_sem]
  have k1 : Bx8 w0 (w.heap.size + 1) (.string ⟨#[]⟩) (.string ⟨#[]⟩) (iv 0) (iv 0) (iv 0) (iv 0) (.slice none 0 0) (.slice none 0 0) := by rw [← hw0]; constructor <;> simp [go_sem]
  have HF0 := hide (fun (w' : World) (g : Gr w0 w') (j : Nat) => (g.frozen w.heap.size j k0.lt).trans (k0.fz j))
  have HF1 := hide (fun (w' : World) (g : Gr w0 w') (j : Nat) => (g.frozen (w.heap.size + 1) j k1.lt).trans (k1.fz j))
  obtain ⟨_, x0, x1, x2, x3, x4, x5, x6, x7, xf⟩ := k0
  obtain ⟨_, y0, y1, y2, y3, y4, y5, y6, y7, yf⟩ := k1
  generalize hn : p.fl.length = n at *
  generalize hm : p.ho.length = m at *
  clear hP
  go_enter Try.func41, Try.ntmps41
  go_upto_region 1 with fail
  clear hw0
  go_cut [] from 3 to 10 (fun wx => ∃ (A' : Option Addr) (c' : Nat) (B' : Option Addr) (d' : Nat), Gr w wx ∧ Bx8 wx w.heap.size (.string p.nm) (.string p.mt) (iv p.ga) (iv p.gr) (iv p.wd) (iv p.ht) (.slice A' n c') (.slice B' m d') ∧ Bx8 wx (w.heap.size + 1) (.string ⟨#[]⟩) (.string ⟨#[]⟩) (iv 0) (iv 0) (iv 0) (iv 0) (.slice none 0 0) (.slice none 0 0) ∧ OwnL wx w0.heap.size 27 7 flL (.slice A' n c') p.fl ∧ OwnL wx w0.heap.size 29 6 hoL (.slice B' m d') p.ho ∧ DJ (.slice A' n c') (.slice B' m d'))
  case first =>
    go_region_law (go_simp; first | (go_at_call 68; refine (clF_at (by with_reducible assumption) _ (by repeat (first | with_reducible exact Gr.refl _ | with_reducible assumption | with_reducible refine Gr.alloc ?_ _ | with_reducible refine Gr.drewN ?_ _ | with_reducible refine Gr.drew ?_ | with_reducible refine Gr.setCell ?_ (by first | (dsimp only; omega) | (simp only [World.size_alloc]; omega) | (with_reducible refine Gr.size ?_; (repeat (first | with_reducible exact Gr.refl _ | with_reducible assumption | with_reducible refine Gr.alloc ?_ _ | with_reducible refine Gr.drewN ?_ _ | with_reducible refine Gr.drew ?_ | with_reducible refine Gr.trans ?_ (by with_reducible assumption))); done)) _ | with_reducible refine Gr.trans ?_ (by with_reducible assumption)))).mono ?_; rintro e w5 ⟨A5, c5, rfl, ho5, g5⟩; obtain ⟨X5, Y5, z5, f5⟩ := g5.use; (have q5 := g5.size); (try simp only [World.size_alloc, World.size_setCell, World.size_drew, World.heap_drewN, Nat.add_one_le_iff] at q5); (try have l9 : w.heap.size < w5.heap.size := by omega); (try have l8 : w.heap.size + 1 < w5.heap.size := by omega); (try have l0 : w0.heap.size ≤ w5.heap.size := by omega)) | (go_at_call 69; refine (clH_at (by with_reducible assumption) _ (by repeat (first | with_reducible exact Gr.refl _ | with_reducible assumption | with_reducible refine Gr.alloc ?_ _ | with_reducible refine Gr.drewN ?_ _ | with_reducible refine Gr.drew ?_ | with_reducible refine Gr.setCell ?_ (by first | (dsimp only; omega) | (simp only [World.size_alloc]; omega) | (with_reducible refine Gr.size ?_; (repeat (first | with_reducible exact Gr.refl _ | with_reducible assumption | with_reducible refine Gr.alloc ?_ _ | with_reducible refine Gr.drewN ?_ _ | with_reducible refine Gr.drew ?_ | with_reducible refine Gr.trans ?_ (by with_reducible assumption))); done)) _ | with_reducible refine Gr.trans ?_ (by with_reducible assumption)))).mono ?_; rintro e w5 ⟨A5, c5, rfl, ho5, g5⟩; obtain ⟨X5, Y5, z5, f5⟩ := g5.use; (have q5 := g5.size); (try simp only [World.size_alloc, World.size_setCell, World.size_drew, World.heap_drewN, Nat.add_one_le_iff] at q5); (try have l9 : w.heap.size < w5.heap.size := by omega); (try have l8 : w.heap.size + 1 < w5.heap.size := by omega); (try have l0 : w0.heap.size ≤ w5.heap.size := by omega)))
    all_goals
      go_wp2_with fail
      go_meet
      refine ⟨_, _, _, _, ?_, ⟨?_, ?_, ?_, ?_, ?_, ?_, ?_, ?_, ?_, ?_⟩, ⟨?_, ?_, ?_, ?_, ?_, ?_, ?_, ?_, ?_, ?_⟩, own_weakKb (by with_reducible assumption) ?_ ?_, own_weakKb (by with_reducible assumption) ?_ ?_, ?_⟩
      · exact Gr.setCell (Gr.setCell (by first | exact gw0.trans (Gr.trans (Gr.drew (Gr.refl _)) (Gr.trans (by with_reducible assumption) (by with_reducible assumption))) | exact gw0.trans (by repeat (first | with_reducible exact Gr.refl _ | with_reducible assumption | with_reducible refine Gr.alloc ?_ _ | with_reducible refine Gr.drewN ?_ _ | with_reducible refine Gr.drew ?_ | with_reducible refine Gr.setCell ?_ (by first | (dsimp only; omega) | (simp only [World.size_alloc]; omega) | (with_reducible refine Gr.size ?_; (repeat (first | with_reducible exact Gr.refl _ | with_reducible assumption | with_reducible refine Gr.alloc ?_ _ | with_reducible refine Gr.drewN ?_ _ | with_reducible refine Gr.drew ?_ | with_reducible refine Gr.trans ?_ (by with_reducible assumption))); done)) _ | with_reducible refine Gr.trans ?_ (by with_reducible assumption)))) (by dsimp only; omega) _) (by dsimp only; omega) _
      · (first | omega | (simp only [World.size_alloc, World.size_setCell, World.size_drew, World.heap_drewN]; omega))
      · first | (go_simp; done) | (simp [go_sem, *]; done)
      · first | (go_simp; done) | (simp [go_sem, *]; done)
      · first | (go_simp; done) | (simp [go_sem, *]; done)
      · first | (go_simp; done) | (simp [go_sem, *]; done)
      · first | (go_simp; done) | (simp [go_sem, *]; done)
      · first | (go_simp; done) | (simp [go_sem, *]; done)
      · first | (go_simp; done) | (simp [go_sem, *]; done)
      · first | (go_simp; done) | (simp [go_sem, *]; done)
      · intro j
        repeat rw [fz_set1]
        exact HF0.out _ (by repeat (first | with_reducible exact Gr.refl _ | with_reducible assumption | with_reducible refine Gr.alloc ?_ _ | with_reducible refine Gr.drewN ?_ _ | with_reducible refine Gr.drew ?_ | with_reducible refine Gr.setCell ?_ (by first | (dsimp only; omega) | (simp only [World.size_alloc]; omega) | (with_reducible refine Gr.size ?_; (repeat (first | with_reducible exact Gr.refl _ | with_reducible assumption | with_reducible refine Gr.alloc ?_ _ | with_reducible refine Gr.drewN ?_ _ | with_reducible refine Gr.drew ?_ | with_reducible refine Gr.trans ?_ (by with_reducible assumption))); done)) _ | with_reducible refine Gr.trans ?_ (by with_reducible assumption))) j
      · (first | omega | (simp only [World.size_alloc, World.size_setCell, World.size_drew, World.heap_drewN]; omega))
      · first | (go_simp; done) | (simp [go_sem, *]; done)
      · first | (go_simp; done) | (simp [go_sem, *]; done)
      · first | (go_simp; done) | (simp [go_sem, *]; done)
      · first | (go_simp; done) | (simp [go_sem, *]; done)
      · first | (go_simp; done) | (simp [go_sem, *]; done)
      · first | (go_simp; done) | (simp [go_sem, *]; done)
      · first | (go_simp; done) | (simp [go_sem, *]; done)
      · first | (go_simp; done) | (simp [go_sem, *]; done)
      · intro j
        repeat rw [fz_set1]
        exact HF1.out _ (by repeat (first | with_reducible exact Gr.refl _ | with_reducible assumption | with_reducible refine Gr.alloc ?_ _ | with_reducible refine Gr.drewN ?_ _ | with_reducible refine Gr.drew ?_ | with_reducible refine Gr.setCell ?_ (by first | (dsimp only; omega) | (simp only [World.size_alloc]; omega) | (with_reducible refine Gr.size ?_; (repeat (first | with_reducible exact Gr.refl _ | with_reducible assumption | with_reducible refine Gr.alloc ?_ _ | with_reducible refine Gr.drewN ?_ _ | with_reducible refine Gr.drew ?_ | with_reducible refine Gr.trans ?_ (by with_reducible assumption))); done)) _ | with_reducible refine Gr.trans ?_ (by with_reducible assumption))) j
      · (repeat (first | with_reducible exact Kb.refl _ | with_reducible refine Kb.alloc ?_ (by (first | omega | (simp only [World.size_alloc, World.size_setCell, World.size_drew, World.heap_drewN]; omega))) _ | with_reducible refine Kb.drew ?_ | with_reducible refine Kb.set ?_ (by (first | omega | (simp only [World.size_alloc, World.size_setCell, World.size_drew, World.heap_drewN]; omega))) _ | with_reducible refine Kb.gr ?_ (by with_reducible assumption) (by (first | omega | (simp only [World.size_alloc, World.size_setCell, World.size_drew, World.heap_drewN]; omega)))))
      · (first | omega | (simp only [World.size_alloc, World.size_setCell, World.size_drew, World.heap_drewN]; omega))
      · (repeat (first | with_reducible exact Kb.refl _ | with_reducible refine Kb.alloc ?_ (by (first | omega | (simp only [World.size_alloc, World.size_setCell, World.size_drew, World.heap_drewN]; omega))) _ | with_reducible refine Kb.drew ?_ | with_reducible refine Kb.set ?_ (by (first | omega | (simp only [World.size_alloc, World.size_setCell, World.size_drew, World.heap_drewN]; omega))) _ | with_reducible refine Kb.gr ?_ (by with_reducible assumption) (by (first | omega | (simp only [World.size_alloc, World.size_setCell, World.size_drew, World.heap_drewN]; omega)))))
      · (first | omega | (simp only [World.size_alloc, World.size_setCell, World.size_drew, World.heap_drewN]; omega))
      · first | exact dj_of (by with_reducible assumption) (by with_reducible assumption) (by (first | omega | (simp only [World.size_alloc, World.size_setCell, World.size_drew, World.heap_drewN]; omega))) | exact (dj_of (by with_reducible assumption) (by with_reducible assumption) (by (first | omega | (simp only [World.size_alloc, World.size_setCell, World.size_drew, World.heap_drewN]; omega)))).comm
  case rest =>
    obtain ⟨A', c', B', d', gc, ⟨b0, x0, x1, x2, x3, x4, x5, x6, x7, xf⟩, ⟨b1, y0, y1, y2, y3, y4, y5, y6, y7, yf⟩, o1, o2, dj⟩ := hcut
    subst hn hm
    go_wp2_with fail
    have hsz := gc.size
    refine bodyPost_ret (v := pav p A' c' B' d') (by simp [results, Try.results41, go_sem, *]) rfl ⟨A', c', B', d', rfl, (own_kb o1 (lo := w0.heap.size) (hi := wc.heap.size) ?_ (Nat.le_refl _) (Nat.le_refl _)).weak (by omega), (own_kb o2 (lo := w0.heap.size) (hi := wc.heap.size) ?_ (Nat.le_refl _) (Nat.le_refl _)).weak (by omega), dj, ?_⟩
    · (repeat (first | with_reducible exact Kb.refl _ | with_reducible refine Kb.alloc ?_ (by (first | omega | (simp only [World.size_alloc, World.size_setCell, World.size_drew, World.heap_drewN]; omega))) _ | with_reducible refine Kb.drew ?_ | with_reducible refine Kb.set ?_ (by (first | omega | (simp only [World.size_alloc, World.size_setCell, World.size_drew, World.heap_drewN]; omega))) _ | with_reducible refine Kb.gr ?_ (by with_reducible assumption) (by (first | omega | (simp only [World.size_alloc, World.size_setCell, World.size_drew, World.heap_drewN]; omega)))))
    · (repeat (first | with_reducible exact Kb.refl _ | with_reducible refine Kb.alloc ?_ (by (first | omega | (simp only [World.size_alloc, World.size_setCell, World.size_drew, World.heap_drewN]; omega))) _ | with_reducible refine Kb.drew ?_ | with_reducible refine Kb.set ?_ (by (first | omega | (simp only [World.size_alloc, World.size_setCell, World.size_drew, World.heap_drewN]; omega))) _ | with_reducible refine Kb.gr ?_ (by with_reducible assumption) (by (first | omega | (simp only [World.size_alloc, World.size_setCell, World.size_drew, World.heap_drewN]; omega)))))
    · exact Gr.setCell (Gr.setCell (Gr.setCell (Gr.setCell (Gr.setCell (Gr.setCell (Gr.setCell (Gr.setCell gc (by dsimp only; omega) _) (by dsimp only; omega) _) (by dsimp only; omega) _) (by dsimp only; omega) _) (by dsimp only; omega) _) (by dsimp only; omega) _) (by dsimp only; omega) _) (by dsimp only; omega) _
end Go.Proofs.Ytefjgfglommefaa
set_option linter.unusedVariables false
set_option linter.unusedSimpArgs false
namespace Go.Proofs.Ytefjgfglommefaa
set_option linter.unusedVariables false
set_option linter.unusedSimpArgs false
open Go Go.ChangeShapes Go.WideShapes Go.ChangeAt Go.RowKit Go.Deep

/-- nothing below base was changed, and what came after may have grown -/
structure Lo (base : Nat) (w wr : World) : Prop where
  kb : Kb 0 base w wr
  gr : ∀ a, Gr a w → a.heap.size ≤ base → Gr a wr
  sz : w.heap.size ≤ wr.heap.size
theorem Lo.set {base g i : Nat} {w wr : World} (h : Lo base w wr) (hg : base ≤ g) (v : Value) : Lo base w (wr.setCell ⟨g, i, none⟩ v) :=
  ⟨h.kb.set (.inr hg) v, fun a h1 h2 => Gr.setCell (h.gr a h1 h2) (by dsimp only; omega) _, by simpa using h.sz⟩
theorem Lo.g {base : Nat} {w w' wr : World} (h : Lo base w w') (g : Gr w' wr) (hb : base ≤ w.heap.size) : Lo base w wr :=
  ⟨h.kb.gr g (Nat.le_trans hb h.sz), fun a h1 h2 => (h.gr a h1 h2).trans g, Nat.le_trans h.sz g.size⟩
theorem own_other {α : Type} {c : α → List Value} {w : World} {base : Nat} {e : TypeId} {k g i : Nat} {v : Value} {xs : List α} (h : OwnL w base e k c v xs) (hv : ¬ v.ownBlock = some g) (u : Value) : OwnL (w.setCell ⟨g, i, none⟩ u) base e k c v xs :=
  But.own (But.setCell w g i u) h hv
theorem own_mix {α : Type} {c : α → List Value} {s : Nat} {f : α → α} {l : List α} (hc : ∀ x, (c x).length = s) {w : World} {base k o d : Nat} {e : TypeId} {b : Nat} {x : α} {v : Value} (h : OwnL w base e s c (.slice (some ⟨b, 0, none⟩) l.length d) (mixG f l k)) (hk : l[k]? = some x) (ho : o < s) (he : c (f x) = (c x).set o v) :
    OwnL (w.setCell ⟨b, k * s + o, none⟩ v) base e s c (.slice (some ⟨b, 0, none⟩) l.length d) (mixG f l (k + 1)) := by
  have hl := (List.getElem?_eq_some_iff.1 hk).1
  have h1 : World.ownsRow w base e s (.slice (some ⟨b, 0, none⟩) l.length d) l.length ((mixG f l k).flatMap c) := by
    unfold OwnL at h
    rwa [mixG_len (Nat.le_of_lt hl)] at h
  have := (World.ownsRow.stored h1 (k * s + o) v).1
  rw [mixG_set hc hk ho he] at this
  unfold OwnL
  rw [mixG_len (by omega)]
  exact this
theorem own_at {α : Type} {c : α → List Value} {s : Nat} {f : α → α} {l : List α} (hc : ∀ x, (c x).length = s) {w : World} {base k d : Nat} {e : TypeId} {v : Option Addr} {x : α} (h : OwnL w base e s c (.slice v l.length d) (mixG f l k)) (hk : l[k]? = some x) :
    ∃ b, v = some ⟨b, 0, none⟩ ∧ base ≤ b ∧ b < w.heap.size ∧ (∀ o u, o < s → (c x)[o]? = some u → w.cell? ⟨b, k * s + o, none⟩ = some u) ∧ ∀ j, w.frozen? ⟨b, j, none⟩ = false := by
  have hl := (List.getElem?_eq_some_iff.1 hk).1
  have h1 : World.ownsRow w base e s (.slice v l.length d) l.length ((mixG f l k).flatMap c) := by
    unfold OwnL at h
    rwa [mixG_len (Nat.le_of_lt hl)] at h
  obtain ⟨h0, ⟨_, h2⟩ | ⟨b, cap, cur, e1, hb, hh, _⟩⟩ := id h1
  · omega
  injection e1 with e1 e2 e3
  subst e1
  refine ⟨b, rfl, hb, (Array.getElem?_eq_some_iff.1 hh).1, fun o u ho hu => ?_, World.ownsRow.frozenAt h1⟩
  have hlen : ((mixG f l k).flatMap c).length = l.length * s := by rw [fm_len hc, mixG_len (Nat.le_of_lt hl)]
  have hlt : k * s + o < l.length * s := by
    have : (k + 1) * s ≤ l.length * s := Nat.mul_le_mul_right _ hl
    rw [Nat.succ_mul] at this
    omega
  rw [World.ownsRow.cellAt h1 _ hlt, mixG_cell hc hk ho, hu]
set_option maxRecDepth 100000 in
set_option maxHeartbeats 4000000 in
theorem lower_any (p : Pa) (A B : Option Addr) (c d : Nat) (r : Int) (base : Nat) (w : World) (hF : OwnL w base 27 7 flL (.slice A p.fl.length c) p.fl) (hH : OwnL w base 29 6 hoL (.slice B p.ho.length d) p.ho)
    (dj : DJ (.slice A p.fl.length c) (.slice B p.ho.length d)) (hr : 0 ≤ r) (n1 : p.fl.length ≤ 1000) (n2 : p.ho.length ≤ 1000) (b1 : ∀ f ∈ p.fl, f.pa ≤ 1000) (b2 : ∀ f ∈ p.ho, f.fa ≤ 1000) (hbase : base ≤ w.heap.size) :
    Calls Try.prog 43 #[pav p A c B d, iv r] w fun e w' => e = .returned (.tuple #[]) ∧ OwnL w' base 27 7 flL (.slice A p.fl.length c) (p.fl.map (loF r)) ∧ OwnL w' base 29 6 hoL (.slice B p.ho.length d) (p.ho.map (loH r)) ∧ Lo base w w' := by
  have HO1 := hide hF
  have HO2 := hide hH
  have HB1 := hide b1
  have HB2 := hide b2
  have DJ1 := hide dj
  have HLA := hide (own_lt hF)
  have HLB := hide (own_lt hH)
  have g0 : Gr w (w.alloc (.cells #[.string p.nm, .string p.mt, iv p.ga, iv p.gr, iv p.wd, iv p.ht, .slice A p.fl.length c, .slice B p.ho.length d] 25)) := Gr.alloc (Gr.refl _) _
  have HL0 := hide (show Lo base w (w.alloc (.cells #[.string p.nm, .string p.mt, iv p.ga, iv p.gr, iv p.wd, iv p.ht, .slice A p.fl.length c, .slice B p.ho.length d] 25)) from ⟨(Kb.refl w).gr g0 hbase, fun a h1 _ => h1.trans g0, by simp⟩)
  clear hF hH b1 b2 dj
  go_enter Try.func43, Try.ntmps43
  go_wp2_with fail
  go_loopw [9] (fun i wr => ∃ k : Nat, k ≤ p.fl.length ∧ i = iv k ∧ Hid (OwnL wr base 27 7 flL (.slice A p.fl.length c) (mixG (loF r) p.fl k)) ∧ Hid (OwnL wr base 29 6 hoL (.slice B p.ho.length d) p.ho) ∧ Hid (Lo base w wr) ∧ w.heap.size < wr.heap.size ∧ wr.cell? ⟨w.heap.size, 6, none⟩ = some (.slice A p.fl.length c) ∧ wr.cell? ⟨w.heap.size, 7, none⟩ = some (.slice B p.ho.length d)) (fun i _ => p.fl.length - (intOf i).toNat)
  case atStart => exact ⟨0, by omega, rfl, by rw [mixG_zero]; exact HO1.out.gr g0, HO2.out.gr g0, HL0, by simp, by simp [go_sem], by simp [go_sem]⟩
  case round =>
    obtain ⟨k, hk, rfl, HO, HH, HL, l0, q6, q7⟩ := hrel
    by_cases hkl : k < p.fl.length
    · obtain ⟨f, hf⟩ : ∃ f, p.fl[k]? = some f := ⟨_, List.getElem?_eq_getElem hkl⟩
      obtain ⟨b, rfl, hb, hbl, hcl, hfz⟩ := own_at (c := flL) (s := 7) (fun _ => rfl) HO.out hf
      have y1 := hcl 1 (iv f.pa) (by omega) rfl
      have yf := hfz (k * 7 + 1)
      have hbw := (HLA.out b rfl).2
      have hne : ¬ w.heap.size = b := by omega
      have hne' : ¬ b = w.heap.size := by omega
      have hpa := HB1.out f (List.mem_of_getElem? hf)
      have HSK := hide (fun (h : ¬ r < f.pa) => mixG_skip (f := loF r) hf (by unfold loF; rw [if_neg h]))
      have HMX := hide (fun (h : r < f.pa) => own_mix (c := flL) (s := 7) (f := loF r) (fun _ => rfl) (o := 1) (v := iv (f.pa - 1)) HO.out hf (by omega) (by unfold loF; rw [if_pos h]; rfl))
      have HOT := hide (own_other (g := b) (i := k * 7 + 1) HH.out (fun e => DJ1.out b rfl e) (iv (f.pa - 1)))
      have HLS := hide (HL.out.set (i := k * 7 + 1) hb (iv (f.pa - 1)))
      have hk0 : (0 : Int) ≤ (k : Int) := by omega
      have hk1 : (k : Int) < (p.fl.length : Int) := by omega
      have V6 : IntKind.i64.wrap ((k : Int) + 1) = (k : Int) + 1 := IntWalk.i64_in _ (by omega)
      clear hcl hfz hf
      by_cases hlt : r < f.pa
      · have V1 : IntKind.i64.wrap (f.pa - 1) = f.pa - 1 := IntWalk.i64_in _ (by omega)
        go_wp2
        go_roundw
        case rel => exact ⟨k + 1, by omega, by go_num, HMX.out hlt, HOT, HLS, by simpa using l0, by simp [go_sem, hne, hne', q6], by simp [go_sem, hne, hne', q7]⟩
        case measure => simp only [intOf]; omega
      · go_wp2
        go_roundw
        case rel => exact ⟨k + 1, by omega, by go_num, by rw [HSK.out hlt]; exact HO, HH, HL, l0, q6, q7⟩
        case measure => simp only [intOf]; omega
    · obtain rfl : k = p.fl.length := by omega
      rw [mixG_end] at HO
      go_wp2_with fail
      go_loopw [33] (fun i wr => ∃ k : Nat, k ≤ p.ho.length ∧ i = iv k ∧ Hid (OwnL wr base 27 7 flL (.slice A p.fl.length c) (p.fl.map (loF r))) ∧ Hid (OwnL wr base 29 6 hoL (.slice B p.ho.length d) (mixG (loH r) p.ho k)) ∧ Hid (Lo base w wr) ∧ w.heap.size < wr.heap.size ∧ wr.cell? ⟨w.heap.size, 7, none⟩ = some (.slice B p.ho.length d)) (fun i _ => p.ho.length - (intOf i).toNat)
      case atStart => exact ⟨0, by omega, rfl, HO, by rw [mixG_zero]; exact HH, HL, l0, q7⟩
      case round =>
        clear HO HH HL l0 q6 q7
        obtain ⟨k, hk, rfl, HO, HH, HL, l0, q7⟩ := hrel
        by_cases hkl : k < p.ho.length
        · obtain ⟨f, hf⟩ : ∃ f, p.ho[k]? = some f := ⟨_, List.getElem?_eq_getElem hkl⟩
          obtain ⟨b, rfl, hb, hbl, hcl, hfz⟩ := own_at (c := hoL) (s := 6) (fun _ => rfl) HH.out hf
          have y0 := hcl 0 (iv f.fa) (by omega) rfl
          rw [Nat.add_zero] at y0
          have yf := hfz (k * 6)
          have hbw := (HLB.out b rfl).2
          have hne : ¬ w.heap.size = b := by omega
          have hne' : ¬ b = w.heap.size := by omega
          have hpa := HB2.out f (List.mem_of_getElem? hf)
          have HSK := hide (fun (h : ¬ r < f.fa) => mixG_skip (f := loH r) hf (by unfold loH; rw [if_neg h]))
          have HMX := hide (fun (h : r < f.fa) => own_mix (c := hoL) (s := 6) (f := loH r) (fun _ => rfl) (o := 0) (v := iv (f.fa - 1)) HH.out hf (by omega) (by unfold loH; rw [if_pos h]; rfl))
          have HOT := hide (own_other (g := b) (i := k * 6) HO.out (fun e => DJ1.out b e rfl) (iv (f.fa - 1)))
          have HLS := hide (HL.out.set (i := k * 6) hb (iv (f.fa - 1)))
          rw [Nat.add_zero] at HMX
          have hk0 : (0 : Int) ≤ (k : Int) := by omega
          have hk1 : (k : Int) < (p.ho.length : Int) := by omega
          have V6 : IntKind.i64.wrap ((k : Int) + 1) = (k : Int) + 1 := IntWalk.i64_in _ (by omega)
          clear hcl hfz hf
          by_cases hlt : r < f.fa
          · have V1 : IntKind.i64.wrap (f.fa - 1) = f.fa - 1 := IntWalk.i64_in _ (by omega)
            go_wp2
            go_roundw
            case rel => exact ⟨k + 1, by omega, by go_num, HOT, HMX.out hlt, HLS, by simpa using l0, by simp [go_sem, hne, hne', q7]⟩
            case measure => simp only [intOf]; omega
          · go_wp2
            go_roundw
            case rel => exact ⟨k + 1, by omega, by go_num, HO, by rw [HSK.out hlt]; exact HH, HL, l0, q7⟩
            case measure => simp only [intOf]; omega
        · obtain rfl : k = p.ho.length := by omega
          rw [mixG_end] at HH
          go_wp2
          refine bodyPost_end (v := .tuple #[]) (by simp [results, Try.results43, go_sem, *]) rfl ⟨rfl, HO.out, HH.out, HL.out⟩
end Go.Proofs.Ytefjgfglommefaa
set_option linter.unusedVariables false
set_option linter.unusedSimpArgs false
namespace Go.Proofs.Ytefjgfglommefaa
set_option linter.unusedVariables false
set_option linter.unusedSimpArgs false
open Go Go.ChangeShapes Go.WideShapes Go.ChangeAt Go.RowKit Go.Deep

/-- whether each of the first k + 1 faces moves with the flange fl -/
def mvs (l : List Fl) (fl : Nat) : Nat → List Bool
  | 0 => [false]
  | k + 1 => match l[k]? with
    | some f => mvs l fl k ++ [decide (k = fl) || (mvs l fl k)[f.pa.toNat]?.getD false]
    | none => mvs l fl k
theorem mvs_succ {l : List Fl} {fl k : Nat} {f : Fl} (h : l[k]? = some f) : mvs l fl (k + 1) = mvs l fl k ++ [decide (k = fl) || (mvs l fl k)[f.pa.toNat]?.getD false] := by
  rw [mvs, h]
theorem mvs_len {l : List Fl} {fl : Nat} : ∀ {k : Nat}, k ≤ l.length → (mvs l fl k).length = k + 1
  | 0, _ => rfl
  | k + 1, h => by
    rw [mvs_succ (List.getElem?_eq_getElem (by omega)), List.length_append, mvs_len (by omega)]
    rfl
theorem mvs_at {l : List Fl} {fl j : Nat} : ∀ {k : Nat}, j ≤ k → k ≤ l.length → (mvs l fl k)[j]? = (mvs l fl j)[j]?
  | 0, hj, _ => by
    obtain rfl : j = 0 := by omega
    rfl
  | k + 1, hj, hk => by
    rcases Nat.lt_or_ge j (k + 1) with h | h
    · rw [mvs_succ (List.getElem?_eq_getElem (by omega)), List.getElem?_append_left (by rw [mvs_len (by omega)]; omega)]
      exact mvs_at (by omega) (by omega)
    · obtain rfl : j = k + 1 := by omega
      rfl
/-- whether a face moves with the flange fl -/
def mvB (l : List Fl) (fl j : Nat) : Bool := (mvs l fl l.length)[j]?.getD false
theorem mvB_zero (l : List Fl) (fl : Nat) : mvB l fl 0 = false := by
  unfold mvB
  rw [mvs_at (Nat.zero_le _) (Nat.le_refl _)]
  rfl
theorem mvB_succ {l : List Fl} {fl k : Nat} {f : Fl} (h : l[k]? = some f) {q : Nat} (hq : f.pa = q) (hk : q ≤ k) : mvB l fl (k + 1) = (decide (k = fl) || mvB l fl q) := by
  have hkl := (List.getElem?_eq_some_iff.1 h).1
  unfold mvB
  rw [mvs_at (show k + 1 ≤ l.length by omega) (Nat.le_refl _), mvs_succ h, List.getElem?_append_right (by rw [mvs_len (by omega)]; omega), mvs_len (by omega)]
  simp only [Nat.sub_self, List.getElem?_cons_zero, Option.getD_some]
  rw [hq, show ((q : Nat) : Int).toNat = q from rfl, mvs_at hk (by omega), mvs_at (show q ≤ l.length by omega) (Nat.le_refl _)]
theorem mvB_low {l : List Fl} {fl : Nat} (ok : Fit l) : ∀ {j : Nat}, j ≤ fl → j ≤ l.length → mvB l fl j = false := by
  intro j
  induction j using Nat.strongRecOn with
  | ind j ih =>
    intro h1 h2
    cases j with
    | zero => exact mvB_zero l fl
    | succ k =>
      obtain ⟨f, hf⟩ : ∃ f, l[k]? = some f := ⟨_, List.getElem?_eq_getElem (by omega)⟩
      obtain ⟨t0, t1, -, -⟩ := ok k f hf
      rw [mvB_succ (q := f.pa.toNat) hf (by omega) (by omega), ih f.pa.toNat (by omega) (by omega) (by omega)]
      simp
      omega
theorem mvB_own {l : List Fl} {fl : Nat} (ok : Fit l) (h : fl < l.length) : mvB l fl (fl + 1) = true := by
  obtain ⟨f, hf⟩ : ∃ f, l[fl]? = some f := ⟨_, List.getElem?_eq_getElem h⟩
  obtain ⟨t0, t1, -, -⟩ := ok fl f hf
  rw [mvB_succ (q := f.pa.toNat) hf (by omega) (by omega)]
  simp
theorem mvB_up {l : List Fl} {fl k : Nat} (ok : Fit l) {f : Fl} (hf : l[k]? = some f) {q : Nat} (hq : f.pa = q) (h : ¬ k = fl) : mvB l fl (k + 1) = mvB l fl q := by
  obtain ⟨t0, t1, -, -⟩ := ok k f hf
  rw [mvB_succ hf hq (by omega), decide_eq_false h, Bool.false_or]
/-- those of the first k flanges' faces that move -/
def moL (l : List Fl) (fl : Nat) : Nat → List Int
  | 0 => []
  | k + 1 => if mvB l fl (k + 1) = true then moL l fl k ++ [(k : Int) + 1] else moL l fl k
theorem moL_len (l : List Fl) (fl : Nat) : ∀ k, (moL l fl k).length ≤ k
  | 0 => by simp [moL]
  | k + 1 => by
    have := moL_len l fl k
    unfold moL
    split
    · simp
      omega
    · omega
theorem moL_low {l : List Fl} {fl : Nat} (ok : Fit l) : ∀ {k : Nat}, k ≤ fl → k ≤ l.length → moL l fl k = []
  | 0, _, _ => rfl
  | k + 1, h1, h2 => by
    unfold moL
    rw [mvB_low ok h1 h2, moL_low ok (by omega) (by omega)]
    rfl
/-- a row of bools in a block of the call's own -/
def BF (w : World) (B : Nat) (g : Nat → Bool) (n : Nat) : Prop := B < w.heap.size ∧ ∀ j, j ≤ n → w.cell? ⟨B, j, none⟩ = some (.bool (g j)) ∧ w.frozen? ⟨B, j, none⟩ = false
theorem BF.gr {w w' : World} {B n : Nat} {f : Nat → Bool} (h : BF w B f n) (g : Gr w w') : BF w' B f n :=
  ⟨Nat.lt_of_lt_of_le h.1 g.size, fun j hj => ⟨(g.cell B j h.1).trans (h.2 j hj).1, (g.frozen B j h.1).trans (h.2 j hj).2⟩⟩
theorem BF.grown {w w' : World} {B lo n : Nat} {f : Nat → Bool} {row : Option Nat} (h : BF w B f n) (hg : w.grownBy w' row) (hr : ∀ k, row = some k → lo ≤ k) (hB : B < lo) : BF w' B f n := by
  have hne : some B ≠ row := fun e => by have := hr B e.symm; omega
  refine ⟨?_, fun j hj => ⟨(hg.cell_far ⟨B, j, none⟩ h.1 hne).trans (h.2 j hj).1, (hg.frozen_far ⟨B, j, none⟩ h.1 hne).trans (h.2 j hj).2⟩⟩
  have hb := hg.block B h.1 hne
  have h1 := h.1
  refine Nat.not_le.1 fun hle => ?_
  rw [Array.getElem?_eq_none hle, Array.getElem?_eq_getElem h1] at hb
  cases hb
theorem BF.set {w : World} {B n k : Nat} {f g : Nat → Bool} (h : BF w B f n) (b : Bool) (hk : k ≤ n) (e : ∀ j, j ≤ n → g j = if j = k then b else f j) : BF (w.setCell ⟨B, k, none⟩ (.bool b)) B g n := by
  refine ⟨by simpa using h.1, fun j hj => ?_⟩
  obtain ⟨c1, f1⟩ := h.2 j hj
  obtain ⟨c2, f2⟩ := h.2 k hk
  rw [e j hj]
  by_cases hjk : j = k
  · subst hjk
    rw [if_pos rfl]
    exact ⟨by simp [go_sem, c2], by simp [go_sem, f1]⟩
  · rw [if_neg hjk]
    exact ⟨by simp [go_sem, c1, c2, hjk], by simp [go_sem, f1]⟩
end Go.Proofs.Ytefjgfglommefaa
namespace Go.Proofs.Ytefjgfglommefaa
open Go Go.ChangeShapes Go.WideShapes Go.ChangeAt Go.RowKit Go.Deep

theorem hasFlange_any (p : Pa) (A B : Option Addr) (c d : Nat) (n : Int) (w : World) :
    Calls Try.prog 38 #[pav p A c B d, iv n] w fun e w' => e = .returned (.bool (wiB n 0 (p.fl.length - 1))) ∧ Gr w w' := by
  go_enter Try.func38, Try.ntmps38
  go_wp2
  all_goals
    go_ret
    exact ⟨ret_bool (by unfold wiB; simp [*] <;> omega), (by repeat (first | with_reducible exact Gr.refl _ | with_reducible assumption | with_reducible refine Gr.alloc ?_ _ | with_reducible refine Gr.drewN ?_ _ | with_reducible refine Gr.drew ?_ | with_reducible refine Gr.setCell ?_ (by first | (dsimp only; omega) | (simp only [World.size_alloc]; omega) | (with_reducible refine Gr.size ?_; (repeat (first | with_reducible exact Gr.refl _ | with_reducible assumption | with_reducible refine Gr.alloc ?_ _ | with_reducible refine Gr.drewN ?_ _ | with_reducible refine Gr.drew ?_ | with_reducible refine Gr.trans ?_ (by with_reducible assumption))); done)) _ | with_reducible refine Gr.trans ?_ (by with_reducible assumption)))⟩
/-- the error of a part and a flange -/
noncomputable def movE (p : Pa) (n : Int) : Int := if valE p ≠ 0 then valE p else if wiB n 0 (p.fl.length - 1) then 0 else 5
noncomputable def movL (p : Pa) (n : Int) : List Int := if movE p n = 0 then moL p.fl n.toNat p.fl.length else []
theorem movE_bad {p : Pa} {m : Int} (h : ¬ valE p = 0) : movE p m = valE p := by
  unfold movE
  rw [if_pos h]
theorem movE_none {p : Pa} {m : Int} (h : valE p = 0) (k : wiB m 0 (p.fl.length - 1) = false) : movE p m = 5 := by
  unfold movE
  rw [if_neg (by simpa using h), k]
  rfl
theorem movE_ok {p : Pa} {m : Int} (h : valE p = 0) (k : wiB m 0 (p.fl.length - 1) = true) : movE p m = 0 := by
  unfold movE
  rw [if_neg (by simpa using h), k]
  rfl
theorem movL_none {p : Pa} {m : Int} (h : ¬ movE p m = 0) : movL p m = [] := by
  unfold movL
  rw [if_neg h]
theorem movL_some {p : Pa} {m : Int} (h : movE p m = 0) : movL p m = moL p.fl m.toNat p.fl.length := by
  unfold movL
  rw [if_pos h]
abbrev inL (z : Int) : List Value := [iv z]
theorem infoIn : (Try.prog.info? 3).map (fun i => (i.zero, i.size, i.bytes)) = some (some (.int .i64 0), 1, 8) := by kernel_rfl
theorem infoBo : (Try.prog.info? 4).map (fun i => (i.zero, i.size, i.bytes)) = some (some (.bool false), 1, 1) := by kernel_rfl
theorem made_bools (n : Nat) (w : World) : BF (w.alloc (.cells (madeCells #[.bool false] (n + 1)) 4)) w.heap.size (fun _ => false) n := by
  obtain ⟨h0, h1, h2⟩ := Made.new w (madeCells #[.bool false] (n + 1)) 4
  refine ⟨h0, fun j hj => ⟨?_, h2 j⟩⟩
  rw [h1 j]
  have hj' : j < n + 1 := by omega
  simp [madeCells, hj', Nat.mod_one]
theorem one_in (w : World) (z : Int) : ∀ j u, [iv z][j]? = some u → (w.alloc (.cells #[iv z] 3)).cell? ((⟨w.heap.size, 0, none⟩ : Addr).add j) = some u := by
  intro j u hu
  rw [addr_add, Nat.zero_add, (Made.new w #[iv z] 3).2.1 j]
  simpa using hu
theorem bf_step {l : List Fl} {fl k : Nat} {b : Bool} (h : mvB l fl (k + 1) = b) (j : Nat) : (decide (j ≤ k + 1) && mvB l fl j) = if j = k + 1 then b else (decide (j ≤ k) && mvB l fl j) := by
  by_cases hj : j = k + 1
  · subst hj
    rw [if_pos rfl, h]
    simp
  · rw [if_neg hj, show decide (j ≤ k + 1) = decide (j ≤ k) by
      rw [Bool.eq_iff_iff, decide_eq_true_eq, decide_eq_true_eq]
      omega]
end Go.Proofs.Ytefjgfglommefaa
namespace Go.Proofs.Ytefjgfglommefaa
open Go Go.ChangeShapes Go.WideShapes Go.ChangeAt Go.RowKit Go.Deep

end Go.Proofs.Ytefjgfglommefaa
namespace Go.Proofs.Ytefjgfglommefaa
open Go Go.ChangeShapes Go.WideShapes Go.ChangeAt Go.RowKit Go.Deep

theorem wi_nat {n : Nat} {m : Int} (h : wiB m 0 ((n : Int) - 1) = true) : ∃ k : Nat, m = k ∧ k < n := by
  rw [wiB_iff] at h
  exact ⟨m.toNat, by omega, by omega⟩
/-- width, height and error of a face -/
noncomputable def sizV (p : Pa) (n : Int) : Int × Int × Int := if valE p ≠ 0 then (0, 0, valE p) else if wiB n 0 p.fl.length then (extW p n, extH p n, 0) else (0, 0, 5)
abbrev t3V (t : Int × Int × Int) : Value := .tuple #[iv t.1, iv t.2.1, iv t.2.2]
end Go.Proofs.Ytefjgfglommefaa
namespace Go.Proofs.Ytefjgfglommefaa
open Go Go.ChangeShapes Go.WideShapes Go.ChangeAt Go.RowKit Go.Deep

/-- a slice of numbers -/
structure SlI (w : World) (A : Option Addr) (c : Nat) (l : List Int) : Prop where
  rd : RdL w 1 inL A l
  cap : l.length ≤ c
  capB : c ≤ 9223372036854775807
  len : l.length ≤ 1000
theorem SlI.gr {w w' : World} {A : Option Addr} {c : Nat} {l : List Int} (h : SlI w A c l) (g : Gr w w') : SlI w' A c l := ⟨h.rd.gr g, h.cap, h.capB, h.len⟩
theorem slI_own {w : World} {base : Nat} {A : Option Addr} {n d : Nat} {xs : List Int} (h : OwnL w base 3 1 inL (.slice A n d) xs) (hl : xs.length ≤ 1000) : SlI w A d xs := by
  obtain ⟨h0, h1, h2, h3⟩ := OwnL.rd (c := inL) (fun _ => rfl) h
  exact ⟨h1, h2, by unfold maxLen at h3; omega, hl⟩
theorem RdL.int {w : World} {A : Option Addr} {l : List Int} (h : RdL w 1 inL A l) {i : Nat} {z : Int} (hi : l[i]? = some z) : ∃ b off, A = some ⟨b, off, none⟩ ∧ w.cell? ⟨b, off + i, none⟩ = some (iv z) := by
  obtain ⟨b, off, e, h0, _⟩ := h i z hi
  rw [Nat.mul_one] at h0
  exact ⟨b, off, e, h0⟩
theorem movL_len {p : Pa} {m : Int} (h : p.fl.length ≤ 1000) : (movL p m).length ≤ 1000 := by
  unfold movL
  split
  · have := moL_len p.fl m.toNat p.fl.length
    omega
  · simp
end Go.Proofs.Ytefjgfglommefaa
set_option linter.unusedVariables false
set_option linter.unusedSimpArgs false
namespace Go.Proofs.Ytefjgfglommefaa
set_option linter.unusedVariables false
set_option linter.unusedSimpArgs false
open Go Go.ChangeShapes Go.WideShapes Go.ChangeAt Go.RowKit Go.Deep

/-- a slice type and its elements: k cells, so many bytes -/
structure ElT (P : Program) (t e : TypeId) (k bts : Nat) : Prop where
  und : P.underlying t = some (.slice e)
  inf : ∃ i z, P.info? e = some i ∧ i.zero = some z ∧ i.size = k ∧ i.bytes = bts ∧ z.cells.size = k
theorem elT_of {P : Program} {t e : TypeId} {k bts : Nat} (z : Value) (h : P.underlying t = some (.slice e)) (hi : (P.info? e).map (fun i => (i.zero, i.size, i.bytes)) = some (some z, k, bts)) (hz : z.cells.size = k) : ElT P t e k bts := by
  refine ⟨h, ?_⟩
  cases e1 : P.info? e with
  | none => rw [e1] at hi; cases hi
  | some i =>
    rw [e1] at hi
    simp only [Option.map_some, Option.some.injEq, Prod.mk.injEq] at hi
    exact ⟨i, z, rfl, hi.1, hi.2.1, hi.2.2, hz⟩
theorem wpList_app1 {P : Program} {w : World} {ops : Array Oper} {rest : List Oper} {o : Oper} {a : Act} {Q : Exit → Act → World → Prop} (hgd : o.guard = none) (s x : Operand) (t : TypeId)
    (ho : o.op = .call { callee := .builtin .append, args := #[s, x], argTypes := #[t, t] })
    {α : Type} (c : α → List Value) (base : Nat) (e : TypeId) (k bts : Nat) (T : ElT P t e k bts) (hk : 0 < k) (xs : List α) (y : α) (ys : List α) (hys : xs ++ [y] = ys) (v : Value) (hs : a.eval s = v) (hown : OwnL w base e k c v xs)
    (ad : Addr) (cc : Nat) (hx : a.eval x = .slice (some ad) 1 cc) (hl : (c y).length = k) (hnews : ∀ j u, (c y)[j]? = some u → w.cell? (ad.add j) = some u) (h1 : ∀ u ∈ c y, u.oneCell' = true)
    (hn : xs.length ≤ 1000000) (hb : bts ≤ 10000) (hbase : base ≤ w.heap.size)
    (h : ∀ g cap w', OwnL w' base e k c (.slice (some ⟨g, 0, none⟩) ys.length cap) ys → (∀ b, Gr b w → b.heap.size ≤ base → Gr b w') → w.grownBy w' v.ownBlock → base ≤ g → g < w'.heap.size → wpList P ops Q rest (a.put o.dst (.slice (some ⟨g, 0, none⟩) ys.length cap)) w') : wpList P ops Q (o :: rest) a w := by
  obtain ⟨i, z, hi, hz, hsz, hby, hzs⟩ := T.inf
  subst hys
  have hlt := fun k hk => (World.ownsRow.lt hown k hk).1
  refine wpList_append_lies w hgd s x t ho base e i z k bts T.und hi hz hsz hby hzs hk v xs.length (xs.flatMap c) hs hown ad 1 cc (c y) hx (by rw [hl, Nat.one_mul]) hnews h1 (by omega) (by unfold maxLen; omega)
    (Nat.le_trans (Nat.mul_le_mul (show xs.length + 1 ≤ 1000001 by omega) hb) (by decide)) hbase _ rfl ?_
  intro g cap w' h2 h3 h4 h5
  have hO : OwnL w' base e k c (.slice (some ⟨g, 0, none⟩) (xs ++ [y]).length cap) (xs ++ [y]) := by
    unfold OwnL
    rw [fm_snoc, List.length_append]
    exact h2
  have := h g cap w' hO (fun b hb hle => Gr.grown hb h3 (fun k hk => by have := hlt k hk; omega)) h3 (by
    rcases h4 with h4 | h4
    · exact hlt g h4
    · omega) h5
  rwa [List.length_append] at this
theorem news1 {w : World} {B : Nat} {u0 : Value} (h : w.cell? ⟨B, 0, none⟩ = some u0) : ∀ j u, [u0][j]? = some u → w.cell? ((⟨B, 0, none⟩ : Addr).add j) = some u := by
  intro j u hu
  cases j with
  | zero => rw [addr_add]; simpa using hu ▸ h
  | succ j => simp at hu
theorem newsA (w : World) (cs : Array Value) (t : TypeId) : ∀ j u, cs.toList[j]? = some u → (w.alloc (.cells cs t)).cell? ((⟨w.heap.size, 0, none⟩ : Addr).add j) = some u :=
  World.news_of_block (B := w.heap.size) (cs := cs) (t := t) (fr := (0, 0)) (by show (w.heap.push _)[w.heap.size]? = _; simp)
/-- a literal slice owns its elements -/
theorem own_lit {α : Type} {c : α → List Value} {k : Nat} (w : World) (base : Nat) (e : TypeId) (cs : Array Value) (xs : List α) (hb : base ≤ w.heap.size) (hc : ∀ x, (c x).length = k) (hcs : cs.toList = xs.flatMap c) (hm : xs.length ≤ 1000000) :
    OwnL (w.alloc (.cells cs e)) base e k c (.slice (some ⟨w.heap.size, 0, none⟩) xs.length xs.length) xs := by
  have := World.ownsRow_lit (size := k) (e := e) w cs xs.length hb (by unfold maxLen; omega) (by rw [← Array.length_toList, hcs, fm_len hc])
  rw [hcs] at this
  exact this
end Go.Proofs.Ytefjgfglommefaa
set_option linter.unusedVariables false
set_option linter.unusedSimpArgs false
namespace Go.Proofs.Ytefjgfglommefaa
set_option linter.unusedVariables false
set_option linter.unusedSimpArgs false
open Go Go.ChangeShapes Go.WideShapes Go.ChangeAt Go.RowKit Go.Deep

/-- eight cells stored -/
def st8 (w : World) (B : Nat) (a0 a1 a2 a3 a4 a5 a6 a7 : Value) : World := (((((((w.setCell ⟨B, 0, none⟩ a0).setCell ⟨B, 1, none⟩ a1).setCell ⟨B, 2, none⟩ a2).setCell ⟨B, 3, none⟩ a3).setCell ⟨B, 4, none⟩ a4).setCell ⟨B, 5, none⟩ a5).setCell ⟨B, 6, none⟩ a6).setCell ⟨B, 7, none⟩ a7
theorem Bx8.st {w : World} {B : Nat} {b0 b1 b2 b3 b4 b5 b6 b7 : Value} (h : Bx8 w B b0 b1 b2 b3 b4 b5 b6 b7) (a0 a1 a2 a3 a4 a5 a6 a7 : Value) : Bx8 (st8 w B a0 a1 a2 a3 a4 a5 a6 a7) B a0 a1 a2 a3 a4 a5 a6 a7 := by
  obtain ⟨h0, h1, h2, h3, h4, h5, h6, h7, h8, h9⟩ := h
  unfold st8
  constructor
  · simpa using h0
  all_goals simp [go_sem, h1, h2, h3, h4, h5, h6, h7, h8, h9]
theorem cell_st8 {w : World} {B C : Nat} (hne : C ≠ B) (o : Nat) (a0 a1 a2 a3 a4 a5 a6 a7 : Value) : (st8 w B a0 a1 a2 a3 a4 a5 a6 a7).cell? ⟨C, o, none⟩ = w.cell? ⟨C, o, none⟩ := by
  have hne' : ¬ B = C := fun e => hne e.symm
  unfold st8
  simp [go_sem, hne, hne']
theorem fz_st8 {w : World} {B C : Nat} (o : Nat) (a0 a1 a2 a3 a4 a5 a6 a7 : Value) : (st8 w B a0 a1 a2 a3 a4 a5 a6 a7).frozen? ⟨C, o, none⟩ = w.frozen? ⟨C, o, none⟩ := by
  unfold st8
  simp [go_sem]
theorem size_st8 (w : World) (B : Nat) (a0 a1 a2 a3 a4 a5 a6 a7 : Value) : (st8 w B a0 a1 a2 a3 a4 a5 a6 a7).heap.size = w.heap.size := by
  unfold st8
  simp only [World.size_setCell]
theorem Bx8.oth {w : World} {B C : Nat} {b0 b1 b2 b3 b4 b5 b6 b7 : Value} (h : Bx8 w C b0 b1 b2 b3 b4 b5 b6 b7) (hne : C ≠ B) (a0 a1 a2 a3 a4 a5 a6 a7 : Value) : Bx8 (st8 w B a0 a1 a2 a3 a4 a5 a6 a7) C b0 b1 b2 b3 b4 b5 b6 b7 :=
  ⟨by rw [size_st8]; exact h.lt, (cell_st8 hne 0 _ _ _ _ _ _ _ _).trans h.c0, (cell_st8 hne 1 _ _ _ _ _ _ _ _).trans h.c1, (cell_st8 hne 2 _ _ _ _ _ _ _ _).trans h.c2, (cell_st8 hne 3 _ _ _ _ _ _ _ _).trans h.c3, (cell_st8 hne 4 _ _ _ _ _ _ _ _).trans h.c4, (cell_st8 hne 5 _ _ _ _ _ _ _ _).trans h.c5, (cell_st8 hne 6 _ _ _ _ _ _ _ _).trans h.c6, (cell_st8 hne 7 _ _ _ _ _ _ _ _).trans h.c7, fun j => (fz_st8 j _ _ _ _ _ _ _ _).trans (h.fz j)⟩
theorem kb_st8 {lo hi B : Nat} {w w' : World} (h : Kb lo hi w w') (hB : B < lo ∨ hi ≤ B) (a0 a1 a2 a3 a4 a5 a6 a7 : Value) : Kb lo hi w (st8 w' B a0 a1 a2 a3 a4 a5 a6 a7) :=
  (((((((h.set hB _).set hB _).set hB _).set hB _).set hB _).set hB _).set hB _).set hB _
theorem own_st8 {α : Type} {c : α → List Value} {w : World} {base B : Nat} {e : TypeId} {k : Nat} {v : Value} {xs : List α} (h : OwnL w base e k c v xs) (hB : B < base) (a0 a1 a2 a3 a4 a5 a6 a7 : Value) : OwnL (st8 w B a0 a1 a2 a3 a4 a5 a6 a7) base e k c v xs :=
  own_kb h (kb_st8 (Kb.refl (lo := base) (hi := w.heap.size) w) (.inl hB) _ _ _ _ _ _ _ _) (Nat.le_refl _) (Nat.le_refl _)
theorem gr_st8 {a w : World} {B : Nat} (g : Gr a w) (h : a.heap.size ≤ B) (a0 a1 a2 a3 a4 a5 a6 a7 : Value) : Gr a (st8 w B a0 a1 a2 a3 a4 a5 a6 a7) := by
  unfold st8
  exact Gr.setCell (Gr.setCell (Gr.setCell (Gr.setCell (Gr.setCell (Gr.setCell (Gr.setCell (Gr.setCell g (by dsimp only; omega) _) (by dsimp only; omega) _) (by dsimp only; omega) _) (by dsimp only; omega) _) (by dsimp only; omega) _) (by dsimp only; omega) _) (by dsimp only; omega) _) (by dsimp only; omega) _
/-- one cell of a row of the call's own or below it -/
theorem own_set1 {α : Type} {c : α → List Value} {w : World} {base B i : Nat} {e : TypeId} {k : Nat} {v : Value} {xs : List α} (h : OwnL w base e k c v xs) (hB : B < base) (u : Value) : OwnL (w.setCell ⟨B, i, none⟩ u) base e k c v xs :=
  own_kb h ((Kb.refl (lo := base) (hi := w.heap.size) w).set (.inl hB) u) (Nat.le_refl _) (Nat.le_refl _)
theorem ovw_all : ∀ (vs : List Value) (o : Nat) (xs : List Value), o + vs.length ≤ xs.length → ovw xs o vs = xs.take o ++ (vs ++ xs.drop (o + vs.length))
  | [], o, xs, _ => by simp [ovw]
  | v :: vs, o, xs, h => by
    have hl : o < xs.length := by simp at h; omega
    unfold ovw
    rw [ovw_all vs (o + 1) (xs.set o v) (by simp at h ⊢; omega), show o + (v :: vs).length = o + 1 + vs.length by simp; omega, List.drop_set_of_lt (by omega), List.take_add_one, List.take_set_of_le (Nat.le_refl o), List.getElem?_set_self hl]
    simp
theorem fm_dropE {α : Type} {c : α → List Value} {k : Nat} (hc : ∀ x, (c x).length = k) (l : List α) (i : Nat) (hi : i ≤ l.length) : (l.flatMap c).drop (i * k) = (l.drop i).flatMap c := by
  have h1 : ((l.take i).flatMap c).length = i * k := by rw [fm_len hc, List.length_take, Nat.min_eq_left hi]
  have h2 : l.flatMap c = (l.take i).flatMap c ++ (l.drop i).flatMap c := by rw [← List.flatMap_append, List.take_append_drop]
  rw [h2]
  exact List.drop_left' h1
theorem ovw_set {α : Type} {c : α → List Value} {s : Nat} (hc : ∀ x, (c x).length = s) {l : List α} {k : Nat} (hk : k < l.length) (x : α) : ovw (l.flatMap c) (k * s) (c x) = (l.set k x).flatMap c := by
  have h1 : k * s + s ≤ l.length * s := by
    have := Nat.mul_le_mul_right s hk
    rwa [Nat.succ_mul] at this
  rw [ovw_all _ _ _ (by rw [hc, fm_len hc]; exact h1), hc, fm_take hc l k (by omega), show k * s + s = (k + 1) * s by rw [Nat.succ_mul], fm_dropE hc l (k + 1) hk, List.set_eq_take_append_cons_drop, if_pos hk, List.flatMap_append, List.flatMap_cons]
/-- an element of an own row stored over, all its cells -/
theorem own_put {α : Type} {c : α → List Value} {s : Nat} (hc : ∀ x, (c x).length = s) {w : World} {base k d b : Nat} {e : TypeId} {l : List α} (h : OwnL w base e s c (.slice (some ⟨b, 0, none⟩) l.length d) l) (hk : k < l.length) (x : α) :
    OwnL (w.setCells b (k * s) (c x)) base e s c (.slice (some ⟨b, 0, none⟩) l.length d) (l.set k x) := by
  have h1 := own_over (w := w) (c x) (k * s) (show World.ownsRow w base e s (.slice (some ⟨b, 0, none⟩) l.length d) l.length (l.flatMap c) from h)
  have e1 : ovw (l.flatMap c) (k * s) (c x) = (l.set k x).flatMap c := ovw_set hc hk x
  rw [e1] at h1
  unfold OwnL
  rw [List.length_set]
  exact h1
theorem own_grw {α : Type} {c : α → List Value} {w w' : World} {base : Nat} {e : TypeId} {k : Nat} {v : Value} {xs : List α} {row : Option Nat} (h : OwnL w base e k c v xs) (hg : w.grownBy w' row) (hd : ∀ b, v.ownBlock = some b → some b ≠ row) : OwnL w' base e k c v xs := by
  obtain ⟨h0, h1 | ⟨b, cap, cur, h1, hb, h2, h3⟩⟩ := id h
  · exact ⟨h0, .inl h1⟩
  · refine ⟨h0, .inr ⟨b, cap, cur, h1, hb, ?_, h3⟩⟩
    have hlt : b < w.heap.size := (Array.getElem?_eq_some_iff.1 h2).1
    rw [← h2]
    exact hg.block b hlt (hd b (by rw [h1]; rfl))
theorem Bx8.grown {w w' : World} {B : Nat} {a0 a1 a2 a3 a4 a5 a6 a7 : Value} {row : Option Nat} (h : Bx8 w B a0 a1 a2 a3 a4 a5 a6 a7) (hg : w.grownBy w' row) (hr : some B ≠ row) : Bx8 w' B a0 a1 a2 a3 a4 a5 a6 a7 :=
  ⟨Nat.lt_of_lt_of_le h.lt hg.size, (hg.cell_far ⟨B, 0, none⟩ h.lt hr).trans h.c0, (hg.cell_far ⟨B, 1, none⟩ h.lt hr).trans h.c1, (hg.cell_far ⟨B, 2, none⟩ h.lt hr).trans h.c2, (hg.cell_far ⟨B, 3, none⟩ h.lt hr).trans h.c3, (hg.cell_far ⟨B, 4, none⟩ h.lt hr).trans h.c4, (hg.cell_far ⟨B, 5, none⟩ h.lt hr).trans h.c5, (hg.cell_far ⟨B, 6, none⟩ h.lt hr).trans h.c6, (hg.cell_far ⟨B, 7, none⟩ h.lt hr).trans h.c7, fun j => (hg.frozen_far ⟨B, j, none⟩ h.lt hr).trans (h.fz j)⟩
theorem wpList_app2 {P : Program} {w : World} {ops : Array Oper} {rest : List Oper} {o : Oper} {a : Act} {Q : Exit → Act → World → Prop} (hgd : o.guard = none) (s x : Operand) (t : TypeId)
    (ho : o.op = .call { callee := .builtin .append, args := #[s, x], argTypes := #[t, t] })
    {α : Type} (c : α → List Value) (base : Nat) (e : TypeId) (k bts : Nat) (T : ElT P t e k bts) (hk : 0 < k) (xs : List α) (y : α) (ys : List α) (hys : xs ++ [y] = ys) (v : Value) (hs : a.eval s = v) (hown : OwnL w base e k c v xs)
    (ad : Addr) (cc : Nat) (hx : a.eval x = .slice (some ad) 1 cc) (hl : (c y).length = k) (hnews : ∀ j u, (c y)[j]? = some u → w.cell? (ad.add j) = some u) (h1 : ∀ u ∈ c y, u.oneCell' = true)
    (hn : xs.length ≤ 1000000) (hb : bts ≤ 10000) (hbase : base ≤ w.heap.size)
    (h : ∀ g cap w', OwnL w' base e k c (.slice (some ⟨g, 0, none⟩) ys.length cap) ys → (∀ b, Gr b w → b.heap.size ≤ base → Gr b w') → w.grownBy w' v.ownBlock → (v.ownBlock = some g ∨ w.heap.size ≤ g) → g < w'.heap.size → wpList P ops Q rest (a.put o.dst (.slice (some ⟨g, 0, none⟩) ys.length cap)) w') : wpList P ops Q (o :: rest) a w := by
  obtain ⟨i, z, hi, hz, hsz, hby, hzs⟩ := T.inf
  subst hys
  have hlt := fun k hk => (World.ownsRow.lt hown k hk).1
  refine wpList_append_lies w hgd s x t ho base e i z k bts T.und hi hz hsz hby hzs hk v xs.length (xs.flatMap c) hs hown ad 1 cc (c y) hx (by rw [hl, Nat.one_mul]) hnews h1 (by omega) (by unfold maxLen; omega)
    (Nat.le_trans (Nat.mul_le_mul (show xs.length + 1 ≤ 1000001 by omega) hb) (by decide)) hbase _ rfl ?_
  intro g cap w' h2 h3 h4 h5
  have hO : OwnL w' base e k c (.slice (some ⟨g, 0, none⟩) (xs ++ [y]).length cap) (xs ++ [y]) := by
    unfold OwnL
    rw [fm_snoc, List.length_append]
    exact h2
  have := h g cap w' hO (fun b hb hle => Gr.grown hb h3 (fun k hk => by have := hlt k hk; omega)) h3 (by
    rcases h4 with h4 | h4
    · exact .inl h4
    · exact .inr (by omega)) h5
  rwa [List.length_append] at this
theorem elFl : ElT Try.prog 22 27 7 64 := elT_of (.agg #[.string ⟨#[]⟩, .int .i64 0, .int .i64 0, .int .i64 0, .int .i64 0, .int .i64 0, .int .i64 0]) Try.underlying22 (by kernel_rfl) rfl
theorem elHo : ElT Try.prog 23 29 6 48 := elT_of (.agg #[.int .i64 0, .int .i64 0, .int .i64 0, .int .i64 0, .int .i64 0, .int .i64 0]) Try.underlying23 (by kernel_rfl) rfl
/-- a part of the call's own, returned -/
def EdR (w w' : World) (q : Pa) (e : Ending) : Prop := ∃ (A' : Option Addr) (c' : Nat) (B' : Option Addr) (d' : Nat), e = .returned (pav q A' c' B' d') ∧ OwnL w' w.heap.size 27 7 flL (.slice A' q.fl.length c') q.fl ∧ OwnL w' w.heap.size 29 6 hoL (.slice B' q.ho.length d') q.ho ∧ DJ (.slice A' q.fl.length c') (.slice B' q.ho.length d') ∧ Gr w w'
/-- the end: the variable is loaded, the result stored and read -/
theorem edR_end {w W : World} {q : Pa} {base B : Nat} {A' : Option Addr} {c' : Nat} {B' : Option Addr} {d' : Nat} (a0 a1 a2 a3 a4 a5 a6 a7 : Value) (hb : w.heap.size ≤ base) (hB : w.heap.size ≤ B ∧ B < base) (o1 : OwnL W base 27 7 flL (.slice A' q.fl.length c') q.fl) (o2 : OwnL W base 29 6 hoL (.slice B' q.ho.length d') q.ho) (dj : DJ (.slice A' q.fl.length c') (.slice B' q.ho.length d')) (g : Gr w W) : EdR w (st8 W B a0 a1 a2 a3 a4 a5 a6 a7) q (.returned (pav q A' c' B' d')) :=
  ⟨A', c', B', d', rfl, (own_st8 o1 hB.2 _ _ _ _ _ _ _ _).weak hb, (own_st8 o2 hB.2 _ _ _ _ _ _ _ _).weak hb, dj, gr_st8 g hB.1 _ _ _ _ _ _ _ _⟩
theorem Bx8.set1 {w : World} {B C i : Nat} {a0 a1 a2 a3 a4 a5 a6 a7 : Value} (h : Bx8 w B a0 a1 a2 a3 a4 a5 a6 a7) (hne : B ≠ C) (v : Value) : Bx8 (w.setCell ⟨C, i, none⟩ v) B a0 a1 a2 a3 a4 a5 a6 a7 := by
  have hne' : ¬ C = B := fun e => hne e.symm
  obtain ⟨h0, h1, h2, h3, h4, h5, h6, h7, h8, h9⟩ := h
  constructor
  · simpa using h0
  all_goals simp [go_sem, h1, h2, h3, h4, h5, h6, h7, h8, h9, hne, hne']
theorem Bx8.set2 {w : World} {B C i j : Nat} {a0 a1 a2 a3 a4 a5 a6 a7 : Value} (h : Bx8 w B a0 a1 a2 a3 a4 a5 a6 a7) (hne : B ≠ C) (v u : Value) : Bx8 ((w.setCell ⟨C, i, none⟩ v).setCell ⟨C, j, none⟩ u) B a0 a1 a2 a3 a4 a5 a6 a7 := (h.set1 hne v).set1 hne u
theorem Bx8.drew {w : World} {B : Nat} {a0 a1 a2 a3 a4 a5 a6 a7 : Value} (h : Bx8 w B a0 a1 a2 a3 a4 a5 a6 a7) : Bx8 w.drew B a0 a1 a2 a3 a4 a5 a6 a7 := ⟨h.lt, h.c0, h.c1, h.c2, h.c3, h.c4, h.c5, h.c6, h.c7, h.fz⟩
theorem Bx8.blk {w w' : World} {B : Nat} {a0 a1 a2 a3 a4 a5 a6 a7 : Value} (h : Bx8 w B a0 a1 a2 a3 a4 a5 a6 a7) (hb : w'.heap[B]? = w.heap[B]?) : Bx8 w' B a0 a1 a2 a3 a4 a5 a6 a7 := by
  have hc : ∀ o, w'.cell? ⟨B, o, none⟩ = w.cell? ⟨B, o, none⟩ := fun o => World.cell?_of_block (a := ⟨B, o, none⟩) hb
  have hf : ∀ o, w'.frozen? ⟨B, o, none⟩ = w.frozen? ⟨B, o, none⟩ := fun o => World.frozen?_of_block (a := ⟨B, o, none⟩) hb
  exact ⟨cell_lt (by rw [(hc 0).trans h.c0]; rfl), (hc 0).trans h.c0, (hc 1).trans h.c1, (hc 2).trans h.c2, (hc 3).trans h.c3, (hc 4).trans h.c4, (hc 5).trans h.c5, (hc 6).trans h.c6, (hc 7).trans h.c7, fun o => (hf o).trans (h.fz o)⟩
theorem own_at0 {α : Type} {c : α → List Value} {s : Nat} {l : List α} (hc : ∀ x, (c x).length = s) {w : World} {base k d : Nat} {e : TypeId} {v : Option Addr} {x : α} (h : OwnL w base e s c (.slice v l.length d) l) (hk : l[k]? = some x) :
    ∃ b, v = some ⟨b, 0, none⟩ ∧ base ≤ b ∧ b < w.heap.size ∧ (∀ o u, o < s → (c x)[o]? = some u → w.cell? ⟨b, k * s + o, none⟩ = some u) ∧ ∀ j, w.frozen? ⟨b, j, none⟩ = false := by
  have e : mixG (fun y => y) l k = l := by simp [mixG]
  exact own_at (f := fun y => y) hc (by rw [e]; exact h) hk
theorem res8 {a : Act} {w : World} {B : Nat} {a0 a1 a2 a3 a4 a5 a6 a7 : Value} (ht : a.tmps[4]?.getD undef = .pointer (some ⟨B, 0, none⟩)) (h : Bx8 w B a0 a1 a2 a3 a4 a5 a6 a7) : (results Try.f16 a.tmps).run Try.prog w = .ok (.agg #[a0, a1, a2, a3, a4, a5, a6, a7]) w := by
  obtain ⟨h0, h1, h2, h3, h4, h5, h6, h7, h8, h9⟩ := h
  simp [results, Try.results16, go_sem, ht, h1, h2, h3, h4, h5, h6, h7, h8]
/-- the end of edited: the result's variable is stored and read -/
theorem edR_fin {w W : World} {q : Pa} {a : Act} {base B : Nat} {A' : Option Addr} {c' : Nat} {B' : Option Addr} {d' n m : Nat} (hn : q.fl.length = n) (hm : q.ho.length = m) {b0 b1 b2 b3 b4 b5 b6 b7 : Value} (ht : a.tmps[4]?.getD undef = .pointer (some ⟨B, 0, none⟩)) (hd : a.defers = []) (hK : Bx8 W B b0 b1 b2 b3 b4 b5 b6 b7) (hb : w.heap.size ≤ base) (hB : w.heap.size ≤ B ∧ B < base) (o1 : OwnL W base 27 7 flL (.slice A' n c') q.fl) (o2 : OwnL W base 29 6 hoL (.slice B' m d') q.ho) (dj : DJ (.slice A' n c') (.slice B' m d')) (g : Gr w W) :
    bodyPost Try.prog Try.f16 (fun e w' => EdR w w' q e) .ret a (st8 W B (.string q.nm) (.string q.mt) (iv q.ga) (iv q.gr) (iv q.wd) (iv q.ht) (.slice A' n c') (.slice B' m d')) :=
  by subst hn hm; exact bodyPost_ret (res8 ht (hK.st _ _ _ _ _ _ _ _)) hd (edR_end _ _ _ _ _ _ _ _ hb hB o1 o2 dj g)
theorem edR_find {w W : World} {q : Pa} {a : Act} {base B : Nat} {A' : Option Addr} {c' : Nat} {B' : Option Addr} {d' n m : Nat} (hn : q.fl.length = n) (hm : q.ho.length = m) {b0 b1 b2 b3 b4 b5 b6 b7 : Value} (ht : a.tmps[4]?.getD undef = .pointer (some ⟨B, 0, none⟩)) (hd : a.defers = []) (hK : Bx8 W B b0 b1 b2 b3 b4 b5 b6 b7) (hb : w.heap.size ≤ base) (hB : w.heap.size ≤ B ∧ B < base) (o1 : OwnL W base 27 7 flL (.slice A' n c') q.fl) (o2 : OwnL W base 29 6 hoL (.slice B' m d') q.ho) (dj : DJ (.slice A' n c') (.slice B' m d')) (g : Gr w W) :
    bodyPost Try.prog Try.f16 (fun e w' => EdR w w' q e) .ret a (st8 W B (.string q.nm) (.string q.mt) (iv q.ga) (iv q.gr) (iv q.wd) (iv q.ht) (.slice A' n c') (.slice B' m d')).drew := by
  subst hn hm
  obtain ⟨A2, c2, B2, d2, he, p1, p2, p3, p4⟩ := edR_end (q := q) (.string q.nm) (.string q.mt) (iv q.ga) (iv q.gr) (iv q.wd) (iv q.ht) (.slice A' q.fl.length c') (.slice B' q.ho.length d') hb hB o1 o2 dj g
  exact bodyPost_ret (res8 ht (hK.st _ _ _ _ _ _ _ _).drew) hd ⟨A2, c2, B2, d2, he, own_kb p1 (Kb.refl (lo := w.heap.size) (hi := (st8 W B (.string q.nm) (.string q.mt) (iv q.ga) (iv q.gr) (iv q.wd) (iv q.ht) (.slice A' q.fl.length c') (.slice B' q.ho.length d')).heap.size) _).drew (Nat.le_refl _) (Nat.le_refl _), own_kb p2 (Kb.refl (lo := w.heap.size) (hi := (st8 W B (.string q.nm) (.string q.mt) (iv q.ga) (iv q.gr) (iv q.wd) (iv q.ht) (.slice A' q.fl.length c') (.slice B' q.ho.length d')).heap.size) _).drew (Nat.le_refl _) (Nat.le_refl _), p3, p4.drew⟩
set_option maxHeartbeats 8000000 in
set_option maxRecDepth 100000 in
theorem edited_any (p : Pa) (A B : Option Addr) (c d : Nat) (x : Ed) (w : World) (hP : PaW w p A c B d) (hv : valE p = 0) (hc : ceE p x = 0) :
    Calls Try.prog 16 #[pav p A c B d, edv x] w fun e w' => EdR w w' (edP p x) e := by
  have HC := hide (fun (w' : World) (g : Gr w w') => copyPart_any p A B c d w' (hP.gr g))
  have hG := good_of hv
  have n1 := hG.nfl
  have n2 := hG.nho
  have HPA := hide (fun (i : Nat) (f : Fl) (hf : p.fl[i]? = some f) => pa_le hv hf)
  have HFA := hide (fa_le hv)
  have hce := ce_zero hc
  clear hP hv hc hG
  obtain ⟨k, xi, fl, ho, ww, hh⟩ := x
  dsimp only at hce
  obtain ⟨w0, hw0⟩ : ∃ w0, ((w.alloc (.cells #[.string p.nm, .string p.mt, iv p.ga, iv p.gr, iv p.wd, iv p.ht, .slice A p.fl.length c, .slice B p.ho.length d] 25)).alloc (.cells #[iv k, iv xi, .string fl.nm, iv fl.pa, iv fl.sd, iv fl.o, iv fl.wd, iv fl.ln, iv fl.an, iv ho.fa, iv ho.kd, iv ho.x, iv ho.y, iv ho.w, iv ho.h, iv ww, iv hh] 31)).alloc (.cells #[.string ⟨#[]⟩, .string ⟨#[]⟩, iv 0, iv 0, iv 0, iv 0, .slice none 0 0, .slice none 0 0] 25) = w0 := ⟨_, rfl⟩
  have gw0 : Gr w w0 := by rw [← hw0]; exact Gr.alloc (Gr.alloc (Gr.alloc (Gr.refl _) _) _) _
  have s0 : w0.heap.size = w.heap.size + 3 := by rw [← hw0]; simp
  have kp : Bx8 w0 w.heap.size (.string p.nm) (.string p.mt) (iv p.ga) (iv p.gr) (iv p.wd) (iv p.ht) (.slice A p.fl.length c) (.slice B p.ho.length d) := by rw [← hw0]; constructor <;> simp [go_sem]
  have kr : Bx8 w0 (w.heap.size + 1 + 1) (.string ⟨#[]⟩) (.string ⟨#[]⟩) (iv 0) (iv 0) (iv 0) (iv 0) (.slice none 0 0) (.slice none 0 0) := by rw [← hw0]; constructor <;> simp [go_sem]
  have e0 : w0.cell? ⟨w.heap.size + 1, 0, none⟩ = some (iv k) := by rw [← hw0]; simp [go_sem]
  have e1 : w0.cell? ⟨w.heap.size + 1, 1, none⟩ = some (iv xi) := by rw [← hw0]; simp [go_sem]
  have e2 : w0.cell? ⟨w.heap.size + 1, 2, none⟩ = some (.string fl.nm) := by rw [← hw0]; simp [go_sem]
  have e3 : w0.cell? ⟨w.heap.size + 1, 3, none⟩ = some (iv fl.pa) := by rw [← hw0]; simp [go_sem]
  have e4 : w0.cell? ⟨w.heap.size + 1, 4, none⟩ = some (iv fl.sd) := by rw [← hw0]; simp [go_sem]
  have e5 : w0.cell? ⟨w.heap.size + 1, 5, none⟩ = some (iv fl.o) := by rw [← hw0]; simp [go_sem]
  have e6 : w0.cell? ⟨w.heap.size + 1, 6, none⟩ = some (iv fl.wd) := by rw [← hw0]; simp [go_sem]
  have e7 : w0.cell? ⟨w.heap.size + 1, 7, none⟩ = some (iv fl.ln) := by rw [← hw0]; simp [go_sem]
  have e8 : w0.cell? ⟨w.heap.size + 1, 8, none⟩ = some (iv fl.an) := by rw [← hw0]; simp [go_sem]
  have e9 : w0.cell? ⟨w.heap.size + 1, 9, none⟩ = some (iv ho.fa) := by rw [← hw0]; simp [go_sem]
  have e10 : w0.cell? ⟨w.heap.size + 1, 10, none⟩ = some (iv ho.kd) := by rw [← hw0]; simp [go_sem]
  have e11 : w0.cell? ⟨w.heap.size + 1, 11, none⟩ = some (iv ho.x) := by rw [← hw0]; simp [go_sem]
  have e12 : w0.cell? ⟨w.heap.size + 1, 12, none⟩ = some (iv ho.y) := by rw [← hw0]; simp [go_sem]
  have e13 : w0.cell? ⟨w.heap.size + 1, 13, none⟩ = some (iv ho.w) := by rw [← hw0]; simp [go_sem]
  have e14 : w0.cell? ⟨w.heap.size + 1, 14, none⟩ = some (iv ho.h) := by rw [← hw0]; simp [go_sem]
  have e15 : w0.cell? ⟨w.heap.size + 1, 15, none⟩ = some (iv ww) := by rw [← hw0]; simp [go_sem]
  have e16 : w0.cell? ⟨w.heap.size + 1, 16, none⟩ = some (iv hh) := by rw [← hw0]; simp [go_sem]
  obtain ⟨_, x0, x1, x2, x3, x4, x5, x6, x7, xf⟩ := id kp
  have KP := hide kp
  have KR := hide kr
  clear kp kr
  go_enter Try.func16, Try.ntmps16
  go_upto_region 1 with fail
  clear hw0
  go_wp2_with fail
  refine (HC.out _ gw0).mono ?_
  rintro e w1 ⟨A1, c1, B1, d1, rfl, o1, o2, dj, g1⟩
  have s1 := g1.size
  have l0 : w.heap.size < w1.heap.size := by omega
  have l1 : w.heap.size + 1 < w1.heap.size := by omega
  clear x0 x1 x2 x3 x4 x5 x6 x7 xf HC
  obtain ⟨_, x0, x1, x2, x3, x4, x5, x6, x7, xf⟩ := KP.out.gr g1
  obtain ⟨W, hW⟩ : ∃ W, (((((((w1.setCell ⟨w.heap.size, 0, none⟩ (.string p.nm)).setCell ⟨w.heap.size, 1, none⟩ (.string p.mt)).setCell ⟨w.heap.size, 2, none⟩ (iv p.ga)).setCell ⟨w.heap.size, 3, none⟩ (iv p.gr)).setCell ⟨w.heap.size, 4, none⟩ (iv p.wd)).setCell ⟨w.heap.size, 5, none⟩ (iv p.ht)).setCell ⟨w.heap.size, 6, none⟩ (.slice A1 p.fl.length c1)).setCell ⟨w.heap.size, 7, none⟩ (.slice B1 p.ho.length d1) = W := ⟨_, rfl⟩
  go_upto_region 2 with fail
  have kpW : Bx8 W w.heap.size (.string p.nm) (.string p.mt) (iv p.ga) (iv p.gr) (iv p.wd) (iv p.ht) (.slice A1 p.fl.length c1) (.slice B1 p.ho.length d1) := by rw [← hW]; exact Bx8.st (KP.out.gr g1) _ _ _ _ _ _ _ _
  have krW : Bx8 W (w.heap.size + 1 + 1) (.string ⟨#[]⟩) (.string ⟨#[]⟩) (iv 0) (iv 0) (iv 0) (iv 0) (.slice none 0 0) (.slice none 0 0) := by rw [← hW]; exact Bx8.oth (KR.out.gr g1) (by omega) _ _ _ _ _ _ _ _
  have HEW := hide (show ∀ o v, w0.cell? ⟨w.heap.size + 1, o, none⟩ = some v → W.cell? ⟨w.heap.size + 1, o, none⟩ = some v from fun o v h => by rw [← hW]; exact (cell_st8 (by omega) o _ _ _ _ _ _ _ _).trans ((g1.cell _ _ (by omega)).trans h))
  have o1W : OwnL W w0.heap.size 27 7 flL (.slice A1 p.fl.length c1) p.fl := by rw [← hW]; exact own_st8 o1 (by omega) _ _ _ _ _ _ _ _
  have o2W : OwnL W w0.heap.size 29 6 hoL (.slice B1 p.ho.length d1) p.ho := by rw [← hW]; exact own_st8 o2 (by omega) _ _ _ _ _ _ _ _
  have gW : Gr w W := by rw [← hW]; exact gr_st8 (gw0.trans g1) (by omega) _ _ _ _ _ _ _ _
  have sW : w0.heap.size ≤ W.heap.size := by
    have : W.heap.size = w1.heap.size := by rw [← hW]; exact size_st8 _ _ _ _ _ _ _ _ _ _
    omega
  have E0 := HEW.out _ _ e0
  have E1 := HEW.out _ _ e1
  have O1 := hide o1W
  have O2 := hide o2W
  have DJ1 := hide dj
  have KPW := hide kpW
  have KRW := hide krW
  have E2 := hide (And.intro (HEW.out _ _ e2) (And.intro (HEW.out _ _ e3) (And.intro (HEW.out _ _ e4) (And.intro (HEW.out _ _ e5) (And.intro (HEW.out _ _ e6) (And.intro (HEW.out _ _ e7) (HEW.out _ _ e8)))))))
  have E9 := hide (And.intro (HEW.out _ _ e9) (And.intro (HEW.out _ _ e10) (And.intro (HEW.out _ _ e11) (And.intro (HEW.out _ _ e12) (And.intro (HEW.out _ _ e13) (HEW.out _ _ e14))))))
  have E15 := hide (And.intro (HEW.out _ _ e15) (HEW.out _ _ e16))
  clear hW x0 x1 x2 x3 x4 x5 x6 x7 xf e0 e1 e2 e3 e4 e5 e6 e7 e8 e9 e10 e11 e12 e13 e14 e15 e16 HEW o1W o2W o1 o2 dj KP KR l0 l1 s1 g1
  obtain ⟨b0, x0, x1, x2, x3, x4, x5, x6, x7, xf⟩ := kpW
  obtain ⟨b2, y0, y1, y2, y3, y4, y5, y6, y7, yf⟩ := krW
  have b1 : w.heap.size + 1 < W.heap.size := by omega
  rcases hce with rfl | rfl | rfl | ⟨rfl, i, hxi, hi⟩ | ⟨rfl, ⟨i, hxi, hi⟩, hu⟩ | ⟨rfl, i, hxi, hi⟩
  · -- the base is set
    have HE := hide (show edP p ⟨1, xi, fl, ho, ww, hh⟩ = ⟨p.nm, p.mt, p.ga, p.gr, ww, hh, p.fl, p.ho⟩ by unfold edP; simp)
    obtain ⟨E15a, E16a⟩ := E15.out
    go_upto_region 4 with fail
    go_region
    all_goals
      go_wp2_with fail
      simp only [HE.out]
      exact edR_find (base := w0.heap.size) (q := ⟨p.nm, p.mt, p.ga, p.gr, ww, hh, p.fl, p.ho⟩) rfl rfl rfl rfl (KRW.out.set2 (by omega) _ _) (by omega) ⟨by omega, by omega⟩ (own_set1 (own_set1 O1.out (by omega) _) (by omega) _) (own_set1 (own_set1 O2.out (by omega) _) (by omega) _) DJ1.out (Gr.setCell (Gr.setCell gW (by dsimp only; omega) _) (by dsimp only; omega) _)
  · -- a flange is added
    have HE := hide (show edP p ⟨3, xi, fl, ho, ww, hh⟩ = ⟨p.nm, p.mt, p.ga, p.gr, p.wd, p.ht, p.fl ++ [fl], p.ho⟩ by unfold edP; simp)
    obtain ⟨E2a, E3a, E4a, E5a, E6a, E7a, E8a⟩ := E2.out
    obtain ⟨M2, hM2⟩ : ∃ M, p.fl ++ [fl] = M := ⟨_, rfl⟩
    rw [hM2] at HE
    have HM := hide hM2
    clear hM2
    have gal : Gr W (W.alloc (.cells #[.string fl.nm, iv fl.pa, iv fl.sd, iv fl.o, iv fl.wd, iv fl.ln, iv fl.an] 27)) := Gr.alloc (Gr.refl _) _
    go_wp2_with (refine wpList_app2 rfl _ _ _ rfl flL w0.heap.size 27 7 64 elFl (by decide) p.fl fl M2 HM.out (.slice A1 p.fl.length c1) rfl (OwnL.gr O1.out gal) ⟨W.heap.size, 0, none⟩ 1 rfl rfl (rd1_fl W fl) (one_fl fl) (by omega) (by decide) (by simp only [World.size_alloc]; omega) ?_; intro gg cap1 w8 hO8 hG8 hgr8 hown8 hlt8; have KP8 := (KPW.out.gr gal).grown hgr8 (fun e => by have := (own_lt O1.out _ e.symm).1; omega); have KR8 := (KRW.out.gr gal).grown hgr8 (fun e => by have := (own_lt O1.out _ e.symm).1; omega); have HK8 := hide KR8; obtain ⟨k0, z0, z1, z2, z3, z4, z5, z6, z7, zf⟩ := KP8; obtain ⟨k1, t0, t1, t2, t3, t4, t5, t6, t7, tf⟩ := KR8)
    simp only [HE.out]
    have g8 : Gr w w8 := hG8 _ (gW.trans gal) (by omega)
    have d8 : DJ (.slice (some ⟨gg, 0, none⟩) M2.length cap1) (.slice B1 p.ho.length d1) := fun b h1 h2 => by
      obtain rfl : gg = b := by simpa [Value.ownBlock] using h1
      rcases hown8 with h | h
      · exact DJ1.out _ h h2
      · have := (own_lt O2.out _ h2).2
        simp only [World.size_alloc] at h
        omega
    have o8 := own_grw (O2.out.gr gal) hgr8 (fun b hb e => DJ1.out b e.symm hb)
    first
      | exact edR_fin (base := w0.heap.size) (q := ⟨p.nm, p.mt, p.ga, p.gr, p.wd, p.ht, M2, p.ho⟩) rfl rfl rfl rfl (HK8.out.set1 (by omega) _) (by omega) ⟨by omega, by omega⟩ (own_set1 hO8 (by omega) _) (own_set1 o8 (by omega) _) d8 (Gr.setCell g8 (by dsimp only; omega) _)
      | exact edR_find (base := w0.heap.size) (q := ⟨p.nm, p.mt, p.ga, p.gr, p.wd, p.ht, M2, p.ho⟩) rfl rfl rfl rfl (HK8.out.set1 (by omega) _) (by omega) ⟨by omega, by omega⟩ (own_set1 hO8 (by omega) _) (own_set1 o8 (by omega) _) d8 (Gr.setCell g8 (by dsimp only; omega) _)
  · -- a hole is added
    have HE := hide (show edP p ⟨5, xi, fl, ho, ww, hh⟩ = ⟨p.nm, p.mt, p.ga, p.gr, p.wd, p.ht, p.fl, p.ho ++ [ho]⟩ by unfold edP; simp)
    obtain ⟨E2a, E3a, E4a, E5a, E6a, E7a⟩ := E9.out
    obtain ⟨M2, hM2⟩ : ∃ M, p.ho ++ [ho] = M := ⟨_, rfl⟩
    rw [hM2] at HE
    have HM := hide hM2
    clear hM2
    have gal : Gr W (W.alloc (.cells #[iv ho.fa, iv ho.kd, iv ho.x, iv ho.y, iv ho.w, iv ho.h] 29)) := Gr.alloc (Gr.refl _) _
    go_wp2_with (refine wpList_app2 rfl _ _ _ rfl hoL w0.heap.size 29 6 48 elHo (by decide) p.ho ho M2 HM.out (.slice B1 p.ho.length d1) rfl (OwnL.gr O2.out gal) ⟨W.heap.size, 0, none⟩ 1 rfl rfl (rd1_ho W ho) (one_ho ho) (by omega) (by decide) (by simp only [World.size_alloc]; omega) ?_; intro gg cap1 w8 hO8 hG8 hgr8 hown8 hlt8; have KP8 := (KPW.out.gr gal).grown hgr8 (fun e => by have := (own_lt O2.out _ e.symm).1; omega); have KR8 := (KRW.out.gr gal).grown hgr8 (fun e => by have := (own_lt O2.out _ e.symm).1; omega); have HK8 := hide KR8; obtain ⟨k0, z0, z1, z2, z3, z4, z5, z6, z7, zf⟩ := KP8; obtain ⟨k1, t0, t1, t2, t3, t4, t5, t6, t7, tf⟩ := KR8)
    simp only [HE.out]
    have g8 : Gr w w8 := hG8 _ (gW.trans gal) (by omega)
    have d8 : DJ (.slice A1 p.fl.length c1) (.slice (some ⟨gg, 0, none⟩) M2.length cap1) := fun b h1 h2 => by
      obtain rfl : gg = b := by simpa [Value.ownBlock] using h2
      rcases hown8 with h | h
      · exact DJ1.out _ h1 h
      · have := (own_lt O1.out _ h1).2
        simp only [World.size_alloc] at h
        omega
    have o8 := own_grw (O1.out.gr gal) hgr8 (fun b hb e => DJ1.out b hb e.symm)
    first
      | exact edR_fin (base := w0.heap.size) (q := ⟨p.nm, p.mt, p.ga, p.gr, p.wd, p.ht, p.fl, M2⟩) rfl rfl rfl rfl (HK8.out.set1 (by omega) _) (by omega) ⟨by omega, by omega⟩ (own_set1 o8 (by omega) _) (own_set1 hO8 (by omega) _) d8 (Gr.setCell g8 (by dsimp only; omega) _)
      | exact edR_find (base := w0.heap.size) (q := ⟨p.nm, p.mt, p.ga, p.gr, p.wd, p.ht, p.fl, M2⟩) rfl rfl rfl rfl (HK8.out.set1 (by omega) _) (by omega) ⟨by omega, by omega⟩ (own_set1 o8 (by omega) _) (own_set1 hO8 (by omega) _) d8 (Gr.setCell g8 (by dsimp only; omega) _)
  · -- a flange is set
    subst hxi
    have HE := hide (show edP p ⟨2, (i : Int), fl, ho, ww, hh⟩ = ⟨p.nm, p.mt, p.ga, p.gr, p.wd, p.ht, p.fl.set i fl, p.ho⟩ by unfold edP; simp)
    obtain ⟨E2a, E3a, E4a, E5a, E6a, E7a, E8a⟩ := E2.out
    obtain ⟨f, hf⟩ : ∃ f, p.fl[i]? = some f := ⟨_, List.getElem?_eq_getElem hi⟩
    obtain ⟨b, hA, hb, hbl, hcl, hfz⟩ := own_at0 (c := flL) (s := 7) (fun _ => rfl) O1.out hf
    subst hA
    have c0 := hcl 0 (.string f.nm) (by omega) rfl
    have c1' := hcl 1 (iv f.pa) (by omega) rfl
    have c2 := hcl 2 (iv f.sd) (by omega) rfl
    have c3 := hcl 3 (iv f.o) (by omega) rfl
    have c4 := hcl 4 (iv f.wd) (by omega) rfl
    have c5 := hcl 5 (iv f.ln) (by omega) rfl
    have c6 := hcl 6 (iv f.an) (by omega) rfl
    rw [Nat.add_zero] at c0
    have hne : ¬ w.heap.size = b := by omega
    have hne2 : ¬ w.heap.size + 1 + 1 = b := by omega
    have hi0 : (0 : Int) ≤ (i : Int) := by omega
    have hi1 : (i : Int) < (p.fl.length : Int) := by omega
    obtain ⟨W2, hW2⟩ : ∃ W2, W.setCells b (i * 7) (flL fl) = W2 := ⟨_, rfl⟩
    have OP := hide (own_put (c := flL) (s := 7) (fun _ => rfl) O1.out hi fl)
    have OT := hide (But.own (But.over b (flL fl) (i * 7) W) O2.out (fun e => DJ1.out b rfl e))
    have OG := hide (gr_over (a := w) (show w.heap.size ≤ b by omega) (flL fl) (i * 7) gW)
    have OK := hide (KRW.out.blk ((But.over b (flL fl) (i * 7) W).block (w.heap.size + 1 + 1) hne2))
    have OK2 := hide (KPW.out.blk ((But.over b (flL fl) (i * 7) W).block w.heap.size hne))
    rw [hW2] at OP OT OG OK OK2
    have hW3 : ((((((W.setCell ⟨b, i * 7, none⟩ (.string fl.nm)).setCell ⟨b, i * 7 + 1, none⟩ (iv fl.pa)).setCell ⟨b, i * 7 + 2, none⟩ (iv fl.sd)).setCell ⟨b, i * 7 + 3, none⟩ (iv fl.o)).setCell ⟨b, i * 7 + 4, none⟩ (iv fl.wd)).setCell ⟨b, i * 7 + 5, none⟩ (iv fl.ln)).setCell ⟨b, i * 7 + 6, none⟩ (iv fl.an) = W2 := hW2
    clear hcl hf hW2
    go_upto_region 16 with fail
    clear hW3 x0 x1 x2 x3 x4 x5 x6 x7 xf y0 y1 y2 y3 y4 y5 y6 y7 yf c0 c1' c2 c3 c4 c5 c6 hfz
    obtain ⟨k0, x0, x1, x2, x3, x4, x5, x6, x7, xf⟩ := OK2.out
    obtain ⟨k1, t0, t1, t2, t3, t4, t5, t6, t7, tf⟩ := OK.out
    go_wp2_with fail
    simp only [HE.out]
    have hl : (p.fl.set i fl).length = p.fl.length := List.length_set
    first
      | exact edR_fin (W := W2) (base := w0.heap.size) (q := ⟨p.nm, p.mt, p.ga, p.gr, p.wd, p.ht, p.fl.set i fl, p.ho⟩) hl rfl rfl rfl OK.out (by omega) ⟨by omega, by omega⟩ OP.out OT.out DJ1.out OG.out
      | exact edR_find (W := W2) (base := w0.heap.size) (q := ⟨p.nm, p.mt, p.ga, p.gr, p.wd, p.ht, p.fl.set i fl, p.ho⟩) hl rfl rfl rfl OK.out (by omega) ⟨by omega, by omega⟩ OP.out OT.out DJ1.out OG.out
  · -- a flange is removed
    subst hxi
    have HE := hide (show edP p ⟨4, (i : Int), fl, ho, ww, hh⟩ = ⟨p.nm, p.mt, p.ga, p.gr, p.wd, p.ht, (p.fl.eraseIdx i).map (loF ((i : Int) + 1)), p.ho.map (loH ((i : Int) + 1))⟩ by unfold edP; simp)
    obtain ⟨f, hf⟩ : ∃ f, p.fl[i]? = some f := ⟨_, List.getElem?_eq_getElem hi⟩
    obtain ⟨b, hA, hb, hbl, -, -⟩ := own_at0 (c := flL) (s := 7) (fun _ => rfl) O1.out hf
    subst hA
    clear hf
    have el : (p.fl.eraseIdx i).length = p.fl.length - 1 := List.length_eraseIdx_of_lt hi
    have V1 : IntKind.i64.wrap ((i : Int) + 1) = (i : Int) + 1 := IntWalk.i64_in _ (by omega)
    have HD := hide (delF_any w0.heap.size b c1 i p.fl W O1.out hi (by omega))
    have HLO := hide (fun (w' : World) (h1 : OwnL w' w0.heap.size 27 7 flL (.slice (some ⟨b, 0, none⟩) (p.fl.length - 1) c1) (p.fl.eraseIdx i)) (h2 : OwnL w' w0.heap.size 29 6 hoL (.slice B1 p.ho.length d1) p.ho) (dj : DJ (.slice (some ⟨b, 0, none⟩) (p.fl.length - 1) c1) (.slice B1 p.ho.length d1)) (hs : w0.heap.size ≤ w'.heap.size) => by
      have := lower_any ⟨p.nm, p.mt, p.ga, p.gr, p.wd, p.ht, p.fl.eraseIdx i, p.ho⟩ (some ⟨b, 0, none⟩) B1 c1 d1 ((i : Int) + 1) w0.heap.size w' (by rw [el]; exact h1) h2 (by rw [el]; exact dj) (by omega) (by rw [el]; omega) (by show p.ho.length ≤ 1000; omega) (fun g hg => by
        obtain ⟨j, hj⟩ := List.mem_iff_getElem?.1 (List.mem_of_mem_eraseIdx hg)
        have := HPA.out j g hj
        have := (List.getElem?_eq_some_iff.1 hj).1
        omega) (fun g hg => by have := HFA.out g hg; omega) hs
      simpa only [pav, el] using this)
    have hml : ((p.fl.eraseIdx i).map (loF ((i : Int) + 1))).length = p.fl.length - 1 := by rw [List.length_map, el]
    have hmo : (p.ho.map (loH ((i : Int) + 1))).length = p.ho.length := List.length_map _
    have HL1 := hide hml
    have HL2 := hide hmo
    clear el hml hmo
    obtain ⟨n1', hn1'⟩ : ∃ n, p.fl.length - 1 = n := ⟨_, rfl⟩
    rw [hn1'] at HD HLO HL1
    clear hn1'
    go_wp2_with fail
    refine HD.out.mono ?_
    rintro e w5 ⟨rfl, hO5, hbut, hgr5⟩
    have kp5 := KPW.out.blk (hbut.block w.heap.size (by omega))
    have kr5 := KRW.out.blk (hbut.block (w.heap.size + 1 + 1) (by omega))
    have ke5 : w5.cell? ⟨w.heap.size + 1, 1, none⟩ = some (iv (i : Int)) := (World.cell?_of_block (a := ⟨w.heap.size + 1, 1, none⟩) (hbut.block (w.heap.size + 1) (by omega))).trans E1
    have hO6 := But.own hbut O2.out (fun e => DJ1.out b rfl e)
    have g5 : Gr w w5 := hgr5 _ gW (by omega)
    have z5 : w5.heap.size = W.heap.size := hbut.size
    have KR5 := hide kr5
    have KP5 := hide kp5
    clear x0 x1 x2 x3 x4 x5 x6 x7 xf y0 y1 y2 y3 y4 y5 y6 y7 yf E0 E1 HD b0 b1 b2
    obtain ⟨b0, x0, x1, x2, x3, x4, x5, x6, x7, xf⟩ := kp5
    have b1 : w.heap.size + 1 < w5.heap.size := by omega
    go_wp2_with fail
    have DJ5 : DJ (.slice (some ⟨b, 0, none⟩) n1' c1) (.slice B1 p.ho.length d1) := fun b' h1 h2 => DJ1.out b' (by simpa [Value.ownBlock] using h1) h2
    refine (HLO.out _ (own_set1 hO5 (by omega) _) (own_set1 hO6 (by omega) _) DJ5 (by simp only [World.size_setCell]; omega)).mono ?_
    rintro e w7 ⟨rfl, o7, p7, lo7⟩
    have HO7 := hide o7
    have HP7 := hide p7
    have kr7 := (KR5.out.set1 (C := w.heap.size) (i := 6) (by omega) (.slice (some ⟨b, 0, none⟩) n1' c1)).blk (lo7.kb.block (w.heap.size + 1 + 1) (by omega) (by omega))
    have g7 : Gr w w7 := lo7.gr _ (Gr.setCell g5 (by dsimp only; omega) _) (by omega)
    have q0 : w7.cell? ⟨w.heap.size, 0, none⟩ = some (.string p.nm) := (World.cell?_of_block (a := ⟨w.heap.size, 0, none⟩) (lo7.kb.block w.heap.size (by omega) (by omega))).trans (by simp [go_sem, x0])
    have q1 : w7.cell? ⟨w.heap.size, 1, none⟩ = some (.string p.mt) := (World.cell?_of_block (a := ⟨w.heap.size, 1, none⟩) (lo7.kb.block w.heap.size (by omega) (by omega))).trans (by simp [go_sem, x1])
    have q2 : w7.cell? ⟨w.heap.size, 2, none⟩ = some (iv p.ga) := (World.cell?_of_block (a := ⟨w.heap.size, 2, none⟩) (lo7.kb.block w.heap.size (by omega) (by omega))).trans (by simp [go_sem, x2])
    have q3 : w7.cell? ⟨w.heap.size, 3, none⟩ = some (iv p.gr) := (World.cell?_of_block (a := ⟨w.heap.size, 3, none⟩) (lo7.kb.block w.heap.size (by omega) (by omega))).trans (by simp [go_sem, x3])
    have q4 : w7.cell? ⟨w.heap.size, 4, none⟩ = some (iv p.wd) := (World.cell?_of_block (a := ⟨w.heap.size, 4, none⟩) (lo7.kb.block w.heap.size (by omega) (by omega))).trans (by simp [go_sem, x4])
    have q5 : w7.cell? ⟨w.heap.size, 5, none⟩ = some (iv p.ht) := (World.cell?_of_block (a := ⟨w.heap.size, 5, none⟩) (lo7.kb.block w.heap.size (by omega) (by omega))).trans (by simp [go_sem, x5])
    have q6 : w7.cell? ⟨w.heap.size, 6, none⟩ = some (.slice (some ⟨b, 0, none⟩) n1' c1) := (World.cell?_of_block (a := ⟨w.heap.size, 6, none⟩) (lo7.kb.block w.heap.size (by omega) (by omega))).trans (by simp [go_sem, x6])
    have q7 : w7.cell? ⟨w.heap.size, 7, none⟩ = some (.slice B1 p.ho.length d1) := (World.cell?_of_block (a := ⟨w.heap.size, 7, none⟩) (lo7.kb.block w.heap.size (by omega) (by omega))).trans (by simp [go_sem, x7])
    have KR7 := hide kr7
    obtain ⟨k1, t0, t1, t2, t3, t4, t5, t6, t7, tf⟩ := kr7
    clear x0 x1 x2 x3 x4 x5 x6 x7 xf o7 p7 lo7 ke5 HLO
    go_wp2_with fail
    simp only [HE.out]
    first
      | exact edR_fin (base := w0.heap.size) (q := ⟨p.nm, p.mt, p.ga, p.gr, p.wd, p.ht, (p.fl.eraseIdx i).map (loF ((i : Int) + 1)), p.ho.map (loH ((i : Int) + 1))⟩) HL1.out HL2.out rfl rfl KR7.out (by omega) ⟨by omega, by omega⟩ HO7.out HP7.out DJ5 g7
      | exact edR_find (base := w0.heap.size) (q := ⟨p.nm, p.mt, p.ga, p.gr, p.wd, p.ht, (p.fl.eraseIdx i).map (loF ((i : Int) + 1)), p.ho.map (loH ((i : Int) + 1))⟩) HL1.out HL2.out rfl rfl KR7.out (by omega) ⟨by omega, by omega⟩ HO7.out HP7.out DJ5 g7
  · -- a hole is removed
    subst hxi
    have HE := hide (show edP p ⟨6, (i : Int), fl, ho, ww, hh⟩ = ⟨p.nm, p.mt, p.ga, p.gr, p.wd, p.ht, p.fl, p.ho.eraseIdx i⟩ by unfold edP; simp)
    obtain ⟨f, hf⟩ : ∃ f, p.ho[i]? = some f := ⟨_, List.getElem?_eq_getElem hi⟩
    obtain ⟨b, hA, hb, hbl, -, -⟩ := own_at0 (c := hoL) (s := 6) (fun _ => rfl) O2.out hf
    subst hA
    clear hf
    have el : (p.ho.eraseIdx i).length = p.ho.length - 1 := List.length_eraseIdx_of_lt hi
    have V1 : IntKind.i64.wrap ((i : Int) + 1) = (i : Int) + 1 := IntWalk.i64_in _ (by omega)
    have HD := hide (delH_any w0.heap.size b d1 i p.ho W O2.out hi (by omega))
    have HL2 := hide el
    clear el
    obtain ⟨n1', hn1'⟩ : ∃ n, p.ho.length - 1 = n := ⟨_, rfl⟩
    rw [hn1'] at HD HL2
    clear hn1'
    go_wp2_with fail
    refine HD.out.mono ?_
    rintro e w5 ⟨rfl, hO5, hbut, hgr5⟩
    have kp5 := KPW.out.blk (hbut.block w.heap.size (by omega))
    have kr5 := KRW.out.blk (hbut.block (w.heap.size + 1 + 1) (by omega))
    have hO6 := But.own hbut O1.out (fun e => DJ1.out b e rfl)
    have g5 : Gr w w5 := hgr5 _ gW (by omega)
    have KR5 := hide kr5
    clear x0 x1 x2 x3 x4 x5 x6 x7 xf y0 y1 y2 y3 y4 y5 y6 y7 yf E0 E1 HD b0 b1 b2
    obtain ⟨b0, x0, x1, x2, x3, x4, x5, x6, x7, xf⟩ := kp5
    obtain ⟨k1, t0, t1, t2, t3, t4, t5, t6, t7, tf⟩ := kr5
    go_wp2_with fail
    simp only [HE.out]
    have DJ5 : DJ (.slice A1 p.fl.length c1) (.slice (some ⟨b, 0, none⟩) n1' d1) := fun b' h1 h2 => DJ1.out b' h1 (by simpa [Value.ownBlock] using h2)
    first
      | exact edR_fin (base := w0.heap.size) (q := ⟨p.nm, p.mt, p.ga, p.gr, p.wd, p.ht, p.fl, p.ho.eraseIdx i⟩) rfl HL2.out rfl rfl (KR5.out.set1 (by omega) _) (by omega) ⟨by omega, by omega⟩ (own_set1 hO6 (by omega) _) (own_set1 hO5 (by omega) _) DJ5 (Gr.setCell g5 (by dsimp only; omega) _)
      | exact edR_find (base := w0.heap.size) (q := ⟨p.nm, p.mt, p.ga, p.gr, p.wd, p.ht, p.fl, p.ho.eraseIdx i⟩) rfl HL2.out rfl rfl (KR5.out.set1 (by omega) _) (by omega) ⟨by omega, by omega⟩ (own_set1 hO6 (by omega) _) (own_set1 hO5 (by omega) _) DJ5 (Gr.setCell g5 (by dsimp only; omega) _)
end Go.Proofs.Ytefjgfglommefaa
set_option linter.unusedVariables false
set_option linter.unusedSimpArgs false
namespace Go.Proofs.Ytefjgfglommefaa
set_option linter.unusedVariables false
set_option linter.unusedSimpArgs false
open Go Go.ChangeShapes Go.WideShapes Go.ChangeAt Go.RowKit Go.Deep

theorem ed_head (p : Pa) (x : Ed) : (edP p x).nm = p.nm ∧ (edP p x).mt = p.mt := by
  unfold edP
  repeat' split
  all_goals exact ⟨rfl, rfl⟩
theorem ed_names {p : Pa} {x : Ed} (h : ∀ f ∈ p.fl, f.nm.size ≤ 1000) (hx : x.fl.nm.size ≤ 1000) : ∀ f ∈ (edP p x).fl, f.nm.size ≤ 1000 := by
  intro f hf
  unfold edP at hf
  split at hf
  · exact h f hf
  split at hf
  · rcases List.mem_or_eq_of_mem_set hf with h1 | h1
    · exact h f h1
    · rw [h1]; exact hx
  split at hf
  · rcases List.mem_append.1 hf with h1 | h1
    · exact h f h1
    · rw [List.mem_singleton.1 h1]; exact hx
  split at hf
  · obtain ⟨g, hg, rfl⟩ := List.mem_map.1 hf
    have := h g (List.mem_of_mem_eraseIdx hg)
    unfold loF
    split <;> exact this
  split at hf
  · exact h f hf
  · exact h f hf
theorem ed_lens (p : Pa) (x : Ed) : (edP p x).fl.length ≤ p.fl.length + 1 ∧ (edP p x).ho.length ≤ p.ho.length + 1 := by
  have h1 := fun i => List.length_eraseIdx_le p.fl i
  have h2 := fun i => List.length_eraseIdx_le p.ho i
  unfold edP
  repeat' split
  all_goals simp
  all_goals (first | omega | (have := h1 x.i.toNat; have := h2 x.i.toNat; omega))
/-- a part of the call's own -/
theorem paW_of {w : World} {q : Pa} {A B : Option Addr} {c d lo1 lo2 : Nat} (h1 : OwnL w lo1 27 7 flL (.slice A q.fl.length c) q.fl) (h2 : OwnL w lo2 29 6 hoL (.slice B q.ho.length d) q.ho) (n1 : q.fl.length ≤ 1000) (n2 : q.ho.length ≤ 1000) (hn : ∀ f ∈ q.fl, f.nm.size ≤ 1000) (m1 : q.nm.size ≤ 1000) (m2 : q.mt.size ≤ 1000) : PaW w q A c B d := by
  obtain ⟨-, r1, a1, a2⟩ := OwnL.rd (c := flL) (fun _ => rfl) h1
  obtain ⟨-, r2, b1, b2⟩ := OwnL.rd (c := hoL) (fun _ => rfl) h2
  unfold maxLen at a2 b2
  exact ⟨⟨r1, a1, by omega, n1, hn⟩, ⟨r2, b1, by omega, n2⟩, m1, m2⟩
theorem ed_paw {w w' : World} {p : Pa} {x : Ed} {A B A' B' : Option Addr} {c d c' d' lo1 lo2 : Nat} (hP : PaW w p A c B d) (hx : x.fl.nm.size ≤ 1000) (hv : valE p = 0) (h1 : OwnL w' lo1 27 7 flL (.slice A' (edP p x).fl.length c') (edP p x).fl) (h2 : OwnL w' lo2 29 6 hoL (.slice B' (edP p x).ho.length d') (edP p x).ho) : PaW w' (edP p x) A' c' B' d' := by
  obtain ⟨e1, e2⟩ := ed_head p x
  obtain ⟨l1, l2⟩ := ed_lens p x
  have G := good_of hv
  have := G.nfl
  have := G.nho
  exact paW_of h1 h2 (by omega) (by omega) (ed_names hP.fl.nm hx) (by rw [e1]; exact hP.nm) (by rw [e2]; exact hP.mt)
/-- what Apply returns -/
def ApR (w w' : World) (q : Pa) (E : Int) (e : Ending) : Prop := ∃ (A' : Option Addr) (c' : Nat) (B' : Option Addr) (d' : Nat), e = .returned (sle (pav q A' c' B' d') E) ∧ OwnL w' w.heap.size 27 7 flL (.slice A' q.fl.length c') q.fl ∧ OwnL w' w.heap.size 29 6 hoL (.slice B' q.ho.length d') q.ho ∧ DJ (.slice A' q.fl.length c') (.slice B' q.ho.length d') ∧ Gr w w'
theorem apR_no {w W : World} {B : Nat} (E : Int) (a0 a1 a2 a3 a4 a5 a6 a7 : Value) (g : Gr w W) (hB : w.heap.size ≤ B) : ApR w (st8 W B a0 a1 a2 a3 a4 a5 a6 a7) paN E (.returned (sle (pav paN none 0 none 0) E)) :=
  ⟨none, 0, none, 0, rfl, own_nil _ _ _ _ _, own_nil _ _ _ _ _, fun b h => by simp [Value.ownBlock] at h, gr_st8 g hB _ _ _ _ _ _ _ _⟩
/-- a variable that holds an edit -/
structure BxE (w : World) (B : Nat) (x : Ed) : Prop where
  lt : B < w.heap.size
  c0 : w.cell? ⟨B, 0, none⟩ = some (iv x.k)
  c1 : w.cell? ⟨B, 1, none⟩ = some (iv x.i)
  c2 : w.cell? ⟨B, 2, none⟩ = some (.string x.fl.nm)
  c3 : w.cell? ⟨B, 3, none⟩ = some (iv x.fl.pa)
  c4 : w.cell? ⟨B, 4, none⟩ = some (iv x.fl.sd)
  c5 : w.cell? ⟨B, 5, none⟩ = some (iv x.fl.o)
  c6 : w.cell? ⟨B, 6, none⟩ = some (iv x.fl.wd)
  c7 : w.cell? ⟨B, 7, none⟩ = some (iv x.fl.ln)
  c8 : w.cell? ⟨B, 8, none⟩ = some (iv x.fl.an)
  c9 : w.cell? ⟨B, 9, none⟩ = some (iv x.ho.fa)
  c10 : w.cell? ⟨B, 10, none⟩ = some (iv x.ho.kd)
  c11 : w.cell? ⟨B, 11, none⟩ = some (iv x.ho.x)
  c12 : w.cell? ⟨B, 12, none⟩ = some (iv x.ho.y)
  c13 : w.cell? ⟨B, 13, none⟩ = some (iv x.ho.w)
  c14 : w.cell? ⟨B, 14, none⟩ = some (iv x.ho.h)
  c15 : w.cell? ⟨B, 15, none⟩ = some (iv x.w)
  c16 : w.cell? ⟨B, 16, none⟩ = some (iv x.h)
theorem BxE.gr {w w' : World} {B : Nat} {x : Ed} (h : BxE w B x) (g : Gr w w') : BxE w' B x :=
  ⟨Nat.lt_of_lt_of_le h.lt g.size, (g.cell _ _ h.lt).trans h.c0, (g.cell _ _ h.lt).trans h.c1, (g.cell _ _ h.lt).trans h.c2, (g.cell _ _ h.lt).trans h.c3, (g.cell _ _ h.lt).trans h.c4, (g.cell _ _ h.lt).trans h.c5, (g.cell _ _ h.lt).trans h.c6, (g.cell _ _ h.lt).trans h.c7, (g.cell _ _ h.lt).trans h.c8, (g.cell _ _ h.lt).trans h.c9, (g.cell _ _ h.lt).trans h.c10, (g.cell _ _ h.lt).trans h.c11, (g.cell _ _ h.lt).trans h.c12, (g.cell _ _ h.lt).trans h.c13, (g.cell _ _ h.lt).trans h.c14, (g.cell _ _ h.lt).trans h.c15, (g.cell _ _ h.lt).trans h.c16⟩
theorem run_loadE {w : World} {B : Nat} {x : Ed} (h : BxE w B x) : Sem.run Try.prog (loadVar 31 ⟨B, 0, none⟩) w = .ok (edv x) w := by
  simp [loadVar, go_sem, h.c0, h.c1, h.c2, h.c3, h.c4, h.c5, h.c6, h.c7, h.c8, h.c9, h.c10, h.c11, h.c12, h.c13, h.c14, h.c15, h.c16]
/-- an edit loaded out of its variable -/
theorem wpList_loadE {ops : Array Oper} {rest : List Oper} {o : Oper} {a : Act} {w : World} {Q : Exit → Act → World → Prop} (hgd : o.guard = none) (x : Operand) (ho : o.op = .load 31 x)
    (B : Nat) (y : Ed) (hx : a.eval x = .pointer (some ⟨B, 0, none⟩)) (hB : BxE w B y) (h : wpList Try.prog ops Q rest (a.put o.dst (edv y)) w) : wpList Try.prog ops Q (o :: rest) a w :=
  wpList_plain hgd fun _ hK => by
    have hl := run_loadE hB
    unfold Oper.wp execOp
    simp only [ho, hx, Instr.loadAt, Instr.sureAddr, Sem.run_bind, Sem.run_pure, Result.andThen_ok, hl]
    exact hK _ _ h
theorem res9 {a : Act} {w : World} {B : Nat} {u a0 a1 a2 a3 a4 a5 a6 a7 : Value} (ht : a.tmps[4]?.getD undef = .pointer (some ⟨B, 0, none⟩)) (hu : a.tmps[5]?.getD undef = u) (h : Bx8 w B a0 a1 a2 a3 a4 a5 a6 a7) : (results Try.f8 a.tmps).run Try.prog w = .ok (.tuple #[.agg #[a0, a1, a2, a3, a4, a5, a6, a7], u]) w := by
  obtain ⟨h0, h1, h2, h3, h4, h5, h6, h7, h8, h9⟩ := h
  simp [results, Try.results8, go_sem, ht, hu, h1, h2, h3, h4, h5, h6, h7, h8]
theorem apR_fin {w W : World} {q : Pa} {E : Int} {a : Act} {B : Nat} {A' : Option Addr} {c' : Nat} {B' : Option Addr} {d' lo : Nat} {b0 b1 b2 b3 b4 b5 b6 b7 : Value} (ht : a.tmps[4]?.getD undef = .pointer (some ⟨B, 0, none⟩)) (hu : a.tmps[5]?.getD undef = iv E) (hd : a.defers = []) (hK : Bx8 W B b0 b1 b2 b3 b4 b5 b6 b7) (hB : w.heap.size ≤ B ∧ B < lo) (o1 : OwnL W lo 27 7 flL (.slice A' q.fl.length c') q.fl) (o2 : OwnL W lo 29 6 hoL (.slice B' q.ho.length d') q.ho) (dj : DJ (.slice A' q.fl.length c') (.slice B' q.ho.length d')) (g : Gr w W) :
    bodyPost Try.prog Try.f8 (fun e w' => ApR w w' q E e) .ret a (st8 W B (.string q.nm) (.string q.mt) (iv q.ga) (iv q.gr) (iv q.wd) (iv q.ht) (.slice A' q.fl.length c') (.slice B' q.ho.length d')) :=
  bodyPost_ret (res9 ht hu (hK.st _ _ _ _ _ _ _ _)) hd ⟨A', c', B', d', rfl, (own_st8 o1 hB.2 _ _ _ _ _ _ _ _).weak (by omega), (own_st8 o2 hB.2 _ _ _ _ _ _ _ _).weak (by omega), dj, gr_st8 g hB.1 _ _ _ _ _ _ _ _⟩
theorem apR_nof {w W : World} {E : Int} {a : Act} {B : Nat} {b0 b1 b2 b3 b4 b5 b6 b7 : Value} (ht : a.tmps[4]?.getD undef = .pointer (some ⟨B, 0, none⟩)) (hu : a.tmps[5]?.getD undef = iv E) (hd : a.defers = []) (hK : Bx8 W B b0 b1 b2 b3 b4 b5 b6 b7) (hB : w.heap.size ≤ B) (g : Gr w W) :
    bodyPost Try.prog Try.f8 (fun e w' => ApR w w' paN E e) .ret a (st8 W B (.string ⟨#[]⟩) (.string ⟨#[]⟩) (iv 0) (iv 0) (iv 0) (iv 0) (.slice none 0 0) (.slice none 0 0)) :=
  bodyPost_ret (res9 ht hu (hK.st _ _ _ _ _ _ _ _)) hd (apR_no E _ _ _ _ _ _ _ _ g hB)
set_option maxHeartbeats 8000000 in
set_option maxRecDepth 100000 in
theorem Apply_any (p : Pa) (A B : Option Addr) (c d : Nat) (x : Ed) (w : World) (hP : PaW w p A c B d) (hx : x.fl.nm.size ≤ 1000) :
    Calls Try.prog 8 #[pav p A c B d, edv x] w fun e w' => ApR w w' (apP p x) (apE p x) e := by
  have HV := hide (fun (w' : World) (g : Gr w w') => Validate_any p A B c d w' (hP.gr g))
  have HCE := hide (fun (w' : World) (g : Gr w w') => checkEdit_any p A B c d x w' (hP.gr g))
  have HED := hide (fun (hv : valE p = 0) (hc : ceE p x = 0) (w' : World) (g : Gr w w') => edited_any p A B c d x w' (hP.gr g) hv hc)
  have HPW := hide (fun (hv : valE p = 0) (w' : World) (A' B' : Option Addr) (c' d' lo1 lo2 : Nat) (h1 : OwnL w' lo1 27 7 flL (.slice A' (edP p x).fl.length c') (edP p x).fl) (h2 : OwnL w' lo2 29 6 hoL (.slice B' (edP p x).ho.length d') (edP p x).ho) => ed_paw hP hx hv h1 h2)
  have HE1 := hide (fun (h : ¬ valE p = 0) => And.intro (apE_val (x := x) h) (apP_no (p := p) (x := x) (by rw [apE_val h]; exact h)))
  have HE2 := hide (fun (h : valE p = 0) (k : ¬ ceE p x = 0) => And.intro (apE_ce h k) (apP_no (p := p) (x := x) (by rw [apE_ce h k]; exact k)))
  have HE3 := hide (fun (h : valE p = 0) (k : ceE p x = 0) => apE_ed (x := x) h k)
  have HE4 := hide (fun (h : apE p x = 0) => apP_ok h)
  have HE5 := hide (fun (h : ¬ apE p x = 0) => apP_no h)
  clear hP hx
  generalize valE p = vE at *
  generalize ceE p x = cE at *
  generalize apE p x = aE at *
  generalize apP p x = aP at *
  generalize hq : edP p x = q at *
  clear hq
  obtain ⟨k, xi, fl, ho, ww, hh⟩ := x
  obtain ⟨w0, hw0⟩ : ∃ w0, ((w.alloc (.cells #[.string p.nm, .string p.mt, iv p.ga, iv p.gr, iv p.wd, iv p.ht, .slice A p.fl.length c, .slice B p.ho.length d] 25)).alloc (.cells #[iv k, iv xi, .string fl.nm, iv fl.pa, iv fl.sd, iv fl.o, iv fl.wd, iv fl.ln, iv fl.an, iv ho.fa, iv ho.kd, iv ho.x, iv ho.y, iv ho.w, iv ho.h, iv ww, iv hh] 31)).alloc (.cells #[.string ⟨#[]⟩, .string ⟨#[]⟩, iv 0, iv 0, iv 0, iv 0, .slice none 0 0, .slice none 0 0] 25) = w0 := ⟨_, rfl⟩
  have gw0 : Gr w w0 := by rw [← hw0]; exact Gr.alloc (Gr.alloc (Gr.alloc (Gr.refl _) _) _) _
  have s0 : w0.heap.size = w.heap.size + 3 := by rw [← hw0]; simp
  have kp : Bx8 w0 w.heap.size (.string p.nm) (.string p.mt) (iv p.ga) (iv p.gr) (iv p.wd) (iv p.ht) (.slice A p.fl.length c) (.slice B p.ho.length d) := by rw [← hw0]; constructor <;> simp [go_sem]
  have ke : BxE w0 (w.heap.size + 1) ⟨k, xi, fl, ho, ww, hh⟩ := by rw [← hw0]; constructor <;> simp [go_sem]
  have kr : Bx8 w0 (w.heap.size + 1 + 1) (.string ⟨#[]⟩) (.string ⟨#[]⟩) (iv 0) (iv 0) (iv 0) (iv 0) (.slice none 0 0) (.slice none 0 0) := by rw [← hw0]; constructor <;> simp [go_sem]
  have KP := hide kp
  have KE := hide ke
  have KR := hide kr
  clear ke kr
  clear kp
  by_cases hv : vE = 0
  case neg =>
    obtain ⟨q1, q2⟩ := HE1.out hv
    have HQ := hide (And.intro q1 q2)
    have hne : (vE != 0) = true := by simpa using hv
    clear HE1 HE2 HE3 HE4 HE5 q1 q2 HCE HED HPW hv
    obtain ⟨xl, x0, x1, x2, x3, x4, x5, x6, x7, xf⟩ := KP.out
    go_enter Try.func8, Try.ntmps8
    go_upto_region 1 with fail
    clear hw0
    go_wp2_with fail
    refine (HV.out _ gw0).mono ?_
    rintro e w1 ⟨rfl, g1⟩
    have z1 := g1.size
    have gw1 : Gr w w1 := gw0.trans g1
    have KP1 := hide (KP.out.gr g1)
    have KE1 := hide (KE.out.gr g1)
    have KR1 := hide (KR.out.gr g1)
    clear xl x0 x1 x2 x3 x4 x5 x6 x7 xf KP KE KR HV
    obtain ⟨tl, t0, t1, t2, t3, t4, t5, t6, t7, tf⟩ := KR1.out
    go_wp2_with fail
    simp only [HQ.out.1, HQ.out.2]
    exact apR_nof rfl rfl rfl KR1.out (by omega) gw1
  case pos =>
  subst hv
  by_cases hc : cE = 0
  case neg =>
    obtain ⟨q1, q2⟩ := HE2.out rfl hc
    have HQ := hide (And.intro q1 q2)
    have hne : (cE != 0) = true := by simpa using hc
    clear HE1 HE2 HE3 HE4 HE5 q1 q2 HED HPW hc
    obtain ⟨xl, x0, x1, x2, x3, x4, x5, x6, x7, xf⟩ := KP.out
    go_enter Try.func8, Try.ntmps8
    go_upto_region 1 with fail
    clear hw0
    go_wp2_with fail
    refine (HV.out _ gw0).mono ?_
    rintro e w1 ⟨rfl, g1⟩
    have z1 := g1.size
    have gw1 : Gr w w1 := gw0.trans g1
    have KP1 := hide (KP.out.gr g1)
    have KE1 := hide (KE.out.gr g1)
    have KR1 := hide (KR.out.gr g1)
    clear xl x0 x1 x2 x3 x4 x5 x6 x7 xf KP KE KR HV
    obtain ⟨xl, x0, x1, x2, x3, x4, x5, x6, x7, xf⟩ := KP1.out
    go_wp2_with (refine wpList_loadE rfl _ rfl _ _ rfl KE1.out ?_)
    refine (HCE.out _ gw1).mono ?_
    rintro e w2 ⟨rfl, g2⟩
    have z2 := g2.size
    have gw2 : Gr w w2 := gw1.trans g2
    have KP2 := hide (KP1.out.gr g2)
    have KE2 := hide (KE1.out.gr g2)
    have KR2 := hide (KR1.out.gr g2)
    clear xl x0 x1 x2 x3 x4 x5 x6 x7 xf KP1 KE1 KR1 HCE
    obtain ⟨tl, t0, t1, t2, t3, t4, t5, t6, t7, tf⟩ := KR2.out
    go_wp2_with fail
    simp only [HQ.out.1, HQ.out.2]
    exact apR_nof rfl rfl rfl KR2.out (by omega) gw2
  case pos =>
  subst hc
  have hE3 := HE3.out rfl rfl
  have HV2 := hide (fun (w' : World) (A' B' : Option Addr) (c' d' : Nat) (h : PaW w' q A' c' B' d') => Validate_any q A' B' c' d' w' h)
  rw [← hE3] at HV2
  have HED1 := hide (HED.out rfl rfl)
  have HPW1 := hide (HPW.out rfl)
  clear HE1 HE2 HE3 HED HPW hE3
  by_cases ha : aE = 0
  case neg =>
    have hna : (aE != 0) = true := by simpa using ha
    have hq5 := HE5.out ha
    have HQ := hide hq5
    clear ha hq5 HE4 HE5
    obtain ⟨xl, x0, x1, x2, x3, x4, x5, x6, x7, xf⟩ := KP.out
    go_enter Try.func8, Try.ntmps8
    go_upto_region 1 with fail
    clear hw0
    go_wp2_with fail
    refine (HV.out _ gw0).mono ?_
    rintro e w1 ⟨rfl, g1⟩
    have z1 := g1.size
    have gw1 : Gr w w1 := gw0.trans g1
    have KP1 := hide (KP.out.gr g1)
    have KE1 := hide (KE.out.gr g1)
    have KR1 := hide (KR.out.gr g1)
    clear xl x0 x1 x2 x3 x4 x5 x6 x7 xf KP KE KR HV
    obtain ⟨xl, x0, x1, x2, x3, x4, x5, x6, x7, xf⟩ := KP1.out
    go_wp2_with (refine wpList_loadE rfl _ rfl _ _ rfl KE1.out ?_)
    refine (HCE.out _ gw1).mono ?_
    rintro e w2 ⟨rfl, g2⟩
    have z2 := g2.size
    have gw2 : Gr w w2 := gw1.trans g2
    have KP2 := hide (KP1.out.gr g2)
    have KE2 := hide (KE1.out.gr g2)
    have KR2 := hide (KR1.out.gr g2)
    clear xl x0 x1 x2 x3 x4 x5 x6 x7 xf KP1 KE1 KR1 HCE
    obtain ⟨xl, x0, x1, x2, x3, x4, x5, x6, x7, xf⟩ := KP2.out
    go_wp2_with (refine wpList_loadE rfl _ rfl _ _ rfl KE2.out ?_)
    refine (HED1.out _ gw2).mono ?_
    rintro e w3 ⟨A1, c1, B1, d1, rfl, o1, o2, dj, g3⟩
    clear xl x0 x1 x2 x3 x4 x5 x6 x7 xf KP2 KE2
    have gw3 : Gr w w3 := gw2.trans g3
    have KR3 := hide (KR2.out.gr g3)
    have hpw := HPW1.out _ _ _ _ _ _ _ o1 o2
    have HPQ := hide hpw
    have O1 := hide o1
    have O2 := hide o2
    have z3 := g3.size
    clear o1 o2 hpw HPW1 HED1
    go_wp2_with fail
    refine (HV2.out _ A1 B1 c1 d1 (HPQ.out.gr (Gr.alloc (Gr.refl _) _))).mono ?_
    rintro e w4 ⟨rfl, g4⟩
    have gq4 : Gr w3 w4 := (Gr.alloc (Gr.refl _) _).trans g4
    have gw4 : Gr w w4 := gw3.trans gq4
    have KR4 := hide (KR3.out.gr gq4)
    obtain ⟨tl, t0, t1, t2, t3, t4, t5, t6, t7, tf⟩ := KR4.out
    go_wp2_with fail
    simp only [HQ.out]
    exact apR_nof rfl rfl rfl KR4.out (by omega) gw4
  case pos =>
    subst ha
    have HQ := hide (HE4.out rfl)
    clear HE4 HE5
    obtain ⟨xl, x0, x1, x2, x3, x4, x5, x6, x7, xf⟩ := KP.out
    go_enter Try.func8, Try.ntmps8
    go_upto_region 1 with fail
    clear hw0
    go_wp2_with fail
    refine (HV.out _ gw0).mono ?_
    rintro e w1 ⟨rfl, g1⟩
    have z1 := g1.size
    have gw1 : Gr w w1 := gw0.trans g1
    have KP1 := hide (KP.out.gr g1)
    have KE1 := hide (KE.out.gr g1)
    have KR1 := hide (KR.out.gr g1)
    clear xl x0 x1 x2 x3 x4 x5 x6 x7 xf KP KE KR HV
    obtain ⟨xl, x0, x1, x2, x3, x4, x5, x6, x7, xf⟩ := KP1.out
    go_wp2_with (refine wpList_loadE rfl _ rfl _ _ rfl KE1.out ?_)
    refine (HCE.out _ gw1).mono ?_
    rintro e w2 ⟨rfl, g2⟩
    have z2 := g2.size
    have gw2 : Gr w w2 := gw1.trans g2
    have KP2 := hide (KP1.out.gr g2)
    have KE2 := hide (KE1.out.gr g2)
    have KR2 := hide (KR1.out.gr g2)
    clear xl x0 x1 x2 x3 x4 x5 x6 x7 xf KP1 KE1 KR1 HCE
    obtain ⟨xl, x0, x1, x2, x3, x4, x5, x6, x7, xf⟩ := KP2.out
    go_wp2_with (refine wpList_loadE rfl _ rfl _ _ rfl KE2.out ?_)
    refine (HED1.out _ gw2).mono ?_
    rintro e w3 ⟨A1, c1, B1, d1, rfl, o1, o2, dj, g3⟩
    clear xl x0 x1 x2 x3 x4 x5 x6 x7 xf KP2 KE2
    have gw3 : Gr w w3 := gw2.trans g3
    have KR3 := hide (KR2.out.gr g3)
    have hpw := HPW1.out _ _ _ _ _ _ _ o1 o2
    have HPQ := hide hpw
    have O1 := hide o1
    have O2 := hide o2
    have z3 := g3.size
    clear o1 o2 hpw HPW1 HED1
    go_wp2_with fail
    refine (HV2.out _ A1 B1 c1 d1 (HPQ.out.gr (Gr.alloc (Gr.refl _) _))).mono ?_
    rintro e w4 ⟨rfl, g4⟩
    have gq4 : Gr w3 w4 := (Gr.alloc (Gr.refl _) _).trans g4
    have gw4 : Gr w w4 := gw3.trans gq4
    have KR4 := hide (KR3.out.gr gq4)
    obtain ⟨tl, t0, t1, t2, t3, t4, t5, t6, t7, tf⟩ := KR4.out
    have HQB : Bx8 w4 w3.heap.size (.string q.nm) (.string q.mt) (iv q.ga) (iv q.gr) (iv q.wd) (iv q.ht) (.slice A1 q.fl.length c1) (.slice B1 q.ho.length d1) := by
      have k0 : Bx8 (w3.alloc (.cells #[.string q.nm, .string q.mt, iv q.ga, iv q.gr, iv q.wd, iv q.ht, .slice A1 q.fl.length c1, .slice B1 q.ho.length d1] 25)) w3.heap.size (.string q.nm) (.string q.mt) (iv q.ga) (iv q.gr) (iv q.wd) (iv q.ht) (.slice A1 q.fl.length c1) (.slice B1 q.ho.length d1) := by constructor <;> simp [go_sem]
      exact k0.gr g4
    obtain ⟨vl, v0, v1, v2, v3, v4, v5, v6, v7, vf⟩ := HQB
    go_wp2_with fail
    simp only [HQ.out]
    exact apR_fin rfl rfl rfl KR4.out ⟨by omega, (by omega : w.heap.size + 1 + 1 < w2.heap.size)⟩ (O1.out.gr gq4) (O2.out.gr gq4) dj gw4
end Go.Proofs.Ytefjgfglommefaa
set_option linter.unusedVariables false
set_option linter.unusedSimpArgs false
namespace Go.Proofs.Ytefjgfglommefaa
set_option linter.unusedVariables false
set_option linter.unusedSimpArgs false
open Go Go.ChangeShapes Go.WideShapes Go.ChangeAt Go.RowKit Go.Deep

theorem cellsEdit : Try.prog.cellsOf 31 = 17 := by kernel_rfl
section
variable {H : Type} {enc : TypeId × Value → H} {W : World}
set_option maxRecDepth 100000 in
theorem open_edit {base : Nat} {v : Value} {d : DataW H} {ps : List MemPlace} (hv : Value.okWide Try.prog W .any base 31 v) (hd : DataW.Trod enc Try.prog W 0 (fun _ => true) true 31 v d ps) :
    ∃ x : Ed, v = edv x ∧ x.fl.nm.size ≤ maxLen := by
  obtain ⟨cs, rfl, _⟩ := okWide_struct Try.underlying31 hv
  obtain ⟨fuel, h⟩ := hd
  simp only [Value.cells] at h
  obtain ⟨xs, m, _, _, hl, hxl, hg⟩ := DataW.trod_struct Try.underlying31 h
  rw [cellsEdit] at hl
  have hxl : xs.length = 6 := hxl
  have el : ∀ i : Nat, i < 6 → xs[i]? = some (xs[i]?.getD (.nil, [])) := fun i hi => by rw [List.getElem?_eq_getElem (by omega)]; rfl
  have f0 := field_use hg 0 3 0 rfl
  have f1 := field_use hg 1 3 1 rfl
  have f2 := field_use hg 2 27 2 rfl
  have f3 := field_use hg 3 29 9 rfl
  have f4 := field_use hg 4 3 15 rfl
  have f5 := field_use hg 5 3 16 rfl
  rw [cellsInt, el 0 (by omega)] at f0
  rw [cellsInt, el 1 (by omega)] at f1
  rw [cellsFlange, el 2 (by omega)] at f2
  rw [cellsHole, el 3 (by omega)] at f3
  rw [cellsInt, el 4 (by omega)] at f4
  rw [cellsInt, el 5 (by omega)] at f5
  obtain ⟨cl⟩ := cs
  simp only at hl f0 f1 f2 f3 f4 f5
  match cl, hl with
  | [c0, c1, c2, c3, c4, c5, c6, c7, c8, c9, c10, c11, c12, c13, c14, c15, c16], _ =>
    obtain ⟨z0, e0, b0⟩ := one_i64 (intsInt enc W 0 _ _ m _ _ f0)
    obtain ⟨z1, e1, b1⟩ := one_i64 (intsInt enc W 0 _ _ m _ _ f1)
    obtain ⟨f, e2, k2⟩ := open_flange f2
    obtain ⟨x, e3, k3⟩ := open_hole f3
    obtain ⟨z4, e4, b4⟩ := one_i64 (intsInt enc W 0 _ _ m _ _ f4)
    obtain ⟨z5, e5, b5⟩ := one_i64 (intsInt enc W 0 _ _ m _ _ f5)
    simp at e0 e1 e2 e3 e4 e5
    obtain ⟨rfl, rfl, rfl, rfl, rfl, rfl, rfl⟩ := e2
    obtain ⟨rfl, rfl, rfl, rfl, rfl, rfl⟩ := e3
    subst e0 e1 e4 e5
    exact ⟨⟨z0, z1, f, x, z4, z5⟩, rfl, k2.1⟩
end
end Go.Proofs.Ytefjgfglommefaa
