/-
  What the functions of points return: orientation, of the reference and the exported ones.
-/
import Derived.Test.YtloefohekhkehaaDoorGeo3
namespace Go.Proofs.YtloefohekhkehaaDoor
set_option linter.unusedVariables false
set_option linter.unusedSimpArgs false
open Go Go.ChangeShapes Go.WideShapes Go.ChangeAt Go.RowKit Go.Deep

set_option maxHeartbeats 1000000 in
theorem rorient_any (a b c d e f g h i j k l : Int) (w : World) (hp : PLim a b c d) (hq : PLim e f g h) (hr : PLim i j k l) :
    Calls Tryd.prog 33 #[pt a b c d, pt e f g h, pt i j k l] w fun x w' => x = .returned (iv (M.sgn (orA a b c d e f g h i j k l) (orB a b c d e f g h i j k l))) ∧ Gr w w' := by
  obtain ⟨p1, p2, p3, p4⟩ := hp
  obtain ⟨q1, q2, q3, q4⟩ := hq
  obtain ⟨r1, r2, r3, r4⟩ := hr
  have s1 := (q1.sub p1).mono (m := 16384) (by omega)
  have s2 := (q2.sub p2).mono (m := 16384) (by omega)
  have s3 := (r3.sub p3).mono (m := 16384) (by omega)
  have s4 := (r4.sub p4).mono (m := 16384) (by omega)
  have s5 := (q3.sub p3).mono (m := 16384) (by omega)
  have s6 := (q4.sub p4).mono (m := 16384) (by omega)
  have s7 := (r1.sub p1).mono (m := 16384) (by omega)
  have s8 := (r2.sub p2).mono (m := 16384) (by omega)
  obtain ⟨t1, t2⟩ := Lim.orA s1 s2 s3 s4
  obtain ⟨t3, t4⟩ := Lim.orA s5 s6 s7 s8
  have u1 := t1.sub t3
  have u2 := t2.sub t4
  go_enter Tryd.func33, Tryd.ntmps33
  go_upto_region 1 with fail
  go_region_held3 (fun w' => Gr (((w.alloc (Obj.cells #[iv a, iv b, iv c, iv d] 34)).alloc (Obj.cells #[iv e, iv f, iv g, iv h] 34)).alloc (Obj.cells #[iv i, iv j, iv k, iv l] 34)) w' ∧ ∀ ii oo, ii < (((w.alloc (Obj.cells #[iv a, iv b, iv c, iv d] 34)).alloc (Obj.cells #[iv e, iv f, iv g, iv h] 34)).alloc (Obj.cells #[iv i, iv j, iv k, iv l] 34)).heap.size → w'.cell? ⟨ii, oo, none⟩ = (((w.alloc (Obj.cells #[iv a, iv b, iv c, iv d] 34)).alloc (Obj.cells #[iv e, iv f, iv g, iv h] 34)).alloc (Obj.cells #[iv i, iv j, iv k, iv l] 34)).cell? ⟨ii, oo, none⟩) ((refine And.intro ?_ (Gr.cell ?_) <;> ((repeat (first | with_reducible exact Gr.refl _ | with_reducible assumption | with_reducible refine Gr.alloc ?_ _ | with_reducible refine Gr.drewN ?_ _ | with_reducible refine Gr.drew ?_ | with_reducible refine Gr.setCell ?_ (by first | (dsimp only; omega) | (simp only [World.size_alloc]; omega) | (with_reducible refine Gr.size ?_; (repeat (first | with_reducible exact Gr.refl _ | with_reducible assumption | with_reducible refine Gr.alloc ?_ _ | with_reducible refine Gr.drewN ?_ _ | with_reducible refine Gr.drew ?_ | with_reducible refine Gr.trans ?_ (by with_reducible assumption))); done)) _ | with_reducible refine Gr.trans ?_ (by with_reducible assumption))); done)))
   (first
      | (go_at_call 29; refine (rminus_any _ _ _ _ _ (by apply Lim.mono; with_reducible assumption; omega) (by apply Lim.mono; with_reducible assumption; omega) (by apply Lim.mono; with_reducible assumption; omega) (by apply Lim.mono; with_reducible assumption; omega)).mono ?_; rintro e w1 ⟨rfl, g1⟩; obtain ⟨X1, Y1, c1, f1⟩ := g1.use)
      | (go_at_call 45; refine (rtimes_any _ _ _ _ _ (by apply Lim.mono; with_reducible assumption; omega) (by apply Lim.mono; with_reducible assumption; omega) (by apply Lim.mono; with_reducible assumption; omega) (by apply Lim.mono; with_reducible assumption; omega)).mono ?_; rintro e w1 ⟨rfl, g1⟩; obtain ⟨X1, Y1, c1, f1⟩ := g1.use)
      | (go_at_call 44; refine (rsign_any _ _ _ (by apply Lim.mono; with_reducible assumption; omega) (by apply Lim.mono; with_reducible assumption; omega)).mono ?_; rintro e w1 ⟨rfl, g1⟩; obtain ⟨X1, Y1, c1, f1⟩ := g1.use))
  all_goals
    go_wp2_with fail
    go_ret
    exact ⟨rfl, (by repeat (first | with_reducible exact Gr.refl _ | with_reducible assumption | with_reducible refine Gr.alloc ?_ _ | with_reducible refine Gr.drewN ?_ _ | with_reducible refine Gr.drew ?_ | with_reducible refine Gr.setCell ?_ (by first | (dsimp only; omega) | (simp only [World.size_alloc]; omega) | (with_reducible refine Gr.size ?_; (repeat (first | with_reducible exact Gr.refl _ | with_reducible assumption | with_reducible refine Gr.alloc ?_ _ | with_reducible refine Gr.drewN ?_ _ | with_reducible refine Gr.drew ?_ | with_reducible refine Gr.trans ?_ (by with_reducible assumption))); done)) _ | with_reducible refine Gr.trans ?_ (by with_reducible assumption)))⟩

/-- what Orient returns -/
def orOk (a b c d e f g h i j k l : Int) : Bool := pinB a b c d && pinB e f g h && pinB i j k l
def orV (a b c d e f g h i j k l : Int) : Int := if orOk a b c d e f g h i j k l then M.sgn (orA a b c d e f g h i j k l) (orB a b c d e f g h i j k l) else 0
def orE (a b c d e f g h i j k l : Int) : Int := errIf (orOk a b c d e f g h i j k l) 4
theorem plim_of {a b c d : Int} (h : pinB a b c d = true) : PLim a b c d := by
  simp only [pinB, Bool.and_eq_true] at h
  obtain ⟨h1, h2⟩ := lims_of h.1
  obtain ⟨h3, h4⟩ := lims_of h.2
  exact ⟨h1.mono (by omega), h2.mono (by omega), h3.mono (by omega), h4.mono (by omega)⟩
theorem Orient_any (a b c d e f g h i j k l : Int) (w : World) :
    Calls Tryd.prog 19 #[pt a b c d, pt e f g h, pt i j k l] w fun x w' => x = .returned (.tuple #[iv (orV a b c d e f g h i j k l), iv (orE a b c d e f g h i j k l)]) ∧ Gr w w' := by
  by_cases h1 : pinB a b c d = true
  · by_cases h2 : pinB e f g h = true
    · by_cases h3 : pinB i j k l = true
      · go_enter Tryd.func19, Tryd.ntmps19
        go_wp2_with (first | (go_at_call 38; refine (pointWithin_any _ _ _ _ _).mono ?_; rintro e w1 ⟨rfl, g1⟩; obtain ⟨X1, Y1, c1, f1⟩ := g1.use) | (go_at_call 39; refine (orient_any _ _ _ _ _ _ _ _ _ _ _ _ _ (plim_of h1) (plim_of h2) (plim_of h3)).mono ?_; rintro e w1 ⟨rfl, g1⟩; obtain ⟨X1, Y1, c1, f1⟩ := g1.use))
        go_ret2
        exact ⟨ret_two (by simp [orV, orOk, h1, h2, h3]) (by simp [orE, orOk, errIf, h1, h2, h3]), (by repeat (first | with_reducible exact Gr.refl _ | with_reducible assumption | with_reducible refine Gr.alloc ?_ _ | with_reducible refine Gr.drewN ?_ _ | with_reducible refine Gr.drew ?_ | with_reducible refine Gr.setCell ?_ (by first | (dsimp only; omega) | (simp only [World.size_alloc]; omega) | (with_reducible refine Gr.size ?_; (repeat (first | with_reducible exact Gr.refl _ | with_reducible assumption | with_reducible refine Gr.alloc ?_ _ | with_reducible refine Gr.drewN ?_ _ | with_reducible refine Gr.drew ?_ | with_reducible refine Gr.trans ?_ (by with_reducible assumption))); done)) _ | with_reducible refine Gr.trans ?_ (by with_reducible assumption)))⟩
      · have h3' : pinB i j k l = false := by simpa using h3
        clear h3
        go_enter Tryd.func19, Tryd.ntmps19
        go_wp2_with (first | (go_at_call 38; refine (pointWithin_any _ _ _ _ _).mono ?_; rintro e w1 ⟨rfl, g1⟩; obtain ⟨X1, Y1, c1, f1⟩ := g1.use))
        go_ret2
        exact ⟨ret_two (by simp [orV, orOk, h3']) (by simp [orE, orOk, errIf, h3']), (by repeat (first | with_reducible exact Gr.refl _ | with_reducible assumption | with_reducible refine Gr.alloc ?_ _ | with_reducible refine Gr.drewN ?_ _ | with_reducible refine Gr.drew ?_ | with_reducible refine Gr.setCell ?_ (by first | (dsimp only; omega) | (simp only [World.size_alloc]; omega) | (with_reducible refine Gr.size ?_; (repeat (first | with_reducible exact Gr.refl _ | with_reducible assumption | with_reducible refine Gr.alloc ?_ _ | with_reducible refine Gr.drewN ?_ _ | with_reducible refine Gr.drew ?_ | with_reducible refine Gr.trans ?_ (by with_reducible assumption))); done)) _ | with_reducible refine Gr.trans ?_ (by with_reducible assumption)))⟩
    · have h2' : pinB e f g h = false := by simpa using h2
      clear h2
      go_enter Tryd.func19, Tryd.ntmps19
      go_wp2_with (first | (go_at_call 38; refine (pointWithin_any _ _ _ _ _).mono ?_; rintro e w1 ⟨rfl, g1⟩; obtain ⟨X1, Y1, c1, f1⟩ := g1.use))
      go_ret2
      exact ⟨ret_two (by simp [orV, orOk, h2']) (by simp [orE, orOk, errIf, h2']), (by repeat (first | with_reducible exact Gr.refl _ | with_reducible assumption | with_reducible refine Gr.alloc ?_ _ | with_reducible refine Gr.drewN ?_ _ | with_reducible refine Gr.drew ?_ | with_reducible refine Gr.setCell ?_ (by first | (dsimp only; omega) | (simp only [World.size_alloc]; omega) | (with_reducible refine Gr.size ?_; (repeat (first | with_reducible exact Gr.refl _ | with_reducible assumption | with_reducible refine Gr.alloc ?_ _ | with_reducible refine Gr.drewN ?_ _ | with_reducible refine Gr.drew ?_ | with_reducible refine Gr.trans ?_ (by with_reducible assumption))); done)) _ | with_reducible refine Gr.trans ?_ (by with_reducible assumption)))⟩
  · have h1' : pinB a b c d = false := by simpa using h1
    clear h1
    go_enter Tryd.func19, Tryd.ntmps19
    go_wp2_with (first | (go_at_call 38; refine (pointWithin_any _ _ _ _ _).mono ?_; rintro e w1 ⟨rfl, g1⟩; obtain ⟨X1, Y1, c1, f1⟩ := g1.use))
    go_ret2
    exact ⟨ret_two (by simp [orV, orOk, h1']) (by simp [orE, orOk, errIf, h1']), (by repeat (first | with_reducible exact Gr.refl _ | with_reducible assumption | with_reducible refine Gr.alloc ?_ _ | with_reducible refine Gr.drewN ?_ _ | with_reducible refine Gr.drew ?_ | with_reducible refine Gr.setCell ?_ (by first | (dsimp only; omega) | (simp only [World.size_alloc]; omega) | (with_reducible refine Gr.size ?_; (repeat (first | with_reducible exact Gr.refl _ | with_reducible assumption | with_reducible refine Gr.alloc ?_ _ | with_reducible refine Gr.drewN ?_ _ | with_reducible refine Gr.drew ?_ | with_reducible refine Gr.trans ?_ (by with_reducible assumption))); done)) _ | with_reducible refine Gr.trans ?_ (by with_reducible assumption)))⟩
end Go.Proofs.YtloefohekhkehaaDoor
