/-
  What the functions of points return: orientation, turns.
-/
import Derived.Test.YtloefohekhkehaaDoorGeo2
import Derived.Deep.RegionHeld3
import Derived.StillTactics
import Derived.Deep.DeepCutAuto
namespace Go.Proofs.YtloefohekhkehaaDoor
set_option linter.unusedVariables false
set_option linter.unusedSimpArgs false
open Go Go.ChangeShapes Go.WideShapes Go.ChangeAt Go.RowKit Go.Deep

abbrev pt (a b c d : Int) : Value := .agg #[iv a, iv b, iv c, iv d]
def pinB (a b c d : Int) : Bool := rinB a b 4096 && rinB c d 4096
theorem pointWithin_any (a b c d : Int) (w : World) :
    Calls Tryd.prog 38 #[pt a b c d] w fun e w' => e = .returned (.bool (pinB a b c d)) ∧ Gr w w' := by
  go_enter Tryd.func38, Tryd.ntmps38
  go_wp2_with (go_at_call 20; refine (rootWithin_any _ _ _ _ (by omega) (by omega)).mono ?_; rintro e w1 ⟨rfl, g1⟩; obtain ⟨X1, Y1, c1, f1⟩ := g1.use)
  all_goals
    go_ret
    exact ⟨ret_bool (by simp [pinB, *]), (by repeat (first | with_reducible exact Gr.refl _ | with_reducible assumption | with_reducible refine Gr.alloc ?_ _ | with_reducible refine Gr.drewN ?_ _ | with_reducible refine Gr.drew ?_ | with_reducible refine Gr.setCell ?_ (by first | (dsimp only; omega) | (simp only [World.size_alloc]; omega) | (with_reducible refine Gr.size ?_; (repeat (first | with_reducible exact Gr.refl _ | with_reducible assumption | with_reducible refine Gr.alloc ?_ _ | with_reducible refine Gr.drewN ?_ _ | with_reducible refine Gr.drew ?_ | with_reducible refine Gr.trans ?_ (by with_reducible assumption))); done)) _ | with_reducible refine Gr.trans ?_ (by with_reducible assumption)))⟩
/-- the doubled area of three points, in its two numbers -/
def orA (a b c d e f g h i j k l : Int) : Int := (e - a) * (k - c) + 3 * ((f - b) * (l - d)) - ((g - c) * (i - a) + 3 * ((h - d) * (j - b)))
def orB (a b c d e f g h i j k l : Int) : Int := (e - a) * (l - d) + (f - b) * (k - c) - ((g - c) * (j - b) + (h - d) * (i - a))
structure PLim (a b c d : Int) : Prop where
  l1 : Lim 8192 a
  l2 : Lim 8192 b
  l3 : Lim 8192 c
  l4 : Lim 8192 d
theorem Lim.orA {a b c d : Int} (ha : Lim 16384 a) (hb : Lim 16384 b) (hc : Lim 16384 c) (hd : Lim 16384 d) : Lim 1073741824 (a * c + 3 * (b * d)) ∧ Lim 536870912 (a * d + b * c) := by
  have p1 := Lim.mul ha hc
  have p2 := Lim.mul hb hd
  have p3 := Lim.mul ha hd
  have p4 := Lim.mul hb hc
  unfold Lim at *
  omega
set_option maxHeartbeats 1000000 in
theorem orient_any (a b c d e f g h i j k l : Int) (w : World) (hp : PLim a b c d) (hq : PLim e f g h) (hr : PLim i j k l) :
    Calls Tryd.prog 39 #[pt a b c d, pt e f g h, pt i j k l] w fun x w' => x = .returned (iv (M.sgn (orA a b c d e f g h i j k l) (orB a b c d e f g h i j k l))) ∧ Gr w w' := by
  obtain ⟨p1, p2, p3, p4⟩ := hp
  obtain ⟨q1, q2, q3, q4⟩ := hq
  obtain ⟨r1, r2, r3, r4⟩ := hr
  have s1 := (q1.sub p1).mono (m := 16384) (by omega)
  have s2 := (q2.sub p2).mono (m := 16384) (by omega)
  have s3 := (r3.sub p3).mono (m := 16384) (by omega)
  have s4 := (r4.sub p4).mono (m := 16384) (by omega)
  have s5 := (q3.sub p3).mono (m := 16384) (by omega)
  have s6 := (q4.sub p4).mono (m := 16384) (by omega)
  have s7 := (r1.sub p1).mono (m := 16384) (by omega)
  have s8 := (r2.sub p2).mono (m := 16384) (by omega)
  obtain ⟨t1, t2⟩ := Lim.orA s1 s2 s3 s4
  obtain ⟨t3, t4⟩ := Lim.orA s5 s6 s7 s8
  go_enter Tryd.func39, Tryd.ntmps39
  go_upto_region 1 with fail
  go_cut [7] (fun s7 wx => ∃ B : Nat, s7 = .pointer (some ⟨B, 0, none⟩) ∧ Gr (((w.alloc (Obj.cells #[iv a, iv b, iv c, iv d] 34)).alloc (Obj.cells #[iv e, iv f, iv g, iv h] 34)).alloc (Obj.cells #[iv i, iv j, iv k, iv l] 34)) wx ∧ wx.cell? ⟨B, 0, none⟩ = some (iv ((e - a) * (k - c) + 3 * ((f - b) * (l - d)))) ∧ wx.cell? ⟨B, 1, none⟩ = some (iv ((e - a) * (l - d) + (f - b) * (k - c))))
  case first =>
    go_region_held3 (fun w' => Gr (((w.alloc (Obj.cells #[iv a, iv b, iv c, iv d] 34)).alloc (Obj.cells #[iv e, iv f, iv g, iv h] 34)).alloc (Obj.cells #[iv i, iv j, iv k, iv l] 34)) w' ∧ ∀ ii oo, ii < (((w.alloc (Obj.cells #[iv a, iv b, iv c, iv d] 34)).alloc (Obj.cells #[iv e, iv f, iv g, iv h] 34)).alloc (Obj.cells #[iv i, iv j, iv k, iv l] 34)).heap.size → w'.cell? ⟨ii, oo, none⟩ = (((w.alloc (Obj.cells #[iv a, iv b, iv c, iv d] 34)).alloc (Obj.cells #[iv e, iv f, iv g, iv h] 34)).alloc (Obj.cells #[iv i, iv j, iv k, iv l] 34)).cell? ⟨ii, oo, none⟩) ((refine And.intro ?_ (Gr.cell ?_) <;> ((repeat (first | with_reducible exact Gr.refl _ | with_reducible assumption | with_reducible refine Gr.alloc ?_ _ | with_reducible refine Gr.drewN ?_ _ | with_reducible refine Gr.drew ?_ | with_reducible refine Gr.setCell ?_ (by first | (dsimp only; omega) | (simp only [World.size_alloc]; omega) | (with_reducible refine Gr.size ?_; (repeat (first | with_reducible exact Gr.refl _ | with_reducible assumption | with_reducible refine Gr.alloc ?_ _ | with_reducible refine Gr.drewN ?_ _ | with_reducible refine Gr.drew ?_ | with_reducible refine Gr.trans ?_ (by with_reducible assumption))); done)) _ | with_reducible refine Gr.trans ?_ (by with_reducible assumption))); done)))
     (first
      | (go_at_call 35; refine (minus_any _ _ _ _ _ (Lim.mono (l := 8192) (by assumption) (by omega)) (Lim.mono (l := 8192) (by assumption) (by omega)) (Lim.mono (l := 8192) (by assumption) (by omega)) (Lim.mono (l := 8192) (by assumption) (by omega))).mono ?_; rintro e w1 ⟨rfl, g1⟩; obtain ⟨X1, Y1, c1, f1⟩ := g1.use)
      | (go_at_call 36; refine (times_any _ _ _ _ _ (Lim.mono (l := 16384) (by assumption) (by omega)) (Lim.mono (l := 16384) (by assumption) (by omega)) (Lim.mono (l := 16384) (by assumption) (by omega)) (Lim.mono (l := 16384) (by assumption) (by omega))).mono ?_; rintro e w1 ⟨rfl, g1⟩; obtain ⟨X1, Y1, c1, f1⟩ := g1.use))
    all_goals
      go_wp2_with fail
      go_meet
      exact ⟨_, rfl, (by repeat (first | with_reducible exact Gr.refl _ | with_reducible assumption | with_reducible refine Gr.alloc ?_ _ | with_reducible refine Gr.drewN ?_ _ | with_reducible refine Gr.drew ?_ | with_reducible refine Gr.setCell ?_ (by first | (dsimp only; omega) | (simp only [World.size_alloc]; omega) | (with_reducible refine Gr.size ?_; (repeat (first | with_reducible exact Gr.refl _ | with_reducible assumption | with_reducible refine Gr.alloc ?_ _ | with_reducible refine Gr.drewN ?_ _ | with_reducible refine Gr.drew ?_ | with_reducible refine Gr.trans ?_ (by with_reducible assumption))); done)) _ | with_reducible refine Gr.trans ?_ (by with_reducible assumption))), by simp [go_sem, *], by simp [go_sem, *]⟩
  case rest =>
    obtain ⟨B, rfl, gB, k0, k1⟩ := hcut
    go_upto_region 2 with fail
    go_cut [8] (fun s8 wx => ∃ B' : Nat, s8 = .pointer (some ⟨B', 0, none⟩) ∧ Gr wc wx ∧ wx.cell? ⟨B', 0, none⟩ = some (iv ((g - c) * (i - a) + 3 * ((h - d) * (j - b)))) ∧ wx.cell? ⟨B', 1, none⟩ = some (iv ((g - c) * (j - b) + (h - d) * (i - a))))
    case first =>
      go_region_held3 (fun w' => Gr (((w.alloc (Obj.cells #[iv a, iv b, iv c, iv d] 34)).alloc (Obj.cells #[iv e, iv f, iv g, iv h] 34)).alloc (Obj.cells #[iv i, iv j, iv k, iv l] 34)) w' ∧ ∀ ii oo, ii < (((w.alloc (Obj.cells #[iv a, iv b, iv c, iv d] 34)).alloc (Obj.cells #[iv e, iv f, iv g, iv h] 34)).alloc (Obj.cells #[iv i, iv j, iv k, iv l] 34)).heap.size → w'.cell? ⟨ii, oo, none⟩ = (((w.alloc (Obj.cells #[iv a, iv b, iv c, iv d] 34)).alloc (Obj.cells #[iv e, iv f, iv g, iv h] 34)).alloc (Obj.cells #[iv i, iv j, iv k, iv l] 34)).cell? ⟨ii, oo, none⟩) ((refine And.intro ?_ (Gr.cell ?_) <;> ((repeat (first | with_reducible exact Gr.refl _ | with_reducible assumption | with_reducible refine Gr.alloc ?_ _ | with_reducible refine Gr.drewN ?_ _ | with_reducible refine Gr.drew ?_ | with_reducible refine Gr.setCell ?_ (by first | (dsimp only; omega) | (simp only [World.size_alloc]; omega) | (with_reducible refine Gr.size ?_; (repeat (first | with_reducible exact Gr.refl _ | with_reducible assumption | with_reducible refine Gr.alloc ?_ _ | with_reducible refine Gr.drewN ?_ _ | with_reducible refine Gr.drew ?_ | with_reducible refine Gr.trans ?_ (by with_reducible assumption))); done)) _ | with_reducible refine Gr.trans ?_ (by with_reducible assumption))); done)))
       (first
      | (go_at_call 35; refine (minus_any _ _ _ _ _ (Lim.mono (l := 8192) (by assumption) (by omega)) (Lim.mono (l := 8192) (by assumption) (by omega)) (Lim.mono (l := 8192) (by assumption) (by omega)) (Lim.mono (l := 8192) (by assumption) (by omega))).mono ?_; rintro e w1 ⟨rfl, g1⟩; obtain ⟨X1, Y1, c1, f1⟩ := g1.use)
      | (go_at_call 36; refine (times_any _ _ _ _ _ (Lim.mono (l := 16384) (by assumption) (by omega)) (Lim.mono (l := 16384) (by assumption) (by omega)) (Lim.mono (l := 16384) (by assumption) (by omega)) (Lim.mono (l := 16384) (by assumption) (by omega))).mono ?_; rintro e w1 ⟨rfl, g1⟩; obtain ⟨X1, Y1, c1, f1⟩ := g1.use))
      all_goals
        go_wp2_with fail
        go_meet
        exact ⟨_, rfl, (by repeat (first | with_reducible exact Gr.refl _ | with_reducible assumption | with_reducible refine Gr.alloc ?_ _ | with_reducible refine Gr.drewN ?_ _ | with_reducible refine Gr.drew ?_ | with_reducible refine Gr.setCell ?_ (by first | (dsimp only; omega) | (simp only [World.size_alloc]; omega) | (with_reducible refine Gr.size ?_; (repeat (first | with_reducible exact Gr.refl _ | with_reducible assumption | with_reducible refine Gr.alloc ?_ _ | with_reducible refine Gr.drewN ?_ _ | with_reducible refine Gr.drew ?_ | with_reducible refine Gr.trans ?_ (by with_reducible assumption))); done)) _ | with_reducible refine Gr.trans ?_ (by with_reducible assumption))), by simp [go_sem, *], by simp [go_sem, *]⟩
    case rest =>
      obtain ⟨B', rfl, g2, k2, k3⟩ := hcut
      have k0' := (g2.cell _ _ (cell_lt (by rw [k0]; rfl))).trans k0
      have k1' := (g2.cell _ _ (cell_lt (by rw [k1]; rfl))).trans k1
      clear k0 k1
      go_wp2_with (first | (go_at_call 35; refine (minus_any _ _ _ _ _ (t1.mono (by omega)) (t2.mono (by omega)) (t3.mono (by omega)) (t4.mono (by omega))).mono ?_; rintro e w1 ⟨rfl, g1⟩; obtain ⟨X1, Y1, c1, f1⟩ := g1.use) | (go_at_call 21; refine (sign_any _ _ _ ((t1.sub t3).mono (by omega)) ((t2.sub t4).mono (by omega))).mono ?_; rintro e w1 ⟨rfl, g1⟩; obtain ⟨X1, Y1, c1, f1⟩ := g1.use))
      go_ret
      exact ⟨rfl, (by repeat (first | with_reducible exact Gr.refl _ | with_reducible assumption | with_reducible refine Gr.alloc ?_ _ | with_reducible refine Gr.drewN ?_ _ | with_reducible refine Gr.drew ?_ | with_reducible refine Gr.setCell ?_ (by first | (dsimp only; omega) | (simp only [World.size_alloc]; omega) | (with_reducible refine Gr.size ?_; (repeat (first | with_reducible exact Gr.refl _ | with_reducible assumption | with_reducible refine Gr.alloc ?_ _ | with_reducible refine Gr.drewN ?_ _ | with_reducible refine Gr.drew ?_ | with_reducible refine Gr.trans ?_ (by with_reducible assumption))); done)) _ | with_reducible refine Gr.trans ?_ (by with_reducible assumption)))⟩
end Go.Proofs.YtloefohekhkehaaDoor
