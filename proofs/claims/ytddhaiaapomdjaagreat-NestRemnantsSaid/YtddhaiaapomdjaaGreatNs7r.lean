/-
  Nests: the ranges of the settings, on both sides; the rectangle of a sheet, and that without its margin.
-/
import Derived.Test.YtddhaiaapomdjaaGreatNs4r
set_option linter.unusedVariables false
set_option linter.unusedSimpArgs false
namespace Go.Proofs.YtddhaiaapomdjaaGreat
set_option linter.unusedVariables false
set_option linter.unusedSimpArgs false
open Go Go.ChangeShapes Go.WideShapes Go.ChangeAt Go.RowKit Go.Deep

namespace RG
def vtB (t : St) : Bool := wiB t.g 0 14400 && wiB t.m 0 14400
set_option maxHeartbeats 1000000 in
theorem ValidSettings_any (t : St) (w : World) :
    Calls Tryz.prog 26 #[stvv t] w fun e w' => e = .returned (.bool (vtB t)) ∧ Gr w w' := by
  have HE := hide (show vtB t = (wiB t.g 0 14400 && wiB t.m 0 14400) from rfl)
  cases h : wiB t.g 0 14400 <;> cases k : wiB t.m 0 14400 <;> rw [h, k] at HE <;>
  · go_enter Tryz.func26, Tryz.ntmps26
    go_wp2_with (first | (go_at_call 60; refine (nwithin_any _ _ _ _).mono ?_; rintro e w1 ⟨rfl, rfl⟩))
    go_ret
    exact ⟨ret_bool (by rw [HE.out]; simp [*]), (by with_reducible repeat (first | exact Gr.refl _ | assumption | refine Gr.alloc ?_ _ | refine Gr.drewN ?_ _ | refine Gr.drew ?_ | refine Gr.setCell ?_ (by first | (dsimp only; omega) | (simp only [World.size_alloc]; omega) | (refine Gr.size ?_; (repeat (first | exact Gr.refl _ | assumption | refine Gr.alloc ?_ _ | refine Gr.drewN ?_ _ | refine Gr.drew ?_ | refine Gr.trans ?_ (by assumption))); done)) _ | refine Gr.trans ?_ (by assumption)))⟩
/-- a sheet: what it is made of, with its two lists as values -/
abbrev shv (nm mt : ByteArray) (ga gr wd ht : Int) (c u : Value) : Value := .agg #[.string nm, .string mt, iv ga, iv gr, iv wd, iv ht, c, u]
theorem whole_any (nm mt : ByteArray) (ga gr wd ht : Int) (c u : Value) (w : World) :
    Calls Tryz.prog 40 #[shv nm mt ga gr wd ht c u] w fun e w' => e = .returned (rc 0 0 wd ht) ∧ Gr w w' := by
  go_enter Tryz.func40, Tryz.ntmps40
  go_wp2
  refine bodyPost_ret (v := rc 0 0 wd ht) (by simp [results, Tryz.results40, go_sem]) rfl ⟨rfl, (by with_reducible repeat (first | exact Gr.refl _ | assumption | refine Gr.alloc ?_ _ | refine Gr.drewN ?_ _ | refine Gr.drew ?_ | refine Gr.setCell ?_ (by first | (dsimp only; omega) | (simp only [World.size_alloc]; omega) | (refine Gr.size ?_; (repeat (first | exact Gr.refl _ | assumption | refine Gr.alloc ?_ _ | refine Gr.drewN ?_ _ | refine Gr.drew ?_ | refine Gr.trans ?_ (by assumption))); done)) _ | refine Gr.trans ?_ (by assumption)))⟩
theorem withoutMargin_any (nm mt : ByteArray) (ga gr wd ht : Int) (c u : Value) (m : Int) (w : World) (h1 : Lim 4194304 wd) (h2 : Lim 4194304 ht) (h3 : Lim 4194304 m) :
    Calls Tryz.prog 108 #[shv nm mt ga gr wd ht c u, iv m] w fun e w' => e = .returned (rc m m (wd - 2 * m) (ht - 2 * m)) ∧ Gr w w' := by
  obtain ⟨a1, a2⟩ := h1
  obtain ⟨b1, b2⟩ := h2
  obtain ⟨c1, c2⟩ := h3
  have W0 : IntKind.i64.wrap (2 * m) = 2 * m := IntWalk.i64_in _ (by omega)
  have W1 : IntKind.i64.wrap (wd - 2 * m) = wd - 2 * m := IntWalk.i64_in _ (by omega)
  have W2 : IntKind.i64.wrap (ht - 2 * m) = ht - 2 * m := IntWalk.i64_in _ (by omega)
  go_enter Tryz.func108, Tryz.ntmps108
  go_wp2
  refine bodyPost_ret (v := rc m m (wd - 2 * m) (ht - 2 * m)) (by simp [results, Tryz.results108, go_sem]) rfl ⟨rfl, (by with_reducible repeat (first | exact Gr.refl _ | assumption | refine Gr.alloc ?_ _ | refine Gr.drewN ?_ _ | refine Gr.drew ?_ | refine Gr.setCell ?_ (by first | (dsimp only; omega) | (simp only [World.size_alloc]; omega) | (refine Gr.size ?_; (repeat (first | exact Gr.refl _ | assumption | refine Gr.alloc ?_ _ | refine Gr.drewN ?_ _ | refine Gr.drew ?_ | refine Gr.trans ?_ (by assumption))); done)) _ | refine Gr.trans ?_ (by assumption)))⟩
end RG
end Go.Proofs.YtddhaiaapomdjaaGreat
