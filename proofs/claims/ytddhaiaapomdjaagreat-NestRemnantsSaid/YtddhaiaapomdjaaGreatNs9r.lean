/-
  Nests: the blocks of a sheet; rectangles that touch; the least corner of a list.
-/
import Derived.Test.YtddhaiaapomdjaaGreatNs8r
set_option linter.unusedVariables false
set_option linter.unusedSimpArgs false
namespace Go.Proofs.YtddhaiaapomdjaaGreat
set_option linter.unusedVariables false
set_option linter.unusedSimpArgs false
open Go Go.ChangeShapes Go.WideShapes Go.ChangeAt Go.RowKit Go.Deep

namespace RG
set_option maxHeartbeats 1000000 in
theorem blocks_any (nm mt : ByteArray) (ga gr wd ht : Int) (A : Option Addr) (c : Nat) (l : List Rc) (B : Option Addr) (d : Nat) (m : List Rc) (w : World) (hl : SlR w A c l) (hm : SlR w B d m) (h1 : l.length ≤ 1000) (h2 : m.length ≤ 1000) :
    Calls Tryz.prog 44 #[shv nm mt ga gr wd ht (.slice A l.length c) (.slice B m.length d)] w fun e w' => ∃ D, e = .returned (.slice D (l ++ m).length (l ++ m).length) ∧ SlR w' D (l ++ m).length (l ++ m) ∧ Gr w w' := by
  have HJ := hide (fun (w' : World) (g : Gr w w') => join_any A c l B d m w' (hl.gr g) (hm.gr g) h1 h2)
  clear hl hm
  go_enter Tryz.func44, Tryz.ntmps44
  go_wp2_with fail
  refine (HJ.out _ (by with_reducible repeat (first | exact Gr.refl _ | assumption | refine Gr.alloc ?_ _ | refine Gr.drewN ?_ _ | refine Gr.drew ?_ | refine Gr.setCell ?_ (by first | (dsimp only; omega) | (simp only [World.size_alloc]; omega) | (refine Gr.size ?_; (repeat (first | exact Gr.refl _ | assumption | refine Gr.alloc ?_ _ | refine Gr.drewN ?_ _ | refine Gr.drew ?_ | refine Gr.trans ?_ (by assumption))); done)) _ | refine Gr.trans ?_ (by assumption)))).mono ?_
  rintro e w2 ⟨D, rfl, hD, g2⟩
  have HD := hide hD
  clear hD
  go_wp2
  go_ret
  have hk := HD.out
  rw [List.length_append] at hk
  first | exact ⟨D, rfl, hk, (by with_reducible repeat (first | exact Gr.refl _ | assumption | refine Gr.alloc ?_ _ | refine Gr.drewN ?_ _ | refine Gr.drew ?_ | refine Gr.setCell ?_ (by first | (dsimp only; omega) | (simp only [World.size_alloc]; omega) | (refine Gr.size ?_; (repeat (first | exact Gr.refl _ | assumption | refine Gr.alloc ?_ _ | refine Gr.drewN ?_ _ | refine Gr.drew ?_ | refine Gr.trans ?_ (by assumption))); done)) _ | refine Gr.trans ?_ (by assumption)))⟩ | exact ⟨D, by rw [List.length_append]; rfl, by rw [List.length_append]; exact hk, (by with_reducible repeat (first | exact Gr.refl _ | assumption | refine Gr.alloc ?_ _ | refine Gr.drewN ?_ _ | refine Gr.drew ?_ | refine Gr.setCell ?_ (by first | (dsimp only; omega) | (simp only [World.size_alloc]; omega) | (refine Gr.size ?_; (repeat (first | exact Gr.refl _ | assumption | refine Gr.alloc ?_ _ | refine Gr.drewN ?_ _ | refine Gr.drew ?_ | refine Gr.trans ?_ (by assumption))); done)) _ | refine Gr.trans ?_ (by assumption)))⟩
set_option maxHeartbeats 1000000 in
theorem touch_any (r s : Rc) (w : World) :
    Calls Tryz.prog 65 #[rcv r, rcv s] w fun e w' => e = .returned (.bool (diR r s == 0)) ∧ Gr w w' := by
  have HD := hide (fun w' => Distance_any r.x r.y r.w r.h s.x s.y s.w s.h w')
  rw [show diV r.x r.y r.w r.h s.x s.y s.w s.h = diR r s from rfl] at HD
  go_enter Tryz.func65, Tryz.ntmps65
  go_wp2_with (first | (go_at_call 104; refine (HD.out _).mono ?_; rintro e w1 ⟨rfl, g1⟩; obtain ⟨X1, Y1, c1, f1⟩ := g1.use))
  go_ret
  exact ⟨ret_bool (by simp [*]), (by with_reducible repeat (first | exact Gr.refl _ | assumption | refine Gr.alloc ?_ _ | refine Gr.drewN ?_ _ | refine Gr.drew ?_ | refine Gr.setCell ?_ (by first | (dsimp only; omega) | (simp only [World.size_alloc]; omega) | (refine Gr.size ?_; (repeat (first | exact Gr.refl _ | assumption | refine Gr.alloc ?_ _ | refine Gr.drewN ?_ _ | refine Gr.drew ?_ | refine Gr.trans ?_ (by assumption))); done)) _ | refine Gr.trans ?_ (by assumption)))⟩
end RG
end Go.Proofs.YtddhaiaapomdjaaGreat
