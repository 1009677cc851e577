/-
  Nests: the reference's Shift and quarter.
  Nests: the reference's Move and Turned.
  Nests: the reference's Turned.
  Nests: the reference's Put where it refuses.
  Nests: the reference's Put where nothing is refused.
  Nests: the law NestPuts.
-/
import Derived.Test.YtddhaiaapomdjaaGreatGOr
import Derived.Deep.Cut
import Derived.Test.YtddhaiaapomdjaaGreatGLr
set_option linter.unusedVariables false
set_option linter.unusedSimpArgs false
namespace Go.Proofs.YtddhaiaapomdjaaGreat
set_option linter.unusedVariables false
set_option linter.unusedSimpArgs false
open Go Go.ChangeShapes Go.WideShapes Go.ChangeAt Go.RowKit Go.Deep

namespace RG
end RG
end Go.Proofs.YtddhaiaapomdjaaGreat
set_option linter.unusedVariables false
set_option linter.unusedSimpArgs false
namespace Go.Proofs.YtddhaiaapomdjaaGreat
set_option linter.unusedVariables false
set_option linter.unusedSimpArgs false
open Go Go.ChangeShapes Go.WideShapes Go.ChangeAt Go.RowKit Go.Deep

namespace RG
/-- a new list of rectangles: none of its blocks lies below n -/
structure NwR (w : World) (n : Nat) (D : Option Addr) (q : Nat) (l : List Rc) : Prop where
  s : SlR w D q l
  f : l ≠ [] → ∀ a, D = some a → n ≤ a.block
theorem NwR.gr {w w' : World} {n : Nat} {D : Option Addr} {q : Nat} {l : List Rc} (h : NwR w n D q l) (g : Gr w w') : NwR w' n D q l := ⟨h.s.gr g, h.f⟩
theorem NwR.set {w : World} {n : Nat} {D : Option Addr} {q : Nat} {l : List Rc} (h : NwR w n D q l) {B : Nat} (hB : B < n) (o : Nat) (v : Value) : NwR (w.setCell ⟨B, o, none⟩ v) n D q l :=
  ⟨slr_far h.s (fun hl a ha e => by have := h.f hl a ha; omega), h.f⟩
theorem NwR.weak {w : World} {n m : Nat} {D : Option Addr} {q : Nat} {l : List Rc} (h : NwR w n D q l) (hm : m ≤ n) : NwR w m D q l := ⟨h.s, fun hl a ha => Nat.le_trans hm (h.f hl a ha)⟩
end RG
end Go.Proofs.YtddhaiaapomdjaaGreat
set_option linter.unusedVariables false
set_option linter.unusedSimpArgs false
namespace Go.Proofs.YtddhaiaapomdjaaGreat
set_option linter.unusedVariables false
set_option linter.unusedSimpArgs false
open Go Go.ChangeShapes Go.WideShapes Go.ChangeAt Go.RowKit Go.Deep

namespace RG
end RG
end Go.Proofs.YtddhaiaapomdjaaGreat
set_option linter.unusedVariables false
set_option linter.unusedSimpArgs false
namespace Go.Proofs.YtddhaiaapomdjaaGreat
set_option linter.unusedVariables false
set_option linter.unusedSimpArgs false
open Go Go.ChangeShapes Go.WideShapes Go.ChangeAt Go.RowKit Go.Deep

namespace RG
end RG
end Go.Proofs.YtddhaiaapomdjaaGreat
set_option linter.unusedVariables false
set_option linter.unusedSimpArgs false
namespace Go.Proofs.YtddhaiaapomdjaaGreat
set_option linter.unusedVariables false
set_option linter.unusedSimpArgs false
open Go Go.ChangeShapes Go.WideShapes Go.ChangeAt Go.RowKit Go.Deep

namespace RG
end RG
end Go.Proofs.YtddhaiaapomdjaaGreat
set_option linter.unusedVariables false
set_option linter.unusedSimpArgs false
namespace Go.Proofs.YtddhaiaapomdjaaGreat
set_option linter.unusedVariables false
set_option linter.unusedSimpArgs false
open Go Go.ChangeShapes Go.WideShapes Go.ChangeAt Go.RowKit Go.Deep

namespace RG
end RG
end Go.Proofs.YtddhaiaapomdjaaGreat
