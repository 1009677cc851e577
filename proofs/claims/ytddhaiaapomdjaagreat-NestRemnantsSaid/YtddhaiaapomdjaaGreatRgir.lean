/-
  Regions: a number put into an ascending list, of the reference; two lists of rectangles one after the other.
-/
import Derived.Test.YtddhaiaapomdjaaGreatRgvr
set_option linter.unusedVariables false
set_option linter.unusedSimpArgs false
namespace Go.Proofs.YtddhaiaapomdjaaGreat
set_option linter.unusedVariables false
set_option linter.unusedSimpArgs false
open Go Go.ChangeShapes Go.WideShapes Go.ChangeAt Go.RowKit Go.Deep

namespace RG
theorem elInt : ElT Tryz.prog 44 3 1 8 := elT_of (.int .i64 0) Tryz.underlying44 (by kernel_rfl) rfl
theorem elRect : ElT Tryz.prog 22 70 4 32 := elT_of (.agg #[iv 0, iv 0, iv 0, iv 0]) (by kernel_rfl) (by kernel_rfl) (by kernel_rfl)
theorem own_slr {w : World} {base : Nat} {e : TypeId} {A : Option Addr} {n d : Nat} {xs : List Rc} (h : OwnL w base e 4 rcL (.slice A n d) xs) : SlR w A d xs := by
  obtain ⟨_, h1, h2, h3⟩ := OwnL.rd (c := rcL) (fun _ => rfl) h
  exact ⟨h1, h2, by unfold maxLen at h3; omega⟩
theorem own_ge {α : Type} {c : α → List Value} {w : World} {base : Nat} {e : TypeId} {k n d : Nat} {A : Option Addr} {xs : List α} (h : OwnL w base e k c (.slice A n d) xs) : ∀ x, A = some x → base ≤ x.block := by
  intro x hx
  subst hx
  obtain ⟨h0, h1 | ⟨b, cap, cur, h1, hb, h2⟩⟩ := id h
  · cases h1.1
  · injection h1 with e1 e2 e3
    injection e1 with e1
    subst e1
    exact hb
end RG
end Go.Proofs.YtddhaiaapomdjaaGreat
