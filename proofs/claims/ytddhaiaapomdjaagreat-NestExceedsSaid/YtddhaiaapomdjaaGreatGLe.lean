/-
 Nests, plain: a valid piece that is turned is a valid piece; turns of a piece add up.
 Nests: lists of rectangles, and pieces, that are the same, by the reference.
-/
import Derived.Test.YtddhaiaapomdjaaGreatGJe
set_option linter.unusedVariables false
set_option linter.unusedSimpArgs false
namespace Go.Proofs.YtddhaiaapomdjaaGreat
set_option linter.unusedVariables false
set_option linter.unusedSimpArgs false
open Go Go.ChangeShapes Go.WideShapes Go.ChangeAt Go.RowKit Go.Deep

namespace RG
theorem pr_tn {p : Rc → Rc → Prop} (h1 : ∀ r s, p (R1 r) (R1 s) ↔ p r s) (h2 : ∀ u v r s, p (Sh u v r) (Sh u v s) ↔ p r s) (rs : List Rc) (r s : Rc) (k : Nat) : p (tnR rs k r) (tnR rs k s) ↔ p r s := by
 unfold tnR
 rw [h2]
 induction k with
 | zero => exact Iff.rfl
 | succ n ih => show p (R1 (RN n r)) (R1 (RN n s)) ↔ _; rw [h1, ih]
def ovP (r s : Rc) : Prop := (r.x < s.x + s.w ∧ s.x < r.x + r.w) ∧ r.y < s.y + s.h ∧ s.y < r.y + r.h
def stP (r s : Rc) : Prop := (s.x < r.x ∧ s.y < r.y) ∧ r.x + r.w < s.x + s.w ∧ r.y + r.h < s.y + s.h
def nbP (r s : Rc) : Prop := (bigI r.x s.x ≤ lesI (r.x + r.w) (s.x + s.w) ∧ bigI r.y s.y ≤ lesI (r.y + r.h) (s.y + s.h)) ∧ (bigI r.x s.x < lesI (r.x + r.w) (s.x + s.w) ∨ bigI r.y s.y < lesI (r.y + r.h) (s.y + s.h))
theorem ov_tn (rs : List Rc) (r s : Rc) (k : Nat) : ovP (tnR rs k r) (tnR rs k s) ↔ ovP r s :=
 pr_tn (fun r s => by simp only [ovP, R1]; omega) (fun u v r s => by simp only [ovP, Sh]; omega) rs r s k
theorem bl_le (a b c d : Int) : bigI a b ≤ lesI c d ↔ (a ≤ c ∧ a ≤ d) ∧ b ≤ c ∧ b ≤ d := by
 unfold bigI lesI
 split <;> split <;> omega
theorem bl_lt (a b c d : Int) : bigI a b < lesI c d ↔ (a < c ∧ a < d) ∧ b < c ∧ b < d := by
 unfold bigI lesI
 split <;> split <;> omega
theorem ovQ_iff {r s : Rc} (hr : vrR r = true) (hs : vrR s = true) : ovQ r s = true ↔ ovP r s := by
 have h1 : vrB r.x r.y r.w r.h = true := hr
 have h2 : vrB s.x s.y s.w s.h = true := hs
 unfold ovQ ovB ovP soB
 rw [h1, h2]
 simp only [Bool.and_eq_true, decide_eq_true_eq, true_and, Bool.true_and]
theorem stB_iff {r s : Rc} (hr : vrR r = true) (hs : vrR s = true) : stB r s = true ↔ stP r s := by
 unfold stB
 rw [isR_iff]
 have a := vrR_iff.1 hr
 have b := vrR_iff.1 hs
 have a1 := a.w; have a2 := a.h; have a3 := a.x; have a4 := a.y; have a5 := a.x'; have a6 := a.y'
 have b1 := b.w; have b2 := b.h; have b3 := b.x; have b4 := b.y; have b5 := b.x'; have b6 := b.y'
 unfold stP
 dsimp only
 constructor
 ·rintro ⟨_, h1, h2⟩
  omega
 ·rintro ⟨h1, h2⟩
  exact ⟨⟨hr, vrR_iff.2 ⟨by dsimp only; omega, by dsimp only; omega, by dsimp only; omega, by dsimp only; omega, by dsimp only; omega, by dsimp only; omega⟩⟩, by omega, by omega⟩
theorem nbB_iff (r s : Rc) : nbB r s = true ↔ nbP r s := by
 unfold nbB coB nbP
 simp only [Bool.and_eq_true, Bool.or_eq_true, decide_eq_true_eq]
theorem wh_tn (rs : List Rc) (k : Nat) (r : Rc) : ((tnR rs k r).w = r.w ∧ (tnR rs k r).h = r.h) ∨ ((tnR rs k r).w = r.h ∧ (tnR rs k r).h = r.w) := by
 show ((RN k r).w = r.w ∧ (RN k r).h = r.h) ∨ ((RN k r).w = r.h ∧ (RN k r).h = r.w)
 induction k with
 | zero => exact .inl ⟨rfl, rfl⟩
 | succ n ih =>
  show ((RN n r).h = r.w ∧ (RN n r).w = r.h) ∨ ((RN n r).h = r.h ∧ (RN n r).w = r.w)
  omega
end RG
end Go.Proofs.YtddhaiaapomdjaaGreat
set_option linter.unusedVariables false
set_option linter.unusedSimpArgs false
namespace Go.Proofs.YtddhaiaapomdjaaGreat
set_option linter.unusedVariables false
set_option linter.unusedSimpArgs false
open Go Go.ChangeShapes Go.WideShapes Go.ChangeAt Go.RowKit Go.Deep

namespace RG
structure SrC (w0 : World) (A : Option Addr) (n c : Nat) (B : Option Addr) (m d : Nat) : Prop where
 use : ∀ w', Gr w0 w' → Calls Tryz.prog 51 #[.slice A n c, .slice B m d] w' fun e w'' => e = .returned (.bool true) ∧ Gr w' w''
end RG
end Go.Proofs.YtddhaiaapomdjaaGreat
