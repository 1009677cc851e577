/-
  Nests, plain: a valid piece that is turned is a valid piece; turns of a piece add up.
  Nests: lists of rectangles, and pieces, that are the same, by the reference.
-/
import Derived.Test.YtddhaiaapomdjaaGreatGJr
set_option linter.unusedVariables false
set_option linter.unusedSimpArgs false
namespace Go.Proofs.YtddhaiaapomdjaaGreat
set_option linter.unusedVariables false
set_option linter.unusedSimpArgs false
open Go Go.ChangeShapes Go.WideShapes Go.ChangeAt Go.RowKit Go.Deep

namespace RG
theorem pr_tn {p : Rc → Rc → Prop} (h1 : ∀ r s, p (R1 r) (R1 s) ↔ p r s) (h2 : ∀ u v r s, p (Sh u v r) (Sh u v s) ↔ p r s) (rs : List Rc) (r s : Rc) (k : Nat) : p (tnR rs k r) (tnR rs k s) ↔ p r s := by
  unfold tnR
  rw [h2]
  induction k with
  | zero => exact Iff.rfl
  | succ n ih => show p (R1 (RN n r)) (R1 (RN n s)) ↔ _; rw [h1, ih]
def ovP (r s : Rc) : Prop := (r.x < s.x + s.w ∧ s.x < r.x + r.w) ∧ r.y < s.y + s.h ∧ s.y < r.y + r.h
theorem ov_tn (rs : List Rc) (r s : Rc) (k : Nat) : ovP (tnR rs k r) (tnR rs k s) ↔ ovP r s :=
  pr_tn (fun r s => by simp only [ovP, R1]; omega) (fun u v r s => by simp only [ovP, Sh]; omega) rs r s k
theorem ovQ_iff {r s : Rc} (hr : vrR r = true) (hs : vrR s = true) : ovQ r s = true ↔ ovP r s := by
  have h1 : vrB r.x r.y r.w r.h = true := hr
  have h2 : vrB s.x s.y s.w s.h = true := hs
  unfold ovQ ovB ovP soB
  rw [h1, h2]
  simp only [Bool.and_eq_true, decide_eq_true_eq, true_and, Bool.true_and]
end RG
end Go.Proofs.YtddhaiaapomdjaaGreat
set_option linter.unusedVariables false
set_option linter.unusedSimpArgs false
namespace Go.Proofs.YtddhaiaapomdjaaGreat
set_option linter.unusedVariables false
set_option linter.unusedSimpArgs false
open Go Go.ChangeShapes Go.WideShapes Go.ChangeAt Go.RowKit Go.Deep

namespace RG
set_option maxHeartbeats 4000000 in
set_option maxRecDepth 100000 in
theorem sameR6_any (A B : Option Addr) (c d : Nat) (l : List Rc) (w : World) (hl : SlR w A c l) (hm : SlR w B d l) :
    Calls Tryz.prog 51 #[.slice A l.length c, .slice B l.length d] w fun e w' => e = .returned (.bool true) ∧ Gr w w' := by
  have n1 := hl.cap
  have n2 := hl.capB
  have n3 := hm.cap
  have HL := hide hl
  have HM := hide hm
  clear hl hm
  go_enter Tryz.func51, Tryz.ntmps51
  go_wp2
  go_loopw [5] (fun i wr => ∃ k : Nat, k ≤ l.length ∧ i = iv k ∧ Gr w wr) (fun i _ => l.length - (intOf i).toNat)
  case atStart => exact ⟨0, by omega, rfl, Gr.refl _⟩
  case round =>
    obtain ⟨k, hk, rfl, g⟩ := hrel
    by_cases hkl : k < l.length
    · obtain ⟨z, hz⟩ : ∃ z, l[k]? = some z := ⟨_, List.getElem?_eq_getElem hkl⟩
      obtain ⟨b, o, rfl, x0, x1, x2, x3⟩ := (HL.out.gr g).at_ hz
      obtain ⟨b', o', rfl, y0, y1, y2, y3⟩ := (HM.out.gr g).at_ hz
      have hk0 : (0 : Int) ≤ (k : Int) := by omega
      have hk1 : (k : Int) < (l.length : Int) := by omega
      clear hz
      go_wp2
      have GC := @GrW.cell
      refine wp_region_grw _ (by kernel_rfl) (by kernel_rfl) (Gr.refl _) ?_
      repeat (go_big_quiet_step ((first | fail)))
      refine wpQuiet_nil ?_
      intro wq hwq
      obtain ⟨gq, hwq'⟩ := hwq
      subst hwq'
      clear GC
      have gq1 := gq.gr
      generalize gq.w = wq at gq1 ⊢
      obtain ⟨Xq, Yq, cq, fq⟩ := gq1.use
      have sq := gq1.size
      (try simp only [World.size_alloc, World.size_setCell, World.heap_drewN] at sq)
      go_wp2
      go_roundw
      case rel => exact ⟨k + 1, by omega, by go_num, (by with_reducible repeat (first | exact Gr.refl _ | assumption | refine Gr.alloc ?_ _ | refine Gr.drewN ?_ _ | refine Gr.drew ?_ | refine Gr.setCell ?_ (by first | (dsimp only; omega) | (simp only [World.size_alloc]; omega) | (refine Gr.size ?_; (repeat (first | exact Gr.refl _ | assumption | refine Gr.alloc ?_ _ | refine Gr.drewN ?_ _ | refine Gr.drew ?_ | refine Gr.trans ?_ (by assumption))); done)) _ | refine Gr.trans ?_ (by assumption)))⟩
      case measure => simp only [intOf]; omega
    · obtain rfl : k = l.length := by omega
      go_wp2
      go_ret
      exact ⟨rfl, (by with_reducible repeat (first | exact Gr.refl _ | assumption | refine Gr.alloc ?_ _ | refine Gr.drewN ?_ _ | refine Gr.drew ?_ | refine Gr.setCell ?_ (by first | (dsimp only; omega) | (simp only [World.size_alloc]; omega) | (refine Gr.size ?_; (repeat (first | exact Gr.refl _ | assumption | refine Gr.alloc ?_ _ | refine Gr.drewN ?_ _ | refine Gr.drew ?_ | refine Gr.trans ?_ (by assumption))); done)) _ | refine Gr.trans ?_ (by assumption)))⟩
structure SrC (w0 : World) (A : Option Addr) (n c : Nat) (B : Option Addr) (m d : Nat) : Prop where
  use : ∀ w', Gr w0 w' → Calls Tryz.prog 51 #[.slice A n c, .slice B m d] w' fun e w'' => e = .returned (.bool true) ∧ Gr w' w''
theorem srC_of {w : World} {A B : Option Addr} {c d : Nat} {l : List Rc} (h : SlR w A c l) (k : SlR w B d l) : SrC w A l.length c B l.length d := ⟨fun w' g => sameR6_any A B c d l w' (h.gr g) (k.gr g)⟩
end RG
end Go.Proofs.YtddhaiaapomdjaaGreat
