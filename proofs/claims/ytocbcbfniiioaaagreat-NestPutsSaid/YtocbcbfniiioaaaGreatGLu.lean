/-
  Nests, plain: a valid piece that is turned is a valid piece; turns of a piece add up.
  Nests: lists of rectangles, and pieces, that are the same, by the reference.
  Nests: the law NestTurns.
-/
import Derived.Test.YtocbcbfniiioaaaGreatGJu
set_option linter.unusedVariables false
set_option linter.unusedSimpArgs false
namespace Go.Proofs.YtocbcbfniiioaaaGreat
set_option linter.unusedVariables false
set_option linter.unusedSimpArgs false
open Go Go.ChangeShapes Go.WideShapes Go.ChangeAt Go.RowKit Go.Deep

namespace RG
def ovP (r s : Rc) : Prop := (r.x < s.x + s.w ∧ s.x < r.x + r.w) ∧ r.y < s.y + s.h ∧ s.y < r.y + r.h
def stP (r s : Rc) : Prop := (s.x < r.x ∧ s.y < r.y) ∧ r.x + r.w < s.x + s.w ∧ r.y + r.h < s.y + s.h
def nbP (r s : Rc) : Prop := (bigI r.x s.x ≤ lesI (r.x + r.w) (s.x + s.w) ∧ bigI r.y s.y ≤ lesI (r.y + r.h) (s.y + s.h)) ∧ (bigI r.x s.x < lesI (r.x + r.w) (s.x + s.w) ∨ bigI r.y s.y < lesI (r.y + r.h) (s.y + s.h))
theorem bl_le (a b c d : Int) : bigI a b ≤ lesI c d ↔ (a ≤ c ∧ a ≤ d) ∧ b ≤ c ∧ b ≤ d := by
  unfold bigI lesI
  split <;> split <;> omega
theorem bl_lt (a b c d : Int) : bigI a b < lesI c d ↔ (a < c ∧ a < d) ∧ b < c ∧ b < d := by
  unfold bigI lesI
  split <;> split <;> omega
theorem ovQ_iff {r s : Rc} (hr : vrR r = true) (hs : vrR s = true) : ovQ r s = true ↔ ovP r s := by
  have h1 : vrB r.x r.y r.w r.h = true := hr
  have h2 : vrB s.x s.y s.w s.h = true := hs
  unfold ovQ ovB ovP soB
  rw [h1, h2]
  simp only [Bool.and_eq_true, decide_eq_true_eq, true_and, Bool.true_and]
theorem stB_iff {r s : Rc} (hr : vrR r = true) (hs : vrR s = true) : stB r s = true ↔ stP r s := by
  unfold stB
  rw [isR_iff]
  have a := vrR_iff.1 hr
  have b := vrR_iff.1 hs
  have a1 := a.w; have a2 := a.h; have a3 := a.x; have a4 := a.y; have a5 := a.x'; have a6 := a.y'
  have b1 := b.w; have b2 := b.h; have b3 := b.x; have b4 := b.y; have b5 := b.x'; have b6 := b.y'
  unfold stP
  dsimp only
  constructor
  · rintro ⟨_, h1, h2⟩
    omega
  · rintro ⟨h1, h2⟩
    exact ⟨⟨hr, vrR_iff.2 ⟨by dsimp only; omega, by dsimp only; omega, by dsimp only; omega, by dsimp only; omega, by dsimp only; omega, by dsimp only; omega⟩⟩, by omega, by omega⟩
theorem nbB_iff (r s : Rc) : nbB r s = true ↔ nbP r s := by
  unfold nbB coB nbP
  simp only [Bool.and_eq_true, Bool.or_eq_true, decide_eq_true_eq]
end RG
end Go.Proofs.YtocbcbfniiioaaaGreat
set_option linter.unusedVariables false
set_option linter.unusedSimpArgs false
namespace Go.Proofs.YtocbcbfniiioaaaGreat
set_option linter.unusedVariables false
set_option linter.unusedSimpArgs false
open Go Go.ChangeShapes Go.WideShapes Go.ChangeAt Go.RowKit Go.Deep

namespace RG
set_option maxHeartbeats 4000000 in
set_option maxRecDepth 100000 in
theorem sameR6_any (A B : Option Addr) (c d : Nat) (l : List Rc) (w : World) (hl : SlR w A c l) (hm : SlR w B d l) :
    Calls Tryz.prog 56 #[.slice A l.length c, .slice B l.length d] w fun e w' => e = .returned (.bool true) ∧ Gr w w' := by
  have n1 := hl.cap
  have n2 := hl.capB
  have n3 := hm.cap
  have HL := hide hl
  have HM := hide hm
  clear hl hm
  go_enter Tryz.func56, Tryz.ntmps56
  go_wp2
  go_loopw [5] (fun i wr => ∃ k : Nat, k ≤ l.length ∧ i = iv k ∧ Gr w wr) (fun i _ => l.length - (intOf i).toNat)
  case atStart => exact ⟨0, by omega, rfl, Gr.refl _⟩
  case round =>
    obtain ⟨k, hk, rfl, g⟩ := hrel
    by_cases hkl : k < l.length
    · obtain ⟨z, hz⟩ : ∃ z, l[k]? = some z := ⟨_, List.getElem?_eq_getElem hkl⟩
      obtain ⟨b, o, rfl, x0, x1, x2, x3⟩ := (HL.out.gr g).at_ hz
      obtain ⟨b', o', rfl, y0, y1, y2, y3⟩ := (HM.out.gr g).at_ hz
      have hk0 : (0 : Int) ≤ (k : Int) := by omega
      have hk1 : (k : Int) < (l.length : Int) := by omega
      clear hz
      go_wp2
      have GC := @GrW.cell
      refine wp_region_grw _ (by kernel_rfl) (by kernel_rfl) (Gr.refl _) ?_
      repeat (go_big_quiet_step ((first | fail)))
      refine wpQuiet_nil ?_
      intro wq hwq
      obtain ⟨gq, hwq'⟩ := hwq
      subst hwq'
      clear GC
      have gq1 := gq.gr
      generalize gq.w = wq at gq1 ⊢
      obtain ⟨Xq, Yq, cq, fq⟩ := gq1.use
      have sq := gq1.size
      (try simp only [World.size_alloc, World.size_setCell, World.heap_drewN] at sq)
      go_wp2
      go_roundw
      case rel => exact ⟨k + 1, by omega, by go_num, (by repeat (first | with_reducible exact Gr.refl _ | with_reducible assumption | with_reducible refine Gr.alloc ?_ _ | with_reducible refine Gr.drewN ?_ _ | with_reducible refine Gr.drew ?_ | with_reducible refine Gr.setCell ?_ (by first | (dsimp only; omega) | (simp only [World.size_alloc]; omega) | (with_reducible refine Gr.size ?_; (repeat (first | with_reducible exact Gr.refl _ | with_reducible assumption | with_reducible refine Gr.alloc ?_ _ | with_reducible refine Gr.drewN ?_ _ | with_reducible refine Gr.drew ?_ | with_reducible refine Gr.trans ?_ (by with_reducible assumption))); done)) _ | with_reducible refine Gr.trans ?_ (by with_reducible assumption)))⟩
      case measure => simp only [intOf]; omega
    · obtain rfl : k = l.length := by omega
      go_wp2
      go_ret
      exact ⟨rfl, (by repeat (first | with_reducible exact Gr.refl _ | with_reducible assumption | with_reducible refine Gr.alloc ?_ _ | with_reducible refine Gr.drewN ?_ _ | with_reducible refine Gr.drew ?_ | with_reducible refine Gr.setCell ?_ (by first | (dsimp only; omega) | (simp only [World.size_alloc]; omega) | (with_reducible refine Gr.size ?_; (repeat (first | with_reducible exact Gr.refl _ | with_reducible assumption | with_reducible refine Gr.alloc ?_ _ | with_reducible refine Gr.drewN ?_ _ | with_reducible refine Gr.drew ?_ | with_reducible refine Gr.trans ?_ (by with_reducible assumption))); done)) _ | with_reducible refine Gr.trans ?_ (by with_reducible assumption)))⟩
structure SrC (w0 : World) (A : Option Addr) (n c : Nat) (B : Option Addr) (m d : Nat) : Prop where
  use : ∀ w', Gr w0 w' → Calls Tryz.prog 56 #[.slice A n c, .slice B m d] w' fun e w'' => e = .returned (.bool true) ∧ Gr w' w''
theorem srC_of {w : World} {A B : Option Addr} {c d : Nat} {l : List Rc} (h : SlR w A c l) (k : SlR w B d l) : SrC w A l.length c B l.length d := ⟨fun w' g => sameR6_any A B c d l w' (h.gr g) (k.gr g)⟩
set_option maxHeartbeats 4000000 in
set_option maxRecDepth 100000 in
theorem sameP6_any (nm mt : ByteArray) (ga gr : Int) (A1 A2 A3 B1 B2 B3 : Option Addr) (a1 a2 a3 b1 b2 b3 n1 n2 n3 : Nat) (w : World) (h1 : SrC w A1 n1 a1 B1 n1 b1) (h2 : SrC w A2 n2 a2 B2 n2 b2) (h3 : SrC w A3 n3 a3 B3 n3 b3) :
    Calls Tryz.prog 19 #[pcvv nm mt ga gr (.slice A1 n1 a1) (.slice A2 n2 a2) (.slice A3 n3 a3), pcvv nm mt ga gr (.slice B1 n1 b1) (.slice B2 n2 b2) (.slice B3 n3 b3)] w fun e w' => e = .returned (.bool true) ∧ Gr w w' := by
  go_enter Tryz.func19, Tryz.ntmps19
  go_wp2_with (first | (go_at_call 56; refine (SrC.use (by with_reducible assumption) _ (by repeat (first | with_reducible exact Gr.refl _ | with_reducible assumption | with_reducible refine Gr.alloc ?_ _ | with_reducible refine Gr.drewN ?_ _ | with_reducible refine Gr.drew ?_ | with_reducible refine Gr.setCell ?_ (by first | (dsimp only; omega) | (simp only [World.size_alloc]; omega) | (with_reducible refine Gr.size ?_; (repeat (first | with_reducible exact Gr.refl _ | with_reducible assumption | with_reducible refine Gr.alloc ?_ _ | with_reducible refine Gr.drewN ?_ _ | with_reducible refine Gr.drew ?_ | with_reducible refine Gr.trans ?_ (by with_reducible assumption))); done)) _ | with_reducible refine Gr.trans ?_ (by with_reducible assumption)))).mono ?_; rintro e w1 ⟨rfl, g1⟩; obtain ⟨X1, Y1, c1, f1⟩ := g1.use; have z1 := g1.size; (try simp only [World.size_alloc, World.size_setCell, World.heap_drewN, Nat.add_one_le_iff] at z1); (try have l0 : w.heap.size < w1.heap.size := by omega); (try have l1 : w.heap.size + 1 < w1.heap.size := by omega); (try have l2 : w.heap.size + 1 + 1 < w1.heap.size := by omega)))
  go_ret
  exact ⟨rfl, (by repeat (first | with_reducible exact Gr.refl _ | with_reducible assumption | with_reducible refine Gr.alloc ?_ _ | with_reducible refine Gr.drewN ?_ _ | with_reducible refine Gr.drew ?_ | with_reducible refine Gr.setCell ?_ (by first | (dsimp only; omega) | (simp only [World.size_alloc]; omega) | (with_reducible refine Gr.size ?_; (repeat (first | with_reducible exact Gr.refl _ | with_reducible assumption | with_reducible refine Gr.alloc ?_ _ | with_reducible refine Gr.drewN ?_ _ | with_reducible refine Gr.drew ?_ | with_reducible refine Gr.trans ?_ (by with_reducible assumption))); done)) _ | with_reducible refine Gr.trans ?_ (by with_reducible assumption)))⟩
end RG
end Go.Proofs.YtocbcbfniiioaaaGreat
set_option linter.unusedVariables false
set_option linter.unusedSimpArgs false
namespace Go.Proofs.YtocbcbfniiioaaaGreat
set_option linter.unusedVariables false
set_option linter.unusedSimpArgs false
open Go Go.ChangeShapes Go.WideShapes Go.ChangeAt Go.RowKit Go.Deep

namespace RG
end RG
end Go.Proofs.YtocbcbfniiioaaaGreat
