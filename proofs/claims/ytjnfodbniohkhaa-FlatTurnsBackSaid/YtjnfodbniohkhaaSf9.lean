/-
  Surfaces: a grid of the document's that is stored over.
-/
import Derived.Test.YtjnfodbniohkhaaRgk1
import Derived.Test.YtjnfodbniohkhaaSf8
set_option linter.unusedVariables false
set_option linter.unusedSimpArgs false
namespace Go.Proofs.Ytjnfodbniohkhaa
set_option linter.unusedVariables false
set_option linter.unusedSimpArgs false
open Go Go.ChangeShapes Go.WideShapes Go.ChangeAt Go.RowKit Go.Deep

namespace RG
def setB (c : Nat → Nat → Bool) (i j : Nat) (v : Bool) : Nat → Nat → Bool := fun p q => if p = i ∧ q = j then v else c p q
theorem sli_keep {w w' : World} {A : Option Addr} {a : Nat} {X : List Int} (h : SlI w A a X) (hk : X ≠ [] → ∀ x, A = some x → ∀ o, w'.cell? ⟨x.block, o, none⟩ = w.cell? ⟨x.block, o, none⟩) : SlI w' A a X := by
  by_cases hX : X = []
  · subst hX
    exact ⟨fun i x hx => by simp at hx, h.cap, h.capB⟩
  · exact ⟨rdl_keep h.rd (hk hX), h.cap, h.capB⟩
theorem GrO.keep {w w' : World} {X Y : List Int} {A B F : Option Addr} {a b f n : Nat} {R : Nat → Option Addr} {q : Nat → Nat} {c : Nat → Nat → Bool} (h : GrO w X Y A B F a b f n R q c) {Q : Nat → Prop} (hf : Fr A B F X Y n R Q) (hk : ∀ b o, Q b → w'.cell? ⟨b, o, none⟩ = w.cell? ⟨b, o, none⟩) : GrO w' X Y A B F a b f n R q c := by
  obtain ⟨f1, f2, f3, f4⟩ := hf
  refine ⟨sli_keep h.sx fun hX x hx o => hk _ _ (f1 hX x hx), sli_keep h.sy fun hX x hx o => hk _ _ (f2 hX x hx), h.hn, fun i hi => ?_, fun i j hi hj => ?_, h.cq, h.cf, h.cfB, h.n1, h.n2⟩
  · obtain ⟨bF, e, hc⟩ := h.rows i hi
    exact ⟨bF, e, (hk _ _ (f3 (by omega) _ e)).trans hc⟩
  · obtain ⟨bR, oR, e, hc⟩ := h.col i j hi hj
    exact ⟨bR, oR, e, (hk _ _ (f4 i hi (by omega) _ e)).trans hc⟩
theorem GrO.fr_lt {w : World} {X Y : List Int} {A B F : Option Addr} {a b f n : Nat} {R : Nat → Option Addr} {q : Nat → Nat} {c : Nat → Nat → Bool} (h : GrO w X Y A B F a b f n R q c) : Fr A B F X Y n R (· < w.heap.size) := by
  refine ⟨fun hX => sli_lt h.sx hX, fun hY => sli_lt h.sy hY, fun hn x hx => ?_, fun i hi hy a ha => ?_⟩
  · obtain ⟨bF, e, hc⟩ := h.rows 0 hn
    rw [hx] at e
    cases e
    exact cell_lt (by rw [hc]; rfl)
  · obtain ⟨bR, oR, e, hc⟩ := h.col i 0 hi hy
    rw [ha] at e
    cases e
    exact cell_lt (by rw [hc]; rfl)
theorem Fr.mono {A B F : Option Addr} {X Y : List Int} {n : Nat} {R : Nat → Option Addr} {Q Q' : Nat → Prop} (h : Fr A B F X Y n R Q) (k : ∀ b, Q b → Q' b) : Fr A B F X Y n R Q' :=
  ⟨fun hX x hx => k _ (h.1 hX x hx), fun hY x hx => k _ (h.2.1 hY x hx), fun hn x hx => k _ (h.2.2.1 hn x hx), fun i hi hy a ha => k _ (h.2.2.2 i hi hy a ha)⟩
theorem GrO.congr {w : World} {X Y : List Int} {A B F : Option Addr} {a b f n : Nat} {R : Nat → Option Addr} {q : Nat → Nat} {c d : Nat → Nat → Bool} (h : GrO w X Y A B F a b f n R q c) (e : ∀ i j, i < n → j < Y.length - 1 → c i j = d i j) : GrO w X Y A B F a b f n R q d :=
  ⟨h.sx, h.sy, h.hn, h.rows, fun i j hi hj => by rw [← e i j hi hj]; exact h.col i j hi hj, h.cq, h.cf, h.cfB, h.n1, h.n2⟩
theorem Ow.gr {w w' : World} {A B F : Option Addr} {X Y : List Int} {n : Nat} {R : Nat → Option Addr} (h : Ow w A B F X Y n R) (hs : ∀ i, i < n → ∀ a, R i = some a → a.block < w.heap.size) (g : Gr w w') : Ow w' A B F X Y n R := fun i hi a ha => by
  obtain ⟨h1, h2⟩ := h i hi a ha
  exact ⟨fun o => (g.frozen _ _ (hs i hi a ha)).trans (h1 o), h2⟩
theorem GrO.store {w : World} {X Y : List Int} {A B F : Option Addr} {a b f n : Nat} {R : Nat → Option Addr} {q : Nat → Nat} {c : Nat → Nat → Bool} (h : GrO w X Y A B F a b f n R q c) (o : Ow w A B F X Y n R) {i j bR oR : Nat} (hi : i < n) (hj : j < Y.length - 1) (hR : R i = some ⟨bR, oR, none⟩) (v : Bool) :
    GrO (w.setCell ⟨bR, oR + j, none⟩ (.bool v)) X Y A B F a b f n R q (setB c i j v) ∧ Ow (w.setCell ⟨bR, oR + j, none⟩ (.bool v)) A B F X Y n R := by
  have oth : ∀ b o, b ≠ bR → (w.setCell ⟨bR, oR + j, none⟩ (.bool v)).cell? ⟨b, o, none⟩ = w.cell? ⟨b, o, none⟩ := fun b o hb => World.cell?_of_block (heap_setCell_other w ⟨bR, oR + j, none⟩ b (.bool v) (fun e => hb (by simpa using e)))
  obtain ⟨o1, o2, o3, o4, o5⟩ := o i hi _ hR
  refine ⟨⟨sli_keep h.sx fun hX x hx o => oth _ _ (o2 hX x hx), sli_keep h.sy fun hX x hx o => oth _ _ (o3 hX x hx), h.hn, fun p hp => ?_, fun p s hp hs => ?_, h.cq, h.cf, h.cfB, h.n1, h.n2⟩, fun p hp a ha => ?_⟩
  · obtain ⟨bF, e, hc⟩ := h.rows p hp
    exact ⟨bF, e, (oth _ _ (o4 _ e)).trans hc⟩
  · obtain ⟨bP, oP, e, hc⟩ := h.col p s hp hs
    unfold setB
    by_cases e1 : p = i
    · subst e1
      rw [hR] at e
      cases e
      by_cases e2 : s = j
      · subst e2
        rw [if_pos ⟨rfl, rfl⟩]
        exact ⟨bR, oR, hR, World.cell?_setCell_same' _ _ _ (by rw [hc]; rfl)⟩
      · rw [if_neg (fun h => e2 h.2)]
        refine ⟨bR, oR, hR, ?_⟩
        rw [← hc]
        exact World.cell?_setCell_other (a := ⟨bR, oR + j, none⟩) (b := ⟨bR, oR + s, none⟩) (h := by intro h; injection h with _ h; omega) ..
    · rw [if_neg (fun h => e1 h.1)]
      exact ⟨bP, oP, e, (oth _ _ (o5 p hp e1 _ e)).trans hc⟩
  · obtain ⟨k1, k2⟩ := o p hp a ha
    exact ⟨fun o => by have := k1 o; simpa [go_sem] using this, k2⟩
/-- the first cells without those of d -/
def mkD (c d : Nat → Nat → Bool) (k j : Nat) : Nat → Nat → Bool := fun p s => if p < k ∨ p = k ∧ s < j then c p s && !d p s else c p s
theorem mkD_zero (c d : Nat → Nat → Bool) (p s : Nat) : mkD c d 0 0 p s = c p s := by unfold mkD; rw [if_neg (by omega)]
theorem mkD_row (c d : Nat → Nat → Bool) (k m : Nat) {p s : Nat} (hs : s < m) : mkD c d k m p s = mkD c d (k + 1) 0 p s := by
  unfold mkD
  by_cases h : p < k ∨ p = k ∧ s < m
  · rw [if_pos h, if_pos (by omega)]
  · rw [if_neg h, if_neg (by omega)]
theorem mkD_all (c d : Nat → Nat → Bool) {n p s : Nat} (hp : p < n) : mkD c d n 0 p s = (c p s && !d p s) := by unfold mkD; rw [if_pos (by omega)]
theorem mkD_no (c d : Nat → Nat → Bool) (k j p s : Nat) (h : d k j = false) : mkD c d k j p s = mkD c d k (j + 1) p s := by
  unfold mkD
  by_cases e : p = k ∧ s = j
  · obtain ⟨rfl, rfl⟩ := e
    rw [if_neg (by omega), if_pos (by omega), h]
    simp
  · by_cases h1 : p < k ∨ p = k ∧ s < j
    · rw [if_pos h1, if_pos (by omega)]
    · rw [if_neg h1, if_neg (by omega)]
theorem mkD_yes (c d : Nat → Nat → Bool) (k j p s : Nat) (h : d k j = true) : setB (mkD c d k j) k j false p s = mkD c d k (j + 1) p s := by
  unfold setB mkD
  by_cases e : p = k ∧ s = j
  · obtain ⟨rfl, rfl⟩ := e
    rw [if_pos ⟨rfl, rfl⟩, if_pos (by omega), h]
    simp
  · rw [if_neg e]
    by_cases h1 : p < k ∨ p = k ∧ s < j
    · rw [if_pos h1, if_pos (by omega)]
    · rw [if_neg h1, if_neg (by omega)]
end RG
end Go.Proofs.Ytjnfodbniohkhaa
