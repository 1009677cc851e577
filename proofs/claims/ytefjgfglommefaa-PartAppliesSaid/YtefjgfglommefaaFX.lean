/-
  A face in memory that may be overwritten.
-/
import Derived.Test.YtefjgfglommefaaVal2
set_option linter.unusedVariables false
set_option linter.unusedSimpArgs false
namespace Go.Proofs.Ytefjgfglommefaa
set_option linter.unusedVariables false
set_option linter.unusedSimpArgs false
open Go Go.ChangeShapes Go.WideShapes Go.ChangeAt Go.RowKit Go.Deep

/-- a face lies at block B, where it may be overwritten -/
def FX (w : World) (B : Nat) (f : Fc) : Prop := (w.cell? ⟨B, 0, none⟩ = some (iv f.ox) ∧ w.cell? ⟨B, 1, none⟩ = some (iv f.oy) ∧ w.cell? ⟨B, 2, none⟩ = some (iv f.oz) ∧ w.cell? ⟨B, 3, none⟩ = some (iv f.ux) ∧ w.cell? ⟨B, 4, none⟩ = some (iv f.uy) ∧ w.cell? ⟨B, 5, none⟩ = some (iv f.uz) ∧ w.cell? ⟨B, 6, none⟩ = some (iv f.vx) ∧ w.cell? ⟨B, 7, none⟩ = some (iv f.vy) ∧ w.cell? ⟨B, 8, none⟩ = some (iv f.vz) ∧ w.cell? ⟨B, 9, none⟩ = some (iv f.w) ∧ w.cell? ⟨B, 10, none⟩ = some (iv f.h)) ∧ w.frozen? ⟨B, 0, none⟩ = false ∧ w.frozen? ⟨B, 1, none⟩ = false ∧ w.frozen? ⟨B, 2, none⟩ = false ∧ w.frozen? ⟨B, 3, none⟩ = false ∧ w.frozen? ⟨B, 4, none⟩ = false ∧ w.frozen? ⟨B, 5, none⟩ = false ∧ w.frozen? ⟨B, 6, none⟩ = false ∧ w.frozen? ⟨B, 7, none⟩ = false ∧ w.frozen? ⟨B, 8, none⟩ = false ∧ w.frozen? ⟨B, 9, none⟩ = false ∧ w.frozen? ⟨B, 10, none⟩ = false
theorem FX.lt {w : World} {B : Nat} {f : Fc} (h : FX w B f) : B < w.heap.size := cell_lt (by rw [h.1.1]; rfl)
theorem FX.gr {w w' : World} {B : Nat} {f : Fc} (h : FX w B f) (g : Gr w w') : FX w' B f := by
  have hb := h.lt
  obtain ⟨⟨a0, a1, a2, a3, a4, a5, a6, a7, a8, a9, a10⟩, ⟨p0, p1, p2, p3, p4, p5, p6, p7, p8, p9, p10⟩⟩ := h
  obtain ⟨X, Y, c, fr⟩ := g.use
  refine ⟨⟨?_, ?_, ?_, ?_, ?_, ?_, ?_, ?_, ?_, ?_, ?_⟩, ?_, ?_, ?_, ?_, ?_, ?_, ?_, ?_, ?_, ?_, ?_⟩ <;> simp [*]
def FXset (w : World) (B : Nat) (f : Fc) : World := (((((((((((w.setCell ⟨B, 0, none⟩ (iv f.ox)).setCell ⟨B, 1, none⟩ (iv f.oy)).setCell ⟨B, 2, none⟩ (iv f.oz)).setCell ⟨B, 3, none⟩ (iv f.ux)).setCell ⟨B, 4, none⟩ (iv f.uy)).setCell ⟨B, 5, none⟩ (iv f.uz)).setCell ⟨B, 6, none⟩ (iv f.vx)).setCell ⟨B, 7, none⟩ (iv f.vy)).setCell ⟨B, 8, none⟩ (iv f.vz)).setCell ⟨B, 9, none⟩ (iv f.w)).setCell ⟨B, 10, none⟩ (iv f.h))
set_option maxRecDepth 100000 in
set_option maxHeartbeats 2000000 in
theorem FX.set {w : World} {B : Nat} {f0 : Fc} (h : FX w B f0) (f : Fc) : FX (FXset w B f) B f := by
  have hb := h.lt
  obtain ⟨⟨a0, a1, a2, a3, a4, a5, a6, a7, a8, a9, a10⟩, ⟨p0, p1, p2, p3, p4, p5, p6, p7, p8, p9, p10⟩⟩ := h
  unfold FXset
  refine ⟨⟨?_, ?_, ?_, ?_, ?_, ?_, ?_, ?_, ?_, ?_, ?_⟩, ?_, ?_, ?_, ?_, ?_, ?_, ?_, ?_, ?_, ?_, ?_⟩ <;> simp [go_sem, *]
theorem gr_set {w0 w : World} {B : Nat} (f : Fc) (g : Gr w0 w) (h : w0.heap.size ≤ B) : Gr w0 (FXset w B f) := by
  unfold FXset
  exact (Gr.setCell (Gr.setCell (Gr.setCell (Gr.setCell (Gr.setCell (Gr.setCell (Gr.setCell (Gr.setCell (Gr.setCell (Gr.setCell (Gr.setCell g (by first | (dsimp only; omega) | (simp only [World.size_alloc]; omega)) _) (by dsimp only; omega) _) (by dsimp only; omega) _) (by dsimp only; omega) _) (by dsimp only; omega) _) (by dsimp only; omega) _) (by dsimp only; omega) _) (by dsimp only; omega) _) (by dsimp only; omega) _) (by dsimp only; omega) _) (by dsimp only; omega) _)
theorem size_set (w : World) (B : Nat) (f : Fc) : (FXset w B f).heap.size = w.heap.size := by
  unfold FXset
  simp only [World.size_setCell]
theorem FX.alloc (w : World) (f : Fc) : FX (w.alloc (.cells #[iv f.ox, iv f.oy, iv f.oz, iv f.ux, iv f.uy, iv f.uz, iv f.vx, iv f.vy, iv f.vz, iv f.w, iv f.h] 44)) w.heap.size f := by
  refine ⟨⟨?_, ?_, ?_, ?_, ?_, ?_, ?_, ?_, ?_, ?_, ?_⟩, ?_, ?_, ?_, ?_, ?_, ?_, ?_, ?_, ?_, ?_, ?_⟩ <;> simp [go_sem]
set_option maxRecDepth 100000 in
set_option maxHeartbeats 2000000 in
theorem FX.other {w : World} {B C : Nat} {f0 : Fc} (h : FX w C f0) (f : Fc) (hne : C ≠ B) : FX (FXset w B f) C f0 := by
  obtain ⟨⟨a0, a1, a2, a3, a4, a5, a6, a7, a8, a9, a10⟩, ⟨p0, p1, p2, p3, p4, p5, p6, p7, p8, p9, p10⟩⟩ := h
  unfold FXset
  refine ⟨⟨?_, ?_, ?_, ?_, ?_, ?_, ?_, ?_, ?_, ?_, ?_⟩, ?_, ?_, ?_, ?_, ?_, ?_, ?_, ?_, ?_, ?_, ?_⟩ <;> simp [go_sem, *]
end Go.Proofs.Ytefjgfglommefaa
