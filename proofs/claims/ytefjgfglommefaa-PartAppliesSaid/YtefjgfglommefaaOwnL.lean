/-
  Slices of the call's own, of whatever elements; faces among them.
-/
import Derived.Test.YtefjgfglommefaaVal7
import Derived.Deep.RegionHeld3
import Derived.Deep.RegionLaw
import Derived.Deep.AppendLies
set_option linter.unusedVariables false
set_option linter.unusedSimpArgs false
namespace Go.Proofs.Ytefjgfglommefaa
set_option linter.unusedVariables false
set_option linter.unusedSimpArgs false
open Go Go.ChangeShapes Go.WideShapes Go.ChangeAt Go.RowKit Go.Deep

def OwnL (w : World) (base : Nat) (e : TypeId) (k : Nat) {α : Type} (c : α → List Value) (v : Value) (xs : List α) : Prop := w.ownsRow base e k v xs.length (xs.flatMap c)
theorem fm_len {α : Type} {c : α → List Value} {k : Nat} (hc : ∀ x, (c x).length = k) : ∀ xs : List α, (xs.flatMap c).length = xs.length * k
  | [] => by simp
  | x :: xs => by
    rw [List.flatMap_cons, List.length_append, hc, fm_len hc xs, List.length_cons, Nat.succ_mul, Nat.add_comm]
theorem fm_at {α : Type} {c : α → List Value} {k : Nat} (hc : ∀ x, (c x).length = k) : ∀ (xs : List α) (i : Nat) (x : α) (j : Nat), xs[i]? = some x → j < k → (xs.flatMap c)[i * k + j]? = (c x)[j]?
  | [], i, x, j, h, _ => by simp at h
  | y :: ys, 0, x, j, h, hj => by
    simp only [List.getElem?_cons_zero, Option.some.injEq] at h
    subst h
    rw [List.flatMap_cons, List.getElem?_append_left (by rw [hc]; omega), Nat.zero_mul, Nat.zero_add]
  | y :: ys, i + 1, x, j, h, hj => by
    have := fm_at hc ys i x j (by simpa using h) hj
    rw [List.flatMap_cons, List.getElem?_append_right (by rw [hc, Nat.succ_mul]; omega), hc, ← this]
    congr 1
    rw [Nat.succ_mul]
    omega
theorem fm_snoc {α : Type} {c : α → List Value} (xs : List α) (x : α) : (xs ++ [x]).flatMap c = xs.flatMap c ++ c x := by simp
theorem OwnL.rd {α : Type} {c : α → List Value} {w : World} {base : Nat} {e : TypeId} {k : Nat} {A : Option Addr} {n d : Nat} {xs : List α} (hc : ∀ x, (c x).length = k) (h : OwnL w base e k c (.slice A n d) xs) :
    n = xs.length ∧ RdL w k c A xs ∧ xs.length ≤ d ∧ d ≤ maxLen := by
  obtain ⟨h0, ⟨h1, h2⟩ | ⟨g, cap, cur, h1, _, h2, h3, h4, h5, h6⟩⟩ := id h
  · have : xs = [] := List.eq_nil_of_length_eq_zero h2
    subst this
    injection h1 with _ h1 h3
    exact ⟨h1, fun i p hp => by simp at hp, by simp, by omega⟩
  · injection h1 with e1 e2 e3
    subst e1 e2 e3
    refine ⟨rfl, fun i p hp => ⟨g, 0, rfl, at_of fun j v hj => ?_⟩, h3, h4⟩
    have hcl := World.ownsRow.cellAt (w := w) (h : w.ownsRow base e k (.slice (some ⟨g, 0, none⟩) xs.length d) xs.length (xs.flatMap c))
    have hi : i < xs.length := (List.getElem?_eq_some_iff.1 hp).1
    have hj2 : j < k := by rw [← hc p]; exact (List.getElem?_eq_some_iff.1 hj).1
    have hlt : i * k + j < xs.length * k := by
      have : (i + 1) * k ≤ xs.length * k := Nat.mul_le_mul_right k hi
      rw [Nat.succ_mul] at this
      omega
    rw [Nat.zero_add, hcl _ (by omega), fm_at hc xs i p j hp hj2]
    exact hj
theorem OwnL.slice {α : Type} {c : α → List Value} {w : World} {base : Nat} {e : TypeId} {k : Nat} {v : Value} {xs : List α} (h : OwnL w base e k c v xs) : ∃ A d, v = .slice A xs.length d := by
  obtain ⟨h0, ⟨h1, h2⟩ | ⟨g, cap, cur, h1, _⟩⟩ := id h
  · exact ⟨none, 0, by rw [h1, h2]⟩
  · exact ⟨_, _, h1⟩
theorem OwnL.gr {α : Type} {c : α → List Value} {w w' : World} {base : Nat} {e : TypeId} {k : Nat} {v : Value} {xs : List α} (h : OwnL w base e k c v xs) (g : Gr w w') : OwnL w' base e k c v xs := by
  obtain ⟨h0, h1 | ⟨b, cap, cur, h1, hb, h2, h3⟩⟩ := id h
  · exact ⟨h0, .inl h1⟩
  · refine ⟨h0, .inr ⟨b, cap, cur, h1, hb, ?_, h3⟩⟩
    have hlt : b < w.heap.size := (Array.getElem?_eq_some_iff.1 h2).1
    rw [← h2]
    exact g.block b hlt
theorem OwnL.rdC {w : World} {base : Nat} {e : TypeId} {A : Option Addr} {n d : Nat} {xs : List Fc} (h : OwnL w base e 11 fcL (.slice A n d) xs) :
    n = xs.length ∧ RdL w 11 fcL A xs ∧ xs.length ≤ d ∧ d ≤ maxLen := OwnL.rd (c := fcL) (fun _ => rfl) h
theorem OwnL.weak {α : Type} {c : α → List Value} {w : World} {base lo : Nat} {e : TypeId} {k : Nat} {v : Value} {xs : List α} (h : OwnL w base e k c v xs) (hb : lo ≤ base) : OwnL w lo e k c v xs := by
  obtain ⟨h0, h1 | ⟨b, cap, cur, h1, hb', h2, h3⟩⟩ := id h
  · exact ⟨h0, .inl h1⟩
  · exact ⟨h0, .inr ⟨b, cap, cur, h1, Nat.le_trans hb hb', h2, h3⟩⟩
theorem own_gr {w w' : World} {base : Nat} {e : TypeId} {k n : Nat} {v : Value} {xs : List Value} (h : w.ownsRow base e k v n xs) (g : Gr w w') : w'.ownsRow base e k v n xs := by
  obtain ⟨h0, h1 | ⟨b, cap, cur, h1, hb, h2, h3⟩⟩ := id h
  · exact ⟨h0, .inl h1⟩
  · refine ⟨h0, .inr ⟨b, cap, cur, h1, hb, ?_, h3⟩⟩
    have hlt : b < w.heap.size := (Array.getElem?_eq_some_iff.1 h2).1
    rw [← h2]
    exact g.block b hlt
theorem infoFc : (Try.prog.info? 44).map (fun i => (i.zero, i.size, i.bytes)) = some (some (.agg #[.int .i64 0, .int .i64 0, .int .i64 0, .int .i64 0, .int .i64 0, .int .i64 0, .int .i64 0, .int .i64 0, .int .i64 0, .int .i64 0, .int .i64 0]), 11, 88) := by kernel_rfl
theorem rd1_fc (w : World) (f : Fc) : ∀ j u, (fcL f)[j]? = some u → (w.alloc (.cells #[iv f.ox, iv f.oy, iv f.oz, iv f.ux, iv f.uy, iv f.uz, iv f.vx, iv f.vy, iv f.vz, iv f.w, iv f.h] 44)).cell? ((⟨w.heap.size, 0, none⟩ : Addr).add j) = some u := by
  intro j u hu
  rw [addr_add]
  have hj : j < 11 := (List.getElem?_eq_some_iff.1 hu).1
  rcases (by omega : j = 0 ∨ j = 1 ∨ j = 2 ∨ j = 3 ∨ j = 4 ∨ j = 5 ∨ j = 6 ∨ j = 7 ∨ j = 8 ∨ j = 9 ∨ j = 10) with rfl | rfl | rfl | rfl | rfl | rfl | rfl | rfl | rfl | rfl | rfl <;> (simp at hu; subst hu; simp [go_sem])
theorem one_fc (f : Fc) : ∀ u ∈ fcL f, u.oneCell' = true := by
  intro u hu
  simp at hu
  rcases hu with rfl | rfl | rfl | rfl | rfl | rfl | rfl | rfl | rfl | rfl | rfl <;> rfl
theorem own_fc1 (w : World) (f : Fc) : OwnL (w.alloc (.cells #[iv f.ox, iv f.oy, iv f.oz, iv f.ux, iv f.uy, iv f.uz, iv f.vx, iv f.vy, iv f.vz, iv f.w, iv f.h] 44)) w.heap.size 44 11 fcL (.slice (some ⟨w.heap.size, 0, none⟩) 1 1) [f] := by
  refine ⟨rfl, .inr ⟨w.heap.size, 1, #[iv f.ox, iv f.oy, iv f.oz, iv f.ux, iv f.uy, iv f.uz, iv f.vx, iv f.vy, iv f.vz, iv f.w, iv f.h], rfl, Nat.le_refl _, ?_, Nat.le_refl _, by decide, rfl, by simp⟩⟩
  show (w.heap.push _)[w.heap.size]? = _
  simp
end Go.Proofs.Ytefjgfglommefaa
