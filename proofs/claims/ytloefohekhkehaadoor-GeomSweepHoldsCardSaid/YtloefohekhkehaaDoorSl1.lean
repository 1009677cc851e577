/-
  Slices of points that are read: what lies in them; whether two are the same.
-/
import Derived.Test.YtloefohekhkehaaDoorGeo4
import Derived.Deep.LoopGhost
import Derived.Laws.StructEq
namespace Go.Proofs.YtloefohekhkehaaDoor
set_option linter.unusedVariables false
set_option linter.unusedSimpArgs false
open Go Go.ChangeShapes Go.WideShapes Go.ChangeAt Go.RowKit Go.Deep

/-- A point's four numbers. -/
abbrev Pt := Int × Int × Int × Int
abbrev pv (p : Pt) : Value := pt p.1 p.2.1 p.2.2.1 p.2.2.2
/-- At the address A lie the points xs. -/
def Rd (w : World) (A : Option Addr) (xs : List Pt) : Prop :=
  ∀ i p, xs[i]? = some p → ∃ b off, A = some ⟨b, off, none⟩ ∧ w.cell? ⟨b, off + i * 4, none⟩ = some (iv p.1) ∧ w.cell? ⟨b, off + i * 4 + 1, none⟩ = some (iv p.2.1) ∧
    w.cell? ⟨b, off + i * 4 + 2, none⟩ = some (iv p.2.2.1) ∧ w.cell? ⟨b, off + i * 4 + 3, none⟩ = some (iv p.2.2.2)
theorem Rd.gr {a b : World} {A : Option Addr} {xs : List Pt} (h : Rd a A xs) (g : Gr a b) : Rd b A xs := by
  intro i p hp
  obtain ⟨k, off, e, h0, h1, h2, h3⟩ := h i p hp
  exact ⟨k, off, e, (g.cell _ _ (cell_lt (by rw [h0]; rfl))).trans h0, (g.cell _ _ (cell_lt (by rw [h1]; rfl))).trans h1, (g.cell _ _ (cell_lt (by rw [h2]; rfl))).trans h2, (g.cell _ _ (cell_lt (by rw [h3]; rfl))).trans h3⟩
theorem sPt : Tryd.prog.underlying 34 = some (.struct (Tryd.prog.fieldsOf 34)) := by kernel_rfl
theorem sRt : Tryd.prog.underlying 32 = some (.struct (Tryd.prog.fieldsOf 32)) := by kernel_rfl
theorem pPt : Tryd.prog.stoodInHeld 34 = false := by kernel_rfl
theorem pRt : Tryd.prog.stoodInHeld 32 = false := by kernel_rfl
theorem gPt : Tryd.prog.eqGuardType Tryd.prog.depth 34 = false := by kernel_rfl
theorem gRt : Tryd.prog.eqGuardType Tryd.prog.depth 32 = false := by kernel_rfl
theorem eqInRt (d : Nat) (a b x y : Int) (w : World) : (Op.equalIn (d + 2) 32 (rt a b) (rt x y)).run Tryd.prog w = .ok (a == x && b == y) w := by
  have u3 := Tryd.underlying3
  have a3 := Tryd.isAgg3
  have z3 := Tryd.sizeOf3
  rw [run_equalIn_agg w (d + 1) 32 _ _ sRt pRt]
  simp only [Program.fieldsOf, Tryd.underlying32]
  go_simp
  by_cases h1 : a = x <;> by_cases h2 : b = y <;> simp [h1, h2]
theorem eqInPt (p q : Pt) (w : World) : (Op.equalIn 10000 34 (pv p) (pv q)).run Tryd.prog w = .ok (decide (p = q)) w := by
  have aR := Tryd.isAgg32
  have zR := Tryd.sizeOf32
  have eR := eqInRt 9997
  rw [show (10000 : Nat) = 9999 + 1 from rfl, run_equalIn_agg w 9999 34 _ _ sPt pPt]
  simp only [Program.fieldsOf, Tryd.underlying34]
  go_simp
  obtain ⟨a, b, c, d⟩ := p
  obtain ⟨a', b', c', d'⟩ := q
  by_cases h1 : a = a' <;> by_cases h2 : b = b' <;> by_cases h3 : c = c' <;> by_cases h4 : d = d' <;> simp [h1, h2, h3, h4]
theorem take_succ_eq {α : Type} {xs ys : List α} {k : Nat} {p q : α} (hp : xs[k]? = some p) (hq : ys[k]? = some q) (h : xs.take k = ys.take k) (e : p = q) : xs.take (k + 1) = ys.take (k + 1) := by
  rw [List.take_add_one, List.take_add_one, hp, hq, h, e]
def sameB (xs ys : List Pt) : Bool := decide (xs = ys)
set_option maxHeartbeats 400000 in
theorem samePoints_any (A B : Option Addr) (c d : Nat) (xs ys : List Pt) (w : World) (hx : Rd w A xs) (hy : Rd w B ys) (lx : xs.length ≤ 1000000) :
    Calls Tryd.prog 8 #[.slice A xs.length c, .slice B ys.length d] w fun e w' => e = .returned (.bool (sameB xs ys)) ∧ Gr w w' := by
  by_cases hl : xs.length = ys.length
  · have hlb : (((xs.length : Int) != (ys.length : Int)) = false) := by simp [hl]
    have HL := hide hl
    have HX := hide hx
    have HY := hide hy
    clear hl hx hy
    go_enter Tryd.func8, Tryd.ntmps8
    go_wp2
    go_loopw [5] (fun i wr => ∃ k : Nat, k ≤ xs.length ∧ i = iv k ∧ Gr w wr ∧ Hid (xs.take k = ys.take k)) (fun i _ => xs.length - (intOf i).toNat)
    case atStart => exact ⟨0, by omega, rfl, Gr.refl _, by simp [Hid]⟩
    case round =>
      obtain ⟨k, hk, rfl, g, HT⟩ := hrel
      by_cases hlt : k < xs.length
      · have hk2 : k < ys.length := by rw [← HL.out]; exact hlt
        obtain ⟨p, hp⟩ : ∃ p, xs[k]? = some p := ⟨_, List.getElem?_eq_getElem hlt⟩
        obtain ⟨q, hq⟩ : ∃ q, ys[k]? = some q := ⟨_, List.getElem?_eq_getElem hk2⟩
        obtain ⟨b, off, rfl, x0, x1, x2, x3⟩ := (HX.out.gr g) k p hp
        obtain ⟨b', off', rfl, y0, y1, y2, y3⟩ := (HY.out.gr g) k q hq
        have NEQ := fun w => eqInPt p q w
        have GP := gPt
        by_cases hpq : p = q
        · have HT' := take_succ_eq hp hq HT.out hpq
          have HT1 := hide HT'
          have hd : decide (p = q) = true := by simp [hpq]
          clear hp hq HT' HT hpq
          go_wp2_with fail
          go_quiet (fail)
          go_wp2
          go_roundw
          case rel => exact ⟨k + 1, by omega, by go_num, (by repeat (first | with_reducible exact Gr.refl _ | with_reducible assumption | with_reducible refine Gr.alloc ?_ _ | with_reducible refine Gr.drewN ?_ _ | with_reducible refine Gr.drew ?_ | with_reducible refine Gr.setCell ?_ (by first | (dsimp only; omega) | (simp only [World.size_alloc]; omega) | (with_reducible refine Gr.size ?_; (repeat (first | with_reducible exact Gr.refl _ | with_reducible assumption | with_reducible refine Gr.alloc ?_ _ | with_reducible refine Gr.drewN ?_ _ | with_reducible refine Gr.drew ?_ | with_reducible refine Gr.trans ?_ (by with_reducible assumption))); done)) _ | with_reducible refine Gr.trans ?_ (by with_reducible assumption))), HT1⟩
          case measure => simp [intOf]; omega
        · have hne : xs ≠ ys := fun e => hpq (by rw [e, hq] at hp; exact (Option.some.inj hp).symm)
          have HN := hide hne
          have hd : decide (p = q) = false := by simp [hpq]
          clear hp hq hpq hne
          go_wp2_with fail
          go_quiet (fail)
          go_wp2
          go_ret
          exact ⟨ret_bool (by simp [sameB, HN.out]), (by repeat (first | with_reducible exact Gr.refl _ | with_reducible assumption | with_reducible refine Gr.alloc ?_ _ | with_reducible refine Gr.drewN ?_ _ | with_reducible refine Gr.drew ?_ | with_reducible refine Gr.setCell ?_ (by first | (dsimp only; omega) | (simp only [World.size_alloc]; omega) | (with_reducible refine Gr.size ?_; (repeat (first | with_reducible exact Gr.refl _ | with_reducible assumption | with_reducible refine Gr.alloc ?_ _ | with_reducible refine Gr.drewN ?_ _ | with_reducible refine Gr.drew ?_ | with_reducible refine Gr.trans ?_ (by with_reducible assumption))); done)) _ | with_reducible refine Gr.trans ?_ (by with_reducible assumption)))⟩
      · obtain rfl : k = xs.length := by omega
        have hy : xs = ys := by
          have := HT.out
          rwa [List.take_length, HL.out, List.take_length] at this
        have HE := hide hy
        clear hy
        go_wp2
        go_ret
        exact ⟨ret_bool (by simp [sameB, HE.out]), (by repeat (first | with_reducible exact Gr.refl _ | with_reducible assumption | with_reducible refine Gr.alloc ?_ _ | with_reducible refine Gr.drewN ?_ _ | with_reducible refine Gr.drew ?_ | with_reducible refine Gr.setCell ?_ (by first | (dsimp only; omega) | (simp only [World.size_alloc]; omega) | (with_reducible refine Gr.size ?_; (repeat (first | with_reducible exact Gr.refl _ | with_reducible assumption | with_reducible refine Gr.alloc ?_ _ | with_reducible refine Gr.drewN ?_ _ | with_reducible refine Gr.drew ?_ | with_reducible refine Gr.trans ?_ (by with_reducible assumption))); done)) _ | with_reducible refine Gr.trans ?_ (by with_reducible assumption)))⟩
  · have hlb : (((xs.length : Int) != (ys.length : Int)) = true) := by simp; omega
    have HL := hide hl
    clear hl
    go_enter Tryd.func8, Tryd.ntmps8
    go_wp2
    go_ret
    exact ⟨ret_bool (by simp only [sameB]; rw [eq_comm, decide_eq_false_iff_not]; intro e; exact HL.out (by rw [e])), (by repeat (first | with_reducible exact Gr.refl _ | with_reducible assumption | with_reducible refine Gr.alloc ?_ _ | with_reducible refine Gr.drewN ?_ _ | with_reducible refine Gr.drew ?_ | with_reducible refine Gr.setCell ?_ (by first | (dsimp only; omega) | (simp only [World.size_alloc]; omega) | (with_reducible refine Gr.size ?_; (repeat (first | with_reducible exact Gr.refl _ | with_reducible assumption | with_reducible refine Gr.alloc ?_ _ | with_reducible refine Gr.drewN ?_ _ | with_reducible refine Gr.drew ?_ | with_reducible refine Gr.trans ?_ (by with_reducible assumption))); done)) _ | with_reducible refine Gr.trans ?_ (by with_reducible assumption)))⟩
end Go.Proofs.YtloefohekhkehaaDoor
