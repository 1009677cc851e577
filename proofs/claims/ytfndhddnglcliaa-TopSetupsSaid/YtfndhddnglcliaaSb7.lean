/-
  Least of the code, for any needs; what the laws' known returns.
-/
import Derived.Test.YtfndhddnglcliaaSb6
set_option linter.unusedVariables false
set_option linter.unusedSimpArgs false
namespace Go.Proofs.Ytfndhddnglcliaa
set_option linter.unusedVariables false
set_option linter.unusedSimpArgs false
open Go Go.ChangeShapes Go.WideShapes Go.ChangeAt Go.RowKit Go.Deep

/-- the smallest number of changes; 0 where there is an error -/
def leN (ns : List Nd) (s : Int) : Nat := if chE ns s = 0 then LS.outl s.toNat (mks ns) 0 else 0
abbrev ierr (a b : Int) : Value := .tuple #[iv a, iv b]
theorem ret_ie {a b c d : Int} (h : a = b) (k : c = d) : Ending.returned (ierr a c) = .returned (ierr b d) := by rw [h, k]
theorem mks_lt {ns : List Nd} (h : ndsB ns = true) : ∀ n ∈ mks ns, n < 512 := by
  intro n hn
  unfold mks at hn
  obtain ⟨x, hx, rfl⟩ := List.mem_map.1 hn
  exact mk_lt (inR_of (nds_in h hx).2)
set_option maxRecDepth 100000 in
set_option maxHeartbeats 4000000 in
theorem Least_any (A : Option Addr) (c : Nat) (ns : List Nd) (s : Int) (w : World) (hl : SlN w A c ns) :
    Calls Try.prog 4 #[.slice A ns.length c, iv s] w fun e w' => e = .returned (ierr (leN ns s) (chE ns s)) ∧ Gr w w' := by
  have HC := hide (scheck_any A c ns s w hl)
  by_cases h0 : chE ns s = 0
  · obtain ⟨h1, h2⟩ := chE_ok h0
    obtain ⟨h3, h4⟩ := wiB_iff.1 h2
    obtain ⟨q, rfl⟩ : ∃ q : Nat, s = q := ⟨s.toNat, by omega⟩
    have HN := hide (show leN ns (q : Int) = LS.outl q (mks ns) 0 by unfold leN; rw [if_pos h0]; rfl)
    have HS := hide (setsOf_any A c ns w hl h1)
    have hlen : (mks ns).length ≤ 24 := by rw [mks_len]; exact (vaE_ok h1).1
    have hml := mks_lt (vaE_ok h1).2
    have HU := hide (fun (A' : Option Addr) (d : Nat) (w' : World) (h : SlU w' A' d (mks ns)) => outlooks_any A' d (mks ns) q w' h hlen hml (by omega))
    rw [h0] at HC ⊢
    clear h0 h1 h2 hl hml
    generalize mks ns = ss at *
    go_enter Try.func4, Try.ntmps4
    go_wp2_with (first | (go_at_call 11; refine (HC.out).mono ?_; rintro e w1 ⟨rfl, rfl⟩))
    refine HS.out.mono ?_
    rintro e w1 ⟨A1, d1, rfl, o1, g1⟩
    have HL := hide (own_sub o1)
    clear o1
    go_wp2_with fail
    refine (HU.out _ _ _ HL.out).mono ?_
    rintro e w2 ⟨B, rfl, hB, g2⟩
    have x0 := (hB 0 (by omega)).2 0 (by decide) (by rw [show LS.cd 0 = 0 from rfl]; omega)
    simp only [Nat.zero_mul, Nat.add_zero, List.drop_zero] at x0
    have hB1 := (hB 0 (by omega)).1
    have hn0 : (0 : Int) < (ss.length : Int) + 1 := by omega
    clear hB
    go_wp2
    go_ret2
    exact ⟨ret_ie (show (LS.outl q ss 0 : Int) = (leN ns q : Int) by rw [HN.out]) rfl, g1.trans g2⟩
  · have HN := hide (show leN ns s = 0 by unfold leN; rw [if_neg h0])
    have h1 : (chE ns s != 0) = true := by simpa using h0
    rw [HN.out]
    generalize chE ns s = x at *
    clear h0 hl
    go_enter Try.func4, Try.ntmps4
    go_wp2_with (first | (go_at_call 11; refine (HC.out).mono ?_; rintro e w1 ⟨rfl, rfl⟩))
    go_ret2
    exact ⟨rfl, Gr.refl _⟩
/-- the list of the laws' known, where it lies -/
def kNs (h : Nat) : List Nd := [⟨some ⟨h, 0, none⟩, 1, [0]⟩, ⟨some ⟨h + 1, 0, none⟩, 1, [1]⟩, ⟨some ⟨h + 1 + 1, 0, none⟩, 1, [0]⟩, ⟨some ⟨h + 1 + 1 + 1, 0, none⟩, 1, [1]⟩]
abbrev kW (w : World) : World := (((((w.alloc (Obj.cells #[Value.int IntKind.i64 0] 3)).alloc (Obj.cells #[Value.int IntKind.i64 1] 3)).alloc (Obj.cells #[Value.int IntKind.i64 0] 3)).alloc (Obj.cells #[Value.int IntKind.i64 1] 3)).alloc
      (Obj.cells #[Value.slice (some { block := w.heap.size, off := 0 }) 1 1, Value.slice (some { block := w.heap.size + 1, off := 0 }) 1 1, Value.slice (some { block := w.heap.size + 1 + 1, off := 0 }) 1 1, Value.slice (some { block := w.heap.size + 1 + 1 + 1, off := 0 }) 1 1] 30))
theorem one_sli {w : World} {b : Nat} {z : Int} (h : w.cell? ⟨b, 0, none⟩ = some (iv z)) : SlI w (some ⟨b, 0, none⟩) 1 [z] := by
  refine ⟨fun i x hx => ⟨b, 0, rfl, ?_⟩, by simp, by decide⟩
  cases i with
  | zero =>
    simp only [List.getElem?_cons_zero, Option.some.injEq] at hx
    subst hx
    exact ⟨by simpa using h, trivial⟩
  | succ i => simp at hx
theorem kSl (w : World) : SlN (kW w) (some ⟨w.heap.size + 1 + 1 + 1 + 1, 0, none⟩) 4 (kNs w.heap.size) := by
  refine ⟨fun i x hx => ⟨w.heap.size + 1 + 1 + 1 + 1, 0, rfl, ?_⟩, ?_, by simp [kNs], by decide⟩
  · have hi : i < 4 := (List.getElem?_eq_some_iff.1 hx).1
    rcases (by omega : i = 0 ∨ i = 1 ∨ i = 2 ∨ i = 3) with rfl | rfl | rfl | rfl <;> (simp [kNs] at hx; subst hx; exact ⟨by simp [go_sem], trivial⟩)
  · intro x hx
    simp only [kNs, List.mem_cons, List.not_mem_nil, or_false] at hx
    rcases hx with rfl | rfl | rfl | rfl
    all_goals
      refine one_sli ?_
      simp [go_sem]
theorem kE1 (h : Nat) : chE (kNs h) 1 = 0 := rfl
theorem kE2 (h : Nat) : chE (kNs h) 2 = 0 := rfl
theorem kO1 : LS.outl 1 [1, 2, 1, 2] 0 = 4 := by decide +kernel
theorem kO2 : LS.outl 2 [1, 2, 1, 2] 0 = 2 := by decide +kernel
theorem kL1 (h : Nat) : leN (kNs h) 1 = 4 := by
  unfold leN
  rw [if_pos (kE1 h)]
  exact kO1
theorem kL2 (h : Nat) : leN (kNs h) 2 = 2 := by
  unfold leN
  rw [if_pos (kE2 h)]
  exact kO2
end Go.Proofs.Ytfndhddnglcliaa
