/-
  Parts: whether a part is big; flanges and holes compared; what the laws take for granted of an argument.
-/
import Derived.Test.YtpmomgfepkegnaaVal19
import Derived.Test.YtpmomgfepkegnaaKnown
import Derived.Laws.StructEq
set_option linter.unusedVariables false
set_option linter.unusedSimpArgs false
namespace Go.Proofs.Ytpmomgfepkegnaa
set_option linter.unusedVariables false
set_option linter.unusedSimpArgs false
open Go Go.ChangeShapes Go.WideShapes Go.ChangeAt Go.RowKit Go.Deep

def bgH (p : Pa) : Bool := decide (300 < p.nm.size) || decide (300 < p.mt.size) || decide (30 < p.fl.length) || decide (40 < p.ho.length)
/-- whether a part is big -/
def bgB (p : Pa) : Bool := bgH p || p.fl.any fun f => decide (300 < f.nm.size)
theorem bgB_head {p : Pa} (h : bgH p = true) : bgB p = true := by
  unfold bgB
  rw [h]
  rfl
theorem bgB_name {p : Pa} {f : Fl} {i : Nat} (h : p.fl[i]? = some f) (k : 300 < f.nm.size) : bgB p = true := by
  unfold bgB
  rw [Bool.or_eq_true]
  exact .inr (List.any_eq_true.2 ⟨f, List.mem_of_getElem? h, by simpa using k⟩)
theorem bgB_no {p : Pa} (h : bgH p = false) (k : ∀ i f, i < p.fl.length → p.fl[i]? = some f → f.nm.size ≤ 300) : bgB p = false := by
  unfold bgB
  rw [h, Bool.false_or, List.any_eq_false]
  intro f hf
  obtain ⟨i, hi⟩ := List.mem_iff_getElem?.1 hf
  have := k i f (List.getElem?_eq_some_iff.1 hi).1 hi
  simpa using this
theorem bgH_no {p : Pa} (h : bgH p = false) : p.nm.size ≤ 300 ∧ p.mt.size ≤ 300 ∧ p.fl.length ≤ 30 ∧ p.ho.length ≤ 40 := by
  unfold bgH at h
  simp only [Bool.or_eq_false_iff, decide_eq_false_iff_not] at h
  omega
theorem bgH_yes {p : Pa} (h : bgH p = true) : ¬ (p.nm.size ≤ 300 ∧ p.mt.size ≤ 300 ∧ p.fl.length ≤ 30 ∧ p.ho.length ≤ 40) := by
  unfold bgH at h
  simp only [Bool.or_eq_true, decide_eq_true_eq] at h
  omega
/-- an argument that is a part, of whatever size -/
structure PaX (w : World) (p : Pa) (A : Option Addr) (c : Nat) (B : Option Addr) (d : Nat) : Prop where
  fl : RdF w A p.fl
  ho : RdH w B p.ho
  i : PaI p
  cap : p.fl.length ≤ c ∧ c ≤ maxLen
  cap2 : p.ho.length ≤ d ∧ d ≤ maxLen
theorem PaX.gr {w w' : World} {p : Pa} {A : Option Addr} {c : Nat} {B : Option Addr} {d : Nat} (h : PaX w p A c B d) (g : Gr w w') : PaX w' p A c B d := ⟨h.fl.gr g, h.ho.gr g, h.i, h.cap, h.cap2⟩
theorem PaX.small {w : World} {p : Pa} {A : Option Addr} {c : Nat} {B : Option Addr} {d : Nat} (h : PaX w p A c B d) (hb : bgB p = false) : PaW w p A c B d := by
  have hh : bgH p = false := by
    unfold bgB at hb
    rw [Bool.or_eq_false_iff] at hb
    exact hb.1
  have hf : ∀ f ∈ p.fl, f.nm.size ≤ 300 := by
    unfold bgB at hb
    rw [Bool.or_eq_false_iff, List.any_eq_false] at hb
    intro f hf
    have := hb.2 f hf
    simpa using this
  obtain ⟨a1, a2, a3, a4⟩ := bgH_no hh
  have c1 := h.cap
  have c2 := h.cap2
  unfold maxLen at c1 c2
  exact ⟨⟨h.fl, by omega, by omega, by omega, fun f k => by have := hf f k; omega⟩, ⟨h.ho, by omega, by omega, by omega⟩, by omega, by omega⟩
set_option maxRecDepth 100000 in
set_option maxHeartbeats 2000000 in
theorem big_any (p : Pa) (A B : Option Addr) (c d : Nat) (w : World) (hP : PaX w p A c B d) :
    Calls Try.prog 15 #[pav p A c B d] w fun e w' => e = .returned (.bool (bgB p)) ∧ Gr w w' := by
  have b1 := hP.i.nm
  have b2 := hP.i.mt
  have b3 := hP.cap
  have b4 := hP.cap2
  unfold maxLen at b1 b2 b3 b4
  cases hh : bgH p with
  | true =>
    have HN := hide (bgH_yes hh)
    have HE := hide (bgB_head hh)
    clear hh
    go_enter Try.func15, Try.ntmps15
    go_upto_region 3 with fail
    all_goals first
      | (go_ret
         exact ⟨ret_bool HE.out.symm, (by repeat (first | with_reducible exact Gr.refl _ | with_reducible assumption | with_reducible refine Gr.alloc ?_ _ | with_reducible refine Gr.drewN ?_ _ | with_reducible refine Gr.drew ?_ | with_reducible refine Gr.setCell ?_ (by first | (dsimp only; omega) | (simp only [World.size_alloc]; omega) | (with_reducible refine Gr.size ?_; (repeat (first | with_reducible exact Gr.refl _ | with_reducible assumption | with_reducible refine Gr.alloc ?_ _ | with_reducible refine Gr.drewN ?_ _ | with_reducible refine Gr.drew ?_ | with_reducible refine Gr.trans ?_ (by with_reducible assumption))); done)) _ | with_reducible refine Gr.trans ?_ (by with_reducible assumption)))⟩)
      | (exfalso
         refine HN.out ?_
         simp at *
         omega)
  | false =>
    obtain ⟨a1, a2, a3, a4⟩ := bgH_no hh
    have HH := hide hh
    have HP := hide hP
    clear hh hP
    go_enter Try.func15, Try.ntmps15
    go_upto_region 3 with fail
    go_wp2
    go_loopw [3] (fun i wr => ∃ k : Nat, k ≤ p.fl.length ∧ i = iv k ∧ Gr (w.alloc (.cells #[.string p.nm, .string p.mt, iv p.ga, iv p.gr, iv p.wd, iv p.ht, .slice A p.fl.length c, .slice B p.ho.length d] 25)) wr ∧ Hid (∀ i f, i < k → p.fl[i]? = some f → f.nm.size ≤ 300)) (fun i _ => p.fl.length - (intOf i).toNat)
    case atStart => exact ⟨0, by omega, rfl, Gr.refl _, by intro i f hi; omega⟩
    case round =>
      obtain ⟨k, hk, rfl, g, HS⟩ := hrel
      obtain ⟨Xr, Yr, cr, fr⟩ := g.use
      have zr := g.size
      simp only [World.size_alloc] at zr
      have l0 : w.heap.size < wr.heap.size := by omega
      by_cases hkl : k < p.fl.length
      · obtain ⟨f, hf⟩ : ∃ f, p.fl[k]? = some f := ⟨_, List.getElem?_eq_getElem hkl⟩
        obtain ⟨b, off, rfl, x0, x1, x2, x3, x4, x5, x6⟩ := HP.out.fl.fl hf
        have hb : b < w.heap.size := cell_lt (by rw [x0]; rfl)
        have hfi := (HP.out.i.fl f (List.mem_of_getElem? hf)).1
        unfold maxLen at hfi
        have HL := hide hf
        clear hf
        by_cases hs : 300 < f.nm.size
        · have HE := hide (bgB_name HL.out hs)
          go_wp2
          go_ret
          exact ⟨ret_bool HE.out.symm, (by repeat (first | with_reducible exact Gr.refl _ | with_reducible assumption | with_reducible refine Gr.alloc ?_ _ | with_reducible refine Gr.drewN ?_ _ | with_reducible refine Gr.drew ?_ | with_reducible refine Gr.setCell ?_ (by first | (dsimp only; omega) | (simp only [World.size_alloc]; omega) | (with_reducible refine Gr.size ?_; (repeat (first | with_reducible exact Gr.refl _ | with_reducible assumption | with_reducible refine Gr.alloc ?_ _ | with_reducible refine Gr.drewN ?_ _ | with_reducible refine Gr.drew ?_ | with_reducible refine Gr.trans ?_ (by with_reducible assumption))); done)) _ | with_reducible refine Gr.trans ?_ (by with_reducible assumption)))⟩
        · have HS' := hide (show ∀ i f, i < k + 1 → p.fl[i]? = some f → f.nm.size ≤ 300 by
            intro i g hi hg
            rcases Nat.lt_or_ge i k with h | h
            · exact HS.out i g h hg
            · obtain rfl : i = k := by omega
              rw [HL.out] at hg
              obtain rfl := Option.some.inj hg
              omega)
          go_wp2
          go_roundw
          case rel => exact ⟨k + 1, by omega, by go_num, (by repeat (first | with_reducible exact Gr.refl _ | with_reducible assumption | with_reducible refine Gr.alloc ?_ _ | with_reducible refine Gr.drewN ?_ _ | with_reducible refine Gr.drew ?_ | with_reducible refine Gr.setCell ?_ (by first | (dsimp only; omega) | (simp only [World.size_alloc]; omega) | (with_reducible refine Gr.size ?_; (repeat (first | with_reducible exact Gr.refl _ | with_reducible assumption | with_reducible refine Gr.alloc ?_ _ | with_reducible refine Gr.drewN ?_ _ | with_reducible refine Gr.drew ?_ | with_reducible refine Gr.trans ?_ (by with_reducible assumption))); done)) _ | with_reducible refine Gr.trans ?_ (by with_reducible assumption))), HS'⟩
          case measure => simp only [intOf]; omega
      · obtain rfl : k = p.fl.length := by omega
        have HE := hide (bgB_no HH.out HS.out)
        go_wp2
        go_ret
        exact ⟨ret_bool HE.out.symm, (by repeat (first | with_reducible exact Gr.refl _ | with_reducible assumption | with_reducible refine Gr.alloc ?_ _ | with_reducible refine Gr.drewN ?_ _ | with_reducible refine Gr.drew ?_ | with_reducible refine Gr.setCell ?_ (by first | (dsimp only; omega) | (simp only [World.size_alloc]; omega) | (with_reducible refine Gr.size ?_; (repeat (first | with_reducible exact Gr.refl _ | with_reducible assumption | with_reducible refine Gr.alloc ?_ _ | with_reducible refine Gr.drewN ?_ _ | with_reducible refine Gr.drew ?_ | with_reducible refine Gr.trans ?_ (by with_reducible assumption))); done)) _ | with_reducible refine Gr.trans ?_ (by with_reducible assumption)))⟩
theorem sFlg : Try.prog.underlying 55 = some (.struct (Try.prog.fieldsOf 55)) := by kernel_rfl
theorem pFlg : Try.prog.stoodInHeld 55 = false := by kernel_rfl
theorem gFlg : Try.prog.eqGuardType Try.prog.depth 55 = false := by kernel_rfl
theorem sHol : Try.prog.underlying 57 = some (.struct (Try.prog.fieldsOf 57)) := by kernel_rfl
theorem pHol : Try.prog.stoodInHeld 57 = false := by kernel_rfl
theorem gHol : Try.prog.eqGuardType Try.prog.depth 57 = false := by kernel_rfl
def flB (a b : Fl) : Bool := (a.nm.toList == b.nm.toList) && (a.pa == b.pa && (a.sd == b.sd && (a.o == b.o && (a.wd == b.wd && (a.ln == b.ln && a.an == b.an)))))
def hoQ (a b : Ho) : Bool := a.fa == b.fa && (a.kd == b.kd && (a.x == b.x && (a.y == b.y && (a.w == b.w && a.h == b.h))))
theorem flB_self (a : Fl) : flB a a = true := by simp [flB]
theorem hoQ_self (a : Ho) : hoQ a a = true := by simp [hoQ]
set_option maxHeartbeats 1000000 in
theorem eqFlg (a b : Fl) (w : World) : (Op.equalIn 10000 55 (flv a) (flv b)).run Try.prog w = .ok (flB a b) w := by
  have u3 := Try.underlying3
  have a3 := Try.isAgg3
  have z3 := Try.sizeOf3
  have u4 := Try.underlying9
  have a4 := Try.isAgg9
  have z4 := Try.sizeOf9
  rw [run_equalIn_agg w 9999 55 _ _ sFlg pFlg]
  simp only [Program.fieldsOf, Try.underlying55, flB]
  go_simp
  split
  case isFalse h => simp [h]
  rename_i h1
  split
  case isFalse h => simp [h1, h]
  rename_i h2
  split
  case isFalse h => simp [h1, h2, h]
  rename_i h3
  split
  case isFalse h => simp [h1, h2, h3, h]
  rename_i h4
  split
  case isFalse h => simp [h1, h2, h3, h4, h]
  rename_i h5
  split
  case isFalse h => simp [h1, h2, h3, h4, h5, h]
  rename_i h6
  split
  case isFalse h => simp [h1, h2, h3, h4, h5, h6, h]
  rename_i h7
  simp [h1, h2, h3, h4, h5, h6, h7]
set_option maxHeartbeats 1000000 in
theorem eqHol (a b : Ho) (w : World) : (Op.equalIn 10000 57 (hov a) (hov b)).run Try.prog w = .ok (hoQ a b) w := by
  have u3 := Try.underlying3
  have a3 := Try.isAgg3
  have z3 := Try.sizeOf3
  rw [run_equalIn_agg w 9999 57 _ _ sHol pHol]
  simp only [Program.fieldsOf, Try.underlying57, hoQ]
  go_simp
  split
  case isFalse h => simp [h]
  rename_i h1
  split
  case isFalse h => simp [h1, h]
  rename_i h2
  split
  case isFalse h => simp [h1, h2, h]
  rename_i h3
  split
  case isFalse h => simp [h1, h2, h3, h]
  rename_i h4
  split
  case isFalse h => simp [h1, h2, h3, h4, h]
  rename_i h5
  split
  case isFalse h => simp [h1, h2, h3, h4, h5, h]
  rename_i h6
  simp [h1, h2, h3, h4, h5, h6]
end Go.Proofs.Ytpmomgfepkegnaa
