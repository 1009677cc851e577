/-
  Regions: Overlap, the unit, comparison of outlines.
-/
import Derived.Test.YtfbhpeedjphpaaaRgx
import Derived.Laws.StructEq
set_option linter.unusedVariables false
set_option linter.unusedSimpArgs false
namespace Go.Proofs.Ytfbhpeedjphpaaa
set_option linter.unusedVariables false
set_option linter.unusedSimpArgs false
open Go Go.ChangeShapes Go.WideShapes Go.ChangeAt Go.RowKit Go.Deep

namespace RG
def soV (a l b m : Int) : Bool := decide (a < b + m) && decide (b < a + l)
theorem spansOverlap_any (a l b m : Int) (w : World) (ha : -4194304 ≤ a ∧ a ≤ 4194304) (hl : -4194304 ≤ l ∧ l ≤ 4194304) (hb : -4194304 ≤ b ∧ b ≤ 4194304) (hm : -4194304 ≤ m ∧ m ≤ 4194304) :
    Calls Try.prog 20 #[iv a, iv l, iv b, iv m] w fun e w' => e = .returned (.bool (soV a l b m)) ∧ w = w' := by
  obtain ⟨a1, a2⟩ := ha
  obtain ⟨l1, l2⟩ := hl
  obtain ⟨b1, b2⟩ := hb
  obtain ⟨m1, m2⟩ := hm
  go_enter Try.func20, Try.ntmps20
  go_wp2
  all_goals
    go_ret
    exact ⟨ret_bool (by simp [soV]; omega), rfl⟩
set_option maxRecDepth 100000 in
theorem Overlap_any (r s : Rc) (w : World) (hr : InM 1048576 r) (hs : InM 1048576 s) :
    Calls Try.prog 11 #[rc r.x r.y r.w r.h, rc s.x s.y s.w s.h] w fun e w' => e = .returned (.bool (ovR r s)) ∧ Gr w w' := by
  have h1 : vrB r.x r.y r.w r.h = true := vrR_iff.2 hr
  have h2 : vrB s.x s.y s.w s.h = true := vrR_iff.2 hs
  have a1 := hr.w; have a2 := hr.h; have a3 := hr.x; have a4 := hr.y; have a5 := hr.x'; have a6 := hr.y'
  have b1 := hs.w; have b2 := hs.h; have b3 := hs.x; have b4 := hs.y; have b5 := hs.x'; have b6 := hs.y'
  clear hr hs
  have HE := hide (show ovR r s = (soV r.x r.w s.x s.w && soV r.y r.h s.y s.h) from rfl)
  obtain ⟨x, y, u, h⟩ := r
  obtain ⟨a, b, c, d⟩ := s
  dsimp only at *
  go_enter Try.func11, Try.ntmps11
  go_wp2_with (first | (go_at_call 19; refine (ValidRect_any _ _ _ _ _).mono ?_; rintro e w1 ⟨rfl, g1⟩; obtain ⟨X1, Y1, c1, f1⟩ := g1.use) | (go_at_call 20; refine (spansOverlap_any _ _ _ _ _ (by omega) (by omega) (by omega) (by omega)).mono ?_; rintro e w1 ⟨rfl, rfl⟩))
  all_goals
    go_ret
    exact ⟨ret_bool (by rw [HE.out]; simp [h1, h2, *]), (by repeat (first | with_reducible exact Gr.refl _ | with_reducible assumption | with_reducible refine Gr.alloc ?_ _ | with_reducible refine Gr.drewN ?_ _ | with_reducible refine Gr.drew ?_ | with_reducible refine Gr.setCell ?_ (by first | (dsimp only; omega) | (simp only [World.size_alloc]; omega) | (with_reducible refine Gr.size ?_; (repeat (first | with_reducible exact Gr.refl _ | with_reducible assumption | with_reducible refine Gr.alloc ?_ _ | with_reducible refine Gr.drewN ?_ _ | with_reducible refine Gr.drew ?_ | with_reducible refine Gr.trans ?_ (by with_reducible assumption))); done)) _ | with_reducible refine Gr.trans ?_ (by with_reducible assumption)))⟩
theorem one_unit : ceL [⟨0, 0, 2, 3⟩] = 0 ∧ arV [⟨0, 0, 2, 3⟩] = 6 := by
  have h : ceL [⟨0, 0, 2, 3⟩] = 0 := by decide
  refine ⟨h, ?_⟩
  unfold arV
  rw [if_pos h, areaV_eq (ceL_zero h).2, ar_apart (ceL_zero h).2 (by simp [Apart])]
  rfl
theorem slR_lit (w : World) (t : TypeId) (r : Rc) : SlR (w.alloc (.cells #[iv r.x, iv r.y, iv r.w, iv r.h] t)) (some ⟨w.heap.size, 0, none⟩) 1 [r] := by
  refine ⟨fun i p hp => ?_, by simp, by omega⟩
  have hi : i = 0 := by
    have := (List.getElem?_eq_some_iff.1 hp).1
    simp at this
    exact this
  subst hi
  have hp' : p = r := by simpa using hp.symm
  subst hp'
  refine ⟨w.heap.size, 0, rfl, at_of fun j v hj => ?_⟩
  have := newsA w #[iv p.x, iv p.y, iv p.w, iv p.h] t j v hj
  rw [addr_add, Nat.zero_add] at this
  rw [show 0 + 0 * 4 + j = j by omega]
  exact this
set_option maxRecDepth 100000 in
theorem unit_any (w : World) : Calls Try.prog 5 #[] w fun e w' => e = .returned (.bool true) ∧ Gr w w' := by
  obtain ⟨h1, h2⟩ := one_unit
  have HA := hide (fun (w' : World) (A : Option Addr) (h : SlR w' A 1 [⟨0, 0, 2, 3⟩]) => Area_any A 1 [⟨0, 0, 2, 3⟩] w' h)
  rw [h1, h2] at HA
  go_enter Try.func5, Try.ntmps5
  go_wp2_with fail
  refine (HA.out _ _ (slR_lit w _ ⟨0, 0, 2, 3⟩)).mono ?_
  rintro e w2 ⟨rfl, g2⟩
  have g : Gr w w2 := Gr.trans (Gr.alloc (Gr.refl _) _) g2
  clear HA
  go_wp2
  go_ret
  exact ⟨rfl, g⟩
theorem sSeg : Try.prog.underlying 50 = some (.struct (Try.prog.fieldsOf 50)) := by kernel_rfl
theorem pSeg : Try.prog.stoodInHeld 50 = false := by kernel_rfl
theorem gSeg : Try.prog.eqGuardType Try.prog.depth 50 = false := by kernel_rfl
def sqB (a b c d x y z t : Int) : Bool := a == x && (b == y && (c == z && d == t))
theorem sqB_no {a b c d x y z t : Int} (h : ¬ (a = x ∧ b = y ∧ c = z ∧ d = t)) : sqB a b c d x y z t = false := by
  cases e : sqB a b c d x y z t with
  | true => exact absurd (by simpa [sqB] using e) h
  | false => rfl
theorem eqInSg (n : Nat) (a b c d x y z t : Int) (w : World) : (Op.equalIn (n + 2) 50 (.agg #[iv a, iv b, iv c, iv d]) (.agg #[iv x, iv y, iv z, iv t])).run Try.prog w = .ok (sqB a b c d x y z t) w := by
  have u3 := Try.underlying3
  have a3 := Try.isAgg3
  have z3 := Try.sizeOf3
  rw [run_equalIn_agg w (n + 1) 50 _ _ sSeg pSeg]
  simp only [Program.fieldsOf, Try.underlying50, sqB]
  go_simp
  by_cases h1 : a = x <;> by_cases h2 : b = y <;> by_cases h3 : c = z <;> by_cases h4 : d = t <;> simp [h1, h2, h3, h4]
theorem eqSg (a b c d x y z t : Int) (w : World) : (Op.equalIn 10000 50 (.agg #[iv a, iv b, iv c, iv d]) (.agg #[iv x, iv y, iv z, iv t])).run Try.prog w = .ok (sqB a b c d x y z t) w := eqInSg 9998 a b c d x y z t w
noncomputable def sgE (l m : List Sg) : Bool := @decide (l = m) (Classical.propDecidable _)
theorem sgE_iff {l m : List Sg} : sgE l m = true ↔ l = m := by
  unfold sgE
  exact @decide_eq_true_iff _ (Classical.propDecidable _)
set_option maxHeartbeats 4000000 in
set_option maxRecDepth 100000 in
theorem sameSegs2_any (A B : Option Addr) (c d : Nat) (l m : List Sg) (w : World) (hl : RdL w 4 sgL A l) (hm : RdL w 4 sgL B m) (n1 : l.length ≤ c) (n2 : c ≤ 9223372036854775807) (n3 : m.length ≤ d) (n4 : d ≤ 9223372036854775807) :
    Calls Try.prog 9 #[.slice A l.length c, .slice B m.length d] w fun e w' => e = .returned (.bool (sgE l m)) ∧ Gr w w' := by
  have HL := hide hl
  have HM := hide hm
  clear hl hm
  by_cases hlm : l.length = m.length
  · have HT := hide (fun h : l = m => sgE_iff.2 h)
    have HF := hide (fun h : l ≠ m => show sgE l m = false by
      cases e : sgE l m with
      | true => exact absurd (sgE_iff.1 e) h
      | false => rfl)
    generalize sgE l m = z at *
    obtain ⟨n, hn⟩ : ∃ n, l.length = n := ⟨_, rfl⟩
    have hn2 : m.length = n := by omega
    have HN := hide hn
    have HN2 := hide hn2
    rw [hn] at n1
    rw [hn, hn2]
    clear hlm hn hn2 n3
    go_enter Try.func9, Try.ntmps9
    go_wp2
    go_loopw [5] (fun i wr => ∃ k : Nat, k ≤ n ∧ i = iv k ∧ Gr w wr ∧ Hid (∀ i, i < k → l[i]? = m[i]?)) (fun i _ => n - (intOf i).toNat)
    case atStart => exact ⟨0, by omega, rfl, Gr.refl _, fun i h => absurd h (by omega)⟩
    case round =>
      obtain ⟨k, hk, rfl, g, HS⟩ := hrel
      by_cases hkl : k < n
      · obtain ⟨z1, hz1⟩ : ∃ z, l[k]? = some z := ⟨_, List.getElem?_eq_getElem (by rw [HN.out]; exact hkl)⟩
        obtain ⟨z2, hz2⟩ : ∃ z, m[k]? = some z := ⟨_, List.getElem?_eq_getElem (by rw [HN2.out]; exact hkl)⟩
        obtain ⟨b, o, rfl, x0, x1, x2, x3, _⟩ := (HL.out.gr g) k z1 hz1
        obtain ⟨b', o', rfl, y0, y1, y2, y3, _⟩ := (HM.out.gr g) k z2 hz2
        have hk0 : (0 : Int) ≤ (k : Int) := by omega
        have hk1 : (k : Int) < (n : Int) := by omega
        by_cases he : z1 = z2
        · subst he
          have HS2 := hide (show ∀ i, i < k + 1 → l[i]? = m[i]? from fun i hi => by
            by_cases e : i = k
            · rw [e, hz1, hz2]
            · exact HS.out i (by omega))
          clear hz1 hz2
          go_wp2
          have GC := @GrW.cell
          refine wp_region_grw _ (by kernel_rfl) (by kernel_rfl) (Gr.refl _) ?_
          repeat (go_big_quiet_step ((first | fail)))
          refine wpQuiet_nil ?_
          intro wq hwq
          obtain ⟨gq, hwq'⟩ := hwq
          subst hwq'
          clear GC
          have gq1 := gq.gr
          generalize gq.w = wq at gq1 ⊢
          obtain ⟨Xq, Yq, cq, fq⟩ := gq1.use
          have sq := gq1.size
          (try simp only [World.size_alloc, World.size_setCell, World.heap_drewN] at sq)
          go_wp2
          go_roundw
          case rel => exact ⟨k + 1, by omega, by go_num, (by repeat (first | with_reducible exact Gr.refl _ | with_reducible assumption | with_reducible refine Gr.alloc ?_ _ | with_reducible refine Gr.drewN ?_ _ | with_reducible refine Gr.drew ?_ | with_reducible refine Gr.setCell ?_ (by first | (dsimp only; omega) | (simp only [World.size_alloc]; omega) | (with_reducible refine Gr.size ?_; (repeat (first | with_reducible exact Gr.refl _ | with_reducible assumption | with_reducible refine Gr.alloc ?_ _ | with_reducible refine Gr.drewN ?_ _ | with_reducible refine Gr.drew ?_ | with_reducible refine Gr.trans ?_ (by with_reducible assumption))); done)) _ | with_reducible refine Gr.trans ?_ (by with_reducible assumption))), HS2⟩
          case measure => simp only [intOf]; omega
        · have hz : z = false := HF.out fun e => he (by rw [e, hz2] at hz1; cases hz1; rfl)
          have hne : ¬ (z1.a = z2.a ∧ z1.b = z2.b ∧ z1.c = z2.c ∧ z1.d = z2.d) := fun e => he (by
            obtain ⟨a, b, c, d⟩ := z1
            obtain ⟨a', b', c', d'⟩ := z2
            simp only at e
            obtain ⟨rfl, rfl, rfl, rfl⟩ := e
            rfl)
          subst hz
          have NE := fun w => eqSg z1.a z1.b z1.c z1.d z2.a z2.b z2.c z2.d w
          rw [sqB_no hne] at NE
          have GS := gSeg
          clear hz1 hz2 HT HF he hne
          go_wp2
          have GC := @GrW.cell
          refine wp_region_grw _ (by kernel_rfl) (by kernel_rfl) (Gr.refl _) ?_
          repeat (go_big_quiet_step ((first | fail)))
          refine wpQuiet_nil ?_
          intro wq hwq
          obtain ⟨gq, hwq'⟩ := hwq
          subst hwq'
          clear GC
          have gq1 := gq.gr
          generalize gq.w = wq at gq1 ⊢
          obtain ⟨Xq, Yq, cq, fq⟩ := gq1.use
          have sq := gq1.size
          (try simp only [World.size_alloc, World.size_setCell, World.heap_drewN] at sq)
          go_wp2
          go_ret
          exact ⟨rfl, (by repeat (first | with_reducible exact Gr.refl _ | with_reducible assumption | with_reducible refine Gr.alloc ?_ _ | with_reducible refine Gr.drewN ?_ _ | with_reducible refine Gr.drew ?_ | with_reducible refine Gr.setCell ?_ (by first | (dsimp only; omega) | (simp only [World.size_alloc]; omega) | (with_reducible refine Gr.size ?_; (repeat (first | with_reducible exact Gr.refl _ | with_reducible assumption | with_reducible refine Gr.alloc ?_ _ | with_reducible refine Gr.drewN ?_ _ | with_reducible refine Gr.drew ?_ | with_reducible refine Gr.trans ?_ (by with_reducible assumption))); done)) _ | with_reducible refine Gr.trans ?_ (by with_reducible assumption)))⟩
      · obtain rfl : k = n := by omega
        have hz : z = true := HT.out (List.ext_getElem? fun i => by
          by_cases e : i < k
          · exact HS.out i e
          · rw [List.getElem?_eq_none (by rw [HN.out]; omega), List.getElem?_eq_none (by rw [HN2.out]; omega)])
        subst hz
        go_wp2
        go_ret
        exact ⟨rfl, (by repeat (first | with_reducible exact Gr.refl _ | with_reducible assumption | with_reducible refine Gr.alloc ?_ _ | with_reducible refine Gr.drewN ?_ _ | with_reducible refine Gr.drew ?_ | with_reducible refine Gr.setCell ?_ (by first | (dsimp only; omega) | (simp only [World.size_alloc]; omega) | (with_reducible refine Gr.size ?_; (repeat (first | with_reducible exact Gr.refl _ | with_reducible assumption | with_reducible refine Gr.alloc ?_ _ | with_reducible refine Gr.drewN ?_ _ | with_reducible refine Gr.drew ?_ | with_reducible refine Gr.trans ?_ (by with_reducible assumption))); done)) _ | with_reducible refine Gr.trans ?_ (by with_reducible assumption)))⟩
  · have HE := hide (show sgE l m = false by
      cases e : sgE l m with
      | true => exact absurd (by rw [sgE_iff.1 e]) hlm
      | false => rfl)
    have h1 : ((l.length : Int) == (m.length : Int)) = false := by simp; omega
    have h2 : ((l.length : Int) != (m.length : Int)) = true := by simp; omega
    go_enter Try.func9, Try.ntmps9
    go_wp2
    go_ret
    exact ⟨ret_bool HE.out.symm, (by repeat (first | with_reducible exact Gr.refl _ | with_reducible assumption | with_reducible refine Gr.alloc ?_ _ | with_reducible refine Gr.drewN ?_ _ | with_reducible refine Gr.drew ?_ | with_reducible refine Gr.setCell ?_ (by first | (dsimp only; omega) | (simp only [World.size_alloc]; omega) | (with_reducible refine Gr.size ?_; (repeat (first | with_reducible exact Gr.refl _ | with_reducible assumption | with_reducible refine Gr.alloc ?_ _ | with_reducible refine Gr.drewN ?_ _ | with_reducible refine Gr.drew ?_ | with_reducible refine Gr.trans ?_ (by with_reducible assumption))); done)) _ | with_reducible refine Gr.trans ?_ (by with_reducible assumption)))⟩
/-- no two of a list overlap, as the law goes through them -/
def apI (l : List Rc) (r : Rc) (b : Bool) : Nat → Bool
  | 0 => b
  | o + 1 => apI l r b o && !ovR r (l[o]?.getD ⟨0, 0, 0, 0⟩)
def apA (l : List Rc) : Nat → Bool
  | 0 => true
  | n + 1 => apI l (l[n]?.getD ⟨0, 0, 0, 0⟩) (apA l n) n
theorem apI_iff {l : List Rc} {r : Rc} {b : Bool} : ∀ {o : Nat}, o ≤ l.length → (apI l r b o = true ↔ b = true ∧ ∀ s ∈ l.take o, ovR s r = false)
  | 0, _ => by simp [apI]
  | o + 1, h => by
    obtain ⟨z, hz⟩ : ∃ z, l[o]? = some z := ⟨_, List.getElem?_eq_getElem (by omega)⟩
    have ih := apI_iff (l := l) (r := r) (b := b) (o := o) (by omega)
    unfold apI
    rw [Bool.and_eq_true, ih, hz, List.take_add_one, hz]
    simp only [Option.getD_some, Option.toList_some, List.mem_append, List.mem_singleton, Bool.not_eq_true']
    constructor
    · rintro ⟨⟨h1, h2⟩, h3⟩
      refine ⟨h1, fun s hs => ?_⟩
      rcases hs with hs | rfl
      · exact h2 s hs
      · rw [ovR_comm]; exact h3
    · rintro ⟨h1, h2⟩
      exact ⟨⟨h1, fun s hs => h2 s (.inl hs)⟩, by rw [ovR_comm]; exact h2 z (.inr rfl)⟩
theorem apA_iff {l : List Rc} : ∀ {n : Nat}, n ≤ l.length → (apA l n = true ↔ Apart (l.take n))
  | 0, _ => by simp [apA, Apart]
  | n + 1, h => by
    obtain ⟨z, hz⟩ : ∃ z, l[n]? = some z := ⟨_, List.getElem?_eq_getElem (by omega)⟩
    have ih := apA_iff (l := l) (n := n) (by omega)
    unfold apA
    rw [apI_iff (by omega), ih, hz, List.take_add_one, hz]
    unfold Apart
    simp only [Option.getD_some, Option.toList_some]
    rw [List.pairwise_append]
    constructor
    · rintro ⟨h1, h2⟩
      exact ⟨h1, by simp, fun a ha b hb => by rw [List.mem_singleton] at hb; subst hb; exact h2 a ha⟩
    · rintro ⟨h1, _, h3⟩
      exact ⟨h1, fun s hs => h3 s hs z (by simp)⟩
theorem sumA_bd {l : List Rc} (h : ∀ r ∈ l, InM 1048576 r) : ∀ n, 0 ≤ sumA (l.take n) ∧ sumA (l.take n) ≤ n * 4398046511104
  | 0 => by simp [sumA]
  | n + 1 => by
    have ih := sumA_bd h n
    rw [List.take_add_one]
    cases hz : l[n]? with
    | none => simp only [Option.toList_none, List.append_nil]; omega
    | some z =>
      have hi := h z (List.mem_of_getElem? hz)
      have a1 := hi.w; have a2 := hi.h; have a3 := hi.x; have a4 := hi.y; have a5 := hi.x'; have a6 := hi.y'
      have e : sumA (l.take n ++ [z]) = sumA (l.take n) + z.w * z.h := by simp [sumA]
      have b1 : 0 ≤ z.w * z.h := Int.mul_nonneg (by omega) (by omega)
      have b2 : z.w * z.h ≤ 2097152 * 2097152 := Int.mul_le_mul (by omega) (by omega) (by omega) (by omega)
      simp only [Option.toList_some]
      rw [e]
      omega
/-- what the law knows of two lists without a fault -/
structure Two (l m : List Rc) : Prop where
  t : ceT l m = 0
  s : sgE (outV l) (outV m) = srB l m
  z0 : ceL (l ++ m) = 0 → (srB l m = true → arV (l ++ m) = arV l ∧ arV (l ++ m) = arV m) ∧ (srB l m = false → ¬ (arV (l ++ m) = arV l ∧ arV (l ++ m) = arV m)) ∧ arV l ≤ arV (l ++ m) ∧ arV m ≤ arV (l ++ m) ∧ arV (l ++ m) ≤ arV l + arV m
  x : 0 ≤ arV l ∧ arV l ≤ sumA l
  y : 0 ≤ arV m ∧ arV m ≤ sumA m
  sx : 0 ≤ sumA l ∧ sumA l ≤ 48 * 4398046511104
  sy : 0 ≤ sumA m ∧ sumA m ≤ 48 * 4398046511104
  ap : apA l l.length = true ↔ arV l = sumA l
  e : l.length = 0 ↔ (outV l).length = 0
theorem two_of {l m : List Rc} (h1 : ceL l = 0) (h2 : ceL m = 0) : Two l m := by
  obtain ⟨l1, i1⟩ := ceL_zero h1
  obtain ⟨l2, i2⟩ := ceL_zero h2
  have ht : ceT l m = 0 := by
    unfold ceT
    rw [if_neg (by omega), if_pos ⟨h1, h2⟩]
  have e1 : arV l = ar 1048576 l := by unfold arV; rw [if_pos h1, areaV_eq i1]
  have e2 : arV m = ar 1048576 m := by unfold arV; rw [if_pos h2, areaV_eq i2]
  have hs : srB l m = true ↔ Same l m := by
    unfold srB
    rw [if_pos ht]
    exact smB_iff (fun r hr => List.mem_append_left _ hr) (fun r hr => List.mem_append_right _ hr)
  have nn : ∀ k : List Rc, 0 ≤ ar 1048576 k := fun k => sm_nonneg fun _ _ _ => sm_nonneg fun _ _ _ => ib_nn _
  have s1 := sumA_bd i1 l.length
  have s2 := sumA_bd i2 m.length
  rw [List.take_length] at s1 s2
  refine ⟨ht, ?_, ?_, ?_, ?_, ⟨s1.1, by omega⟩, ⟨s2.1, by omega⟩, ?_, ?_⟩
  · rw [Bool.eq_iff_iff, sgE_iff, hs, same_iff_out h1 h2]
  · intro h0
    have e3 : arV (l ++ m) = ar 1048576 (l ++ m) := by unfold arV; rw [if_pos h0, areaV_eq (ceL_zero h0).2]
    have hq := same_iff_ar i1 i2
    obtain ⟨k1, k2, k3⟩ := ar_app_le 1048576 l m
    rw [e1, e2, e3]
    refine ⟨fun k => hq.1 (hs.1 k), fun k q => ?_, k1, k2, k3⟩
    have := hs.2 (hq.2 q)
    rw [k] at this
    cases this
  · rw [e1]; exact ⟨nn l, ar_le_sum i1⟩
  · rw [e2]; exact ⟨nn m, ar_le_sum i2⟩
  · rw [apA_iff (Nat.le_refl _), List.take_length, e1]
    exact ⟨ar_apart i1, apart_of_ar i1⟩
  · constructor
    · intro h
      rw [List.eq_nil_of_length_eq_zero h, outV_nil]
      rfl
    · intro h
      rcases Nat.eq_zero_or_pos l.length with k | k
      · exact k
      · exfalso
        have hn : l ≠ [] := fun e => by subst e; simp at k
        have := List.eq_nil_of_length_eq_zero h
        unfold outV at this
        rw [if_pos h1, List.append_eq_nil_iff] at this
        exact vt_ne hn i1 this.2
theorem ceT_ne {l m : List Rc} (h : ¬ (ceL l = 0 ∧ ceL m = 0)) : ceT l m ≠ 0 ∧ srB l m = false := by
  have h1 : ceT l m ≠ 0 := by
    unfold ceT
    split
    · decide
    · first | decide | (rw [if_neg h]; decide)
  exact ⟨h1, by unfold srB; rw [if_neg h1]⟩
end RG
end Go.Proofs.Ytfbhpeedjphpaaa
