/-
  Parts compared, in the reference.
-/
import Derived.Test.YtpmomgfepkegnaaLaw1
set_option linter.unusedVariables false
set_option linter.unusedSimpArgs false
namespace Go.Proofs.Ytpmomgfepkegnaa
set_option linter.unusedVariables false
set_option linter.unusedSimpArgs false
open Go Go.ChangeShapes Go.WideShapes Go.ChangeAt Go.RowKit Go.Deep

/-- whether f holds of two lists, place by place -/
noncomputable def lsB {α : Type} (f : α → α → Bool) (l m : List α) : Bool := @decide (l.length = m.length ∧ ∀ (i : Nat) (a b : α), l[i]? = some a → m[i]? = some b → f a b = true) (Classical.propDecidable _)
theorem lsB_iff {α : Type} {f : α → α → Bool} {l m : List α} : lsB f l m = true ↔ l.length = m.length ∧ ∀ (i : Nat) (a b : α), l[i]? = some a → m[i]? = some b → f a b = true := by
  unfold lsB
  exact @decide_eq_true_iff _ (Classical.propDecidable _)
theorem lsB_len {α : Type} {f : α → α → Bool} {l m : List α} (h : ¬ l.length = m.length) : lsB f l m = false := by
  rw [← Bool.not_eq_true, lsB_iff]
  exact fun k => h k.1
theorem lsB_stop {α : Type} {f : α → α → Bool} {l m : List α} {i : Nat} {a b : α} (ha : l[i]? = some a) (hb : m[i]? = some b) (h : f a b = false) : lsB f l m = false := by
  rw [← Bool.not_eq_true, lsB_iff]
  intro k
  have := k.2 i a b ha hb
  rw [h] at this
  cases this
theorem lsB_end {α : Type} {f : α → α → Bool} {l m : List α} (h : l.length = m.length) (k : ∀ (i : Nat) (a b : α), i < l.length → l[i]? = some a → m[i]? = some b → f a b = true) : lsB f l m = true :=
  lsB_iff.2 ⟨h, fun i a b ha hb => k i a b (List.getElem?_eq_some_iff.1 ha).1 ha hb⟩
theorem lsB_self {α : Type} {f : α → α → Bool} (h : ∀ a, f a a = true) (l : List α) : lsB f l l = true :=
  lsB_end rfl fun i a b _ ha hb => by
    rw [ha] at hb
    obtain rfl := Option.some.inj hb
    exact h a
theorem bn_eq {α : Type} [BEq α] {x y : α} (h : (x != y) = false) : (x == y) = true := by
  unfold bne at h
  simpa using h
theorem eq_bn {α : Type} [BEq α] {x y : α} (h : (x == y) = true) : (x != y) = false := by
  unfold bne
  rw [h]
  rfl
set_option maxRecDepth 100000 in
set_option maxHeartbeats 2000000 in
theorem sameHoles_any (A B : Option Addr) (c d : Nat) (l m : List Ho) (w : World) (hl : SlH w A c l) (hm : SlH w B d m) :
    Calls Try.prog 72 #[.slice A l.length c, .slice B m.length d] w fun e w' => e = .returned (.bool (lsB hoQ l m)) ∧ Gr w w' := by
  have n1 := hl.len
  have n2 := hm.len
  have HLl := hide hl
  have HLm := hide hm
  clear hl hm
  by_cases hlen : l.length = m.length
  · have HN := hide hlen
    have hq : ((l.length : Int) == (m.length : Int)) = true := by rw [beq_iff_eq]; omega
    have GP := gHol
    clear hlen
    go_enter Try.func72, Try.ntmps72
    go_wp2
    go_loopw [5] (fun i wr => ∃ k : Nat, k ≤ l.length ∧ i = iv k ∧ Gr w wr ∧ Hid (∀ i a b, i < k → l[i]? = some a → m[i]? = some b → hoQ a b = true)) (fun i _ => l.length - (intOf i).toNat)
    case atStart => exact ⟨0, by omega, rfl, Gr.refl _, by intro i a b hi; omega⟩
    case round =>
      obtain ⟨k, hk, rfl, g, HS⟩ := hrel
      by_cases hkl : k < l.length
      · have hkm : k < m.length := by rw [← HN.out]; exact hkl
        obtain ⟨a, ha⟩ : ∃ a, l[k]? = some a := ⟨_, List.getElem?_eq_getElem hkl⟩
        obtain ⟨b, hb⟩ : ∃ b, m[k]? = some b := ⟨_, List.getElem?_eq_getElem hkm⟩
        obtain ⟨p, o, rfl, x0, x1, x2, x3, x4, x5⟩ := (HLl.out.gr g).rd.ho ha
        obtain ⟨q, o', rfl, y0, y1, y2, y3, y4, y5⟩ := (HLm.out.gr g).rd.ho hb
        have hp : p < wr.heap.size := cell_lt (by rw [x0]; rfl)
        have hqw : q < wr.heap.size := cell_lt (by rw [y0]; rfl)
        have NEQ := fun w => eqHol a b w
        have hk0 : (0 : Int) ≤ (k : Int) := by omega
        have hk1 : (k : Int) < (l.length : Int) := by omega
        have hk2 : (k : Int) < (m.length : Int) := by omega
        have HLa := hide ha
        have HLb := hide hb
        clear ha hb
        cases hv : hoQ a b with
        | true =>
          have HS' := hide (show ∀ i x y, i < k + 1 → l[i]? = some x → m[i]? = some y → hoQ x y = true by
            intro i x y hi hx hy
            rcases Nat.lt_or_ge i k with h | h
            · exact HS.out i x y h hx hy
            · obtain rfl : i = k := by omega
              rw [HLa.out] at hx
              rw [HLb.out] at hy
              obtain rfl := Option.some.inj hx
              obtain rfl := Option.some.inj hy
              exact hv)
          rw [hv] at NEQ
          clear hv
          go_upto_region 6 with fail
          have GC := @GrW.cell
          refine wp_region_grw _ (by kernel_rfl) (by kernel_rfl) (Gr.refl _) ?_
          repeat (go_big_quiet_step ((first | fail)))
          refine wpQuiet_nil ?_
          intro wq hwq
          obtain ⟨gq, hwq'⟩ := hwq
          subst hwq'
          clear GC
          have gq1 := gq.gr
          generalize gq.w = wq at gq1 ⊢
          obtain ⟨Xq, Yq, cq, fq⟩ := gq1.use
          have sq := gq1.size
          (try simp only [World.size_alloc, World.size_setCell, World.heap_drewN] at sq)
          go_wp2
          go_roundw
          case rel => exact ⟨k + 1, by omega, by go_num, (by repeat (first | with_reducible exact Gr.refl _ | with_reducible assumption | with_reducible refine Gr.alloc ?_ _ | with_reducible refine Gr.drewN ?_ _ | with_reducible refine Gr.drew ?_ | with_reducible refine Gr.setCell ?_ (by first | (dsimp only; omega) | (simp only [World.size_alloc]; omega) | (with_reducible refine Gr.size ?_; (repeat (first | with_reducible exact Gr.refl _ | with_reducible assumption | with_reducible refine Gr.alloc ?_ _ | with_reducible refine Gr.drewN ?_ _ | with_reducible refine Gr.drew ?_ | with_reducible refine Gr.trans ?_ (by with_reducible assumption))); done)) _ | with_reducible refine Gr.trans ?_ (by with_reducible assumption))), HS'⟩
          case measure => simp only [intOf]; omega
        | false =>
          have HE := hide (lsB_stop (f := hoQ) HLa.out HLb.out hv)
          rw [hv] at NEQ
          clear hv
          go_upto_region 6 with fail
          have GC := @GrW.cell
          refine wp_region_grw _ (by kernel_rfl) (by kernel_rfl) (Gr.refl _) ?_
          repeat (go_big_quiet_step ((first | fail)))
          refine wpQuiet_nil ?_
          intro wq hwq
          obtain ⟨gq, hwq'⟩ := hwq
          subst hwq'
          clear GC
          have gq1 := gq.gr
          generalize gq.w = wq at gq1 ⊢
          obtain ⟨Xq, Yq, cq, fq⟩ := gq1.use
          have sq := gq1.size
          (try simp only [World.size_alloc, World.size_setCell, World.heap_drewN] at sq)
          go_wp2
          go_ret
          exact ⟨ret_bool HE.out.symm, (by repeat (first | with_reducible exact Gr.refl _ | with_reducible assumption | with_reducible refine Gr.alloc ?_ _ | with_reducible refine Gr.drewN ?_ _ | with_reducible refine Gr.drew ?_ | with_reducible refine Gr.setCell ?_ (by first | (dsimp only; omega) | (simp only [World.size_alloc]; omega) | (with_reducible refine Gr.size ?_; (repeat (first | with_reducible exact Gr.refl _ | with_reducible assumption | with_reducible refine Gr.alloc ?_ _ | with_reducible refine Gr.drewN ?_ _ | with_reducible refine Gr.drew ?_ | with_reducible refine Gr.trans ?_ (by with_reducible assumption))); done)) _ | with_reducible refine Gr.trans ?_ (by with_reducible assumption)))⟩
      · obtain rfl : k = l.length := by omega
        have HE := hide (lsB_end (f := hoQ) HN.out HS.out)
        go_wp2
        go_ret
        exact ⟨ret_bool HE.out.symm, (by repeat (first | with_reducible exact Gr.refl _ | with_reducible assumption | with_reducible refine Gr.alloc ?_ _ | with_reducible refine Gr.drewN ?_ _ | with_reducible refine Gr.drew ?_ | with_reducible refine Gr.setCell ?_ (by first | (dsimp only; omega) | (simp only [World.size_alloc]; omega) | (with_reducible refine Gr.size ?_; (repeat (first | with_reducible exact Gr.refl _ | with_reducible assumption | with_reducible refine Gr.alloc ?_ _ | with_reducible refine Gr.drewN ?_ _ | with_reducible refine Gr.drew ?_ | with_reducible refine Gr.trans ?_ (by with_reducible assumption))); done)) _ | with_reducible refine Gr.trans ?_ (by with_reducible assumption)))⟩
  · have HE := hide (lsB_len (f := hoQ) hlen)
    have hq : ((l.length : Int) == (m.length : Int)) = false := by rw [beq_eq_false_iff_ne]; omega
    clear hlen
    go_enter Try.func72, Try.ntmps72
    go_wp2
    go_ret
    exact ⟨ret_bool HE.out.symm, (by repeat (first | with_reducible exact Gr.refl _ | with_reducible assumption | with_reducible refine Gr.alloc ?_ _ | with_reducible refine Gr.drewN ?_ _ | with_reducible refine Gr.drew ?_ | with_reducible refine Gr.setCell ?_ (by first | (dsimp only; omega) | (simp only [World.size_alloc]; omega) | (with_reducible refine Gr.size ?_; (repeat (first | with_reducible exact Gr.refl _ | with_reducible assumption | with_reducible refine Gr.alloc ?_ _ | with_reducible refine Gr.drewN ?_ _ | with_reducible refine Gr.drew ?_ | with_reducible refine Gr.trans ?_ (by with_reducible assumption))); done)) _ | with_reducible refine Gr.trans ?_ (by with_reducible assumption)))⟩
end Go.Proofs.Ytpmomgfepkegnaa
