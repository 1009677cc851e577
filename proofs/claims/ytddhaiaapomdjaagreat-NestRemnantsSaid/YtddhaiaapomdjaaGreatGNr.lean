/-
  Nests: the reference's tests of lists of rectangles, and of sheets.
  Nests: ValidateSheet of the reference.
  Nests: the reference's touching, deep and least.
  Nests: the reference's connected.
  Nests: an append of a list of rectangles, empty or not, in a region that draws; a part of a list in memory.
-/
import Derived.Test.YtddhaiaapomdjaaGreatGJr
import Derived.Test.YtddhaiaapomdjaaGreatGKr
import Derived.Test.YtddhaiaapomdjaaGreatGLr
set_option linter.unusedVariables false
set_option linter.unusedSimpArgs false
namespace Go.Proofs.YtddhaiaapomdjaaGreat
set_option linter.unusedVariables false
set_option linter.unusedSimpArgs false
open Go Go.ChangeShapes Go.WideShapes Go.ChangeAt Go.RowKit Go.Deep

namespace RG
set_option maxHeartbeats 4000000 in
set_option maxRecDepth 100000 in
theorem rights6_any (A : Option Addr) (c : Nat) (l : List Rc) (w : World) (hl : SlR w A c l) :
    Calls Tryz.prog 29 #[.slice A l.length c] w fun e w' => e = .returned (.bool (vaB l)) ∧ Gr w w' := by
  have n1 := hl.cap
  have n2 := hl.capB
  have HL := hide hl
  have HY := hide (show ∀ (j : Nat) (y : Rc), l[j]? = some y → vrR y = false → vaB l = false from fun j y hy hb => alls_no hy hb)
  have HN := hide (show (∀ (j : Nat) (y : Rc), j < l.length → l[j]? = some y → vrR y = true) → vaB l = true from fun h => alls_yes h)
  clear hl
  go_enter Tryz.func29, Tryz.ntmps29
  go_wp2
  go_loopw [3] (fun i wr => ∃ k : Nat, k ≤ l.length ∧ i = iv k ∧ Gr w wr ∧ Hid (∀ j r, j < k → l[j]? = some r → vrR r = true)) (fun i _ => l.length - (intOf i).toNat)
  case atStart => exact ⟨0, by omega, rfl, Gr.refl _, hide (fun j r h => absurd h (Nat.not_lt_zero j))⟩
  case round =>
    obtain ⟨k, hk, rfl, g, HS⟩ := hrel
    by_cases hkl : k < l.length
    · obtain ⟨r, hr⟩ : ∃ r, l[k]? = some r := ⟨_, List.getElem?_eq_getElem hkl⟩
      obtain ⟨b, o, rfl, x0, x1, x2, x3⟩ := (HL.out.gr g).at_ hr
      have hbl : b < wr.heap.size := cell_lt (by rw [x0]; rfl)
      have HR := hide hr
      have hk0 : (0 : Int) ≤ (k : Int) := by omega
      have hk1 : (k : Int) < (l.length : Int) := by omega
      have HI := hide (fun w' => Right_any r.x r.y r.w r.h w')
      rw [show vrB r.x r.y r.w r.h = vrR r from rfl] at HI
      clear hr
      cases hv : vrR r with
      | true =>
        have HS' := hide (show ∀ j r, j < k + 1 → l[j]? = some r → vrR r = true by
          intro j q hj hq
          rcases Nat.lt_or_ge j k with h | h
          · exact HS.out j q h hq
          · obtain rfl : j = k := by omega
            rw [HR.out] at hq
            obtain rfl := Option.some.inj hq
            exact hv)
        rw [hv] at HI
        clear hv
        go_wp2_with (first | (go_at_call 73; refine (HI.out _).mono ?_; rintro e w1 ⟨rfl, g1⟩; obtain ⟨X1, Y1, c1, f1⟩ := g1.use))
        go_roundw
        case rel => exact ⟨k + 1, by omega, by go_num, (by with_reducible repeat (first | exact Gr.refl _ | assumption | refine Gr.alloc ?_ _ | refine Gr.drewN ?_ _ | refine Gr.drew ?_ | refine Gr.setCell ?_ (by first | (dsimp only; omega) | (simp only [World.size_alloc]; omega) | (refine Gr.size ?_; (repeat (first | exact Gr.refl _ | assumption | refine Gr.alloc ?_ _ | refine Gr.drewN ?_ _ | refine Gr.drew ?_ | refine Gr.trans ?_ (by assumption))); done)) _ | refine Gr.trans ?_ (by assumption))), HS'⟩
        case measure => simp only [intOf]; omega
      | false =>
        have HE := hide (HY.out k r HR.out hv)
        rw [hv] at HI
        clear hv
        go_wp2_with (first | (go_at_call 73; refine (HI.out _).mono ?_; rintro e w1 ⟨rfl, g1⟩; obtain ⟨X1, Y1, c1, f1⟩ := g1.use))
        go_ret
        exact ⟨ret_bool HE.out.symm, (by with_reducible repeat (first | exact Gr.refl _ | assumption | refine Gr.alloc ?_ _ | refine Gr.drewN ?_ _ | refine Gr.drew ?_ | refine Gr.setCell ?_ (by first | (dsimp only; omega) | (simp only [World.size_alloc]; omega) | (refine Gr.size ?_; (repeat (first | exact Gr.refl _ | assumption | refine Gr.alloc ?_ _ | refine Gr.drewN ?_ _ | refine Gr.drew ?_ | refine Gr.trans ?_ (by assumption))); done)) _ | refine Gr.trans ?_ (by assumption)))⟩
    · obtain rfl : k = l.length := by omega
      have HE := hide (HN.out HS.out)
      go_wp2
      go_ret
      exact ⟨ret_bool HE.out.symm, (by with_reducible repeat (first | exact Gr.refl _ | assumption | refine Gr.alloc ?_ _ | refine Gr.drewN ?_ _ | refine Gr.drew ?_ | refine Gr.setCell ?_ (by first | (dsimp only; omega) | (simp only [World.size_alloc]; omega) | (refine Gr.size ?_; (repeat (first | exact Gr.refl _ | assumption | refine Gr.alloc ?_ _ | refine Gr.drewN ?_ _ | refine Gr.drew ?_ | refine Gr.trans ?_ (by assumption))); done)) _ | refine Gr.trans ?_ (by assumption)))⟩
set_option maxHeartbeats 4000000 in
set_option maxRecDepth 100000 in
theorem Within_any (x y u h a b c d : Int) (w : World) :
    Calls Tryz.prog 92 #[rc x y u h, rc a b c d] w fun e w' => e = .returned (.bool (isB x y u h a b c d)) ∧ Gr w w' := by
  cases h1 : vrB x y u h with
  | true =>
    cases h2 : vrB a b c d with
    | true =>
      obtain ⟨⟨p1, p2, p3, p4⟩, p5, p6⟩ := vr_lims h1
      obtain ⟨⟨q1, q2, q3, q4⟩, q5, q6⟩ := vr_lims h2
      obtain ⟨_, _⟩ := p1
      obtain ⟨_, _⟩ := p2
      obtain ⟨_, _⟩ := p3
      obtain ⟨_, _⟩ := p4
      obtain ⟨_, _⟩ := q1
      obtain ⟨_, _⟩ := q2
      obtain ⟨_, _⟩ := q3
      obtain ⟨_, _⟩ := q4
      have W1 : IntKind.i64.wrap (x + u) = x + u := IntWalk.i64_in _ (by omega)
      have W2 : IntKind.i64.wrap (y + h) = y + h := IntWalk.i64_in _ (by omega)
      have W3 : IntKind.i64.wrap (a + c) = a + c := IntWalk.i64_in _ (by omega)
      have W4 : IntKind.i64.wrap (b + d) = b + d := IntWalk.i64_in _ (by omega)
      have HE := hide (show isB x y u h a b c d = (decide (a ≤ x) && decide (x + u ≤ a + c) && (decide (b ≤ y) && decide (y + h ≤ b + d))) by unfold isB siB; rw [h1, h2]; rfl)
      go_enter Tryz.func92, Tryz.ntmps92
      go_wp2_with (first | (go_at_call 73; refine (Right_any _ _ _ _ _).mono ?_; rintro e w1 ⟨rfl, g1⟩; obtain ⟨X1, Y1, c1, f1⟩ := g1.use; have z1 := g1.size; (try simp only [World.size_alloc, World.size_setCell, World.heap_drewN, Nat.add_one_le_iff] at z1); (try have l0 : w.heap.size < w1.heap.size := by omega); (try have l1 : w.heap.size + 1 < w1.heap.size := by omega); (try have l2 : w.heap.size + 1 + 1 < w1.heap.size := by omega)))
      all_goals
        go_ret
        exact ⟨ret_bool (by rw [HE.out]; simp [*] <;> omega), (by with_reducible repeat (first | exact Gr.refl _ | assumption | refine Gr.alloc ?_ _ | refine Gr.drewN ?_ _ | refine Gr.drew ?_ | refine Gr.setCell ?_ (by first | (dsimp only; omega) | (simp only [World.size_alloc]; omega) | (refine Gr.size ?_; (repeat (first | exact Gr.refl _ | assumption | refine Gr.alloc ?_ _ | refine Gr.drewN ?_ _ | refine Gr.drew ?_ | refine Gr.trans ?_ (by assumption))); done)) _ | refine Gr.trans ?_ (by assumption)))⟩
    | false =>
      have HE := hide (show isB x y u h a b c d = false by unfold isB; rw [h2]; simp)
      go_enter Tryz.func92, Tryz.ntmps92
      go_wp2_with (first | (go_at_call 73; refine (Right_any _ _ _ _ _).mono ?_; rintro e w1 ⟨rfl, g1⟩; obtain ⟨X1, Y1, c1, f1⟩ := g1.use; have z1 := g1.size; (try simp only [World.size_alloc, World.size_setCell, World.heap_drewN, Nat.add_one_le_iff] at z1); (try have l0 : w.heap.size < w1.heap.size := by omega); (try have l1 : w.heap.size + 1 < w1.heap.size := by omega); (try have l2 : w.heap.size + 1 + 1 < w1.heap.size := by omega)))
      go_ret
      exact ⟨ret_bool HE.out.symm, (by with_reducible repeat (first | exact Gr.refl _ | assumption | refine Gr.alloc ?_ _ | refine Gr.drewN ?_ _ | refine Gr.drew ?_ | refine Gr.setCell ?_ (by first | (dsimp only; omega) | (simp only [World.size_alloc]; omega) | (refine Gr.size ?_; (repeat (first | exact Gr.refl _ | assumption | refine Gr.alloc ?_ _ | refine Gr.drewN ?_ _ | refine Gr.drew ?_ | refine Gr.trans ?_ (by assumption))); done)) _ | refine Gr.trans ?_ (by assumption)))⟩
  | false =>
    have HE := hide (show isB x y u h a b c d = false by unfold isB; rw [h1]; simp)
    go_enter Tryz.func92, Tryz.ntmps92
    go_wp2_with (first | (go_at_call 73; refine (Right_any _ _ _ _ _).mono ?_; rintro e w1 ⟨rfl, g1⟩; obtain ⟨X1, Y1, c1, f1⟩ := g1.use; have z1 := g1.size; (try simp only [World.size_alloc, World.size_setCell, World.heap_drewN, Nat.add_one_le_iff] at z1); (try have l0 : w.heap.size < w1.heap.size := by omega); (try have l1 : w.heap.size + 1 < w1.heap.size := by omega); (try have l2 : w.heap.size + 1 + 1 < w1.heap.size := by omega)))
    go_ret
    exact ⟨ret_bool HE.out.symm, (by with_reducible repeat (first | exact Gr.refl _ | assumption | refine Gr.alloc ?_ _ | refine Gr.drewN ?_ _ | refine Gr.drew ?_ | refine Gr.setCell ?_ (by first | (dsimp only; omega) | (simp only [World.size_alloc]; omega) | (refine Gr.size ?_; (repeat (first | exact Gr.refl _ | assumption | refine Gr.alloc ?_ _ | refine Gr.drewN ?_ _ | refine Gr.drew ?_ | refine Gr.trans ?_ (by assumption))); done)) _ | refine Gr.trans ?_ (by assumption)))⟩
set_option maxHeartbeats 4000000 in
set_option maxRecDepth 100000 in
theorem inside6_any (s : ShT) (A : Option Addr) (c : Nat) (l : List Rc) (w : World) (hl : SlR w A c l) :
    Calls Tryz.prog 49 #[s.v, .slice A l.length c] w fun e w' => e = .returned (.bool (aiB l ⟨0, 0, s.wd, s.ht⟩)) ∧ Gr w w' := by
  have n1 := hl.cap
  have n2 := hl.capB
  have HL := hide hl
  have HY := hide (show ∀ (j : Nat) (y : Rc), l[j]? = some y → isR y ⟨0, 0, s.wd, s.ht⟩ = false → aiB l ⟨0, 0, s.wd, s.ht⟩ = false from fun j y hy hb => alls_no hy hb)
  have HN := hide (show (∀ (j : Nat) (y : Rc), j < l.length → l[j]? = some y → isR y ⟨0, 0, s.wd, s.ht⟩ = true) → aiB l ⟨0, 0, s.wd, s.ht⟩ = true from fun h => alls_yes h)
  clear hl
  go_enter Tryz.func49, Tryz.ntmps49
  go_wp2
  have g0 : Gr w (w.alloc (.cells #[.string s.nm, .string s.mt, iv s.ga, iv s.gr, iv s.wd, iv s.ht, .slice s.cA s.cl.length s.cc, .slice s.uA s.us.length s.uc] 24)) := Gr.alloc (Gr.refl _) _
  have MS := hide (Made.new w #[.string s.nm, .string s.mt, iv s.ga, iv s.gr, iv s.wd, iv s.ht, .slice s.cA s.cl.length s.cc, .slice s.uA s.us.length s.uc] 24)
  generalize w.alloc (.cells #[.string s.nm, .string s.mt, iv s.ga, iv s.gr, iv s.wd, iv s.ht, .slice s.cA s.cl.length s.cc, .slice s.uA s.us.length s.uc] 24) = w1 at *
  go_loopw [5] (fun i wr => ∃ k : Nat, k ≤ l.length ∧ i = iv k ∧ Gr w1 wr ∧ Hid (∀ j r, j < k → l[j]? = some r → isR r ⟨0, 0, s.wd, s.ht⟩ = true)) (fun i _ => l.length - (intOf i).toNat)
  case atStart => exact ⟨0, by omega, rfl, Gr.refl _, hide (fun j r h => absurd h (Nat.not_lt_zero j))⟩
  case round =>
    obtain ⟨k, hk, rfl, g, HS⟩ := hrel
    by_cases hkl : k < l.length
    · obtain ⟨r, hr⟩ : ∃ r, l[k]? = some r := ⟨_, List.getElem?_eq_getElem hkl⟩
      obtain ⟨b, o, rfl, x0, x1, x2, x3⟩ := (HL.out.gr (g0.trans g)).at_ hr
      obtain ⟨e4, q4, _⟩ := MS.out.gr g
      have a44 := q4 4
      have a45 := q4 5
      clear q4
      have hbl : b < wr.heap.size := cell_lt (by rw [x0]; rfl)
      have HR := hide hr
      have hk0 : (0 : Int) ≤ (k : Int) := by omega
      have hk1 : (k : Int) < (l.length : Int) := by omega
      have HI := hide (fun w' => Within_any r.x r.y r.w r.h 0 0 s.wd s.ht w')
      rw [show isB r.x r.y r.w r.h 0 0 s.wd s.ht = isR r ⟨0, 0, s.wd, s.ht⟩ from rfl] at HI
      clear hr
      cases hv : isR r ⟨0, 0, s.wd, s.ht⟩ with
      | true =>
        have HS' := hide (show ∀ j r, j < k + 1 → l[j]? = some r → isR r ⟨0, 0, s.wd, s.ht⟩ = true by
          intro j q hj hq
          rcases Nat.lt_or_ge j k with h | h
          · exact HS.out j q h hq
          · obtain rfl : j = k := by omega
            rw [HR.out] at hq
            obtain rfl := Option.some.inj hq
            exact hv)
        rw [hv] at HI
        clear hv
        go_upto_region 4 with fail
        have GC := @GrW.cell
        refine wp_region_grw _ (by kernel_rfl) (by kernel_rfl) (Gr.refl _) ?_
        repeat (go_big_quiet_step ((first | (go_at_call 92; exact quiet_grw (HI.out _)))))
        refine wpQuiet_nil ?_
        intro wq hwq
        obtain ⟨gq, hwq'⟩ := hwq
        subst hwq'
        clear GC
        have gq1 := gq.gr
        generalize gq.w = wq at gq1 ⊢
        obtain ⟨Xq, Yq, cq, fq⟩ := gq1.use
        have sq := gq1.size
        (try simp only [World.size_alloc, World.size_setCell, World.heap_drewN] at sq)
        go_wp2
        go_roundw
        case rel => exact ⟨k + 1, by omega, by go_num, (by with_reducible repeat (first | exact Gr.refl _ | assumption | refine Gr.alloc ?_ _ | refine Gr.drewN ?_ _ | refine Gr.drew ?_ | refine Gr.setCell ?_ (by first | (dsimp only; omega) | (simp only [World.size_alloc]; omega) | (refine Gr.size ?_; (repeat (first | exact Gr.refl _ | assumption | refine Gr.alloc ?_ _ | refine Gr.drewN ?_ _ | refine Gr.drew ?_ | refine Gr.trans ?_ (by assumption))); done)) _ | refine Gr.trans ?_ (by assumption))), HS'⟩
        case measure => simp only [intOf]; omega
      | false =>
        have HE := hide (HY.out k r HR.out hv)
        rw [hv] at HI
        clear hv
        go_upto_region 4 with fail
        have GC := @GrW.cell
        refine wp_region_grw _ (by kernel_rfl) (by kernel_rfl) (Gr.refl _) ?_
        repeat (go_big_quiet_step ((first | (go_at_call 92; exact quiet_grw (HI.out _)))))
        refine wpQuiet_nil ?_
        intro wq hwq
        obtain ⟨gq, hwq'⟩ := hwq
        subst hwq'
        clear GC
        have gq1 := gq.gr
        generalize gq.w = wq at gq1 ⊢
        obtain ⟨Xq, Yq, cq, fq⟩ := gq1.use
        have sq := gq1.size
        (try simp only [World.size_alloc, World.size_setCell, World.heap_drewN] at sq)
        go_wp2
        go_ret
        exact ⟨ret_bool HE.out.symm, (by with_reducible repeat (first | exact Gr.refl _ | assumption | refine Gr.alloc ?_ _ | refine Gr.drewN ?_ _ | refine Gr.drew ?_ | refine Gr.setCell ?_ (by first | (dsimp only; omega) | (simp only [World.size_alloc]; omega) | (refine Gr.size ?_; (repeat (first | exact Gr.refl _ | assumption | refine Gr.alloc ?_ _ | refine Gr.drewN ?_ _ | refine Gr.drew ?_ | refine Gr.trans ?_ (by assumption))); done)) _ | refine Gr.trans ?_ (by assumption)))⟩
    · obtain rfl : k = l.length := by omega
      have HE := hide (HN.out HS.out)
      go_wp2
      go_ret
      exact ⟨ret_bool HE.out.symm, (by with_reducible repeat (first | exact Gr.refl _ | assumption | refine Gr.alloc ?_ _ | refine Gr.drewN ?_ _ | refine Gr.drew ?_ | refine Gr.setCell ?_ (by first | (dsimp only; omega) | (simp only [World.size_alloc]; omega) | (refine Gr.size ?_; (repeat (first | exact Gr.refl _ | assumption | refine Gr.alloc ?_ _ | refine Gr.drewN ?_ _ | refine Gr.drew ?_ | refine Gr.trans ?_ (by assumption))); done)) _ | refine Gr.trans ?_ (by assumption)))⟩
/-- some rectangle of a list overlaps another one -/
def meB (r : Rc) (l : List Rc) : Bool := l.any (ovQ r)
set_option maxHeartbeats 4000000 in
set_option maxRecDepth 100000 in
theorem meets6_any (q : Rc) (A : Option Addr) (c : Nat) (l : List Rc) (w : World) (hl : SlR w A c l) :
    Calls Tryz.prog 50 #[rcv q, .slice A l.length c] w fun e w' => e = .returned (.bool (meB q l)) ∧ Gr w w' := by
  have n1 := hl.cap
  have n2 := hl.capB
  have HL := hide hl
  have HY := hide (show ∀ (j : Nat) (y : Rc), l[j]? = some y → ovQ q y = true → meB q l = true from fun j y hy hb => any_ye hy hb)
  have HN := hide (show (∀ (j : Nat) (y : Rc), j < l.length → l[j]? = some y → ovQ q y = false) → meB q l = false from fun h => any_nn h)
  clear hl
  go_enter Tryz.func50, Tryz.ntmps50
  go_wp2
  have g0 : Gr w (w.alloc (.cells #[iv q.x, iv q.y, iv q.w, iv q.h] 70)) := Gr.alloc (Gr.refl _) _
  have HB := hide (fun (w' : World) (g : Gr (w.alloc (.cells #[iv q.x, iv q.y, iv q.w, iv q.h] 70)) w') => box4 g)
  generalize w.alloc (.cells #[iv q.x, iv q.y, iv q.w, iv q.h] 70) = w1 at *
  go_loopw [5] (fun i wr => ∃ k : Nat, k ≤ l.length ∧ i = iv k ∧ Gr w1 wr ∧ Hid (∀ j r, j < k → l[j]? = some r → ovQ q r = false)) (fun i _ => l.length - (intOf i).toNat)
  case atStart => exact ⟨0, by omega, rfl, Gr.refl _, hide (fun j r h => absurd h (Nat.not_lt_zero j))⟩
  case round =>
    obtain ⟨k, hk, rfl, g, HS⟩ := hrel
    by_cases hkl : k < l.length
    · obtain ⟨r, hr⟩ : ∃ r, l[k]? = some r := ⟨_, List.getElem?_eq_getElem hkl⟩
      obtain ⟨b, o, rfl, x0, x1, x2, x3⟩ := (HL.out.gr (g0.trans g)).at_ hr
      obtain ⟨hb, p0, p1, p2, p3⟩ := HB.out wr g
      have hbl : b < wr.heap.size := cell_lt (by rw [x0]; rfl)
      have HR := hide hr
      have hk0 : (0 : Int) ≤ (k : Int) := by omega
      have hk1 : (k : Int) < (l.length : Int) := by omega
      have HI := hide (fun w' => Overlaps_any q.x q.y q.w q.h r.x r.y r.w r.h w')
      rw [show ovB q.x q.y q.w q.h r.x r.y r.w r.h = ovQ q r from rfl] at HI
      clear hr
      cases hv : ovQ q r with
      | false =>
        have HS' := hide (show ∀ j r, j < k + 1 → l[j]? = some r → ovQ q r = false by
          intro j u hj hq
          rcases Nat.lt_or_ge j k with h | h
          · exact HS.out j u h hq
          · obtain rfl : j = k := by omega
            rw [HR.out] at hq
            obtain rfl := Option.some.inj hq
            exact hv)
        rw [hv] at HI
        clear hv
        go_upto_region 4 with fail
        have GC := @GrW.cell
        refine wp_region_grw _ (by kernel_rfl) (by kernel_rfl) (Gr.refl _) ?_
        repeat (go_big_quiet_step ((first | (go_at_call 93; exact quiet_grw (HI.out _)))))
        refine wpQuiet_nil ?_
        intro wq hwq
        obtain ⟨gq, hwq'⟩ := hwq
        subst hwq'
        clear GC
        have gq1 := gq.gr
        generalize gq.w = wq at gq1 ⊢
        obtain ⟨Xq, Yq, cq, fq⟩ := gq1.use
        have sq := gq1.size
        (try simp only [World.size_alloc, World.size_setCell, World.heap_drewN] at sq)
        go_wp2
        go_roundw
        case rel => exact ⟨k + 1, by omega, by go_num, (by with_reducible repeat (first | exact Gr.refl _ | assumption | refine Gr.alloc ?_ _ | refine Gr.drewN ?_ _ | refine Gr.drew ?_ | refine Gr.setCell ?_ (by first | (dsimp only; omega) | (simp only [World.size_alloc]; omega) | (refine Gr.size ?_; (repeat (first | exact Gr.refl _ | assumption | refine Gr.alloc ?_ _ | refine Gr.drewN ?_ _ | refine Gr.drew ?_ | refine Gr.trans ?_ (by assumption))); done)) _ | refine Gr.trans ?_ (by assumption))), HS'⟩
        case measure => simp only [intOf]; omega
      | true =>
        have HE := hide (HY.out k r HR.out hv)
        rw [hv] at HI
        clear hv
        go_upto_region 4 with fail
        have GC := @GrW.cell
        refine wp_region_grw _ (by kernel_rfl) (by kernel_rfl) (Gr.refl _) ?_
        repeat (go_big_quiet_step ((first | (go_at_call 93; exact quiet_grw (HI.out _)))))
        refine wpQuiet_nil ?_
        intro wq hwq
        obtain ⟨gq, hwq'⟩ := hwq
        subst hwq'
        clear GC
        have gq1 := gq.gr
        generalize gq.w = wq at gq1 ⊢
        obtain ⟨Xq, Yq, cq, fq⟩ := gq1.use
        have sq := gq1.size
        (try simp only [World.size_alloc, World.size_setCell, World.heap_drewN] at sq)
        go_wp2
        go_ret
        exact ⟨ret_bool HE.out.symm, (by with_reducible repeat (first | exact Gr.refl _ | assumption | refine Gr.alloc ?_ _ | refine Gr.drewN ?_ _ | refine Gr.drew ?_ | refine Gr.setCell ?_ (by first | (dsimp only; omega) | (simp only [World.size_alloc]; omega) | (refine Gr.size ?_; (repeat (first | exact Gr.refl _ | assumption | refine Gr.alloc ?_ _ | refine Gr.drewN ?_ _ | refine Gr.drew ?_ | refine Gr.trans ?_ (by assumption))); done)) _ | refine Gr.trans ?_ (by assumption)))⟩
    · obtain rfl : k = l.length := by omega
      have HE := hide (HN.out HS.out)
      go_wp2
      go_ret
      exact ⟨ret_bool HE.out.symm, (by with_reducible repeat (first | exact Gr.refl _ | assumption | refine Gr.alloc ?_ _ | refine Gr.drewN ?_ _ | refine Gr.drew ?_ | refine Gr.setCell ?_ (by first | (dsimp only; omega) | (simp only [World.size_alloc]; omega) | (refine Gr.size ?_; (repeat (first | exact Gr.refl _ | assumption | refine Gr.alloc ?_ _ | refine Gr.drewN ?_ _ | refine Gr.drew ?_ | refine Gr.trans ?_ (by assumption))); done)) _ | refine Gr.trans ?_ (by assumption)))⟩
/-- the error of names, gauge and grain -/
def stE (nm mt : ByteArray) (ga gr : Int) : Int := if (nameB nm.toList && nameB mt.toList) = true then (if knB ga gr = true then 0 else 1) else 2
set_option maxHeartbeats 4000000 in
set_option maxRecDepth 100000 in
theorem stuff6_any (nm mt : ByteArray) (ga gr : Int) (w : World) (h1 : nm.size ≤ 9223372036854775807) (h2 : mt.size ≤ 9223372036854775807) :
    Calls Tryz.prog 72 #[.string nm, .string mt, iv ga, iv gr] w fun e w' => e = .returned (iv (stE nm mt ga gr)) ∧ w = w' := by
  have H1 := hide (fun w' => rvalidName_any nm w' h1)
  have H2 := hide (fun w' => rvalidName_any mt w' h2)
  have HE := hide (show stE nm mt ga gr = if (nameB nm.toList && nameB mt.toList) = true then (if knB ga gr = true then 0 else 1) else 2 from rfl)
  generalize stE nm mt ga gr = E at *
  cases e1 : nameB nm.toList with
  | false =>
    rw [e1] at H1 HE
    clear e1
    have HX := hide (show E = 2 from HE.out)
    go_enter Tryz.func72, Tryz.ntmps72
    go_wp2_with (first | (go_at_call 119; refine (H1.out _).mono ?_; rintro e w1 ⟨rfl, rfl⟩))
    go_ret
    exact ⟨ret_iv HX.out.symm, rfl⟩
  | true =>
    rw [e1] at H1 HE
    clear e1
    cases e2 : nameB mt.toList with
    | false =>
      rw [e2] at H2 HE
      clear e2
      have HX := hide (show E = 2 from HE.out)
      go_enter Tryz.func72, Tryz.ntmps72
      go_wp2_with fail
      refine (H1.out _).mono ?_
      rintro e w1 ⟨rfl, rfl⟩
      go_wp2_with fail
      refine (H2.out _).mono ?_
      rintro e w1 ⟨rfl, rfl⟩
      go_wp2
      go_ret
      exact ⟨ret_iv HX.out.symm, rfl⟩
    | true =>
      rw [e2] at H2 HE
      clear e2
      by_cases k : (1 ≤ ga ∧ ga ≤ 60) ∧ 0 ≤ gr ∧ gr ≤ 2
      · have HX := hide (show E = 0 by
          have : knB ga gr = true := by unfold knB; rw [wiB_iff.2 k.1, wiB_iff.2 k.2]; rfl
          rw [HE.out, this]; rfl)
        obtain ⟨⟨k1, k2⟩, k3, k4⟩ := k
        have d1 : decide (ga < 1) = false := decide_eq_false (by omega)
        have d2 : decide (ga > 60) = false := decide_eq_false (by omega)
        have d3 : decide (gr < 0) = false := decide_eq_false (by omega)
        have d4 : decide (gr > 2) = false := decide_eq_false (by omega)
        go_enter Tryz.func72, Tryz.ntmps72
        go_wp2_with fail
        refine (H1.out _).mono ?_
        rintro e w1 ⟨rfl, rfl⟩
        go_wp2_with fail
        refine (H2.out _).mono ?_
        rintro e w1 ⟨rfl, rfl⟩
        go_wp2
        go_ret
        exact ⟨ret_iv HX.out.symm, rfl⟩
      · have HX := hide (show E = 1 by
          have : knB ga gr = false := by
            cases q : knB ga gr with
            | false => rfl
            | true =>
              unfold knB at q
              rw [Bool.and_eq_true, wiB_iff, wiB_iff] at q
              exact absurd q k
          rw [HE.out, this]; rfl)
        go_enter Tryz.func72, Tryz.ntmps72
        go_wp2_with fail
        refine (H1.out _).mono ?_
        rintro e w1 ⟨rfl, rfl⟩
        go_wp2_with fail
        refine (H2.out _).mono ?_
        rintro e w1 ⟨rfl, rfl⟩
        go_wp2
        all_goals first
          | (exfalso; omega)
          | (go_ret; exact ⟨ret_iv HX.out.symm, rfl⟩)
end RG
end Go.Proofs.YtddhaiaapomdjaaGreat
set_option linter.unusedVariables false
set_option linter.unusedSimpArgs false
namespace Go.Proofs.YtddhaiaapomdjaaGreat
set_option linter.unusedVariables false
set_option linter.unusedSimpArgs false
open Go Go.ChangeShapes Go.WideShapes Go.ChangeAt Go.RowKit Go.Deep

namespace RG
theorem vs_st {s : ShT} (h : stE s.nm s.mt s.ga s.gr ≠ 0) : vsE s = stE s.nm s.mt s.ga s.gr := by
  unfold stE vsE at *
  cases h1 : (nameB s.nm.toList && nameB s.mt.toList) with
  | false => rfl
  | true =>
    rw [h1] at h
    cases h2 : knB s.ga s.gr with
    | false => rfl
    | true => rw [h2] at h; exact absurd rfl h
theorem st_good {nm mt : ByteArray} {ga gr : Int} (h : stE nm mt ga gr = 0) : (nameB nm.toList && nameB mt.toList) = true ∧ knB ga gr = true := by
  unfold stE at h
  cases h1 : (nameB nm.toList && nameB mt.toList) with
  | false => rw [h1] at h; simp at h
  | true =>
    cases h2 : knB ga gr with
    | false => rw [h1, h2] at h; simp at h
    | true => exact ⟨rfl, rfl⟩
theorem aiB_app (l m : List Rc) (r : Rc) : aiB (l ++ m) r = (aiB l r && aiB m r) := by unfold aiB; rw [List.all_append]
theorem vaB_app (l m : List Rc) : vaB (l ++ m) = (vaB l && vaB m) := by unfold vaB; rw [List.all_append]
theorem vs_go {s : ShT} (h : stE s.nm s.mt s.ga s.gr = 0) : vsE s = if (wiB s.wd 1 1048576 && wiB s.ht 1 1048576) = true then (if 4 < s.cl.length ∨ 48 < s.us.length then 4 else (if (vaB s.cl && vaB s.us) = true then (if (aiB s.cl ⟨0, 0, s.wd, s.ht⟩ && aiB s.us ⟨0, 0, s.wd, s.ht⟩) = true then 0 else 13) else 1)) else 1 := by
  obtain ⟨h1, h2⟩ := st_good h
  unfold vsE coE
  rw [h1, h2, Bool.true_and, vaB_app, aiB_app]
  simp only [if_true]
set_option maxHeartbeats 8000000 in
set_option maxRecDepth 100000 in
theorem rValidateSheet_any (s : ShT) (w : World) (hs : ShW w s) :
    Calls Tryz.prog 28 #[s.v] w fun e w' => e = .returned (iv (vsE s)) ∧ Gr w w' := by
  have H1 := hide (fun w' => stuff6_any s.nm s.mt s.ga s.gr w' hs.n1 hs.n2)
  by_cases h0 : stE s.nm s.mt s.ga s.gr = 0
  case neg =>
    have HE := hide (vs_st h0)
    generalize stE s.nm s.mt s.ga s.gr = E at *
    have hE1 : (E != 0) = true := by simpa using h0
    clear hs h0
    go_enter Tryz.func28, Tryz.ntmps28
    go_wp2_with (first | (go_at_call 72; refine (H1.out _).mono ?_; rintro e w1 ⟨rfl, rfl⟩))
    go_ret
    exact ⟨ret_iv HE.out.symm, (by with_reducible repeat (first | exact Gr.refl _ | assumption | refine Gr.alloc ?_ _ | refine Gr.drewN ?_ _ | refine Gr.drew ?_ | refine Gr.setCell ?_ (by first | (dsimp only; omega) | (simp only [World.size_alloc]; omega) | (refine Gr.size ?_; (repeat (first | exact Gr.refl _ | assumption | refine Gr.alloc ?_ _ | refine Gr.drewN ?_ _ | refine Gr.drew ?_ | refine Gr.trans ?_ (by assumption))); done)) _ | refine Gr.trans ?_ (by assumption)))⟩
  case pos =>
    have HE := hide (vs_go h0)
    rw [h0] at H1
    clear h0
    have n1 := hs.c.cap
    have n2 := hs.c.capB
    have n3 := hs.u.cap
    have n4 := hs.u.capB
    have R1 := hide (fun (w' : World) (g : Gr w w') => rights6_any s.cA s.cc s.cl w' (hs.c.gr g))
    have R2 := hide (fun (w' : World) (g : Gr w w') => rights6_any s.uA s.uc s.us w' (hs.u.gr g))
    have I1 := hide (fun (w' : World) (g : Gr w w') => inside6_any s s.cA s.cc s.cl w' (hs.c.gr g))
    have I2 := hide (fun (w' : World) (g : Gr w w') => inside6_any s s.uA s.uc s.us w' (hs.u.gr g))
    clear hs
    by_cases hw : (1 ≤ s.wd ∧ s.wd ≤ 1048576) ∧ 1 ≤ s.ht ∧ s.ht ≤ 1048576
    case neg =>
      have HX := hide (show vsE s = 1 by
        rw [HE.out, if_neg]
        rw [Bool.and_eq_true, wiB_iff, wiB_iff]
        exact hw)
      clear HE
      go_enter Tryz.func28, Tryz.ntmps28
      go_wp2_with (first | (go_at_call 72; refine (H1.out _).mono ?_; rintro e w1 ⟨rfl, rfl⟩))
      all_goals first
        | (exfalso; omega)
        | (go_ret; exact ⟨ret_iv HX.out.symm, (by with_reducible repeat (first | exact Gr.refl _ | assumption | refine Gr.alloc ?_ _ | refine Gr.drewN ?_ _ | refine Gr.drew ?_ | refine Gr.setCell ?_ (by first | (dsimp only; omega) | (simp only [World.size_alloc]; omega) | (refine Gr.size ?_; (repeat (first | exact Gr.refl _ | assumption | refine Gr.alloc ?_ _ | refine Gr.drewN ?_ _ | refine Gr.drew ?_ | refine Gr.trans ?_ (by assumption))); done)) _ | refine Gr.trans ?_ (by assumption)))⟩)
    case pos =>
      have HE := hide (show vsE s = if 4 < s.cl.length ∨ 48 < s.us.length then 4 else (if (vaB s.cl && vaB s.us) = true then (if (aiB s.cl ⟨0, 0, s.wd, s.ht⟩ && aiB s.us ⟨0, 0, s.wd, s.ht⟩) = true then 0 else 13) else 1) by
        rw [HE.out, if_pos]
        rw [Bool.and_eq_true, wiB_iff, wiB_iff]
        exact hw)
      obtain ⟨⟨k1, k2⟩, k3, k4⟩ := hw
      have d1 : decide (s.wd < 1) = false := decide_eq_false (by omega)
      have d2 : decide (s.wd > 1048576) = false := decide_eq_false (by omega)
      have d3 : decide (s.ht < 1) = false := decide_eq_false (by omega)
      have d4 : decide (s.ht > 1048576) = false := decide_eq_false (by omega)
      by_cases hl : 4 < s.cl.length ∨ 48 < s.us.length
      case pos =>
        have HX := hide (show vsE s = 4 by rw [HE.out, if_pos hl])
        clear HE
        rcases hl with h | h
        · have d5 : decide ((s.cl.length : Int) > 4) = true := decide_eq_true (by omega)
          go_enter Tryz.func28, Tryz.ntmps28
          go_wp2_with (first | (go_at_call 72; refine (H1.out _).mono ?_; rintro e w1 ⟨rfl, rfl⟩))
          go_ret
          exact ⟨ret_iv HX.out.symm, (by with_reducible repeat (first | exact Gr.refl _ | assumption | refine Gr.alloc ?_ _ | refine Gr.drewN ?_ _ | refine Gr.drew ?_ | refine Gr.setCell ?_ (by first | (dsimp only; omega) | (simp only [World.size_alloc]; omega) | (refine Gr.size ?_; (repeat (first | exact Gr.refl _ | assumption | refine Gr.alloc ?_ _ | refine Gr.drewN ?_ _ | refine Gr.drew ?_ | refine Gr.trans ?_ (by assumption))); done)) _ | refine Gr.trans ?_ (by assumption)))⟩
        · have d6 : decide ((s.us.length : Int) > 48) = true := decide_eq_true (by omega)
          go_enter Tryz.func28, Tryz.ntmps28
          go_wp2_with (first | (go_at_call 72; refine (H1.out _).mono ?_; rintro e w1 ⟨rfl, rfl⟩))
          all_goals
            go_ret
            exact ⟨ret_iv HX.out.symm, (by with_reducible repeat (first | exact Gr.refl _ | assumption | refine Gr.alloc ?_ _ | refine Gr.drewN ?_ _ | refine Gr.drew ?_ | refine Gr.setCell ?_ (by first | (dsimp only; omega) | (simp only [World.size_alloc]; omega) | (refine Gr.size ?_; (repeat (first | exact Gr.refl _ | assumption | refine Gr.alloc ?_ _ | refine Gr.drewN ?_ _ | refine Gr.drew ?_ | refine Gr.trans ?_ (by assumption))); done)) _ | refine Gr.trans ?_ (by assumption)))⟩
      case neg =>
        have HE := hide (show vsE s = if (vaB s.cl && vaB s.us) = true then (if (aiB s.cl ⟨0, 0, s.wd, s.ht⟩ && aiB s.us ⟨0, 0, s.wd, s.ht⟩) = true then 0 else 13) else 1 by rw [HE.out, if_neg hl])
        have d5 : decide ((s.cl.length : Int) > 4) = false := decide_eq_false (by omega)
        have d6 : decide ((s.us.length : Int) > 48) = false := decide_eq_false (by omega)
        clear hl
        generalize vsE s = E at *
        generalize vaB s.cl = b1 at *
        generalize vaB s.us = b2 at *
        generalize aiB s.cl ⟨0, 0, s.wd, s.ht⟩ = b3 at *
        generalize aiB s.us ⟨0, 0, s.wd, s.ht⟩ = b4 at *
        go_enter Tryz.func28, Tryz.ntmps28
        go_wp2_with (first | (go_at_call 72; refine (H1.out _).mono ?_; rintro e w1 ⟨rfl, rfl⟩))
        have MS := hide (Made.new w #[.string s.nm, .string s.mt, iv s.ga, iv s.gr, iv s.wd, iv s.ht, .slice s.cA s.cl.length s.cc, .slice s.uA s.us.length s.uc] 24)
        have g0 : Gr w (w.alloc (.cells #[.string s.nm, .string s.mt, iv s.ga, iv s.gr, iv s.wd, iv s.ht, .slice s.cA s.cl.length s.cc, .slice s.uA s.us.length s.uc] 24)) := Gr.alloc (Gr.refl _) _
        generalize w.alloc (.cells #[.string s.nm, .string s.mt, iv s.ga, iv s.gr, iv s.wd, iv s.ht, .slice s.cA s.cl.length s.cc, .slice s.uA s.us.length s.uc] 24) = w0 at *
        generalize w.heap.size = b0 at *
        refine (R1.out _ g0).mono ?_
        rintro e w1 ⟨rfl, g1⟩
        have gw1 := g0.trans g1
        cases b1 with
        | false =>
          have HX := hide (show E = 1 from HE.out)
          go_wp2
          go_ret
          exact ⟨ret_iv HX.out.symm, (by with_reducible repeat (first | exact Gr.refl _ | assumption | refine Gr.alloc ?_ _ | refine Gr.drewN ?_ _ | refine Gr.drew ?_ | refine Gr.setCell ?_ (by first | (dsimp only; omega) | (simp only [World.size_alloc]; omega) | (refine Gr.size ?_; (repeat (first | exact Gr.refl _ | assumption | refine Gr.alloc ?_ _ | refine Gr.drewN ?_ _ | refine Gr.drew ?_ | refine Gr.trans ?_ (by assumption))); done)) _ | refine Gr.trans ?_ (by assumption)))⟩
        | true =>
          obtain ⟨e1, q1, _⟩ := MS.out.gr g1
          have a7 := q1 7
          clear q1
          go_wp2_with fail
          refine (R2.out _ gw1).mono ?_
          rintro e w2 ⟨rfl, g2⟩
          have gw2 := gw1.trans g2
          cases b2 with
          | false =>
            have HX := hide (show E = 1 from HE.out)
            go_wp2
            go_ret
            exact ⟨ret_iv HX.out.symm, (by with_reducible repeat (first | exact Gr.refl _ | assumption | refine Gr.alloc ?_ _ | refine Gr.drewN ?_ _ | refine Gr.drew ?_ | refine Gr.setCell ?_ (by first | (dsimp only; omega) | (simp only [World.size_alloc]; omega) | (refine Gr.size ?_; (repeat (first | exact Gr.refl _ | assumption | refine Gr.alloc ?_ _ | refine Gr.drewN ?_ _ | refine Gr.drew ?_ | refine Gr.trans ?_ (by assumption))); done)) _ | refine Gr.trans ?_ (by assumption)))⟩
          | true =>
            clear a7 e1
            obtain ⟨e2, q2, _⟩ := MS.out.gr (g1.trans g2)
            have a0 := q2 0
            have a1 := q2 1
            have a2 := q2 2
            have a3 := q2 3
            have a4 := q2 4
            have a5 := q2 5
            have a6 := q2 6
            have a7 := q2 7
            clear q2
            go_wp2_with fail
            refine (I1.out _ gw2).mono ?_
            rintro e w3 ⟨rfl, g3⟩
            have gw3 := gw2.trans g3
            cases b3 with
            | false =>
              have HX := hide (show E = 13 from HE.out)
              go_wp2
              go_ret
              exact ⟨ret_iv HX.out.symm, (by with_reducible repeat (first | exact Gr.refl _ | assumption | refine Gr.alloc ?_ _ | refine Gr.drewN ?_ _ | refine Gr.drew ?_ | refine Gr.setCell ?_ (by first | (dsimp only; omega) | (simp only [World.size_alloc]; omega) | (refine Gr.size ?_; (repeat (first | exact Gr.refl _ | assumption | refine Gr.alloc ?_ _ | refine Gr.drewN ?_ _ | refine Gr.drew ?_ | refine Gr.trans ?_ (by assumption))); done)) _ | refine Gr.trans ?_ (by assumption)))⟩
            | true =>
              clear e2 a0 a1 a2 a3 a4 a5 a6 a7
              obtain ⟨e2, q2, _⟩ := MS.out.gr ((g1.trans g2).trans g3)
              have a0 := q2 0
              have a1 := q2 1
              have a2 := q2 2
              have a3 := q2 3
              have a4 := q2 4
              have a5 := q2 5
              have a6 := q2 6
              have a7 := q2 7
              clear q2
              go_wp2_with fail
              refine (I2.out _ gw3).mono ?_
              rintro e w4 ⟨rfl, g4⟩
              have gw4 := gw3.trans g4
              cases b4 with
              | false =>
                have HX := hide (show E = 13 from HE.out)
                go_wp2
                go_ret
                exact ⟨ret_iv HX.out.symm, (by with_reducible repeat (first | exact Gr.refl _ | assumption | refine Gr.alloc ?_ _ | refine Gr.drewN ?_ _ | refine Gr.drew ?_ | refine Gr.setCell ?_ (by first | (dsimp only; omega) | (simp only [World.size_alloc]; omega) | (refine Gr.size ?_; (repeat (first | exact Gr.refl _ | assumption | refine Gr.alloc ?_ _ | refine Gr.drewN ?_ _ | refine Gr.drew ?_ | refine Gr.trans ?_ (by assumption))); done)) _ | refine Gr.trans ?_ (by assumption)))⟩
              | true =>
                have HX := hide (show E = 0 from HE.out)
                go_wp2
                go_ret
                exact ⟨ret_iv HX.out.symm, (by with_reducible repeat (first | exact Gr.refl _ | assumption | refine Gr.alloc ?_ _ | refine Gr.drewN ?_ _ | refine Gr.drew ?_ | refine Gr.setCell ?_ (by first | (dsimp only; omega) | (simp only [World.size_alloc]; omega) | (refine Gr.size ?_; (repeat (first | exact Gr.refl _ | assumption | refine Gr.alloc ?_ _ | refine Gr.drewN ?_ _ | refine Gr.drew ?_ | refine Gr.trans ?_ (by assumption))); done)) _ | refine Gr.trans ?_ (by assumption)))⟩
end RG
end Go.Proofs.YtddhaiaapomdjaaGreat
set_option linter.unusedVariables false
set_option linter.unusedSimpArgs false
namespace Go.Proofs.YtddhaiaapomdjaaGreat
set_option linter.unusedVariables false
set_option linter.unusedSimpArgs false
open Go Go.ChangeShapes Go.WideShapes Go.ChangeAt Go.RowKit Go.Deep

namespace RG
end RG
end Go.Proofs.YtddhaiaapomdjaaGreat
set_option linter.unusedVariables false
set_option linter.unusedSimpArgs false
namespace Go.Proofs.YtddhaiaapomdjaaGreat
set_option linter.unusedVariables false
set_option linter.unusedSimpArgs false
open Go Go.ChangeShapes Go.WideShapes Go.ChangeAt Go.RowKit Go.Deep

namespace RG
theorem ap_pair {p : Rc → Rc → Bool} (hs : ∀ a b, p a b = p b a) {l : List Rc} (h : apB p l = false) {i j : Nat} {a b : Rc} (hi : l[i]? = some a) (hj : l[j]? = some b) (hij : i ≠ j) : p a b = false := by
  rcases Nat.lt_or_gt_of_ne hij with c | c
  · cases e : p a b with
    | false => rfl
    | true => rw [apB_yes hi hj c e] at h; cases h
  · rw [hs]
    cases e : p b a with
    | false => rfl
    | true => rw [apB_yes hj hi c e] at h; cases h
end RG
end Go.Proofs.YtddhaiaapomdjaaGreat
set_option linter.unusedVariables false
set_option linter.unusedSimpArgs false
namespace Go.Proofs.YtddhaiaapomdjaaGreat
set_option linter.unusedVariables false
set_option linter.unusedSimpArgs false
open Go Go.ChangeShapes Go.WideShapes Go.ChangeAt Go.RowKit Go.Deep

namespace RG
set_option maxRecDepth 100000 in
theorem step_app6 {w : World} {ops : Array Oper} {o : Oper} {a : Act} {K : Act → World → Prop} {Q : Exit → Act → World → Prop} {E : Prop} (hgd : o.guard = none) (s x : Operand) (t : TypeId)
    (ho : o.op = .call { callee := .builtin .append, args := #[s, x], argTypes := #[t, t] }) (T : ElT Tryz.prog t 70 4 32)
    (base : Nat) (xs zs ys : List Rc) (hys : xs ++ zs = ys) (v : Value) (hs : a.eval s = v) (hown : OwnL w base 70 4 rcL v xs) (B : Option Addr) (c : Nat) (hx : a.eval x = .slice B zs.length c) (hz : SlR w B c zs) (hn : xs.length + zs.length ≤ 1000) (hbase : base ≤ w.heap.size)
    (h : ∀ (D : Option Addr) (q : Nat) (w' : World), OwnL w' base 70 4 rcL (.slice D ys.length q) ys → w.grownBy w' v.ownBlock → K (a.put o.dst (.slice D ys.length q)) w') :
    if Region.wanted o (yielded ops a.tmps) = true then Oper.wp Tryz.prog o a w K Q else E := by
  subst hys
  obtain ⟨D, q, rfl⟩ := hown.slice
  cases zs with
  | nil =>
    have hw : Region.wanted o (yielded ops a.tmps) = true := by simp [Region.wanted, hgd]
    rw [if_pos hw]
    obtain ⟨i, z, hi, hz', hsz, hby, hzs⟩ := T.inf
    obtain ⟨_, _, hcap, _⟩ := OwnL.rd (c := rcL) (fun _ => rfl) hown
    have hK := h D q w (by rw [List.append_nil]; exact hown) (World.grownBy.refl _ _)
    rw [List.append_nil] at hK
    simp only [List.length_nil] at hx
    unfold Oper.wp execOp
    simp only [ho, resolve, invoke, builtin, Sem.run_bind, Sem.run_pure, Result.andThen_ok, List.map_toArray, List.map_cons, List.map_nil, hs, hx, run_append_zero w t o.type 70 i T.und hi D xs.length q hcap B c]
    exact hK
  | cons z zs =>
    obtain ⟨i, z', hi, hz', hsz, hby, hzs⟩ := T.inf
    obtain ⟨b, off, hA, _⟩ := hz.rd 0 z rfl
    subst hA
    refine step_append_lies w hgd s x t ho base 70 i z' 4 32 T.und hi hz' hsz hby hzs (by omega) _ xs.length (xs.flatMap rcL) hs hown ⟨b, off, none⟩ (z :: zs).length c ((z :: zs).flatMap rcL) hx (by rw [fm_len (c := rcL) (k := 4) (fun _ => rfl)]) (news_at hz rfl) (one_all (z :: zs)) (by simp) (by unfold maxLen; omega) (by omega) hbase _ rfl ?_
    intro g cap w' h2 h3 h4 h5
    have hO : OwnL w' base 70 4 rcL (.slice (some ⟨g, 0, none⟩) (xs ++ z :: zs).length cap) (xs ++ z :: zs) := by
      unfold OwnL
      rw [List.flatMap_append, List.length_append]
      exact h2
    have := h (some ⟨g, 0, none⟩) cap w' hO h3
    rwa [List.length_append] at this
theorem slr_take {w : World} {A : Option Addr} {c : Nat} {l : List Rc} (h : SlR w A c l) (i : Nat) : SlR w A c (l.take i) := by
  refine ⟨fun j z hj => ?_, by have := h.cap; rw [List.length_take]; omega, h.capB⟩
  rw [List.getElem?_take] at hj
  split at hj
  · exact h.rd j z hj
  · cases hj
end RG
end Go.Proofs.YtddhaiaapomdjaaGreat
