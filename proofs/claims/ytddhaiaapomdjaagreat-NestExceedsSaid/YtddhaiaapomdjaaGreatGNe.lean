/-
 Nests: the reference's tests of lists of rectangles, and of sheets.
 Nests: ValidateSheet of the reference.
 Nests: the reference's touching, deep and least.
 Nests: the reference's connected.
 Nests: an append of a list of rectangles, empty or not, in a region that draws; a part of a list in memory.
-/
import Derived.Test.YtddhaiaapomdjaaGreatGJe
import Derived.Test.YtddhaiaapomdjaaGreatGKe
import Derived.Test.YtddhaiaapomdjaaGreatGLe
set_option linter.unusedVariables false
set_option linter.unusedSimpArgs false
namespace Go.Proofs.YtddhaiaapomdjaaGreat
set_option linter.unusedVariables false
set_option linter.unusedSimpArgs false
open Go Go.ChangeShapes Go.WideShapes Go.ChangeAt Go.RowKit Go.Deep

namespace RG
set_option maxHeartbeats 4000000 in
set_option maxRecDepth 100000 in
theorem rights6_any (A : Option Addr) (c : Nat) (l : List Rc) (w : World) (hl : SlR w A c l) :
  Calls Tryz.prog 29 #[.slice A l.length c] w fun e w' => e = .returned (.bool (vaB l)) ∧ Gr w w' := by
 have n1 := hl.cap
 have n2 := hl.capB
 have HL := hide hl
 have HY := hide (show ∀ (j : Nat) (y : Rc), l[j]? = some y → vrR y = false → vaB l = false from fun j y hy hb => alls_no hy hb)
 have HN := hide (show (∀ (j : Nat) (y : Rc), j < l.length → l[j]? = some y → vrR y = true) → vaB l = true from fun h => alls_yes h)
 clear hl
 go_enter Tryz.func29, Tryz.ntmps29
 go_wp2
 go_loopw [3] (fun i wr => ∃ k : Nat, k ≤ l.length ∧ i = iv k ∧ Gr w wr ∧ Hid (∀ j r, j < k → l[j]? = some r → vrR r = true)) (fun i _ => l.length - (intOf i).toNat)
 case atStart => exact ⟨0, by omega, rfl, Gr.refl _, hide (fun j r h => absurd h (Nat.not_lt_zero j))⟩
 case round =>
  obtain ⟨k, hk, rfl, g, HS⟩ := hrel
  by_cases hkl : k < l.length
  ·obtain ⟨r, hr⟩ : ∃ r, l[k]? = some r := ⟨_, List.getElem?_eq_getElem hkl⟩
   obtain ⟨b, o, rfl, x0, x1, x2, x3⟩ := (HL.out.gr g).at_ hr
   have hbl : b < wr.heap.size := cell_lt (by rw [x0]; rfl)
   have HR := hide hr
   have hk0 : (0 : Int) ≤ (k : Int) := by omega
   have hk1 : (k : Int) < (l.length : Int) := by omega
   have HI := hide (fun w' => Right_any r.x r.y r.w r.h w')
   rw [show vrB r.x r.y r.w r.h = vrR r from rfl] at HI
   clear hr
   cases hv : vrR r with
   | true =>
    have HS' := hide (show ∀ j r, j < k + 1 → l[j]? = some r → vrR r = true by
     intro j q hj hq
     rcases Nat.lt_or_ge j k with h | h
     ·exact HS.out j q h hq
     ·obtain rfl : j = k := by omega
      rw [HR.out] at hq
      obtain rfl := Option.some.inj hq
      exact hv)
    rw [hv] at HI
    clear hv
    go_wp2_with (first | (go_at_call 73; refine (HI.out _).mono ?_; rintro e w1 ⟨rfl, g1⟩; obtain ⟨X1, Y1, c1, f1⟩ := g1.use))
    go_roundw
    case rel => exact ⟨k + 1, by omega, by go_num, (by with_reducible repeat (first | exact Gr.refl _ | assumption | refine Gr.alloc ?_ _ | refine Gr.drewN ?_ _ | refine Gr.drew ?_ | refine Gr.setCell ?_ (by first | (dsimp only; omega) | (simp only [World.size_alloc]; omega)) _ | refine Gr.trans ?_ (by assumption))), HS'⟩
    case measure => simp only [intOf]; omega
   | false =>
    have HE := hide (HY.out k r HR.out hv)
    rw [hv] at HI
    clear hv
    go_wp2_with (first | (go_at_call 73; refine (HI.out _).mono ?_; rintro e w1 ⟨rfl, g1⟩; obtain ⟨X1, Y1, c1, f1⟩ := g1.use))
    go_ret
    exact ⟨ret_bool HE.out.symm, (by with_reducible repeat (first | exact Gr.refl _ | assumption | refine Gr.alloc ?_ _ | refine Gr.drewN ?_ _ | refine Gr.drew ?_ | refine Gr.setCell ?_ (by first | (dsimp only; omega) | (simp only [World.size_alloc]; omega)) _ | refine Gr.trans ?_ (by assumption)))⟩
  ·obtain rfl : k = l.length := by omega
   have HE := hide (HN.out HS.out)
   go_wp2
   go_ret
   exact ⟨ret_bool HE.out.symm, (by with_reducible repeat (first | exact Gr.refl _ | assumption | refine Gr.alloc ?_ _ | refine Gr.drewN ?_ _ | refine Gr.drew ?_ | refine Gr.setCell ?_ (by first | (dsimp only; omega) | (simp only [World.size_alloc]; omega)) _ | refine Gr.trans ?_ (by assumption)))⟩
set_option maxHeartbeats 4000000 in
set_option maxRecDepth 100000 in
theorem Within_any (x y u h a b c d : Int) (w : World) :
  Calls Tryz.prog 92 #[rc x y u h, rc a b c d] w fun e w' => e = .returned (.bool (isB x y u h a b c d)) ∧ Gr w w' := by
 cases h1 : vrB x y u h with
 | true =>
  cases h2 : vrB a b c d with
  | true =>
   obtain ⟨⟨p1, p2, p3, p4⟩, p5, p6⟩ := vr_lims h1
   obtain ⟨⟨q1, q2, q3, q4⟩, q5, q6⟩ := vr_lims h2
   obtain ⟨_, _⟩ := p1
   obtain ⟨_, _⟩ := p2
   obtain ⟨_, _⟩ := p3
   obtain ⟨_, _⟩ := p4
   obtain ⟨_, _⟩ := q1
   obtain ⟨_, _⟩ := q2
   obtain ⟨_, _⟩ := q3
   obtain ⟨_, _⟩ := q4
   have W1 : IntKind.i64.wrap (x + u) = x + u := IntWalk.i64_in _ (by omega)
   have W2 : IntKind.i64.wrap (y + h) = y + h := IntWalk.i64_in _ (by omega)
   have W3 : IntKind.i64.wrap (a + c) = a + c := IntWalk.i64_in _ (by omega)
   have W4 : IntKind.i64.wrap (b + d) = b + d := IntWalk.i64_in _ (by omega)
   have HE := hide (show isB x y u h a b c d = (decide (a ≤ x) && decide (x + u ≤ a + c) && (decide (b ≤ y) && decide (y + h ≤ b + d))) by unfold isB siB; rw [h1, h2]; rfl)
   go_enter Tryz.func92, Tryz.ntmps92
   go_wp2_with (first | (go_at_call 73; refine (Right_any _ _ _ _ _).mono ?_; rintro e w1 ⟨rfl, g1⟩; obtain ⟨X1, Y1, c1, f1⟩ := g1.use; have z1 := g1.size; (try simp only [World.size_alloc, World.size_setCell, World.heap_drewN, Nat.add_one_le_iff] at z1); (try have l0 : w.heap.size < w1.heap.size := by omega); (try have l1 : w.heap.size + 1 < w1.heap.size := by omega); (try have l2 : w.heap.size + 1 + 1 < w1.heap.size := by omega)))
   all_goals
    go_ret
    exact ⟨ret_bool (by rw [HE.out]; simp [*] <;> omega), (by with_reducible repeat (first | exact Gr.refl _ | assumption | refine Gr.alloc ?_ _ | refine Gr.drewN ?_ _ | refine Gr.drew ?_ | refine Gr.setCell ?_ (by first | (dsimp only; omega) | (simp only [World.size_alloc]; omega)) _ | refine Gr.trans ?_ (by assumption)))⟩
  | false =>
   have HE := hide (show isB x y u h a b c d = false by unfold isB; rw [h2]; simp)
   go_enter Tryz.func92, Tryz.ntmps92
   go_wp2_with (first | (go_at_call 73; refine (Right_any _ _ _ _ _).mono ?_; rintro e w1 ⟨rfl, g1⟩; obtain ⟨X1, Y1, c1, f1⟩ := g1.use; have z1 := g1.size; (try simp only [World.size_alloc, World.size_setCell, World.heap_drewN, Nat.add_one_le_iff] at z1); (try have l0 : w.heap.size < w1.heap.size := by omega); (try have l1 : w.heap.size + 1 < w1.heap.size := by omega); (try have l2 : w.heap.size + 1 + 1 < w1.heap.size := by omega)))
   go_ret
   exact ⟨ret_bool HE.out.symm, (by with_reducible repeat (first | exact Gr.refl _ | assumption | refine Gr.alloc ?_ _ | refine Gr.drewN ?_ _ | refine Gr.drew ?_ | refine Gr.setCell ?_ (by first | (dsimp only; omega) | (simp only [World.size_alloc]; omega)) _ | refine Gr.trans ?_ (by assumption)))⟩
 | false =>
  have HE := hide (show isB x y u h a b c d = false by unfold isB; rw [h1]; simp)
  go_enter Tryz.func92, Tryz.ntmps92
  go_wp2_with (first | (go_at_call 73; refine (Right_any _ _ _ _ _).mono ?_; rintro e w1 ⟨rfl, g1⟩; obtain ⟨X1, Y1, c1, f1⟩ := g1.use; have z1 := g1.size; (try simp only [World.size_alloc, World.size_setCell, World.heap_drewN, Nat.add_one_le_iff] at z1); (try have l0 : w.heap.size < w1.heap.size := by omega); (try have l1 : w.heap.size + 1 < w1.heap.size := by omega); (try have l2 : w.heap.size + 1 + 1 < w1.heap.size := by omega)))
  go_ret
  exact ⟨ret_bool HE.out.symm, (by with_reducible repeat (first | exact Gr.refl _ | assumption | refine Gr.alloc ?_ _ | refine Gr.drewN ?_ _ | refine Gr.drew ?_ | refine Gr.setCell ?_ (by first | (dsimp only; omega) | (simp only [World.size_alloc]; omega)) _ | refine Gr.trans ?_ (by assumption)))⟩
set_option maxHeartbeats 4000000 in
set_option maxRecDepth 100000 in
theorem inside6_any (s : ShT) (A : Option Addr) (c : Nat) (l : List Rc) (w : World) (hl : SlR w A c l) :
  Calls Tryz.prog 49 #[s.v, .slice A l.length c] w fun e w' => e = .returned (.bool (aiB l ⟨0, 0, s.wd, s.ht⟩)) ∧ Gr w w' := by
 have n1 := hl.cap
 have n2 := hl.capB
 have HL := hide hl
 have HY := hide (show ∀ (j : Nat) (y : Rc), l[j]? = some y → isR y ⟨0, 0, s.wd, s.ht⟩ = false → aiB l ⟨0, 0, s.wd, s.ht⟩ = false from fun j y hy hb => alls_no hy hb)
 have HN := hide (show (∀ (j : Nat) (y : Rc), j < l.length → l[j]? = some y → isR y ⟨0, 0, s.wd, s.ht⟩ = true) → aiB l ⟨0, 0, s.wd, s.ht⟩ = true from fun h => alls_yes h)
 clear hl
 go_enter Tryz.func49, Tryz.ntmps49
 go_wp2
 have g0 : Gr w (w.alloc (.cells #[.string s.nm, .string s.mt, iv s.ga, iv s.gr, iv s.wd, iv s.ht, .slice s.cA s.cl.length s.cc, .slice s.uA s.us.length s.uc] 24)) := Gr.alloc (Gr.refl _) _
 have MS := hide (Made.new w #[.string s.nm, .string s.mt, iv s.ga, iv s.gr, iv s.wd, iv s.ht, .slice s.cA s.cl.length s.cc, .slice s.uA s.us.length s.uc] 24)
 generalize w.alloc (.cells #[.string s.nm, .string s.mt, iv s.ga, iv s.gr, iv s.wd, iv s.ht, .slice s.cA s.cl.length s.cc, .slice s.uA s.us.length s.uc] 24) = w1 at *
 go_loopw [5] (fun i wr => ∃ k : Nat, k ≤ l.length ∧ i = iv k ∧ Gr w1 wr ∧ Hid (∀ j r, j < k → l[j]? = some r → isR r ⟨0, 0, s.wd, s.ht⟩ = true)) (fun i _ => l.length - (intOf i).toNat)
 case atStart => exact ⟨0, by omega, rfl, Gr.refl _, hide (fun j r h => absurd h (Nat.not_lt_zero j))⟩
 case round =>
  obtain ⟨k, hk, rfl, g, HS⟩ := hrel
  by_cases hkl : k < l.length
  ·obtain ⟨r, hr⟩ : ∃ r, l[k]? = some r := ⟨_, List.getElem?_eq_getElem hkl⟩
   obtain ⟨b, o, rfl, x0, x1, x2, x3⟩ := (HL.out.gr (g0.trans g)).at_ hr
   obtain ⟨e4, q4, _⟩ := MS.out.gr g
   have a44 := q4 4
   have a45 := q4 5
   clear q4
   have hbl : b < wr.heap.size := cell_lt (by rw [x0]; rfl)
   have HR := hide hr
   have hk0 : (0 : Int) ≤ (k : Int) := by omega
   have hk1 : (k : Int) < (l.length : Int) := by omega
   have HI := hide (fun w' => Within_any r.x r.y r.w r.h 0 0 s.wd s.ht w')
   rw [show isB r.x r.y r.w r.h 0 0 s.wd s.ht = isR r ⟨0, 0, s.wd, s.ht⟩ from rfl] at HI
   clear hr
   cases hv : isR r ⟨0, 0, s.wd, s.ht⟩ with
   | true =>
    have HS' := hide (show ∀ j r, j < k + 1 → l[j]? = some r → isR r ⟨0, 0, s.wd, s.ht⟩ = true by
     intro j q hj hq
     rcases Nat.lt_or_ge j k with h | h
     ·exact HS.out j q h hq
     ·obtain rfl : j = k := by omega
      rw [HR.out] at hq
      obtain rfl := Option.some.inj hq
      exact hv)
    rw [hv] at HI
    clear hv
    go_upto_region 4 with fail
    have GC := @GrW.cell
    refine wp_region_grw _ (by kernel_rfl) (by kernel_rfl) (Gr.refl _) ?_
    repeat (go_big_quiet_step ((first | (go_at_call 92; exact quiet_grw (HI.out _)))))
    refine wpQuiet_nil ?_
    intro wq hwq
    obtain ⟨gq, hwq'⟩ := hwq
    subst hwq'
    clear GC
    have gq1 := gq.gr
    generalize gq.w = wq at gq1 ⊢
    obtain ⟨Xq, Yq, cq, fq⟩ := gq1.use
    have sq := gq1.size
    (try simp only [World.size_alloc, World.size_setCell, World.heap_drewN] at sq)
    go_wp2
    go_roundw
    case rel => exact ⟨k + 1, by omega, by go_num, (by with_reducible repeat (first | exact Gr.refl _ | assumption | refine Gr.alloc ?_ _ | refine Gr.drewN ?_ _ | refine Gr.drew ?_ | refine Gr.setCell ?_ (by first | (dsimp only; omega) | (simp only [World.size_alloc]; omega)) _ | refine Gr.trans ?_ (by assumption))), HS'⟩
    case measure => simp only [intOf]; omega
   | false =>
    have HE := hide (HY.out k r HR.out hv)
    rw [hv] at HI
    clear hv
    go_upto_region 4 with fail
    have GC := @GrW.cell
    refine wp_region_grw _ (by kernel_rfl) (by kernel_rfl) (Gr.refl _) ?_
    repeat (go_big_quiet_step ((first | (go_at_call 92; exact quiet_grw (HI.out _)))))
    refine wpQuiet_nil ?_
    intro wq hwq
    obtain ⟨gq, hwq'⟩ := hwq
    subst hwq'
    clear GC
    have gq1 := gq.gr
    generalize gq.w = wq at gq1 ⊢
    obtain ⟨Xq, Yq, cq, fq⟩ := gq1.use
    have sq := gq1.size
    (try simp only [World.size_alloc, World.size_setCell, World.heap_drewN] at sq)
    go_wp2
    go_ret
    exact ⟨ret_bool HE.out.symm, (by with_reducible repeat (first | exact Gr.refl _ | assumption | refine Gr.alloc ?_ _ | refine Gr.drewN ?_ _ | refine Gr.drew ?_ | refine Gr.setCell ?_ (by first | (dsimp only; omega) | (simp only [World.size_alloc]; omega)) _ | refine Gr.trans ?_ (by assumption)))⟩
  ·obtain rfl : k = l.length := by omega
   have HE := hide (HN.out HS.out)
   go_wp2
   go_ret
   exact ⟨ret_bool HE.out.symm, (by with_reducible repeat (first | exact Gr.refl _ | assumption | refine Gr.alloc ?_ _ | refine Gr.drewN ?_ _ | refine Gr.drew ?_ | refine Gr.setCell ?_ (by first | (dsimp only; omega) | (simp only [World.size_alloc]; omega)) _ | refine Gr.trans ?_ (by assumption)))⟩
def meB (r : Rc) (l : List Rc) : Bool := l.any (ovQ r)
set_option maxHeartbeats 4000000 in
set_option maxRecDepth 100000 in
theorem meets6_any (q : Rc) (A : Option Addr) (c : Nat) (l : List Rc) (w : World) (hl : SlR w A c l) :
  Calls Tryz.prog 50 #[rcv q, .slice A l.length c] w fun e w' => e = .returned (.bool (meB q l)) ∧ Gr w w' := by
 have n1 := hl.cap
 have n2 := hl.capB
 have HL := hide hl
 have HY := hide (show ∀ (j : Nat) (y : Rc), l[j]? = some y → ovQ q y = true → meB q l = true from fun j y hy hb => any_ye hy hb)
 have HN := hide (show (∀ (j : Nat) (y : Rc), j < l.length → l[j]? = some y → ovQ q y = false) → meB q l = false from fun h => any_nn h)
 clear hl
 go_enter Tryz.func50, Tryz.ntmps50
 go_wp2
 have g0 : Gr w (w.alloc (.cells #[iv q.x, iv q.y, iv q.w, iv q.h] 70)) := Gr.alloc (Gr.refl _) _
 have HB := hide (fun (w' : World) (g : Gr (w.alloc (.cells #[iv q.x, iv q.y, iv q.w, iv q.h] 70)) w') => box4 g)
 generalize w.alloc (.cells #[iv q.x, iv q.y, iv q.w, iv q.h] 70) = w1 at *
 go_loopw [5] (fun i wr => ∃ k : Nat, k ≤ l.length ∧ i = iv k ∧ Gr w1 wr ∧ Hid (∀ j r, j < k → l[j]? = some r → ovQ q r = false)) (fun i _ => l.length - (intOf i).toNat)
 case atStart => exact ⟨0, by omega, rfl, Gr.refl _, hide (fun j r h => absurd h (Nat.not_lt_zero j))⟩
 case round =>
  obtain ⟨k, hk, rfl, g, HS⟩ := hrel
  by_cases hkl : k < l.length
  ·obtain ⟨r, hr⟩ : ∃ r, l[k]? = some r := ⟨_, List.getElem?_eq_getElem hkl⟩
   obtain ⟨b, o, rfl, x0, x1, x2, x3⟩ := (HL.out.gr (g0.trans g)).at_ hr
   obtain ⟨hb, p0, p1, p2, p3⟩ := HB.out wr g
   have hbl : b < wr.heap.size := cell_lt (by rw [x0]; rfl)
   have HR := hide hr
   have hk0 : (0 : Int) ≤ (k : Int) := by omega
   have hk1 : (k : Int) < (l.length : Int) := by omega
   have HI := hide (fun w' => Overlaps_any q.x q.y q.w q.h r.x r.y r.w r.h w')
   rw [show ovB q.x q.y q.w q.h r.x r.y r.w r.h = ovQ q r from rfl] at HI
   clear hr
   cases hv : ovQ q r with
   | false =>
    have HS' := hide (show ∀ j r, j < k + 1 → l[j]? = some r → ovQ q r = false by
     intro j u hj hq
     rcases Nat.lt_or_ge j k with h | h
     ·exact HS.out j u h hq
     ·obtain rfl : j = k := by omega
      rw [HR.out] at hq
      obtain rfl := Option.some.inj hq
      exact hv)
    rw [hv] at HI
    clear hv
    go_upto_region 4 with fail
    have GC := @GrW.cell
    refine wp_region_grw _ (by kernel_rfl) (by kernel_rfl) (Gr.refl _) ?_
    repeat (go_big_quiet_step ((first | (go_at_call 93; exact quiet_grw (HI.out _)))))
    refine wpQuiet_nil ?_
    intro wq hwq
    obtain ⟨gq, hwq'⟩ := hwq
    subst hwq'
    clear GC
    have gq1 := gq.gr
    generalize gq.w = wq at gq1 ⊢
    obtain ⟨Xq, Yq, cq, fq⟩ := gq1.use
    have sq := gq1.size
    (try simp only [World.size_alloc, World.size_setCell, World.heap_drewN] at sq)
    go_wp2
    go_roundw
    case rel => exact ⟨k + 1, by omega, by go_num, (by with_reducible repeat (first | exact Gr.refl _ | assumption | refine Gr.alloc ?_ _ | refine Gr.drewN ?_ _ | refine Gr.drew ?_ | refine Gr.setCell ?_ (by first | (dsimp only; omega) | (simp only [World.size_alloc]; omega)) _ | refine Gr.trans ?_ (by assumption))), HS'⟩
    case measure => simp only [intOf]; omega
   | true =>
    have HE := hide (HY.out k r HR.out hv)
    rw [hv] at HI
    clear hv
    go_upto_region 4 with fail
    have GC := @GrW.cell
    refine wp_region_grw _ (by kernel_rfl) (by kernel_rfl) (Gr.refl _) ?_
    repeat (go_big_quiet_step ((first | (go_at_call 93; exact quiet_grw (HI.out _)))))
    refine wpQuiet_nil ?_
    intro wq hwq
    obtain ⟨gq, hwq'⟩ := hwq
    subst hwq'
    clear GC
    have gq1 := gq.gr
    generalize gq.w = wq at gq1 ⊢
    obtain ⟨Xq, Yq, cq, fq⟩ := gq1.use
    have sq := gq1.size
    (try simp only [World.size_alloc, World.size_setCell, World.heap_drewN] at sq)
    go_wp2
    go_ret
    exact ⟨ret_bool HE.out.symm, (by with_reducible repeat (first | exact Gr.refl _ | assumption | refine Gr.alloc ?_ _ | refine Gr.drewN ?_ _ | refine Gr.drew ?_ | refine Gr.setCell ?_ (by first | (dsimp only; omega) | (simp only [World.size_alloc]; omega)) _ | refine Gr.trans ?_ (by assumption)))⟩
  ·obtain rfl : k = l.length := by omega
   have HE := hide (HN.out HS.out)
   go_wp2
   go_ret
   exact ⟨ret_bool HE.out.symm, (by with_reducible repeat (first | exact Gr.refl _ | assumption | refine Gr.alloc ?_ _ | refine Gr.drewN ?_ _ | refine Gr.drew ?_ | refine Gr.setCell ?_ (by first | (dsimp only; omega) | (simp only [World.size_alloc]; omega)) _ | refine Gr.trans ?_ (by assumption)))⟩
def stE (nm mt : ByteArray) (ga gr : Int) : Int := if (nameB nm.toList && nameB mt.toList) = true then (if knB ga gr = true then 0 else 1) else 2
set_option maxHeartbeats 4000000 in
set_option maxRecDepth 100000 in
theorem stuff6_any (nm mt : ByteArray) (ga gr : Int) (w : World) (h1 : nm.size ≤ 9223372036854775807) (h2 : mt.size ≤ 9223372036854775807) :
  Calls Tryz.prog 72 #[.string nm, .string mt, iv ga, iv gr] w fun e w' => e = .returned (iv (stE nm mt ga gr)) ∧ w = w' := by
 have H1 := hide (fun w' => rvalidName_any nm w' h1)
 have H2 := hide (fun w' => rvalidName_any mt w' h2)
 have HE := hide (show stE nm mt ga gr = if (nameB nm.toList && nameB mt.toList) = true then (if knB ga gr = true then 0 else 1) else 2 from rfl)
 generalize stE nm mt ga gr = E at *
 cases e1 : nameB nm.toList with
 | false =>
  rw [e1] at H1 HE
  clear e1
  have HX := hide (show E = 2 from HE.out)
  go_enter Tryz.func72, Tryz.ntmps72
  go_wp2_with (first | (go_at_call 119; refine (H1.out _).mono ?_; rintro e w1 ⟨rfl, rfl⟩))
  go_ret
  exact ⟨ret_iv HX.out.symm, rfl⟩
 | true =>
  rw [e1] at H1 HE
  clear e1
  cases e2 : nameB mt.toList with
  | false =>
   rw [e2] at H2 HE
   clear e2
   have HX := hide (show E = 2 from HE.out)
   go_enter Tryz.func72, Tryz.ntmps72
   go_wp2_with fail
   refine (H1.out _).mono ?_
   rintro e w1 ⟨rfl, rfl⟩
   go_wp2_with fail
   refine (H2.out _).mono ?_
   rintro e w1 ⟨rfl, rfl⟩
   go_wp2
   go_ret
   exact ⟨ret_iv HX.out.symm, rfl⟩
  | true =>
   rw [e2] at H2 HE
   clear e2
   by_cases k : (1 ≤ ga ∧ ga ≤ 60) ∧ 0 ≤ gr ∧ gr ≤ 2
   ·have HX := hide (show E = 0 by
     have : knB ga gr = true := by unfold knB; rw [wiB_iff.2 k.1, wiB_iff.2 k.2]; rfl
     rw [HE.out, this]; rfl)
    obtain ⟨⟨k1, k2⟩, k3, k4⟩ := k
    have d1 : decide (ga < 1) = false := decide_eq_false (by omega)
    have d2 : decide (ga > 60) = false := decide_eq_false (by omega)
    have d3 : decide (gr < 0) = false := decide_eq_false (by omega)
    have d4 : decide (gr > 2) = false := decide_eq_false (by omega)
    go_enter Tryz.func72, Tryz.ntmps72
    go_wp2_with fail
    refine (H1.out _).mono ?_
    rintro e w1 ⟨rfl, rfl⟩
    go_wp2_with fail
    refine (H2.out _).mono ?_
    rintro e w1 ⟨rfl, rfl⟩
    go_wp2
    go_ret
    exact ⟨ret_iv HX.out.symm, rfl⟩
   ·have HX := hide (show E = 1 by
     have : knB ga gr = false := by
      cases q : knB ga gr with
      | false => rfl
      | true =>
       unfold knB at q
       rw [Bool.and_eq_true, wiB_iff, wiB_iff] at q
       exact absurd q k
     rw [HE.out, this]; rfl)
    go_enter Tryz.func72, Tryz.ntmps72
    go_wp2_with fail
    refine (H1.out _).mono ?_
    rintro e w1 ⟨rfl, rfl⟩
    go_wp2_with fail
    refine (H2.out _).mono ?_
    rintro e w1 ⟨rfl, rfl⟩
    go_wp2
    all_goals first
     | (exfalso; omega)
     | (go_ret; exact ⟨ret_iv HX.out.symm, rfl⟩)
end RG
end Go.Proofs.YtddhaiaapomdjaaGreat
set_option linter.unusedVariables false
set_option linter.unusedSimpArgs false
namespace Go.Proofs.YtddhaiaapomdjaaGreat
set_option linter.unusedVariables false
set_option linter.unusedSimpArgs false
open Go Go.ChangeShapes Go.WideShapes Go.ChangeAt Go.RowKit Go.Deep

namespace RG
theorem vs_st {s : ShT} (h : stE s.nm s.mt s.ga s.gr ≠ 0) : vsE s = stE s.nm s.mt s.ga s.gr := by
 unfold stE vsE at *
 cases h1 : (nameB s.nm.toList && nameB s.mt.toList) with
 | false => rfl
 | true =>
  rw [h1] at h
  cases h2 : knB s.ga s.gr with
  | false => rfl
  | true => rw [h2] at h; exact absurd rfl h
theorem st_good {nm mt : ByteArray} {ga gr : Int} (h : stE nm mt ga gr = 0) : (nameB nm.toList && nameB mt.toList) = true ∧ knB ga gr = true := by
 unfold stE at h
 cases h1 : (nameB nm.toList && nameB mt.toList) with
 | false => rw [h1] at h; simp at h
 | true =>
  cases h2 : knB ga gr with
  | false => rw [h1, h2] at h; simp at h
  | true => exact ⟨rfl, rfl⟩
theorem aiB_app (l m : List Rc) (r : Rc) : aiB (l ++ m) r = (aiB l r && aiB m r) := by unfold aiB; rw [List.all_append]
theorem vaB_app (l m : List Rc) : vaB (l ++ m) = (vaB l && vaB m) := by unfold vaB; rw [List.all_append]
theorem vs_go {s : ShT} (h : stE s.nm s.mt s.ga s.gr = 0) : vsE s = if (wiB s.wd 1 1048576 && wiB s.ht 1 1048576) = true then (if 4 < s.cl.length ∨ 48 < s.us.length then 4 else (if (vaB s.cl && vaB s.us) = true then (if (aiB s.cl ⟨0, 0, s.wd, s.ht⟩ && aiB s.us ⟨0, 0, s.wd, s.ht⟩) = true then 0 else 13) else 1)) else 1 := by
 obtain ⟨h1, h2⟩ := st_good h
 unfold vsE coE
 rw [h1, h2, Bool.true_and, vaB_app, aiB_app]
 simp only [if_true]
set_option maxHeartbeats 8000000 in
set_option maxRecDepth 100000 in
theorem rValidateSheet_any (s : ShT) (w : World) (hs : ShW w s) :
  Calls Tryz.prog 28 #[s.v] w fun e w' => e = .returned (iv (vsE s)) ∧ Gr w w' := by
 have H1 := hide (fun w' => stuff6_any s.nm s.mt s.ga s.gr w' hs.n1 hs.n2)
 by_cases h0 : stE s.nm s.mt s.ga s.gr = 0
 case neg =>
  have HE := hide (vs_st h0)
  generalize stE s.nm s.mt s.ga s.gr = E at *
  have hE1 : (E != 0) = true := by simpa using h0
  clear hs h0
  go_enter Tryz.func28, Tryz.ntmps28
  go_wp2_with (first | (go_at_call 72; refine (H1.out _).mono ?_; rintro e w1 ⟨rfl, rfl⟩))
  go_ret
  exact ⟨ret_iv HE.out.symm, (by with_reducible repeat (first | exact Gr.refl _ | assumption | refine Gr.alloc ?_ _ | refine Gr.drewN ?_ _ | refine Gr.drew ?_ | refine Gr.setCell ?_ (by first | (dsimp only; omega) | (simp only [World.size_alloc]; omega)) _ | refine Gr.trans ?_ (by assumption)))⟩
 case pos =>
  have HE := hide (vs_go h0)
  rw [h0] at H1
  clear h0
  have n1 := hs.c.cap
  have n2 := hs.c.capB
  have n3 := hs.u.cap
  have n4 := hs.u.capB
  have R1 := hide (fun (w' : World) (g : Gr w w') => rights6_any s.cA s.cc s.cl w' (hs.c.gr g))
  have R2 := hide (fun (w' : World) (g : Gr w w') => rights6_any s.uA s.uc s.us w' (hs.u.gr g))
  have I1 := hide (fun (w' : World) (g : Gr w w') => inside6_any s s.cA s.cc s.cl w' (hs.c.gr g))
  have I2 := hide (fun (w' : World) (g : Gr w w') => inside6_any s s.uA s.uc s.us w' (hs.u.gr g))
  clear hs
  by_cases hw : (1 ≤ s.wd ∧ s.wd ≤ 1048576) ∧ 1 ≤ s.ht ∧ s.ht ≤ 1048576
  case neg =>
   have HX := hide (show vsE s = 1 by
    rw [HE.out, if_neg]
    rw [Bool.and_eq_true, wiB_iff, wiB_iff]
    exact hw)
   clear HE
   go_enter Tryz.func28, Tryz.ntmps28
   go_wp2_with (first | (go_at_call 72; refine (H1.out _).mono ?_; rintro e w1 ⟨rfl, rfl⟩))
   all_goals first
    | (exfalso; omega)
    | (go_ret; exact ⟨ret_iv HX.out.symm, (by with_reducible repeat (first | exact Gr.refl _ | assumption | refine Gr.alloc ?_ _ | refine Gr.drewN ?_ _ | refine Gr.drew ?_ | refine Gr.setCell ?_ (by first | (dsimp only; omega) | (simp only [World.size_alloc]; omega)) _ | refine Gr.trans ?_ (by assumption)))⟩)
  case pos =>
   have HE := hide (show vsE s = if 4 < s.cl.length ∨ 48 < s.us.length then 4 else (if (vaB s.cl && vaB s.us) = true then (if (aiB s.cl ⟨0, 0, s.wd, s.ht⟩ && aiB s.us ⟨0, 0, s.wd, s.ht⟩) = true then 0 else 13) else 1) by
    rw [HE.out, if_pos]
    rw [Bool.and_eq_true, wiB_iff, wiB_iff]
    exact hw)
   obtain ⟨⟨k1, k2⟩, k3, k4⟩ := hw
   have d1 : decide (s.wd < 1) = false := decide_eq_false (by omega)
   have d2 : decide (s.wd > 1048576) = false := decide_eq_false (by omega)
   have d3 : decide (s.ht < 1) = false := decide_eq_false (by omega)
   have d4 : decide (s.ht > 1048576) = false := decide_eq_false (by omega)
   by_cases hl : 4 < s.cl.length ∨ 48 < s.us.length
   case pos =>
    have HX := hide (show vsE s = 4 by rw [HE.out, if_pos hl])
    clear HE
    rcases hl with h | h
    ·have d5 : decide ((s.cl.length : Int) > 4) = true := decide_eq_true (by omega)
     go_enter Tryz.func28, Tryz.ntmps28
     go_wp2_with (first | (go_at_call 72; refine (H1.out _).mono ?_; rintro e w1 ⟨rfl, rfl⟩))
     go_ret
     exact ⟨ret_iv HX.out.symm, (by with_reducible repeat (first | exact Gr.refl _ | assumption | refine Gr.alloc ?_ _ | refine Gr.drewN ?_ _ | refine Gr.drew ?_ | refine Gr.setCell ?_ (by first | (dsimp only; omega) | (simp only [World.size_alloc]; omega)) _ | refine Gr.trans ?_ (by assumption)))⟩
    ·have d6 : decide ((s.us.length : Int) > 48) = true := decide_eq_true (by omega)
     go_enter Tryz.func28, Tryz.ntmps28
     go_wp2_with (first | (go_at_call 72; refine (H1.out _).mono ?_; rintro e w1 ⟨rfl, rfl⟩))
     all_goals
      go_ret
      exact ⟨ret_iv HX.out.symm, (by with_reducible repeat (first | exact Gr.refl _ | assumption | refine Gr.alloc ?_ _ | refine Gr.drewN ?_ _ | refine Gr.drew ?_ | refine Gr.setCell ?_ (by first | (dsimp only; omega) | (simp only [World.size_alloc]; omega)) _ | refine Gr.trans ?_ (by assumption)))⟩
   case neg =>
    have HE := hide (show vsE s = if (vaB s.cl && vaB s.us) = true then (if (aiB s.cl ⟨0, 0, s.wd, s.ht⟩ && aiB s.us ⟨0, 0, s.wd, s.ht⟩) = true then 0 else 13) else 1 by rw [HE.out, if_neg hl])
    have d5 : decide ((s.cl.length : Int) > 4) = false := decide_eq_false (by omega)
    have d6 : decide ((s.us.length : Int) > 48) = false := decide_eq_false (by omega)
    clear hl
    generalize vsE s = E at *
    generalize vaB s.cl = b1 at *
    generalize vaB s.us = b2 at *
    generalize aiB s.cl ⟨0, 0, s.wd, s.ht⟩ = b3 at *
    generalize aiB s.us ⟨0, 0, s.wd, s.ht⟩ = b4 at *
    go_enter Tryz.func28, Tryz.ntmps28
    go_wp2_with (first | (go_at_call 72; refine (H1.out _).mono ?_; rintro e w1 ⟨rfl, rfl⟩))
    have MS := hide (Made.new w #[.string s.nm, .string s.mt, iv s.ga, iv s.gr, iv s.wd, iv s.ht, .slice s.cA s.cl.length s.cc, .slice s.uA s.us.length s.uc] 24)
    have g0 : Gr w (w.alloc (.cells #[.string s.nm, .string s.mt, iv s.ga, iv s.gr, iv s.wd, iv s.ht, .slice s.cA s.cl.length s.cc, .slice s.uA s.us.length s.uc] 24)) := Gr.alloc (Gr.refl _) _
    generalize w.alloc (.cells #[.string s.nm, .string s.mt, iv s.ga, iv s.gr, iv s.wd, iv s.ht, .slice s.cA s.cl.length s.cc, .slice s.uA s.us.length s.uc] 24) = w0 at *
    generalize w.heap.size = b0 at *
    refine (R1.out _ g0).mono ?_
    rintro e w1 ⟨rfl, g1⟩
    have gw1 := g0.trans g1
    cases b1 with
    | false =>
     have HX := hide (show E = 1 from HE.out)
     go_wp2
     go_ret
     exact ⟨ret_iv HX.out.symm, (by with_reducible repeat (first | exact Gr.refl _ | assumption | refine Gr.alloc ?_ _ | refine Gr.drewN ?_ _ | refine Gr.drew ?_ | refine Gr.setCell ?_ (by first | (dsimp only; omega) | (simp only [World.size_alloc]; omega)) _ | refine Gr.trans ?_ (by assumption)))⟩
    | true =>
     obtain ⟨e1, q1, _⟩ := MS.out.gr g1
     have a7 := q1 7
     clear q1
     go_wp2_with fail
     refine (R2.out _ gw1).mono ?_
     rintro e w2 ⟨rfl, g2⟩
     have gw2 := gw1.trans g2
     cases b2 with
     | false =>
      have HX := hide (show E = 1 from HE.out)
      go_wp2
      go_ret
      exact ⟨ret_iv HX.out.symm, (by with_reducible repeat (first | exact Gr.refl _ | assumption | refine Gr.alloc ?_ _ | refine Gr.drewN ?_ _ | refine Gr.drew ?_ | refine Gr.setCell ?_ (by first | (dsimp only; omega) | (simp only [World.size_alloc]; omega)) _ | refine Gr.trans ?_ (by assumption)))⟩
     | true =>
      clear a7 e1
      obtain ⟨e2, q2, _⟩ := MS.out.gr (g1.trans g2)
      have a0 := q2 0
      have a1 := q2 1
      have a2 := q2 2
      have a3 := q2 3
      have a4 := q2 4
      have a5 := q2 5
      have a6 := q2 6
      have a7 := q2 7
      clear q2
      go_wp2_with fail
      refine (I1.out _ gw2).mono ?_
      rintro e w3 ⟨rfl, g3⟩
      have gw3 := gw2.trans g3
      cases b3 with
      | false =>
       have HX := hide (show E = 13 from HE.out)
       go_wp2
       go_ret
       exact ⟨ret_iv HX.out.symm, (by with_reducible repeat (first | exact Gr.refl _ | assumption | refine Gr.alloc ?_ _ | refine Gr.drewN ?_ _ | refine Gr.drew ?_ | refine Gr.setCell ?_ (by first | (dsimp only; omega) | (simp only [World.size_alloc]; omega)) _ | refine Gr.trans ?_ (by assumption)))⟩
      | true =>
       clear e2 a0 a1 a2 a3 a4 a5 a6 a7
       obtain ⟨e2, q2, _⟩ := MS.out.gr ((g1.trans g2).trans g3)
       have a0 := q2 0
       have a1 := q2 1
       have a2 := q2 2
       have a3 := q2 3
       have a4 := q2 4
       have a5 := q2 5
       have a6 := q2 6
       have a7 := q2 7
       clear q2
       go_wp2_with fail
       refine (I2.out _ gw3).mono ?_
       rintro e w4 ⟨rfl, g4⟩
       have gw4 := gw3.trans g4
       cases b4 with
       | false =>
        have HX := hide (show E = 13 from HE.out)
        go_wp2
        go_ret
        exact ⟨ret_iv HX.out.symm, (by with_reducible repeat (first | exact Gr.refl _ | assumption | refine Gr.alloc ?_ _ | refine Gr.drewN ?_ _ | refine Gr.drew ?_ | refine Gr.setCell ?_ (by first | (dsimp only; omega) | (simp only [World.size_alloc]; omega)) _ | refine Gr.trans ?_ (by assumption)))⟩
       | true =>
        have HX := hide (show E = 0 from HE.out)
        go_wp2
        go_ret
        exact ⟨ret_iv HX.out.symm, (by with_reducible repeat (first | exact Gr.refl _ | assumption | refine Gr.alloc ?_ _ | refine Gr.drewN ?_ _ | refine Gr.drew ?_ | refine Gr.setCell ?_ (by first | (dsimp only; omega) | (simp only [World.size_alloc]; omega)) _ | refine Gr.trans ?_ (by assumption)))⟩
end RG
end Go.Proofs.YtddhaiaapomdjaaGreat
set_option linter.unusedVariables false
set_option linter.unusedSimpArgs false
namespace Go.Proofs.YtddhaiaapomdjaaGreat
set_option linter.unusedVariables false
set_option linter.unusedSimpArgs false
open Go Go.ChangeShapes Go.WideShapes Go.ChangeAt Go.RowKit Go.Deep

namespace RG
def cmX (a b : Rc) : Int := min (a.x + a.w) (b.x + b.w) - max a.x b.x
def cmY6 (a b : Rc) : Int := min (a.y + a.h) (b.y + b.h) - max a.y b.y
def tcB (a b : Rc) : Bool := decide (cmX a b = 0 ∧ 0 < cmY6 a b ∨ cmY6 a b = 0 ∧ 0 < cmX a b)
set_option maxHeartbeats 4000000 in
set_option maxRecDepth 100000 in
theorem touching6_any (a b : Rc) (w : World) (ha : vrR a = true) (hb : vrR b = true) :
  Calls Tryz.prog 120 #[rcv a, rcv b] w fun e w' => e = .returned (.bool (tcB a b)) ∧ Gr w w' := by
 have p := vrR_iff.1 ha
 have q := vrR_iff.1 hb
 have p1 := p.w; have p2 := p.h; have p3 := p.x; have p4 := p.y; have p5 := p.x'; have p6 := p.y'
 have q1 := q.w; have q2 := q.h; have q3 := q.x; have q4 := q.y; have q5 := q.x'; have q6 := q.y'
 have HE := hide (show tcB a b = decide (cmX a b = 0 ∧ 0 < cmY6 a b ∨ cmY6 a b = 0 ∧ 0 < cmX a b) from rfl)
 have W1 : IntKind.i64.wrap (a.x + a.w) = a.x + a.w := IntWalk.i64_in _ (by omega)
 have W2 : IntKind.i64.wrap (b.x + b.w) = b.x + b.w := IntWalk.i64_in _ (by omega)
 have W3 : IntKind.i64.wrap (a.y + a.h) = a.y + a.h := IntWalk.i64_in _ (by omega)
 have W4 : IntKind.i64.wrap (b.y + b.h) = b.y + b.h := IntWalk.i64_in _ (by omega)
 clear p q ha hb
 go_enter Tryz.func120, Tryz.ntmps120
 go_wp2
 all_goals
  go_ret
  exact ⟨ret_bool (by
   rw [HE.out]
   unfold cmX cmY6
   first | exact decide_eq_decide.2 (by omega) | exact (decide_eq_true (by omega)).symm | exact (decide_eq_false (by omega)).symm), (by with_reducible repeat (first | exact Gr.refl _ | assumption | refine Gr.alloc ?_ _ | refine Gr.drewN ?_ _ | refine Gr.drew ?_ | refine Gr.setCell ?_ (by first | (dsimp only; omega) | (simp only [World.size_alloc]; omega)) _ | refine Gr.trans ?_ (by assumption)))⟩
set_option maxHeartbeats 4000000 in
set_option maxRecDepth 100000 in
theorem least6_any (A : Option Addr) (c : Nat) (l : List Rc) (w : World) (hl : SlR w A c l) (h0 : 0 < l.length) :
  ∃ r0, l[0]? = some r0 ∧ Calls Tryz.prog 74 #[.slice A l.length c] w fun e w' => e = .returned (.tuple #[iv (mnV l (r0.x, r0.y)).1, iv (mnV l (r0.x, r0.y)).2]) ∧ Gr w w' := by
 obtain ⟨r0, hr0⟩ : ∃ r, l[0]? = some r := ⟨_, List.getElem?_eq_getElem h0⟩
 refine ⟨r0, hr0, ?_⟩
 have HN := hide (fun (k : Nat) (r : Rc) (h : l[k]? = some r) => mnV_take h (r0.x, r0.y))
 have HW := hide (show mnV l (r0.x, r0.y) = mnV (l.take l.length) (r0.x, r0.y) by rw [List.take_length])
 have H1 := hide (show mnV (l.take 1) (r0.x, r0.y) = (r0.x, r0.y) by
  rw [show l.take 1 = [r0] from by
   match l, hr0 with
   | q :: l, h => simp at h; subst h; rfl]
  simp [mnV])
 have HL := hide hl
 have n1 := hl.cap
 have n2 := hl.capB
 obtain ⟨b0, o0, hA0, y0, y1, y2, y3⟩ := hl.at_ hr0
 rw [Nat.zero_mul, Nat.add_zero] at y0 y1 y2 y3
 have hlt : b0 < w.heap.size := cell_lt (by rw [y0]; rfl)
 have h00 : (0 : Int) < (l.length : Int) := by omega
 subst hA0
 clear hl hr0 y2 y3
 go_enter Tryz.func74, Tryz.ntmps74
 go_wp2_with fail
 go_region
 go_wp2_with fail
 obtain ⟨z0, hz0⟩ : ∃ z, (r0.x, r0.y) = z := ⟨_, rfl⟩
 rw [hz0] at HN HW H1
 have HZ0 := hide hz0
 clear hz0
 go_loopw [4, 5, 6] (fun xv yv i wr => ∃ k : Nat, 1 ≤ k ∧ k ≤ l.length ∧ i = iv k ∧ xv = iv (mnV (l.take k) z0).1 ∧ yv = iv (mnV (l.take k) z0).2 ∧ Gr w wr) (fun _ _ i _ => l.length - (intOf i).toNat)
 case atStart => exact ⟨1, by omega, by omega, rfl, by rw [H1.out, ← HZ0.out], by rw [H1.out, ← HZ0.out], (by with_reducible repeat (first | exact Gr.refl _ | assumption | refine Gr.alloc ?_ _ | refine Gr.drewN ?_ _ | refine Gr.drew ?_ | refine Gr.setCell ?_ (by first | (dsimp only; omega) | (simp only [World.size_alloc]; omega)) _ | refine Gr.trans ?_ (by assumption)))⟩
 case round =>
  obtain ⟨k, hk0', hk, rfl, rfl, rfl, g⟩ := hrel
  by_cases hkl : k < l.length
  ·obtain ⟨r, hr⟩ : ∃ r, l[k]? = some r := ⟨_, List.getElem?_eq_getElem hkl⟩
   obtain ⟨b9, o9, hA, x0, x1, x2, x3⟩ := (HL.out.gr g).at_ hr
   injection hA with hA
   injection hA with e1 e2
   subst e1 e2
   have hk0 : (0 : Int) ≤ (k : Int) := by omega
   have hk1 : (k : Int) < (l.length : Int) := by omega
   have HNk := hide (HN.out k r hr)
   generalize mnV (l.take k) z0 = z at *
   clear hr
   have hbk : b0 < wr.heap.size := by have := g.size; omega
   obtain ⟨z1, z2⟩ := z
   dsimp only at HNk ⊢
   go_wp2
   go_roundw
   case rel => exact ⟨k + 1, by omega, by omega, by go_num, by rw [HNk.out], by rw [HNk.out], (by with_reducible repeat (first | exact Gr.refl _ | assumption | refine Gr.alloc ?_ _ | refine Gr.drewN ?_ _ | refine Gr.drew ?_ | refine Gr.setCell ?_ (by first | (dsimp only; omega) | (simp only [World.size_alloc]; omega)) _ | refine Gr.trans ?_ (by assumption)))⟩
   case measure => simp only [intOf]; omega
  ·obtain rfl : k = l.length := by omega
   have HF := hide (show mnV l (r0.x, r0.y) = mnV (l.take l.length) z0 by rw [HZ0.out]; exact HW.out)
   generalize mnV (l.take l.length) z0 = z at *
   go_wp2
   exact bodyPost_ret (v := .tuple #[iv z.1, iv z.2]) (by simp [results, Tryz.results74, go_sem, *]) rfl ⟨by rw [HF.out], (by with_reducible repeat (first | exact Gr.refl _ | assumption | refine Gr.alloc ?_ _ | refine Gr.drewN ?_ _ | refine Gr.drew ?_ | refine Gr.setCell ?_ (by first | (dsimp only; omega) | (simp only [World.size_alloc]; omega)) _ | refine Gr.trans ?_ (by assumption)))⟩
set_option maxHeartbeats 8000000 in
set_option maxRecDepth 100000 in
theorem deep6_any (q : Rc) (A : Option Addr) (c : Nat) (l : List Rc) (w : World) (hl : SlR w A c l) (hq : vrR q = true) (hv : ∀ r ∈ l, vrR r = true) :
  Calls Tryz.prog 76 #[rcv q, .slice A l.length c] w fun e w' => e = .returned (.bool (l.any (stB q))) ∧ Gr w w' := by
 have n1 := hl.cap
 have n2 := hl.capB
 have HL := hide hl
 have HV := hide hv
 have HQ := hide hq
 have HY := hide (show ∀ (j : Nat) (y : Rc), l[j]? = some y → stP q y → l.any (stB q) = true from fun j y hy hb => any_ye hy ((stB_iff hq (hv y (List.mem_of_getElem? hy))).2 hb))
 have HN := hide (show (∀ (j : Nat) (y : Rc), j < l.length → l[j]? = some y → ¬ stP q y) → l.any (stB q) = false from fun h => any_nn (fun j y hj hy => by
  cases e : stB q y with
  | false => rfl
  | true => exact absurd ((stB_iff hq (hv y (List.mem_of_getElem? hy))).1 e) (h j y hj hy)))
 have qi := vrR_iff.1 hq
 have q1 := qi.w; have q2 := qi.h; have q3 := qi.x; have q4 := qi.y; have q5 := qi.x'; have q6 := qi.y'
 have W1 : IntKind.i64.wrap (q.x + q.w) = q.x + q.w := IntWalk.i64_in _ (by omega)
 have W3 : IntKind.i64.wrap (q.y + q.h) = q.y + q.h := IntWalk.i64_in _ (by omega)
 clear hl hv hq qi
 go_enter Tryz.func76, Tryz.ntmps76
 go_wp2
 have g0 : Gr w (w.alloc (.cells #[iv q.x, iv q.y, iv q.w, iv q.h] 70)) := Gr.alloc (Gr.refl _) _
 have HB := hide (fun (w' : World) (g : Gr (w.alloc (.cells #[iv q.x, iv q.y, iv q.w, iv q.h] 70)) w') => box4 g)
 generalize w.alloc (.cells #[iv q.x, iv q.y, iv q.w, iv q.h] 70) = w1 at *
 go_loopw [5] (fun i wr => ∃ k : Nat, k ≤ l.length ∧ i = iv k ∧ Gr w1 wr ∧ Hid (∀ j r, j < k → l[j]? = some r → ¬ stP q r)) (fun i _ => l.length - (intOf i).toNat)
 case atStart => exact ⟨0, by omega, rfl, Gr.refl _, hide (fun j r h => absurd h (Nat.not_lt_zero j))⟩
 case round =>
  obtain ⟨k, hk, rfl, g, HS⟩ := hrel
  by_cases hkl : k < l.length
  ·obtain ⟨r, hr⟩ : ∃ r, l[k]? = some r := ⟨_, List.getElem?_eq_getElem hkl⟩
   obtain ⟨b, o, rfl, x0, x1, x2, x3⟩ := (HL.out.gr (g0.trans g)).at_ hr
   obtain ⟨hb, p0, p1, p2, p3⟩ := HB.out wr g
   have hbl : b < wr.heap.size := cell_lt (by rw [x0]; rfl)
   have ri := vrR_iff.1 (HV.out r (List.mem_of_getElem? hr))
   have r1 := ri.w; have r2 := ri.h; have r3 := ri.x; have r4 := ri.y; have r5 := ri.x'; have r6 := ri.y'
   have V1 : IntKind.i64.wrap (r.x + r.w) = r.x + r.w := IntWalk.i64_in _ (by omega)
   have V3 : IntKind.i64.wrap (r.y + r.h) = r.y + r.h := IntWalk.i64_in _ (by omega)
   clear ri
   have HR := hide hr
   have hk0 : (0 : Int) ≤ (k : Int) := by omega
   have hk1 : (k : Int) < (l.length : Int) := by omega
   clear hr
   have HS' := hide (show ¬ stP q r → ∀ j r, j < k + 1 → l[j]? = some r → ¬ stP q r from fun hn j u hj hq => by
    rcases Nat.lt_or_ge j k with h | h
    ·exact HS.out j u h hq
    ·obtain rfl : j = k := by omega
     rw [HR.out] at hq
     obtain rfl := Option.some.inj hq
     exact hn)
   by_cases c1 : r.x < q.x
   case neg =>
    have d1 : decide (q.x > r.x) = false := decide_eq_false (by omega)
    have HT := hide (HS'.out (by unfold stP; omega))
    clear c1
    go_upto_region 4 with fail
    have GC := @GrW.cell
    refine wp_region_grw _ (by kernel_rfl) (by kernel_rfl) (Gr.refl _) ?_
    repeat (go_big_quiet_step ((first | fail)))
    refine wpQuiet_nil ?_
    intro wq hwq
    obtain ⟨gq, hwq'⟩ := hwq
    subst hwq'
    clear GC
    have gq1 := gq.gr
    generalize gq.w = wq at gq1 ⊢
    obtain ⟨Xq, Yq, cq, fq⟩ := gq1.use
    have sq := gq1.size
    (try simp only [World.size_alloc, World.size_setCell, World.heap_drewN] at sq)
    go_wp2
    go_roundw
    case rel => exact ⟨k + 1, by omega, by go_num, (by with_reducible repeat (first | exact Gr.refl _ | assumption | refine Gr.alloc ?_ _ | refine Gr.drewN ?_ _ | refine Gr.drew ?_ | refine Gr.setCell ?_ (by first | (dsimp only; omega) | (simp only [World.size_alloc]; omega)) _ | refine Gr.trans ?_ (by assumption))), HT⟩
    case measure => simp only [intOf]; omega
   case pos =>
    have d1 : decide (q.x > r.x) = true := decide_eq_true (by omega)
    by_cases c2 : r.y < q.y
    case neg =>
     have d2 : decide (q.y > r.y) = false := decide_eq_false (by omega)
     have HT := hide (HS'.out (by unfold stP; omega))
     clear c1 c2
     go_upto_region 4 with fail
     have GC := @GrW.cell
     refine wp_region_grw _ (by kernel_rfl) (by kernel_rfl) (Gr.refl _) ?_
     repeat (go_big_quiet_step ((first | fail)))
     refine wpQuiet_nil ?_
     intro wq hwq
     obtain ⟨gq, hwq'⟩ := hwq
     subst hwq'
     clear GC
     have gq1 := gq.gr
     generalize gq.w = wq at gq1 ⊢
     obtain ⟨Xq, Yq, cq, fq⟩ := gq1.use
     have sq := gq1.size
     (try simp only [World.size_alloc, World.size_setCell, World.heap_drewN] at sq)
     go_wp2
     go_roundw
     case rel => exact ⟨k + 1, by omega, by go_num, (by with_reducible repeat (first | exact Gr.refl _ | assumption | refine Gr.alloc ?_ _ | refine Gr.drewN ?_ _ | refine Gr.drew ?_ | refine Gr.setCell ?_ (by first | (dsimp only; omega) | (simp only [World.size_alloc]; omega)) _ | refine Gr.trans ?_ (by assumption))), HT⟩
     case measure => simp only [intOf]; omega
    case pos =>
     have d2 : decide (q.y > r.y) = true := decide_eq_true (by omega)
     by_cases c3 : q.x + q.w < r.x + r.w
     case neg =>
      have d3 : decide (q.x + q.w < r.x + r.w) = false := decide_eq_false (by omega)
      have HT := hide (HS'.out (by unfold stP; omega))
      clear c1 c2 c3
      go_upto_region 4 with fail
      have GC := @GrW.cell
      refine wp_region_grw _ (by kernel_rfl) (by kernel_rfl) (Gr.refl _) ?_
      repeat (go_big_quiet_step ((first | fail)))
      refine wpQuiet_nil ?_
      intro wq hwq
      obtain ⟨gq, hwq'⟩ := hwq
      subst hwq'
      clear GC
      have gq1 := gq.gr
      generalize gq.w = wq at gq1 ⊢
      obtain ⟨Xq, Yq, cq, fq⟩ := gq1.use
      have sq := gq1.size
      (try simp only [World.size_alloc, World.size_setCell, World.heap_drewN] at sq)
      go_wp2
      go_roundw
      case rel => exact ⟨k + 1, by omega, by go_num, (by with_reducible repeat (first | exact Gr.refl _ | assumption | refine Gr.alloc ?_ _ | refine Gr.drewN ?_ _ | refine Gr.drew ?_ | refine Gr.setCell ?_ (by first | (dsimp only; omega) | (simp only [World.size_alloc]; omega)) _ | refine Gr.trans ?_ (by assumption))), HT⟩
      case measure => simp only [intOf]; omega
     case pos =>
      have d3 : decide (q.x + q.w < r.x + r.w) = true := decide_eq_true (by omega)
      by_cases c4 : q.y + q.h < r.y + r.h
      case neg =>
       have d4 : decide (q.y + q.h < r.y + r.h) = false := decide_eq_false (by omega)
       have HT := hide (HS'.out (by unfold stP; omega))
       clear c1 c2 c3 c4
       go_upto_region 4 with fail
       have GC := @GrW.cell
       refine wp_region_grw _ (by kernel_rfl) (by kernel_rfl) (Gr.refl _) ?_
       repeat (go_big_quiet_step ((first | fail)))
       refine wpQuiet_nil ?_
       intro wq hwq
       obtain ⟨gq, hwq'⟩ := hwq
       subst hwq'
       clear GC
       have gq1 := gq.gr
       generalize gq.w = wq at gq1 ⊢
       obtain ⟨Xq, Yq, cq, fq⟩ := gq1.use
       have sq := gq1.size
       (try simp only [World.size_alloc, World.size_setCell, World.heap_drewN] at sq)
       go_wp2
       go_roundw
       case rel => exact ⟨k + 1, by omega, by go_num, (by with_reducible repeat (first | exact Gr.refl _ | assumption | refine Gr.alloc ?_ _ | refine Gr.drewN ?_ _ | refine Gr.drew ?_ | refine Gr.setCell ?_ (by first | (dsimp only; omega) | (simp only [World.size_alloc]; omega)) _ | refine Gr.trans ?_ (by assumption))), HT⟩
       case measure => simp only [intOf]; omega
      case pos =>
       have d4 : decide (q.y + q.h < r.y + r.h) = true := decide_eq_true (by omega)
       have HE := hide (HY.out k r HR.out (by unfold stP; omega))
       clear c1 c2 c3 c4
       go_upto_region 4 with fail
       have GC := @GrW.cell
       refine wp_region_grw _ (by kernel_rfl) (by kernel_rfl) (Gr.refl _) ?_
       repeat (go_big_quiet_step ((first | fail)))
       refine wpQuiet_nil ?_
       intro wq hwq
       obtain ⟨gq, hwq'⟩ := hwq
       subst hwq'
       clear GC
       have gq1 := gq.gr
       generalize gq.w = wq at gq1 ⊢
       obtain ⟨Xq, Yq, cq, fq⟩ := gq1.use
       have sq := gq1.size
       (try simp only [World.size_alloc, World.size_setCell, World.heap_drewN] at sq)
       go_wp2
       go_ret
       exact ⟨ret_bool HE.out.symm, (by with_reducible repeat (first | exact Gr.refl _ | assumption | refine Gr.alloc ?_ _ | refine Gr.drewN ?_ _ | refine Gr.drew ?_ | refine Gr.setCell ?_ (by first | (dsimp only; omega) | (simp only [World.size_alloc]; omega)) _ | refine Gr.trans ?_ (by assumption)))⟩
  ·obtain rfl : k = l.length := by omega
   have HE := hide (HN.out HS.out)
   go_wp2
   go_ret
   exact ⟨ret_bool HE.out.symm, (by with_reducible repeat (first | exact Gr.refl _ | assumption | refine Gr.alloc ?_ _ | refine Gr.drewN ?_ _ | refine Gr.drew ?_ | refine Gr.setCell ?_ (by first | (dsimp only; omega) | (simp only [World.size_alloc]; omega)) _ | refine Gr.trans ?_ (by assumption)))⟩
end RG
end Go.Proofs.YtddhaiaapomdjaaGreat
set_option linter.unusedVariables false
set_option linter.unusedSimpArgs false
namespace Go.Proofs.YtddhaiaapomdjaaGreat
set_option linter.unusedVariables false
set_option linter.unusedSimpArgs false
open Go Go.ChangeShapes Go.WideShapes Go.ChangeAt Go.RowKit Go.Deep

namespace RG
theorem tc_nb {a b : Rc} (ha : vrR a = true) (hb : vrR b = true) (h : ovQ a b = false) : tcB a b = nbB a b := by
 have p := vrR_iff.1 ha
 have q := vrR_iff.1 hb
 have p1 := p.w; have p2 := p.h
 have q1 := q.w; have q2 := q.h
 have hn : ¬ ovP a b := fun e => by rw [(ovQ_iff ha hb).2 e] at h; cases h
 rw [Bool.eq_iff_iff, nbB_iff]
 unfold tcB nbP
 rw [decide_eq_true_eq, bl_le, bl_le, bl_lt, bl_lt]
 unfold ovP at hn
 unfold cmX cmY6
 omega
theorem ap_pair {p : Rc → Rc → Bool} (hs : ∀ a b, p a b = p b a) {l : List Rc} (h : apB p l = false) {i j : Nat} {a b : Rc} (hi : l[i]? = some a) (hj : l[j]? = some b) (hij : i ≠ j) : p a b = false := by
 rcases Nat.lt_or_gt_of_ne hij with c | c
 ·cases e : p a b with
  | false => rfl
  | true => rw [apB_yes hi hj c e] at h; cases h
 ·rw [hs]
  cases e : p b a with
  | false => rfl
  | true => rw [apB_yes hj hi c e] at h; cases h
theorem ovQ_comm (a b : Rc) : ovQ a b = ovQ b a := ovB_comm _ _ _ _ _ _ _ _
theorem CnI.popF {nb : Nat → Nat → Bool} {n i : Nat} {f : Nat → Bool} {W : List Int} (h : CnI nb n f ((i : Int) :: W)) : CnJ nb n f W i 0 ∧ i < n := by
 obtain ⟨j, e, hj, hf⟩ := h.wk i (by simp)
 have e' : i = j := by omega
 subst e'
 refine ⟨⟨h.r0, h.rc, fun z hz => h.wk z (List.mem_cons_of_mem _ hz), fun a j ha hm hj' hn => ?_, hf⟩, hj⟩
 by_cases e : a = i
 ·exact .inr ⟨e, Nat.zero_le _⟩
 ·exact .inl (h.cl a j ha (by simp only [List.mem_cons, not_or]; exact ⟨by omega, hm⟩) hj' hn)
theorem cfN_zero {f : Nat → Bool} : ∀ n, cfN f n = 0 ↔ ∀ j, j < n → f j = true
 | 0 => by simp [cfN]
 | n + 1 => by
  have ih := cfN_zero (f := f) n
  unfold cfN
  constructor
  ·intro h j hj
   have h1 : cfN f n = 0 := by omega
   by_cases e : j = n
   ·subst e
    cases q : f j with
    | true => rfl
    | false => rw [q] at h; simp at h
   ·exact ih.1 h1 j (by omega)
  ·intro h
   rw [ih.2 (fun j hj => h j (by omega)), h n (by omega)]
   rfl
set_option maxHeartbeats 8000000 in
set_option maxRecDepth 100000 in
theorem connected6_any (A : Option Addr) (c : Nat) (l : List Rc) (b : Bool) (w : World) (hl : SlR w A c l) (h0 : 0 < l.length) (h1 : l.length ≤ 1000) (hv : ∀ r ∈ l, vrR r = true) (ho : apB ovQ l = false) (hb : CoB l b) :
  Calls Tryz.prog 75 #[.slice A l.length c] w fun e w' => e = .returned (.bool b) ∧ Gr w w' := by
 have n1 := hl.cap
 have n2 := hl.capB
 have HL := hide hl
 have HV := hide hv
 have HB := hide hb
 have HO6 := hide (fun (i j : Nat) (x y : Rc) (hi : l[i]? = some x) (hj : l[j]? = some y) (hij : i ≠ j) => tc_nb (hv x (List.mem_of_getElem? hi)) (hv y (List.mem_of_getElem? hj)) (ap_pair ovQ_comm ho hi hj hij))
 have HMK := hide (make_bls l.length h1)
 obtain ⟨n, hn⟩ : ∃ n, l.length = n := ⟨_, rfl⟩
 have HN := hide hn
 unfold CoB at HB
 rw [hn] at h0 h1 n1 HMK HB ⊢
 clear hl hv hb hn ho
 have HMK' := HMK.out
 have h00 : (0 : Int) < (n : Int) := by omega
 go_enter Tryz.func75, Tryz.ntmps75
 go_upto_region 2 with fail
 have hm0 := hide (made_bls n w)
 have gM : Gr w (w.alloc (.cells (madeCells #[.bool false] n) 4)) := (by with_reducible repeat (first | exact Gr.refl _ | assumption | refine Gr.alloc ?_ _ | refine Gr.drewN ?_ _ | refine Gr.drew ?_ | refine Gr.setCell ?_ (by first | (dsimp only; omega) | (simp only [World.size_alloc]; omega)) _ | refine Gr.trans ?_ (by assumption)))
 obtain ⟨B, hB⟩ : ∃ B, w.heap.size = B := ⟨_, rfl⟩
 have hwB : w.heap.size ≤ B := by omega
 have szM : (w.alloc (.cells (madeCells #[.bool false] n) 4)).heap.size = B + 1 := by simp; omega
 rw [hB] at hm0 ⊢
 generalize w.alloc (.cells (madeCells #[.bool false] n) 4) = w1 at *
 have HSZ := hide szM
 clear hB szM HMK' HMK
 have O1 := hide (own_lit (c := inL) (k := 1) w1 (B + 1) 3 #[iv 0] [0] (by rw [HSZ.out]; exact Nat.le_refl _) (fun _ => rfl) rfl (by decide))
 have hm1 := hide (hm0.out.gr (show Gr w1 (w1.alloc (.cells #[iv 0] 3)) from Gr.alloc (Gr.refl _) _))
 have gM1 : Gr w (w1.alloc (.cells #[iv 0] 3)) := Gr.alloc gM _
 have szM1 : B + 1 ≤ (w1.alloc (.cells #[iv 0] 3)).heap.size := by rw [World.size_alloc, HSZ.out]; omega
 have y0 := (hm1.out.2 0 h0).1
 have f0 := (hm1.out.2 0 h0).2
 have hBl := hm1.out.1
 go_upto_region 3 with fail
 simp only [HSZ.out]
 have O2 := hide (show OwnL (w1.alloc (.cells #[iv 0] 3)) (B + 1) 3 1 inL (.slice (some ⟨B + 1, 0, none⟩) 1 1) [0] by have := O1.out; rw [HSZ.out] at this; exact this)
 clear O1 HSZ gM hm0
 generalize w1.alloc (.cells #[iv 0] 3) = w2 at *
 go_upto_region 4 with fail
 have hm2 := hide (hm1.out.up h0)
 have gM2 : Gr w (w2.setCell ⟨B, 0, none⟩ (.bool true)) := Gr.setCell gM1 (by dsimp only; omega) _
 have szM2 : B + 1 ≤ (w2.setCell ⟨B, 0, none⟩ (.bool true)).heap.size := by rw [World.size_setCell]; exact szM1
 have O3 := hide (show OwnL (w2.setCell ⟨B, 0, none⟩ (.bool true)) (B + 1) 3 1 inL (.slice (some ⟨B + 1, 0, none⟩) 1 1) [0] from own_farN O2.out (by dsimp only; omega) _)
 generalize w2.setCell ⟨B, 0, none⟩ (.bool true) = w3 at *
 clear y0 f0 hm1 O2 gM1 szM1 hBl
 go_wp2_with fail
 go_loopw [4, 5] (fun v i wr => ∃ (m : Nat) (T : List Int) (f : Nat → Bool) (A' : Option Addr) (d' : Nat), i = iv m ∧ v = .slice A' T.length d' ∧ m ≤ T.length ∧ T.length + cfN f n = n ∧ Gr w wr ∧ B + 1 ≤ wr.heap.size ∧ Hid (Bls wr B f n) ∧ Hid (OwnL wr (B + 1) 3 1 inL (.slice A' T.length d') T) ∧ Hid (CnI (nbL l) n f (T.drop m))) (fun _ i _ => n - (intOf i).toNat)
 case atStart => exact ⟨0, [0], upF (fun _ => false) 0, some ⟨B + 1, 0, none⟩, 1, rfl, rfl, by simp, by have := cfN_up (f := fun _ => false) (k := 0) rfl n h0; rw [cfN_none] at this; simp; omega, gM2, szM2, hm2, O3, hide (CnI.start h0)⟩
 case round =>
  clear hm2 O3 gM2 szM2
  obtain ⟨m, T, f, A1, d1, rfl, rfl, hmT, hTn, g, szr, hbl, hO, hI⟩ := hrel
  by_cases hml : m < T.length
  ·obtain ⟨z, hz⟩ : ∃ z, T[m]? = some z := ⟨_, List.getElem?_eq_getElem hml⟩
   have hI' := hI.out
   rw [drop_at hz] at hI'
   obtain ⟨i, hzi, hin, hfi⟩ := hI'.wk z (by simp)
   subst hzi
   have HJ := hide hI'.popF.1
   obtain ⟨ri, hri⟩ : ∃ r, l[i]? = some r := ⟨_, List.getElem?_eq_getElem (by rw [HN.out]; exact hin)⟩
   have HRI := hide hri
   have HZ := hide hz
   clear hI' hI hri hz hfi
   go_wp2
   obtain ⟨w4, hw4⟩ : ∃ w4, w4 = wr := ⟨_, rfl⟩
   subst hw4
   go_loopw [4, 6] (fun v kx wx => ∃ (k : Nat) (T' : List Int) (f : Nat → Bool) (A' : Option Addr) (d' : Nat), kx = iv k ∧ k ≤ n ∧ v = .slice A' T'.length d' ∧ Hid (T'[m]? = some (i : Int)) ∧ m < T'.length ∧ T'.length + cfN f n = n ∧ Gr w wx ∧ B + 1 ≤ wx.heap.size ∧ Hid (Bls wx B f n) ∧ Hid (OwnL wx (B + 1) 3 1 inL (.slice A' T'.length d') T') ∧ Hid (CnJ (nbL l) n f (T'.drop (m + 1)) i k)) (fun _ kx _ => n - (intOf kx).toNat)
   case atStart => exact ⟨0, T, f, A1, d1, rfl, by omega, rfl, HZ, hml, hTn, g, szr, hbl, hO, HJ⟩
   case round =>
    clear HJ HZ hbl hO szr g hTn hml hmT
    obtain ⟨k, T', f, A1, d1, rfl, hk, rfl, HZ, hmT, hTn, g, szr, hbl, hO, hJ⟩ := hrel
    by_cases hkn : k < n
    ·obtain ⟨rk, hrk⟩ : ∃ r, l[k]? = some r := ⟨_, List.getElem?_eq_getElem (by rw [HN.out]; exact hkn)⟩
     obtain ⟨b1, o1, hA1, x0, x1, x2, x3⟩ := (HL.out.gr g).at_ HRI.out
     obtain ⟨b2, o2, hA2, z0, z1, z2, z3⟩ := (HL.out.gr g).at_ hrk
     subst hA1
     cases hA2
     obtain ⟨_, rd, r1, r2⟩ := OwnL.rd (c := inL) (fun _ => rfl) hO.out
     obtain ⟨bt, ot, hAt, yt⟩ := rd.in_ HZ.out
     subst hAt
     have r2' : d1 ≤ 9223372036854775807 := by unfold maxLen at r2; omega
     have hbr : b1 < wr.heap.size := cell_lt (by rw [x0]; rfl)
     have hbt : bt < wr.heap.size := cell_lt (by rw [yt]; rfl)
     have hBr := hbl.out.1
     have hk0 : (0 : Int) ≤ (k : Int) := by omega
     have hk1 : (k : Int) < (n : Int) := by omega
     have hi0 : (0 : Int) ≤ (i : Int) := by omega
     have hi1 : (i : Int) < (n : Int) := by omega
     have hm0' : (0 : Int) ≤ (m : Int) := by omega
     have hm1' : (m : Int) < (T'.length : Int) := by omega
     have y0 := (hbl.out.2 k hkn).1
     have f0 := (hbl.out.2 k hkn).2
     have HNB := hide (fun w' => touching6_any ri rk w' (HV.out _ (List.mem_of_getElem? HRI.out)) (HV.out _ (List.mem_of_getElem? hrk)))
     have HNL := hide (nbL_at HRI.out hrk)
     have HTC := hide (fun (h : i ≠ k) => HO6.out i k ri rk HRI.out hrk h)
     clear hrk rd r2
     cases hf : f k with
     | true =>
      rw [hf] at y0
      have HJ' := hide (hJ.out.skip (.inl hf))
      clear hf
      go_upto_region 10 with fail
      have GC := @GrW.cell
      refine wp_region_grw _ (by kernel_rfl) (by kernel_rfl) (Gr.refl _) ?_
      repeat (go_big_quiet_step ((first | fail)))
      refine wpQuiet_nil ?_
      intro wq hwq
      obtain ⟨gq, hwq'⟩ := hwq
      subst hwq'
      clear GC
      have gq1 := gq.gr
      generalize gq.w = wq at gq1 ⊢
      obtain ⟨Xq, Yq, cq, fq⟩ := gq1.use
      have sq := gq1.size
      (try simp only [World.size_alloc, World.size_setCell, World.heap_drewN] at sq)
      go_wp2
      go_roundw
      case rel => exact ⟨k + 1, T', f, _, d1, by go_num, by omega, rfl, HZ, hmT, hTn, (by with_reducible repeat (first | exact Gr.refl _ | assumption | refine Gr.alloc ?_ _ | refine Gr.drewN ?_ _ | refine Gr.drew ?_ | refine Gr.setCell ?_ (by first | (dsimp only; omega) | (simp only [World.size_alloc]; omega)) _ | refine Gr.trans ?_ (by assumption))), Nat.le_trans szr sq, hide (hbl.out.gr (by with_reducible repeat (first | exact Gr.refl _ | assumption | refine Gr.alloc ?_ _ | refine Gr.drewN ?_ _ | refine Gr.drew ?_ | refine Gr.setCell ?_ (by first | (dsimp only; omega) | (simp only [World.size_alloc]; omega)) _ | refine Gr.trans ?_ (by assumption)))), hide (hO.out.gr (by with_reducible repeat (first | exact Gr.refl _ | assumption | refine Gr.alloc ?_ _ | refine Gr.drewN ?_ _ | refine Gr.drew ?_ | refine Gr.setCell ?_ (by first | (dsimp only; omega) | (simp only [World.size_alloc]; omega)) _ | refine Gr.trans ?_ (by assumption)))), HJ'⟩
      case measure => simp only [intOf]; omega
     | false =>
      rw [hf] at y0
      have hik : i ≠ k := fun e => by
       subst e
       rw [hJ.out.fi] at hf
       cases hf
      rw [HTC.out hik] at HNB
      clear hik HTC
      cases hnb : nbB ri rk with
      | false =>
       have HJ' := hide (hJ.out.skip (.inr (HNL.out.trans hnb)))
       rw [hnb] at HNB
       clear hf hnb
       go_upto_region 10 with fail
       have GC := @GrW.cell
       refine wp_region_grw _ (by kernel_rfl) (by kernel_rfl) (Gr.refl _) ?_
       repeat (go_big_quiet_step ((first | (go_at_call 120; exact quiet_grw (HNB.out _)))))
       refine wpQuiet_nil ?_
       intro wq hwq
       obtain ⟨gq, hwq'⟩ := hwq
       subst hwq'
       clear GC
       have gq1 := gq.gr
       generalize gq.w = wq at gq1 ⊢
       obtain ⟨Xq, Yq, cq, fq⟩ := gq1.use
       have sq := gq1.size
       (try simp only [World.size_alloc, World.size_setCell, World.heap_drewN] at sq)
       go_wp2
       go_roundw
       case rel => exact ⟨k + 1, T', f, _, d1, by go_num, by omega, rfl, HZ, hmT, hTn, (by with_reducible repeat (first | exact Gr.refl _ | assumption | refine Gr.alloc ?_ _ | refine Gr.drewN ?_ _ | refine Gr.drew ?_ | refine Gr.setCell ?_ (by first | (dsimp only; omega) | (simp only [World.size_alloc]; omega)) _ | refine Gr.trans ?_ (by assumption))), Nat.le_trans szr sq, hide (hbl.out.gr (by with_reducible repeat (first | exact Gr.refl _ | assumption | refine Gr.alloc ?_ _ | refine Gr.drewN ?_ _ | refine Gr.drew ?_ | refine Gr.setCell ?_ (by first | (dsimp only; omega) | (simp only [World.size_alloc]; omega)) _ | refine Gr.trans ?_ (by assumption)))), hide (hO.out.gr (by with_reducible repeat (first | exact Gr.refl _ | assumption | refine Gr.alloc ?_ _ | refine Gr.drewN ?_ _ | refine Gr.drew ?_ | refine Gr.setCell ?_ (by first | (dsimp only; omega) | (simp only [World.size_alloc]; omega)) _ | refine Gr.trans ?_ (by assumption)))), HJ'⟩
       case measure => simp only [intOf]; omega
      | true =>
       have HJ' := hide (show CnJ (nbL l) n (upF f k) ((T' ++ [(k : Int)]).drop (m + 1)) i (k + 1) by
        rw [List.drop_append_of_le_length (by omega)]
        exact hJ.out.push hkn (HNL.out.trans hnb))
       have HZ' := hide (show (T' ++ [(k : Int)])[m]? = some (i : Int) by rw [List.getElem?_append_left hmT]; exact HZ.out)
       have HCF := hide (cfN_up hf n hkn)
       rw [hnb] at HNB
       clear hnb
       go_upto_region 10 with fail
       have GC := @GrW.cell
       refine wp_region_grw _ (by kernel_rfl) (by kernel_rfl) (Gr.refl _) ?_
       repeat (go_big_quiet_step ((first | (go_at_call 120; exact quiet_grw (HNB.out _)))))
       refine wpQuiet_nil ?_
       intro wq hwq
       obtain ⟨gq, hwq'⟩ := hwq
       subst hwq'
       clear GC
       have gq1 := gq.gr
       generalize gq.w = wq at gq1 ⊢
       obtain ⟨Xq, Yq, cq, fq⟩ := gq1.use
       have sq := gq1.size
       (try simp only [World.size_alloc, World.size_setCell, World.heap_drewN] at sq)
       obtain ⟨T2, hT2⟩ : ∃ T2, T' ++ [(k : Int)] = T2 := ⟨_, rfl⟩
       have hT2l : T2.length = T'.length + 1 := by rw [← hT2, List.length_append]; rfl
       have HT2l := hide hT2l
       rw [hT2] at HJ' HZ'
       have HY := hide hT2
       clear hT2 hf hT2l
       go_upto_region 12 with fail
       have hm1 := hide ((hbl.out.gr gq1).up hkn)
       have gS : Gr w (wq.setCell ⟨B, k, none⟩ (.bool true)) := Gr.setCell (g.trans gq1) (by dsimp only; omega) _
       have szS : B + 1 ≤ (wq.setCell ⟨B, k, none⟩ (.bool true)).heap.size := by rw [World.size_setCell]; exact Nat.le_trans szr sq
       have hOS := hide (show OwnL (wq.setCell ⟨B, k, none⟩ (.bool true)) (B + 1) 3 1 inL (.slice (some ⟨bt, ot, none⟩) T'.length d1) T' from own_farN (hO.out.gr gq1) (by dsimp only; omega) _)
       have hOLT := hide (fun k hk => (World.ownsRow.lt hOS.out k hk).1)
       clear y0 f0 x0 x1 x2 x3 z0 z1 z2 z3 yt cq fq hbl hO
       generalize wq.setCell ⟨B, k, none⟩ (.bool true) = wS at *
       go_wp2_with (refine wpList_app1 rfl _ _ _ rfl inL (B + 1) 3 1 8 elIntN (by decide) T' (k : Int) T2 HY.out _ rfl (OwnL.gr hOS.out (by with_reducible repeat (first | exact Gr.refl _ | assumption | refine Gr.alloc ?_ _ | refine Gr.drewN ?_ _ | refine Gr.drew ?_ | refine Gr.setCell ?_ (by first | (dsimp only; omega) | (simp only [World.size_alloc]; omega)) _ | refine Gr.trans ?_ (by assumption)))) _ 1 rfl rfl (by intro j u hu; refine newsA _ #[iv k] 3 j u ?_; exact hu) (by intro u hu; simp at hu; subst hu; rfl) (by omega) (by decide) (by simp only [World.size_alloc]; omega) ?_; intro gg cap1 w8 hO8 hG8 hgrow hgb hg8)
       have HB8 := hide (Bls.grown (lo := B + 1) (hm1.out.gr (show Gr wS _ from Gr.alloc (Gr.refl _) _)) hgrow hOLT.out (by omega))
       have HO8 := hide hO8
       have g8 := hG8 w (gS.trans (by with_reducible repeat (first | exact Gr.refl _ | assumption | refine Gr.alloc ?_ _ | refine Gr.drewN ?_ _ | refine Gr.drew ?_ | refine Gr.setCell ?_ (by first | (dsimp only; omega) | (simp only [World.size_alloc]; omega)) _ | refine Gr.trans ?_ (by assumption)))) (by omega)
       have hs8 : B + 1 ≤ w8.heap.size := by have := HB8.out.1; omega
       have hTn8 : T2.length + cfN (upF f k) n = n := by have := HCF.out; have := HT2l.out; omega
       have hmT8 : m < T2.length := by have := HT2l.out; omega
       clear hG8 hO8 hgrow
       go_roundw
       case rel => exact ⟨k + 1, T2, upF f k, some ⟨gg, 0, none⟩, cap1, by go_num, by omega, rfl, HZ', hmT8, hTn8, g8, hs8, HB8, HO8, HJ'⟩
       case measure => simp only [intOf]; omega
    ·obtain rfl : k = n := by omega
     have HI := hide hJ.out.out
     go_wp2
     go_roundw
     case rel => exact ⟨m + 1, T', f, A1, d1, by go_num, rfl, hmT, hTn, g, szr, hbl, hO, HI⟩
     case measure => simp only [intOf]; omega
  ·obtain rfl : m = T.length := by omega
   have hI' := hI.out
   rw [List.drop_length] at hI'
   have HGO := hide (show b = true ↔ T.length = n from ⟨fun hb => by
    have := (cfN_zero (f := f) n).2 (fun j hj => hI'.all (HB.out.1 hb j hj))
    omega, fun h => HB.out.2 (hI'.yes ((cfN_zero (f := f) n).1 (by omega)))⟩)
   clear hI hI' hO hbl
   by_cases hTe : T.length = n
   ·have d1 : ((T.length : Int) == (n : Int)) = true := by simp [hTe]
    have HE := hide (HGO.out.2 hTe)
    clear hTe
    go_wp2
    go_ret
    exact ⟨ret_bool HE.out.symm, g⟩
   ·have d1 : ((T.length : Int) == (n : Int)) = false := by simpa using (fun e => hTe (by omega))
    have HE := hide (show b = false by
     cases q : b with
     | false => rfl
     | true => exact absurd (HGO.out.1 q) hTe)
    clear hTe
    go_wp2
    go_ret
    exact ⟨ret_bool HE.out.symm, g⟩
end RG
end Go.Proofs.YtddhaiaapomdjaaGreat
set_option linter.unusedVariables false
set_option linter.unusedSimpArgs false
namespace Go.Proofs.YtddhaiaapomdjaaGreat
set_option linter.unusedVariables false
set_option linter.unusedSimpArgs false
open Go Go.ChangeShapes Go.WideShapes Go.ChangeAt Go.RowKit Go.Deep

namespace RG
set_option maxRecDepth 100000 in
theorem step_app6 {w : World} {ops : Array Oper} {o : Oper} {a : Act} {K : Act → World → Prop} {Q : Exit → Act → World → Prop} {E : Prop} (hgd : o.guard = none) (s x : Operand) (t : TypeId)
  (ho : o.op = .call { callee := .builtin .append, args := #[s, x], argTypes := #[t, t] }) (T : ElT Tryz.prog t 70 4 32)
  (base : Nat) (xs zs ys : List Rc) (hys : xs ++ zs = ys) (v : Value) (hs : a.eval s = v) (hown : OwnL w base 70 4 rcL v xs) (B : Option Addr) (c : Nat) (hx : a.eval x = .slice B zs.length c) (hz : SlR w B c zs) (hn : xs.length + zs.length ≤ 1000) (hbase : base ≤ w.heap.size)
  (h : ∀ (D : Option Addr) (q : Nat) (w' : World), OwnL w' base 70 4 rcL (.slice D ys.length q) ys → w.grownBy w' v.ownBlock → K (a.put o.dst (.slice D ys.length q)) w') :
  if Region.wanted o (yielded ops a.tmps) = true then Oper.wp Tryz.prog o a w K Q else E := by
 subst hys
 obtain ⟨D, q, rfl⟩ := hown.slice
 cases zs with
 | nil =>
  have hw : Region.wanted o (yielded ops a.tmps) = true := by simp [Region.wanted, hgd]
  rw [if_pos hw]
  obtain ⟨i, z, hi, hz', hsz, hby, hzs⟩ := T.inf
  obtain ⟨_, _, hcap, _⟩ := OwnL.rd (c := rcL) (fun _ => rfl) hown
  have hK := h D q w (by rw [List.append_nil]; exact hown) (World.grownBy.refl _ _)
  rw [List.append_nil] at hK
  simp only [List.length_nil] at hx
  unfold Oper.wp execOp
  simp only [ho, resolve, invoke, builtin, Sem.run_bind, Sem.run_pure, Result.andThen_ok, List.map_toArray, List.map_cons, List.map_nil, hs, hx, run_append_zero w t o.type 70 i T.und hi D xs.length q hcap B c]
  exact hK
 | cons z zs =>
  obtain ⟨i, z', hi, hz', hsz, hby, hzs⟩ := T.inf
  obtain ⟨b, off, hA, _⟩ := hz.rd 0 z rfl
  subst hA
  refine step_append_lies w hgd s x t ho base 70 i z' 4 32 T.und hi hz' hsz hby hzs (by omega) _ xs.length (xs.flatMap rcL) hs hown ⟨b, off, none⟩ (z :: zs).length c ((z :: zs).flatMap rcL) hx (by rw [fm_len (c := rcL) (k := 4) (fun _ => rfl)]) (news_at hz rfl) (one_all (z :: zs)) (by simp) (by unfold maxLen; omega) (by omega) hbase _ rfl ?_
  intro g cap w' h2 h3 h4 h5
  have hO : OwnL w' base 70 4 rcL (.slice (some ⟨g, 0, none⟩) (xs ++ z :: zs).length cap) (xs ++ z :: zs) := by
   unfold OwnL
   rw [List.flatMap_append, List.length_append]
   exact h2
  have := h (some ⟨g, 0, none⟩) cap w' hO h3
  rwa [List.length_append] at this
theorem slr_take {w : World} {A : Option Addr} {c : Nat} {l : List Rc} (h : SlR w A c l) (i : Nat) : SlR w A c (l.take i) := by
 refine ⟨fun j z hj => ?_, by have := h.cap; rw [List.length_take]; omega, h.capB⟩
 rw [List.getElem?_take] at hj
 split at hj
 ·exact h.rd j z hj
 ·cases hj
end RG
end Go.Proofs.YtddhaiaapomdjaaGreat
