/-
  Flat patterns as they come: where they lie; inLimits and check of the code.
-/
import Derived.Test.YtjnfodbniohkhaaSf4
set_option linter.unusedVariables false
set_option linter.unusedSimpArgs false
namespace Go.Proofs.Ytjnfodbniohkhaa
set_option linter.unusedVariables false
set_option linter.unusedSimpArgs false
open Go Go.ChangeShapes Go.WideShapes Go.ChangeAt Go.RowKit Go.Deep

namespace RG
/-- a bend line: flange, parent, its line's ends, angle, deduction -/
structure Bd where
  f : Int
  p : Int
  a : Int
  b : Int
  c : Int
  d : Int
  n : Int
  e : Int
abbrev bdL (x : Bd) : List Value := [iv x.f, iv x.p, iv x.a, iv x.b, iv x.c, iv x.d, iv x.n, iv x.e]
abbrev bdv (x : Bd) : Value := .agg #[iv x.f, iv x.p, iv x.a, iv x.b, iv x.c, iv x.d, iv x.n, iv x.e]
structure SlB (w : World) (A : Option Addr) (c : Nat) (l : List Bd) : Prop where
  rd : RdL w 8 bdL A l
  cap : l.length ≤ c
  capB : c ≤ 9223372036854775807
theorem SlB.gr {w w' : World} {A : Option Addr} {c : Nat} {l : List Bd} (h : SlB w A c l) (g : Gr w w') : SlB w' A c l := ⟨h.rd.gr g, h.cap, h.capB⟩
theorem SlB.at_ {w : World} {A : Option Addr} {c : Nat} {l : List Bd} (h : SlB w A c l) {i : Nat} {z : Bd} (hi : l[i]? = some z) : ∃ b off, A = some ⟨b, off, none⟩ ∧ w.cell? ⟨b, off + i * 8, none⟩ = some (iv z.f) ∧ w.cell? ⟨b, off + i * 8 + 1, none⟩ = some (iv z.p) ∧ w.cell? ⟨b, off + i * 8 + 2, none⟩ = some (iv z.a) ∧ w.cell? ⟨b, off + i * 8 + 3, none⟩ = some (iv z.b) ∧ w.cell? ⟨b, off + i * 8 + 4, none⟩ = some (iv z.c) ∧ w.cell? ⟨b, off + i * 8 + 5, none⟩ = some (iv z.d) ∧ w.cell? ⟨b, off + i * 8 + 6, none⟩ = some (iv z.n) ∧ w.cell? ⟨b, off + i * 8 + 7, none⟩ = some (iv z.e) := by
  obtain ⟨b, off, e, h0, h1, h2, h3, h4, h5, h6, h7, _⟩ := h.rd i z hi
  exact ⟨b, off, e, h0, h1, h2, h3, h4, h5, h6, h7⟩
/-- a pattern: rectangles, cuts, forms, bend lines -/
structure Pat where
  r : List Rc
  c : List Rc
  f : List Rc
  b : List Bd
structure PatW (w : World) (A1 : Option Addr) (c1 : Nat) (A2 : Option Addr) (c2 : Nat) (A3 : Option Addr) (c3 : Nat) (A4 : Option Addr) (c4 : Nat) (F : Pat) : Prop where
  r : SlR w A1 c1 F.r
  c : SlR w A2 c2 F.c
  f : SlR w A3 c3 F.f
  b : SlB w A4 c4 F.b
theorem PatW.gr {w w' : World} {A1 : Option Addr} {c1 : Nat} {A2 : Option Addr} {c2 : Nat} {A3 : Option Addr} {c3 : Nat} {A4 : Option Addr} {c4 : Nat} {F : Pat} (h : PatW w A1 c1 A2 c2 A3 c3 A4 c4 F) (g : Gr w w') : PatW w' A1 c1 A2 c2 A3 c3 A4 c4 F := ⟨h.r.gr g, h.c.gr g, h.f.gr g, h.b.gr g⟩
abbrev ptv (A1 : Option Addr) (n1 c1 : Nat) (A2 : Option Addr) (n2 c2 : Nat) (A3 : Option Addr) (n3 c3 : Nat) (A4 : Option Addr) (n4 c4 : Nat) : Value := .agg #[.slice A1 n1 c1, .slice A2 n2 c2, .slice A3 n3 c3, .slice A4 n4 c4]
def nsL (x : Bd) : List Int := [x.a, x.b, x.c, x.d]
def bdB (x : Bd) : Bool := (nsL x).all fun n => wiB n (-1048576) 1048576
/-- all rectangles are valid and all ends of bend lines are in range -/
def lmB (F : Pat) : Bool := (F.r.all vrR && F.c.all vrR && F.f.all vrR) && F.b.all bdB
theorem fwithin_any (n l m : Int) (w : World) : Calls Try.prog 16 #[iv n, iv l, iv m] w fun e w' => e = .returned (.bool (wiB n l m)) ∧ w = w' := by
  go_enter Try.func16, Try.ntmps16
  go_wp2
  all_goals
    go_ret
    exact ⟨ret_bool (by simp [wiB]; try omega), rfl⟩
theorem slRR_3 {w : World} {A B C : Option Addr} {c d q : Nat} {l m n : List Rc} (t : TypeId) (h : SlR w A c l) (k : SlR w B d m) (j : SlR w C q n) : SlRR (w.alloc (.cells #[.slice A l.length c, .slice B m.length d, .slice C n.length q] t)) (some ⟨w.heap.size, 0, none⟩) 3 [⟨A, c, l⟩, ⟨B, d, m⟩, ⟨C, q, n⟩] := by
  refine ⟨?_, ?_, by simp, by omega⟩
  · intro i x hi
    match i with
    | 0 =>
      simp only [List.getElem?_cons_zero, Option.some.injEq] at hi
      subst hi
      exact ⟨w.heap.size, 0, rfl, by simp [go_sem], trivial⟩
    | 1 =>
      simp only [List.getElem?_cons_succ, List.getElem?_cons_zero, Option.some.injEq] at hi
      subst hi
      exact ⟨w.heap.size, 0, rfl, by simp [go_sem], trivial⟩
    | 2 =>
      simp only [List.getElem?_cons_succ, List.getElem?_cons_zero, Option.some.injEq] at hi
      subst hi
      exact ⟨w.heap.size, 0, rfl, by simp [go_sem], trivial⟩
    | i + 3 => simp at hi
  · intro x hx
    simp only [List.mem_cons, List.not_mem_nil, or_false] at hx
    rcases hx with rfl | rfl | rfl
    · exact h.gr (Gr.alloc (Gr.refl _) _)
    · exact k.gr (Gr.alloc (Gr.refl _) _)
    · exact j.gr (Gr.alloc (Gr.refl _) _)
theorem sli_4 (w : World) (a b c d : Int) (t : TypeId) : SlI (w.alloc (.cells #[iv a, iv b, iv c, iv d] t)) (some ⟨w.heap.size, 0, none⟩) 4 [a, b, c, d] := by
  refine ⟨fun i p hp => ?_, by simp, by omega⟩
  refine ⟨w.heap.size, 0, rfl, ?_, trivial⟩
  match i with
  | 0 => simp only [List.getElem?_cons_zero, Option.some.injEq] at hp; subst hp; simp [go_sem]
  | 1 => simp only [List.getElem?_cons_succ, List.getElem?_cons_zero, Option.some.injEq] at hp; subst hp; simp [go_sem]
  | 2 => simp only [List.getElem?_cons_succ, List.getElem?_cons_zero, Option.some.injEq] at hp; subst hp; simp [go_sem]
  | 3 => simp only [List.getElem?_cons_succ, List.getElem?_cons_zero, Option.some.injEq] at hp; subst hp; simp [go_sem]
  | i + 4 => simp at hp
theorem all_no {α : Type} {p : α → Bool} {l : List α} {i : Nat} {x : α} (h : l[i]? = some x) (k : p x = false) : l.all p = false := by
  cases hh : l.all p with
  | false => rfl
  | true => rw [List.all_eq_true.1 hh x (List.mem_of_getElem? h)] at k; cases k
theorem all_yes {α : Type} {p : α → Bool} {l : List α} (h : ∀ (j : Nat) (s : α), j < l.length → l[j]? = some s → p s = true) : l.all p = true := by
  rw [List.all_eq_true]
  intro x hx
  obtain ⟨i, hi⟩ := List.mem_iff_getElem?.1 hx
  exact h i x (List.getElem?_eq_some_iff.1 hi).1 hi
theorem lm_rows (F : Pat) (A B C : Option Addr) (c d q : Nat) : lmB F = (([⟨A, c, F.r⟩, ⟨B, d, F.c⟩, ⟨C, q, F.f⟩] : List RS).all (fun x => x.l.all vrR) && F.b.all bdB) := by
  simp [lmB, Bool.and_assoc]
set_option maxHeartbeats 8000000 in
set_option maxRecDepth 100000 in
theorem inLimits_any (A1 A2 A3 A4 : Option Addr) (c1 c2 c3 c4 : Nat) (F : Pat) (w : World) (hF : PatW w A1 c1 A2 c2 A3 c3 A4 c4 F) :
    Calls Try.prog 21 #[ptv A1 F.r.length c1 A2 F.c.length c2 A3 F.f.length c3 A4 F.b.length c4] w fun e w' => e = .returned (.bool (lmB F)) ∧ Gr w w' := by
  have HF := hide hF
  have n7 := hF.b.cap
  have n8 := hF.b.capB
  have HLM := hide (lm_rows F A1 A2 A3 c1 c2 c3)
  have HLL := hide (fun (w' : World) (g : Gr w w') => slRR_3 (w := w') 22 (hF.r.gr g) (hF.c.gr g) (hF.f.gr g))
  obtain ⟨L, hL⟩ : ∃ L : List RS, [⟨A1, c1, F.r⟩, ⟨A2, c2, F.c⟩, ⟨A3, c3, F.f⟩] = L := ⟨_, rfl⟩
  rw [hL] at HLM HLL
  have hL3 : L.length = 3 := by rw [← hL]; rfl
  have HL3 := hide hL3
  clear hF hL hL3
  go_enter Try.func21, Try.ntmps21
  go_wp2_with fail
  have g0 : Gr w (w.alloc (.cells #[.slice A1 F.r.length c1, .slice A2 F.c.length c2, .slice A3 F.f.length c3, .slice A4 F.b.length c4] 25)) := Gr.alloc (Gr.refl _) _
  have HB4 := hide (fun (w' : World) (g : Gr (w.alloc (.cells #[.slice A1 F.r.length c1, .slice A2 F.c.length c2, .slice A3 F.f.length c3, .slice A4 F.b.length c4] 25)) w') => box4 g)
  have hs1 : (w.alloc (.cells #[.slice A1 F.r.length c1, .slice A2 F.c.length c2, .slice A3 F.f.length c3, .slice A4 F.b.length c4] 25)).heap.size = w.heap.size + 1 := by simp
  generalize w.alloc (.cells #[.slice A1 F.r.length c1, .slice A2 F.c.length c2, .slice A3 F.f.length c3, .slice A4 F.b.length c4] 25) = w1 at *
  have HL := hide (fun (w' : World) (g : Gr (w1.alloc (.cells #[.slice A1 F.r.length c1, .slice A2 F.c.length c2, .slice A3 F.f.length c3] 22)) w') => (HLL.out w1 g0).gr g)
  have g01 : Gr w1 (w1.alloc (.cells #[.slice A1 F.r.length c1, .slice A2 F.c.length c2, .slice A3 F.f.length c3] 22)) := Gr.alloc (Gr.refl _) _
  rw [hs1] at HL
  obtain ⟨B, hB⟩ : ∃ B, B = w.heap.size + 1 := ⟨_, rfl⟩
  rw [← hB] at HL
  simp only [← hB]
  generalize w1.alloc (.cells #[.slice A1 F.r.length c1, .slice A2 F.c.length c2, .slice A3 F.f.length c3] 22) = w2 at *
  have g02 := g0.trans g01
  clear hB HLL hs1
  go_loopw [19] (fun i wr => ∃ k : Nat, k ≤ L.length ∧ i = iv k ∧ Gr w2 wr ∧ Hid (∀ (j : Nat) (x : RS), j < k → L[j]? = some x → x.l.all vrR = true)) (fun i _ => L.length - (intOf i).toNat)
  case atStart => exact ⟨0, by omega, rfl, Gr.refl _, hide (fun j r h => absurd h (Nat.not_lt_zero j))⟩
  case round =>
    obtain ⟨k, hk, rfl, g, HS⟩ := hrel
    have hl3 := HL3.out
    by_cases hkl : k < L.length
    · obtain ⟨x, hx⟩ : ∃ x, L[k]? = some x := ⟨_, List.getElem?_eq_getElem hkl⟩
      obtain ⟨b, o, hA0, x0, hxl⟩ := (HL.out _ g).at_ hx
      cases hA0
      rw [Nat.zero_add] at x0
      have HX := hide hx
      have HXL := hide hxl
      have hk0 : (0 : Int) ≤ (k : Int) := by omega
      have hk1 : (k : Int) < (3 : Int) := by omega
      have hk1' : decide ((k : Int) < 3) = true := by simpa using hk1
      have hk2 : k < 3 := by omega
      have n3 := hxl.cap
      have n4 := hxl.capB
      clear hx hxl hl3
      go_wp2
      obtain ⟨wo, rfl⟩ : ∃ wo : World, wo = wr := ⟨_, rfl⟩
      go_loopw [25] (fun i wr => ∃ j : Nat, j ≤ x.l.length ∧ i = iv j ∧ Gr wo wr ∧ Hid (∀ (i : Nat) (r : Rc), i < j → x.l[i]? = some r → vrR r = true)) (fun i _ => x.l.length - (intOf i).toNat)
      case atStart => exact ⟨0, by omega, rfl, Gr.refl _, hide (fun j r h => absurd h (Nat.not_lt_zero j))⟩
      case round =>
        obtain ⟨j, hj, rfl, g2, HT⟩ := hrel
        by_cases hjl : j < x.l.length
        · obtain ⟨r, hr⟩ : ∃ r, x.l[j]? = some r := ⟨_, List.getElem?_eq_getElem hjl⟩
          obtain ⟨b2, o2, hA, y0, y1, y2, y3⟩ := (HXL.out.gr g2).at_ hr
          have HA := hide hA
          have HR := hide hr
          have hj0 : (0 : Int) ≤ (j : Int) := by omega
          have hj1 : (j : Int) < (x.l.length : Int) := by omega
          have HI := hide (fun w' => ValidRect_any r.x r.y r.w r.h w')
          rw [show vrB r.x r.y r.w r.h = vrR r from rfl] at HI
          clear hr
          rw [hA]
          clear hA
          cases hv : vrR r with
          | true =>
            have HT2 := hide (more (Q := fun r => vrR r = true) HT.out HR.out hv)
            rw [hv] at HI
            clear hv
            go_wp2_with (first | (go_at_call 35; refine (HI.out _).mono ?_; rintro e w1 ⟨rfl, g1⟩; obtain ⟨X1, Y1, c1, f1⟩ := g1.use))
            go_roundw
            case rel => exact ⟨j + 1, by omega, by go_num, g2.trans (by repeat (first | with_reducible exact Gr.refl _ | with_reducible assumption | with_reducible refine Gr.alloc ?_ _ | with_reducible refine Gr.drewN ?_ _ | with_reducible refine Gr.drew ?_ | with_reducible refine Gr.setCell ?_ (by first | (dsimp only; omega) | (simp only [World.size_alloc]; omega) | (with_reducible refine Gr.size ?_; (repeat (first | with_reducible exact Gr.refl _ | with_reducible assumption | with_reducible refine Gr.alloc ?_ _ | with_reducible refine Gr.drewN ?_ _ | with_reducible refine Gr.drew ?_ | with_reducible refine Gr.trans ?_ (by with_reducible assumption))); done)) _ | with_reducible refine Gr.trans ?_ (by with_reducible assumption))), HT2⟩
            case measure => simp only [intOf]; omega
          | false =>
            have HE := hide (show lmB F = false by
              rw [HLM.out, all_no HX.out (p := fun x : RS => x.l.all vrR) (all_no HR.out hv)]
              rfl)
            rw [hv] at HI
            clear hv
            go_wp2_with (first | (go_at_call 35; refine (HI.out _).mono ?_; rintro e w1 ⟨rfl, g1⟩; obtain ⟨X1, Y1, c1, f1⟩ := g1.use))
            go_ret
            exact ⟨ret_bool HE.out.symm, (g02.trans g).trans (g2.trans (by repeat (first | with_reducible exact Gr.refl _ | with_reducible assumption | with_reducible refine Gr.alloc ?_ _ | with_reducible refine Gr.drewN ?_ _ | with_reducible refine Gr.drew ?_ | with_reducible refine Gr.setCell ?_ (by first | (dsimp only; omega) | (simp only [World.size_alloc]; omega) | (with_reducible refine Gr.size ?_; (repeat (first | with_reducible exact Gr.refl _ | with_reducible assumption | with_reducible refine Gr.alloc ?_ _ | with_reducible refine Gr.drewN ?_ _ | with_reducible refine Gr.drew ?_ | with_reducible refine Gr.trans ?_ (by with_reducible assumption))); done)) _ | with_reducible refine Gr.trans ?_ (by with_reducible assumption))))⟩
        · obtain rfl : j = x.l.length := by omega
          have hj1 : ¬ ((x.l.length : Int) < (x.l.length : Int)) := by omega
          have HS2 := hide (more (Q := fun x => x.l.all vrR = true) HS.out HX.out (all_yes HT.out))
          go_wp2
          go_roundw
          case rel => exact ⟨k + 1, by omega, by go_num, g.trans g2, HS2⟩
          case measure => simp only [intOf]; omega
    · obtain rfl : k = L.length := by omega
      have HLA := hide (show lmB F = F.b.all bdB by rw [HLM.out, all_yes (p := fun x : RS => x.l.all vrR) HS.out, Bool.true_and])
      obtain ⟨s1, b0, b1, b2, b3⟩ := HB4.out _ (g01.trans g)
      have hk1 : ¬ ((L.length : Int) < (3 : Int)) := by omega
      have hk1' : decide ((L.length : Int) < 3) = false := by simpa using hk1
      clear HS HLM HB4 hl3
      go_wp2
      obtain ⟨w3, rfl⟩ : ∃ w0 : World, w0 = wr := ⟨_, rfl⟩
      have g03 := g02.trans g
      clear b0 b1 b2 b3 s1 g hk1 hk1'
      go_loopw [37] (fun i wr => ∃ k : Nat, k ≤ F.b.length ∧ i = iv k ∧ Gr w3 wr ∧ Hid (∀ (j : Nat) (x : Bd), j < k → F.b[j]? = some x → bdB x = true)) (fun i _ => F.b.length - (intOf i).toNat)
      case atStart => exact ⟨0, by omega, rfl, Gr.refl _, hide (fun j r h => absurd h (Nat.not_lt_zero j))⟩
      case round =>
        obtain ⟨k, hk, rfl, g, HS⟩ := hrel
        by_cases hkl : k < F.b.length
        · obtain ⟨x, hx⟩ : ∃ x, F.b[k]? = some x := ⟨_, List.getElem?_eq_getElem hkl⟩
          obtain ⟨b2, o2, hA, y0, y1, y2, y3, y4, y5, y6, y7⟩ := (HF.out.b.gr (g03.trans g)).at_ hx
          have HA := hide hA
          have HX := hide hx
          have hk0 : (0 : Int) ≤ (k : Int) := by omega
          have hk1 : (k : Int) < (F.b.length : Int) := by omega
          have s3 : IntKind.i64.wrap ((k : Int) + 1) = (k : Int) + 1 := IntWalk.i64_in _ (by omega)
          rw [hA]
          clear hx hA
          go_wp2
          obtain ⟨wo, rfl⟩ : ∃ wo : World, wo = wr := ⟨_, rfl⟩
          have gz : Gr wo (wo.alloc (.cells #[iv x.f, iv x.p, iv x.a, iv x.b, iv x.c, iv x.d, iv x.n, iv x.e] 49)) := Gr.alloc (Gr.refl _) _
          have HSI := hide (sli_4 (wo.alloc (.cells #[iv x.f, iv x.p, iv x.a, iv x.b, iv x.c, iv x.d, iv x.n, iv x.e] 49)) x.a x.b x.c x.d 3)
          have gy : Gr wo ((wo.alloc (.cells #[iv x.f, iv x.p, iv x.a, iv x.b, iv x.c, iv x.d, iv x.n, iv x.e] 49)).alloc (.cells #[iv x.a, iv x.b, iv x.c, iv x.d] 3)) := Gr.alloc gz _
          simp only [World.size_alloc] at HSI
          generalize (wo.alloc (.cells #[iv x.f, iv x.p, iv x.a, iv x.b, iv x.c, iv x.d, iv x.n, iv x.e] 49)).alloc (.cells #[iv x.a, iv x.b, iv x.c, iv x.d] 3) = w4 at *
          obtain ⟨ns, hns⟩ : ∃ ns, [x.a, x.b, x.c, x.d] = ns := ⟨_, rfl⟩
          have HNS := hide (show bdB x = ns.all (fun n => wiB n (-1048576) 1048576) by rw [← hns]; rfl)
          have hn4 : ns.length = 4 := by rw [← hns]; rfl
          have HN4 := hide hn4
          rw [hns] at HSI
          clear hns hn4 y0 y1 y2 y3 y4 y5 y6 y7 gz
          go_loopw [55] (fun i wr => ∃ j : Nat, j ≤ ns.length ∧ i = iv j ∧ Gr w4 wr ∧ Hid (∀ (i : Nat) (r : Int), i < j → ns[i]? = some r → wiB r (-1048576) 1048576 = true)) (fun i _ => ns.length - (intOf i).toNat)
          case atStart => exact ⟨0, by omega, rfl, Gr.refl _, hide (fun j r h => absurd h (Nat.not_lt_zero j))⟩
          case round =>
            obtain ⟨j, hj, rfl, g2, HT⟩ := hrel
            have hn4 := HN4.out
            by_cases hjl : j < ns.length
            · obtain ⟨r, hr⟩ : ∃ r, ns[j]? = some r := ⟨_, List.getElem?_eq_getElem hjl⟩
              obtain ⟨_, _, hA, y0⟩ := (HSI.out.gr g2).rd.in_ hr
              cases hA
              rw [Nat.zero_add] at y0
              have HR := hide hr
              have hj0 : (0 : Int) ≤ (j : Int) := by omega
              have hj1 : (j : Int) < (4 : Int) := by omega
              have hj1' : decide ((j : Int) < 4) = true := by simpa using hj1
              have hj2 : j < 4 := by omega
              have HI := hide (fun w' => fwithin_any r (-1048576) 1048576 w')
              clear hr hn4
              cases hv : wiB r (-1048576) 1048576 with
              | true =>
                have HT2 := hide (more (Q := fun r => wiB r (-1048576) 1048576 = true) HT.out HR.out hv)
                rw [hv] at HI
                clear hv
                go_wp2_with (first | (go_at_call 16; refine (HI.out _).mono ?_; rintro e w1 ⟨rfl, rfl⟩))
                go_roundw
                case rel => exact ⟨j + 1, by omega, by go_num, g2, HT2⟩
                case measure => simp only [intOf]; omega
              | false =>
                have HE := hide (show lmB F = false by
                  rw [HLA.out]
                  exact all_no HX.out (by rw [HNS.out]; exact all_no HR.out hv))
                rw [hv] at HI
                clear hv
                go_wp2_with (first | (go_at_call 16; refine (HI.out _).mono ?_; rintro e w1 ⟨rfl, rfl⟩))
                go_ret
                exact ⟨ret_bool HE.out.symm, (g03.trans g).trans (gy.trans g2)⟩
            · obtain rfl : j = ns.length := by omega
              have hj1 : ¬ ((ns.length : Int) < (4 : Int)) := by omega
              have hj1' : decide ((ns.length : Int) < 4) = false := by simpa using hj1
              have HS2 := hide (more (Q := fun x => bdB x = true) HS.out HX.out (by rw [HNS.out]; exact all_yes HT.out))
              clear hn4
              go_wp2
              go_roundw
              case rel => exact ⟨k + 1, by omega, by go_num, g.trans (gy.trans g2), HS2⟩
              case measure => simp only [intOf]; omega
        · obtain rfl : k = F.b.length := by omega
          have hk1 : ¬ ((F.b.length : Int) < (F.b.length : Int)) := by omega
          have HE := hide (show lmB F = true by rw [HLA.out]; exact all_yes HS.out)
          go_wp2
          go_ret
          exact ⟨ret_bool HE.out.symm, g03.trans g⟩
/-- the error of a pattern -/
def chE (F : Pat) : Int := if (1 ≤ F.r.length ∧ F.r.length ≤ 48) ∧ F.c.length ≤ 48 ∧ F.f.length ≤ 48 ∧ lmB F = true then 0 else 1
end RG
end Go.Proofs.Ytjnfodbniohkhaa
