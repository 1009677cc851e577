/-
  checkPoints: the error of lists of points.
-/
import Derived.Test.YtegehdidfmcflaaDoorSl1
namespace Go.Proofs.YtegehdidfmcflaaDoor
set_option linter.unusedVariables false
set_option linter.unusedSimpArgs false
open Go Go.ChangeShapes Go.WideShapes Go.ChangeAt Go.RowKit Go.Deep

/-- Slices of points that lie in a slice. -/
abbrev PL := Option Addr × List Pt × Nat
def RdL (w : World) (A : Option Addr) (ls : List PL) : Prop :=
  ∀ (i : Nat) (l : PL), ls[i]? = some l → (∃ b off, A = some ⟨b, off, none⟩ ∧ w.cell? ⟨b, off + i, none⟩ = some (.slice l.1 l.2.1.length l.2.2)) ∧ Rd w l.1 l.2.1 ∧ l.2.1.length ≤ 1000000
theorem RdL.gr {a b : World} {A : Option Addr} {ls : List PL} (h : RdL a A ls) (g : Gr a b) : RdL b A ls := by
  intro i l hl
  obtain ⟨⟨k, off, e, h0⟩, h1, h2⟩ := h i l hl
  exact ⟨⟨k, off, e, (g.cell _ _ (cell_lt (by rw [h0]; rfl))).trans h0⟩, h1.gr g, h2⟩
def badLen (n : Nat) : Bool := decide (n = 0) || decide (24 < n)
def pB (p : Pt) : Bool := pinB p.1 p.2.1 p.2.2.1 p.2.2.2
def ckE (ls : List PL) : Int := if ls.any (fun l => badLen l.2.1.length) then 1 else if ls.any (fun l => l.2.1.any fun p => !pB p) then 4 else 0
theorem any_take_succ {α : Type} (f : α → Bool) (l : List α) (k : Nat) (x : α) (h : l[k]? = some x) : (l.take (k + 1)).any f = ((l.take k).any f || f x) := by
  rw [List.take_add_one, h]
  simp
theorem any_of {α : Type} (f : α → Bool) (l : List α) (k : Nat) (x : α) (h : l[k]? = some x) (hf : f x = true) : l.any f = true := List.any_eq_true.2 ⟨x, List.mem_of_getElem? h, hf⟩

set_option maxHeartbeats 1000000 in
set_option maxRecDepth 100000 in
theorem checkPoints_any (A : Option Addr) (c : Nat) (ls : List PL) (w : World) (hx : RdL w A ls) (ll : ls.length ≤ 1000000) :
    Calls Tryd.prog 15 #[.slice A ls.length c] w fun e w' => e = .returned (iv (ckE ls)) ∧ Gr w w' := by
  have HX := hide hx
  clear hx
  go_enter Tryd.func15, Tryd.ntmps15
  go_wp2
  go_loopw [11] (fun i wr => ∃ k : Nat, k ≤ ls.length ∧ i = iv k ∧ Gr w wr ∧ Hid ((ls.take k).any (fun l => badLen l.2.1.length) = false)) (fun i _ => ls.length - (intOf i).toNat)
  case atStart => exact ⟨0, by omega, rfl, Gr.refl _, by simp [Hid]⟩
  case round =>
    obtain ⟨k, hk, rfl, g, HB⟩ := hrel
    by_cases hlt : k < ls.length
    · obtain ⟨l, hl⟩ : ∃ l, ls[k]? = some l := ⟨_, List.getElem?_eq_getElem hlt⟩
      obtain ⟨⟨b, off, rfl, x0⟩, _, hlen⟩ := (HX.out.gr g) k l hl
      by_cases hb : badLen l.2.1.length = true
      · have he : ckE ls = 1 := by unfold ckE; rw [if_pos (any_of _ _ _ _ hl hb)]
        have HE := hide he
        clear hl he
        simp only [badLen, Bool.or_eq_true, decide_eq_true_eq] at hb
        by_cases hz : l.2.1.length = 0
        · have hz' : (((l.2.1.length : Nat) : Int) == 0) = true := by simp [hz]
          go_wp2
          go_ret
          exact ⟨ret_iv HE.out.symm, g⟩
        · have hz' : (((l.2.1.length : Nat) : Int) == 0) = false := by simp [hz]
          have hg' : (24 : Int) < ((l.2.1.length : Nat) : Int) := by omega
          go_wp2
          go_ret
          exact ⟨ret_iv HE.out.symm, g⟩
      · have hn := any_take_succ (fun l : PL => badLen l.2.1.length) ls k l hl
        rw [HB.out] at hn
        have hb' : badLen l.2.1.length = false := by simpa using hb
        have HN : Hid ((ls.take (k + 1)).any (fun l => badLen l.2.1.length) = false) := by unfold Hid; rw [hn]; simp [hb']
        clear hl hn hb
        simp only [badLen, Bool.or_eq_false_iff, decide_eq_false_iff_not] at hb'
        obtain ⟨hb1, hb2⟩ := hb'
        have hz' : (((l.2.1.length : Nat) : Int) == 0) = false := by simp [hb1]
        have hg' : ¬ (24 : Int) < ((l.2.1.length : Nat) : Int) := by omega
        go_wp2
        go_roundw
        case rel => exact ⟨k + 1, by omega, by go_num, g, HN⟩
        case measure => simp [intOf]; omega
    · obtain rfl : k = ls.length := by omega
      have hb : ls.any (fun l => badLen l.2.1.length) = false := by have := HB.out; rwa [List.take_length] at this
      have HB' := hide hb
      clear hb
      go_wp2
      go_loopw [26] (fun i wr => ∃ k : Nat, k ≤ ls.length ∧ i = iv k ∧ Gr w wr ∧ Hid ((ls.take k).any (fun l => l.2.1.any fun p => !pB p) = false)) (fun i _ => ls.length - (intOf i).toNat)
      case atStart => exact ⟨0, by omega, rfl, g, by simp [Hid]⟩
      case round =>
        obtain ⟨k, hk, rfl, g, HC⟩ := hrel
        by_cases hlt : k < ls.length
        · obtain ⟨l, hl⟩ : ∃ l, ls[k]? = some l := ⟨_, List.getElem?_eq_getElem hlt⟩
          obtain ⟨⟨b, off, rfl, x0⟩, hr, hlen⟩ := (HX.out.gr g) k l hl
          have HR := hide hr
          have HL := hide hl
          clear hr hl
          go_wp2
          go_loopw [32] (fun i wq => ∃ j : Nat, j ≤ l.2.1.length ∧ i = iv j ∧ Gr wr wq ∧ Hid ((l.2.1.take j).any (fun p => !pB p) = false)) (fun i _ => l.2.1.length - (intOf i).toNat)
          case atStart => exact ⟨0, by omega, rfl, Gr.refl _, by simp [Hid]⟩
          case round =>
            obtain ⟨j, hj, rfl, g2, HD⟩ := hrel
            by_cases hlt2 : j < l.2.1.length
            · obtain ⟨p, hp⟩ : ∃ p, l.2.1[j]? = some p := ⟨_, List.getElem?_eq_getElem hlt2⟩
              obtain ⟨b2, off2, hA, y0, y1, y2, y3⟩ := (HR.out.gr g2) j p hp
              by_cases hpb : pB p = true
              · have hn := any_take_succ (fun p => !pB p) l.2.1 j p hp
                have HN : Hid ((l.2.1.take (j + 1)).any (fun p => !pB p) = false) := by unfold Hid; rw [hn, HD.out]; simp [hpb]
                unfold pB at hpb
                clear hp hn
                rw [hA]
                go_wp2_with (go_at_call 26; refine (pointWithin_any _ _ _ _ _).mono ?_; rintro e w1 ⟨rfl, g1⟩; obtain ⟨X1, Y1, c1, f1⟩ := g1.use)
                go_roundw
                case rel => exact ⟨j + 1, by omega, by go_num, (by repeat (first | with_reducible exact Gr.refl _ | with_reducible assumption | with_reducible refine Gr.alloc ?_ _ | with_reducible refine Gr.drewN ?_ _ | with_reducible refine Gr.drew ?_ | with_reducible refine Gr.setCell ?_ (by first | (dsimp only; omega) | (simp only [World.size_alloc]; omega) | (with_reducible refine Gr.size ?_; (repeat (first | with_reducible exact Gr.refl _ | with_reducible assumption | with_reducible refine Gr.alloc ?_ _ | with_reducible refine Gr.drewN ?_ _ | with_reducible refine Gr.drew ?_ | with_reducible refine Gr.trans ?_ (by with_reducible assumption))); done)) _ | with_reducible refine Gr.trans ?_ (by with_reducible assumption))), HN⟩
                case measure => simp [intOf]; omega
              · have hpf : (!pB p) = true := by simpa using hpb
                have he : ckE ls = 4 := by
                  unfold ckE
                  rw [if_neg (by rw [HB'.out]; simp), if_pos (any_of _ _ _ _ HL.out (any_of _ _ _ _ hp hpf))]
                have HE := hide he
                have hpb' : pB p = false := by simpa using hpb
                unfold pB at hpb'
                clear hp he hpf hpb
                rw [hA]
                go_wp2_with (go_at_call 26; refine (pointWithin_any _ _ _ _ _).mono ?_; rintro e w1 ⟨rfl, g1⟩; obtain ⟨X1, Y1, c1, f1⟩ := g1.use)
                go_ret
                exact ⟨ret_iv HE.out.symm, (g.trans g2).trans (by repeat (first | with_reducible exact Gr.refl _ | with_reducible assumption | with_reducible refine Gr.alloc ?_ _ | with_reducible refine Gr.drewN ?_ _ | with_reducible refine Gr.drew ?_ | with_reducible refine Gr.setCell ?_ (by first | (dsimp only; omega) | (simp only [World.size_alloc]; omega) | (with_reducible refine Gr.size ?_; (repeat (first | with_reducible exact Gr.refl _ | with_reducible assumption | with_reducible refine Gr.alloc ?_ _ | with_reducible refine Gr.drewN ?_ _ | with_reducible refine Gr.drew ?_ | with_reducible refine Gr.trans ?_ (by with_reducible assumption))); done)) _ | with_reducible refine Gr.trans ?_ (by with_reducible assumption)))⟩
            · obtain rfl : j = l.2.1.length := by omega
              have hn := any_take_succ (fun l : PL => l.2.1.any fun p => !pB p) ls k l HL.out
              have hd : (l.2.1.any fun p => !pB p) = false := by have := HD.out; rwa [List.take_length] at this
              have HN : Hid ((ls.take (k + 1)).any (fun l => l.2.1.any fun p => !pB p) = false) := by unfold Hid; rw [hn, HC.out, hd]; rfl
              clear hn hd
              go_wp2
              go_roundw
              case rel => exact ⟨k + 1, by omega, by go_num, g.trans g2, HN⟩
              case measure => simp [intOf]; omega
        · obtain rfl : k = ls.length := by omega
          have he : ckE ls = 0 := by
            unfold ckE
            have h2 := HC.out
            rw [List.take_length] at h2
            rw [if_neg (by rw [HB'.out]; simp), if_neg (by rw [h2]; simp)]
          have HE := hide he
          clear he
          go_wp2
          go_ret
          exact ⟨ret_iv HE.out.symm, g⟩
end Go.Proofs.YtegehdidfmcflaaDoor
