/-
  Nests: lists of sheets and of pieces, and their errors, of the code.
  Nests: a new nesting, of the code.
  Nests: what has been placed, in memory; whether rectangles are clear of it, of the code.
  Nests: the first placement of a piece on the first sheet that has one, of the code (find).
-/
import Derived.Test.YtddhaiaapomdjaaGreatGGr
set_option linter.unusedVariables false
set_option linter.unusedSimpArgs false
namespace Go.Proofs.YtddhaiaapomdjaaGreat
set_option linter.unusedVariables false
set_option linter.unusedSimpArgs false
open Go Go.ChangeShapes Go.WideShapes Go.ChangeAt Go.RowKit Go.Deep

namespace RG
abbrev shL (s : ShT) : List Value := [.string s.nm, .string s.mt, iv s.ga, iv s.gr, iv s.wd, iv s.ht, .slice s.cA s.cl.length s.cc, .slice s.uA s.us.length s.uc]
abbrev pcL (p : Pc) : List Value := [.string p.nm, .string p.mt, iv p.ga, iv p.gr, .slice p.rA p.r.length p.rc, .slice p.cA p.c.length p.cc, .slice p.fA p.f.length p.fc]
/-- sheets, where they lie -/
structure SlS (w : World) (A : Option Addr) (c : Nat) (l : List ShT) : Prop where
  rd : RdL w 8 shL A l
  el : ∀ s ∈ l, ShW w s
  cap : l.length ≤ c
  capB : c ≤ 9223372036854775807
/-- pieces, where they lie -/
structure SlP (w : World) (A : Option Addr) (c : Nat) (l : List Pc) : Prop where
  rd : RdL w 7 pcL A l
  el : ∀ p ∈ l, PcW w p
  cap : l.length ≤ c
  capB : c ≤ 9223372036854775807
theorem SlS.gr {w w' : World} {A : Option Addr} {c : Nat} {l : List ShT} (h : SlS w A c l) (g : Gr w w') : SlS w' A c l := ⟨h.rd.gr g, fun s hs => (h.el s hs).gr g, h.cap, h.capB⟩
theorem SlP.gr {w w' : World} {A : Option Addr} {c : Nat} {l : List Pc} (h : SlP w A c l) (g : Gr w w') : SlP w' A c l := ⟨h.rd.gr g, fun s hs => (h.el s hs).gr g, h.cap, h.capB⟩
theorem SlS.at_ {w : World} {A : Option Addr} {c : Nat} {l : List ShT} (h : SlS w A c l) {i : Nat} {s : ShT} (hi : l[i]? = some s) : ∃ b off, A = some ⟨b, off, none⟩ ∧ (w.cell? ⟨b, off + i * 8, none⟩ = some (.string s.nm) ∧ w.cell? ⟨b, off + i * 8 + 1, none⟩ = some (.string s.mt) ∧ w.cell? ⟨b, off + i * 8 + 2, none⟩ = some (iv s.ga) ∧ w.cell? ⟨b, off + i * 8 + 3, none⟩ = some (iv s.gr) ∧ w.cell? ⟨b, off + i * 8 + 4, none⟩ = some (iv s.wd) ∧ w.cell? ⟨b, off + i * 8 + 5, none⟩ = some (iv s.ht) ∧ w.cell? ⟨b, off + i * 8 + 6, none⟩ = some (.slice s.cA s.cl.length s.cc) ∧ w.cell? ⟨b, off + i * 8 + 7, none⟩ = some (.slice s.uA s.us.length s.uc)) ∧ ShW w s := by
  obtain ⟨b, off, e, h0, h1, h2, h3, h4, h5, h6, h7, _⟩ := h.rd i s hi
  exact ⟨b, off, e, ⟨h0, h1, h2, h3, h4, h5, h6, h7⟩, h.el s (List.mem_of_getElem? hi)⟩
theorem SlP.at_ {w : World} {A : Option Addr} {c : Nat} {l : List Pc} (h : SlP w A c l) {i : Nat} {p : Pc} (hi : l[i]? = some p) : ∃ b off, A = some ⟨b, off, none⟩ ∧ (w.cell? ⟨b, off + i * 7, none⟩ = some (.string p.nm) ∧ w.cell? ⟨b, off + i * 7 + 1, none⟩ = some (.string p.mt) ∧ w.cell? ⟨b, off + i * 7 + 2, none⟩ = some (iv p.ga) ∧ w.cell? ⟨b, off + i * 7 + 3, none⟩ = some (iv p.gr) ∧ w.cell? ⟨b, off + i * 7 + 4, none⟩ = some (.slice p.rA p.r.length p.rc) ∧ w.cell? ⟨b, off + i * 7 + 5, none⟩ = some (.slice p.cA p.c.length p.cc) ∧ w.cell? ⟨b, off + i * 7 + 6, none⟩ = some (.slice p.fA p.f.length p.fc)) ∧ PcW w p := by
  obtain ⟨b, off, e, h0, h1, h2, h3, h4, h5, h6, _⟩ := h.rd i p hi
  exact ⟨b, off, e, ⟨h0, h1, h2, h3, h4, h5, h6⟩, h.el p (List.mem_of_getElem? hi)⟩
/-- the first error that is one -/
def fstE : List Int → Int
  | [] => 0
  | e :: l => if e ≠ 0 then e else fstE l
theorem fstE_hit {α : Type} {f : α → Int} : ∀ {l : List α} {k : Nat} {x : α}, l[k]? = some x → f x ≠ 0 → (∀ (j : Nat) (y : α), j < k → l[j]? = some y → f y = 0) → fstE (l.map f) = f x
  | [], _, _, h, _, _ => by simp at h
  | a :: l, 0, x, h, hx, _ => by
    obtain rfl : a = x := by simpa using h
    show (if f a ≠ 0 then f a else _) = _
    rw [if_pos hx]
  | a :: l, k + 1, x, h, hx, hn => by
    have ha : f a = 0 := hn 0 a (by omega) rfl
    show (if f a ≠ 0 then f a else _) = _
    rw [if_neg (by omega)]
    exact fstE_hit (by simpa using h) hx fun j z hj hz => hn (j + 1) z (by omega) (by simpa using hz)
theorem fstE_none {α : Type} {f : α → Int} : ∀ {l : List α}, (∀ (j : Nat) (y : α), j < l.length → l[j]? = some y → f y = 0) → fstE (l.map f) = 0
  | [], _ => rfl
  | a :: l, hn => by
    have ha : f a = 0 := hn 0 a (by simp) rfl
    show (if f a ≠ 0 then f a else _) = _
    rw [if_neg (by omega)]
    exact fstE_none fun j z hj hz => hn (j + 1) z (by simp; omega) (by simpa using hz)
/-- pieces, each with whether its rectangles are connected -/
def CoBs (P : List Pc) (bs : Pc → Bool) : Prop := ∀ p ∈ P, CoB p.r (bs p)
/-- the error of lists of sheets and pieces -/
def clE (S : List ShT) (P : List Pc) (bs : Pc → Bool) : Int := if 4 < S.length ∨ 8 < P.length then 4 else if fstE (S.map vsE) ≠ 0 then fstE (S.map vsE) else fstE (P.map fun p => vpE p (bs p))
set_option maxHeartbeats 8000000 in
set_option maxRecDepth 100000 in
theorem checkLists_any (A : Option Addr) (c : Nat) (S : List ShT) (B : Option Addr) (d : Nat) (P : List Pc) (bs : Pc → Bool) (w : World) (hS : SlS w A c S) (hP : SlP w B d P) (hb : CoBs P bs) :
    Calls Tryz.prog 56 #[.slice A S.length c, .slice B P.length d] w fun e w' => e = .returned (iv (clE S P bs)) ∧ Gr w w' := by
  have n1 := hS.cap
  have n2 := hS.capB
  have n3 := hP.cap
  have n4 := hP.capB
  have HS := hide hS
  have HP := hide hP
  have HV := hide (fun (s : ShT) (w' : World) (h : ShW w' s) => ValidateSheet_any s w' h)
  have HQ := hide (fun (p : Pc) (hp : p ∈ P) (w' : World) (h : PcW w' p) => ValidatePiece_any p (bs p) w' h (hb p hp))
  have HC := hide (show clE S P bs = if 4 < S.length ∨ 8 < P.length then 4 else if fstE (S.map vsE) ≠ 0 then fstE (S.map vsE) else fstE (P.map fun p => vpE p (bs p)) from rfl)
  clear hS hP hb
  by_cases h4 : 4 < S.length
  · have h4' : decide ((S.length : Int) > 4) = true := decide_eq_true (by omega)
    have h4'' : (4 : Int) < (S.length : Int) := by omega
    have HE := hide (show clE S P bs = 4 by rw [HC.out, if_pos (.inl h4)])
    go_enter Tryz.func56, Tryz.ntmps56
    go_wp2
    go_ret
    exact ⟨ret_iv HE.out.symm, (by with_reducible repeat (first | exact Gr.refl _ | assumption | refine Gr.alloc ?_ _ | refine Gr.drewN ?_ _ | refine Gr.drew ?_ | refine Gr.setCell ?_ (by first | (dsimp only; omega) | (simp only [World.size_alloc]; omega) | (refine Gr.size ?_; (repeat (first | exact Gr.refl _ | assumption | refine Gr.alloc ?_ _ | refine Gr.drewN ?_ _ | refine Gr.drew ?_ | refine Gr.trans ?_ (by assumption))); done)) _ | refine Gr.trans ?_ (by assumption)))⟩
  · have h4'' : ¬ ((4 : Int) < (S.length : Int)) := by omega
    by_cases h8 : 8 < P.length
    · have h8'' : (8 : Int) < (P.length : Int) := by omega
      have HE := hide (show clE S P bs = 4 by rw [HC.out, if_pos (.inr h8)])
      go_enter Tryz.func56, Tryz.ntmps56
      go_wp2
      go_ret
      exact ⟨ret_iv HE.out.symm, (by with_reducible repeat (first | exact Gr.refl _ | assumption | refine Gr.alloc ?_ _ | refine Gr.drewN ?_ _ | refine Gr.drew ?_ | refine Gr.setCell ?_ (by first | (dsimp only; omega) | (simp only [World.size_alloc]; omega) | (refine Gr.size ?_; (repeat (first | exact Gr.refl _ | assumption | refine Gr.alloc ?_ _ | refine Gr.drewN ?_ _ | refine Gr.drew ?_ | refine Gr.trans ?_ (by assumption))); done)) _ | refine Gr.trans ?_ (by assumption)))⟩
    · have h8'' : ¬ ((8 : Int) < (P.length : Int)) := by omega
      have HC2 := hide (show clE S P bs = if fstE (S.map vsE) ≠ 0 then fstE (S.map vsE) else fstE (P.map fun p => vpE p (bs p)) by rw [HC.out, if_neg (by omega)])
      go_enter Tryz.func56, Tryz.ntmps56
      go_wp2
      go_loopw [21] (fun i wr => ∃ k : Nat, k ≤ S.length ∧ i = iv k ∧ Gr w wr ∧ Hid (∀ (j : Nat) (x : ShT), j < k → S[j]? = some x → vsE x = 0)) (fun i _ => S.length - (intOf i).toNat)
      case atStart => exact ⟨0, by omega, rfl, Gr.refl _, hide (fun j x h => absurd h (Nat.not_lt_zero j))⟩
      case round =>
        obtain ⟨k, hk, rfl, g, HK⟩ := hrel
        by_cases hkl : k < S.length
        · obtain ⟨s, hs⟩ : ∃ s, S[k]? = some s := ⟨_, List.getElem?_eq_getElem hkl⟩
          obtain ⟨b, o, hA, ⟨x0, x1, x2, x3, x4, x5, x6, x7⟩, hsw⟩ := (HS.out.gr g).at_ hs
          subst hA
          have hbl : b < wr.heap.size := cell_lt (by rw [x0]; rfl)
          have hk0 : (0 : Int) ≤ (k : Int) := by omega
          have hk1 : (k : Int) < (S.length : Int) := by omega
          have HVS := hide (fun (w' : World) (g' : Gr wr w') => HV.out s w' (hsw.gr g'))
          have HX := hide hs
          clear hs hsw
          by_cases h0 : vsE s = 0
          · have HK' := hide (show ∀ (j : Nat) (x : ShT), j < k + 1 → S[j]? = some x → vsE x = 0 by
              intro j x hj hx
              rcases Nat.lt_or_ge j k with h | h
              · exact HK.out j x h hx
              · obtain rfl : j = k := by omega
                rw [HX.out] at hx
                obtain rfl := Option.some.inj hx
                exact h0)
            rw [h0] at HVS
            clear h0
            go_wp2_with (first | (go_at_call 23; refine (HVS.out _ (by with_reducible repeat (first | exact Gr.refl _ | assumption | refine Gr.alloc ?_ _ | refine Gr.drewN ?_ _ | refine Gr.drew ?_ | refine Gr.setCell ?_ (by first | (dsimp only; omega) | (simp only [World.size_alloc]; omega) | (refine Gr.size ?_; (repeat (first | exact Gr.refl _ | assumption | refine Gr.alloc ?_ _ | refine Gr.drewN ?_ _ | refine Gr.drew ?_ | refine Gr.trans ?_ (by assumption))); done)) _ | refine Gr.trans ?_ (by assumption)))).mono ?_; rintro e w1 ⟨rfl, g1⟩; obtain ⟨X1, Y1, c1, f1⟩ := g1.use; have z1 := g1.size; (try simp only [World.size_alloc, World.size_setCell, World.heap_drewN, Nat.add_one_le_iff] at z1); (try have l0 : w.heap.size < w1.heap.size := by omega); (try have l1 : w.heap.size + 1 < w1.heap.size := by omega); (try have l2 : w.heap.size + 1 + 1 < w1.heap.size := by omega)))
            go_roundw
            case rel => exact ⟨k + 1, by omega, by go_num, (by with_reducible repeat (first | exact Gr.refl _ | assumption | refine Gr.alloc ?_ _ | refine Gr.drewN ?_ _ | refine Gr.drew ?_ | refine Gr.setCell ?_ (by first | (dsimp only; omega) | (simp only [World.size_alloc]; omega) | (refine Gr.size ?_; (repeat (first | exact Gr.refl _ | assumption | refine Gr.alloc ?_ _ | refine Gr.drewN ?_ _ | refine Gr.drew ?_ | refine Gr.trans ?_ (by assumption))); done)) _ | refine Gr.trans ?_ (by assumption))), HK'⟩
            case measure => simp only [intOf]; omega
          · have HE := hide (show clE S P bs = vsE s by
              have := fstE_hit (f := vsE) HX.out h0 HK.out
              rw [HC2.out, this, if_pos h0])
            obtain ⟨E, hE⟩ : ∃ E, vsE s = E := ⟨_, rfl⟩
            rw [hE] at HVS HE h0
            have h1 : (E != 0) = true := by simpa using h0
            clear hE
            go_wp2_with (first | (go_at_call 23; refine (HVS.out _ (by with_reducible repeat (first | exact Gr.refl _ | assumption | refine Gr.alloc ?_ _ | refine Gr.drewN ?_ _ | refine Gr.drew ?_ | refine Gr.setCell ?_ (by first | (dsimp only; omega) | (simp only [World.size_alloc]; omega) | (refine Gr.size ?_; (repeat (first | exact Gr.refl _ | assumption | refine Gr.alloc ?_ _ | refine Gr.drewN ?_ _ | refine Gr.drew ?_ | refine Gr.trans ?_ (by assumption))); done)) _ | refine Gr.trans ?_ (by assumption)))).mono ?_; rintro e w1 ⟨rfl, g1⟩; obtain ⟨X1, Y1, c1, f1⟩ := g1.use; have z1 := g1.size; (try simp only [World.size_alloc, World.size_setCell, World.heap_drewN, Nat.add_one_le_iff] at z1); (try have l0 : w.heap.size < w1.heap.size := by omega); (try have l1 : w.heap.size + 1 < w1.heap.size := by omega); (try have l2 : w.heap.size + 1 + 1 < w1.heap.size := by omega)))
            go_ret
            exact ⟨ret_iv HE.out.symm, (by with_reducible repeat (first | exact Gr.refl _ | assumption | refine Gr.alloc ?_ _ | refine Gr.drewN ?_ _ | refine Gr.drew ?_ | refine Gr.setCell ?_ (by first | (dsimp only; omega) | (simp only [World.size_alloc]; omega) | (refine Gr.size ?_; (repeat (first | exact Gr.refl _ | assumption | refine Gr.alloc ?_ _ | refine Gr.drewN ?_ _ | refine Gr.drew ?_ | refine Gr.trans ?_ (by assumption))); done)) _ | refine Gr.trans ?_ (by assumption)))⟩
        · obtain rfl : k = S.length := by omega
          have HC3 := hide (show clE S P bs = fstE (P.map fun p => vpE p (bs p)) by
            have := fstE_none (f := vsE) HK.out
            rw [HC2.out, this, if_neg (by decide)])
          clear HK
          go_wp2
          go_loopw [33] (fun i wr => ∃ k : Nat, k ≤ P.length ∧ i = iv k ∧ Gr w wr ∧ Hid (∀ (j : Nat) (x : Pc), j < k → P[j]? = some x → vpE x (bs x) = 0)) (fun i _ => P.length - (intOf i).toNat)
          case atStart => exact ⟨0, by omega, rfl, g, hide (fun j x h => absurd h (Nat.not_lt_zero j))⟩
          case round =>
            clear g
            obtain ⟨k, hk, rfl, g, HK⟩ := hrel
            by_cases hkl : k < P.length
            · obtain ⟨s, hs⟩ : ∃ s, P[k]? = some s := ⟨_, List.getElem?_eq_getElem hkl⟩
              obtain ⟨b, o, hA, ⟨x0, x1, x2, x3, x4, x5, x6⟩, hsw⟩ := (HP.out.gr g).at_ hs
              subst hA
              have hbl : b < wr.heap.size := cell_lt (by rw [x0]; rfl)
              have hk0 : (0 : Int) ≤ (k : Int) := by omega
              have hk1 : (k : Int) < (P.length : Int) := by omega
              have HVS := hide (fun (w' : World) (g' : Gr wr w') => HQ.out s (List.mem_of_getElem? hs) w' (hsw.gr g'))
              have HX := hide hs
              clear hs hsw
              by_cases h0 : vpE s (bs s) = 0
              · have HK' := hide (show ∀ (j : Nat) (x : Pc), j < k + 1 → P[j]? = some x → vpE x (bs x) = 0 by
                  intro j x hj hx
                  rcases Nat.lt_or_ge j k with h | h
                  · exact HK.out j x h hx
                  · obtain rfl : j = k := by omega
                    rw [HX.out] at hx
                    obtain rfl := Option.some.inj hx
                    exact h0)
                rw [h0] at HVS
                clear h0
                go_wp2_with (first | (go_at_call 25; refine (HVS.out _ (by with_reducible repeat (first | exact Gr.refl _ | assumption | refine Gr.alloc ?_ _ | refine Gr.drewN ?_ _ | refine Gr.drew ?_ | refine Gr.setCell ?_ (by first | (dsimp only; omega) | (simp only [World.size_alloc]; omega) | (refine Gr.size ?_; (repeat (first | exact Gr.refl _ | assumption | refine Gr.alloc ?_ _ | refine Gr.drewN ?_ _ | refine Gr.drew ?_ | refine Gr.trans ?_ (by assumption))); done)) _ | refine Gr.trans ?_ (by assumption)))).mono ?_; rintro e w1 ⟨rfl, g1⟩; obtain ⟨X1, Y1, c1, f1⟩ := g1.use; have z1 := g1.size; (try simp only [World.size_alloc, World.size_setCell, World.heap_drewN, Nat.add_one_le_iff] at z1); (try have l0 : w.heap.size < w1.heap.size := by omega); (try have l1 : w.heap.size + 1 < w1.heap.size := by omega); (try have l2 : w.heap.size + 1 + 1 < w1.heap.size := by omega)))
                go_roundw
                case rel => exact ⟨k + 1, by omega, by go_num, (by with_reducible repeat (first | exact Gr.refl _ | assumption | refine Gr.alloc ?_ _ | refine Gr.drewN ?_ _ | refine Gr.drew ?_ | refine Gr.setCell ?_ (by first | (dsimp only; omega) | (simp only [World.size_alloc]; omega) | (refine Gr.size ?_; (repeat (first | exact Gr.refl _ | assumption | refine Gr.alloc ?_ _ | refine Gr.drewN ?_ _ | refine Gr.drew ?_ | refine Gr.trans ?_ (by assumption))); done)) _ | refine Gr.trans ?_ (by assumption))), HK'⟩
                case measure => simp only [intOf]; omega
              · have HE := hide (show clE S P bs = vpE s (bs s) by
                  have := fstE_hit (f := fun p => vpE p (bs p)) HX.out h0 HK.out
                  rw [HC3.out, this])
                obtain ⟨E, hE⟩ : ∃ E, vpE s (bs s) = E := ⟨_, rfl⟩
                rw [hE] at HVS HE h0
                have h1 : (E != 0) = true := by simpa using h0
                clear hE
                go_wp2_with (first | (go_at_call 25; refine (HVS.out _ (by with_reducible repeat (first | exact Gr.refl _ | assumption | refine Gr.alloc ?_ _ | refine Gr.drewN ?_ _ | refine Gr.drew ?_ | refine Gr.setCell ?_ (by first | (dsimp only; omega) | (simp only [World.size_alloc]; omega) | (refine Gr.size ?_; (repeat (first | exact Gr.refl _ | assumption | refine Gr.alloc ?_ _ | refine Gr.drewN ?_ _ | refine Gr.drew ?_ | refine Gr.trans ?_ (by assumption))); done)) _ | refine Gr.trans ?_ (by assumption)))).mono ?_; rintro e w1 ⟨rfl, g1⟩; obtain ⟨X1, Y1, c1, f1⟩ := g1.use; have z1 := g1.size; (try simp only [World.size_alloc, World.size_setCell, World.heap_drewN, Nat.add_one_le_iff] at z1); (try have l0 : w.heap.size < w1.heap.size := by omega); (try have l1 : w.heap.size + 1 < w1.heap.size := by omega); (try have l2 : w.heap.size + 1 + 1 < w1.heap.size := by omega)))
                go_ret
                exact ⟨ret_iv HE.out.symm, (by with_reducible repeat (first | exact Gr.refl _ | assumption | refine Gr.alloc ?_ _ | refine Gr.drewN ?_ _ | refine Gr.drew ?_ | refine Gr.setCell ?_ (by first | (dsimp only; omega) | (simp only [World.size_alloc]; omega) | (refine Gr.size ?_; (repeat (first | exact Gr.refl _ | assumption | refine Gr.alloc ?_ _ | refine Gr.drewN ?_ _ | refine Gr.drew ?_ | refine Gr.trans ?_ (by assumption))); done)) _ | refine Gr.trans ?_ (by assumption)))⟩
            · obtain rfl : k = P.length := by omega
              have HE := hide (show clE S P bs = 0 by
                have := fstE_none (f := fun p => vpE p (bs p)) HK.out
                rw [HC3.out, this])
              go_wp2
              go_ret
              exact ⟨ret_iv HE.out.symm, (by with_reducible repeat (first | exact Gr.refl _ | assumption | refine Gr.alloc ?_ _ | refine Gr.drewN ?_ _ | refine Gr.drew ?_ | refine Gr.setCell ?_ (by first | (dsimp only; omega) | (simp only [World.size_alloc]; omega) | (refine Gr.size ?_; (repeat (first | exact Gr.refl _ | assumption | refine Gr.alloc ?_ _ | refine Gr.drewN ?_ _ | refine Gr.drew ?_ | refine Gr.trans ?_ (by assumption))); done)) _ | refine Gr.trans ?_ (by assumption)))⟩
/-- the error of check -/
def ckE (S : List ShT) (P : List Pc) (bs : Pc → Bool) (t : St) : Int := if clE S P bs ≠ 0 then clE S P bs else if vtB t = true then 0 else 1
set_option maxHeartbeats 4000000 in
set_option maxRecDepth 100000 in
theorem check_any6 (A : Option Addr) (c : Nat) (S : List ShT) (B : Option Addr) (d : Nat) (P : List Pc) (bs : Pc → Bool) (t : St) (w : World) (hS : SlS w A c S) (hP : SlP w B d P) (hb : CoBs P bs) :
    Calls Tryz.prog 33 #[.slice A S.length c, .slice B P.length d, stvv t] w fun e w' => e = .returned (iv (ckE S P bs t)) ∧ Gr w w' := by
  have HL := hide (fun (w' : World) (g : Gr w w') => checkLists_any A c S B d P bs w' (hS.gr g) (hP.gr g) hb)
  have HT := hide (fun (w' : World) => ValidSettings_any t w')
  have HE := hide (show ckE S P bs t = if clE S P bs ≠ 0 then clE S P bs else if vtB t = true then 0 else 1 from rfl)
  clear hS hP hb
  obtain ⟨g, m, cm⟩ := t
  generalize ckE _ _ _ _ = E at *
  generalize clE _ _ _ = E1 at *
  generalize vtB _ = E2 at *
  by_cases h0 : E1 = 0
  · subst h0
    cases E2 with
    | true =>
      have HF := hide (show E = 0 by rw [HE.out]; simp)
      go_enter Tryz.func33, Tryz.ntmps33
      go_wp2_with (first | (go_at_call 56; refine (HL.out _ (by with_reducible repeat (first | exact Gr.refl _ | assumption | refine Gr.alloc ?_ _ | refine Gr.drewN ?_ _ | refine Gr.drew ?_ | refine Gr.setCell ?_ (by first | (dsimp only; omega) | (simp only [World.size_alloc]; omega) | (refine Gr.size ?_; (repeat (first | exact Gr.refl _ | assumption | refine Gr.alloc ?_ _ | refine Gr.drewN ?_ _ | refine Gr.drew ?_ | refine Gr.trans ?_ (by assumption))); done)) _ | refine Gr.trans ?_ (by assumption)))).mono ?_; rintro e w1 ⟨rfl, g1⟩; obtain ⟨X1, Y1, c1, f1⟩ := g1.use; have z1 := g1.size; (try simp only [World.size_alloc, World.size_setCell, World.heap_drewN, Nat.add_one_le_iff] at z1); (try have l0 : w.heap.size < w1.heap.size := by omega); (try have l1 : w.heap.size + 1 < w1.heap.size := by omega); (try have l2 : w.heap.size + 1 + 1 < w1.heap.size := by omega)) | (go_at_call 26; refine (HT.out _).mono ?_; rintro e w1 ⟨rfl, g1⟩; obtain ⟨X1, Y1, c1, f1⟩ := g1.use; have z1 := g1.size; (try simp only [World.size_alloc, World.size_setCell, World.heap_drewN, Nat.add_one_le_iff] at z1); (try have l0 : w.heap.size < w1.heap.size := by omega); (try have l1 : w.heap.size + 1 < w1.heap.size := by omega); (try have l2 : w.heap.size + 1 + 1 < w1.heap.size := by omega)))
      go_ret
      exact ⟨ret_iv HF.out.symm, (by with_reducible repeat (first | exact Gr.refl _ | assumption | refine Gr.alloc ?_ _ | refine Gr.drewN ?_ _ | refine Gr.drew ?_ | refine Gr.setCell ?_ (by first | (dsimp only; omega) | (simp only [World.size_alloc]; omega) | (refine Gr.size ?_; (repeat (first | exact Gr.refl _ | assumption | refine Gr.alloc ?_ _ | refine Gr.drewN ?_ _ | refine Gr.drew ?_ | refine Gr.trans ?_ (by assumption))); done)) _ | refine Gr.trans ?_ (by assumption)))⟩
    | false =>
      have HF := hide (show E = 1 by rw [HE.out]; simp)
      go_enter Tryz.func33, Tryz.ntmps33
      go_wp2_with (first | (go_at_call 56; refine (HL.out _ (by with_reducible repeat (first | exact Gr.refl _ | assumption | refine Gr.alloc ?_ _ | refine Gr.drewN ?_ _ | refine Gr.drew ?_ | refine Gr.setCell ?_ (by first | (dsimp only; omega) | (simp only [World.size_alloc]; omega) | (refine Gr.size ?_; (repeat (first | exact Gr.refl _ | assumption | refine Gr.alloc ?_ _ | refine Gr.drewN ?_ _ | refine Gr.drew ?_ | refine Gr.trans ?_ (by assumption))); done)) _ | refine Gr.trans ?_ (by assumption)))).mono ?_; rintro e w1 ⟨rfl, g1⟩; obtain ⟨X1, Y1, c1, f1⟩ := g1.use; have z1 := g1.size; (try simp only [World.size_alloc, World.size_setCell, World.heap_drewN, Nat.add_one_le_iff] at z1); (try have l0 : w.heap.size < w1.heap.size := by omega); (try have l1 : w.heap.size + 1 < w1.heap.size := by omega); (try have l2 : w.heap.size + 1 + 1 < w1.heap.size := by omega)) | (go_at_call 26; refine (HT.out _).mono ?_; rintro e w1 ⟨rfl, g1⟩; obtain ⟨X1, Y1, c1, f1⟩ := g1.use; have z1 := g1.size; (try simp only [World.size_alloc, World.size_setCell, World.heap_drewN, Nat.add_one_le_iff] at z1); (try have l0 : w.heap.size < w1.heap.size := by omega); (try have l1 : w.heap.size + 1 < w1.heap.size := by omega); (try have l2 : w.heap.size + 1 + 1 < w1.heap.size := by omega)))
      go_ret
      exact ⟨ret_iv HF.out.symm, (by with_reducible repeat (first | exact Gr.refl _ | assumption | refine Gr.alloc ?_ _ | refine Gr.drewN ?_ _ | refine Gr.drew ?_ | refine Gr.setCell ?_ (by first | (dsimp only; omega) | (simp only [World.size_alloc]; omega) | (refine Gr.size ?_; (repeat (first | exact Gr.refl _ | assumption | refine Gr.alloc ?_ _ | refine Gr.drewN ?_ _ | refine Gr.drew ?_ | refine Gr.trans ?_ (by assumption))); done)) _ | refine Gr.trans ?_ (by assumption)))⟩
  · have h1 : (E1 != 0) = true := by simpa using h0
    have HF := hide (show E = E1 by rw [HE.out]; simp [h0])
    go_enter Tryz.func33, Tryz.ntmps33
    go_wp2_with (first | (go_at_call 56; refine (HL.out _ (by with_reducible repeat (first | exact Gr.refl _ | assumption | refine Gr.alloc ?_ _ | refine Gr.drewN ?_ _ | refine Gr.drew ?_ | refine Gr.setCell ?_ (by first | (dsimp only; omega) | (simp only [World.size_alloc]; omega) | (refine Gr.size ?_; (repeat (first | exact Gr.refl _ | assumption | refine Gr.alloc ?_ _ | refine Gr.drewN ?_ _ | refine Gr.drew ?_ | refine Gr.trans ?_ (by assumption))); done)) _ | refine Gr.trans ?_ (by assumption)))).mono ?_; rintro e w1 ⟨rfl, g1⟩; obtain ⟨X1, Y1, c1, f1⟩ := g1.use; have z1 := g1.size; (try simp only [World.size_alloc, World.size_setCell, World.heap_drewN, Nat.add_one_le_iff] at z1); (try have l0 : w.heap.size < w1.heap.size := by omega); (try have l1 : w.heap.size + 1 < w1.heap.size := by omega); (try have l2 : w.heap.size + 1 + 1 < w1.heap.size := by omega)) | (go_at_call 26; refine (HT.out _).mono ?_; rintro e w1 ⟨rfl, g1⟩; obtain ⟨X1, Y1, c1, f1⟩ := g1.use; have z1 := g1.size; (try simp only [World.size_alloc, World.size_setCell, World.heap_drewN, Nat.add_one_le_iff] at z1); (try have l0 : w.heap.size < w1.heap.size := by omega); (try have l1 : w.heap.size + 1 < w1.heap.size := by omega); (try have l2 : w.heap.size + 1 + 1 < w1.heap.size := by omega)))
    go_ret
    exact ⟨ret_iv HF.out.symm, (by with_reducible repeat (first | exact Gr.refl _ | assumption | refine Gr.alloc ?_ _ | refine Gr.drewN ?_ _ | refine Gr.drew ?_ | refine Gr.setCell ?_ (by first | (dsimp only; omega) | (simp only [World.size_alloc]; omega) | (refine Gr.size ?_; (repeat (first | exact Gr.refl _ | assumption | refine Gr.alloc ?_ _ | refine Gr.drewN ?_ _ | refine Gr.drew ?_ | refine Gr.trans ?_ (by assumption))); done)) _ | refine Gr.trans ?_ (by assumption)))⟩
end RG
end Go.Proofs.YtddhaiaapomdjaaGreat
set_option linter.unusedVariables false
set_option linter.unusedSimpArgs false
namespace Go.Proofs.YtddhaiaapomdjaaGreat
set_option linter.unusedVariables false
set_option linter.unusedSimpArgs false
open Go Go.ChangeShapes Go.WideShapes Go.ChangeAt Go.RowKit Go.Deep

namespace RG
abbrev nsv (A : Option Addr) (c n : Nat) (B : Option Addr) (d m : Nat) (t : St) (P T : Nat) : Value := .agg #[.slice A n c, .slice B m d, iv t.g, iv t.m, .bool t.c, .slice (some ⟨P, 0, none⟩) m m, .slice (some ⟨T, 0, none⟩) n n]
theorem elBool : ElT Tryz.prog 72 4 1 1 := elT_of (.bool false) (by kernel_rfl) (by kernel_rfl) rfl
theorem info_of {P : Program} {e : TypeId} {z : Value} {k b : Nat} (h : (P.info? e).map (fun i => (i.zero, i.size, i.bytes)) = some (some z, k, b)) : ∃ i : TypeInfo, P.info? e = some i ∧ i.zero = some z ∧ i.size = k ∧ i.bytes = b := by
  cases hi : P.info? e with
  | none => rw [hi] at h; cases h
  | some i =>
    rw [hi] at h
    simp only [Option.map_some, Option.some.injEq, Prod.mk.injEq] at h
    exact ⟨i, rfl, h.1, h.2.1, h.2.2⟩
theorem made_row (w w' : World) (x : Value) (n : Nat) (t : TypeId) (g : Gr (w.alloc (.cells (madeCells #[x] n) t)) w') : (∀ i, i < n → w'.cell? ⟨w.heap.size, i, none⟩ = some x) ∧ (∀ i, w'.frozen? ⟨w.heap.size, i, none⟩ = false) ∧ w.heap.size < w'.heap.size := by
  have hl : w.heap.size < (w.alloc (.cells (madeCells #[x] n) t)).heap.size := by simp
  obtain ⟨a, b, c⟩ := (Made.new w (madeCells #[x] n) t).gr g
  refine ⟨fun i hi => ?_, c, a⟩
  rw [b i, ← Array.getElem?_toList, toList_madeCells_one, List.getElem?_replicate, if_pos hi]
theorem two_rows (w V : World) (x y : Value) (m n s : Nat) (t1 t2 : TypeId) (hs : V.heap.size = s) (g : Gr w V) (h0 : w.heap.size ≤ s) (W : World) (hW : W = ((V.alloc (.cells (madeCells #[x] m) t1)).alloc (.cells (madeCells #[y] n) t2)).drew) :
    ((∀ i, i < m → W.cell? ⟨s, i, none⟩ = some x) ∧ ∀ i, W.frozen? ⟨s, i, none⟩ = false) ∧ ((∀ i, i < n → W.cell? ⟨s + 1, i, none⟩ = some y) ∧ ∀ i, W.frozen? ⟨s + 1, i, none⟩ = false) ∧ (s < W.heap.size ∧ s + 1 < W.heap.size) ∧ Gr w W := by
  subst hW hs
  obtain ⟨a1, a2, a3⟩ := made_row V _ x m t1 (show Gr _ ((V.alloc (.cells (madeCells #[x] m) t1)).alloc (.cells (madeCells #[y] n) t2)).drew from Gr.drew (Gr.alloc (Gr.refl _) _))
  obtain ⟨b1, b2, b3⟩ := made_row (V.alloc (.cells (madeCells #[x] m) t1)) _ y n t2 (show Gr _ ((V.alloc (.cells (madeCells #[x] m) t1)).alloc (.cells (madeCells #[y] n) t2)).drew from Gr.drew (Gr.refl _))
  rw [World.size_alloc] at b1 b2 b3
  exact ⟨⟨a1, a2⟩, ⟨b1, b2⟩, ⟨a3, b3⟩, g.trans (Gr.drew (Gr.alloc (Gr.alloc (Gr.refl _) _) _))⟩
theorem elRRR : ElT Tryz.prog 73 25 1 24 := elT_of (.slice none 0 0) (by kernel_rfl) (by kernel_rfl) rfl
set_option maxHeartbeats 4000000 in
set_option maxRecDepth 100000 in
theorem newNesting_any (A : Option Addr) (c n : Nat) (B : Option Addr) (d m : Nat) (t : St) (w : World) (hn : n ≤ 4) (hm : m ≤ 8) :
    Calls Tryz.prog 34 #[.slice A n c, .slice B m d, stvv t] w fun e w' => ∃ P T : Nat, e = .returned (nsv A c n B d m t P T) ∧ ((∀ i, i < m → w'.cell? ⟨P, i, none⟩ = some (.bool false)) ∧ (∀ i, w'.frozen? ⟨P, i, none⟩ = false)) ∧ ((∀ i, i < n → w'.cell? ⟨T, i, none⟩ = some (.slice none 0 0)) ∧ (∀ i, w'.frozen? ⟨T, i, none⟩ = false)) ∧ (w.heap.size ≤ P ∧ w.heap.size ≤ T ∧ P ≠ T ∧ P < w'.heap.size ∧ T < w'.heap.size) ∧ Gr w w' := by
  obtain ⟨ib, hib, hzb, hsb, hbb⟩ := info_of (P := Tryz.prog) (e := 4) (z := .bool false) (k := 1) (b := 1) (by kernel_rfl)
  obtain ⟨ir, hir, hzr, hsr, hbr⟩ := info_of (P := Tryz.prog) (e := 25) (z := .slice none 0 0) (k := 1) (b := 24) (by kernel_rfl)
  have HM1 : ∀ w', (Instr.makeSlice 72 (.int .i64 (m : Int)) (.int .i64 (m : Int))).run Tryz.prog w' = .ok (.slice (some ⟨w'.heap.size, 0, none⟩) m m) (w'.alloc (.cells (madeCells #[.bool false] m) 4)) := fun w' => by
    have h := run_make (P := Tryz.prog) w' 72 4 ib (.bool false) elBool.und hib hzb .i64 .i64 m m (by omega) (Int.le_refl _) (by rw [hbb]; omega) (by omega)
    rw [hsb, Nat.mul_one] at h
    simpa [Value.cells] using h
  have HM2 : ∀ w', (Instr.makeSlice 73 (.int .i64 (n : Int)) (.int .i64 (n : Int))).run Tryz.prog w' = .ok (.slice (some ⟨w'.heap.size, 0, none⟩) n n) (w'.alloc (.cells (madeCells #[.slice none 0 0] n) 25)) := fun w' => by
    have h := run_make (P := Tryz.prog) w' 73 25 ir (.slice none 0 0) elRRR.und hir hzr .i64 .i64 n n (by omega) (Int.le_refl _) (by rw [hbr]; omega) (by omega)
    rw [hsr, Nat.mul_one] at h
    simpa [Value.cells] using h
  clear hib hzb hsb hbb hir hzr hsr hbr
  obtain ⟨g, mm, cm⟩ := t
  go_enter Tryz.func34, Tryz.ntmps34
  go_wp2_with fail
  go_region
  · go_wp2
    refine bodyPost_ret (v := nsv A c n B d m ⟨g, mm, cm⟩ (w.heap.size + 1 + 1) (w.heap.size + 1 + 1 + 1)) (by simp [results, Tryz.results34, go_sem, *]) rfl ?_
    obtain ⟨h1, h2, h3, h4⟩ := two_rows w ((w.alloc (.cells #[iv g, iv mm, .bool cm] 29)).alloc (.cells #[.slice A n c, .slice B m d, iv g, iv mm, .bool cm, .slice (some ⟨w.heap.size + 1 + 1, 0, none⟩) m m, .slice (some ⟨w.heap.size + 1 + 1 + 1, 0, none⟩) n n] 75)) (.bool false) (.slice none 0 0) m n (w.heap.size + 1 + 1) 4 25 (by simp) (by with_reducible repeat (first | exact Gr.refl _ | assumption | refine Gr.alloc ?_ _ | refine Gr.drewN ?_ _ | refine Gr.drew ?_ | refine Gr.setCell ?_ (by first | (dsimp only; omega) | (simp only [World.size_alloc]; omega) | (refine Gr.size ?_; (repeat (first | exact Gr.refl _ | assumption | refine Gr.alloc ?_ _ | refine Gr.drewN ?_ _ | refine Gr.drew ?_ | refine Gr.trans ?_ (by assumption))); done)) _ | refine Gr.trans ?_ (by assumption))) (by omega) _ rfl
    exact ⟨_, _, rfl, h1, h2, ⟨by omega, by omega, by omega, h3.1, h3.2⟩, h4⟩
  · go_wp2
    refine bodyPost_ret (v := nsv A c n B d m ⟨g, mm, cm⟩ (w.heap.size + 1 + 1 + 1) (w.heap.size + 1 + 1)) (by simp [results, Tryz.results34, go_sem, *]) rfl ?_
    obtain ⟨h1, h2, h3, h4⟩ := two_rows w ((w.alloc (.cells #[iv g, iv mm, .bool cm] 29)).alloc (.cells #[.slice A n c, .slice B m d, iv g, iv mm, .bool cm, .slice (some ⟨w.heap.size + 1 + 1 + 1, 0, none⟩) m m, .slice (some ⟨w.heap.size + 1 + 1, 0, none⟩) n n] 75)) (.slice none 0 0) (.bool false) n m (w.heap.size + 1 + 1) 25 4 (by simp) (by with_reducible repeat (first | exact Gr.refl _ | assumption | refine Gr.alloc ?_ _ | refine Gr.drewN ?_ _ | refine Gr.drew ?_ | refine Gr.setCell ?_ (by first | (dsimp only; omega) | (simp only [World.size_alloc]; omega) | (refine Gr.size ?_; (repeat (first | exact Gr.refl _ | assumption | refine Gr.alloc ?_ _ | refine Gr.drewN ?_ _ | refine Gr.drew ?_ | refine Gr.trans ?_ (by assumption))); done)) _ | refine Gr.trans ?_ (by assumption))) (by omega) _ rfl
    exact ⟨_, _, rfl, h2, h1, ⟨by omega, by omega, by omega, h3.2, h3.1⟩, h4⟩
end RG
end Go.Proofs.YtddhaiaapomdjaaGreat
set_option linter.unusedVariables false
set_option linter.unusedSimpArgs false
namespace Go.Proofs.YtddhaiaapomdjaaGreat
set_option linter.unusedVariables false
set_option linter.unusedSimpArgs false
open Go Go.ChangeShapes Go.WideShapes Go.ChangeAt Go.RowKit Go.Deep

namespace RG
/-- the lists of rectangles that are taken on a sheet, in a row of the call's own -/
structure Tk where
  D : Option Addr
  q : Nat
  L : List RS
/-- what has been placed -/
structure NsS (w : World) (lo P T : Nat) (pl : List Bool) (tk : List Tk) : Prop where
  p : ∀ (i : Nat) (b : Bool), pl[i]? = some b → w.cell? ⟨P, i, none⟩ = some (.bool b)
  pf : ∀ i, w.frozen? ⟨P, i, none⟩ = false
  t : ∀ (k : Nat) (x : Tk), tk[k]? = some x → w.cell? ⟨T, k, none⟩ = some (.slice x.D x.L.length x.q)
  tf : ∀ i, w.frozen? ⟨T, i, none⟩ = false
  ow : ∀ (k : Nat) (x : Tk), tk[k]? = some x → OwnL w lo 22 1 rsL (.slice x.D x.L.length x.q) x.L
  el : ∀ (k : Nat) (x : Tk), tk[k]? = some x → ∀ y ∈ x.L, SlR w y.A y.c y.l
  far : ∀ (k : Nat) (x : Tk), tk[k]? = some x → ∀ y ∈ x.L, y.l ≠ [] → ∀ a, y.A = some a → (a.block ≠ P ∧ a.block ≠ T) ∧ ∀ (j : Nat) (z : Tk), tk[j]? = some z → ∀ b, z.D = some b → a.block ≠ b.block
  dj : ∀ (k : Nat) (x : Tk) (j : Nat) (z : Tk), tk[k]? = some x → tk[j]? = some z → k ≠ j → ∀ a b, x.D = some a → z.D = some b → a.block ≠ b.block
  lp : P < lo
  lt : T < lo
  sz : lo ≤ w.heap.size
  ne : P ≠ T
theorem NsS.gr {w w' : World} {lo P T : Nat} {pl : List Bool} {tk : List Tk} (h : NsS w lo P T pl tk) (g : Gr w w') : NsS w' lo P T pl tk := by
  have hp := h.lp
  have ht := h.lt
  have hs := h.sz
  exact ⟨fun i b hb => (g.cell _ _ (by omega)).trans (h.p i b hb), fun i => (g.frozen _ _ (by omega)).trans (h.pf i), fun k x hx => (g.cell _ _ (by omega)).trans (h.t k x hx), fun i => (g.frozen _ _ (by omega)).trans (h.tf i), fun k x hx => (h.ow k x hx).gr g, fun k x hx y hy => (h.el k x hx y hy).gr g, h.far, h.dj, hp, ht, Nat.le_trans hs g.size, h.ne⟩
theorem NsS.slrr {w : World} {lo P T : Nat} {pl : List Bool} {tk : List Tk} (h : NsS w lo P T pl tk) {k : Nat} {x : Tk} (hx : tk[k]? = some x) : SlRR w x.D x.q x.L := by
  obtain ⟨_, h1, h2, h3⟩ := OwnL.rd (c := rsL) (fun _ => rfl) (h.ow k x hx)
  exact ⟨h1, h.el k x hx, h2, by unfold maxLen at h3; omega⟩
/-- rectangles are clear of lists -/
def icB (t : St) (l : List Rc) (L : List RS) : Bool := L.all fun y => !npB (ucB t) l y.l
set_option maxHeartbeats 4000000 in
set_option maxRecDepth 100000 in
theorem isClear_any (SA : Option Addr) (sc sn : Nat) (PA : Option Addr) (pc pn : Nat) (t : St) (P T : Nat) (k : Nat) (x : Tk) (A : Option Addr) (c : Nat) (l : List Rc) (w : World) (ht : w.cell? ⟨T, k, none⟩ = some (.slice x.D x.L.length x.q)) (hL : SlRR w x.D x.q x.L) (hl : SlR w A c l) (hk : k < sn) (hs : sn ≤ 4) :
    Calls Tryz.prog 81 #[nsv SA sc sn PA pc pn t P T, iv k, .slice A l.length c] w fun e w' => e = .returned (.bool (icB t l x.L)) ∧ Gr w w' := by
  have n1 := hL.cap
  have n2 := hL.capB
  have HL := hide hL
  have HC := hide (fun (B : Option Addr) (d : Nat) (m : List Rc) (w' : World) (g : Gr w w') (hm : SlR w' B d m) => Clear_any A c l B d m t w' (hl.gr g) hm)
  have hTl : T < w.heap.size := cell_lt (by rw [ht]; rfl)
  have hk0 : (0 : Int) ≤ (k : Int) := by omega
  have hk1 : (k : Int) < (sn : Int) := by omega
  obtain ⟨D, q, L⟩ := x
  dsimp only at ht n1 n2 HL ⊢
  have HY := hide (show ∀ (j : Nat) (y : RS), L[j]? = some y → npB (ucB t) l y.l = true → icB t l L = false from fun j y hy hb => alls_no hy (by rw [hb]; rfl))
  have HN := hide (show (∀ (j : Nat) (y : RS), j < L.length → L[j]? = some y → npB (ucB t) l y.l = false) → icB t l L = true from fun h => alls_yes (fun j y hj hy => by rw [h j y hj hy]; rfl))
  clear hL hl
  obtain ⟨g, m, cm⟩ := t
  have g0 : Gr w (w.alloc (.cells #[.slice SA sn sc, .slice PA pn pc, iv g, iv m, .bool cm, .slice (some ⟨P, 0, none⟩) pn pn, .slice (some ⟨T, 0, none⟩) sn sn] 75)) := Gr.alloc (Gr.refl _) _
  have M1 := hide (Made.new w #[.slice SA sn sc, .slice PA pn pc, iv g, iv m, .bool cm, .slice (some ⟨P, 0, none⟩) pn pn, .slice (some ⟨T, 0, none⟩) sn sn] 75)
  go_enter Tryz.func81, Tryz.ntmps81
  go_wp2
  generalize w.alloc (.cells #[.slice SA sn sc, .slice PA pn pc, iv g, iv m, .bool cm, .slice (some ⟨P, 0, none⟩) pn pn, .slice (some ⟨T, 0, none⟩) sn sn] 75) = w1 at *
  go_loopw [15] (fun i wr => ∃ j : Nat, j ≤ L.length ∧ i = iv j ∧ Gr w1 wr ∧ Hid (∀ (i : Nat) (y : RS), i < j → L[i]? = some y → npB (ucB ⟨g, m, cm⟩) l y.l = false)) (fun i _ => L.length - (intOf i).toNat)
  case atStart => exact ⟨0, by omega, rfl, Gr.refl _, hide (fun j y h => absurd h (Nat.not_lt_zero j))⟩
  case round =>
    obtain ⟨j, hj, rfl, gw, HS⟩ := hrel
    obtain ⟨e1, q0, _⟩ := M1.out.gr gw
    have z2 := q0 2
    have z3 := q0 3
    have z4 := q0 4
    clear q0
    by_cases hjl : j < L.length
    · obtain ⟨XA, xc, xl, hx⟩ : ∃ XA xc xl, L[j]? = some ⟨XA, xc, xl⟩ := ⟨_, _, _, List.getElem?_eq_getElem hjl⟩
      obtain ⟨b, o, hA, x0, hm⟩ := (HL.out.gr (g0.trans gw)).at_ hx
      subst hA
      dsimp only at x0 hm
      have hbl : b < wr.heap.size := cell_lt (by rw [x0]; rfl)
      have HX := hide hx
      have hj0 : (0 : Int) ≤ (j : Int) := by omega
      have hj1 : (j : Int) < (L.length : Int) := by omega
      have HCC := hide (HC.out XA xc xl wr (g0.trans gw) hm)
      clear hx hm
      cases hv : npB (ucB ⟨g, m, cm⟩) l xl with
      | true =>
        have HE := hide (HY.out j _ HX.out hv)
        rw [hv] at HCC
        clear hv
        go_wp2_with (first | (go_at_call 123; refine (HCC.out).mono ?_; rintro e w1 ⟨rfl, g1⟩; obtain ⟨X1, Y1, c1, f1⟩ := g1.use; have z1 := g1.size; (try simp only [World.size_alloc, World.size_setCell, World.heap_drewN, Nat.add_one_le_iff] at z1); (try have l0 : w.heap.size < w1.heap.size := by omega); (try have l1 : w.heap.size + 1 < w1.heap.size := by omega); (try have l2 : w.heap.size + 1 + 1 < w1.heap.size := by omega)))
        go_ret
        exact ⟨ret_bool HE.out.symm, (by with_reducible repeat (first | exact Gr.refl _ | assumption | refine Gr.alloc ?_ _ | refine Gr.drewN ?_ _ | refine Gr.drew ?_ | refine Gr.setCell ?_ (by first | (dsimp only; omega) | (simp only [World.size_alloc]; omega) | (refine Gr.size ?_; (repeat (first | exact Gr.refl _ | assumption | refine Gr.alloc ?_ _ | refine Gr.drewN ?_ _ | refine Gr.drew ?_ | refine Gr.trans ?_ (by assumption))); done)) _ | refine Gr.trans ?_ (by assumption)))⟩
      | false =>
        have HS' := hide (show ∀ (i : Nat) (y : RS), i < j + 1 → L[i]? = some y → npB (ucB ⟨g, m, cm⟩) l y.l = false by
          intro i y hi hy
          rcases Nat.lt_or_ge i j with h | h
          · exact HS.out i y h hy
          · obtain rfl : i = j := by omega
            rw [HX.out] at hy
            obtain rfl := Option.some.inj hy
            exact hv)
        rw [hv] at HCC
        clear hv
        go_wp2_with (first | (go_at_call 123; refine (HCC.out).mono ?_; rintro e w1 ⟨rfl, g1⟩; obtain ⟨X1, Y1, c1, f1⟩ := g1.use; have z1 := g1.size; (try simp only [World.size_alloc, World.size_setCell, World.heap_drewN, Nat.add_one_le_iff] at z1); (try have l0 : w.heap.size < w1.heap.size := by omega); (try have l1 : w.heap.size + 1 < w1.heap.size := by omega); (try have l2 : w.heap.size + 1 + 1 < w1.heap.size := by omega)))
        go_roundw
        case rel => exact ⟨j + 1, by omega, by go_num, (by with_reducible repeat (first | exact Gr.refl _ | assumption | refine Gr.alloc ?_ _ | refine Gr.drewN ?_ _ | refine Gr.drew ?_ | refine Gr.setCell ?_ (by first | (dsimp only; omega) | (simp only [World.size_alloc]; omega) | (refine Gr.size ?_; (repeat (first | exact Gr.refl _ | assumption | refine Gr.alloc ?_ _ | refine Gr.drewN ?_ _ | refine Gr.drew ?_ | refine Gr.trans ?_ (by assumption))); done)) _ | refine Gr.trans ?_ (by assumption))), HS'⟩
        case measure => simp only [intOf]; omega
    · obtain rfl : j = L.length := by omega
      have HE := hide (HN.out HS.out)
      go_wp2
      go_ret
      exact ⟨ret_bool HE.out.symm, (by with_reducible repeat (first | exact Gr.refl _ | assumption | refine Gr.alloc ?_ _ | refine Gr.drewN ?_ _ | refine Gr.drew ?_ | refine Gr.setCell ?_ (by first | (dsimp only; omega) | (simp only [World.size_alloc]; omega) | (refine Gr.size ?_; (repeat (first | exact Gr.refl _ | assumption | refine Gr.alloc ?_ _ | refine Gr.drewN ?_ _ | refine Gr.drew ?_ | refine Gr.trans ?_ (by assumption))); done)) _ | refine Gr.trans ?_ (by assumption)))⟩
end RG
end Go.Proofs.YtddhaiaapomdjaaGreat
set_option linter.unusedVariables false
set_option linter.unusedSimpArgs false
namespace Go.Proofs.YtddhaiaapomdjaaGreat
set_option linter.unusedVariables false
set_option linter.unusedSimpArgs false
open Go Go.ChangeShapes Go.WideShapes Go.ChangeAt Go.RowKit Go.Deep

namespace RG
/-- the first sheet that has a place -/
def fdS (n : Nat) (r : Nat → Option (Nat × Int × Int)) : Nat → Option (Nat × Nat × Int × Int)
  | 0 => none
  | k + 1 => match r (n - (k + 1)) with
    | some (t, x, y) => some (n - (k + 1), t, x, y)
    | none => fdS n r k
def fdSv (i : Int) : Option (Nat × Nat × Int × Int) → Value
  | some (s, t, x, y) => .tuple #[atv i s x y t, .bool true]
  | none => .tuple #[atv 0 0 0 0 0, .bool false]
/-- fit of a sheet, from here on -/
structure FiC (w0 : World) (s : ShT) (A : Option Addr) (c n : Nat) (p : Pc) (t : St) (r : Option (Nat × Int × Int)) : Prop where
  use : ∀ w', Gr w0 w' → Calls Tryz.prog 27 #[s.v, .slice A n c, p.v, stvv t] w' fun e w'' => e = .returned (ftv r) ∧ Gr w' w''
set_option maxHeartbeats 8000000 in
set_option maxRecDepth 100000 in
theorem find_any (SA : Option Addr) (sc : Nat) (S : List ShT) (PA : Option Addr) (pc : Nat) (Ps : List Pc) (t : St) (P T : Nat) (tk : List Tk) (i : Nat) (p : Pc) (r : Nat → Option (Nat × Int × Int)) (w : World) (hS : SlS w SA sc S) (hP : SlP w PA pc Ps) (hp : Ps[i]? = some p)
    (ht : ∀ (k : Nat) (x : Tk), tk[k]? = some x → w.cell? ⟨T, k, none⟩ = some (.slice x.D x.L.length x.q)) (htl : tk.length = S.length) (hn : S.length ≤ 4) (hm : Ps.length ≤ 8)
    (hf : ∀ (k : Nat) (s : ShT) (x : Tk), S[k]? = some s → tk[k]? = some x → FiC w s x.D x.q x.L.length p t (r k)) :
    Calls Tryz.prog 35 #[nsv SA sc S.length PA pc Ps.length t P T, iv i] w fun e w' => e = .returned (fdSv i (fdS S.length r S.length)) ∧ Gr w w' := by
  have n1 := hS.cap
  have n2 := hS.capB
  have n3 := hP.cap
  have n4 := hP.capB
  have HS := hide hS
  have HP := hide hP
  have HT := hide ht
  have HF := hide hf
  have hil : i < Ps.length := (List.getElem?_eq_some_iff.1 hp).1
  have hi0 : (0 : Int) ≤ (i : Int) := by omega
  have hi1 : (i : Int) < (Ps.length : Int) := by omega
  have HPI := hide hp
  clear hS hP ht hf hp
  obtain ⟨g, m, cm⟩ := t
  have g0 : Gr w ((w.alloc (.cells #[.slice SA S.length sc, .slice PA Ps.length pc, iv g, iv m, .bool cm, .slice (some ⟨P, 0, none⟩) Ps.length Ps.length, .slice (some ⟨T, 0, none⟩) S.length S.length] 75)).alloc (.cells #[iv 0, iv 0, iv 0, iv 0, iv 0] 33)) := Gr.alloc (Gr.alloc (Gr.refl _) _) _
  have M2 := hide ((Made.new w #[.slice SA S.length sc, .slice PA Ps.length pc, iv g, iv m, .bool cm, .slice (some ⟨P, 0, none⟩) Ps.length Ps.length, .slice (some ⟨T, 0, none⟩) S.length S.length] 75).gr (show Gr _ ((w.alloc (.cells #[.slice SA S.length sc, .slice PA Ps.length pc, iv g, iv m, .bool cm, .slice (some ⟨P, 0, none⟩) Ps.length Ps.length, .slice (some ⟨T, 0, none⟩) S.length S.length] 75)).alloc (.cells #[iv 0, iv 0, iv 0, iv 0, iv 0] 33)) from Gr.alloc (Gr.refl _) _))
  have M4 := hide (Made.new (w.alloc (.cells #[.slice SA S.length sc, .slice PA Ps.length pc, iv g, iv m, .bool cm, .slice (some ⟨P, 0, none⟩) Ps.length Ps.length, .slice (some ⟨T, 0, none⟩) S.length S.length] 75)) #[iv 0, iv 0, iv 0, iv 0, iv 0] 33)
  rw [World.size_alloc] at M4
  go_enter Tryz.func35, Tryz.ntmps35
  go_wp2
  generalize (w.alloc (.cells #[.slice SA S.length sc, .slice PA Ps.length pc, iv g, iv m, .bool cm, .slice (some ⟨P, 0, none⟩) Ps.length Ps.length, .slice (some ⟨T, 0, none⟩) S.length S.length] 75)).alloc (.cells #[iv 0, iv 0, iv 0, iv 0, iv 0] 33) = w1 at *
  obtain ⟨b2, hb2⟩ : ∃ b, b = w.heap.size := ⟨_, rfl⟩
  obtain ⟨b4, hb4⟩ : ∃ b, b = w.heap.size + 1 := ⟨_, rfl⟩
  rw [← hb2] at M2
  rw [← hb4] at M4
  rw [← hb4, ← hb2]
  have hb42 : w.heap.size ≤ b4 := by omega
  have hbne : b2 < b4 := by omega
  clear hb2 hb4
  go_loopw [13] (fun v wr => ∃ k : Nat, k ≤ S.length ∧ v = iv k ∧ Gr w1 wr ∧ Hid (fdS S.length r S.length = fdS S.length r (S.length - k))) (fun v _ => S.length - (intOf v).toNat)
  case atStart => exact ⟨0, by omega, rfl, Gr.refl _, hide (by rw [Nat.sub_zero])⟩
  case round =>
    obtain ⟨k, hk, rfl, gw, HR⟩ := hrel
    have gww := g0.trans gw
    obtain ⟨e2, q2, _⟩ := M2.out.gr gw
    have a20 := q2 0
    have a21 := q2 1
    have a22 := q2 2
    have a23 := q2 3
    have a24 := q2 4
    have a25 := q2 5
    have a26 := q2 6
    clear q2
    obtain ⟨e4, q4, p4⟩ := M4.out.gr gw
    have a40 := q4 0
    have a41 := q4 1
    have a42 := q4 2
    have a43 := q4 3
    have a44 := q4 4
    have c40 := p4 0
    have c41 := p4 1
    have c42 := p4 2
    have c43 := p4 3
    have c44 := p4 4
    clear q4 p4
    by_cases hkl : k < S.length
    · obtain ⟨s, hs⟩ : ∃ s, S[k]? = some s := ⟨_, List.getElem?_eq_getElem hkl⟩
      obtain ⟨x, hx⟩ : ∃ x, tk[k]? = some x := ⟨_, List.getElem?_eq_getElem (by omega)⟩
      obtain ⟨bs, os, hA, ⟨x0, x1, x2, x3, x4, x5, x6, x7⟩, hsw⟩ := (HS.out.gr gww).at_ hs
      obtain ⟨bp, op, hB, ⟨y0, y1, y2, y3, y4, y5, y6⟩, hpw⟩ := (HP.out.gr gww).at_ HPI.out
      have tT := HT.out k x hx
      have hTl : T < w.heap.size := cell_lt (by rw [tT]; rfl)
      have tT' : wr.cell? ⟨T, k, none⟩ = some (.slice x.D x.L.length x.q) := (gww.cell _ _ hTl).trans tT
      have hTr : T < wr.heap.size := by have := gww.size; omega
      subst hA
      subst hB
      have hbs : bs < wr.heap.size := cell_lt (by rw [x0]; rfl)
      have hbp : bp < wr.heap.size := cell_lt (by rw [y0]; rfl)
      have hk0 : (0 : Int) ≤ (k : Int) := by omega
      have hk1 : (k : Int) < (S.length : Int) := by omega
      have HFK := hide (HF.out k s x hs hx)
      clear hs hx tT hsw hpw
      go_upto_region 4 with fail
      have hsk : S.length - k = (S.length - (k + 1)) + 1 := by omega
      have hsi : S.length - (S.length - (k + 1) + 1) = k := by omega
      have hst : fdS S.length r (S.length - k) = match r k with
        | some (t, x, y) => some (k, t, x, y)
        | none => fdS S.length r (S.length - (k + 1)) := by
        rw [hsk, fdS, hsi]
      cases hrk : r k with
      | none =>
        have HFW := hide (show ∀ w', Gr wr w' → Calls Tryz.prog 27 #[s.v, .slice x.D x.L.length x.q, p.v, stvv ⟨g, m, cm⟩] w' fun e w'' => e = .returned (.tuple #[atv 0 0 0 0 0, .bool false]) ∧ Gr w' w'' from fun w' gg => by
          have := HFK.out.use w' (gww.trans gg)
          rw [hrk] at this
          exact this)
        have HR2 := hide (show fdS S.length r S.length = fdS S.length r (S.length - (k + 1)) by rw [HR.out, hst, hrk])
        clear hrk hst hsk hsi HFK HR
        go_cut [8, 9] from 18 to 34 (fun p8 v9 wx => ∃ B8 : Nat, p8 = .pointer (some ⟨B8, 0, none⟩) ∧ v9 = .bool false ∧ ((wx.cell? ⟨B8, 0, none⟩ = some (iv 0) ∧ wx.cell? ⟨B8, 1, none⟩ = some (iv 0) ∧ wx.cell? ⟨B8, 2, none⟩ = some (iv 0) ∧ wx.cell? ⟨B8, 3, none⟩ = some (iv 0) ∧ wx.cell? ⟨B8, 4, none⟩ = some (iv 0)) ∧ (wx.frozen? ⟨B8, 0, none⟩ = false ∧ wx.frozen? ⟨B8, 1, none⟩ = false)) ∧ wr.heap.size ≤ B8 ∧ B8 < wx.heap.size ∧ Gr wr wx)
        case first =>
          go_region_held3 (fun w' => Gr ((wr.alloc (Obj.cells #[.string s.nm, .string s.mt, iv s.ga, iv s.gr, iv s.wd, iv s.ht, .slice s.cA s.cl.length s.cc, .slice s.uA s.us.length s.uc] 24))) w' ∧ ∀ ii oo, ii < ((wr.alloc (Obj.cells #[.string s.nm, .string s.mt, iv s.ga, iv s.gr, iv s.wd, iv s.ht, .slice s.cA s.cl.length s.cc, .slice s.uA s.us.length s.uc] 24))).heap.size → w'.cell? ⟨ii, oo, none⟩ = ((wr.alloc (Obj.cells #[.string s.nm, .string s.mt, iv s.ga, iv s.gr, iv s.wd, iv s.ht, .slice s.cA s.cl.length s.cc, .slice s.uA s.us.length s.uc] 24))).cell? ⟨ii, oo, none⟩) ((refine And.intro ?_ (Gr.cell ?_) <;> ((with_reducible repeat (first | exact Gr.refl _ | assumption | refine Gr.alloc ?_ _ | refine Gr.drewN ?_ _ | refine Gr.drew ?_ | refine Gr.setCell ?_ (by first | (dsimp only; omega) | (simp only [World.size_alloc]; omega) | (refine Gr.size ?_; (repeat (first | exact Gr.refl _ | assumption | refine Gr.alloc ?_ _ | refine Gr.drewN ?_ _ | refine Gr.drew ?_ | refine Gr.trans ?_ (by assumption))); done)) _ | refine Gr.trans ?_ (by assumption))); done)))
           (first | (go_at_call 27; refine (HFW.out _ (by with_reducible repeat (first | exact Gr.refl _ | assumption | refine Gr.alloc ?_ _ | refine Gr.drewN ?_ _ | refine Gr.drew ?_ | refine Gr.setCell ?_ (by first | (dsimp only; omega) | (simp only [World.size_alloc]; omega) | (refine Gr.size ?_; (repeat (first | exact Gr.refl _ | assumption | refine Gr.alloc ?_ _ | refine Gr.drewN ?_ _ | refine Gr.drew ?_ | refine Gr.trans ?_ (by assumption))); done)) _ | refine Gr.trans ?_ (by assumption)))).mono ?_; rintro e w9 ⟨rfl, g9⟩; obtain ⟨X1, Y1, c1, f1⟩ := g9.use; (have z9 := g9.size); (try simp only [World.size_alloc, World.size_drew, World.heap_drewN] at z9)))
          all_goals
            go_wp2_with fail
            go_meet
            refine ⟨_, rfl, rfl, ?_, ?_, ?_, (by with_reducible repeat (first | exact Gr.refl _ | assumption | refine Gr.alloc ?_ _ | refine Gr.drewN ?_ _ | refine Gr.drew ?_ | refine Gr.setCell ?_ (by first | (dsimp only; omega) | (simp only [World.size_alloc]; omega) | (refine Gr.size ?_; (repeat (first | exact Gr.refl _ | assumption | refine Gr.alloc ?_ _ | refine Gr.drewN ?_ _ | refine Gr.drew ?_ | refine Gr.trans ?_ (by assumption))); done)) _ | refine Gr.trans ?_ (by assumption)))⟩
            · simp [go_sem, *]
            · first | omega | (simp only [World.size_alloc, World.size_setCell, World.size_drew, World.heap_drewN]; omega)
            · first | omega | (simp only [World.size_alloc, World.size_setCell, World.size_drew, World.heap_drewN]; omega)
        case rest =>
          obtain ⟨B8, rfl, rfl, ⟨⟨k0, k1, k2, k3, k4⟩, j0, j1⟩, hB8, hB8', gc⟩ := hcut
          go_wp2
          go_roundw
          case rel => exact ⟨k + 1, by omega, by go_num, (by with_reducible repeat (first | exact Gr.refl _ | assumption | refine Gr.alloc ?_ _ | refine Gr.drewN ?_ _ | refine Gr.drew ?_ | refine Gr.setCell ?_ (by first | (dsimp only; omega) | (simp only [World.size_alloc]; omega) | (refine Gr.size ?_; (repeat (first | exact Gr.refl _ | assumption | refine Gr.alloc ?_ _ | refine Gr.drewN ?_ _ | refine Gr.drew ?_ | refine Gr.trans ?_ (by assumption))); done)) _ | refine Gr.trans ?_ (by assumption))), HR2⟩
          case measure => simp only [intOf]; omega
      | some v =>
        obtain ⟨tt, xx, yy⟩ := v
        have HFW := hide (show ∀ w', Gr wr w' → Calls Tryz.prog 27 #[s.v, .slice x.D x.L.length x.q, p.v, stvv ⟨g, m, cm⟩] w' fun e w'' => e = .returned (.tuple #[atv 0 0 xx yy tt, .bool true]) ∧ Gr w' w'' from fun w' gg => by
          have := HFK.out.use w' (gww.trans gg)
          rw [hrk] at this
          exact this)
        have HE := hide (show fdS S.length r S.length = some (k, tt, xx, yy) by rw [HR.out, hst, hrk])
        clear hrk hst hsk hsi HFK HR
        go_cut [8, 9] from 18 to 34 (fun p8 v9 wx => ∃ B8 : Nat, p8 = .pointer (some ⟨B8, 0, none⟩) ∧ v9 = .bool true ∧ ((wx.cell? ⟨B8, 0, none⟩ = some (iv 0) ∧ wx.cell? ⟨B8, 1, none⟩ = some (iv 0) ∧ wx.cell? ⟨B8, 2, none⟩ = some (iv xx) ∧ wx.cell? ⟨B8, 3, none⟩ = some (iv yy) ∧ wx.cell? ⟨B8, 4, none⟩ = some (iv tt)) ∧ (wx.frozen? ⟨B8, 0, none⟩ = false ∧ wx.frozen? ⟨B8, 1, none⟩ = false)) ∧ wr.heap.size ≤ B8 ∧ B8 < wx.heap.size ∧ Gr wr wx)
        case first =>
          go_region_held3 (fun w' => Gr ((wr.alloc (Obj.cells #[.string s.nm, .string s.mt, iv s.ga, iv s.gr, iv s.wd, iv s.ht, .slice s.cA s.cl.length s.cc, .slice s.uA s.us.length s.uc] 24))) w' ∧ ∀ ii oo, ii < ((wr.alloc (Obj.cells #[.string s.nm, .string s.mt, iv s.ga, iv s.gr, iv s.wd, iv s.ht, .slice s.cA s.cl.length s.cc, .slice s.uA s.us.length s.uc] 24))).heap.size → w'.cell? ⟨ii, oo, none⟩ = ((wr.alloc (Obj.cells #[.string s.nm, .string s.mt, iv s.ga, iv s.gr, iv s.wd, iv s.ht, .slice s.cA s.cl.length s.cc, .slice s.uA s.us.length s.uc] 24))).cell? ⟨ii, oo, none⟩) ((refine And.intro ?_ (Gr.cell ?_) <;> ((with_reducible repeat (first | exact Gr.refl _ | assumption | refine Gr.alloc ?_ _ | refine Gr.drewN ?_ _ | refine Gr.drew ?_ | refine Gr.setCell ?_ (by first | (dsimp only; omega) | (simp only [World.size_alloc]; omega) | (refine Gr.size ?_; (repeat (first | exact Gr.refl _ | assumption | refine Gr.alloc ?_ _ | refine Gr.drewN ?_ _ | refine Gr.drew ?_ | refine Gr.trans ?_ (by assumption))); done)) _ | refine Gr.trans ?_ (by assumption))); done)))
           (first | (go_at_call 27; refine (HFW.out _ (by with_reducible repeat (first | exact Gr.refl _ | assumption | refine Gr.alloc ?_ _ | refine Gr.drewN ?_ _ | refine Gr.drew ?_ | refine Gr.setCell ?_ (by first | (dsimp only; omega) | (simp only [World.size_alloc]; omega) | (refine Gr.size ?_; (repeat (first | exact Gr.refl _ | assumption | refine Gr.alloc ?_ _ | refine Gr.drewN ?_ _ | refine Gr.drew ?_ | refine Gr.trans ?_ (by assumption))); done)) _ | refine Gr.trans ?_ (by assumption)))).mono ?_; rintro e w9 ⟨rfl, g9⟩; obtain ⟨X1, Y1, c1, f1⟩ := g9.use; (have z9 := g9.size); (try simp only [World.size_alloc, World.size_drew, World.heap_drewN] at z9)))
          all_goals
            go_wp2_with fail
            go_meet
            refine ⟨_, rfl, rfl, ?_, ?_, ?_, (by with_reducible repeat (first | exact Gr.refl _ | assumption | refine Gr.alloc ?_ _ | refine Gr.drewN ?_ _ | refine Gr.drew ?_ | refine Gr.setCell ?_ (by first | (dsimp only; omega) | (simp only [World.size_alloc]; omega) | (refine Gr.size ?_; (repeat (first | exact Gr.refl _ | assumption | refine Gr.alloc ?_ _ | refine Gr.drewN ?_ _ | refine Gr.drew ?_ | refine Gr.trans ?_ (by assumption))); done)) _ | refine Gr.trans ?_ (by assumption)))⟩
            · simp [go_sem, *]
            · first | omega | (simp only [World.size_alloc, World.size_setCell, World.size_drew, World.heap_drewN]; omega)
            · first | omega | (simp only [World.size_alloc, World.size_setCell, World.size_drew, World.heap_drewN]; omega)
        case rest =>
          obtain ⟨B8, rfl, rfl, ⟨⟨k0, k1, k2, k3, k4⟩, j0, j1⟩, hB8, hB8', gc⟩ := hcut
          clear e4 a40 a41 a42 a43 a44 c40 c41 c42 c43 c44
          obtain ⟨e4, q4, p4⟩ := M4.out.gr (gw.trans gc)
          have a40 := q4 0
          have a41 := q4 1
          have a42 := q4 2
          have a43 := q4 3
          have a44 := q4 4
          have c40 := p4 0
          have c41 := p4 1
          have c42 := p4 2
          have c43 := p4 3
          have c44 := p4 4
          have hb48 : b4 < B8 := by have := (M4.out.gr gw).1; omega
          clear q4 p4 tT' x0 x1 x2 x3 x4 x5 x6 x7 y0 y1 y2 y3 y4 y5 y6
          go_wp2
          refine bodyPost_ret (v := .tuple #[atv i k xx yy tt, .bool true]) (by simp [results, Tryz.results35, go_sem, *]) rfl ⟨by rw [HE.out]; rfl, ?_⟩
          have hx : (fun _ : Nat => False) b4 ∨ w.heap.size ≤ b4 := .inr (by omega)
          have hy : (fun _ : Nat => False) B8 ∨ w.heap.size ≤ B8 := .inr (by omega)
          exact (((((((((Kx.of_gr (X := fun _ => False) (gww.trans gc)).set 0 _ hy).set 1 _ hy).set 0 _ hx).set 1 _ hx).set 2 _ hx).set 3 _ hx).set 4 _ hx).toGr (Gr.refl _) (fun i hi => absurd hi id))
    · obtain rfl : k = S.length := by omega
      have HE := hide (show fdS S.length r S.length = none by rw [HR.out, Nat.sub_self]; rfl)
      go_wp2
      refine bodyPost_ret (v := .tuple #[atv 0 0 0 0 0, .bool false]) (by simp [results, Tryz.results35, go_sem, *]) rfl ⟨by rw [HE.out]; rfl, ?_⟩
      have hx : (fun _ : Nat => False) b4 ∨ w.heap.size ≤ b4 := .inr (by omega)
      exact (((((((Kx.of_gr (X := fun _ => False) gww).set 0 _ hx).set 1 _ hx).set 2 _ hx).set 3 _ hx).set 4 _ hx).toGr (Gr.refl _) (fun i hi => absurd hi id))
end RG
end Go.Proofs.YtddhaiaapomdjaaGreat
