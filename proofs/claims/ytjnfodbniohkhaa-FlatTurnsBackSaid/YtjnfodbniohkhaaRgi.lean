/-
  Regions: a number put into an ascending list, of the reference; two lists of rectangles one after the other.
-/
import Derived.Test.YtjnfodbniohkhaaRgv
set_option linter.unusedVariables false
set_option linter.unusedSimpArgs false
namespace Go.Proofs.Ytjnfodbniohkhaa
set_option linter.unusedVariables false
set_option linter.unusedSimpArgs false
open Go Go.ChangeShapes Go.WideShapes Go.ChangeAt Go.RowKit Go.Deep

namespace RG
theorem elInt : ElT Try.prog 56 3 1 8 := elT_of (.int .i64 0) Try.underlying56 (by kernel_rfl) rfl
theorem elRect : ElT Try.prog 22 55 4 32 := elT_of (.agg #[iv 0, iv 0, iv 0, iv 0]) (by kernel_rfl) (by kernel_rfl) (by kernel_rfl)
theorem own_slr {w : World} {base : Nat} {e : TypeId} {A : Option Addr} {n d : Nat} {xs : List Rc} (h : OwnL w base e 4 rcL (.slice A n d) xs) : SlR w A d xs := by
  obtain ⟨_, h1, h2, h3⟩ := OwnL.rd (c := rcL) (fun _ => rfl) h
  exact ⟨h1, h2, by unfold maxLen at h3; omega⟩
theorem own_ge {α : Type} {c : α → List Value} {w : World} {base : Nat} {e : TypeId} {k n d : Nat} {A : Option Addr} {xs : List α} (h : OwnL w base e k c (.slice A n d) xs) : ∀ x, A = some x → base ≤ x.block := by
  intro x hx
  subst hx
  obtain ⟨h0, h1 | ⟨b, cap, cur, h1, hb, h2⟩⟩ := id h
  · cases h1.1
  · injection h1 with e1 e2 e3
    injection e1 with e1
    subst e1
    exact hb
theorem ins_app {m : List Int} {n : Int} : ∀ {l : List Int}, (∃ x ∈ l, n ≤ x) → ins (l ++ m) n = ins l n ++ m
  | [], h => by obtain ⟨x, hx, _⟩ := h; simp at hx
  | y :: l, h => by
    show ins (y :: (l ++ m)) n = ins (y :: l) n ++ m
    unfold ins
    by_cases h1 : y = n
    · rw [if_pos h1, if_pos h1]; rfl
    · by_cases h2 : n < y
      · rw [if_neg h1, if_neg h1, if_pos h2, if_pos h2]; rfl
      · rw [if_neg h1, if_neg h1, if_neg h2, if_neg h2, ins_app]
        · rfl
        · obtain ⟨x, hx, hn⟩ := h
          rcases List.mem_cons.1 hx with rfl | hx
          · omega
          · exact ⟨x, hx, hn⟩
theorem ins_end {n : Int} : ∀ {l : List Int}, (∀ x ∈ l, x < n) → ins l n = l ++ [n]
  | [], _ => rfl
  | y :: l, h => by
    have := h y (by simp)
    unfold ins
    rw [if_neg (by omega), if_neg (by omega), ins_end fun x hx => h x (by simp [hx])]
    rfl
theorem ins_end2 {n z : Int} : ∀ {l : List Int}, (∀ x ∈ l, x < n) → n < z → ins (l ++ [z]) n = l ++ [n] ++ [z]
  | [], _, hz => by
    show ins [z] n = [n, z]
    unfold ins
    rw [if_neg (by omega), if_pos hz]
  | y :: l, h, hz => by
    have := h y (by simp)
    show ins (y :: (l ++ [z])) n = _
    unfold ins
    rw [if_neg (by omega), if_neg (by omega), ins_end2 (fun x hx => h x (by simp [hx])) hz]
    rfl
/-- what the document's insert has put down behind k elements -/
def InS (l : List Int) (n : Int) (k : Nat) (dn : Bool) (O : List Int) : Prop := (dn = true → O = ins (l.take k) n ∧ ∃ x ∈ l.take k, n ≤ x) ∧ (dn = false → O = l.take k ∧ ∀ x ∈ l.take k, x < n)
theorem inS_zero (l : List Int) (n : Int) : InS l n 0 false [] := ⟨nofun, fun _ => ⟨rfl, fun x hx => by simp at hx⟩⟩
theorem inS_dn {l : List Int} {n z : Int} {k : Nat} {O : List Int} (h : InS l n k true O) (hz : l[k]? = some z) : InS l n (k + 1) true (O ++ [z]) := by
  obtain ⟨h1, x, hx, hn⟩ := h.1 rfl
  refine ⟨fun _ => ?_, nofun⟩
  rw [take_at hz, ins_app ⟨x, hx, hn⟩, h1]
  exact ⟨rfl, x, by simp [hx], hn⟩
theorem inS_now {l : List Int} {n z : Int} {k : Nat} {O : List Int} (h : InS l n k false O) (hz : l[k]? = some z) (hn : n < z) : InS l n (k + 1) true (O ++ [n] ++ [z]) := by
  obtain ⟨h1, h2⟩ := h.2 rfl
  refine ⟨fun _ => ?_, nofun⟩
  rw [take_at hz, ins_end2 h2 hn, h1]
  exact ⟨rfl, z, by simp, by omega⟩
theorem inS_not {l : List Int} {n z : Int} {k : Nat} {O : List Int} (h : InS l n k false O) (hz : l[k]? = some z) (hn : z < n) : InS l n (k + 1) false (O ++ [z]) := by
  obtain ⟨h1, h2⟩ := h.2 rfl
  refine ⟨nofun, fun _ => ?_⟩
  rw [take_at hz, h1]
  refine ⟨rfl, fun x hx => ?_⟩
  rcases List.mem_append.1 hx with hx | hx
  · exact h2 x hx
  · rw [List.mem_singleton] at hx
    omega
theorem inS_len {l : List Int} {n : Int} {k : Nat} {dn : Bool} {O : List Int} (h : InS l n k dn O) (hk : k ≤ l.length) : O.length ≤ l.length + 1 := by
  cases dn with
  | true =>
    rw [(h.1 rfl).1]
    have := len_ins (l.take k) n
    rw [List.length_take] at this
    omega
  | false =>
    rw [(h.2 rfl).1, List.length_take]
    omega
theorem inS_yes {l : List Int} {n : Int} {O : List Int} (h : InS l n l.length true O) : O = ins l n := by
  have := (h.1 rfl).1
  rwa [List.take_length] at this
theorem inS_no {l : List Int} {n : Int} {O : List Int} (h : InS l n l.length false O) : O ++ [n] = ins l n := by
  obtain ⟨h1, h2⟩ := h.2 rfl
  rw [List.take_length] at h1 h2
  rw [ins_end h2, h1]
set_option maxHeartbeats 4000000 in
set_option maxRecDepth 100000 in
theorem insert_any (A : Option Addr) (c : Nat) (l : List Int) (n : Int) (w : World) (hl : SlI w A c l) (hu : Up l) (h1000 : l.length ≤ 1000) :
    Calls Try.prog 44 #[.slice A l.length c, iv n] w fun e w' => ∃ D d, e = .returned (.slice D (ins l n).length d) ∧ SlI w' D d (ins l n) ∧ (∀ x, D = some x → A = some x ∨ w.heap.size ≤ x.block) ∧ Gr w w' := by
  have n1 := hl.cap
  have n2 := hl.capB
  have HL := hide hl
  have HU := hide hu
  clear hl hu
  go_enter Try.func44, Try.ntmps44
  go_wp2
  go_loopw [5, 6, 7] (fun v dv i wr => ∃ (k : Nat) (dn : Bool) (O : List Int) (A' : Option Addr) (d' : Nat), k ≤ l.length ∧ i = iv k ∧ dv = .bool dn ∧ v = .slice A' O.length d' ∧ Gr w wr ∧ Hid (OwnL wr w.heap.size 3 1 inL (.slice A' O.length d') O) ∧ Hid (InS l n k dn O)) (fun _ _ i _ => l.length - (intOf i).toNat)
  case atStart => exact ⟨0, false, [], none, 0, by omega, rfl, rfl, rfl, Gr.refl _, own_nil _ _ _ _ _, inS_zero _ _⟩
  case round =>
    obtain ⟨k, dn, O, A1, d1, hk, rfl, rfl, rfl, g, HO, HI⟩ := hrel
    have hO := inS_len HI.out hk
    have sz := g.size
    by_cases hkl : k < l.length
    · obtain ⟨z, hz⟩ : ∃ z, l[k]? = some z := ⟨_, List.getElem?_eq_getElem hkl⟩
      obtain ⟨b, o, rfl, x0⟩ := (HL.out.gr g).rd.in_ hz
      have HZ := hide hz
      have hk0 : (0 : Int) ≤ (k : Int) := by omega
      have hk1 : (k : Int) < (l.length : Int) := by omega
      clear hz
      by_cases hzn : z = n
      · have HR := hide (ins_in HU.out (show n ∈ l from hzn ▸ List.mem_of_getElem? HZ.out))
        have HL2 := hide (HL.out.gr g)
        subst hzn
        go_wp2
        go_ret
        exact ⟨some ⟨b, o, none⟩, c, by rw [HR.out]; rfl, by rw [HR.out]; exact HL2.out, fun x hx => .inl hx, g⟩
      · have hzn' : (z == n) = false := by simpa using hzn
        cases dn with
        | true =>
          have HI2 := hide (inS_dn HI.out HZ.out)
          obtain ⟨O2, hO2⟩ : ∃ O2, O ++ [z] = O2 := ⟨_, rfl⟩
          have HO2 := hide hO2
          rw [hO2] at HI2
          clear hO2 hzn
          go_wp2_with (refine wpList_app1 rfl _ _ _ rfl inL w.heap.size 3 1 8 elInt (by decide) O z O2 HO2.out _ rfl (OwnL.gr HO.out (by repeat (first | with_reducible exact Gr.refl _ | with_reducible assumption | with_reducible refine Gr.alloc ?_ _ | with_reducible refine Gr.drewN ?_ _ | with_reducible refine Gr.drew ?_ | with_reducible refine Gr.setCell ?_ (by first | (dsimp only; omega) | (simp only [World.size_alloc]; omega) | (with_reducible refine Gr.size ?_; (repeat (first | with_reducible exact Gr.refl _ | with_reducible assumption | with_reducible refine Gr.alloc ?_ _ | with_reducible refine Gr.drewN ?_ _ | with_reducible refine Gr.drew ?_ | with_reducible refine Gr.trans ?_ (by with_reducible assumption))); done)) _ | with_reducible refine Gr.trans ?_ (by with_reducible assumption)))) _ 1 rfl rfl (by intro j u hu; refine newsA wr #[iv z] 3 j u ?_; exact hu) (by intro u hu; simp at hu; subst hu; rfl) (by omega) (by decide) (by simp only [World.size_alloc]; omega) ?_; intro gg cap1 w8 hO8 hG8 _ _ _)
          go_roundw
          case rel => exact ⟨k + 1, true, O2, some ⟨gg, 0, none⟩, cap1, by omega, by go_num, rfl, rfl, hG8 _ (by repeat (first | with_reducible exact Gr.refl _ | with_reducible assumption | with_reducible refine Gr.alloc ?_ _ | with_reducible refine Gr.drewN ?_ _ | with_reducible refine Gr.drew ?_ | with_reducible refine Gr.setCell ?_ (by first | (dsimp only; omega) | (simp only [World.size_alloc]; omega) | (with_reducible refine Gr.size ?_; (repeat (first | with_reducible exact Gr.refl _ | with_reducible assumption | with_reducible refine Gr.alloc ?_ _ | with_reducible refine Gr.drewN ?_ _ | with_reducible refine Gr.drew ?_ | with_reducible refine Gr.trans ?_ (by with_reducible assumption))); done)) _ | with_reducible refine Gr.trans ?_ (by with_reducible assumption))) (Nat.le_refl _), hO8, HI2⟩
          case measure => simp only [intOf]; omega
        | false =>
          by_cases hnz : n < z
          · have HI2 := hide (inS_now HI.out HZ.out hnz)
            obtain ⟨O2, hO2⟩ : ∃ O2, O ++ [n] = O2 := ⟨_, rfl⟩
            have HO2 := hide hO2
            rw [hO2] at HI2
            have hO2l : O2.length ≤ l.length + 2 := by rw [← hO2]; simp; omega
            obtain ⟨O3, hO3⟩ : ∃ O3, O2 ++ [z] = O3 := ⟨_, rfl⟩
            have HO3 := hide hO3
            rw [hO3] at HI2
            clear hO2 hO3 hzn
            go_upto_region 11 with (refine wpList_app1 rfl _ _ _ rfl inL w.heap.size 3 1 8 elInt (by decide) O n O2 HO2.out _ rfl (OwnL.gr HO.out (by repeat (first | with_reducible exact Gr.refl _ | with_reducible assumption | with_reducible refine Gr.alloc ?_ _ | with_reducible refine Gr.drewN ?_ _ | with_reducible refine Gr.drew ?_ | with_reducible refine Gr.setCell ?_ (by first | (dsimp only; omega) | (simp only [World.size_alloc]; omega) | (with_reducible refine Gr.size ?_; (repeat (first | with_reducible exact Gr.refl _ | with_reducible assumption | with_reducible refine Gr.alloc ?_ _ | with_reducible refine Gr.drewN ?_ _ | with_reducible refine Gr.drew ?_ | with_reducible refine Gr.trans ?_ (by with_reducible assumption))); done)) _ | with_reducible refine Gr.trans ?_ (by with_reducible assumption)))) _ 1 rfl rfl (by intro j u hu; refine newsA wr #[iv n] 3 j u ?_; exact hu) (by intro u hu; simp at hu; subst hu; rfl) (by omega) (by decide) (by simp only [World.size_alloc]; omega) ?_; intro gg cap1 w8 hO8 hG8 _ _ hlt8)
            have g8 : Gr w w8 := hG8 _ (by repeat (first | with_reducible exact Gr.refl _ | with_reducible assumption | with_reducible refine Gr.alloc ?_ _ | with_reducible refine Gr.drewN ?_ _ | with_reducible refine Gr.drew ?_ | with_reducible refine Gr.setCell ?_ (by first | (dsimp only; omega) | (simp only [World.size_alloc]; omega) | (with_reducible refine Gr.size ?_; (repeat (first | with_reducible exact Gr.refl _ | with_reducible assumption | with_reducible refine Gr.alloc ?_ _ | with_reducible refine Gr.drewN ?_ _ | with_reducible refine Gr.drew ?_ | with_reducible refine Gr.trans ?_ (by with_reducible assumption))); done)) _ | with_reducible refine Gr.trans ?_ (by with_reducible assumption))) (Nat.le_refl _)
            have sz8 := g8.size
            obtain ⟨b', o', e', x8⟩ := (HL.out.gr g8).rd.in_ HZ.out
            cases e'
            have HO8 := hide hO8
            clear hO8 hG8 x0 g
            go_wp2_with (refine wpList_app1 rfl _ _ _ rfl inL w.heap.size 3 1 8 elInt (by decide) O2 z O3 HO3.out _ rfl (OwnL.gr HO8.out (by repeat (first | with_reducible exact Gr.refl _ | with_reducible assumption | with_reducible refine Gr.alloc ?_ _ | with_reducible refine Gr.drewN ?_ _ | with_reducible refine Gr.drew ?_ | with_reducible refine Gr.setCell ?_ (by first | (dsimp only; omega) | (simp only [World.size_alloc]; omega) | (with_reducible refine Gr.size ?_; (repeat (first | with_reducible exact Gr.refl _ | with_reducible assumption | with_reducible refine Gr.alloc ?_ _ | with_reducible refine Gr.drewN ?_ _ | with_reducible refine Gr.drew ?_ | with_reducible refine Gr.trans ?_ (by with_reducible assumption))); done)) _ | with_reducible refine Gr.trans ?_ (by with_reducible assumption)))) _ 1 rfl rfl (by intro j u hu; refine newsA w8 #[iv z] 3 j u ?_; exact hu) (by intro u hu; simp at hu; subst hu; rfl) (by omega) (by decide) (by simp only [World.size_alloc]; omega) ?_; intro gg2 cap2 w9 hO9 hG9 _ _ _)
            go_roundw
            case rel => exact ⟨k + 1, true, O3, some ⟨gg2, 0, none⟩, cap2, by omega, by go_num, rfl, rfl, hG9 _ (by repeat (first | with_reducible exact Gr.refl _ | with_reducible assumption | with_reducible refine Gr.alloc ?_ _ | with_reducible refine Gr.drewN ?_ _ | with_reducible refine Gr.drew ?_ | with_reducible refine Gr.setCell ?_ (by first | (dsimp only; omega) | (simp only [World.size_alloc]; omega) | (with_reducible refine Gr.size ?_; (repeat (first | with_reducible exact Gr.refl _ | with_reducible assumption | with_reducible refine Gr.alloc ?_ _ | with_reducible refine Gr.drewN ?_ _ | with_reducible refine Gr.drew ?_ | with_reducible refine Gr.trans ?_ (by with_reducible assumption))); done)) _ | with_reducible refine Gr.trans ?_ (by with_reducible assumption))) (Nat.le_refl _), hO9, HI2⟩
            case measure => simp only [intOf]; omega
          · have HI2 := hide (inS_not HI.out HZ.out (by omega))
            obtain ⟨O2, hO2⟩ : ∃ O2, O ++ [z] = O2 := ⟨_, rfl⟩
            have HO2 := hide hO2
            rw [hO2] at HI2
            have hnz' : decide (n < z) = false := by simpa using hnz
            clear hO2 hzn hnz
            go_wp2_with (refine wpList_app1 rfl _ _ _ rfl inL w.heap.size 3 1 8 elInt (by decide) O z O2 HO2.out _ rfl (OwnL.gr HO.out (by repeat (first | with_reducible exact Gr.refl _ | with_reducible assumption | with_reducible refine Gr.alloc ?_ _ | with_reducible refine Gr.drewN ?_ _ | with_reducible refine Gr.drew ?_ | with_reducible refine Gr.setCell ?_ (by first | (dsimp only; omega) | (simp only [World.size_alloc]; omega) | (with_reducible refine Gr.size ?_; (repeat (first | with_reducible exact Gr.refl _ | with_reducible assumption | with_reducible refine Gr.alloc ?_ _ | with_reducible refine Gr.drewN ?_ _ | with_reducible refine Gr.drew ?_ | with_reducible refine Gr.trans ?_ (by with_reducible assumption))); done)) _ | with_reducible refine Gr.trans ?_ (by with_reducible assumption)))) _ 1 rfl rfl (by intro j u hu; refine newsA wr #[iv z] 3 j u ?_; exact hu) (by intro u hu; simp at hu; subst hu; rfl) (by omega) (by decide) (by simp only [World.size_alloc]; omega) ?_; intro gg cap1 w8 hO8 hG8 _ _ _)
            go_roundw
            case rel => exact ⟨k + 1, false, O2, some ⟨gg, 0, none⟩, cap1, by omega, by go_num, rfl, rfl, hG8 _ (by repeat (first | with_reducible exact Gr.refl _ | with_reducible assumption | with_reducible refine Gr.alloc ?_ _ | with_reducible refine Gr.drewN ?_ _ | with_reducible refine Gr.drew ?_ | with_reducible refine Gr.setCell ?_ (by first | (dsimp only; omega) | (simp only [World.size_alloc]; omega) | (with_reducible refine Gr.size ?_; (repeat (first | with_reducible exact Gr.refl _ | with_reducible assumption | with_reducible refine Gr.alloc ?_ _ | with_reducible refine Gr.drewN ?_ _ | with_reducible refine Gr.drew ?_ | with_reducible refine Gr.trans ?_ (by with_reducible assumption))); done)) _ | with_reducible refine Gr.trans ?_ (by with_reducible assumption))) (Nat.le_refl _), hO8, HI2⟩
            case measure => simp only [intOf]; omega
    · obtain rfl : k = l.length := by omega
      cases dn with
      | true =>
        have HR := hide (inS_yes HI.out)
        go_wp2
        go_ret
        exact ⟨A1, d1, by rw [← HR.out]; rfl, by rw [← HR.out]; exact own_sli HO.out, fun x hx => .inr (own_ge HO.out x hx), g⟩
      | false =>
        have HR := hide (inS_no HI.out)
        obtain ⟨O2, hO2⟩ : ∃ O2, O ++ [n] = O2 := ⟨_, rfl⟩
        have HO2 := hide hO2
        rw [hO2] at HR
        clear hO2
        go_wp2_with (refine wpList_app1 rfl _ _ _ rfl inL w.heap.size 3 1 8 elInt (by decide) O n O2 HO2.out _ rfl (OwnL.gr HO.out (by repeat (first | with_reducible exact Gr.refl _ | with_reducible assumption | with_reducible refine Gr.alloc ?_ _ | with_reducible refine Gr.drewN ?_ _ | with_reducible refine Gr.drew ?_ | with_reducible refine Gr.setCell ?_ (by first | (dsimp only; omega) | (simp only [World.size_alloc]; omega) | (with_reducible refine Gr.size ?_; (repeat (first | with_reducible exact Gr.refl _ | with_reducible assumption | with_reducible refine Gr.alloc ?_ _ | with_reducible refine Gr.drewN ?_ _ | with_reducible refine Gr.drew ?_ | with_reducible refine Gr.trans ?_ (by with_reducible assumption))); done)) _ | with_reducible refine Gr.trans ?_ (by with_reducible assumption)))) _ 1 rfl rfl (by intro j u hu; refine newsA wr #[iv n] 3 j u ?_; exact hu) (by intro u hu; simp at hu; subst hu; rfl) (by omega) (by decide) (by simp only [World.size_alloc]; omega) ?_; intro gg cap1 w8 hO8 hG8 _ _ _)
        go_ret
        exact ⟨some ⟨gg, 0, none⟩, cap1, by rw [← HR.out]; rfl, by rw [← HR.out]; exact own_sli hO8, fun x hx => .inr (own_ge hO8 x hx), hG8 _ (by repeat (first | with_reducible exact Gr.refl _ | with_reducible assumption | with_reducible refine Gr.alloc ?_ _ | with_reducible refine Gr.drewN ?_ _ | with_reducible refine Gr.drew ?_ | with_reducible refine Gr.setCell ?_ (by first | (dsimp only; omega) | (simp only [World.size_alloc]; omega) | (with_reducible refine Gr.size ?_; (repeat (first | with_reducible exact Gr.refl _ | with_reducible assumption | with_reducible refine Gr.alloc ?_ _ | with_reducible refine Gr.drewN ?_ _ | with_reducible refine Gr.drew ?_ | with_reducible refine Gr.trans ?_ (by with_reducible assumption))); done)) _ | with_reducible refine Gr.trans ?_ (by with_reducible assumption))) (Nat.le_refl _)⟩
/-- one list behind the other -/
def BoS (a b : List Rc) (k : Nat) : List Rc := a ++ b.take k
set_option maxHeartbeats 4000000 in
set_option maxRecDepth 100000 in
theorem both_any (A : Option Addr) (c : Nat) (l : List Rc) (B : Option Addr) (d : Nat) (m : List Rc) (w : World) (hl : SlR w A c l) (hm : SlR w B d m) (h1 : l.length ≤ 1000) (h2 : m.length ≤ 1000) :
    Calls Try.prog 27 #[.slice A l.length c, .slice B m.length d] w fun e w' => ∃ D q, e = .returned (.slice D (l ++ m).length q) ∧ SlR w' D q (l ++ m) ∧ Gr w w' := by
  have n1 := hl.cap
  have n2 := hl.capB
  have n3 := hm.cap
  have n4 := hm.capB
  have HL := hide hl
  have HM := hide hm
  clear hl hm
  go_enter Try.func27, Try.ntmps27
  go_wp2
  go_loopw [5, 6] (fun v i wr => ∃ (k : Nat) (O : List Rc) (A' : Option Addr) (d' : Nat), k ≤ l.length ∧ i = iv k ∧ v = .slice A' O.length d' ∧ Gr w wr ∧ Hid (OwnL wr w.heap.size 55 4 rcL (.slice A' O.length d') O) ∧ Hid (O = l.take k) ∧ O.length ≤ k) (fun _ i _ => l.length - (intOf i).toNat)
  case atStart => exact ⟨0, [], none, 0, by omega, rfl, rfl, Gr.refl _, own_nil _ _ _ _ _, rfl, Nat.le_refl _⟩
  case round =>
    obtain ⟨k, O, A1, d1, hk, rfl, rfl, g, HO, HE, hOl⟩ := hrel
    have sz := g.size
    by_cases hkl : k < l.length
    · obtain ⟨z, hz⟩ : ∃ z, l[k]? = some z := ⟨_, List.getElem?_eq_getElem hkl⟩
      obtain ⟨b, o, rfl, x0, x1, x2, x3⟩ := (HL.out.gr g).at_ hz
      have HZ := hide hz
      have hk0 : (0 : Int) ≤ (k : Int) := by omega
      have hk1 : (k : Int) < (l.length : Int) := by omega
      clear hz
      obtain ⟨O2, hO2⟩ : ∃ O2, O ++ [z] = O2 := ⟨_, rfl⟩
      have HO2 := hide hO2
      have HE2 := hide (show O2 = l.take (k + 1) by rw [← hO2, HE.out, take_at HZ.out])
      have hO2l : O2.length ≤ k + 1 := by rw [← hO2]; simp; omega
      clear hO2
      go_wp2_with (refine wpList_app1 rfl _ _ _ rfl rcL w.heap.size 55 4 32 elRect (by decide) O z O2 HO2.out _ rfl (OwnL.gr HO.out (by repeat (first | with_reducible exact Gr.refl _ | with_reducible assumption | with_reducible refine Gr.alloc ?_ _ | with_reducible refine Gr.drewN ?_ _ | with_reducible refine Gr.drew ?_ | with_reducible refine Gr.setCell ?_ (by first | (dsimp only; omega) | (simp only [World.size_alloc]; omega) | (with_reducible refine Gr.size ?_; (repeat (first | with_reducible exact Gr.refl _ | with_reducible assumption | with_reducible refine Gr.alloc ?_ _ | with_reducible refine Gr.drewN ?_ _ | with_reducible refine Gr.drew ?_ | with_reducible refine Gr.trans ?_ (by with_reducible assumption))); done)) _ | with_reducible refine Gr.trans ?_ (by with_reducible assumption)))) _ 1 rfl rfl (by intro j u hu; refine newsA wr #[iv z.x, iv z.y, iv z.w, iv z.h] 55 j u ?_; exact hu) (one_rc z) (by omega) (by decide) (by simp only [World.size_alloc]; omega) ?_; intro gg cap1 w8 hO8 hG8 _ _ _)
      go_roundw
      case rel => exact ⟨k + 1, O2, some ⟨gg, 0, none⟩, cap1, by omega, by go_num, rfl, hG8 _ (by repeat (first | with_reducible exact Gr.refl _ | with_reducible assumption | with_reducible refine Gr.alloc ?_ _ | with_reducible refine Gr.drewN ?_ _ | with_reducible refine Gr.drew ?_ | with_reducible refine Gr.setCell ?_ (by first | (dsimp only; omega) | (simp only [World.size_alloc]; omega) | (with_reducible refine Gr.size ?_; (repeat (first | with_reducible exact Gr.refl _ | with_reducible assumption | with_reducible refine Gr.alloc ?_ _ | with_reducible refine Gr.drewN ?_ _ | with_reducible refine Gr.drew ?_ | with_reducible refine Gr.trans ?_ (by with_reducible assumption))); done)) _ | with_reducible refine Gr.trans ?_ (by with_reducible assumption))) (Nat.le_refl _), hO8, HE2, hO2l⟩
      case measure => simp only [intOf]; omega
    · obtain rfl : k = l.length := by omega
      have HE1 := hide (show O = BoS l m 0 by rw [HE.out]; simp [BoS])
      clear HE
      go_wp2
      obtain ⟨w0, rfl⟩ : ∃ w0 : World, w0 = wr := ⟨_, rfl⟩
      go_loopw [5, 7] (fun v i wr => ∃ (k : Nat) (O : List Rc) (A' : Option Addr) (d' : Nat), k ≤ m.length ∧ i = iv k ∧ v = .slice A' O.length d' ∧ Gr w wr ∧ Hid (OwnL wr w.heap.size 55 4 rcL (.slice A' O.length d') O) ∧ Hid (O = BoS l m k) ∧ O.length ≤ l.length + k) (fun _ i _ => m.length - (intOf i).toNat)
      case atStart => exact ⟨0, O, A1, d1, by omega, rfl, rfl, g, HO, HE1, by omega⟩
      case round =>
        clear HO HE1 hOl sz g
        obtain ⟨k, O, A1, d1, hk, rfl, rfl, g, HO, HE, hOl⟩ := hrel
        have sz := g.size
        by_cases hkl : k < m.length
        · obtain ⟨z, hz⟩ : ∃ z, m[k]? = some z := ⟨_, List.getElem?_eq_getElem hkl⟩
          obtain ⟨b, o, rfl, x0, x1, x2, x3⟩ := (HM.out.gr g).at_ hz
          have HZ := hide hz
          have hk0 : (0 : Int) ≤ (k : Int) := by omega
          have hk1 : (k : Int) < (m.length : Int) := by omega
          clear hz
          obtain ⟨O2, hO2⟩ : ∃ O2, O ++ [z] = O2 := ⟨_, rfl⟩
          have HO2 := hide hO2
          have HE2 := hide (show O2 = BoS l m (k + 1) by rw [← hO2, HE.out]; unfold BoS; rw [take_at HZ.out, List.append_assoc])
          have hO2l : O2.length ≤ l.length + (k + 1) := by rw [← hO2]; simp; omega
          clear hO2
          go_wp2_with (refine wpList_app1 rfl _ _ _ rfl rcL w.heap.size 55 4 32 elRect (by decide) O z O2 HO2.out _ rfl (OwnL.gr HO.out (by repeat (first | with_reducible exact Gr.refl _ | with_reducible assumption | with_reducible refine Gr.alloc ?_ _ | with_reducible refine Gr.drewN ?_ _ | with_reducible refine Gr.drew ?_ | with_reducible refine Gr.setCell ?_ (by first | (dsimp only; omega) | (simp only [World.size_alloc]; omega) | (with_reducible refine Gr.size ?_; (repeat (first | with_reducible exact Gr.refl _ | with_reducible assumption | with_reducible refine Gr.alloc ?_ _ | with_reducible refine Gr.drewN ?_ _ | with_reducible refine Gr.drew ?_ | with_reducible refine Gr.trans ?_ (by with_reducible assumption))); done)) _ | with_reducible refine Gr.trans ?_ (by with_reducible assumption)))) _ 1 rfl rfl (by intro j u hu; refine newsA wr #[iv z.x, iv z.y, iv z.w, iv z.h] 55 j u ?_; exact hu) (one_rc z) (by omega) (by decide) (by simp only [World.size_alloc]; omega) ?_; intro gg cap1 w8 hO8 hG8 _ _ _)
          go_roundw
          case rel => exact ⟨k + 1, O2, some ⟨gg, 0, none⟩, cap1, by omega, by go_num, rfl, hG8 _ (by repeat (first | with_reducible exact Gr.refl _ | with_reducible assumption | with_reducible refine Gr.alloc ?_ _ | with_reducible refine Gr.drewN ?_ _ | with_reducible refine Gr.drew ?_ | with_reducible refine Gr.setCell ?_ (by first | (dsimp only; omega) | (simp only [World.size_alloc]; omega) | (with_reducible refine Gr.size ?_; (repeat (first | with_reducible exact Gr.refl _ | with_reducible assumption | with_reducible refine Gr.alloc ?_ _ | with_reducible refine Gr.drewN ?_ _ | with_reducible refine Gr.drew ?_ | with_reducible refine Gr.trans ?_ (by with_reducible assumption))); done)) _ | with_reducible refine Gr.trans ?_ (by with_reducible assumption))) (Nat.le_refl _), hO8, HE2, hO2l⟩
          case measure => simp only [intOf]; omega
        · obtain rfl : k = m.length := by omega
          have HE1 := hide (show O = l ++ m by rw [HE.out]; simp [BoS])
          go_wp2
          go_ret
          exact ⟨A1, d1, by rw [← HE1.out]; rfl, by rw [← HE1.out]; exact own_slr HO.out, g⟩
end RG
end Go.Proofs.Ytjnfodbniohkhaa
