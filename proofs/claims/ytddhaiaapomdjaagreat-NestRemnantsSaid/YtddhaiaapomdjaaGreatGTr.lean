/-
  Nests, plain: the reference's fit: what is in the way at a height, the heights, the first place.
  Nests, plain: a number put into an ascending list in place; own rows of numbers stored over.
  Nests, plain: the loops of the reference's fit.
  Nests: a number put into an ascending list in place, of the reference.
  Nests: what is in the way at a height, of the reference.
  Nests: append of any list in memory onto a row of the call's own; the lowest place of the reference at a height.
  Nests: the lowest place at a height, of the reference.
  Nests: the heights at which the lowest place can be, of the reference.
-/
import Derived.Test.YtddhaiaapomdjaaGreatGJr
import Derived.Test.YtddhaiaapomdjaaGreatGCr
import Derived.Test.YtddhaiaapomdjaaGreatGAr
set_option linter.unusedVariables false
set_option linter.unusedSimpArgs false
namespace Go.Proofs.YtddhaiaapomdjaaGreat
set_option linter.unusedVariables false
set_option linter.unusedSimpArgs false
open Go Go.ChangeShapes Go.WideShapes Go.ChangeAt Go.RowKit Go.Deep

namespace RG
def inSp (p : Int × Int) (x : Int) : Prop := p.1 < x ∧ x < p.2
/-- the least X that is in no interval -/
structure LoX (m : Int) (aw : List (Int × Int)) (x : Int) : Prop where
  ge : m ≤ x
  out : ∀ p ∈ aw, ¬ inSp p x
  bel : ∀ z, m ≤ z → z < x → ∃ p ∈ aw, inSp p z
/-- what place finds -/
structure PlR (m last top : Int) (aw : Int → List (Int × Int)) (ys : List Int) (o : Option (Int × Int)) : Prop where
  yes : ∀ x y, o = some (x, y) → (m ≤ y ∧ y ≤ top) ∧ (LoX m (aw y) x ∧ x ≤ last) ∧ ∀ y', y' ∈ ys → y' < y → m ≤ y' → y' ≤ top → ∃ x', LoX m (aw y') x' ∧ last < x'
  no : o = none → ∀ y', y' ∈ ys → m ≤ y' → y' ≤ top → ∃ x', LoX m (aw y') x' ∧ last < x'
end RG
end Go.Proofs.YtddhaiaapomdjaaGreat
set_option linter.unusedVariables false
set_option linter.unusedSimpArgs false
namespace Go.Proofs.YtddhaiaapomdjaaGreat
set_option linter.unusedVariables false
set_option linter.unusedSimpArgs false
open Go Go.ChangeShapes Go.WideShapes Go.ChangeAt Go.RowKit Go.Deep

namespace RG
/-- l with one more element at k -/
def siL (l : List Int) (k : Nat) (x : Int) : List Int := l.take k ++ x :: l.drop k
theorem siL_len {l : List Int} {k : Nat} {x : Int} (h : k ≤ l.length) : (siL l k x).length = l.length + 1 := by
  unfold siL
  rw [List.length_append, List.length_cons, List.length_take, List.length_drop]
  omega
theorem siL_end (l : List Int) (x : Int) : l ++ [x] = siL l l.length x := by
  unfold siL
  rw [List.take_length, List.drop_length]
theorem siL_set {l : List Int} {k : Nat} {x y : Int} (h : k ≤ l.length) : (siL l k x).set k y = siL l k y := by
  unfold siL
  have e : (l.take k).length = k := by rw [List.length_take]; omega
  rw [List.set_append, if_neg (by omega), e, Nat.sub_self]
  rfl
theorem siL_read {l : List Int} {k : Nat} {x z : Int} (h : l[k]? = some z) : (siL l (k + 1) x)[k]? = some z := by
  have hk : k < l.length := (List.getElem?_eq_some_iff.1 h).1
  unfold siL
  have e : (l.take (k + 1)).length = k + 1 := by rw [List.length_take]; omega
  rw [List.getElem?_append_left (by omega), List.getElem?_take, if_pos (by omega)]
  exact h
theorem siL_move {l : List Int} {k : Nat} {z : Int} (h : l[k]? = some z) : siL l (k + 1) z = siL l k z := by
  obtain ⟨hk, e⟩ := List.getElem?_eq_some_iff.1 h
  unfold siL
  have e1 : l.take (k + 1) = l.take k ++ [z] := take_at h
  have e2 : l.drop k = z :: l.drop (k + 1) := by
    rw [List.drop_eq_getElem_cons hk, e]
  rw [e1, e2, List.append_assoc]
  rfl
theorem ins_mid {n : Int} : ∀ {a b : List Int}, (∀ x ∈ a, x < n) → (∀ x ∈ b, n < x) → ins (a ++ b) n = a ++ n :: b
  | [], [], _, _ => rfl
  | [], y :: b, _, h => by
    have := h y List.mem_cons_self
    show ins (y :: b) n = n :: y :: b
    unfold ins
    rw [if_neg (by omega), if_pos this]
  | y :: a, b, h, k => by
    have := h y List.mem_cons_self
    show ins (y :: (a ++ b)) n = y :: (a ++ n :: b)
    unfold ins
    rw [if_neg (by omega), if_neg (by omega), ins_mid (fun x hx => h x (List.mem_cons_of_mem _ hx)) k]
theorem ins_has {n : Int} : ∀ {l : List Int}, Up l → n ∈ l → ins l n = l
  | [], _, h => by simp at h
  | y :: l, hu, h => by
    have hu' := List.pairwise_cons.1 hu
    unfold ins
    by_cases e : y = n
    · rw [if_pos e]
    · rw [if_neg e]
      rcases List.mem_cons.1 h with h | h
      · exact absurd h.symm e
      · have := hu'.1 n h
        rw [if_neg (by omega), ins_has hu'.2 h]
/-- the place of a number in an ascending list -/
structure PosI (l : List Int) (n : Int) (i : Nat) : Prop where
  le : i ≤ l.length
  up : ∀ j x, i ≤ j → l[j]? = some x → n < x
theorem posI_end (l : List Int) (n : Int) : PosI l n l.length := ⟨Nat.le_refl _, fun j x h e => by rw [List.getElem?_eq_none h] at e; cases e⟩
theorem PosI.step {l : List Int} {n z : Int} {i : Nat} (h : PosI l n (i + 1)) (hz : l[i]? = some z) (hn : n < z) : PosI l n i := ⟨by have := h.le; omega, fun j x hj hx => by
  rcases Nat.lt_or_ge i j with q | q
  · exact h.up j x (by omega) hx
  · obtain rfl : j = i := by omega
    rw [hz] at hx
    obtain rfl := Option.some.inj hx
    exact hn⟩
theorem PosI.ins0 {l : List Int} {n : Int} (h : PosI l n 0) : ins l n = siL l 0 n := by
  unfold siL
  rw [List.take_zero, List.drop_zero]
  refine ins_mid (a := []) (fun x hx => by simp at hx) fun x hx => ?_
  obtain ⟨j, hj, e⟩ := List.getElem_of_mem hx
  exact h.up j x (Nat.zero_le _) (by rw [← e]; exact List.getElem?_eq_getElem hj)
theorem PosI.insE {l : List Int} {n : Int} {i : Nat} (hu : Up l) (h : PosI l n (i + 1)) (hz : l[i]? = some n) : ins l n = l := ins_has hu (List.mem_of_getElem? hz)
theorem PosI.insN {l : List Int} {n z : Int} {i : Nat} (hu : Up l) (h : PosI l n (i + 1)) (hz : l[i]? = some z) (hn : z < n) : ins l n = siL l (i + 1) n := by
  have e : ins (l.take (i + 1) ++ l.drop (i + 1)) n = l.take (i + 1) ++ n :: l.drop (i + 1) := by
    refine ins_mid (fun x hx => ?_) fun x hx => ?_
    · rw [take_at hz] at hx
      rcases List.mem_append.1 hx with hx | hx
      · have hp : (l.take (i + 1)).Pairwise (· < ·) := List.Pairwise.sublist (List.take_sublist _ _) hu
        rw [take_at hz] at hp
        have := (List.pairwise_append.1 hp).2.2 x hx z (by simp)
        omega
      · obtain rfl : x = z := by simpa using hx
        exact hn
    · obtain ⟨j, hj, e⟩ := List.getElem_of_mem hx
      rw [List.getElem_drop] at e
      rw [List.length_drop] at hj
      exact h.up (i + 1 + j) x (by omega) (by rw [← e]; exact List.getElem?_eq_getElem (by omega))
  rw [List.take_append_drop] at e
  exact e
/-- an element of an own row of numbers stored over -/
theorem fm_inL6 (l : List Int) : l.flatMap inL = l.map iv := by
  induction l with
  | nil => rfl
  | cons x l ih => rw [List.flatMap_cons, ih]; rfl
theorem own_putI {w : World} {base k n d b : Nat} {e : TypeId} {l : List Int} (hn : n = l.length) (h : OwnL w base e 1 inL (.slice (some ⟨b, 0, none⟩) n d) l) (x : Int) :
    OwnL (w.setCell ⟨b, k, none⟩ (iv x)) base e 1 inL (.slice (some ⟨b, 0, none⟩) n d) (l.set k x) ∧ w.grownBy (w.setCell ⟨b, k, none⟩ (iv x)) (some b) := by
  subst hn
  have h' : World.ownsRow w base e 1 (.slice (some ⟨b, 0, none⟩) l.length d) l.length (l.flatMap inL) := h
  have q := World.ownsRow.stored h' k (iv x)
  refine ⟨?_, q.2⟩
  unfold OwnL
  rw [List.length_set, fm_inL6, List.map_set]
  have := q.1
  rw [fm_inL6] at this
  exact this
end RG
end Go.Proofs.YtddhaiaapomdjaaGreat
set_option linter.unusedVariables false
set_option linter.unusedSimpArgs false
namespace Go.Proofs.YtddhaiaapomdjaaGreat
set_option linter.unusedVariables false
set_option linter.unusedSimpArgs false
open Go Go.ChangeShapes Go.WideShapes Go.ChangeAt Go.RowKit Go.Deep

namespace RG
/-- X goes on from one interval's end to another's -/
structure LoI (m : Int) (aw : List (Int × Int)) (x : Int) : Prop where
  ge : m ≤ x
  bel : ∀ z, m ≤ z → z < x → ∃ p ∈ aw, inSp p z
theorem LoI.step {m x : Int} {aw : List (Int × Int)} (h : LoI m aw x) {k : Nat} {p : Int × Int} (hp : aw[k]? = some p) (hi : inSp p x) : LoI m aw p.2 := by
  have h1 := h.ge
  unfold inSp at hi
  refine ⟨by omega, fun z a b => ?_⟩
  rcases Int.lt_or_le z x with q | q
  · exact h.bel z a q
  · exact ⟨p, List.mem_of_getElem? hp, by unfold inSp; omega⟩
/-- the first of the places of the turns so far -/
structure FtK (o : Nat → Option (Int × Int)) (k : Nat) (r : Option (Nat × Int × Int)) : Prop where
  yes : ∀ t x y, r = some (t, x, y) → t < k ∧ o t = some (x, y) ∧ ∀ t' x' y', t' < k → o t' = some (x', y') → y < y' ∨ y = y' ∧ (x < x' ∨ x = x' ∧ t ≤ t')
  no : r = none → ∀ t, t < k → o t = none
theorem FtK.none {o : Nat → Option (Int × Int)} {k : Nat} {r : Option (Nat × Int × Int)} (h : FtK o k r) (hk : o k = .none) : FtK o (k + 1) r := by
  refine ⟨fun t x y e => ?_, fun e t ht => ?_⟩
  · obtain ⟨a, b, c⟩ := h.yes t x y e
    refine ⟨by omega, b, fun t' x' y' ht' e' => ?_⟩
    rcases Nat.lt_or_ge t' k with q | q
    · exact c t' x' y' q e'
    · obtain rfl : t' = k := by omega
      rw [hk] at e'
      cases e'
  · rcases Nat.lt_or_ge t k with q | q
    · exact h.no e t q
    · obtain rfl : t = k := by omega
      exact hk
theorem FtK.first {o : Nat → Option (Int × Int)} {k : Nat} {x y : Int} (h : FtK o k .none) (hk : o k = some (x, y)) : FtK o (k + 1) (some (k, x, y)) := by
  refine ⟨fun t x1 y1 e => ?_, fun e => by cases e⟩
  obtain ⟨rfl, rfl, rfl⟩ : k = t ∧ x = x1 ∧ y = y1 := by simpa using e
  refine ⟨by omega, hk, fun t' x' y' ht' e' => ?_⟩
  rcases Nat.lt_or_ge t' k with q | q
  · rw [h.no rfl t' q] at e'
    cases e'
  · obtain rfl : t' = k := by omega
    rw [hk] at e'
    obtain ⟨rfl, rfl⟩ : x = x' ∧ y = y' := by simpa using e'
    exact .inr ⟨rfl, .inr ⟨rfl, Nat.le_refl _⟩⟩
end RG
end Go.Proofs.YtddhaiaapomdjaaGreat
set_option linter.unusedVariables false
set_option linter.unusedSimpArgs false
namespace Go.Proofs.YtddhaiaapomdjaaGreat
set_option linter.unusedVariables false
set_option linter.unusedSimpArgs false
open Go Go.ChangeShapes Go.WideShapes Go.ChangeAt Go.RowKit Go.Deep

namespace RG
theorem own_cI {w : World} {base j n d b : Nat} {e : TypeId} {l : List Int} (hn : n = l.length) (h : OwnL w base e 1 inL (.slice (some ⟨b, 0, none⟩) n d) l) {z : Int} (hz : l[j]? = some z) : w.cell? ⟨b, j, none⟩ = some (iv z) := by
  subst hn
  have h' : World.ownsRow w base e 1 (.slice (some ⟨b, 0, none⟩) l.length d) l.length (l.flatMap inL) := h
  have hj := (List.getElem?_eq_some_iff.1 hz).1
  rw [World.ownsRow.cellAt h' j (by omega), fm_inL6, List.getElem?_map, hz]
  rfl
theorem own_fI {w : World} {base n d b : Nat} {e : TypeId} {l : List Int} (hn : n = l.length) (h : OwnL w base e 1 inL (.slice (some ⟨b, 0, none⟩) n d) l) (j : Nat) : w.frozen? ⟨b, j, none⟩ = false := by
  subst hn
  have h' : World.ownsRow w base e 1 (.slice (some ⟨b, 0, none⟩) l.length d) l.length (l.flatMap inL) := h
  exact World.ownsRow.frozenAt h' j
theorem own_n6 {α : Type} {c : α → List Value} {w : World} {base : Nat} {e : TypeId} {k n d : Nat} {A : Option Addr} {xs : List α} (h : OwnL w base e k c (.slice A n d) xs) : n = xs.length := by
  rcases h.2 with ⟨h1, h2⟩ | ⟨g, cap, cur, hv, hb, hh, hn, _⟩
  · cases h1
    exact h2.symm
  · cases hv
    rfl
/-- what insert leaves as it was: all but the row RW; where the new row lies -/
structure InsR (RW : Option Nat) (w w' : World) (D : Option Addr) : Prop where
  kx : Kx (fun i => RW = some i) w w'
  fr : ∀ i, D.map Addr.block = some i → RW = some i ∨ w.heap.size ≤ i
set_option maxHeartbeats 8000000 in
set_option maxRecDepth 100000 in
theorem insert6_any (A : Option Addr) (c : Nat) (l : List Int) (n : Int) (lo : Nat) (w : World) (hO : OwnL w lo 3 1 inL (.slice A l.length c) l) (hlo : lo ≤ w.heap.size) (hu : Up l) (hn : l.length ≤ 100000) :
    Calls Tryz.prog 138 #[.slice A l.length c, iv n] w fun e w' => ∃ (D : Option Addr) (d : Nat), e = .returned (.slice D (ins l n).length d) ∧ OwnL w' lo 3 1 inL (.slice D (ins l n).length d) (ins l n) ∧ InsR (A.map Addr.block) w w' D := by
  have hS := own_sli hO
  have n1 := hS.cap
  have n2 := hS.capB
  have HS := hide hS
  have HOW0 := hide hO
  have HU := hide hu
  clear hS hO hu
  obtain ⟨RW, hRW⟩ : ∃ RW, A.map Addr.block = RW := ⟨_, rfl⟩
  rw [hRW]
  have HRW := hide hRW
  clear hRW
  go_enter Tryz.func138, Tryz.ntmps138
  go_upto_region 2 with fail
  go_loopw [5] (fun v wr => ∃ k : Nat, k ≤ l.length ∧ v = iv k ∧ Gr w wr ∧ Hid (PosI l n k)) (fun v _ => (intOf v).toNat)
  case atStart => exact ⟨l.length, Nat.le_refl _, rfl, Gr.refl _, hide (posI_end l n)⟩
  case round =>
    obtain ⟨k, hk, rfl, g, HP⟩ := hrel
    have HOW := hide (OwnL.gr HOW0.out g)
    have hwl : lo ≤ wr.heap.size := Nat.le_trans hlo g.size
    by_cases hk0 : k = 0
    · subst hk0
      have HI := hide HP.out.ins0
      clear HP HS
      go_upto_region 4 with fail
      obtain ⟨L2, hL2⟩ : ∃ L2, l ++ [(0 : Int)] = L2 := ⟨_, rfl⟩
      have HL2 := hide hL2
      have HLE := hide (show L2.length = l.length + 1 by rw [← hL2, List.length_append]; rfl)
      clear hL2
      go_upto_region 6 with fail
      have ga := Gr.alloc (Gr.refl wr) (.cells #[iv 0] 3)
      go_upto_region 7 with (refine wpList_appZ rfl _ _ _ rfl inL lo 3 1 8 elInt (by decide) l [0] L2 HL2.out _ rfl (OwnL.gr HOW.out (Gr.alloc (Gr.refl wr) _)) _ 1 1 rfl rfl (by decide) (fun _ => rfl) (by intro j u hu; refine newsA wr #[iv 0] 3 j u ?_; exact hu) (by intro u hu; simp at hu; subst hu; rfl) (by omega) (by decide) (by simp only [World.size_alloc]; omega) ?_; intro gg cap1 w8 hO8 hG8 hgrow hat8 hg8)
      have HG8 := hide (show Kx (fun i => RW = some i) w w8 from Kx.grown (Kx.of_gr (g.trans (Gr.alloc (Gr.refl wr) _))) hgrow (fun k hk => .inl (HRW.out.symm.trans ((own_map HOW.out).1 hk))))
      have HD8 := hide (show RW = some gg ∨ w.heap.size ≤ gg from by
        rcases hat8 with h | h
        · exact .inl (HRW.out.symm.trans ((own_map HOW.out).1 h))
        · right
          have := g.size
          simp only [World.size_alloc] at h
          omega)
      have HO8 := hide (show OwnL w8 lo 3 1 inL (.slice (some ⟨gg, 0, none⟩) (l.length + 1) cap1) (siL l l.length 0) from by
        have := hO8
        rw [HLE.out, ← HL2.out, siL_end] at this
        exact this)
      have e8 := HLE.out
      clear hO8 hG8 hgrow hat8 HOW HL2 HLE ga
      rw [e8]
      clear e8
      go_upto_region 8 with fail
      go_loopw [6] (fun v wr2 => ∃ (q : Nat) (x : Int), 0 ≤ q ∧ q ≤ l.length ∧ v = iv q ∧ Hid (OwnL wr2 lo 3 1 inL (.slice (some ⟨gg, 0, none⟩) (l.length + 1) cap1) (siL l q x)) ∧ Hid (Kx (fun i => RW = some i) w wr2) ∧ gg < wr2.heap.size) (fun v _ => (intOf v).toNat)
      case atStart => exact ⟨l.length, 0, by omega, Nat.le_refl _, by go_num, HO8, HG8, hg8⟩
      case round =>
        obtain ⟨q, x, hq0, hq1, rfl, HO, HG, hgw⟩ := hrel
        clear HO8 HG8
        by_cases hqk : 0 < q
        · obtain ⟨m2, rfl⟩ : ∃ m2, q = m2 + 1 := ⟨q - 1, by omega⟩
          obtain ⟨z2, hz2⟩ : ∃ z, l[m2]? = some z := ⟨_, List.getElem?_eq_getElem (by omega)⟩
          have c1 : wr.cell? ⟨gg, m2, none⟩ = some (iv z2) := own_cI (by rw [siL_len hq1]) HO.out (siL_read hz2)
          obtain ⟨x', hx'⟩ : ∃ x', (siL l (m2 + 1) x)[m2 + 1]? = some x' := ⟨_, List.getElem?_eq_getElem (by rw [siL_len hq1]; omega)⟩
          have c2 : wr.cell? ⟨gg, m2 + 1, none⟩ = some (iv x') := own_cI (by rw [siL_len hq1]) HO.out hx'
          have c3 : wr.frozen? ⟨gg, m2 + 1, none⟩ = false := own_fI (by rw [siL_len hq1]) HO.out (m2 + 1)
          have hp := own_putI (k := m2 + 1) (by rw [siL_len hq1]) HO.out z2
          rw [siL_set hq1, siL_move hz2] at hp
          have HO' := hide hp.1
          have HG' := hide (Kx.set HG.out (m2 + 1) (iv z2) HD8.out)
          clear hp hx' hz2 HO HG
          have b0 : (0 : Int) ≤ (m2 : Int) := by omega
          have b1 : (m2 : Int) < (l.length : Int) := by omega
          have b2 : (0 : Int) < (m2 : Int) + 1 := by omega
          have W3 : IntKind.i64.wrap ((m2 : Int) + 1 - 1) = (m2 : Int) := by rw [Int.add_sub_cancel]; exact IntWalk.i64_in _ (by omega)
          go_wp2_with fail
          go_roundw
          case rel => exact ⟨m2, z2, by omega, by omega, by go_num, HO', HG', by rw [World.size_setCell]; exact hgw⟩
          case measure => simp only [intOf]; omega
        · obtain rfl : 0 = q := by omega
          obtain ⟨x', hx'⟩ : ∃ x', (siL l 0 x)[0]? = some x' := ⟨_, List.getElem?_eq_getElem (by rw [siL_len hq1]; omega)⟩
          have c2 : wr.cell? ⟨gg, 0, none⟩ = some (iv x') := own_cI (by rw [siL_len hq1]) HO.out hx'
          have c3 : wr.frozen? ⟨gg, 0, none⟩ = false := own_fI (by rw [siL_len hq1]) HO.out 0
          have hp := own_putI (k := 0) (by rw [siL_len hq1]) HO.out n
          rw [siL_set hq1] at hp
          have HF := hide (show ∃ (D : Option Addr) (d : Nat), Value.slice (some ⟨gg, 0, none⟩) (l.length + 1) cap1 = .slice D (ins l n).length d ∧ OwnL (wr.setCell ⟨gg, 0, none⟩ (iv n)) lo 3 1 inL (.slice D (ins l n).length d) (ins l n) ∧ InsR RW w (wr.setCell ⟨gg, 0, none⟩ (iv n)) D from by
            rw [HI.out, siL_len hq1]
            exact ⟨_, _, rfl, hp.1, Kx.set HG.out _ (iv n) HD8.out, fun i hi => (show gg = i by simpa using hi) ▸ HD8.out⟩)
          clear hp hx' HO HG
          go_wp2_with fail
          go_ret
          obtain ⟨D, d, e1, e2⟩ := HF.out
          exact ⟨D, d, congrArg Ending.returned e1, e2⟩
    · obtain ⟨m, hm⟩ : ∃ m, k = m + 1 := ⟨k - 1, by omega⟩
      obtain ⟨z, hz⟩ : ∃ z, l[m]? = some z := ⟨_, List.getElem?_eq_getElem (by omega)⟩
      obtain ⟨bb, oo, hA, x0⟩ := (HS.out.gr g).rd.in_ hz
      subst hA
      have hbl : bb < wr.heap.size := cell_lt (by rw [x0]; rfl)
      have m0 : (0 : Int) ≤ (m : Int) := by omega
      have m1 : (m : Int) < (l.length : Int) := by omega
      have k0 : (0 : Int) < (k : Int) := by omega
      have W1 : IntKind.i64.wrap ((k : Int) - 1) = (m : Int) := by
        rw [hm, show ((m + 1 : Nat) : Int) - 1 = (m : Int) by omega]
        exact IntWalk.i64_in _ (by omega)
      by_cases hg : z > n
      · have HP' := hide (PosI.step (i := m) (by rw [← hm]; exact HP.out) hz hg)
        have d1 : decide (z > n) = true := decide_eq_true hg
        have HMM := hide hm
        clear hm
        go_wp2_with fail
        go_roundw
        case rel => exact ⟨m, by omega, rfl, g, HP'⟩
        case measure => have := HMM.out; simp only [intOf]; omega
      · have d1 : decide (z > n) = false := decide_eq_false hg
        by_cases he : z = n
        · have HF := hide (PosI.insE HU.out (i := m) (by rw [← hm]; exact HP.out) (by rw [← he]; exact hz))
          have d2 : (z == n) = true := by simpa using he
          have HFX := hide (show ∃ (D : Option Addr) (d : Nat), Value.slice (some ⟨bb, oo, none⟩) l.length c = .slice D (ins l n).length d ∧ OwnL wr lo 3 1 inL (.slice D (ins l n).length d) (ins l n) ∧ InsR RW w wr D from by
            rw [HF.out]
            exact ⟨_, _, rfl, HOW.out, Kx.of_gr g, fun i hi => .inl (HRW.out.symm.trans hi)⟩)
          clear hm HP
          go_wp2_with fail
          go_ret
          obtain ⟨D, d, e1, e2⟩ := HFX.out
          exact ⟨D, d, congrArg Ending.returned e1, e2⟩
        · have HI := hide (show ins l n = siL l k n by rw [hm]; exact PosI.insN HU.out (i := m) (by rw [← hm]; exact HP.out) hz (by omega))
          have d2 : (z == n) = false := by simpa using he
          clear hm HP
          go_upto_region 4 with fail
          obtain ⟨L2, hL2⟩ : ∃ L2, l ++ [(0 : Int)] = L2 := ⟨_, rfl⟩
          have HL2 := hide hL2
          have HLE := hide (show L2.length = l.length + 1 by rw [← hL2, List.length_append]; rfl)
          clear hL2
          go_upto_region 6 with fail
          have ga := Gr.alloc (Gr.refl wr) (.cells #[iv 0] 3)
          go_upto_region 7 with (refine wpList_appZ rfl _ _ _ rfl inL lo 3 1 8 elInt (by decide) l [0] L2 HL2.out _ rfl (OwnL.gr HOW.out (Gr.alloc (Gr.refl wr) _)) _ 1 1 rfl rfl (by decide) (fun _ => rfl) (by intro j u hu; refine newsA wr #[iv 0] 3 j u ?_; exact hu) (by intro u hu; simp at hu; subst hu; rfl) (by omega) (by decide) (by simp only [World.size_alloc]; omega) ?_; intro gg cap1 w8 hO8 hG8 hgrow hat8 hg8)
          have HG8 := hide (show Kx (fun i => RW = some i) w w8 from Kx.grown (Kx.of_gr (g.trans (Gr.alloc (Gr.refl wr) _))) hgrow (fun k hk => .inl (HRW.out.symm.trans ((own_map HOW.out).1 hk))))
          have HD8 := hide (show RW = some gg ∨ w.heap.size ≤ gg from by
            rcases hat8 with h | h
            · exact .inl (HRW.out.symm.trans ((own_map HOW.out).1 h))
            · right
              have := g.size
              simp only [World.size_alloc] at h
              omega)
          have HO8 := hide (show OwnL w8 lo 3 1 inL (.slice (some ⟨gg, 0, none⟩) (l.length + 1) cap1) (siL l l.length 0) from by
            have := hO8
            rw [HLE.out, ← HL2.out, siL_end] at this
            exact this)
          have e8 := HLE.out
          clear hO8 hG8 hgrow hat8 HOW HL2 HLE ga
          rw [e8]
          clear e8
          go_upto_region 8 with fail
          go_loopw [6] (fun v wr2 => ∃ (q : Nat) (x : Int), k ≤ q ∧ q ≤ l.length ∧ v = iv q ∧ Hid (OwnL wr2 lo 3 1 inL (.slice (some ⟨gg, 0, none⟩) (l.length + 1) cap1) (siL l q x)) ∧ Hid (Kx (fun i => RW = some i) w wr2) ∧ gg < wr2.heap.size) (fun v _ => (intOf v).toNat)
          case atStart => exact ⟨l.length, 0, by omega, Nat.le_refl _, by go_num, HO8, HG8, hg8⟩
          case round =>
            obtain ⟨q, x, hq0, hq1, rfl, HO, HG, hgw⟩ := hrel
            clear HO8 HG8
            by_cases hqk : k < q
            · obtain ⟨m2, rfl⟩ : ∃ m2, q = m2 + 1 := ⟨q - 1, by omega⟩
              obtain ⟨z2, hz2⟩ : ∃ z, l[m2]? = some z := ⟨_, List.getElem?_eq_getElem (by omega)⟩
              have c1 : wr.cell? ⟨gg, m2, none⟩ = some (iv z2) := own_cI (by rw [siL_len hq1]) HO.out (siL_read hz2)
              obtain ⟨x', hx'⟩ : ∃ x', (siL l (m2 + 1) x)[m2 + 1]? = some x' := ⟨_, List.getElem?_eq_getElem (by rw [siL_len hq1]; omega)⟩
              have c2 : wr.cell? ⟨gg, m2 + 1, none⟩ = some (iv x') := own_cI (by rw [siL_len hq1]) HO.out hx'
              have c3 : wr.frozen? ⟨gg, m2 + 1, none⟩ = false := own_fI (by rw [siL_len hq1]) HO.out (m2 + 1)
              have hp := own_putI (k := m2 + 1) (by rw [siL_len hq1]) HO.out z2
              rw [siL_set hq1, siL_move hz2] at hp
              have HO' := hide hp.1
              have HG' := hide (Kx.set HG.out (m2 + 1) (iv z2) HD8.out)
              clear hp hx' hz2 HO HG
              have b0 : (0 : Int) ≤ (m2 : Int) := by omega
              have b1 : (m2 : Int) < (l.length : Int) := by omega
              have b2 : (k : Int) < (m2 : Int) + 1 := by omega
              have W3 : IntKind.i64.wrap ((m2 : Int) + 1 - 1) = (m2 : Int) := by rw [Int.add_sub_cancel]; exact IntWalk.i64_in _ (by omega)
              go_wp2_with fail
              go_roundw
              case rel => exact ⟨m2, z2, by omega, by omega, by go_num, HO', HG', by rw [World.size_setCell]; exact hgw⟩
              case measure => simp only [intOf]; omega
            · obtain rfl : k = q := by omega
              obtain ⟨x', hx'⟩ : ∃ x', (siL l k x)[k]? = some x' := ⟨_, List.getElem?_eq_getElem (by rw [siL_len hq1]; omega)⟩
              have c2 : wr.cell? ⟨gg, k, none⟩ = some (iv x') := own_cI (by rw [siL_len hq1]) HO.out hx'
              have c3 : wr.frozen? ⟨gg, k, none⟩ = false := own_fI (by rw [siL_len hq1]) HO.out k
              have hp := own_putI (k := k) (by rw [siL_len hq1]) HO.out n
              rw [siL_set hq1] at hp
              have HF := hide (show ∃ (D : Option Addr) (d : Nat), Value.slice (some ⟨gg, 0, none⟩) (l.length + 1) cap1 = .slice D (ins l n).length d ∧ OwnL (wr.setCell ⟨gg, k, none⟩ (iv n)) lo 3 1 inL (.slice D (ins l n).length d) (ins l n) ∧ InsR RW w (wr.setCell ⟨gg, k, none⟩ (iv n)) D from by
                rw [HI.out, siL_len hq1]
                exact ⟨_, _, rfl, hp.1, Kx.set HG.out _ (iv n) HD8.out, fun i hi => (show gg = i by simpa using hi) ▸ HD8.out⟩)
              clear hp hx' HO HG
              go_wp2_with fail
              go_ret
              obtain ⟨D, d, e1, e2⟩ := HF.out
              exact ⟨D, d, congrArg Ending.returned e1, e2⟩
theorem insert6_at {A : Option Addr} {m c : Nat} {l : List Int} {n : Int} {lo : Nat} {w : World} (hO : OwnL w lo 3 1 inL (.slice A m c) l) (hlo : lo ≤ w.heap.size) (hu : Up l) (hn : l.length ≤ 100000) :
    Calls Tryz.prog 138 #[.slice A m c, iv n] w fun e w' => ∃ (D : Option Addr) (N d : Nat), e = .returned (.slice D N d) ∧ OwnL w' lo 3 1 inL (.slice D N d) (ins l n) ∧ InsR (A.map Addr.block) w w' D := by
  obtain rfl : m = l.length := own_n6 hO
  refine (insert6_any A c l n lo w hO hlo hu hn).mono ?_
  rintro e w' ⟨D, d, h1, h2, h3⟩
  exact ⟨D, _, d, h1, h2, h3⟩
end RG
end Go.Proofs.YtddhaiaapomdjaaGreat
set_option linter.unusedVariables false
set_option linter.unusedSimpArgs false
namespace Go.Proofs.YtddhaiaapomdjaaGreat
set_option linter.unusedVariables false
set_option linter.unusedSimpArgs false
open Go Go.ChangeShapes Go.WideShapes Go.ChangeAt Go.RowKit Go.Deep

namespace RG
end RG
end Go.Proofs.YtddhaiaapomdjaaGreat
set_option linter.unusedVariables false
set_option linter.unusedSimpArgs false
namespace Go.Proofs.YtddhaiaapomdjaaGreat
set_option linter.unusedVariables false
set_option linter.unusedSimpArgs false
open Go Go.ChangeShapes Go.WideShapes Go.ChangeAt Go.RowKit Go.Deep

namespace RG
theorem at_ix {w : World} {b : Nat} : ∀ {vs : List Value} {o : Nat}, At w b o vs → ∀ j v, vs[j]? = some v → w.cell? ⟨b, o + j, none⟩ = some v
  | [], _, _, j, v, hv => by simp at hv
  | u :: vs, o, h, 0, v, hv => by
    simp only [List.getElem?_cons_zero, Option.some.injEq] at hv
    subst hv
    exact h.1
  | u :: vs, o, h, j + 1, v, hv => by
    have := at_ix h.2 j v (by simpa using hv)
    rwa [show o + 1 + j = o + (j + 1) by omega] at this
theorem news_rd {α : Type} {c : α → List Value} {k : Nat} {w : World} {b off : Nat} {l : List α} (hc : ∀ x, (c x).length = k) (hk : 0 < k) (h : RdL w k c (some ⟨b, off, none⟩) l) : ∀ j u, (l.flatMap c)[j]? = some u → w.cell? ((⟨b, off, none⟩ : Addr).add j) = some u := by
  intro j u hu
  have hfl : (l.flatMap c).length = l.length * k := fm_len hc l
  have hj := (List.getElem?_eq_some_iff.1 hu).1
  rw [hfl] at hj
  have hi : j / k < l.length := (Nat.div_lt_iff_lt_mul hk).2 hj
  have hr : j % k < k := Nat.mod_lt _ hk
  obtain ⟨b', off', e, hat⟩ := h (j / k) _ (List.getElem?_eq_getElem hi)
  cases e
  have hf := fm_at hc l (j / k) _ (j % k) (List.getElem?_eq_getElem hi) hr
  have hd : j / k * k + j % k = j := by rw [Nat.mul_comm]; exact Nat.div_add_mod j k
  rw [hd, hu] at hf
  have := at_ix hat (j % k) u hf.symm
  rw [addr_add]
  rwa [Nat.add_assoc, hd] at this
theorem own_n {α : Type} {c : α → List Value} {w : World} {base : Nat} {e : TypeId} {k n d : Nat} {A : Option Addr} {xs : List α} (h : OwnL w base e k c (.slice A n d) xs) : n = xs.length := by
  rcases h.2 with ⟨h1, h2⟩ | ⟨g, cap, cur, hv, hb, hh, hn, _⟩
  · cases h1
    exact h2.symm
  · cases hv
    rfl
theorem run_appL {P : Program} {w : World} (t ty : TypeId) {α : Type} (c : α → List Value) (base : Nat) (e : TypeId) (k bts : Nat) (T : ElT P t e k bts) (hk : 0 < k) (hl : ∀ y, (c y).length = k) (h1 : ∀ y, ∀ u ∈ c y, u.oneCell' = true) (xs zs : List α) (A : Option Addr) (n d : Nat) (hown : OwnL w base e k c (.slice A n d) xs)
    (B : Option Addr) (m q : Nat) (hz : RdL w k c B zs) (hzm : zs.length = m) (hm : xs.length + zs.length ≤ 1000000) (hb : bts ≤ 10000) (hbase : base ≤ w.heap.size) :
    ∃ D N d' w', (Builtin.append_ #[t, t] ty #[.slice A n d, .slice B m q]).run P w = .ok (.slice D N d') w' ∧ N = (xs ++ zs).length ∧ OwnL w' base e k c (.slice D N d') (xs ++ zs) ∧ (∀ b, Gr b w → b.heap.size ≤ base → Gr b w') ∧ w.grownBy w' (Value.slice A n d).ownBlock := by
  obtain ⟨i, z, hi, hzz, hsz, hby, hzs⟩ := T.inf
  subst hzm
  by_cases h0 : zs = []
  · subst h0
    refine ⟨A, n, d, w, ?_, by rw [List.append_nil]; exact own_n hown, by rw [List.append_nil]; exact hown, fun b hb _ => hb, World.grownBy.refl _ _⟩
    exact run_append_zero w t ty e i T.und hi A n d (own_cap hown) B q
  · have hpos : 0 < zs.length := List.length_pos_iff.2 h0
    obtain ⟨b, off, rfl, _⟩ := hz 0 _ (List.getElem?_eq_getElem hpos)
    have hlt := fun k hk => (World.ownsRow.lt hown k hk).1
    obtain ⟨g, cap, w', hr, h2, h3, h4, h5⟩ := run_append_lies (P := P) w t ty base e i z k bts T.und hi hzz hsz hby hzs hk (.slice A n d) xs.length (xs.flatMap c) hown ⟨b, off, none⟩ zs.length q (zs.flatMap c) (fm_len hl zs) (news_rd hl hk hz)
      (by intro u hu; obtain ⟨y, _, hy⟩ := List.mem_flatMap.1 hu; exact h1 y u hy) hpos (by unfold maxLen; omega) (Nat.le_trans (Nat.mul_le_mul hm hb) (by decide)) hbase _ rfl
    refine ⟨some ⟨g, 0, none⟩, xs.length + zs.length, cap, w', hr, List.length_append.symm, ?_, fun b hb hle => Gr.grown hb h3 (fun k hk => by have := hlt k hk; omega), h3⟩
    unfold OwnL
    rw [List.length_append, List.flatMap_append]
    exact h2
theorem wpList_appL {P : Program} {w : World} {ops : Array Oper} {rest : List Oper} {o : Oper} {a : Act} {Q : Exit → Act → World → Prop} (hgd : o.guard = none) (s x : Operand) (t : TypeId)
    (ho : o.op = .call { callee := .builtin .append, args := #[s, x], argTypes := #[t, t] })
    {α : Type} (c : α → List Value) (base : Nat) (e : TypeId) (k bts : Nat) (T : ElT P t e k bts) (hk : 0 < k) (hl : ∀ y, (c y).length = k) (h1 : ∀ y, ∀ u ∈ c y, u.oneCell' = true) (xs zs : List α) (A : Option Addr) (n d : Nat) (hs : a.eval s = .slice A n d) (hown : OwnL w base e k c (.slice A n d) xs)
    (B : Option Addr) (m q : Nat) (hx : a.eval x = .slice B m q) (hz : RdL w k c B zs) (hzm : zs.length = m) (hm : xs.length + zs.length ≤ 1000000) (hb : bts ≤ 10000) (hbase : base ≤ w.heap.size)
    (h : ∀ D N d' w', N = (xs ++ zs).length → OwnL w' base e k c (.slice D N d') (xs ++ zs) → (∀ b, Gr b w → b.heap.size ≤ base → Gr b w') → w.grownBy w' (Value.slice A n d).ownBlock → wpList P ops Q rest (a.put o.dst (.slice D N d')) w') : wpList P ops Q (o :: rest) a w := by
  refine wpList_plain hgd fun _ hK => ?_
  obtain ⟨D, N, d', w', hr, h2, h3, h4, h5⟩ := run_appL (P := P) (w := w) t o.type c base e k bts T hk hl h1 xs zs A n d hown B m q hz hzm hm hb hbase
  unfold Oper.wp execOp
  simp only [ho, resolve, invoke, builtin, Sem.run_bind, Sem.run_pure, Result.andThen_ok, List.map_toArray, List.map_cons, List.map_nil, hs, hx, hr]
  exact hK _ _ (h D N d' w' h2 h3 h4 h5)
end RG
end Go.Proofs.YtddhaiaapomdjaaGreat
set_option linter.unusedVariables false
set_option linter.unusedSimpArgs false
namespace Go.Proofs.YtddhaiaapomdjaaGreat
set_option linter.unusedVariables false
set_option linter.unusedSimpArgs false
open Go Go.ChangeShapes Go.WideShapes Go.ChangeAt Go.RowKit Go.Deep

namespace RG
end RG
end Go.Proofs.YtddhaiaapomdjaaGreat
set_option linter.unusedVariables false
set_option linter.unusedSimpArgs false
namespace Go.Proofs.YtddhaiaapomdjaaGreat
set_option linter.unusedVariables false
set_option linter.unusedSimpArgs false
open Go Go.ChangeShapes Go.WideShapes Go.ChangeAt Go.RowKit Go.Deep

namespace RG
theorem own_lo {α : Type} {c : α → List Value} {w : World} {base : Nat} {e : TypeId} {k n d : Nat} {A : Option Addr} {xs : List α} (h : OwnL w base e k c (.slice A n d) xs) {i : Nat} (hi : A.map Addr.block = some i) : base ≤ i ∧ i < w.heap.size := World.ownsRow.lt h i ((own_map h).2 hi)
theorem InsR.toGr {RW : Option Nat} {z w w' : World} {D : Option Addr} {lo : Nat} (h : InsR RW w w' D) (hlo : ∀ i, RW = some i → lo ≤ i) (g : Gr z w) (hz : z.heap.size ≤ lo) : Gr z w' := h.kx.toGr g fun i hi => Nat.le_trans hz (hlo i hi)
end RG
end Go.Proofs.YtddhaiaapomdjaaGreat
