/-
  Whether a side of a hull has no point of another on its left.
-/
import Derived.Test.YtegehdidfmcflaaDoorHolds2
namespace Go.Proofs.YtegehdidfmcflaaDoor
set_option linter.unusedVariables false
set_option linter.unusedSimpArgs false
open Go Go.ChangeShapes Go.WideShapes Go.ChangeAt Go.RowKit Go.Deep

def nlB (p q : Pt) (xs : List Pt) : Bool := xs.all fun x => decide (orP p q x ≤ 0)
theorem all_take_succ {α : Type} (f : α → Bool) (l : List α) (k : Nat) (x : α) (h : l[k]? = some x) : (l.take (k + 1)).all f = ((l.take k).all f && f x) := by
  rw [List.take_add_one, h]
  simp
theorem all_no {α : Type} (f : α → Bool) (l : List α) (k : Nat) (x : α) (h : l[k]? = some x) (hf : f x = false) : l.all f = false := by
  rw [List.all_eq_false]
  exact ⟨x, List.mem_of_getElem? h, by rw [hf]; simp⟩
set_option maxHeartbeats 1000000 in
theorem noneLeft_any (p q : Pt) (A : Option Addr) (c : Nat) (xs : List Pt) (w : World) (hx : Rd w A xs) (hp : PIn p) (hq : PIn q) (hxs : ∀ x ∈ xs, PIn x) (lx : xs.length ≤ 1000000) :
    Calls Tryd.prog 35 #[pv p, pv q, .slice A xs.length c] w fun e w' => e = .returned (.bool (nlB p q xs)) ∧ Gr w w' := by
  obtain ⟨pa, pb, pc, pd⟩ := p
  obtain ⟨qa, qb, qc, qd⟩ := q
  have HX := hide hx
  have HXS := hide hxs
  clear hx hxs
  go_enter Tryd.func35, Tryd.ntmps35
  go_wp2
  go_loopw [11] (fun i wr => ∃ k : Nat, k ≤ xs.length ∧ i = iv k ∧ Gr ((w.alloc (.cells #[iv pa, iv pb, iv pc, iv pd] 33)).alloc (.cells #[iv qa, iv qb, iv qc, iv qd] 33)) wr ∧ Hid ((xs.take k).all (fun x => decide (orP (pa, pb, pc, pd) (qa, qb, qc, qd) x ≤ 0)) = true)) (fun i _ => xs.length - (intOf i).toNat)
  case atStart => exact ⟨0, by omega, rfl, Gr.refl _, by simp [Hid]⟩
  case round =>
    obtain ⟨k, hk, rfl, g, HT⟩ := hrel
    by_cases hlt : k < xs.length
    · obtain ⟨x, hxk⟩ : ∃ x, xs[k]? = some x := ⟨_, List.getElem?_eq_getElem hlt⟩
      obtain ⟨b, off, rfl, x0, x1, x2, x3⟩ := (HX.out.gr ((Gr.alloc (Gr.alloc (Gr.refl w) _) _).trans g)) k x hxk
      have HPx := HXS.out x (List.mem_of_getElem? hxk)
      have HN := hide (all_take_succ (fun x => decide (orP (pa, pb, pc, pd) (qa, qb, qc, qd) x ≤ 0)) xs k x hxk)
      have HK := hide hxk
      clear hxk
      obtain ⟨X1, Y1, c1, f1⟩ := g.use
      have z1 := g.size
      simp only [World.size_alloc] at z1
      have l0 : w.heap.size < wr.heap.size := by omega
      have l1 : w.heap.size + 1 < wr.heap.size := by omega
      have K := fun w => orient_any pa pb pc pd qa qb qc qd x.1 x.2.1 x.2.2.1 x.2.2.2 w hp hq HPx
      have HKK : Hid (∀ w, Calls Tryd.prog 45 #[pv (pa, pb, pc, pd), pv (qa, qb, qc, qd), pv x] w fun e w' => e = .returned (iv (orP (pa, pb, pc, pd) (qa, qb, qc, qd) x)) ∧ Gr w w') := K
      clear K
      by_cases ho : orP (pa, pb, pc, pd) (qa, qb, qc, qd) x ≤ 0
      · have hd : ¬ 0 < orP (pa, pb, pc, pd) (qa, qb, qc, qd) x := by omega
        have HT1 : Hid ((xs.take (k + 1)).all (fun x => decide (orP (pa, pb, pc, pd) (qa, qb, qc, qd) x ≤ 0)) = true) := by unfold Hid; rw [HN.out, HT.out]; simp [ho]
        have gw : Gr w wr := (Gr.alloc (Gr.alloc (Gr.refl w) _) _).trans g
        clear HT
        generalize orP (pa, pb, pc, pd) (qa, qb, qc, qd) x = z at *
        go_wp2_with fail
        refine (HKK.out _).mono ?_
        rintro e w1 ⟨rfl, g1⟩
        go_wp2
        go_roundw
        case rel => exact ⟨k + 1, by omega, by go_num, (by repeat (first | with_reducible exact Gr.refl _ | with_reducible assumption | with_reducible refine Gr.alloc ?_ _ | with_reducible refine Gr.drewN ?_ _ | with_reducible refine Gr.drew ?_ | with_reducible refine Gr.setCell ?_ (by first | (dsimp only; omega) | (simp only [World.size_alloc]; omega) | (with_reducible refine Gr.size ?_; (repeat (first | with_reducible exact Gr.refl _ | with_reducible assumption | with_reducible refine Gr.alloc ?_ _ | with_reducible refine Gr.drewN ?_ _ | with_reducible refine Gr.drew ?_ | with_reducible refine Gr.trans ?_ (by with_reducible assumption))); done)) _ | with_reducible refine Gr.trans ?_ (by with_reducible assumption))), HT1⟩
        case measure => simp [intOf]; omega
      · have hd : 0 < orP (pa, pb, pc, pd) (qa, qb, qc, qd) x := by omega
        have hno : nlB (pa, pb, pc, pd) (qa, qb, qc, qd) xs = false := all_no _ _ _ _ HK.out (by simp; omega)
        have HNO := hide hno
        have gw : Gr w wr := (Gr.alloc (Gr.alloc (Gr.refl w) _) _).trans g
        clear hno
        generalize orP (pa, pb, pc, pd) (qa, qb, qc, qd) x = z at *
        go_wp2_with fail
        refine (HKK.out _).mono ?_
        rintro e w1 ⟨rfl, g1⟩
        go_wp2
        go_ret
        exact ⟨ret_bool HNO.out.symm, (by repeat (first | with_reducible exact Gr.refl _ | with_reducible assumption | with_reducible refine Gr.alloc ?_ _ | with_reducible refine Gr.drewN ?_ _ | with_reducible refine Gr.drew ?_ | with_reducible refine Gr.setCell ?_ (by first | (dsimp only; omega) | (simp only [World.size_alloc]; omega) | (with_reducible refine Gr.size ?_; (repeat (first | with_reducible exact Gr.refl _ | with_reducible assumption | with_reducible refine Gr.alloc ?_ _ | with_reducible refine Gr.drewN ?_ _ | with_reducible refine Gr.drew ?_ | with_reducible refine Gr.trans ?_ (by with_reducible assumption))); done)) _ | with_reducible refine Gr.trans ?_ (by with_reducible assumption)))⟩
    · obtain rfl : k = xs.length := by omega
      have hyes : nlB (pa, pb, pc, pd) (qa, qb, qc, qd) xs = true := by have := HT.out; rwa [List.take_length] at this
      have HY := hide hyes
      have gw : Gr w wr := (Gr.alloc (Gr.alloc (Gr.refl w) _) _).trans g
      clear hyes
      go_wp2
      go_ret
      exact ⟨ret_bool HY.out.symm, gw⟩
def sideB (ys zs : List Pt) (i : Nat) : Bool :=
  match ys[i]?, ys[(i + 1) % ys.length]? with
  | some p, some q => !decide (q = p) && nlB p q zs
  | _, _ => false
def sepB (ys zs : List Pt) : Bool := (List.range ys.length).any (sideB ys zs)
set_option maxHeartbeats 1000000 in
set_option maxRecDepth 100000 in
theorem separates_any (A B : Option Addr) (c d : Nat) (ys zs : List Pt) (w : World) (hy : Rd w A ys) (hz : Rd w B zs) (py : ∀ p ∈ ys, PIn p) (pz : ∀ p ∈ zs, PIn p) (ly : ys.length ≤ 1000) (lz : zs.length ≤ 1000000) :
    Calls Tryd.prog 20 #[.slice A ys.length c, .slice B zs.length d] w fun e w' => e = .returned (.bool (sepB ys zs)) ∧ Gr w w' := by
  have HY := hide hy
  have HZ := hide hz
  have HPY := hide py
  have HPZ := hide pz
  clear hy hz py pz
  go_enter Tryd.func20, Tryd.ntmps20
  go_wp2
  go_loopw [10] (fun i wr => ∃ k : Nat, k ≤ ys.length ∧ i = iv k ∧ Gr w wr ∧ Hid (∀ j, j < k → sideB ys zs j = false)) (fun i _ => ys.length - (intOf i).toNat)
  case atStart => exact ⟨0, by omega, rfl, Gr.refl _, fun j hj => by omega⟩
  case round =>
    obtain ⟨k, hk, rfl, g, HT⟩ := hrel
    by_cases hlt : k < ys.length
    · obtain ⟨p, hp⟩ : ∃ p, ys[k]? = some p := ⟨_, List.getElem?_eq_getElem hlt⟩
      obtain ⟨r1, hr1⟩ : ∃ r1, r1 = (k + 1) % ys.length := ⟨_, rfl⟩
      have hk1 : r1 < ys.length := hr1 ▸ Nat.mod_lt _ (by omega)
      obtain ⟨q, hq⟩ : ∃ q, ys[r1]? = some q := ⟨_, List.getElem?_eq_getElem hk1⟩
      have t1 : Int.tmod ((k : Int) + 1) (ys.length : Int) = (r1 : Int) := by rw [hr1, Int.tmod_eq_emod_of_nonneg (by omega)]; simp
      have hs : sideB ys zs k = (!decide (q = p) && nlB p q zs) := by unfold sideB; rw [← hr1, hp, hq]
      have HR1 := hide hr1
      have HS := hide hs
      clear hr1 hs
      have HPp := HPY.out p (List.mem_of_getElem? hp)
      have HPq := HPY.out q (List.mem_of_getElem? hq)
      obtain ⟨b, off, rfl, p0, p1, p2, p3⟩ := (HY.out.gr g) k p hp
      obtain ⟨b', off', e', q0, q1, q2, q3⟩ := (HY.out.gr g) r1 q hq
      cases e'
      have hbl : b < wr.heap.size := cell_lt (by rw [p0]; rfl)
      clear hp hq
      have m1 : IntKind.i64.wrap ((k : Int) + 1) = (k : Int) + 1 := IntWalk.i64_in _ (by omega)
      have m3 : IntKind.i64.wrap (r1 : Int) = (r1 : Int) := IntWalk.i64_in _ (by omega)
      have z0 : ((ys.length : Int) == 0) = false := by rw [beq_eq_false_iff_ne]; omega
      have NEQ := fun w => eqInPt q p w
      have GP := gPt
      have HKK : Hid (∀ w', Gr w w' → Calls Tryd.prog 35 #[pv p, pv q, .slice B zs.length d] w' fun e w'' => e = .returned (.bool (nlB p q zs)) ∧ Gr w' w'') :=
        fun w' gw => noneLeft_any p q B d zs w' (HZ.out.gr gw) HPp HPq HPZ.out lz
      have more : sideB ys zs k = false → ∀ j, j < k + 1 → sideB ys zs j = false := fun h j hj => by
        rcases Nat.lt_or_eq_of_le (Nat.le_of_lt_succ hj) with h' | rfl
        · exact HT.out j h'
        · exact h
      have HMO := hide more
      clear more
      by_cases hpq : q = p
      · have hd : decide (q = p) = true := by simp [hpq]
        have HN : Hid (∀ j, j < k + 1 → sideB ys zs j = false) := HMO.out (by rw [HS.out, hd]; rfl)
        clear hpq
        go_wp2
        go_roundw
        case rel => exact ⟨k + 1, by omega, by go_num, (by repeat (first | with_reducible exact Gr.refl _ | with_reducible assumption | with_reducible refine Gr.alloc ?_ _ | with_reducible refine Gr.drewN ?_ _ | with_reducible refine Gr.drew ?_ | with_reducible refine Gr.setCell ?_ (by first | (dsimp only; omega) | (simp only [World.size_alloc]; omega) | (with_reducible refine Gr.size ?_; (repeat (first | with_reducible exact Gr.refl _ | with_reducible assumption | with_reducible refine Gr.alloc ?_ _ | with_reducible refine Gr.drewN ?_ _ | with_reducible refine Gr.drew ?_ | with_reducible refine Gr.trans ?_ (by with_reducible assumption))); done)) _ | with_reducible refine Gr.trans ?_ (by with_reducible assumption))), HN⟩
        case measure => simp [intOf]; omega
      · have hd : decide (q = p) = false := by simp [hpq]
        clear hpq
        by_cases hn : nlB p q zs = true
        · have hyes : sepB ys zs = true := List.any_eq_true.2 ⟨k, List.mem_range.2 hlt, by rw [HS.out, hd, hn]; rfl⟩
          have HYES := hide hyes
          clear hyes
          go_wp2_with fail
          refine (HKK.out _ (by repeat (first | with_reducible exact Gr.refl _ | with_reducible assumption | with_reducible refine Gr.alloc ?_ _ | with_reducible refine Gr.drewN ?_ _ | with_reducible refine Gr.drew ?_ | with_reducible refine Gr.setCell ?_ (by first | (dsimp only; omega) | (simp only [World.size_alloc]; omega) | (with_reducible refine Gr.size ?_; (repeat (first | with_reducible exact Gr.refl _ | with_reducible assumption | with_reducible refine Gr.alloc ?_ _ | with_reducible refine Gr.drewN ?_ _ | with_reducible refine Gr.drew ?_ | with_reducible refine Gr.trans ?_ (by with_reducible assumption))); done)) _ | with_reducible refine Gr.trans ?_ (by with_reducible assumption)))).mono ?_
          rintro e w1 ⟨rfl, g1⟩
          go_wp2
          go_ret
          exact ⟨ret_bool HYES.out.symm, (by repeat (first | with_reducible exact Gr.refl _ | with_reducible assumption | with_reducible refine Gr.alloc ?_ _ | with_reducible refine Gr.drewN ?_ _ | with_reducible refine Gr.drew ?_ | with_reducible refine Gr.setCell ?_ (by first | (dsimp only; omega) | (simp only [World.size_alloc]; omega) | (with_reducible refine Gr.size ?_; (repeat (first | with_reducible exact Gr.refl _ | with_reducible assumption | with_reducible refine Gr.alloc ?_ _ | with_reducible refine Gr.drewN ?_ _ | with_reducible refine Gr.drew ?_ | with_reducible refine Gr.trans ?_ (by with_reducible assumption))); done)) _ | with_reducible refine Gr.trans ?_ (by with_reducible assumption)))⟩
        · have hn' : nlB p q zs = false := by simpa using hn
          have HN : Hid (∀ j, j < k + 1 → sideB ys zs j = false) := HMO.out (by rw [HS.out, hn']; simp)
          clear hn
          go_wp2_with fail
          refine (HKK.out _ (by repeat (first | with_reducible exact Gr.refl _ | with_reducible assumption | with_reducible refine Gr.alloc ?_ _ | with_reducible refine Gr.drewN ?_ _ | with_reducible refine Gr.drew ?_ | with_reducible refine Gr.setCell ?_ (by first | (dsimp only; omega) | (simp only [World.size_alloc]; omega) | (with_reducible refine Gr.size ?_; (repeat (first | with_reducible exact Gr.refl _ | with_reducible assumption | with_reducible refine Gr.alloc ?_ _ | with_reducible refine Gr.drewN ?_ _ | with_reducible refine Gr.drew ?_ | with_reducible refine Gr.trans ?_ (by with_reducible assumption))); done)) _ | with_reducible refine Gr.trans ?_ (by with_reducible assumption)))).mono ?_
          rintro e w1 ⟨rfl, g1⟩
          go_wp2
          go_roundw
          case rel => exact ⟨k + 1, by omega, by go_num, (by repeat (first | with_reducible exact Gr.refl _ | with_reducible assumption | with_reducible refine Gr.alloc ?_ _ | with_reducible refine Gr.drewN ?_ _ | with_reducible refine Gr.drew ?_ | with_reducible refine Gr.setCell ?_ (by first | (dsimp only; omega) | (simp only [World.size_alloc]; omega) | (with_reducible refine Gr.size ?_; (repeat (first | with_reducible exact Gr.refl _ | with_reducible assumption | with_reducible refine Gr.alloc ?_ _ | with_reducible refine Gr.drewN ?_ _ | with_reducible refine Gr.drew ?_ | with_reducible refine Gr.trans ?_ (by with_reducible assumption))); done)) _ | with_reducible refine Gr.trans ?_ (by with_reducible assumption))), HN⟩
          case measure => simp [intOf]; omega
    · obtain rfl : k = ys.length := by omega
      have hno : sepB ys zs = false := by
        unfold sepB
        rw [List.any_eq_false]
        intro j hj
        rw [HT.out j (List.mem_range.1 hj)]
        simp
      have HNO := hide hno
      clear hno
      go_wp2
      go_ret
      exact ⟨ret_bool HNO.out.symm, g⟩
end Go.Proofs.YtegehdidfmcflaaDoor
