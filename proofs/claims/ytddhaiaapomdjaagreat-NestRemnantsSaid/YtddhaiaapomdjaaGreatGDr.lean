/-
  Nests: the library's sorts of many numbers; the rows of a field that its bars leave.
  Nests: the rows of a field, of the code.
  Nests: the first place of a field, of the code.
-/
import Derived.Test.YtddhaiaapomdjaaGreatGCr
import Derived.Test.YtddhaiaapomdjaaGreatLayD
set_option linter.unusedVariables false
set_option linter.unusedSimpArgs false
namespace Go.Proofs.YtddhaiaapomdjaaGreat
set_option linter.unusedVariables false
set_option linter.unusedSimpArgs false
open Go Go.ChangeShapes Go.WideShapes Go.ChangeAt Go.RowKit Go.Deep

namespace RG
/-- slices.Sort of many numbers -/
theorem sortM (D : Option Addr) (d : Nat) (xs : List Int) (w w0 : World) (h : OwnL w w0.heap.size 3 1 inL (.slice D xs.length d) xs) (g0 : Gr w0 w) (h0 : xs ≠ []) (h1000 : xs.length ≤ 1000000) :
    Calls Tryz.prog 129 #[.slice D xs.length d] w fun e w' =>
      e = .returned (.tuple #[]) ∧ ∃ ys, ys.Perm xs ∧ ys.Pairwise (· ≤ ·) ∧ OwnL w' w0.heap.size 3 1 inL (.slice D ys.length d) ys ∧ Gr w0 w' := by
  rcases h.2 with ⟨h1, h2⟩ | ⟨g, cap, cur, hv, hb, hh, _⟩
  · exact absurd (List.eq_nil_of_length_eq_zero h2) h0
  · cases hv
    refine (Go.Proofs.Any.slices_Sort_int Tryz.layFSort g 0 d xs w (own_holds h) (Array.getElem?_eq_some_iff.1 hh).1 (by omega)).mono ?_
    rintro e w' ⟨rfl, n, os, rfl⟩
    have hp : (xs.mergeSort fun x y => decide (x ≤ y)).Perm xs := List.mergeSort_perm _ _
    refine ⟨rfl, _, hp, ?_, ?_, ?_⟩
    · have := List.pairwise_mergeSort (le := fun x y : Int => decide (x ≤ y)) (fun a b c h1 h2 => by simp at *; omega) (fun a b => by simp; omega) xs
      exact this.imp fun h => by simpa using h
    · have := own_sorted h (d := (xs.mergeSort fun x y => decide (x ≤ y)).toArray) (n := (xs.mergeSort fun x y => decide (x ≤ y)).length) (by simp) n os (by simp)
      exact this
    · exact gr_sorted g0 hb n _ os
theorem cut_world {w : World} {g q : Nat} (dd : Array Int) : Go.Sort.putRow (Value.int .i64) (Go.Sort.ahead w q) g 0 dd = Go.Proofs.sortWorld (Value.int .i64) w g 0 q dd #[] := by
  unfold Go.Proofs.sortWorld
  rw [Go.Sort.grow_empty]
/-- slices.Compact of many numbers -/
theorem compactM (D : Option Addr) (d : Nat) (xs : List Int) (w w0 : World) (h : OwnL w w0.heap.size 3 1 inL (.slice D xs.length d) xs) (g0 : Gr w0 w) (h0 : xs ≠ []) (h1000 : xs.length ≤ 1000000) :
    Calls Tryz.prog 130 #[.slice D xs.length d] w fun e w' =>
      e = .returned (.slice D (Go.Lib.compact xs).length d) ∧ OwnL w' w0.heap.size 3 1 inL (.slice D (Go.Lib.compact xs).length d) (Go.Lib.compact xs) ∧ Gr w0 w' := by
  rcases h.2 with ⟨h1, h2⟩ | ⟨g, cap, cur, hv, hb, hh, hn, _⟩
  · exact absurd (List.eq_nil_of_length_eq_zero h2) h0
  · cases hv
    have hcon := Go.Proofs.Any.slices_Compact_int Tryz.layFCompact g 0 d xs w (own_holds h) (by omega) hn
    refine hcon.mono ?_
    rintro e w' ⟨rfl, q, rfl⟩
    have hl := compactI_len xs
    rw [cut_world]
    exact ⟨rfl, own_cutI (ys := List.replicate (xs.length - (Go.Lib.compact xs).length) 0) (own_sorted h (by simp; omega) q #[] (n := xs.length) (by simp; omega)) (by simp; omega), gr_sorted g0 hb q _ #[]⟩
/-- whether a row is out of the field -/
theorem rows1_any (B1 : Nat) (f : Br) (V : Value) (x : Int) (w : World) (h : Made w B1 #[iv f.l, iv f.r, iv f.b, iv f.t, V]) :
    Calls Tryz.prog 148 #[iv x, .pointer (some ⟨B1, 0, none⟩)] w fun e w' => e = .returned (.bool (!wiB x f.b f.t)) ∧ w' = w := by
  have c2 : w.cell? ⟨B1, 2, none⟩ = some (iv f.b) := h.2.1 2
  have c3 : w.cell? ⟨B1, 3, none⟩ = some (iv f.t) := h.2.1 3
  have hl := h.1
  clear h
  go_enter Tryz.func148, Tryz.ntmps148
  go_wp2_with (first | (go_at_call 60; refine (nwithin_any _ _ _ _).mono ?_; rintro e w1 ⟨rfl, rfl⟩))
  go_ret
  exact ⟨ret_bool (by simp), rfl⟩
/-- slices.DeleteFunc of the rows out of the field -/
theorem delM (D : Option Addr) (d : Nat) (xs : List Int) (w w0 : World) (h : OwnL w w0.heap.size 3 1 inL (.slice D xs.length d) xs) (g0 : Gr w0 w) (h0 : xs ≠ []) (h1000 : xs.length ≤ 1000000) (B1 : Nat) (f : Br) (V : Value) (hB : Made w0 B1 #[iv f.l, iv f.r, iv f.b, iv f.t, V]) :
    Calls Tryz.prog 147 #[.slice D xs.length d, .func (.func 148) #[] #[.pointer (some ⟨B1, 0, none⟩)]] w fun e w' =>
      e = .returned (.slice D (xs.filter fun y => wiB y f.b f.t).length d) ∧ OwnL w' w0.heap.size 3 1 inL (.slice D (xs.filter fun y => wiB y f.b f.t).length d) (xs.filter fun y => wiB y f.b f.t) ∧ Gr w0 w' := by
  rcases h.2 with ⟨h1, h2⟩ | ⟨g, cap, cur, hv, hb, hh, hn, _⟩
  · exact absurd (List.eq_nil_of_length_eq_zero h2) h0
  · cases hv
    have eg : ∀ args w, (callFunc 148 args).run Tryz.prog w = .ok (.enter 148 args) w := enters_of Tryz.func148 (by kernel_rfl) rfl
    have hp : Go.Proofs.PredAt Tryz.prog 148 #[.pointer (some ⟨B1, 0, none⟩)] (Value.int .i64) (fun y => !wiB y f.b f.t) w := fun W x hW => by
      have gW : Gr w W := hW
      exact (rows1_any B1 f V x W (hB.gr (g0.trans gW))).mono fun e w' ⟨h1, h2⟩ => ⟨h1, 0, by rw [h2]; rfl⟩
    have hpo : Go.Proofs.PredOver Tryz.prog 148 #[.pointer (some ⟨B1, 0, none⟩)] (Value.int .i64) (fun y => !wiB y f.b f.t) g 0 xs.toArray.size w := fun n os dk x hdk => by
      have gW : Gr w0 (Go.Proofs.sortWorld (Value.int .i64) w g 0 n dk os) := gr_sorted g0 hb n dk os
      exact (rows1_any B1 f V x _ (hB.gr gW)).mono fun e w' ⟨h1, h2⟩ => ⟨h1, 0, by rw [h2]; rfl⟩
    have hcon := Go.Proofs.AnyE.slices_DeleteFunc Tryz.layFDel (Value.int .i64) (fun _ => rfl) (fun y => !wiB y f.b f.t) 148 #[.pointer (some ⟨B1, 0, none⟩)] eg 0 Tryz.zeroValue3 g 0 d xs.toArray w hp hpo (own_holds h) (by simp; omega) (by simpa using hn)
    rw [List.size_toArray] at hcon
    refine hcon.mono ?_
    rintro e w' ⟨rfl, q, rfl⟩
    have e2 : (xs.filter fun x => !(fun y => !wiB y f.b f.t) x) = xs.filter fun y => wiB y f.b f.t := by
      congr 1
      funext y
      simp
    simp only [] 
    rw [e2]
    have hl : (xs.filter fun y => wiB y f.b f.t).length ≤ xs.length := List.length_filter_le _ _
    rw [cut_world]
    exact ⟨rfl, own_cutI (ys := List.replicate (xs.length - (xs.filter fun y => wiB y f.b f.t).length) 0) (own_sorted h (by simp; omega) q #[] (n := xs.length) (by simp; omega)) (by simp; omega), gr_sorted g0 hb q _ #[]⟩
end RG
end Go.Proofs.YtddhaiaapomdjaaGreat
set_option linter.unusedVariables false
set_option linter.unusedSimpArgs false
namespace Go.Proofs.YtddhaiaapomdjaaGreat
set_option linter.unusedVariables false
set_option linter.unusedSimpArgs false
open Go Go.ChangeShapes Go.WideShapes Go.ChangeAt Go.RowKit Go.Deep

namespace RG
theorem own_lit1 (w : World) (x : Int) (base : Nat) (hb : base ≤ w.heap.size) : OwnL (w.alloc (.cells #[iv x] 3)) base 3 1 inL (.slice (some ⟨w.heap.size, 0, none⟩) 1 1) [x] := by
  refine ⟨rfl, .inr ⟨w.heap.size, 1, #[iv x], rfl, hb, ?_, Nat.le_refl _, by unfold maxLen; omega, rfl, rfl⟩⟩
  show (w.heap.push _)[w.heap.size]? = _
  simp
/-- the rows before they are sorted -/
def ryL (f : Br) (l : List Br) : List Int := f.b :: l.map fun b => b.t + 1
theorem ryL_snoc {f : Br} {l : List Br} {k : Nat} {b : Br} (h : l[k]? = some b) : ryL f (l.take (k + 1)) = ryL f (l.take k) ++ [b.t + 1] := by
  unfold ryL
  rw [take_at h]
  simp
theorem ryL_rows {f : Br} {l : List Br} {ys : List Int} (hp : ys.Perm (ryL f l)) (hs : ys.Pairwise (· ≤ ·)) : RowsOf f l ((Go.Lib.compact ys).filter fun y => wiB y f.b f.t) := by
  refine ⟨(compactI_up ys hs).filter _, fun y => ?_⟩
  rw [List.mem_filter, mem_compactI, hp.mem_iff, wiB_iff]
  unfold ryL
  rw [List.mem_cons, List.mem_map]
  constructor
  · rintro ⟨h1 | ⟨b, hb, e⟩, h2⟩
    · exact ⟨.inl h1, h2⟩
    · exact ⟨.inr ⟨b, hb, e.symm⟩, h2⟩
  · rintro ⟨h1 | ⟨b, hb, e⟩, h2⟩
    · exact ⟨.inl h1, h2⟩
    · exact ⟨.inr ⟨b, hb, e.symm⟩, h2⟩
set_option maxHeartbeats 4000000 in
set_option maxRecDepth 100000 in
theorem rows_any (f : Br) (A : Option Addr) (c : Nat) (l : List Br) (w : World) (hl : SlBr w A c l) (hb : BrS l) (hn : l.length ≤ 900000) :
    Calls Tryz.prog 114 #[fdv f A l.length c] w fun e w' => ∃ D q R, e = .returned (.slice D R.length q) ∧ SlI w' D q R ∧ RowsOf f l R ∧ Gr w w' := by
  have n1 := hl.cap
  have n2 := hl.capB
  have HB := hide hb
  have HW := hide (fun (k : Nat) (b : Br) (h : l[k]? = some b) => ryL_snoc (f := f) h)
  have HR := hide (fun (ys : List Int) (hp : ys.Perm (ryL f l)) (hs : ys.Pairwise (· ≤ ·)) => ryL_rows hp hs)
  have HLN := hide (fun (k : Nat) => show (ryL f (l.take k)).length ≤ 900001 by unfold ryL; rw [List.length_cons, List.length_map, List.length_take]; omega)
  have g0 : Gr w (w.alloc (.cells #[iv f.l, iv f.r, iv f.b, iv f.t, .slice A l.length c] 119)) := Gr.alloc (Gr.refl _) _
  have M1 := hide (Made.new w #[iv f.l, iv f.r, iv f.b, iv f.t, .slice A l.length c] 119)
  have HL := hide (hl.gr g0)
  clear hl hb
  go_enter Tryz.func114, Tryz.ntmps114
  go_wp2
  have HO0 := hide (own_lit1 (w.alloc (.cells #[iv f.l, iv f.r, iv f.b, iv f.t, .slice A l.length c] 119)) f.b _ (Nat.le_refl _))
  rw [World.size_alloc] at HO0
  have g1 : Gr (w.alloc (.cells #[iv f.l, iv f.r, iv f.b, iv f.t, .slice A l.length c] 119)) ((w.alloc (.cells #[iv f.l, iv f.r, iv f.b, iv f.t, .slice A l.length c] 119)).alloc (.cells #[iv f.b] 3)) := Gr.alloc (Gr.refl _) _
  generalize (w.alloc (.cells #[iv f.l, iv f.r, iv f.b, iv f.t, .slice A l.length c] 119)).alloc (.cells #[iv f.b] 3) = w2 at *
  have hs1 : (w.alloc (.cells #[iv f.l, iv f.r, iv f.b, iv f.t, .slice A l.length c] 119)).heap.size = w.heap.size + 1 := World.size_alloc _ _
  generalize w.alloc (.cells #[iv f.l, iv f.r, iv f.b, iv f.t, .slice A l.length c] 119) = w1 at *
  rw [← hs1] at HO0
  go_loopw [3, 13] (fun xv i wr => ∃ (k : Nat) (O : List Int) (A1 : Option Addr) (d1 : Nat), k ≤ l.length ∧ i = iv k ∧ xv = .slice A1 O.length d1 ∧ Gr w1 wr ∧ Hid (OwnL wr w1.heap.size 3 1 inL (.slice A1 O.length d1) O) ∧ Hid (O = ryL f (l.take k))) (fun _ i _ => l.length - (intOf i).toNat)
  case atStart => exact ⟨0, [f.b], some ⟨w1.heap.size, 0, none⟩, 1, by omega, rfl, by first | rfl | rw [hs1]; rfl, g1, HO0, by rw [List.take_zero]; rfl⟩
  case round =>
    obtain ⟨k, O, A1, d1, hk, rfl, rfl, g, HO, HE⟩ := hrel
    have hO : O.length ≤ 900001 := by rw [HE.out]; exact HLN.out k
    obtain ⟨m0, m1, m2⟩ := M1.out.gr g
    have z2 := m1 2
    have z4 := m1 4
    have z3 := m1 3
    clear m1 m2
    by_cases hkl : k < l.length
    · obtain ⟨b, hbk⟩ : ∃ b, l[k]? = some b := ⟨_, List.getElem?_eq_getElem hkl⟩
      obtain ⟨B, o, hA, x0, x1, x2, x3⟩ := (HL.out.gr g).at_ hbk
      subst hA
      have hbl : B < wr.heap.size := cell_lt (by rw [x0]; rfl)
      obtain ⟨_, _, _, q1, q2⟩ := HB.out b (List.mem_of_getElem? hbk)
      have hk0 : (0 : Int) ≤ (k : Int) := by omega
      have hk1 : (k : Int) < (l.length : Int) := by omega
      have sg := g.size
      have W1 : IntKind.i64.wrap (b.t + 1) = b.t + 1 := IntWalk.i64_in _ (by omega)
      obtain ⟨O2, hO2⟩ : ∃ O2, O ++ [b.t + 1] = O2 := ⟨_, rfl⟩
      have HO2 := hide hO2
      have HE2 := hide (show O2 = ryL f (l.take (k + 1)) by rw [HW.out k b hbk, ← HE.out]; exact hO2.symm)
      clear hO2 hbk HE
      go_wp2_with (refine wpList_app1 rfl _ _ _ rfl inL w1.heap.size 3 1 8 elInt (by decide) O (b.t + 1) O2 HO2.out _ rfl (OwnL.gr HO.out (by with_reducible repeat (first | exact Gr.refl _ | assumption | refine Gr.alloc ?_ _ | refine Gr.drewN ?_ _ | refine Gr.drew ?_ | refine Gr.setCell ?_ (by first | (dsimp only; omega) | (simp only [World.size_alloc]; omega) | (refine Gr.size ?_; (repeat (first | exact Gr.refl _ | assumption | refine Gr.alloc ?_ _ | refine Gr.drewN ?_ _ | refine Gr.drew ?_ | refine Gr.trans ?_ (by assumption))); done)) _ | refine Gr.trans ?_ (by assumption)))) _ 1 rfl rfl (by intro j u hu; refine newsB _ _ #[iv (b.t + 1)] 3 j u ?_; exact hu) (by intro u hu; simp at hu; subst hu; rfl) (by omega) (by decide) (by simp only [World.size_alloc]; omega) ?_; intro gg cap1 w8 hO8 hG8 _ _ hlt8)
      have HO8 := hide hO8
      have g8 := hG8 w1 (g.trans (by with_reducible repeat (first | exact Gr.refl _ | assumption | refine Gr.alloc ?_ _ | refine Gr.drewN ?_ _ | refine Gr.drew ?_ | refine Gr.setCell ?_ (by first | (dsimp only; omega) | (simp only [World.size_alloc]; omega) | (refine Gr.size ?_; (repeat (first | exact Gr.refl _ | assumption | refine Gr.alloc ?_ _ | refine Gr.drewN ?_ _ | refine Gr.drew ?_ | refine Gr.trans ?_ (by assumption))); done)) _ | refine Gr.trans ?_ (by assumption)))) (Nat.le_refl _)
      clear hG8 hO8
      go_roundw
      case rel => exact ⟨k + 1, O2, some ⟨gg, 0, none⟩, cap1, by omega, by go_num, rfl, g8, HO8, HE2⟩
      case measure => simp only [intOf]; omega
    · obtain rfl : k = l.length := by omega
      rw [List.take_length] at HE
      have HNE := hide (show O ≠ [] by rw [HE.out]; unfold ryL; simp)
      go_wp2_with fail
      refine (sortM A1 d1 O wr w1 HO.out g HNE.out (by omega)).mono ?_
      rintro e w5 ⟨rfl, ys, hperm, hs, ho2, g2⟩
      have HK := hide (HR.out ys (by rw [← HE.out]; exact hperm) hs)
      have hle := hperm.length_eq
      have hyne := hide (show ys ≠ [] by intro e; rw [e] at hle; exact HNE.out (List.eq_nil_of_length_eq_zero hle.symm))
      have hcne := hide (show Go.Lib.compact ys ≠ [] by
        intro e
        obtain ⟨a, q, hq⟩ := List.exists_cons_of_ne_nil hyne.out
        have : a ∈ Go.Lib.compact ys := (mem_compactI ys a).2 (by rw [hq]; exact List.mem_cons_self)
        rw [e] at this
        simp at this)
      have hcl := compactI_len ys
      have HO2 := hide ho2
      rw [← hle]
      clear ho2 hperm hs HO HE HNE
      rw [← hle] at hO
      clear hle
      go_wp2_with fail
      refine (compactM A1 d1 ys w5 w1 HO2.out g2 hyne.out (by omega)).mono ?_
      rintro e w6 ⟨rfl, ho3, g3⟩
      have HO3 := hide ho3
      clear ho3 HO2
      generalize Go.Lib.compact ys = zs at *
      go_wp2_with fail
      refine (delM A1 d1 zs w6 w1 HO3.out g3 hcne.out (by omega) w.heap.size f (.slice A l.length c) M1.out).mono ?_
      rintro e w7 ⟨rfl, ho4, g4⟩
      have HO4 := hide (own_sli ho4)
      clear ho4 HO3
      go_wp2
      go_ret
      exact ⟨A1, d1, _, rfl, HO4.out, HK.out, g0.trans g4⟩
end RG
end Go.Proofs.YtddhaiaapomdjaaGreat
set_option linter.unusedVariables false
set_option linter.unusedSimpArgs false
namespace Go.Proofs.YtddhaiaapomdjaaGreat
set_option linter.unusedVariables false
set_option linter.unusedSimpArgs false
open Go Go.ChangeShapes Go.WideShapes Go.ChangeAt Go.RowKit Go.Deep

namespace RG
/-- o is the first free place, if there is one -/
structure FsO (f : Br) (l : List Br) (o : Option (Int × Int)) : Prop where
  yes : ∀ x y, o = some (x, y) → FreeP f l x y ∧ ∀ x' y', FreeP f l x' y' → y < y' ∨ y = y' ∧ x ≤ x'
  no : o = none → ∀ x y, ¬ FreeP f l x y
def fsv : Option (Int × Int) → Value
  | some (x, y) => .tuple #[.agg #[iv x, iv y], .bool true]
  | none => .tuple #[.agg #[iv 0, iv 0], .bool false]
theorem fsO_hit {f : Br} {l : List Br} {o : Option (Int × Int)} {R : List Int} (ho : FsO f l o) (hb : BrUp l) (hr : RowsOf f l R) {k : Nat} {y : Int} (hk : R[k]? = some y) (hn : ∀ (j : Nat) (z : Int), j < k → R[j]? = some z → f.r < fxV z l f.l) (hy : fxV y l f.l ≤ f.r) : o = some (fxV y l f.l, y) := by
  have e : fsY f l R = some y := by
    unfold fsY
    rw [← List.take_append_drop k R, List.find?_append, List.find?_eq_none.2 ?_, drop_at hk]
    · rw [Option.none_or, List.find?_cons, decide_eq_true hy]
    · intro z hz
      obtain ⟨j, hj⟩ := List.mem_iff_getElem?.1 hz
      have hjk : j < k := by
        have := (List.getElem?_eq_some_iff.1 hj).1
        rw [List.length_take] at this
        omega
      rw [List.getElem?_take, if_pos hjk] at hj
      simpa using hn j z hjk hj
  obtain ⟨h1, h2⟩ := fs_some hb hr e
  cases o with
  | none => exact absurd h1 (ho.no rfl _ _)
  | some p =>
    obtain ⟨u, v⟩ := p
    obtain ⟨k1, k2⟩ := ho.yes u v rfl
    have a := h2 u v k1
    have b := k2 _ _ h1
    have : u = fxV y l f.l ∧ v = y := by omega
    rw [this.1, this.2]
theorem fsO_none {f : Br} {l : List Br} {o : Option (Int × Int)} {R : List Int} (ho : FsO f l o) (hr : RowsOf f l R) (hn : ∀ (j : Nat) (z : Int), j < R.length → R[j]? = some z → f.r < fxV z l f.l) : o = none := by
  have e : fsY f l R = none := by
    unfold fsY
    rw [List.find?_eq_none]
    intro z hz
    obtain ⟨j, hj⟩ := List.mem_iff_getElem?.1 hz
    simpa using hn j z (List.getElem?_eq_some_iff.1 hj).1 hj
  cases o with
  | none => rfl
  | some p =>
    obtain ⟨u, v⟩ := p
    exact absurd (ho.yes u v rfl).1 (fs_none hr e u v)
set_option maxHeartbeats 4000000 in
set_option maxRecDepth 100000 in
theorem first_any (f : Br) (A : Option Addr) (c : Nat) (l : List Br) (o : Option (Int × Int)) (w : World) (hl : SlBr w A c l) (hb : BrS l) (hu : BrUp l) (hn : l.length ≤ 900000) (ho : FsO f l o) :
    Calls Tryz.prog 69 #[fdv f A l.length c] w fun e w' => e = .returned (fsv o) ∧ Gr w w' := by
  have n1 := hl.cap
  have n2 := hl.capB
  have HRO := hide (fun (w' : World) (g : Gr w w') => rows_any f A c l w' (hl.gr g) hb hn)
  have HFI := hide (fun (y : Int) (w' : World) (g : Gr w w') => firstOfRow_any f A c l y w' (hl.gr g) hb)
  have HHI := hide (fun (R : List Int) (hr : RowsOf f l R) (k : Nat) (y : Int) => fsO_hit (k := k) (y := y) ho hu hr)
  have HNO := hide (fun (R : List Int) (hr : RowsOf f l R) => fsO_none ho hr)
  have g0 : Gr w ((w.alloc (.cells #[iv f.l, iv f.r, iv f.b, iv f.t, .slice A l.length c] 119)).alloc (.cells #[iv 0, iv 0] 110)) := Gr.alloc (Gr.alloc (Gr.refl _) _) _
  have M1 := hide ((Made.new w #[iv f.l, iv f.r, iv f.b, iv f.t, .slice A l.length c] 119).gr (show Gr _ ((w.alloc (.cells #[iv f.l, iv f.r, iv f.b, iv f.t, .slice A l.length c] 119)).alloc (.cells #[iv 0, iv 0] 110)) from Gr.alloc (Gr.refl _) _))
  have M2 := hide (Made.new (w.alloc (.cells #[iv f.l, iv f.r, iv f.b, iv f.t, .slice A l.length c] 119)) #[iv 0, iv 0] 110)
  clear hl hb hu ho
  go_enter Tryz.func69, Tryz.ntmps69
  go_wp2_with fail
  refine (HRO.out _ (by with_reducible repeat (first | exact Gr.refl _ | assumption | refine Gr.alloc ?_ _ | refine Gr.drewN ?_ _ | refine Gr.drew ?_ | refine Gr.setCell ?_ (by first | (dsimp only; omega) | (simp only [World.size_alloc]; omega) | (refine Gr.size ?_; (repeat (first | exact Gr.refl _ | assumption | refine Gr.alloc ?_ _ | refine Gr.drewN ?_ _ | refine Gr.drew ?_ | refine Gr.trans ?_ (by assumption))); done)) _ | refine Gr.trans ?_ (by assumption)))).mono ?_
  rintro e w1 ⟨D, q, R, rfl, hR, hro, g1⟩
  have HH := hide (HHI.out R hro)
  have HN := hide (HNO.out R hro)
  rw [World.size_alloc] at M2
  have N1 := hide (M1.out.gr g1)
  have N2 := hide (M2.out.gr g1)
  have gw := g0.trans g1
  have m1 := hR.cap
  have m2 := hR.capB
  have HRR := hide hR
  clear hR hro HHI HNO HRO M1 M2
  go_wp2
  go_loopw [10] (fun i wr => ∃ k : Nat, k ≤ R.length ∧ i = iv k ∧ Gr w1 wr ∧ Hid (∀ (j : Nat) (z : Int), j < k → R[j]? = some z → f.r < fxV z l f.l)) (fun i _ => R.length - (intOf i).toNat)
  case atStart => exact ⟨0, by omega, rfl, Gr.refl _, hide (fun j z h => absurd h (Nat.not_lt_zero j))⟩
  case round =>
    obtain ⟨k, hk, rfl, g, HS⟩ := hrel
    obtain ⟨e1, q0, q9⟩ := N1.out.gr g
    have z0 := q0 0
    have z1 := q0 1
    have z2 := q0 2
    have z3 := q0 3
    have z4 := q0 4
    obtain ⟨e2, p0, p9⟩ := N2.out.gr g
    have y0 := p0 0
    have y1 := p0 1
    have v0 := p9 0
    have v1 := p9 1
    clear q0 q9 p0 p9
    by_cases hkl : k < R.length
    · obtain ⟨y, hy⟩ : ∃ y, R[k]? = some y := ⟨_, List.getElem?_eq_getElem hkl⟩
      obtain ⟨B, o2, hA, x0, _⟩ := (HRR.out.gr g).rd k y hy
      rw [Nat.mul_one] at x0
      subst hA
      have hbl : B < wr.heap.size := cell_lt (by rw [x0]; rfl)
      have hk0 : (0 : Int) ≤ (k : Int) := by omega
      have hk1 : (k : Int) < (R.length : Int) := by omega
      have HF := hide (HFI.out y)
      have HY := hide hy
      clear hy
      by_cases hf : fxV y l f.l ≤ f.r
      · have HE := hide (HH.out k y HY.out HS.out hf)
        generalize fxV y l f.l = X at *
        go_wp2_with (first | (go_at_call 115; refine (HF.out _ (by with_reducible repeat (first | exact Gr.refl _ | assumption | refine Gr.alloc ?_ _ | refine Gr.drewN ?_ _ | refine Gr.drew ?_ | refine Gr.setCell ?_ (by first | (dsimp only; omega) | (simp only [World.size_alloc]; omega) | (refine Gr.size ?_; (repeat (first | exact Gr.refl _ | assumption | refine Gr.alloc ?_ _ | refine Gr.drewN ?_ _ | refine Gr.drew ?_ | refine Gr.trans ?_ (by assumption))); done)) _ | refine Gr.trans ?_ (by assumption)))).mono ?_; rintro e w1 ⟨rfl, g1⟩; obtain ⟨X1, Y1, c1, f1⟩ := g1.use; have z1 := g1.size; (try simp only [World.size_alloc, World.size_setCell, World.heap_drewN, Nat.add_one_le_iff] at z1); (try have l0 : w.heap.size < w1.heap.size := by omega); (try have l1 : w.heap.size + 1 < w1.heap.size := by omega); (try have l2 : w.heap.size + 1 + 1 < w1.heap.size := by omega)))
        refine bodyPost_ret (v := fsv o) (by rw [HE.out]; simp [results, Tryz.results69, go_sem, fsv, *]) rfl ⟨rfl, (by with_reducible repeat (first | exact Gr.refl _ | assumption | refine Gr.alloc ?_ _ | refine Gr.drewN ?_ _ | refine Gr.drew ?_ | refine Gr.setCell ?_ (by first | (dsimp only; omega) | (simp only [World.size_alloc]; omega) | (refine Gr.size ?_; (repeat (first | exact Gr.refl _ | assumption | refine Gr.alloc ?_ _ | refine Gr.drewN ?_ _ | refine Gr.drew ?_ | refine Gr.trans ?_ (by assumption))); done)) _ | refine Gr.trans ?_ (by assumption)))⟩
      · have HS' := hide (show ∀ (j : Nat) (z : Int), j < k + 1 → R[j]? = some z → f.r < fxV z l f.l by
          intro j z hj hz
          rcases Nat.lt_or_ge j k with c | c
          · exact HS.out j z c hz
          · obtain rfl : j = k := by omega
            rw [HY.out] at hz
            obtain rfl := Option.some.inj hz
            exact Int.not_le.1 hf)
        have hf' : f.r < fxV y l f.l := by omega
        generalize fxV y l f.l = X at hf hf' HF
        go_wp2_with (first | (go_at_call 115; refine (HF.out _ (by with_reducible repeat (first | exact Gr.refl _ | assumption | refine Gr.alloc ?_ _ | refine Gr.drewN ?_ _ | refine Gr.drew ?_ | refine Gr.setCell ?_ (by first | (dsimp only; omega) | (simp only [World.size_alloc]; omega) | (refine Gr.size ?_; (repeat (first | exact Gr.refl _ | assumption | refine Gr.alloc ?_ _ | refine Gr.drewN ?_ _ | refine Gr.drew ?_ | refine Gr.trans ?_ (by assumption))); done)) _ | refine Gr.trans ?_ (by assumption)))).mono ?_; rintro e w1 ⟨rfl, g1⟩; obtain ⟨X1, Y1, c1, f1⟩ := g1.use; have z1 := g1.size; (try simp only [World.size_alloc, World.size_setCell, World.heap_drewN, Nat.add_one_le_iff] at z1); (try have l0 : w.heap.size < w1.heap.size := by omega); (try have l1 : w.heap.size + 1 < w1.heap.size := by omega); (try have l2 : w.heap.size + 1 + 1 < w1.heap.size := by omega)))
        go_roundw
        case rel => exact ⟨k + 1, by omega, by go_num, (by with_reducible repeat (first | exact Gr.refl _ | assumption | refine Gr.alloc ?_ _ | refine Gr.drewN ?_ _ | refine Gr.drew ?_ | refine Gr.setCell ?_ (by first | (dsimp only; omega) | (simp only [World.size_alloc]; omega) | (refine Gr.size ?_; (repeat (first | exact Gr.refl _ | assumption | refine Gr.alloc ?_ _ | refine Gr.drewN ?_ _ | refine Gr.drew ?_ | refine Gr.trans ?_ (by assumption))); done)) _ | refine Gr.trans ?_ (by assumption))), HS'⟩
        case measure => simp only [intOf]; omega
    · obtain rfl : k = R.length := by omega
      have HE := hide (HN.out HS.out)
      go_wp2
      refine bodyPost_ret (v := fsv o) (by rw [HE.out]; simp [results, Tryz.results69, go_sem, fsv, *]) rfl ⟨rfl, (by with_reducible repeat (first | exact Gr.refl _ | assumption | refine Gr.alloc ?_ _ | refine Gr.drewN ?_ _ | refine Gr.drew ?_ | refine Gr.setCell ?_ (by first | (dsimp only; omega) | (simp only [World.size_alloc]; omega) | (refine Gr.size ?_; (repeat (first | exact Gr.refl _ | assumption | refine Gr.alloc ?_ _ | refine Gr.drewN ?_ _ | refine Gr.drew ?_ | refine Gr.trans ?_ (by assumption))); done)) _ | refine Gr.trans ?_ (by assumption)))⟩
end RG
end Go.Proofs.YtddhaiaapomdjaaGreat
