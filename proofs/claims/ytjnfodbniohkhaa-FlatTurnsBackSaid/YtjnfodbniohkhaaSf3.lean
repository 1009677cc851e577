/-
  Surfaces: slices.Concat of lists of rectangles.
-/
import Derived.Test.YtjnfodbniohkhaaSf2
import Derived.Test.YtjnfodbniohkhaaRgn
set_option linter.unusedVariables false
set_option linter.unusedSimpArgs false
namespace Go.Proofs.Ytjnfodbniohkhaa
set_option linter.unusedVariables false
set_option linter.unusedSimpArgs false
open Go Go.ChangeShapes Go.WideShapes Go.ChangeAt Go.RowKit Go.Deep

namespace RG
theorem run_append_zero {P : Program} (w : World) (t ty e : TypeId) (i : TypeInfo) (ht : P.underlying t = some (.slice e)) (hi : P.info? e = some i) (B : Option Addr) (n c : Nat) (hnc : n ≤ c) (X : Option Addr) (cc : Nat) :
    (Builtin.append_ #[t, t] ty #[.slice B n c, .slice X 0 cc]).run P w = .ok (.slice B n c) w := by
  have hz : (Builtin.firstCells i.size 0 (.slice X 0 cc)).run P w = .ok #[] w := by
    cases X with
    | none => exact run_firstCells_none w i.size 0 0 cc
    | some a => exact run_firstCells_some w i.size 0 a 0 cc [] (by simp) (by simp)
  cases B <;> simp [Builtin.append_, run_underlying ht, sizeOf, typeInfo, hi, Builtin.lenOf, hnc, hz, storeCells]
theorem wpList_app0 {P : Program} {w : World} {ops : Array Oper} {rest : List Oper} {o : Oper} {a : Act} {Q : Exit → Act → World → Prop} (hgd : o.guard = none) (s x : Operand) (t : TypeId)
    (ho : o.op = .call { callee := .builtin .append, args := #[s, x], argTypes := #[t, t] }) (e : TypeId) (k bts : Nat) (T : ElT P t e k bts) (B : Option Addr) (n c : Nat) (hs : a.eval s = .slice B n c) (hnc : n ≤ c) (X : Option Addr) (cc : Nat) (hx : a.eval x = .slice X 0 cc)
    (h : wpList P ops Q rest (a.put o.dst (.slice B n c)) w) : wpList P ops Q (o :: rest) a w := by
  obtain ⟨i, z, hi, hz, hsz, hby, hzs⟩ := T.inf
  refine wpList_plain hgd fun _ hK => ?_
  unfold Oper.wp execOp
  simp only [ho, resolve, invoke, builtin, Sem.run_bind, Sem.run_pure, Result.andThen_ok, List.map_toArray, List.map_cons, List.map_nil, hs, hx, run_append_zero w t o.type e i T.und hi B n c hnc X cc]
  exact hK _ _ h
theorem own_cap {α : Type} {c : α → List Value} {w : World} {base : Nat} {e : TypeId} {k n d : Nat} {A : Option Addr} {xs : List α} (h : OwnL w base e k c (.slice A n d) xs) : n ≤ d := by
  rcases h.2 with ⟨h1, h2⟩ | ⟨g, cap, cur, hv, hb, hh, hn, _⟩
  · cases h1
    exact Nat.le_refl _
  · cases hv
    exact hn
/-- room for so many rectangles, at a nil list -/
theorem growR (n : Nat) (w : World) (hn : n ≤ 1000000) :
    Calls Try.prog 36 #[.slice none 0 0, iv (n : Int)] w fun e w' => ∃ D q, e = .returned (.slice D 0 q) ∧ OwnL w' w.heap.size 55 4 rcL (.slice D 0 q) [] ∧ Gr w w' := by
  by_cases h0 : n = 0
  · subst h0
    refine (Go.Proofs.Any8.slices_Grow_room Try.layFGrow none 0 0 0 w (Nat.le_refl _) (by omega) (by omega) (Nat.le_refl _)).mono ?_
    rintro e w' ⟨rfl, rfl⟩
    exact ⟨none, 0, rfl, own_nil _ _ _ _ _, Gr.refl _⟩
  · obtain ⟨i, z, hi, hz, hsz, hby, hzs⟩ := elRect.inf
    refine (Go.Proofs.Any8.slices_Grow_grow Try.layFGrow i z hi hz (by omega) none 0 0 n [] w (Nat.le_refl _) (by omega) (by rw [hby]; omega) (by omega) (by simp) (fun _ => rfl) (fun a ha => by cases ha)).mono ?_
    rintro e w' ⟨rfl, rfl⟩
    have hG : 0 + n ≤ grownCap w (0 + n) 0 55 := grownCap_ge w _ _ _
    have hG2 := grownCap_le_maxLen w (0 + n) 0 55 (by unfold maxLen; omega)
    refine ⟨_, _, rfl, ?_, ?_⟩
    · refine ⟨by simp, .inr ⟨w.heap.size, _, (#[] ++ Builtin.zeroCells z.cells (0 + n - 0) ++ Builtin.zeroCells z.cells (grownCap w (0 + n) 0 55 - (0 + n))), rfl, Nat.le_refl _, heap_alloc_new w.drew _, Nat.zero_le _, hG2, ?_, by simp⟩⟩
      · simp only [Array.size_append, size_zeroCells, hzs]
        rw [Nat.zero_add] at hG
        simp
        show n * 4 + (grownCap w n 0 55 - n) * 4 = grownCap w n 0 55 * 4
        omega
    · exact Gr.alloc (Gr.drew (Gr.refl _)) _
theorem news_at {w : World} {A : Option Addr} {c : Nat} {l : List Rc} (h : SlR w A c l) {b off : Nat} (hA : A = some ⟨b, off, none⟩) : ∀ j u, (l.flatMap rcL)[j]? = some u → w.cell? ((⟨b, off, none⟩ : Addr).add j) = some u := by
  intro j u hu
  subst hA
  have hfl : (l.flatMap rcL).length = l.length * 4 := fm_len (c := rcL) (fun _ => rfl) l
  have hj := (List.getElem?_eq_some_iff.1 hu).1
  rw [hfl] at hj
  have hi : j / 4 < l.length := by omega
  obtain ⟨b', off', e, h0, h1, h2, h3⟩ := h.at_ (List.getElem?_eq_getElem hi)
  cases e
  have hr : j % 4 < 4 := Nat.mod_lt _ (by omega)
  have hf := fm_at (c := rcL) (k := 4) (fun _ => rfl) l (j / 4) _ (j % 4) (List.getElem?_eq_getElem hi) hr
  rw [show j / 4 * 4 + j % 4 = j by omega, hu] at hf
  rw [addr_add, show off + j = off + j / 4 * 4 + j % 4 by omega]
  generalize l[j / 4] = r at *
  generalize j / 4 * 4 = p at *
  generalize j % 4 = q at *
  match q, hr with
  | 0, _ => rw [Nat.add_zero, h0]; exact hf.symm
  | 1, _ => rw [h1]; exact hf.symm
  | 2, _ => rw [h2]; exact hf.symm
  | 3, _ => rw [h3]; exact hf.symm
theorem one_all (l : List Rc) : ∀ u ∈ l.flatMap rcL, u.oneCell' = true := by
  intro u hu
  obtain ⟨r, _, hr⟩ := List.mem_flatMap.1 hu
  exact one_rc r u hr
theorem allR_take (L : List RS) (k : Nat) : (allR (L.take k)).length ≤ (allR L).length := by
  have : allR L = allR (L.take k) ++ allR (L.drop k) := by
    unfold allR
    rw [← List.flatMap_append, List.take_append_drop]
  rw [this, List.length_append]
  omega
set_option maxHeartbeats 4000000 in
set_option maxRecDepth 100000 in
theorem Concat_any (A : Option Addr) (c : Nat) (L : List RS) (w : World) (hL : SlRR w A c L) (hn : L.length ≤ 1000) (hm : (allR L).length ≤ 1000) :
    Calls Try.prog 23 #[.slice A L.length c] w fun e w' => ∃ D q, e = .returned (.slice D (allR L).length q) ∧ OwnL w' w.heap.size 55 4 rcL (.slice D (allR L).length q) (allR L) ∧ Gr w w' := by
  have HL := hide hL
  have n1 := hL.cap
  have n2 := hL.capB
  have HSN := hide (fun (k : Nat) (x : RS) (h : L[k]? = some x) => allR_snoc h)
  have HTK := hide (fun k => allR_take L k)
  clear hL
  go_enter Try.func23, Try.ntmps23
  go_wp2
  go_loop [3, 11] (fun t i => ∃ k : Nat, k ≤ L.length ∧ i = iv k ∧ t = iv ((allR (L.take k)).length : Nat)) (fun _ i => L.length - (intOf i).toNat)
  case atStart => exact ⟨0, by omega, rfl, rfl⟩
  case round =>
    obtain ⟨k, hk, rfl, rfl⟩ := hrel
    by_cases hkl : k < L.length
    · obtain ⟨x, hx⟩ : ∃ x, L[k]? = some x := ⟨_, List.getElem?_eq_getElem hkl⟩
      obtain ⟨b, off, rfl, h0, hS⟩ := HL.out.at_ hx
      have hk0 : (0 : Int) ≤ (k : Int) := by omega
      have hk1 : (k : Int) < (L.length : Int) := by omega
      have e := HSN.out k x hx
      have t1 := HTK.out k
      have t2 := HTK.out (k + 1)
      have e2 : (allR (L.take (k + 1))).length = (allR (L.take k)).length + x.l.length := by rw [e, List.length_append]
      have HE := hide e2
      have s1 : IntKind.i64.wrap (((allR (L.take k)).length : Int) + (x.l.length : Int)) = ((allR (L.take k)).length : Int) + (x.l.length : Int) := IntWalk.i64_in _ (by omega)
      have s2 : ¬ ((allR (L.take k)).length : Int) + (x.l.length : Int) < 0 := by omega
      have s3 : IntKind.i64.wrap ((k : Int) + 1) = (k : Int) + 1 := IntWalk.i64_in _ (by omega)
      clear e e2 t1 t2 hx hS
      generalize (allR (L.take k)).length = p at *
      go_wp2
      go_round
      case rel => exact ⟨k + 1, by omega, by go_num, by rw [HE.out]; rfl⟩
      case measure => simp only [intOf]; omega
    · obtain rfl : k = L.length := by omega
      rw [List.take_length]
      go_wp2_with fail
      refine (growR (allR L).length w (by omega)).mono ?_
      rintro e w1 ⟨D0, q0, rfl, ho0, g0⟩
      have HO0 := hide ho0
      clear ho0
      go_wp2_with fail
      go_loopw [6, 27] (fun v i wr => ∃ (k : Nat) (D : Option Addr) (q : Nat), k ≤ L.length ∧ i = iv k ∧ v = .slice D (allR (L.take k)).length q ∧ OwnL wr w.heap.size 55 4 rcL (.slice D (allR (L.take k)).length q) (allR (L.take k)) ∧ Gr w wr) (fun _ i _ => L.length - (intOf i).toNat)
      case atStart => exact ⟨0, D0, q0, by omega, rfl, rfl, HO0.out, g0⟩
      case round =>
        obtain ⟨k, D, q, hk, rfl, rfl, ho, g⟩ := hrel
        have HO := hide ho
        clear ho
        by_cases hkl : k < L.length
        · obtain ⟨x, hx⟩ : ∃ x, L[k]? = some x := ⟨_, List.getElem?_eq_getElem hkl⟩
          obtain ⟨b, off, rfl, h0, hS⟩ := (HL.out.gr g).at_ hx
          have hk0 : (0 : Int) ≤ (k : Int) := by omega
          have hk1 : (k : Int) < (L.length : Int) := by omega
          have HE := hide (HSN.out k x hx)
          have t1 := HTK.out k
          have t2 := HTK.out (k + 1)
          have gz := g.size
          rw [HE.out, List.length_append] at t2
          have s3 : IntKind.i64.wrap ((k : Int) + 1) = (k : Int) + 1 := IntWalk.i64_in _ (by omega)
          obtain ⟨X, xc, xl⟩ := x
          simp only at h0 hS HE t2
          have HS := hide hS
          clear hS hx
          by_cases hz : xl = []
          · subst hz
            have HE2 : Hid (allR (L.take (k + 1)) = allR (L.take k)) := hide (by rw [HE.out, List.append_nil])
            have hcp := own_cap HO.out
            simp only [List.length_nil] at h0
            go_wp2_with (refine wpList_app0 rfl _ _ _ rfl 55 4 32 elRect D _ q rfl hcp X xc rfl ?_)
            go_roundw
            case rel => exact ⟨k + 1, D, q, by omega, by go_num, by rw [HE2.out], by rw [HE2.out]; exact HO.out, g⟩
            case measure => simp only [intOf]; omega
          · have hpos : 0 < xl.length := List.length_pos_iff.2 hz
            obtain ⟨b2, off2, hX, _⟩ := HS.out.at_ (List.getElem?_eq_getElem hpos)
            subst hX
            clear hz
            go_wp2_with (refine wpList_appZ rfl _ _ _ rfl rcL w.heap.size 55 4 32 elRect (by decide) _ xl _ HE.out.symm (.slice D (allR (L.take k)).length q) rfl HO.out ⟨b2, off2, none⟩ xl.length xc rfl rfl hpos (fun _ => rfl) (news_at HS.out rfl) (one_all xl) (by omega) (by decide) gz ?_; intro gg cap1 w8 hO8 hG8 hg8 hor hlt8)
            have G8 := hG8 _ g (Nat.le_refl _)
            have HO8 := hide hO8
            clear hO8 hG8 hg8
            go_roundw
            case rel => exact ⟨k + 1, some ⟨gg, 0, none⟩, cap1, by omega, by go_num, rfl, HO8.out, G8⟩
            case measure => simp only [intOf]; omega
        · obtain rfl : k = L.length := by omega
          rw [List.take_length] at HO ⊢
          have hk1 : ¬ ((L.length : Int) < (L.length : Int)) := by omega
          go_wp2
          go_ret
          exact ⟨D, q, rfl, HO.out, g⟩
end RG
end Go.Proofs.Ytjnfodbniohkhaa
