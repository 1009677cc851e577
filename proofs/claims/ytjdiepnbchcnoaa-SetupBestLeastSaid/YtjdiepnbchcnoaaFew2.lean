/-
  The reference's Fewest.
-/
import Derived.Test.YtjdiepnbchcnoaaFew1
import Derived.Test.YtjdiepnbchcnoaaJob2
import Derived.Laws.IdiomCopy
import Derived.Laws.Cells
set_option linter.unusedVariables false
set_option linter.unusedSimpArgs false
namespace Go.Proofs.Ytjdiepnbchcnoaa
set_option linter.unusedVariables false
set_option linter.unusedSimpArgs false
open Go Go.ChangeShapes Go.WideShapes Go.ChangeAt Go.RowKit Go.Deep

/-- the bits of m that o lacks -/
def ant (m o : Nat) : Nat := m ^^^ (m &&& o)
theorem ant_lt {m o : Nat} (h : m < 512) (k : o < 512) : ant m o < 512 := Nat.xor_lt_two_pow (n := 9) h (Nat.and_lt_two_pow (n := 9) _ k)
theorem ant_cd (m o : Nat) : LS.cd (ant m o) = LS.df o m := by
  unfold LS.cd LS.df ant
  congr 1
  funext i
  rw [Nat.testBit_xor, Nat.testBit_and]
  cases m.testBit i <;> cases o.testBit i <;> rfl
theorem i_andNot {m o : Nat} (h : m < 512) (k : o < 512) : bits .andNot .i64 (m : Int) (o : Int) = ((ant m o : Nat) : Int) := by
  have e0 : (BitVec.ofInt 64 (m : Int) &&& ~~~ BitVec.ofInt 64 (o : Int)) = BitVec.ofInt 64 (m : Int) ^^^ (BitVec.ofInt 64 (m : Int) &&& BitVec.ofInt 64 (o : Int)) := by
    generalize BitVec.ofInt 64 (m : Int) = x
    generalize BitVec.ofInt 64 (o : Int) = y
    ext i hi
    simp only [BitVec.getElem_and, BitVec.getElem_not, BitVec.getElem_xor]
    cases x[i] <;> cases y[i] <;> rfl
  have e : (BitVec.ofInt 64 (m : Int) &&& ~~~ BitVec.ofInt 64 (o : Int)).toNat = ant m o := by
    rw [e0, BitVec.toNat_xor, BitVec.toNat_and]
    simp only [BitVec.ofInt_natCast, BitVec.toNat_ofNat]
    rw [Nat.mod_eq_of_lt (by omega), Nat.mod_eq_of_lt (by omega)]
    rfl
  show IntKind.i64.wrap ((BitVec.ofInt 64 (m : Int) &&& ~~~ BitVec.ofInt 64 (o : Int)).toNat : Int) = _
  rw [e]
  have := ant_lt h k
  exact IntWalk.i64_in _ (by omega)
/-- a run of stores into a block -/
theorem blk_fill {B n : Nat} : ∀ (vs : List Value) (o : Nat) (w : World) (f : Nat → Value), Blk w B f n → o + vs.length ≤ n → (∀ v ∈ vs, v.oneCell' = true) → Blk (w.setCells B o vs) B (fun j => if o ≤ j ∧ j < o + vs.length then vs[j - o]?.getD default else f j) n
  | [], o, w, f, h, _, _ => blk_congr h fun j _ => (if_neg (by simp only [List.length_nil]; omega)).symm
  | v :: r, o, w, f, h, hn, h1 => by
    simp only [List.length_cons] at hn
    have h2 := Blk.set (k := o) h v (h1 v (List.mem_cons_self ..)) (by omega)
    have h3 := blk_fill r (o + 1) _ _ h2 (by omega) (fun u hu => h1 u (List.mem_cons_of_mem _ hu))
    refine blk_congr h3 fun j _ => ?_
    simp only [List.length_cons]
    by_cases e : j = o
    · subst e
      rw [if_neg (by omega), if_pos rfl, if_pos (by omega), Nat.sub_self]
      rfl
    · by_cases q : o + 1 ≤ j ∧ j < o + 1 + r.length
      · rw [if_pos q, if_pos (by omega), show j - o = (j - (o + 1)) + 1 by omega, List.getElem?_cons_succ]
      · rw [if_neg q, if_neg e, if_neg (by omega)]
theorem gr_fill {a : World} {B : Nat} (hB : a.heap.size ≤ B) : ∀ (vs : List Value) (o : Nat) (w : World), Gr a w → Gr a (w.setCells B o vs)
  | [], _, _, g => g
  | v :: r, o, w, g => gr_fill hB r (o + 1) _ (Gr.setCell g hB v)
theorem size_fill (B : Nat) : ∀ (vs : List Value) (o : Nat) (w : World), (w.setCells B o vs).heap.size = w.heap.size
  | [], _, _ => rfl
  | v :: r, o, w => by
    show ((w.setCell ⟨B, o, none⟩ v).setCells B (o + 1) r).heap.size = _
    rw [size_fill B r (o + 1) _, World.size_setCell]
/-- a block of 512 numbers -/
abbrev Nmb (w : World) (B : Nat) (f : Nat → Nat) : Prop := Blk w B (fun j => iv (f j)) 512
def nmL (f : Nat → Nat) : List Value := (List.range 512).map fun j => iv (f j)
theorem nmL_len (f : Nat → Nat) : (nmL f).length = 512 := by simp [nmL]
theorem nmL_at {f : Nat → Nat} {j : Nat} (h : j < 512) : (nmL f)[j]? = some (iv (f j)) := by
  unfold nmL
  rw [List.getElem?_map, List.getElem?_range h]
  rfl
theorem nm_load {w : World} {B : Nat} {f : Nat → Nat} (h : Nmb w B f) : Sem.run Try.prog (loadCells ⟨B, 0, none⟩ 512) w = .ok (nmL f).toArray w := by
  have := run_loadCells_list (P := Try.prog) (w := w) ⟨B, 0, none⟩ (nmL f) (fun j v hj => by
    have hlt := (List.getElem?_eq_some_iff.1 hj).1
    rw [nmL_len] at hlt
    rw [nmL_at hlt] at hj
    cases hj
    rw [addr_add, Nat.zero_add]
    exact (h.2 j hlt).1)
  rw [nmL_len] at this
  exact this
theorem nm_store {w : World} {B : Nat} {g : Nat → Nat} (f : Nat → Nat) (h : Nmb w B g) : Sem.run Try.prog (storeCells ⟨B, 0, none⟩ (nmL f) 0) w = .ok () (w.setCells B 0 (nmL f)) := by
  have := Go.run_storeCells_cells (P := Try.prog) B 0 (nmL f) 0 w (fun j hj => by
    rw [nmL_len] at hj
    rw [Nat.zero_add, (h.2 j hj).1]
    rfl) (fun j hj => by
    rw [nmL_len] at hj
    rw [Nat.zero_add]
    exact (h.2 j hj).2) (fun v hv => by
    unfold nmL at hv
    obtain ⟨j, _, rfl⟩ := List.mem_map.1 hv
    rfl)
  exact this
theorem nm_fill {w : World} {B : Nat} {g : Nat → Nat} (f : Nat → Nat) (h : Nmb w B g) : Nmb (w.setCells B 0 (nmL f)) B f :=
  blk_congr (blk_fill (nmL f) 0 w _ h (by rw [nmL_len]; omega) (fun v hv => by
    unfold nmL at hv
    obtain ⟨j, _, rfl⟩ := List.mem_map.1 hv
    rfl)) fun j hj => by
    rw [if_pos (by rw [nmL_len]; omega), Nat.sub_zero, nmL_at hj]
    rfl
def Try.zeroCells45 : Array Value := Array.replicate 512 (.int .i64 0)
@[simp] theorem Try.zeroValue45 (w : World) : Sem.run Try.prog (zeroValue 45) w = .ok (.agg Try.zeroCells45) w := by kernel_rfl
theorem Try.zeroCells45_size : Try.zeroCells45.size = 512 := by kernel_rfl
@[simp] theorem Try.zeroCells45_ne : Try.zeroCells45 ≠ #[] := by
  intro h
  have := Try.zeroCells45_size
  rw [h] at this
  cases this
theorem zc_eq : Try.zeroCells45 = Array.replicate 512 (.int .i64 0) := by kernel_rfl
theorem nm_new (w : World) : Nmb (w.alloc (.cells Try.zeroCells45 45)) w.heap.size (fun _ => 0) := by
  rw [zc_eq]
  refine ⟨by simp, fun j hj => ⟨?_, by simp [go_sem]⟩⟩
  simp [go_sem, hj]
theorem sz512 (w : World) : Sem.run Try.prog (sizeOf 45) w = .ok 512 w := by
  have hi : (Try.prog.info? 45).map (fun i => i.size) = some 512 := by kernel_rfl
  cases e1 : Try.prog.info? 45 with
  | none => rw [e1] at hi; cases hi
  | some i =>
    rw [e1] at hi
    have : i.size = 512 := by simpa using hi
    simp [sizeOf, typeInfo, e1, this]
theorem agg512 (w : World) : Sem.run Try.prog (isAgg 45) w = .ok true w := by
  have ua : Try.prog.underlying 45 = some (.array 512 3) := by kernel_rfl
  simp [isAgg, run_underlying ua]
def nmV (f : Nat → Nat) : Value := .agg (nmL f).toArray
theorem run_load512 {w : World} {B : Nat} {f : Nat → Nat} (h : Nmb w B f) : Sem.run Try.prog (loadVar 45 ⟨B, 0, none⟩) w = .ok (nmV f) w := by
  unfold loadVar nmV
  simp only [Sem.run_bind, agg512, sz512, Result.andThen_ok, if_true, nm_load h, Sem.run_pure]
theorem run_store512 {w : World} {B : Nat} {g : Nat → Nat} (f : Nat → Nat) (h : Nmb w B g) : Sem.run Try.prog (storeVar 45 ⟨B, 0, none⟩ (nmV f)) w = .ok () (w.setCells B 0 (nmL f)) := by
  have hsz : (nmV f).cells.size = 512 := by
    unfold nmV
    simp only [Value.cells, List.size_toArray, nmL_len]
  have hcl : (nmV f).cells.toList = nmL f := by
    unfold nmV
    simp only [Value.cells]
  unfold storeVar
  simp only [Sem.run_bind, sz512, Result.andThen_ok, hsz, hcl, ne_eq, not_true_eq_false, if_false, Sem.run_pure]
  exact nm_store f h
theorem wpList_load512 {ops : Array Oper} {rest : List Oper} {o : Oper} {a : Act} {w : World} {Q : Exit → Act → World → Prop} (hgd : o.guard = none) (x : Operand) (ho : o.op = .load 45 x)
    (B : Nat) (f : Nat → Nat) (hx : a.eval x = .pointer (some ⟨B, 0, none⟩)) (hB : Nmb w B f) (h : ∀ v, Hid (v = nmV f) → wpList Try.prog ops Q rest (a.put o.dst v) w) : wpList Try.prog ops Q (o :: rest) a w :=
  wpList_plain hgd fun _ hK => by
    have hl := run_load512 hB
    unfold Oper.wp execOp
    simp only [ho, hx, Instr.loadAt, Instr.sureAddr, Sem.run_bind, Sem.run_pure, Result.andThen_ok, hl]
    exact hK _ _ (h _ (hide rfl))
theorem wpList_store512 {ops : Array Oper} {rest : List Oper} {o : Oper} {a : Act} {w : World} {Q : Exit → Act → World → Prop} (hgd : o.guard = none) (x y : Operand) (ho : o.op = .store 45 x y)
    (B : Nat) (f g : Nat → Nat) (v : Value) (hv : Hid (v = nmV f)) (hx : a.eval x = .pointer (some ⟨B, 0, none⟩)) (hy : a.eval y = v) (hB : Nmb w B g) (h : ∀ w', Hid (Nmb w' B f) → (∀ b, Gr b w → b.heap.size ≤ B → Gr b w') → wpList Try.prog ops Q rest (a.put o.dst undef) w') : wpList Try.prog ops Q (o :: rest) a w :=
  wpList_plain hgd fun _ hK => by
    have hl := run_store512 f hB
    rw [hv.out] at hy
    unfold Oper.wp execOp
    simp only [ho, hx, hy, Instr.storeAt, Instr.sureAddr, Sem.run_bind, Sem.run_pure, Result.andThen_ok, hl]
    exact hK _ _ (h _ (hide (nm_fill f hB)) (fun b g hle => gr_fill hle _ _ _ g))
theorem mks_ok' {ns : List Nd} (h : ndsB ns = true) : ∀ n ∈ mks ns, LS.okN n := by
  intro n hn
  unfold mks at hn
  obtain ⟨x, hx, rfl⟩ := List.mem_map.1 hn
  obtain ⟨h1, h2⟩ := nds_in h hx
  obtain ⟨z, hz⟩ := List.exists_mem_of_ne_nil _ h1
  have hr := inR_of h2
  have := hr z hz
  exact ⟨z.toNat, by omega, (mk_bit hr).2 (by rw [Int.toNat_of_nonneg this.1]; exact hz)⟩
theorem df_nine (a b : Nat) : LS.df a b ≤ 9 := by
  unfold LS.df
  exact Nat.le_trans List.countP_le_length (by simp)
set_option maxRecDepth 100000 in
set_option maxHeartbeats 4000000 in
theorem fewest_any (A : Option Addr) (c : Nat) (ns : List Nd) (s : Nat) (w : World) (hl : SlN w A c ns) (hv : ndsB ns = true) (hn : ns.length ≤ 24) (h1s : 1 ≤ s) (hs : s ≤ 3) :
    Calls Try.prog 23 #[.slice A ns.length c, iv s] w fun e w' => e = .returned (iv (LS.outl s (mks ns) 0)) ∧ Gr w w' := by
  have n1 := hl.cap
  have n2 := hl.capB
  have HL := hide hl
  have HV := hide hv
  have ua : Try.prog.underlying 45 = some (.array 512 3) := by kernel_rfl
  clear hl hv
  go_enter Try.func23, Try.ntmps23
  go_wp2
  have HB0 := hide (nm_new w)
  have g0 : Gr w (w.alloc (.cells Try.zeroCells45 45)) := Gr.alloc (Gr.refl _) _
  obtain ⟨C, hC⟩ : ∃ C, w.heap.size = C := ⟨_, rfl⟩
  rw [hC] at HB0
  simp only [hC]
  have hwC : w.heap.size ≤ C := by omega
  generalize w.alloc (.cells Try.zeroCells45 45) = w1 at *
  clear hC
  go_loopw [6] (fun i wr => ∃ (k : Nat) (f : Nat → Nat), k ≤ 512 ∧ i = iv k ∧ Gr w wr ∧ Hid (Nmb wr C f ∧ ∀ j, j < k → f j = 1000)) (fun i _ => 512 - (intOf i).toNat)
  case atStart => exact ⟨0, fun _ => 0, by omega, rfl, g0, hide ⟨HB0.out, fun j hj => absurd hj (Nat.not_lt_zero j)⟩⟩
  case round =>
    clear HB0 g0
    obtain ⟨k, f, hk, rfl, g, HB⟩ := hrel
    by_cases hkl : k < 512
    · have x0 := (HB.out.1.2 k hkl).1
      have f0 := (HB.out.1.2 k hkl).2
      have hk0 : (0 : Int) ≤ (k : Int) := by omega
      have hk1 : (k : Int) < 512 := by omega
      dsimp only at x0
      go_wp2
      go_roundw
      case rel => exact ⟨k + 1, fun j => if j = k then 1000 else f j, by omega, by go_num, Gr.setCell g hwC _, hide ⟨Blk.seti HB.out.1 1000 hkl, fun j hj => by
        by_cases e : j = k
        · exact if_pos e
        · exact (if_neg e).trans (HB.out.2 j (by omega))⟩⟩
      case measure => simp only [intOf]; omega
    · have hkz : decide ((k : Int) < 512) = false := by rw [decide_eq_false_iff_not]; omega
      have x0 := (HB.out.1.2 0 (by decide)).1
      have f0 := (HB.out.1.2 0 (by decide)).2
      dsimp only at x0
      have HC0 := hide (show Nmb (wr.setCell ⟨C, 0, none⟩ (iv 0)) C LS.fw0 from blk_congr (Blk.seti HB.out.1 0 (by decide)) fun j hj => by
        by_cases e : j = 0
        · rw [if_pos e, e]
          rfl
        · rw [if_neg e, HB.out.2 j (by omega)]
          unfold LS.fw0
          rw [if_neg e])
      have gC0 : Gr w (wr.setCell ⟨C, 0, none⟩ (iv 0)) := Gr.setCell g hwC _
      go_wp2
      generalize wr.setCell ⟨C, 0, none⟩ (iv 0) = w2 at *
      clear HB x0 f0 g hk hkl hkz
      go_loopw [7] (fun i wr => ∃ k : Nat, k ≤ ns.length ∧ i = iv k ∧ Gr w wr ∧ Hid (Nmb wr C (LS.fwC s (mks (ns.take k))))) (fun i _ => ns.length - (intOf i).toNat)
      case atStart => exact ⟨0, by omega, rfl, gC0, HC0⟩
      case round =>
        clear HC0 gC0
        obtain ⟨k, hk, rfl, g, HC⟩ := hrel
        by_cases hkl : k < ns.length
        · obtain ⟨x, hx⟩ : ∃ z, ns[k]? = some z := ⟨_, List.getElem?_eq_getElem hkl⟩
          obtain ⟨b, o, rfl, x0, xl⟩ := (HL.out.gr g).at_ hx
          have hxr := inR_of (nds_in HV.out (List.mem_of_getElem? hx)).2
          have hmk := mk_lt hxr
          have HBT := hide (bits_any x.A x.c x.l wr xl hxr)
          have HST := hide (show LS.fwC s (mks (ns.take (k + 1))) = LS.fwS s (LS.fwC s (mks (ns.take k))) (mk x.l) by
            rw [← mks_at hx]
            unfold LS.fwC
            rw [List.foldl_append]
            rfl)
          have hk0 : (0 : Int) ≤ (k : Int) := by omega
          have hk1 : (k : Int) < (ns.length : Int) := by omega
          have hct : ∀ m, LS.fwC s (mks (ns.take k)) m ≤ 1000 := LS.fwC_top _ (fun m => by unfold LS.fw0; split <;> omega)
          have HCT := hide hct
          clear hx xl hxr hct
          generalize mk x.l = n at *
          generalize LS.fwC s (mks (ns.take k)) = c0 at *
          go_wp2_with (first | (go_at_call 48; refine (HBT.out).mono ?_; rintro e w1 ⟨rfl, rfl⟩))
          have HN0 := hide (nm_new wr)
          have g0 : Gr wr (wr.alloc (.cells Try.zeroCells45 45)) := Gr.alloc (Gr.refl _) _
          obtain ⟨N, hN⟩ : ∃ N, wr.heap.size = N := ⟨_, rfl⟩
          rw [hN] at HN0
          simp only [hN]
          have hwN : wr.heap.size ≤ N := by omega
          have hCN : C < N := by have := HC.out.1; omega
          generalize wr.alloc (.cells Try.zeroCells45 45) = w3 at *
          clear hN x0 HBT
          obtain ⟨wo, rfl⟩ : ∃ wo, wo = wr := ⟨_, rfl⟩
          go_loopw [10] (fun i wr => ∃ (M : Nat) (f : Nat → Nat), M ≤ 512 ∧ i = iv M ∧ Gr wo wr ∧ Hid (Nmb wr N f ∧ ∀ j, j < M → f j = LS.fwS s c0 n j)) (fun i _ => 512 - (intOf i).toNat)
          case atStart => exact ⟨0, fun _ => 0, by omega, rfl, g0, hide ⟨HN0.out, fun j hj => absurd hj (Nat.not_lt_zero j)⟩⟩
          case round =>
            clear HN0 g0
            obtain ⟨M, f, hM, rfl, g3, HF⟩ := hrel
            by_cases hMl : M < 512
            · have x1 := (HF.out.1.2 M hMl).1
              have f1 := (HF.out.1.2 M hMl).2
              have hM0 : (0 : Int) ≤ (M : Int) := by omega
              have hM1 : (M : Int) < 512 := by omega
              dsimp only at x1
              have HK := hide (fun w => count_any M w hMl)
              have HN5 := hide (show Nmb (wr.setCell ⟨N, M, none⟩ (.int .i64 1000)) N (fun j => if j = M then 1000 else f j) from Blk.seti HF.out.1 1000 hMl)
              have HF5 := hide (show ∀ j, j < M → (if j = M then 1000 else f j) = LS.fwS s c0 n j from fun j hj => (if_neg (by omega)).trans (HF.out.2 j hj))
              have g5 : Gr wo (wr.setCell ⟨N, M, none⟩ (.int .i64 1000)) := Gr.setCell g3 hwN _
              have hskip : LS.fwS s c0 n M = 1000 → Hid (Nmb (wr.setCell ⟨N, M, none⟩ (.int .i64 1000)) N (fun j => if j = M then 1000 else f j) ∧ ∀ j, j < M + 1 → (if j = M then 1000 else f j) = LS.fwS s c0 n j) := fun e => hide ⟨HN5.out, fun j hj => by
                by_cases q : j = M
                · rw [if_pos q, q, e]
                · exact HF5.out j (by omega)⟩
              by_cases hc : s < LS.cd M
              · have HG := hskip (by unfold LS.fwS; rw [if_pos (.inl hc)])
                have hc' : decide (s < LS.cd M) = true := decide_eq_true hc
                clear hskip hc
                go_wp2_with (first | (go_at_call 49; refine (HK.out _).mono ?_; rintro e w1 ⟨rfl, rfl⟩))
                go_roundw
                case rel => exact ⟨M + 1, _, by omega, by go_num, g5, HG⟩
                case measure => simp only [intOf]; omega
              · have hc' : decide (s < LS.cd M) = false := decide_eq_false hc
                have W1 := i_and_all hMl hmk
                have W2 := and_eq (m := M) hmk
                cases hmt : LS.mt M n with
                | false =>
                  have HG := hskip (by unfold LS.fwS; rw [if_pos (.inr hmt)])
                  rw [hmt] at W2
                  clear hskip hc hmt
                  go_wp2_with (first | (go_at_call 49; refine (HK.out _).mono ?_; rintro e w1 ⟨rfl, rfl⟩))
                  go_roundw
                  case rel => exact ⟨M + 1, _, by omega, by go_num, g5, HG⟩
                  case measure => simp only [intOf]; omega
                | true =>
                  have HE := hide (show LS.fwS s c0 n M = LS.fwN c0 M 512 by unfold LS.fwS; rw [if_neg (by rw [hmt]; simpa using hc)])
                  rw [hmt] at W2
                  clear hskip hc hmt
                  go_wp2_with (first | (go_at_call 49; refine (HK.out _).mono ?_; rintro e w1 ⟨rfl, rfl⟩))
                  clear x1 f1 W1 W2 hc'
                  generalize wr.setCell ⟨N, M, none⟩ (.int .i64 1000) = w5 at *
                  clear HF g3 HK
                  go_loopw [11] (fun i wr => ∃ (t : Nat) (f' : Nat → Nat), t ≤ 512 ∧ i = iv t ∧ Gr wo wr ∧ Hid (Nmb wr N f' ∧ (∀ j, j < M → f' j = LS.fwS s c0 n j) ∧ f' M = LS.fwN c0 M t)) (fun i _ => 512 - (intOf i).toNat)
                  case atStart => exact ⟨0, _, by omega, rfl, g5, hide ⟨HN5.out, HF5.out, if_pos rfl⟩⟩
                  case round =>
                    clear HN5 HF5 g5
                    obtain ⟨t, f', ht, rfl, g6, HF⟩ := hrel
                    by_cases htl : t < 512
                    · have y0 := ((HC.out.gr g6).2 t htl).1
                      have y1 := (HF.out.1.2 M hMl).1
                      have f1 := (HF.out.1.2 M hMl).2
                      dsimp only at y0 y1
                      rw [HF.out.2.2] at y1
                      have hdn := df_nine t M
                      have hftop := LS.fwN_top c0 M t
                      have HK := hide (fun w => count_any (ant M t) w (ant_lt hMl htl))
                      rw [ant_cd] at HK
                      have W1 := i_andNot hMl htl
                      have ht0 : (0 : Int) ≤ (t : Int) := by omega
                      have ht1 : (t : Int) < 512 := by omega
                      have hNs : N < wr.heap.size := HF.out.1.1
                      have HSM := hide (show ¬ (c0 t < 1000 ∧ c0 t + LS.df t M < LS.fwN c0 M t) → LS.fwN c0 M (t + 1) = LS.fwN c0 M t from fun q => if_neg q)
                      by_cases h1 : c0 t < 1000
                      · have h1' : decide ((c0 t : Int) < 1000) = true := by rw [decide_eq_true_eq]; omega
                        have W2 : IntKind.i64.wrap ((c0 t : Int) + (LS.df t M : Int)) = (c0 t : Int) + (LS.df t M : Int) := IntWalk.i64_in _ (by omega)
                        by_cases h2 : c0 t + LS.df t M < LS.fwN c0 M t
                        · have h2' : decide ((c0 t : Int) + (LS.df t M : Int) < (LS.fwN c0 M t : Int)) = true := by rw [decide_eq_true_eq]; omega
                          have HE2 := hide (show LS.fwN c0 M (t + 1) = c0 t + LS.df t M from if_pos ⟨h1, h2⟩)
                          clear HSM
                          generalize c0 t = ct at *
                          generalize LS.df t M = d at *
                          generalize LS.fwN c0 M t = v at *
                          go_upto_region 20 with fail
                          have GC := @GrW.cell
                          refine wp_region_grw _ (by kernel_rfl) (by kernel_rfl) (Gr.refl _) ?_
                          repeat (go_big_quiet_step ((first | (go_at_call 49; exact quiet_grs (HK.out _)))))
                          refine wpQuiet_nil ?_
                          intro wq hwq
                          obtain ⟨gq, hwq'⟩ := hwq
                          subst hwq'
                          clear GC
                          have gq1 := gq.gr
                          generalize gq.w = wq at gq1 ⊢
                          obtain ⟨Xq, Yq, cq, fq⟩ := gq1.use
                          have sq := gq1.size
                          (try simp only [World.size_alloc, World.size_setCell, World.heap_drewN] at sq)
                          go_upto_region 21 with fail
                          have HKg := hide (fun w => (HK.out w).mono (R' := fun e w' => e = .returned (iv d) ∧ Gr w w') (by rintro e w' ⟨h, rfl⟩; exact ⟨h, Gr.refl _⟩))
                          have GC := @GrW.cell
                          refine wp_region_grw_tail _ 10 (by kernel_rfl) (by kernel_rfl) (Gr.refl _) ?_
                          simp only [List.take_succ_cons, List.take_zero, List.drop_succ_cons, List.drop_zero]
                          repeat (go_big_quiet_step ((first | (go_at_call 49; exact quiet_grw (HKg.out _)))))
                          refine wpQuiet_nil ?_
                          intro wq hwq
                          obtain ⟨gq, hwq'⟩ := hwq
                          subst hwq'
                          clear GC
                          have gq1 := gq.gr
                          generalize gq.w = wq at gq1 ⊢
                          obtain ⟨Xq, Yq, cq, fq⟩ := gq1.use
                          have sq := gq1.size
                          (try simp only [World.size_alloc, World.size_setCell, World.heap_drewN] at sq)
                          have gwq : Gr wr wq := (by repeat (first | with_reducible exact Gr.refl _ | with_reducible assumption | with_reducible refine Gr.alloc ?_ _ | with_reducible refine Gr.drewN ?_ _ | with_reducible refine Gr.drew ?_ | with_reducible refine Gr.setCell ?_ (by first | (dsimp only; omega) | (simp only [World.size_alloc]; omega) | (with_reducible refine Gr.size ?_; (repeat (first | with_reducible exact Gr.refl _ | with_reducible assumption | with_reducible refine Gr.alloc ?_ _ | with_reducible refine Gr.drewN ?_ _ | with_reducible refine Gr.drew ?_ | with_reducible refine Gr.trans ?_ (by with_reducible assumption))); done)) _ | with_reducible refine Gr.trans ?_ (by with_reducible assumption)))
                          have HB' := hide (show Nmb (wq.setCell ⟨N, M, none⟩ (.int .i64 ((ct : Int) + (d : Int)))) N (fun j => if j = M then ct + d else f' j) by
                            have := Blk.seti (k := M) (HF.out.1.gr gwq) (ct + d) hMl
                            rwa [Int.natCast_add] at this)
                          go_wp2
                          go_roundw
                          case rel => exact ⟨t + 1, _, by omega, by go_num, Gr.setCell (g6.trans gwq) hwN _, hide ⟨HB'.out, fun j hj => (if_neg (by omega)).trans (HF.out.2.1 j hj), by rw [HE2.out]; exact if_pos rfl⟩⟩
                          case measure => simp only [intOf]; omega
                        · have h2' : decide ((c0 t : Int) + (LS.df t M : Int) < (LS.fwN c0 M t : Int)) = false := by rw [decide_eq_false_iff_not]; omega
                          have HE2 := hide (HSM.out (fun q => h2 q.2))
                          clear HSM
                          generalize c0 t = ct at *
                          generalize LS.df t M = d at *
                          generalize LS.fwN c0 M t = v at *
                          go_upto_region 20 with fail
                          have GC := @GrW.cell
                          refine wp_region_grw _ (by kernel_rfl) (by kernel_rfl) (Gr.refl _) ?_
                          repeat (go_big_quiet_step ((first | (go_at_call 49; exact quiet_grs (HK.out _)))))
                          refine wpQuiet_nil ?_
                          intro wq hwq
                          obtain ⟨gq, hwq'⟩ := hwq
                          subst hwq'
                          clear GC
                          have gq1 := gq.gr
                          generalize gq.w = wq at gq1 ⊢
                          obtain ⟨Xq, Yq, cq, fq⟩ := gq1.use
                          have sq := gq1.size
                          (try simp only [World.size_alloc, World.size_setCell, World.heap_drewN] at sq)
                          go_wp2
                          go_roundw
                          case rel => exact ⟨t + 1, f', by omega, by go_num, g6.trans (by repeat (first | with_reducible exact Gr.refl _ | with_reducible assumption | with_reducible refine Gr.alloc ?_ _ | with_reducible refine Gr.drewN ?_ _ | with_reducible refine Gr.drew ?_ | with_reducible refine Gr.setCell ?_ (by first | (dsimp only; omega) | (simp only [World.size_alloc]; omega) | (with_reducible refine Gr.size ?_; (repeat (first | with_reducible exact Gr.refl _ | with_reducible assumption | with_reducible refine Gr.alloc ?_ _ | with_reducible refine Gr.drewN ?_ _ | with_reducible refine Gr.drew ?_ | with_reducible refine Gr.trans ?_ (by with_reducible assumption))); done)) _ | with_reducible refine Gr.trans ?_ (by with_reducible assumption))), hide ⟨Blk.gr HF.out.1 (by repeat (first | with_reducible exact Gr.refl _ | with_reducible assumption | with_reducible refine Gr.alloc ?_ _ | with_reducible refine Gr.drewN ?_ _ | with_reducible refine Gr.drew ?_ | with_reducible refine Gr.setCell ?_ (by first | (dsimp only; omega) | (simp only [World.size_alloc]; omega) | (with_reducible refine Gr.size ?_; (repeat (first | with_reducible exact Gr.refl _ | with_reducible assumption | with_reducible refine Gr.alloc ?_ _ | with_reducible refine Gr.drewN ?_ _ | with_reducible refine Gr.drew ?_ | with_reducible refine Gr.trans ?_ (by with_reducible assumption))); done)) _ | with_reducible refine Gr.trans ?_ (by with_reducible assumption))), HF.out.2.1, by rw [HF.out.2.2, HE2.out]⟩⟩
                          case measure => simp only [intOf]; omega
                      · have h1' : decide ((c0 t : Int) < 1000) = false := by rw [decide_eq_false_iff_not]; omega
                        have HE2 := hide (HSM.out (fun q => h1 q.1))
                        clear HSM W1
                        generalize c0 t = ct at *
                        generalize LS.df t M = d at *
                        generalize LS.fwN c0 M t = v at *
                        go_upto_region 20 with fail
                        have GC := @GrW.cell
                        refine wp_region_grw _ (by kernel_rfl) (by kernel_rfl) (Gr.refl _) ?_
                        repeat (go_big_quiet_step ((first | fail)))
                        refine wpQuiet_nil ?_
                        intro wq hwq
                        obtain ⟨gq, hwq'⟩ := hwq
                        subst hwq'
                        clear GC
                        have gq1 := gq.gr
                        generalize gq.w = wq at gq1 ⊢
                        obtain ⟨Xq, Yq, cq, fq⟩ := gq1.use
                        have sq := gq1.size
                        (try simp only [World.size_alloc, World.size_setCell, World.heap_drewN] at sq)
                        go_wp2
                        go_roundw
                        case rel => exact ⟨t + 1, f', by omega, by go_num, g6.trans (by repeat (first | with_reducible exact Gr.refl _ | with_reducible assumption | with_reducible refine Gr.alloc ?_ _ | with_reducible refine Gr.drewN ?_ _ | with_reducible refine Gr.drew ?_ | with_reducible refine Gr.setCell ?_ (by first | (dsimp only; omega) | (simp only [World.size_alloc]; omega) | (with_reducible refine Gr.size ?_; (repeat (first | with_reducible exact Gr.refl _ | with_reducible assumption | with_reducible refine Gr.alloc ?_ _ | with_reducible refine Gr.drewN ?_ _ | with_reducible refine Gr.drew ?_ | with_reducible refine Gr.trans ?_ (by with_reducible assumption))); done)) _ | with_reducible refine Gr.trans ?_ (by with_reducible assumption))), hide ⟨Blk.gr HF.out.1 (by repeat (first | with_reducible exact Gr.refl _ | with_reducible assumption | with_reducible refine Gr.alloc ?_ _ | with_reducible refine Gr.drewN ?_ _ | with_reducible refine Gr.drew ?_ | with_reducible refine Gr.setCell ?_ (by first | (dsimp only; omega) | (simp only [World.size_alloc]; omega) | (with_reducible refine Gr.size ?_; (repeat (first | with_reducible exact Gr.refl _ | with_reducible assumption | with_reducible refine Gr.alloc ?_ _ | with_reducible refine Gr.drewN ?_ _ | with_reducible refine Gr.drew ?_ | with_reducible refine Gr.trans ?_ (by with_reducible assumption))); done)) _ | with_reducible refine Gr.trans ?_ (by with_reducible assumption))), HF.out.2.1, by rw [HF.out.2.2, HE2.out]⟩⟩
                        case measure => simp only [intOf]; omega
                    · have htz : decide ((t : Int) < 512) = false := by rw [decide_eq_false_iff_not]; omega
                      have HG := hide (show ∀ j, j < M + 1 → f' j = LS.fwS s c0 n j from fun j hj => by
                        by_cases q : j = M
                        · rw [q, HF.out.2.2, HE.out, show t = 512 by omega]
                        · exact HF.out.2.1 j (by omega))
                      go_wp2
                      go_roundw
                      case rel => exact ⟨M + 1, f', by omega, by go_num, g6, hide ⟨HF.out.1, HG.out⟩⟩
                      case measure => simp only [intOf]; omega
            · have hMz : decide ((M : Int) < 512) = false := by rw [decide_eq_false_iff_not]; omega
              have HFE := hide (show ∀ j, j < 512 → f j = LS.fwC s (mks (ns.take (k + 1))) j from fun j hj => by rw [HST.out]; exact HF.out.2 j (by omega))
              have HCg := hide (HC.out.gr g3)
              have gw := g.trans g3
              go_wp2_with (first | (refine wpList_load512 rfl _ rfl N f rfl HF.out.1 ?_; intro vv hvv) | (refine wpList_store512 rfl _ _ rfl C f c0 _ (by assumption) rfl rfl HCg.out ?_; intro w9 h9 g9))
              have gw9 := g9 _ gw hwC
              go_roundw
              case rel => exact ⟨k + 1, by omega, by go_num, gw9, hide (blk_congr h9.out fun j hj => by rw [HFE.out j hj])⟩
              case measure => simp only [intOf]; omega
        · obtain rfl : k = ns.length := by omega
          rw [List.take_length] at HC
          have hcd : LS.fwM (LS.fwC s (mks ns)) 512 = LS.outl s (mks ns) 0 := LS.few_eq h1s (mks_ok' HV.out) (by rw [mks_len]; exact hn)
          have HE := hide hcd
          clear hcd
          generalize LS.fwC s (mks ns) = c0 at *
          have hmt : ∀ j, LS.fwM c0 j ≤ 1000 := fun j => by
            induction j with
            | zero => exact Nat.le_refl _
            | succ j ih => unfold LS.fwM; split <;> omega
          have HMT := hide hmt
          clear hmt
          go_wp2
          go_loopw [12, 13] (fun v i wr => ∃ t : Nat, t ≤ 512 ∧ i = iv t ∧ v = iv (LS.fwM c0 t) ∧ Gr w wr ∧ Hid (Nmb wr C c0)) (fun _ i _ => 512 - (intOf i).toNat)
          case atStart => exact ⟨0, by omega, rfl, rfl, g, HC⟩
          case round =>
            clear HC g
            obtain ⟨t, ht, rfl, rfl, g, HC⟩ := hrel
            by_cases htl : t < 512
            · have y0 := (HC.out.2 t htl).1
              have ht0 : (0 : Int) ≤ (t : Int) := by omega
              have ht1 : (t : Int) < 512 := by omega
              dsimp only at y0
              by_cases h : c0 t < LS.fwM c0 t
              · have h' : decide (c0 t < LS.fwM c0 t) = true := decide_eq_true h
                have HE2 := hide (show LS.fwM c0 (t + 1) = c0 t from if_pos h)
                go_wp2
                go_roundw
                case rel => exact ⟨t + 1, by omega, by go_num, by rw [HE2.out], g, HC⟩
                case measure => simp only [intOf]; omega
              · have h' : decide (c0 t < LS.fwM c0 t) = false := decide_eq_false h
                have HE2 := hide (show LS.fwM c0 (t + 1) = LS.fwM c0 t from if_neg h)
                go_wp2
                go_roundw
                case rel => exact ⟨t + 1, by omega, by go_num, by rw [HE2.out], g, HC⟩
                case measure => simp only [intOf]; omega
            · have htz : decide ((t : Int) < 512) = false := by rw [decide_eq_false_iff_not]; omega
              obtain rfl : t = 512 := by omega
              go_wp2
              go_ret
              exact ⟨ret_iv (by rw [HE.out]), g⟩
end Go.Proofs.Ytjdiepnbchcnoaa
