/-
  Parts: lists compared and copied by package slices; flanges without their names.
  Parts compared, in the code: Equal; whether the outline differs.
  Parts compared, in the reference: whether the outline differs.
  Changed, on both sides; PartChanges: the walk.
  PartChanges: the walk.
-/
import Derived.Test.YtpmomgfepkegnaaLawV
import Derived.Lib.SliceRun
set_option linter.unusedVariables false
set_option linter.unusedSimpArgs false
namespace Go.Proofs.Ytpmomgfepkegnaa
set_option linter.unusedVariables false
set_option linter.unusedSimpArgs false
open Go Go.ChangeShapes Go.WideShapes Go.ChangeAt Go.RowKit Go.Deep

set_option maxRecDepth 100000 in
set_option maxHeartbeats 2000000 in
theorem eqHos_any (A B : Option Addr) (c d : Nat) (l m : List Ho) (w : World) (hl : SlH w A c l) (hm : SlH w B d m) :
    Calls Try.prog 89 #[.slice A l.length c, .slice B m.length d] w fun e w' => e = .returned (.bool (lsB hoQ l m)) ∧ Gr w w' := by
  have n1 := hl.len
  have n2 := hm.len
  have HLl := hide hl
  have HLm := hide hm
  clear hl hm
  by_cases hlen : l.length = m.length
  · have HN := hide hlen
    have hq : ((l.length : Int) != (m.length : Int)) = false := by rw [bne_eq_false_iff_eq]; omega
    have GP := gHol
    clear hlen
    go_enter Try.func89, Try.ntmps89
    go_wp2
    go_loopw [13] (fun i wr => ∃ k : Nat, k ≤ l.length ∧ i = iv k ∧ Gr w wr ∧ Hid (∀ i a b, i < k → l[i]? = some a → m[i]? = some b → hoQ a b = true)) (fun i _ => l.length - (intOf i).toNat)
    case atStart => exact ⟨0, by omega, rfl, Gr.refl _, by intro i a b hi; omega⟩
    case round =>
      obtain ⟨k, hk, rfl, g, HS⟩ := hrel
      by_cases hkl : k < l.length
      · have hkm : k < m.length := by rw [← HN.out]; exact hkl
        obtain ⟨a, ha⟩ : ∃ a, l[k]? = some a := ⟨_, List.getElem?_eq_getElem hkl⟩
        obtain ⟨b, hb⟩ : ∃ b, m[k]? = some b := ⟨_, List.getElem?_eq_getElem hkm⟩
        obtain ⟨p, o, rfl, x0, x1, x2, x3, x4, x5⟩ := (HLl.out.gr g).rd.ho ha
        obtain ⟨q, o', rfl, y0, y1, y2, y3, y4, y5⟩ := (HLm.out.gr g).rd.ho hb
        have hp : p < wr.heap.size := cell_lt (by rw [x0]; rfl)
        have hqw : q < wr.heap.size := cell_lt (by rw [y0]; rfl)
        have NEQ := fun w => eqHol a b w
        have hk0 : (0 : Int) ≤ (k : Int) := by omega
        have hk1 : (k : Int) < (l.length : Int) := by omega
        have hk2 : (k : Int) < (m.length : Int) := by omega
        have HLa := hide ha
        have HLb := hide hb
        clear ha hb
        cases hv : hoQ a b with
        | true =>
          have HS' := hide (show ∀ i x y, i < k + 1 → l[i]? = some x → m[i]? = some y → hoQ x y = true by
            intro i x y hi hx hy
            rcases Nat.lt_or_ge i k with h | h
            · exact HS.out i x y h hx hy
            · obtain rfl : i = k := by omega
              rw [HLa.out] at hx
              rw [HLb.out] at hy
              obtain rfl := Option.some.inj hx
              obtain rfl := Option.some.inj hy
              exact hv)
          rw [hv] at NEQ
          clear hv
          go_upto_region 6 with fail
          have GC := @GrW.cell
          refine wp_region_grw _ (by kernel_rfl) (by kernel_rfl) (Gr.refl _) ?_
          repeat (go_big_quiet_step ((first | fail)))
          refine wpQuiet_nil ?_
          intro wq hwq
          obtain ⟨gq, hwq'⟩ := hwq
          subst hwq'
          clear GC
          have gq1 := gq.gr
          generalize gq.w = wq at gq1 ⊢
          obtain ⟨Xq, Yq, cq, fq⟩ := gq1.use
          have sq := gq1.size
          (try simp only [World.size_alloc, World.size_setCell, World.heap_drewN] at sq)
          go_wp2
          go_roundw
          case rel => exact ⟨k + 1, by omega, by go_num, (by repeat (first | with_reducible exact Gr.refl _ | with_reducible assumption | with_reducible refine Gr.alloc ?_ _ | with_reducible refine Gr.drewN ?_ _ | with_reducible refine Gr.drew ?_ | with_reducible refine Gr.setCell ?_ (by first | (dsimp only; omega) | (simp only [World.size_alloc]; omega) | (with_reducible refine Gr.size ?_; (repeat (first | with_reducible exact Gr.refl _ | with_reducible assumption | with_reducible refine Gr.alloc ?_ _ | with_reducible refine Gr.drewN ?_ _ | with_reducible refine Gr.drew ?_ | with_reducible refine Gr.trans ?_ (by with_reducible assumption))); done)) _ | with_reducible refine Gr.trans ?_ (by with_reducible assumption))), HS'⟩
          case measure => simp only [intOf]; omega
        | false =>
          have HE := hide (lsB_stop (f := hoQ) HLa.out HLb.out hv)
          rw [hv] at NEQ
          clear hv
          go_upto_region 6 with fail
          have GC := @GrW.cell
          refine wp_region_grw _ (by kernel_rfl) (by kernel_rfl) (Gr.refl _) ?_
          repeat (go_big_quiet_step ((first | fail)))
          refine wpQuiet_nil ?_
          intro wq hwq
          obtain ⟨gq, hwq'⟩ := hwq
          subst hwq'
          clear GC
          have gq1 := gq.gr
          generalize gq.w = wq at gq1 ⊢
          obtain ⟨Xq, Yq, cq, fq⟩ := gq1.use
          have sq := gq1.size
          (try simp only [World.size_alloc, World.size_setCell, World.heap_drewN] at sq)
          go_wp2
          go_ret
          exact ⟨ret_bool HE.out.symm, (by repeat (first | with_reducible exact Gr.refl _ | with_reducible assumption | with_reducible refine Gr.alloc ?_ _ | with_reducible refine Gr.drewN ?_ _ | with_reducible refine Gr.drew ?_ | with_reducible refine Gr.setCell ?_ (by first | (dsimp only; omega) | (simp only [World.size_alloc]; omega) | (with_reducible refine Gr.size ?_; (repeat (first | with_reducible exact Gr.refl _ | with_reducible assumption | with_reducible refine Gr.alloc ?_ _ | with_reducible refine Gr.drewN ?_ _ | with_reducible refine Gr.drew ?_ | with_reducible refine Gr.trans ?_ (by with_reducible assumption))); done)) _ | with_reducible refine Gr.trans ?_ (by with_reducible assumption)))⟩
      · obtain rfl : k = l.length := by omega
        have HE := hide (lsB_end (f := hoQ) HN.out HS.out)
        go_wp2
        go_ret
        exact ⟨ret_bool HE.out.symm, (by repeat (first | with_reducible exact Gr.refl _ | with_reducible assumption | with_reducible refine Gr.alloc ?_ _ | with_reducible refine Gr.drewN ?_ _ | with_reducible refine Gr.drew ?_ | with_reducible refine Gr.setCell ?_ (by first | (dsimp only; omega) | (simp only [World.size_alloc]; omega) | (with_reducible refine Gr.size ?_; (repeat (first | with_reducible exact Gr.refl _ | with_reducible assumption | with_reducible refine Gr.alloc ?_ _ | with_reducible refine Gr.drewN ?_ _ | with_reducible refine Gr.drew ?_ | with_reducible refine Gr.trans ?_ (by with_reducible assumption))); done)) _ | with_reducible refine Gr.trans ?_ (by with_reducible assumption)))⟩
  · have HE := hide (lsB_len (f := hoQ) hlen)
    have hq : ((l.length : Int) != (m.length : Int)) = true := by rw [bne_iff_ne]; omega
    clear hlen
    go_enter Try.func89, Try.ntmps89
    go_wp2
    go_ret
    exact ⟨ret_bool HE.out.symm, (by repeat (first | with_reducible exact Gr.refl _ | with_reducible assumption | with_reducible refine Gr.alloc ?_ _ | with_reducible refine Gr.drewN ?_ _ | with_reducible refine Gr.drew ?_ | with_reducible refine Gr.setCell ?_ (by first | (dsimp only; omega) | (simp only [World.size_alloc]; omega) | (with_reducible refine Gr.size ?_; (repeat (first | with_reducible exact Gr.refl _ | with_reducible assumption | with_reducible refine Gr.alloc ?_ _ | with_reducible refine Gr.drewN ?_ _ | with_reducible refine Gr.drew ?_ | with_reducible refine Gr.trans ?_ (by with_reducible assumption))); done)) _ | with_reducible refine Gr.trans ?_ (by with_reducible assumption)))⟩
set_option maxRecDepth 100000 in
set_option maxHeartbeats 2000000 in
theorem eqFls_any (A B : Option Addr) (c d : Nat) (l m : List Fl) (w : World) (hl : SlF w A c l) (hm : SlF w B d m) :
    Calls Try.prog 88 #[.slice A l.length c, .slice B m.length d] w fun e w' => e = .returned (.bool (lsB flB l m)) ∧ Gr w w' := by
  have n1 := hl.len
  have n2 := hm.len
  have HLl := hide hl
  have HLm := hide hm
  clear hl hm
  by_cases hlen : l.length = m.length
  · have HN := hide hlen
    have hq : ((l.length : Int) != (m.length : Int)) = false := by rw [bne_eq_false_iff_eq]; omega
    have GP := gFlg
    clear hlen
    go_enter Try.func88, Try.ntmps88
    go_wp2
    go_loopw [13] (fun i wr => ∃ k : Nat, k ≤ l.length ∧ i = iv k ∧ Gr w wr ∧ Hid (∀ i a b, i < k → l[i]? = some a → m[i]? = some b → flB a b = true)) (fun i _ => l.length - (intOf i).toNat)
    case atStart => exact ⟨0, by omega, rfl, Gr.refl _, by intro i a b hi; omega⟩
    case round =>
      obtain ⟨k, hk, rfl, g, HS⟩ := hrel
      by_cases hkl : k < l.length
      · have hkm : k < m.length := by rw [← HN.out]; exact hkl
        obtain ⟨a, ha⟩ : ∃ a, l[k]? = some a := ⟨_, List.getElem?_eq_getElem hkl⟩
        obtain ⟨b, hb⟩ : ∃ b, m[k]? = some b := ⟨_, List.getElem?_eq_getElem hkm⟩
        obtain ⟨p, o, rfl, x0, x1, x2, x3, x4, x5, x6⟩ := (HLl.out.gr g).rd.fl ha
        obtain ⟨q, o', rfl, y0, y1, y2, y3, y4, y5, y6⟩ := (HLm.out.gr g).rd.fl hb
        have hp : p < wr.heap.size := cell_lt (by rw [x0]; rfl)
        have hqw : q < wr.heap.size := cell_lt (by rw [y0]; rfl)
        have NEQ := fun w => eqFlg a b w
        have hk0 : (0 : Int) ≤ (k : Int) := by omega
        have hk1 : (k : Int) < (l.length : Int) := by omega
        have hk2 : (k : Int) < (m.length : Int) := by omega
        have HLa := hide ha
        have HLb := hide hb
        clear ha hb
        cases hv : flB a b with
        | true =>
          have HS' := hide (show ∀ i x y, i < k + 1 → l[i]? = some x → m[i]? = some y → flB x y = true by
            intro i x y hi hx hy
            rcases Nat.lt_or_ge i k with h | h
            · exact HS.out i x y h hx hy
            · obtain rfl : i = k := by omega
              rw [HLa.out] at hx
              rw [HLb.out] at hy
              obtain rfl := Option.some.inj hx
              obtain rfl := Option.some.inj hy
              exact hv)
          rw [hv] at NEQ
          clear hv
          go_upto_region 6 with fail
          have GC := @GrW.cell
          refine wp_region_grw _ (by kernel_rfl) (by kernel_rfl) (Gr.refl _) ?_
          repeat (go_big_quiet_step ((first | fail)))
          refine wpQuiet_nil ?_
          intro wq hwq
          obtain ⟨gq, hwq'⟩ := hwq
          subst hwq'
          clear GC
          have gq1 := gq.gr
          generalize gq.w = wq at gq1 ⊢
          obtain ⟨Xq, Yq, cq, fq⟩ := gq1.use
          have sq := gq1.size
          (try simp only [World.size_alloc, World.size_setCell, World.heap_drewN] at sq)
          go_wp2
          go_roundw
          case rel => exact ⟨k + 1, by omega, by go_num, (by repeat (first | with_reducible exact Gr.refl _ | with_reducible assumption | with_reducible refine Gr.alloc ?_ _ | with_reducible refine Gr.drewN ?_ _ | with_reducible refine Gr.drew ?_ | with_reducible refine Gr.setCell ?_ (by first | (dsimp only; omega) | (simp only [World.size_alloc]; omega) | (with_reducible refine Gr.size ?_; (repeat (first | with_reducible exact Gr.refl _ | with_reducible assumption | with_reducible refine Gr.alloc ?_ _ | with_reducible refine Gr.drewN ?_ _ | with_reducible refine Gr.drew ?_ | with_reducible refine Gr.trans ?_ (by with_reducible assumption))); done)) _ | with_reducible refine Gr.trans ?_ (by with_reducible assumption))), HS'⟩
          case measure => simp only [intOf]; omega
        | false =>
          have HE := hide (lsB_stop (f := flB) HLa.out HLb.out hv)
          rw [hv] at NEQ
          clear hv
          go_upto_region 6 with fail
          have GC := @GrW.cell
          refine wp_region_grw _ (by kernel_rfl) (by kernel_rfl) (Gr.refl _) ?_
          repeat (go_big_quiet_step ((first | fail)))
          refine wpQuiet_nil ?_
          intro wq hwq
          obtain ⟨gq, hwq'⟩ := hwq
          subst hwq'
          clear GC
          have gq1 := gq.gr
          generalize gq.w = wq at gq1 ⊢
          obtain ⟨Xq, Yq, cq, fq⟩ := gq1.use
          have sq := gq1.size
          (try simp only [World.size_alloc, World.size_setCell, World.heap_drewN] at sq)
          go_wp2
          go_ret
          exact ⟨ret_bool HE.out.symm, (by repeat (first | with_reducible exact Gr.refl _ | with_reducible assumption | with_reducible refine Gr.alloc ?_ _ | with_reducible refine Gr.drewN ?_ _ | with_reducible refine Gr.drew ?_ | with_reducible refine Gr.setCell ?_ (by first | (dsimp only; omega) | (simp only [World.size_alloc]; omega) | (with_reducible refine Gr.size ?_; (repeat (first | with_reducible exact Gr.refl _ | with_reducible assumption | with_reducible refine Gr.alloc ?_ _ | with_reducible refine Gr.drewN ?_ _ | with_reducible refine Gr.drew ?_ | with_reducible refine Gr.trans ?_ (by with_reducible assumption))); done)) _ | with_reducible refine Gr.trans ?_ (by with_reducible assumption)))⟩
      · obtain rfl : k = l.length := by omega
        have HE := hide (lsB_end (f := flB) HN.out HS.out)
        go_wp2
        go_ret
        exact ⟨ret_bool HE.out.symm, (by repeat (first | with_reducible exact Gr.refl _ | with_reducible assumption | with_reducible refine Gr.alloc ?_ _ | with_reducible refine Gr.drewN ?_ _ | with_reducible refine Gr.drew ?_ | with_reducible refine Gr.setCell ?_ (by first | (dsimp only; omega) | (simp only [World.size_alloc]; omega) | (with_reducible refine Gr.size ?_; (repeat (first | with_reducible exact Gr.refl _ | with_reducible assumption | with_reducible refine Gr.alloc ?_ _ | with_reducible refine Gr.drewN ?_ _ | with_reducible refine Gr.drew ?_ | with_reducible refine Gr.trans ?_ (by with_reducible assumption))); done)) _ | with_reducible refine Gr.trans ?_ (by with_reducible assumption)))⟩
  · have HE := hide (lsB_len (f := flB) hlen)
    have hq : ((l.length : Int) != (m.length : Int)) = true := by rw [bne_iff_ne]; omega
    clear hlen
    go_enter Try.func88, Try.ntmps88
    go_wp2
    go_ret
    exact ⟨ret_bool HE.out.symm, (by repeat (first | with_reducible exact Gr.refl _ | with_reducible assumption | with_reducible refine Gr.alloc ?_ _ | with_reducible refine Gr.drewN ?_ _ | with_reducible refine Gr.drew ?_ | with_reducible refine Gr.setCell ?_ (by first | (dsimp only; omega) | (simp only [World.size_alloc]; omega) | (with_reducible refine Gr.size ?_; (repeat (first | with_reducible exact Gr.refl _ | with_reducible assumption | with_reducible refine Gr.alloc ?_ _ | with_reducible refine Gr.drewN ?_ _ | with_reducible refine Gr.drew ?_ | with_reducible refine Gr.trans ?_ (by with_reducible assumption))); done)) _ | with_reducible refine Gr.trans ?_ (by with_reducible assumption)))⟩
theorem at_get {w : World} {b : Nat} : ∀ {vs : List Value} {o i : Nat} {v : Value}, At w b o vs → vs[i]? = some v → w.cell? ⟨b, o + i, none⟩ = some v
  | [], _, _, _, _, h => by simp at h
  | x :: xs, o, 0, v, h, k => by
    simp only [List.getElem?_cons_zero, Option.some.injEq] at k
    subst k
    exact h.1
  | x :: xs, o, i + 1, v, h, k => by
    have := at_get (i := i) h.2 (by simpa using k)
    rwa [show o + 1 + i = o + (i + 1) by omega] at this
theorem rdF_none {w : World} {l : List Fl} (h : RdF w none l) : l = [] := by
  cases l with
  | nil => rfl
  | cons f l =>
    obtain ⟨b, off, e, _⟩ := h.fl (i := 0) (f := f) rfl
    cases e
set_option maxRecDepth 100000 in
set_option maxHeartbeats 2000000 in
theorem cloneFls_any (A : Option Addr) (c : Nat) (l : List Fl) (w : World) (hl : SlF w A c l) :
    Calls Try.prog 144 #[.slice A l.length c] w fun e w' => ∃ A' c', e = .returned (.slice A' l.length c') ∧ OwnL w' w.heap.size 55 7 flL (.slice A' l.length c') l ∧ Gr w w' := by
  have q22 : ∀ (w : World) (a : Option Addr) (n c n' c' : Nat), (binOp .eql 22 (.slice a n c) (.slice none n' c')).run Try.prog w = .ok (.bool a.isNone) w := fun w a n c n' c' => Lib.run_eql_slice_nil w _ _ a n c n' c' Try.underlying22
  cases A with
  | none =>
    obtain rfl := rdF_none hl.rd
    clear hl
    go_enter Try.func144, Try.ntmps144
    go_wp2
    go_ret
    exact ⟨none, 0, rfl, own_nil _ _ _ _ _, Gr.refl _⟩
  | some a =>
    obtain ⟨i0, hi0, hz0, hz1, hz2⟩ := info_parts infoFl
    have n1 := hl.len
    have HL := hide hl
    clear hl
    go_enter Try.func144, Try.ntmps144
    go_wp2_with (at_builtin; refine wpList_append_own _ rfl _ _ 22 rfl w.heap.size 55 i0 _ 7 64 Try.underlying22 hi0 hz0 hz1 hz2 rfl (by omega) _ _ _ rfl (World.ownsRow_made w #[] 0 (Nat.le_refl _) (Nat.zero_le _) (by simp)) a l.length c (l.flatMap flL) rfl ?qc1 ?qc2 ?qc3 ?qc4 ?qc5 ?qc6 ?_)
    case qc1 => exact fm_len (c := flL) (fun _ => rfl) l
    case qc2 =>
      intro j u hj
      have hlt := (List.getElem?_eq_some_iff.1 hj).1
      rw [fm_len (c := flL) (k := 7) (fun _ => rfl) l] at hlt
      obtain ⟨f, hf⟩ : ∃ f, l[j / 7]? = some f := ⟨_, List.getElem?_eq_getElem (by omega)⟩
      obtain ⟨b, off, e, hat⟩ := HL.out.rd (j / 7) f hf
      have e2 := fm_at (c := flL) (k := 7) (fun _ => rfl) l (j / 7) f (j % 7) hf (by omega)
      rw [show j / 7 * 7 + j % 7 = j by omega, hj] at e2
      obtain rfl := Option.some.inj e
      have e3 := at_get hat e2.symm
      rw [show off + j / 7 * 7 + j % 7 = off + j by omega] at e3
      rw [addr_add]
      exact Lib.cell?_alloc_some _ e3
    case qc3 =>
      intro u hu
      obtain ⟨f, _, hu⟩ := List.mem_flatMap.1 hu
      exact one_fl f u hu
    case qc4 => unfold maxLen; omega
    case qc5 => omega
    case qc6 => simp
    intro v' w1 hown hgrow hnil
    have ho : OwnL w1 w.heap.size 55 7 flL v' l := by
      unfold OwnL
      simpa using hown
    obtain ⟨A', c', rfl⟩ := ho.slice
    go_wp2
    go_ret
    exact ⟨A', c', rfl, ho, Gr.grown (Gr.alloc (Gr.refl _) _) hgrow (by intro k hk; simp [Value.ownBlock] at hk; omega)⟩
/-- a flange without its name -/
def unn (f : Fl) : Fl := { f with nm := ⟨#[]⟩ }
/-- the flanges, the first k without their names -/
def mixU (l : List Fl) (k : Nat) : List Fl := (l.take k).map unn ++ l.drop k
theorem mixU_zero (l : List Fl) : mixU l 0 = l := by simp [mixU]
theorem mixU_end (l : List Fl) : mixU l l.length = l.map unn := by simp [mixU]
theorem mixU_len {l : List Fl} {k : Nat} (h : k ≤ l.length) : (mixU l k).length = l.length := by
  simp only [mixU, List.length_append, List.length_map, List.length_take, List.length_drop]
  omega
theorem mixU_at {l : List Fl} {k : Nat} {f : Fl} (h : l[k]? = some f) : mixU l k = (l.take k).map unn ++ f :: l.drop (k + 1) ∧ mixU l (k + 1) = (l.take k).map unn ++ unn f :: l.drop (k + 1) := by
  have hk := (List.getElem?_eq_some_iff.1 h).1
  constructor
  · unfold mixU
    rw [List.drop_eq_getElem_cons hk, (List.getElem?_eq_some_iff.1 h).2]
  · unfold mixU
    rw [take_snoc h]
    simp
theorem mixU_set {l : List Fl} {k : Nat} {f : Fl} (h : l[k]? = some f) : ((mixU l k).flatMap flL).set (k * 7) (.string ⟨#[]⟩) = (mixU l (k + 1)).flatMap flL := by
  have hk := (List.getElem?_eq_some_iff.1 h).1
  rw [(mixU_at h).1, (mixU_at h).2, List.flatMap_append, List.flatMap_append, List.flatMap_cons, List.flatMap_cons]
  have hl : (((l.take k).map unn).flatMap flL).length = k * 7 := by
    rw [fm_len (c := flL) (k := 7) (fun _ => rfl), List.length_map, List.length_take]
    omega
  rw [List.set_append, if_neg (by omega), hl, Nat.sub_self]
  rfl
theorem mixU_cell {l : List Fl} {k : Nat} {f : Fl} (h : l[k]? = some f) : ((mixU l k).flatMap flL)[k * 7]? = some (.string f.nm) := by
  have hk := (List.getElem?_eq_some_iff.1 h).1
  have := fm_at (c := flL) (k := 7) (fun _ => rfl) (mixU l k) k f 0 (by rw [(mixU_at h).1, List.getElem?_append_right (by rw [List.length_map, List.length_take]; omega)]; simp [Nat.min_eq_left (Nat.le_of_lt hk)]) (by omega)
  rw [Nat.add_zero] at this
  exact this
set_option maxRecDepth 100000 in
set_option maxHeartbeats 2000000 in
theorem unnamed_any (A : Option Addr) (c : Nat) (l : List Fl) (w : World) (hl : SlF w A c l) :
    Calls Try.prog 150 #[.slice A l.length c] w fun e w' => ∃ A' c', e = .returned (.slice A' l.length c') ∧ OwnL w' w.heap.size 55 7 flL (.slice A' l.length c') (l.map unn) ∧ Gr w w' := by
  have HC := hide (fun (w' : World) (g : Gr w w') => cloneFls_any A c l w' (hl.gr g))
  have n1 := hl.len
  clear hl
  go_enter Try.func150, Try.ntmps150
  go_wp2_with fail
  refine (HC.out _ (by repeat (first | with_reducible exact Gr.refl _ | with_reducible assumption | with_reducible refine Gr.alloc ?_ _ | with_reducible refine Gr.drewN ?_ _ | with_reducible refine Gr.drew ?_ | with_reducible refine Gr.setCell ?_ (by first | (dsimp only; omega) | (simp only [World.size_alloc]; omega) | (with_reducible refine Gr.size ?_; (repeat (first | with_reducible exact Gr.refl _ | with_reducible assumption | with_reducible refine Gr.alloc ?_ _ | with_reducible refine Gr.drewN ?_ _ | with_reducible refine Gr.drew ?_ | with_reducible refine Gr.trans ?_ (by with_reducible assumption))); done)) _ | with_reducible refine Gr.trans ?_ (by with_reducible assumption)))).mono ?_
  rintro e w1 ⟨A1, d1, rfl, o1, g1⟩
  have HO1 := hide o1
  clear o1
  go_wp2_with fail
  go_loopw [8] (fun i wr => ∃ k : Nat, k ≤ l.length ∧ i = iv k ∧ Gr w wr ∧ Hid (OwnL wr w.heap.size 55 7 flL (.slice A1 l.length d1) (mixU l k))) (fun i _ => l.length - (intOf i).toNat)
  case atStart => exact ⟨0, by omega, rfl, g1, by rw [mixU_zero]; exact HO1.out⟩
  case round =>
    obtain ⟨k, hk, rfl, g, HO⟩ := hrel
    by_cases hkl : k < l.length
    · obtain ⟨f, hf⟩ : ∃ f, l[k]? = some f := ⟨_, List.getElem?_eq_getElem hkl⟩
      obtain ⟨h0, ⟨_, h2⟩ | ⟨b, cap, cur, h1, hb, _⟩⟩ := id HO.out
      · rw [mixU_len hk] at h2; omega
      injection h1 with e1 e2 e3
      subst e1 e3
      have HOW := hide (show World.ownsRow wr w.heap.size 55 7 (.slice (some ⟨b, 0, none⟩) l.length d1) l.length ((mixU l k).flatMap flL) by
        have := HO.out
        unfold OwnL at this
        rwa [mixU_len hk] at this)
      have y0 : wr.cell? ⟨b, k * 7, none⟩ = some (.string f.nm) := (World.ownsRow.cellAt HOW.out (k * 7) (by omega)).trans (mixU_cell hf)
      have y1 : wr.frozen? ⟨b, k * 7, none⟩ = false := World.ownsRow.frozenAt HOW.out _
      have hbl : b < wr.heap.size := cell_lt (by rw [y0]; rfl)
      have HN := hide (show OwnL (wr.setCell ⟨b, k * 7, none⟩ (.string ⟨#[]⟩)) w.heap.size 55 7 flL (.slice (some ⟨b, 0, none⟩) l.length d1) (mixU l (k + 1)) by
        have := (World.ownsRow.stored HOW.out (k * 7) (.string ⟨#[]⟩)).1
        rw [mixU_set hf] at this
        unfold OwnL
        rw [mixU_len (by omega)]
        exact this)
      have hk0 : (0 : Int) ≤ (k : Int) := by omega
      have hk1 : (k : Int) < (l.length : Int) := by omega
      clear HO h0 HOW hf
      go_wp2
      go_roundw
      case rel => exact ⟨k + 1, by omega, by go_num, Gr.setCell g (by dsimp only; omega) _, HN⟩
      case measure => simp only [intOf]; omega
    · obtain rfl : k = l.length := by omega
      rw [mixU_end] at HO
      go_wp2
      go_ret
      exact ⟨A1, d1, rfl, HO.out, g⟩
end Go.Proofs.Ytpmomgfepkegnaa
namespace Go.Proofs.Ytpmomgfepkegnaa
open Go Go.ChangeShapes Go.WideShapes Go.ChangeAt Go.RowKit Go.Deep

set_option maxRecDepth 100000 in
set_option maxHeartbeats 4000000 in
theorem cEqual_any (p q : Pa) (A B A' B' : Option Addr) (c d c' d' : Nat) (w : World) (hp : PaW w p A c B d) (hq : PaW w q A' c' B' d') :
    Calls Try.prog 35 #[pav p A c B d, pav q A' c' B' d'] w fun e w' => e = .returned (.bool (eqB p q)) ∧ Gr w w' := by
  have HFE := hide (fun (w' : World) (g : Gr w w') => eqFls_any A A' c c' p.fl q.fl w' (hp.fl.gr g) (hq.fl.gr g))
  have HHE := hide (fun (w' : World) (g : Gr w w') => eqHos_any B B' d d' p.ho q.ho w' (hp.ho.gr g) (hq.ho.gr g))
  clear hp hq
  cases hh : hdQ p q with
  | false =>
    have HN := hide (show ¬ ((p.nm.toList == q.nm.toList) = true ∧ (p.mt.toList == q.mt.toList) = true ∧ (p.ga == q.ga) = true ∧ (p.gr == q.gr) = true ∧ (p.wd == q.wd) = true ∧ (p.ht == q.ht) = true) by rw [← hdQ_parts, hh]; simp)
    have HE := hide (eqB_head hh)
    clear hh
    go_enter Try.func35, Try.ntmps35
    go_wp2_with fail
    all_goals first
      | (go_ret
         exact ⟨ret_bool HE.out.symm, (by repeat (first | with_reducible exact Gr.refl _ | with_reducible assumption | with_reducible refine Gr.alloc ?_ _ | with_reducible refine Gr.drewN ?_ _ | with_reducible refine Gr.drew ?_ | with_reducible refine Gr.setCell ?_ (by first | (dsimp only; omega) | (simp only [World.size_alloc]; omega) | (with_reducible refine Gr.size ?_; (repeat (first | with_reducible exact Gr.refl _ | with_reducible assumption | with_reducible refine Gr.alloc ?_ _ | with_reducible refine Gr.drewN ?_ _ | with_reducible refine Gr.drew ?_ | with_reducible refine Gr.trans ?_ (by with_reducible assumption))); done)) _ | with_reducible refine Gr.trans ?_ (by with_reducible assumption)))⟩)
      | (exfalso
         refine HN.out ⟨?_, ?_, ?_, ?_, ?_, ?_⟩ <;> (first | assumption | (simp at *; assumption)))
  | true =>
    obtain ⟨k1, k2, k3, k4, k5, k6⟩ := hdQ_parts.1 hh
    cases hf : lsB flB p.fl q.fl with
    | true =>
      have HE := hide (eqB_rest hh hf)
      rw [hf] at HFE
      clear hh hf
      go_enter Try.func35, Try.ntmps35
      go_wp2_with fail
      refine (HFE.out _ (by repeat (first | with_reducible exact Gr.refl _ | with_reducible assumption | with_reducible refine Gr.alloc ?_ _ | with_reducible refine Gr.drewN ?_ _ | with_reducible refine Gr.drew ?_ | with_reducible refine Gr.setCell ?_ (by first | (dsimp only; omega) | (simp only [World.size_alloc]; omega) | (with_reducible refine Gr.size ?_; (repeat (first | with_reducible exact Gr.refl _ | with_reducible assumption | with_reducible refine Gr.alloc ?_ _ | with_reducible refine Gr.drewN ?_ _ | with_reducible refine Gr.drew ?_ | with_reducible refine Gr.trans ?_ (by with_reducible assumption))); done)) _ | with_reducible refine Gr.trans ?_ (by with_reducible assumption)))).mono ?_
      rintro e w1 ⟨rfl, g1⟩
      obtain ⟨X1, Y1, c1, f1⟩ := g1.use
      have z1 := g1.size
      simp only [World.size_alloc] at z1
      have l1 : w.heap.size < w1.heap.size := by omega
      have l2 : w.heap.size + 1 < w1.heap.size := by omega
      have gw1 : Gr w w1 := (by repeat (first | with_reducible exact Gr.refl _ | with_reducible assumption | with_reducible refine Gr.alloc ?_ _ | with_reducible refine Gr.drewN ?_ _ | with_reducible refine Gr.drew ?_ | with_reducible refine Gr.setCell ?_ (by first | (dsimp only; omega) | (simp only [World.size_alloc]; omega) | (with_reducible refine Gr.size ?_; (repeat (first | with_reducible exact Gr.refl _ | with_reducible assumption | with_reducible refine Gr.alloc ?_ _ | with_reducible refine Gr.drewN ?_ _ | with_reducible refine Gr.drew ?_ | with_reducible refine Gr.trans ?_ (by with_reducible assumption))); done)) _ | with_reducible refine Gr.trans ?_ (by with_reducible assumption)))
      go_wp2_with fail
      refine (HHE.out _ gw1).mono ?_
      rintro e w2 ⟨rfl, g2⟩
      go_wp2
      go_ret
      exact ⟨ret_bool HE.out.symm, (by repeat (first | with_reducible exact Gr.refl _ | with_reducible assumption | with_reducible refine Gr.alloc ?_ _ | with_reducible refine Gr.drewN ?_ _ | with_reducible refine Gr.drew ?_ | with_reducible refine Gr.setCell ?_ (by first | (dsimp only; omega) | (simp only [World.size_alloc]; omega) | (with_reducible refine Gr.size ?_; (repeat (first | with_reducible exact Gr.refl _ | with_reducible assumption | with_reducible refine Gr.alloc ?_ _ | with_reducible refine Gr.drewN ?_ _ | with_reducible refine Gr.drew ?_ | with_reducible refine Gr.trans ?_ (by with_reducible assumption))); done)) _ | with_reducible refine Gr.trans ?_ (by with_reducible assumption)))⟩
    | false =>
      have HE := hide (eqB_fl (p := p) (q := q) hf)
      rw [hf] at HFE
      clear hh hf
      go_enter Try.func35, Try.ntmps35
      go_wp2_with fail
      refine (HFE.out _ (by repeat (first | with_reducible exact Gr.refl _ | with_reducible assumption | with_reducible refine Gr.alloc ?_ _ | with_reducible refine Gr.drewN ?_ _ | with_reducible refine Gr.drew ?_ | with_reducible refine Gr.setCell ?_ (by first | (dsimp only; omega) | (simp only [World.size_alloc]; omega) | (with_reducible refine Gr.size ?_; (repeat (first | with_reducible exact Gr.refl _ | with_reducible assumption | with_reducible refine Gr.alloc ?_ _ | with_reducible refine Gr.drewN ?_ _ | with_reducible refine Gr.drew ?_ | with_reducible refine Gr.trans ?_ (by with_reducible assumption))); done)) _ | with_reducible refine Gr.trans ?_ (by with_reducible assumption)))).mono ?_
      rintro e w1 ⟨rfl, g1⟩
      go_wp2
      go_ret
      exact ⟨ret_bool HE.out.symm, (by repeat (first | with_reducible exact Gr.refl _ | with_reducible assumption | with_reducible refine Gr.alloc ?_ _ | with_reducible refine Gr.drewN ?_ _ | with_reducible refine Gr.drew ?_ | with_reducible refine Gr.setCell ?_ (by first | (dsimp only; omega) | (simp only [World.size_alloc]; omega) | (with_reducible refine Gr.size ?_; (repeat (first | with_reducible exact Gr.refl _ | with_reducible assumption | with_reducible refine Gr.alloc ?_ _ | with_reducible refine Gr.drewN ?_ _ | with_reducible refine Gr.drew ?_ | with_reducible refine Gr.trans ?_ (by with_reducible assumption))); done)) _ | with_reducible refine Gr.trans ?_ (by with_reducible assumption)))⟩
/-- two flanges compared but for their names -/
def flQ (a b : Fl) : Bool := a.pa == b.pa && (a.sd == b.sd && (a.o == b.o && (a.wd == b.wd && (a.ln == b.ln && a.an == b.an))))
theorem flB_unn (a b : Fl) : flB (unn a) (unn b) = flQ a b := by simp [flB, unn, flQ]
theorem lsB_unn (l m : List Fl) : lsB flB (l.map unn) (m.map unn) = lsB flQ l m := by
  rw [Bool.eq_iff_iff, lsB_iff, lsB_iff, List.length_map, List.length_map]
  refine and_congr_right fun _ => ⟨fun h i a b ha hb => ?_, fun h i a b ha hb => ?_⟩
  · rw [← flB_unn]
    exact h i _ _ (by rw [List.getElem?_map, ha]; rfl) (by rw [List.getElem?_map, hb]; rfl)
  · rw [List.getElem?_map] at ha hb
    obtain ⟨a', ha', rfl⟩ := Option.map_eq_some_iff.1 ha
    obtain ⟨b', hb', rfl⟩ := Option.map_eq_some_iff.1 hb
    rw [flB_unn]
    exact h i a' b' ha' hb'
def ouH (p q : Pa) : Bool := (p.mt.toList == q.mt.toList) && (p.ga == q.ga) && (p.gr == q.gr) && (p.wd == q.wd) && (p.ht == q.ht)
theorem ouH_parts {p q : Pa} : ouH p q = true ↔ (p.mt.toList == q.mt.toList) = true ∧ (p.ga == q.ga) = true ∧ (p.gr == q.gr) = true ∧ (p.wd == q.wd) = true ∧ (p.ht == q.ht) = true := by
  unfold ouH
  simp only [Bool.and_eq_true, and_assoc]
/-- whether the outlines of two parts differ -/
noncomputable def ouD (p q : Pa) : Bool := !(ouH p q && lsB flQ p.fl q.fl)
def paU (p : Pa) (nm : ByteArray) (ho : List Ho) : Pa := ⟨nm, p.mt, p.ga, p.gr, p.wd, p.ht, p.fl.map unn, ho⟩
theorem eqB_paU (p q : Pa) : (!(eqB (paU p q.nm q.ho) (paU q q.nm q.ho))) = ouD p q := by
  unfold eqB ouD paU
  dsimp only
  rw [lsB_unn, lsB_self hoQ_self, Bool.and_true]
  unfold hdQ ouH
  simp
theorem PaW.unn {w w' : World} {p q : Pa} {A B A' B' A1 : Option Addr} {c d c' d' c1 lo : Nat} (h : PaW w p A c B d) (k : PaW w q A' c' B' d') (g : Gr w w') (h1 : OwnL w' lo 55 7 flL (.slice A1 p.fl.length c1) (p.fl.map unn)) : PaW w' (paU p q.nm q.ho) A1 c1 B' d' := by
  obtain ⟨-, r1, a1, a2⟩ := OwnL.rd (c := flL) (fun _ => rfl) h1
  unfold maxLen at a2
  refine ⟨⟨r1, a1, by omega, ?_, ?_⟩, k.ho.gr g, k.nm, h.mt⟩
  · show (p.fl.map _).length ≤ 1000
    rw [List.length_map]
    exact h.fl.len
  · intro f hf
    obtain ⟨f', _, rfl⟩ := List.mem_map.1 (show f ∈ p.fl.map _ from hf)
    show (⟨#[]⟩ : ByteArray).size ≤ 1000
    decide
theorem cEqU_any (p q : Pa) (A B A' B' : Option Addr) (c d c' d' : Nat) (w : World) (hp : PaW w (paU p q.nm q.ho) A c B d) (hq : PaW w (paU q q.nm q.ho) A' c' B' d') :
    Calls Try.prog 35 #[.agg #[.string q.nm, .string p.mt, iv p.ga, iv p.gr, iv p.wd, iv p.ht, .slice A p.fl.length c, .slice B q.ho.length d], .agg #[.string q.nm, .string q.mt, iv q.ga, iv q.gr, iv q.wd, iv q.ht, .slice A' q.fl.length c', .slice B' q.ho.length d']] w fun e w' => e = .returned (.bool (eqB (paU p q.nm q.ho) (paU q q.nm q.ho))) ∧ Gr w w' := by
  have h := cEqual_any (paU p q.nm q.ho) (paU q q.nm q.ho) A B A' B' c d c' d' w hp hq
  generalize eqB (paU p q.nm q.ho) (paU q q.nm q.ho) = eb at h ⊢
  simpa only [pav, paU, List.length_map] using h
set_option maxRecDepth 100000 in
set_option maxHeartbeats 4000000 in
theorem outlineDiffers_any (p q : Pa) (A B A' B' : Option Addr) (c d c' d' : Nat) (w : World) (hp : PaW w p A c B d) (hq : PaW w q A' c' B' d') :
    Calls Try.prog 90 #[pav p A c B d, pav q A' c' B' d'] w fun e w' => e = .returned (.bool (ouD p q)) ∧ Gr w w' := by
  have HU1 := hide (fun (w' : World) (g : Gr w w') => unnamed_any A c p.fl w' (hp.fl.gr g))
  have HU2 := hide (fun (w' : World) (g : Gr w w') => unnamed_any A' c' q.fl w' (hq.fl.gr g))
  have HP := hide hp
  have HQ := hide hq
  have HEQ := hide (eqB_paU p q)
  clear hp hq
  go_enter Try.func90, Try.ntmps90
  go_upto_region 1 with fail
  go_region
  go_upto_region 2 with fail
  go_region_law (go_simp; go_at_call 150; refine (unnamed_any _ _ _ _ (by first | exact HP.out.fl.gr (by repeat (first | with_reducible exact Gr.refl _ | with_reducible assumption | with_reducible refine Gr.alloc ?_ _ | with_reducible refine Gr.drewN ?_ _ | with_reducible refine Gr.drew ?_ | with_reducible refine Gr.setCell ?_ (by first | (dsimp only; omega) | (simp only [World.size_alloc]; omega) | (with_reducible refine Gr.size ?_; (repeat (first | with_reducible exact Gr.refl _ | with_reducible assumption | with_reducible refine Gr.alloc ?_ _ | with_reducible refine Gr.drewN ?_ _ | with_reducible refine Gr.drew ?_ | with_reducible refine Gr.trans ?_ (by with_reducible assumption))); done)) _ | with_reducible refine Gr.trans ?_ (by with_reducible assumption))) | exact HQ.out.fl.gr (by repeat (first | with_reducible exact Gr.refl _ | with_reducible assumption | with_reducible refine Gr.alloc ?_ _ | with_reducible refine Gr.drewN ?_ _ | with_reducible refine Gr.drew ?_ | with_reducible refine Gr.setCell ?_ (by first | (dsimp only; omega) | (simp only [World.size_alloc]; omega) | (with_reducible refine Gr.size ?_; (repeat (first | with_reducible exact Gr.refl _ | with_reducible assumption | with_reducible refine Gr.alloc ?_ _ | with_reducible refine Gr.drewN ?_ _ | with_reducible refine Gr.drew ?_ | with_reducible refine Gr.trans ?_ (by with_reducible assumption))); done)) _ | with_reducible refine Gr.trans ?_ (by with_reducible assumption))))).mono ?_; rintro e w5 ⟨A5, d5, rfl, ho5, g5⟩; (have m5 := g5.size); (try simp only [World.size_alloc, World.heap_drewN, World.size_drew] at m5); (have k50 : w.heap.size < w5.heap.size := by omega); (have k51 : w.heap.size + 1 < w5.heap.size := by omega); (have ho5' := hide (ho5.weak (lo := w.heap.size + 2) (by first | omega | (simp only [World.size_alloc, World.heap_drewN, World.size_drew]; omega)))); clear ho5; obtain ⟨X5, Y5, c5, f5⟩ := g5.use)
  all_goals
    go_wp2_with fail
    refine (cEqU_any p q _ _ _ _ _ _ _ _ _ ?_ ?_).mono ?_
    · refine PaW.unn (lo := w.heap.size + 2) HP.out HQ.out (by repeat (first | with_reducible exact Gr.refl _ | with_reducible assumption | with_reducible refine Gr.alloc ?_ _ | with_reducible refine Gr.drewN ?_ _ | with_reducible refine Gr.drew ?_ | with_reducible refine Gr.setCell ?_ (by first | (dsimp only; omega) | (simp only [World.size_alloc]; omega) | (with_reducible refine Gr.size ?_; (repeat (first | with_reducible exact Gr.refl _ | with_reducible assumption | with_reducible refine Gr.alloc ?_ _ | with_reducible refine Gr.drewN ?_ _ | with_reducible refine Gr.drew ?_ | with_reducible refine Gr.trans ?_ (by with_reducible assumption))); done)) _ | with_reducible refine Gr.trans ?_ (by with_reducible assumption))) ?_
      unfold OwnL
      repeat (with_reducible refine own_far ?_ (by dsimp only; omega) _)
      first
        | exact Hid.out (by assumption)
        | exact OwnL.gr (Hid.out (by assumption)) (by assumption)
    · refine PaW.unn (lo := w.heap.size + 2) HQ.out HQ.out (by repeat (first | with_reducible exact Gr.refl _ | with_reducible assumption | with_reducible refine Gr.alloc ?_ _ | with_reducible refine Gr.drewN ?_ _ | with_reducible refine Gr.drew ?_ | with_reducible refine Gr.setCell ?_ (by first | (dsimp only; omega) | (simp only [World.size_alloc]; omega) | (with_reducible refine Gr.size ?_; (repeat (first | with_reducible exact Gr.refl _ | with_reducible assumption | with_reducible refine Gr.alloc ?_ _ | with_reducible refine Gr.drewN ?_ _ | with_reducible refine Gr.drew ?_ | with_reducible refine Gr.trans ?_ (by with_reducible assumption))); done)) _ | with_reducible refine Gr.trans ?_ (by with_reducible assumption))) ?_
      unfold OwnL
      repeat (with_reducible refine own_far ?_ (by dsimp only; omega) _)
      first
        | exact Hid.out (by assumption)
        | exact OwnL.gr (Hid.out (by assumption)) (by assumption)
    · rintro e w9 ⟨rfl, g9⟩
      go_wp2
      go_ret
      exact ⟨ret_bool HEQ.out, (by repeat (first | with_reducible exact Gr.refl _ | with_reducible assumption | with_reducible refine Gr.alloc ?_ _ | with_reducible refine Gr.drewN ?_ _ | with_reducible refine Gr.drew ?_ | with_reducible refine Gr.setCell ?_ (by first | (dsimp only; omega) | (simp only [World.size_alloc]; omega) | (with_reducible refine Gr.size ?_; (repeat (first | with_reducible exact Gr.refl _ | with_reducible assumption | with_reducible refine Gr.alloc ?_ _ | with_reducible refine Gr.drewN ?_ _ | with_reducible refine Gr.drew ?_ | with_reducible refine Gr.trans ?_ (by with_reducible assumption))); done)) _ | with_reducible refine Gr.trans ?_ (by with_reducible assumption)))⟩
end Go.Proofs.Ytpmomgfepkegnaa
namespace Go.Proofs.Ytpmomgfepkegnaa
open Go Go.ChangeShapes Go.WideShapes Go.ChangeAt Go.RowKit Go.Deep

set_option maxRecDepth 100000 in
set_option maxHeartbeats 2000000 in
theorem sameFlange_any (a b : Fl) (w : World) :
    Calls Try.prog 151 #[flv a, flv b] w fun e w' => e = .returned (.bool (flQ a b)) ∧ Gr w w' := by
  have NEQ := fun w => eqFlg (unn a) (unn b) w
  rw [flB_unn] at NEQ
  dsimp only [unn] at NEQ
  have GP := gFlg
  go_enter Try.func151, Try.ntmps151
  go_wp2
  go_ret
  exact ⟨rfl, (by repeat (first | with_reducible exact Gr.refl _ | with_reducible assumption | with_reducible refine Gr.alloc ?_ _ | with_reducible refine Gr.drewN ?_ _ | with_reducible refine Gr.drew ?_ | with_reducible refine Gr.setCell ?_ (by first | (dsimp only; omega) | (simp only [World.size_alloc]; omega) | (with_reducible refine Gr.size ?_; (repeat (first | with_reducible exact Gr.refl _ | with_reducible assumption | with_reducible refine Gr.alloc ?_ _ | with_reducible refine Gr.drewN ?_ _ | with_reducible refine Gr.drew ?_ | with_reducible refine Gr.trans ?_ (by with_reducible assumption))); done)) _ | with_reducible refine Gr.trans ?_ (by with_reducible assumption)))⟩
theorem ouD_head {p q : Pa} (h : ouH p q = false) : ouD p q = true := by
  unfold ouD
  rw [h]
  rfl
theorem ouD_fl {p q : Pa} (h : lsB flQ p.fl q.fl = false) : ouD p q = true := by
  unfold ouD
  rw [h]
  simp
theorem ouD_no {p q : Pa} (h : ouH p q = true) (k : lsB flQ p.fl q.fl = true) : ouD p q = false := by
  unfold ouD
  rw [h, k]
  rfl
set_option maxRecDepth 100000 in
set_option maxHeartbeats 4000000 in
theorem rOutline_any (p q : Pa) (A B A' B' : Option Addr) (c d c' d' : Nat) (w : World) (hp : PaW w p A c B d) (hq : PaW w q A' c' B' d') :
    Calls Try.prog 91 #[pav p A c B d, pav q A' c' B' d'] w fun e w' => e = .returned (.bool (ouD p q)) ∧ Gr w w' := by
  have n1 := hp.fl.len
  have n2 := hq.fl.len
  have HP := hide hp
  have HQ := hide hq
  clear hp hq
  cases hh : ouH p q with
  | false =>
    have HN := hide (show ¬ ((p.mt.toList == q.mt.toList) = true ∧ (p.ga == q.ga) = true ∧ (p.gr == q.gr) = true ∧ (p.wd == q.wd) = true ∧ (p.ht == q.ht) = true) by rw [← ouH_parts, hh]; simp)
    have HE := hide (ouD_head hh)
    clear hh
    go_enter Try.func91, Try.ntmps91
    go_upto_region 3 with fail
    all_goals first
      | (go_ret
         exact ⟨ret_bool HE.out.symm, (by repeat (first | with_reducible exact Gr.refl _ | with_reducible assumption | with_reducible refine Gr.alloc ?_ _ | with_reducible refine Gr.drewN ?_ _ | with_reducible refine Gr.drew ?_ | with_reducible refine Gr.setCell ?_ (by first | (dsimp only; omega) | (simp only [World.size_alloc]; omega) | (with_reducible refine Gr.size ?_; (repeat (first | with_reducible exact Gr.refl _ | with_reducible assumption | with_reducible refine Gr.alloc ?_ _ | with_reducible refine Gr.drewN ?_ _ | with_reducible refine Gr.drew ?_ | with_reducible refine Gr.trans ?_ (by with_reducible assumption))); done)) _ | with_reducible refine Gr.trans ?_ (by with_reducible assumption)))⟩)
      | (exfalso
         refine HN.out ⟨?_, ?_, ?_, ?_, ?_⟩ <;> (first | assumption | exact bn_eq (by assumption) | (simp at *; assumption)))
  | true =>
    obtain ⟨k2, k3, k4, k5, k6⟩ := ouH_parts.1 hh
    have HH := hide hh
    have h3 := eq_bn k3
    have h4 := eq_bn k4
    have h5 := eq_bn k5
    have h6 := eq_bn k6
    clear hh k3 k4 k5 k6
    by_cases hlen : p.fl.length = q.fl.length
    · have HN := hide hlen
      have hqq : ((p.fl.length : Int) != (q.fl.length : Int)) = false := eq_bn (by rw [beq_iff_eq]; omega)
      clear hlen
      go_enter Try.func91, Try.ntmps91
      go_upto_region 3 with fail
      go_wp2
      clear k2 h3 h4 h5 h6 hqq
      go_loopw [5] (fun i wr => ∃ k : Nat, k ≤ p.fl.length ∧ i = iv k ∧ Gr ((w.alloc (.cells #[.string p.nm, .string p.mt, iv p.ga, iv p.gr, iv p.wd, iv p.ht, .slice A p.fl.length c, .slice B p.ho.length d] 25)).alloc (.cells #[.string q.nm, .string q.mt, iv q.ga, iv q.gr, iv q.wd, iv q.ht, .slice A' q.fl.length c', .slice B' q.ho.length d'] 25)) wr ∧ Hid (∀ i a b, i < k → p.fl[i]? = some a → q.fl[i]? = some b → flQ a b = true)) (fun i _ => p.fl.length - (intOf i).toNat)
      case atStart => exact ⟨0, by omega, rfl, Gr.refl _, by intro i a b hi; omega⟩
      case round =>
        obtain ⟨k, hk, rfl, g, HS⟩ := hrel
        have gW : Gr w wr := (by repeat (first | with_reducible exact Gr.refl _ | with_reducible assumption | with_reducible refine Gr.alloc ?_ _ | with_reducible refine Gr.drewN ?_ _ | with_reducible refine Gr.drew ?_ | with_reducible refine Gr.setCell ?_ (by first | (dsimp only; omega) | (simp only [World.size_alloc]; omega) | (with_reducible refine Gr.size ?_; (repeat (first | with_reducible exact Gr.refl _ | with_reducible assumption | with_reducible refine Gr.alloc ?_ _ | with_reducible refine Gr.drewN ?_ _ | with_reducible refine Gr.drew ?_ | with_reducible refine Gr.trans ?_ (by with_reducible assumption))); done)) _ | with_reducible refine Gr.trans ?_ (by with_reducible assumption)))
        obtain ⟨Xr, Yr, cr, fr⟩ := g.use
        have zr := g.size
        simp only [World.size_alloc] at zr
        have l0 : w.heap.size < wr.heap.size := by omega
        have l1 : w.heap.size + 1 < wr.heap.size := by omega
        by_cases hkl : k < p.fl.length
        · have hkm : k < q.fl.length := by rw [← HN.out]; exact hkl
          obtain ⟨a, ha⟩ : ∃ a, p.fl[k]? = some a := ⟨_, List.getElem?_eq_getElem hkl⟩
          obtain ⟨b, hb⟩ : ∃ b, q.fl[k]? = some b := ⟨_, List.getElem?_eq_getElem hkm⟩
          obtain ⟨pb, o, rfl, x0, x1, x2, x3, x4, x5, x6⟩ := HP.out.fl.rd.fl ha
          obtain ⟨qb, o', rfl, y0, y1, y2, y3, y4, y5, y6⟩ := HQ.out.fl.rd.fl hb
          have hp1 : pb < w.heap.size := cell_lt (by rw [x0]; rfl)
          have hq1 : qb < w.heap.size := cell_lt (by rw [y0]; rfl)
          have hp2 : pb < wr.heap.size := by omega
          have hq2 : qb < wr.heap.size := by omega
          have NEQ := fun w => sameFlange_any a b w
          have hk0 : (0 : Int) ≤ (k : Int) := by omega
          have hk1 : (k : Int) < (p.fl.length : Int) := by omega
          have hk2 : (k : Int) < (q.fl.length : Int) := by omega
          have HLa := hide ha
          have HLb := hide hb
          clear ha hb
          cases hv : flQ a b with
          | true =>
            have HS' := hide (show ∀ i x y, i < k + 1 → p.fl[i]? = some x → q.fl[i]? = some y → flQ x y = true by
              intro i x y hi hx hy
              rcases Nat.lt_or_ge i k with h | h
              · exact HS.out i x y h hx hy
              · obtain rfl : i = k := by omega
                rw [HLa.out] at hx
                rw [HLb.out] at hy
                obtain rfl := Option.some.inj hx
                obtain rfl := Option.some.inj hy
                exact hv)
            rw [hv] at NEQ
            clear hv
            go_upto_region 6 with fail
            have GC := @GrW.cell
            refine wp_region_grw _ (by kernel_rfl) (by kernel_rfl) (Gr.refl _) ?_
            repeat (go_big_quiet_step ((first | (go_at_call 151; exact quiet_grw (NEQ _)))))
            refine wpQuiet_nil ?_
            intro wq hwq
            obtain ⟨gq, hwq'⟩ := hwq
            subst hwq'
            clear GC
            have gq1 := gq.gr
            generalize gq.w = wq at gq1 ⊢
            obtain ⟨Xq, Yq, cq, fq⟩ := gq1.use
            have sq := gq1.size
            (try simp only [World.size_alloc, World.size_setCell, World.heap_drewN] at sq)
            go_wp2
            go_roundw
            case rel => exact ⟨k + 1, by omega, by go_num, (by repeat (first | with_reducible exact Gr.refl _ | with_reducible assumption | with_reducible refine Gr.alloc ?_ _ | with_reducible refine Gr.drewN ?_ _ | with_reducible refine Gr.drew ?_ | with_reducible refine Gr.setCell ?_ (by first | (dsimp only; omega) | (simp only [World.size_alloc]; omega) | (with_reducible refine Gr.size ?_; (repeat (first | with_reducible exact Gr.refl _ | with_reducible assumption | with_reducible refine Gr.alloc ?_ _ | with_reducible refine Gr.drewN ?_ _ | with_reducible refine Gr.drew ?_ | with_reducible refine Gr.trans ?_ (by with_reducible assumption))); done)) _ | with_reducible refine Gr.trans ?_ (by with_reducible assumption))), HS'⟩
            case measure => simp only [intOf]; omega
          | false =>
            have HE := hide (ouD_fl (p := p) (q := q) (lsB_stop (f := flQ) HLa.out HLb.out hv))
            rw [hv] at NEQ
            clear hv
            go_upto_region 6 with fail
            have GC := @GrW.cell
            refine wp_region_grw _ (by kernel_rfl) (by kernel_rfl) (Gr.refl _) ?_
            repeat (go_big_quiet_step ((first | (go_at_call 151; exact quiet_grw (NEQ _)))))
            refine wpQuiet_nil ?_
            intro wq hwq
            obtain ⟨gq, hwq'⟩ := hwq
            subst hwq'
            clear GC
            have gq1 := gq.gr
            generalize gq.w = wq at gq1 ⊢
            obtain ⟨Xq, Yq, cq, fq⟩ := gq1.use
            have sq := gq1.size
            (try simp only [World.size_alloc, World.size_setCell, World.heap_drewN] at sq)
            go_wp2
            go_ret
            exact ⟨ret_bool HE.out.symm, (by repeat (first | with_reducible exact Gr.refl _ | with_reducible assumption | with_reducible refine Gr.alloc ?_ _ | with_reducible refine Gr.drewN ?_ _ | with_reducible refine Gr.drew ?_ | with_reducible refine Gr.setCell ?_ (by first | (dsimp only; omega) | (simp only [World.size_alloc]; omega) | (with_reducible refine Gr.size ?_; (repeat (first | with_reducible exact Gr.refl _ | with_reducible assumption | with_reducible refine Gr.alloc ?_ _ | with_reducible refine Gr.drewN ?_ _ | with_reducible refine Gr.drew ?_ | with_reducible refine Gr.trans ?_ (by with_reducible assumption))); done)) _ | with_reducible refine Gr.trans ?_ (by with_reducible assumption)))⟩
        · obtain rfl : k = p.fl.length := by omega
          have HE := hide (ouD_no HH.out (lsB_end (f := flQ) HN.out HS.out))
          go_wp2
          go_ret
          exact ⟨ret_bool HE.out.symm, (by repeat (first | with_reducible exact Gr.refl _ | with_reducible assumption | with_reducible refine Gr.alloc ?_ _ | with_reducible refine Gr.drewN ?_ _ | with_reducible refine Gr.drew ?_ | with_reducible refine Gr.setCell ?_ (by first | (dsimp only; omega) | (simp only [World.size_alloc]; omega) | (with_reducible refine Gr.size ?_; (repeat (first | with_reducible exact Gr.refl _ | with_reducible assumption | with_reducible refine Gr.alloc ?_ _ | with_reducible refine Gr.drewN ?_ _ | with_reducible refine Gr.drew ?_ | with_reducible refine Gr.trans ?_ (by with_reducible assumption))); done)) _ | with_reducible refine Gr.trans ?_ (by with_reducible assumption)))⟩
    · have HE := hide (ouD_fl (p := p) (q := q) (lsB_len (f := flQ) hlen))
      have hqq : ((p.fl.length : Int) != (q.fl.length : Int)) = true := by rw [bne_iff_ne]; omega
      clear hlen
      go_enter Try.func91, Try.ntmps91
      go_wp2
      go_ret
      exact ⟨ret_bool HE.out.symm, (by repeat (first | with_reducible exact Gr.refl _ | with_reducible assumption | with_reducible refine Gr.alloc ?_ _ | with_reducible refine Gr.drewN ?_ _ | with_reducible refine Gr.drew ?_ | with_reducible refine Gr.setCell ?_ (by first | (dsimp only; omega) | (simp only [World.size_alloc]; omega) | (with_reducible refine Gr.size ?_; (repeat (first | with_reducible exact Gr.refl _ | with_reducible assumption | with_reducible refine Gr.alloc ?_ _ | with_reducible refine Gr.drewN ?_ _ | with_reducible refine Gr.drew ?_ | with_reducible refine Gr.trans ?_ (by with_reducible assumption))); done)) _ | with_reducible refine Gr.trans ?_ (by with_reducible assumption)))⟩
end Go.Proofs.Ytpmomgfepkegnaa
namespace Go.Proofs.Ytpmomgfepkegnaa
open Go Go.ChangeShapes Go.WideShapes Go.ChangeAt Go.RowKit Go.Deep

/-- what has changed: the outline, the holes, the error -/
noncomputable def chV (p q : Pa) : Bool × Bool × Int := if valE p ≠ 0 then (false, false, valE p) else if valE q ≠ 0 then (false, false, valE q) else (ouD p q, !(lsB hoQ p.ho q.ho), 0)
theorem chV_p {p q : Pa} (h : ¬ valE p = 0) : chV p q = (false, false, valE p) := by
  unfold chV
  rw [if_pos h]
theorem chV_q {p q : Pa} (h : valE p = 0) (k : ¬ valE q = 0) : chV p q = (false, false, valE q) := by
  unfold chV
  rw [if_neg (by simpa using h), if_pos k]
theorem chV_ok {p q : Pa} (h : valE p = 0) (k : valE q = 0) : chV p q = (ouD p q, !(lsB hoQ p.ho q.ho), 0) := by
  unfold chV
  rw [if_neg (by simpa using h), if_neg (by simpa using k)]
theorem chV_err (p q : Pa) : (chV p q).2.2 = 0 ∨ ((chV p q).1 = false ∧ (chV p q).2.1 = false) := by
  unfold chV
  split
  · exact .inr ⟨rfl, rfl⟩
  · split
    · exact .inr ⟨rfl, rfl⟩
    · exact .inl rfl
def chS (t : Bool × Bool × Int) : Bool := decide (t.2.2 = 0) && (!t.1 && !t.2.1)
abbrev chW (s : Bool) (t : Bool × Bool × Int) : Value := .tuple #[.agg #[.bool s, .bool t.1, .bool t.2.1, .bool t.1], iv t.2.2]
abbrev chR (t : Bool × Bool × Int) : Value := .tuple #[.bool t.1, .bool t.2.1, iv t.2.2]
set_option maxRecDepth 100000 in
set_option maxHeartbeats 4000000 in
theorem Changed_any (p q : Pa) (A B A' B' : Option Addr) (c d c' d' : Nat) (w : World) (hp : PaW w p A c B d) (hq : PaW w q A' c' B' d') :
    Calls Try.prog 36 #[pav p A c B d, pav q A' c' B' d'] w fun e w' => e = .returned (chW (chS (chV p q)) (chV p q)) ∧ Gr w w' := by
  have HV1 := hide (fun (w' : World) (g : Gr w w') => Validate_any p A B c d w' (hp.gr g))
  have HV2 := hide (fun (w' : World) (g : Gr w w') => Validate_any q A' B' c' d' w' (hq.gr g))
  by_cases h1 : valE p = 0
  · by_cases h2 : valE q = 0
    · have HO := hide (fun (w' : World) (g : Gr w w') => outlineDiffers_any p q A B A' B' c d c' d' w' (hp.gr g) (hq.gr g))
      have HH := hide (fun (w' : World) (g : Gr w w') => eqHos_any B B' d d' p.ho q.ho w' (hp.ho.gr g) (hq.ho.gr g))
      rw [chV_ok h1 h2]
      rw [h1] at HV1
      rw [h2] at HV2
      generalize ouD p q = o at *
      generalize lsB hoQ p.ho q.ho = h at *
      clear h1 h2 hp hq
      cases o <;> cases h
      all_goals
        go_enter Try.func36, Try.ntmps36
        go_wp2_with fail
        refine (HV1.out _ (by repeat (first | with_reducible exact Gr.refl _ | with_reducible assumption | with_reducible refine Gr.alloc ?_ _ | with_reducible refine Gr.drewN ?_ _ | with_reducible refine Gr.drew ?_ | with_reducible refine Gr.setCell ?_ (by first | (dsimp only; omega) | (simp only [World.size_alloc]; omega) | (with_reducible refine Gr.size ?_; (repeat (first | with_reducible exact Gr.refl _ | with_reducible assumption | with_reducible refine Gr.alloc ?_ _ | with_reducible refine Gr.drewN ?_ _ | with_reducible refine Gr.drew ?_ | with_reducible refine Gr.trans ?_ (by with_reducible assumption))); done)) _ | with_reducible refine Gr.trans ?_ (by with_reducible assumption)))).mono ?_
        rintro e w1 ⟨rfl, g1⟩
        obtain ⟨X1, Y1, c1, f1⟩ := g1.use
        have z1 := g1.size
        simp only [World.size_alloc] at z1
        have l1 : w.heap.size < w1.heap.size := by omega
        have l2 : w.heap.size + 1 < w1.heap.size := by omega
        have l3 : w.heap.size + 1 + 1 < w1.heap.size := by omega
        have gw1 : Gr w w1 := (by repeat (first | with_reducible exact Gr.refl _ | with_reducible assumption | with_reducible refine Gr.alloc ?_ _ | with_reducible refine Gr.drewN ?_ _ | with_reducible refine Gr.drew ?_ | with_reducible refine Gr.setCell ?_ (by first | (dsimp only; omega) | (simp only [World.size_alloc]; omega) | (with_reducible refine Gr.size ?_; (repeat (first | with_reducible exact Gr.refl _ | with_reducible assumption | with_reducible refine Gr.alloc ?_ _ | with_reducible refine Gr.drewN ?_ _ | with_reducible refine Gr.drew ?_ | with_reducible refine Gr.trans ?_ (by with_reducible assumption))); done)) _ | with_reducible refine Gr.trans ?_ (by with_reducible assumption)))
        go_wp2_with fail
        refine (HV2.out _ gw1).mono ?_
        rintro e w2 ⟨rfl, g2⟩
        obtain ⟨X2, Y2, c2, f2⟩ := g2.use
        have z2 := g2.size
        have m1 : w.heap.size < w2.heap.size := by omega
        have m2 : w.heap.size + 1 < w2.heap.size := by omega
        have m3 : w.heap.size + 1 + 1 < w2.heap.size := by omega
        have gw2 : Gr w w2 := gw1.trans g2
        go_wp2_with fail
        refine (HO.out _ gw2).mono ?_
        rintro e w3 ⟨rfl, g3⟩
        obtain ⟨X3, Y3, c3, f3⟩ := g3.use
        have z3 := g3.size
        have n1 : w.heap.size < w3.heap.size := by omega
        have n2 : w.heap.size + 1 < w3.heap.size := by omega
        have n3 : w.heap.size + 1 + 1 < w3.heap.size := by omega
        have gw3 : Gr w w3 := gw2.trans g3
        go_wp2_with fail
        refine (HH.out _ gw3).mono ?_
        rintro e w4 ⟨rfl, g4⟩
        obtain ⟨X4, Y4, c4, f4⟩ := g4.use
        have z4 := g4.size
        have o1 : w.heap.size < w4.heap.size := by omega
        have o2 : w.heap.size + 1 < w4.heap.size := by omega
        have o3 : w.heap.size + 1 + 1 < w4.heap.size := by omega
        have gw4 : Gr w w4 := gw3.trans g4
        go_wp2
      · refine bodyPost_ret (v := chW false (false, true, 0)) (by simp [results, Try.results36, go_sem, *]) rfl ⟨rfl, (by repeat (first | with_reducible exact Gr.refl _ | with_reducible assumption | with_reducible refine Gr.alloc ?_ _ | with_reducible refine Gr.drewN ?_ _ | with_reducible refine Gr.drew ?_ | with_reducible refine Gr.setCell ?_ (by first | (dsimp only; omega) | (simp only [World.size_alloc]; omega) | (with_reducible refine Gr.size ?_; (repeat (first | with_reducible exact Gr.refl _ | with_reducible assumption | with_reducible refine Gr.alloc ?_ _ | with_reducible refine Gr.drewN ?_ _ | with_reducible refine Gr.drew ?_ | with_reducible refine Gr.trans ?_ (by with_reducible assumption))); done)) _ | with_reducible refine Gr.trans ?_ (by with_reducible assumption)))⟩
      · refine bodyPost_ret (v := chW true (false, false, 0)) (by simp [results, Try.results36, go_sem, *]) rfl ⟨rfl, (by repeat (first | with_reducible exact Gr.refl _ | with_reducible assumption | with_reducible refine Gr.alloc ?_ _ | with_reducible refine Gr.drewN ?_ _ | with_reducible refine Gr.drew ?_ | with_reducible refine Gr.setCell ?_ (by first | (dsimp only; omega) | (simp only [World.size_alloc]; omega) | (with_reducible refine Gr.size ?_; (repeat (first | with_reducible exact Gr.refl _ | with_reducible assumption | with_reducible refine Gr.alloc ?_ _ | with_reducible refine Gr.drewN ?_ _ | with_reducible refine Gr.drew ?_ | with_reducible refine Gr.trans ?_ (by with_reducible assumption))); done)) _ | with_reducible refine Gr.trans ?_ (by with_reducible assumption)))⟩
      · refine bodyPost_ret (v := chW false (true, true, 0)) (by simp [results, Try.results36, go_sem, *]) rfl ⟨rfl, (by repeat (first | with_reducible exact Gr.refl _ | with_reducible assumption | with_reducible refine Gr.alloc ?_ _ | with_reducible refine Gr.drewN ?_ _ | with_reducible refine Gr.drew ?_ | with_reducible refine Gr.setCell ?_ (by first | (dsimp only; omega) | (simp only [World.size_alloc]; omega) | (with_reducible refine Gr.size ?_; (repeat (first | with_reducible exact Gr.refl _ | with_reducible assumption | with_reducible refine Gr.alloc ?_ _ | with_reducible refine Gr.drewN ?_ _ | with_reducible refine Gr.drew ?_ | with_reducible refine Gr.trans ?_ (by with_reducible assumption))); done)) _ | with_reducible refine Gr.trans ?_ (by with_reducible assumption)))⟩
      · refine bodyPost_ret (v := chW false (true, false, 0)) (by simp [results, Try.results36, go_sem, *]) rfl ⟨rfl, (by repeat (first | with_reducible exact Gr.refl _ | with_reducible assumption | with_reducible refine Gr.alloc ?_ _ | with_reducible refine Gr.drewN ?_ _ | with_reducible refine Gr.drew ?_ | with_reducible refine Gr.setCell ?_ (by first | (dsimp only; omega) | (simp only [World.size_alloc]; omega) | (with_reducible refine Gr.size ?_; (repeat (first | with_reducible exact Gr.refl _ | with_reducible assumption | with_reducible refine Gr.alloc ?_ _ | with_reducible refine Gr.drewN ?_ _ | with_reducible refine Gr.drew ?_ | with_reducible refine Gr.trans ?_ (by with_reducible assumption))); done)) _ | with_reducible refine Gr.trans ?_ (by with_reducible assumption)))⟩
    · rw [chV_q h1 h2, show chS (false, false, valE q) = false by simp [chS, h2]]
      rw [h1] at HV1
      have h2' : (valE q != 0) = true := by simpa using h2
      generalize valE q = x at *
      clear h1 h2 hp hq
      go_enter Try.func36, Try.ntmps36
      go_wp2_with fail
      refine (HV1.out _ (by repeat (first | with_reducible exact Gr.refl _ | with_reducible assumption | with_reducible refine Gr.alloc ?_ _ | with_reducible refine Gr.drewN ?_ _ | with_reducible refine Gr.drew ?_ | with_reducible refine Gr.setCell ?_ (by first | (dsimp only; omega) | (simp only [World.size_alloc]; omega) | (with_reducible refine Gr.size ?_; (repeat (first | with_reducible exact Gr.refl _ | with_reducible assumption | with_reducible refine Gr.alloc ?_ _ | with_reducible refine Gr.drewN ?_ _ | with_reducible refine Gr.drew ?_ | with_reducible refine Gr.trans ?_ (by with_reducible assumption))); done)) _ | with_reducible refine Gr.trans ?_ (by with_reducible assumption)))).mono ?_
      rintro e w1 ⟨rfl, g1⟩
      obtain ⟨X1, Y1, c1, f1⟩ := g1.use
      have z1 := g1.size
      simp only [World.size_alloc] at z1
      have l1 : w.heap.size < w1.heap.size := by omega
      have l2 : w.heap.size + 1 < w1.heap.size := by omega
      have l3 : w.heap.size + 1 + 1 < w1.heap.size := by omega
      have gw1 : Gr w w1 := (by repeat (first | with_reducible exact Gr.refl _ | with_reducible assumption | with_reducible refine Gr.alloc ?_ _ | with_reducible refine Gr.drewN ?_ _ | with_reducible refine Gr.drew ?_ | with_reducible refine Gr.setCell ?_ (by first | (dsimp only; omega) | (simp only [World.size_alloc]; omega) | (with_reducible refine Gr.size ?_; (repeat (first | with_reducible exact Gr.refl _ | with_reducible assumption | with_reducible refine Gr.alloc ?_ _ | with_reducible refine Gr.drewN ?_ _ | with_reducible refine Gr.drew ?_ | with_reducible refine Gr.trans ?_ (by with_reducible assumption))); done)) _ | with_reducible refine Gr.trans ?_ (by with_reducible assumption)))
      go_wp2_with fail
      refine (HV2.out _ gw1).mono ?_
      rintro e w2 ⟨rfl, g2⟩
      obtain ⟨X2, Y2, c2, f2⟩ := g2.use
      have z2 := g2.size
      have m3 : w.heap.size + 1 + 1 < w2.heap.size := by omega
      have gw2 : Gr w w2 := gw1.trans g2
      go_wp2
      refine bodyPost_ret (v := chW false (false, false, x)) (by simp [results, Try.results36, go_sem, *]) rfl ⟨rfl, (by repeat (first | with_reducible exact Gr.refl _ | with_reducible assumption | with_reducible refine Gr.alloc ?_ _ | with_reducible refine Gr.drewN ?_ _ | with_reducible refine Gr.drew ?_ | with_reducible refine Gr.setCell ?_ (by first | (dsimp only; omega) | (simp only [World.size_alloc]; omega) | (with_reducible refine Gr.size ?_; (repeat (first | with_reducible exact Gr.refl _ | with_reducible assumption | with_reducible refine Gr.alloc ?_ _ | with_reducible refine Gr.drewN ?_ _ | with_reducible refine Gr.drew ?_ | with_reducible refine Gr.trans ?_ (by with_reducible assumption))); done)) _ | with_reducible refine Gr.trans ?_ (by with_reducible assumption)))⟩
  · rw [chV_p h1, show chS (false, false, valE p) = false by simp [chS, h1]]
    have h1' : (valE p != 0) = true := by simpa using h1
    generalize valE p = x at *
    clear h1 hp hq
    go_enter Try.func36, Try.ntmps36
    go_wp2_with fail
    refine (HV1.out _ (by repeat (first | with_reducible exact Gr.refl _ | with_reducible assumption | with_reducible refine Gr.alloc ?_ _ | with_reducible refine Gr.drewN ?_ _ | with_reducible refine Gr.drew ?_ | with_reducible refine Gr.setCell ?_ (by first | (dsimp only; omega) | (simp only [World.size_alloc]; omega) | (with_reducible refine Gr.size ?_; (repeat (first | with_reducible exact Gr.refl _ | with_reducible assumption | with_reducible refine Gr.alloc ?_ _ | with_reducible refine Gr.drewN ?_ _ | with_reducible refine Gr.drew ?_ | with_reducible refine Gr.trans ?_ (by with_reducible assumption))); done)) _ | with_reducible refine Gr.trans ?_ (by with_reducible assumption)))).mono ?_
    rintro e w1 ⟨rfl, g1⟩
    obtain ⟨X1, Y1, c1, f1⟩ := g1.use
    have z1 := g1.size
    simp only [World.size_alloc] at z1
    have l3 : w.heap.size + 1 + 1 < w1.heap.size := by omega
    have gw1 : Gr w w1 := (by repeat (first | with_reducible exact Gr.refl _ | with_reducible assumption | with_reducible refine Gr.alloc ?_ _ | with_reducible refine Gr.drewN ?_ _ | with_reducible refine Gr.drew ?_ | with_reducible refine Gr.setCell ?_ (by first | (dsimp only; omega) | (simp only [World.size_alloc]; omega) | (with_reducible refine Gr.size ?_; (repeat (first | with_reducible exact Gr.refl _ | with_reducible assumption | with_reducible refine Gr.alloc ?_ _ | with_reducible refine Gr.drewN ?_ _ | with_reducible refine Gr.drew ?_ | with_reducible refine Gr.trans ?_ (by with_reducible assumption))); done)) _ | with_reducible refine Gr.trans ?_ (by with_reducible assumption)))
    go_wp2
    refine bodyPost_ret (v := chW false (false, false, x)) (by simp [results, Try.results36, go_sem, *]) rfl ⟨rfl, (by repeat (first | with_reducible exact Gr.refl _ | with_reducible assumption | with_reducible refine Gr.alloc ?_ _ | with_reducible refine Gr.drewN ?_ _ | with_reducible refine Gr.drew ?_ | with_reducible refine Gr.setCell ?_ (by first | (dsimp only; omega) | (simp only [World.size_alloc]; omega) | (with_reducible refine Gr.size ?_; (repeat (first | with_reducible exact Gr.refl _ | with_reducible assumption | with_reducible refine Gr.alloc ?_ _ | with_reducible refine Gr.drewN ?_ _ | with_reducible refine Gr.drew ?_ | with_reducible refine Gr.trans ?_ (by with_reducible assumption))); done)) _ | with_reducible refine Gr.trans ?_ (by with_reducible assumption)))⟩
set_option maxRecDepth 100000 in
set_option maxHeartbeats 4000000 in
theorem rChanged_any (p q : Pa) (A B A' B' : Option Addr) (c d c' d' : Nat) (w : World) (hp : PaW w p A c B d) (hq : PaW w q A' c' B' d') :
    Calls Try.prog 37 #[pav p A c B d, pav q A' c' B' d'] w fun e w' => e = .returned (chR (chV p q)) ∧ Gr w w' := by
  have HV1 := hide (fun (w' : World) (g : Gr w w') => rValidate_any p A B c d w' (hp.gr g))
  have HV2 := hide (fun (w' : World) (g : Gr w w') => rValidate_any q A' B' c' d' w' (hq.gr g))
  by_cases h1 : valE p = 0
  · by_cases h2 : valE q = 0
    · have HO := hide (fun (w' : World) (g : Gr w w') => rOutline_any p q A B A' B' c d c' d' w' (hp.gr g) (hq.gr g))
      have HH := hide (fun (w' : World) (g : Gr w w') => sameHoles_any B B' d d' p.ho q.ho w' (hp.ho.gr g) (hq.ho.gr g))
      rw [chV_ok h1 h2]
      rw [h1] at HV1
      rw [h2] at HV2
      generalize ouD p q = o at *
      generalize lsB hoQ p.ho q.ho = h at *
      clear h1 h2 hp hq
      go_enter Try.func37, Try.ntmps37
      go_wp2_with fail
      refine (HV1.out _ (by repeat (first | with_reducible exact Gr.refl _ | with_reducible assumption | with_reducible refine Gr.alloc ?_ _ | with_reducible refine Gr.drewN ?_ _ | with_reducible refine Gr.drew ?_ | with_reducible refine Gr.setCell ?_ (by first | (dsimp only; omega) | (simp only [World.size_alloc]; omega) | (with_reducible refine Gr.size ?_; (repeat (first | with_reducible exact Gr.refl _ | with_reducible assumption | with_reducible refine Gr.alloc ?_ _ | with_reducible refine Gr.drewN ?_ _ | with_reducible refine Gr.drew ?_ | with_reducible refine Gr.trans ?_ (by with_reducible assumption))); done)) _ | with_reducible refine Gr.trans ?_ (by with_reducible assumption)))).mono ?_
      rintro e w1 ⟨rfl, g1⟩
      obtain ⟨X1, Y1, c1, f1⟩ := g1.use
      have z1 := g1.size
      simp only [World.size_alloc] at z1
      have l1 : w.heap.size < w1.heap.size := by omega
      have l2 : w.heap.size + 1 < w1.heap.size := by omega
      have gw1 : Gr w w1 := (by repeat (first | with_reducible exact Gr.refl _ | with_reducible assumption | with_reducible refine Gr.alloc ?_ _ | with_reducible refine Gr.drewN ?_ _ | with_reducible refine Gr.drew ?_ | with_reducible refine Gr.setCell ?_ (by first | (dsimp only; omega) | (simp only [World.size_alloc]; omega) | (with_reducible refine Gr.size ?_; (repeat (first | with_reducible exact Gr.refl _ | with_reducible assumption | with_reducible refine Gr.alloc ?_ _ | with_reducible refine Gr.drewN ?_ _ | with_reducible refine Gr.drew ?_ | with_reducible refine Gr.trans ?_ (by with_reducible assumption))); done)) _ | with_reducible refine Gr.trans ?_ (by with_reducible assumption)))
      go_wp2_with fail
      refine (HV2.out _ gw1).mono ?_
      rintro e w2 ⟨rfl, g2⟩
      obtain ⟨X2, Y2, c2, f2⟩ := g2.use
      have z2 := g2.size
      have m1 : w.heap.size < w2.heap.size := by omega
      have m2 : w.heap.size + 1 < w2.heap.size := by omega
      have gw2 : Gr w w2 := gw1.trans g2
      have HO3 := hide (fun (g : GrW w2) => HO.out g.w (gw2.trans g.gr))
      have HH3 := hide (fun (g : GrW w2) => HH.out g.w (gw2.trans g.gr))
      go_upto_region 7 with fail
      have GC := @GrW.cell
      refine wp_region_grw _ (by kernel_rfl) (by kernel_rfl) (Gr.refl _) ?_
      repeat (go_big_quiet_step ((first | (go_at_call 91; exact quiet_grw (HO3.out _)) | (go_at_call 72; exact quiet_grw (HH3.out _)))))
      refine wpQuiet_nil ?_
      intro wq hwq
      obtain ⟨gq, hwq'⟩ := hwq
      subst hwq'
      clear GC
      have gq1 := gq.gr
      generalize gq.w = wq at gq1 ⊢
      obtain ⟨Xq, Yq, cq, fq⟩ := gq1.use
      have sq := gq1.size
      (try simp only [World.size_alloc, World.size_setCell, World.heap_drewN] at sq)
      go_wp2
      refine bodyPost_ret (v := chR (o, !h, 0)) (by simp [results, Try.results37, go_sem]) rfl ⟨rfl, (by repeat (first | with_reducible exact Gr.refl _ | with_reducible assumption | with_reducible refine Gr.alloc ?_ _ | with_reducible refine Gr.drewN ?_ _ | with_reducible refine Gr.drew ?_ | with_reducible refine Gr.setCell ?_ (by first | (dsimp only; omega) | (simp only [World.size_alloc]; omega) | (with_reducible refine Gr.size ?_; (repeat (first | with_reducible exact Gr.refl _ | with_reducible assumption | with_reducible refine Gr.alloc ?_ _ | with_reducible refine Gr.drewN ?_ _ | with_reducible refine Gr.drew ?_ | with_reducible refine Gr.trans ?_ (by with_reducible assumption))); done)) _ | with_reducible refine Gr.trans ?_ (by with_reducible assumption)))⟩
    · rw [chV_q h1 h2]
      rw [h1] at HV1
      have h2' : (valE q != 0) = true := by simpa using h2
      generalize valE q = x at *
      clear h1 h2 hp hq
      go_enter Try.func37, Try.ntmps37
      go_wp2_with fail
      refine (HV1.out _ (by repeat (first | with_reducible exact Gr.refl _ | with_reducible assumption | with_reducible refine Gr.alloc ?_ _ | with_reducible refine Gr.drewN ?_ _ | with_reducible refine Gr.drew ?_ | with_reducible refine Gr.setCell ?_ (by first | (dsimp only; omega) | (simp only [World.size_alloc]; omega) | (with_reducible refine Gr.size ?_; (repeat (first | with_reducible exact Gr.refl _ | with_reducible assumption | with_reducible refine Gr.alloc ?_ _ | with_reducible refine Gr.drewN ?_ _ | with_reducible refine Gr.drew ?_ | with_reducible refine Gr.trans ?_ (by with_reducible assumption))); done)) _ | with_reducible refine Gr.trans ?_ (by with_reducible assumption)))).mono ?_
      rintro e w1 ⟨rfl, g1⟩
      obtain ⟨X1, Y1, c1, f1⟩ := g1.use
      have z1 := g1.size
      simp only [World.size_alloc] at z1
      have l1 : w.heap.size < w1.heap.size := by omega
      have l2 : w.heap.size + 1 < w1.heap.size := by omega
      have gw1 : Gr w w1 := (by repeat (first | with_reducible exact Gr.refl _ | with_reducible assumption | with_reducible refine Gr.alloc ?_ _ | with_reducible refine Gr.drewN ?_ _ | with_reducible refine Gr.drew ?_ | with_reducible refine Gr.setCell ?_ (by first | (dsimp only; omega) | (simp only [World.size_alloc]; omega) | (with_reducible refine Gr.size ?_; (repeat (first | with_reducible exact Gr.refl _ | with_reducible assumption | with_reducible refine Gr.alloc ?_ _ | with_reducible refine Gr.drewN ?_ _ | with_reducible refine Gr.drew ?_ | with_reducible refine Gr.trans ?_ (by with_reducible assumption))); done)) _ | with_reducible refine Gr.trans ?_ (by with_reducible assumption)))
      go_wp2_with fail
      refine (HV2.out _ gw1).mono ?_
      rintro e w2 ⟨rfl, g2⟩
      go_wp2
      refine bodyPost_ret (v := chR (false, false, x)) (by simp [results, Try.results37, go_sem]) rfl ⟨rfl, (by repeat (first | with_reducible exact Gr.refl _ | with_reducible assumption | with_reducible refine Gr.alloc ?_ _ | with_reducible refine Gr.drewN ?_ _ | with_reducible refine Gr.drew ?_ | with_reducible refine Gr.setCell ?_ (by first | (dsimp only; omega) | (simp only [World.size_alloc]; omega) | (with_reducible refine Gr.size ?_; (repeat (first | with_reducible exact Gr.refl _ | with_reducible assumption | with_reducible refine Gr.alloc ?_ _ | with_reducible refine Gr.drewN ?_ _ | with_reducible refine Gr.drew ?_ | with_reducible refine Gr.trans ?_ (by with_reducible assumption))); done)) _ | with_reducible refine Gr.trans ?_ (by with_reducible assumption)))⟩
  · rw [chV_p h1]
    have h1' : (valE p != 0) = true := by simpa using h1
    generalize valE p = x at *
    clear h1 hp hq
    go_enter Try.func37, Try.ntmps37
    go_wp2_with fail
    refine (HV1.out _ (by repeat (first | with_reducible exact Gr.refl _ | with_reducible assumption | with_reducible refine Gr.alloc ?_ _ | with_reducible refine Gr.drewN ?_ _ | with_reducible refine Gr.drew ?_ | with_reducible refine Gr.setCell ?_ (by first | (dsimp only; omega) | (simp only [World.size_alloc]; omega) | (with_reducible refine Gr.size ?_; (repeat (first | with_reducible exact Gr.refl _ | with_reducible assumption | with_reducible refine Gr.alloc ?_ _ | with_reducible refine Gr.drewN ?_ _ | with_reducible refine Gr.drew ?_ | with_reducible refine Gr.trans ?_ (by with_reducible assumption))); done)) _ | with_reducible refine Gr.trans ?_ (by with_reducible assumption)))).mono ?_
    rintro e w1 ⟨rfl, g1⟩
    go_wp2
    refine bodyPost_ret (v := chR (false, false, x)) (by simp [results, Try.results37, go_sem]) rfl ⟨rfl, (by repeat (first | with_reducible exact Gr.refl _ | with_reducible assumption | with_reducible refine Gr.alloc ?_ _ | with_reducible refine Gr.drewN ?_ _ | with_reducible refine Gr.drew ?_ | with_reducible refine Gr.setCell ?_ (by first | (dsimp only; omega) | (simp only [World.size_alloc]; omega) | (with_reducible refine Gr.size ?_; (repeat (first | with_reducible exact Gr.refl _ | with_reducible assumption | with_reducible refine Gr.alloc ?_ _ | with_reducible refine Gr.drewN ?_ _ | with_reducible refine Gr.drew ?_ | with_reducible refine Gr.trans ?_ (by with_reducible assumption))); done)) _ | with_reducible refine Gr.trans ?_ (by with_reducible assumption)))⟩
end Go.Proofs.Ytpmomgfepkegnaa
namespace Go.Proofs.Ytpmomgfepkegnaa
open Go Go.ChangeShapes Go.WideShapes Go.ChangeAt Go.RowKit Go.Deep

set_option maxRecDepth 100000 in
set_option maxHeartbeats 8000000 in
theorem changes_walk (p q : Pa) (A B A' B' : Option Addr) (c d c' d' : Nat) (w : World) (hX : PaX w p A c B d) (hY : PaX w q A' c' B' d') :
    Calls Try.prog 10 #[pav p A c B d, pav q A' c' B' d'] w fun x w' => x = .returned (.bool true) ∧ Gr w w' := by
  have HBG1 := hide (fun (w' : World) (g : Gr w w') => big_any p A B c d w' (hX.gr g))
  have HBG2 := hide (fun (w' : World) (g : Gr w w') => big_any q A' B' c' d' w' (hY.gr g))
  cases hb1 : bgB p with
  | true =>
    rw [hb1] at HBG1
    clear hb1 hX hY
    go_enter Try.func10, Try.ntmps10
    go_wp2_with fail
    refine (HBG1.out _ (by repeat (first | with_reducible exact Gr.refl _ | with_reducible assumption | with_reducible refine Gr.alloc ?_ _ | with_reducible refine Gr.drewN ?_ _ | with_reducible refine Gr.drew ?_ | with_reducible refine Gr.setCell ?_ (by first | (dsimp only; omega) | (simp only [World.size_alloc]; omega) | (with_reducible refine Gr.size ?_; (repeat (first | with_reducible exact Gr.refl _ | with_reducible assumption | with_reducible refine Gr.alloc ?_ _ | with_reducible refine Gr.drewN ?_ _ | with_reducible refine Gr.drew ?_ | with_reducible refine Gr.trans ?_ (by with_reducible assumption))); done)) _ | with_reducible refine Gr.trans ?_ (by with_reducible assumption)))).mono ?_
    rintro e w1 ⟨rfl, g1⟩
    go_wp2_with (first | (go_at_call 16; refine (known_any _).mono ?_; rintro e w1 ⟨rfl, g1⟩; obtain ⟨X1, Y1, c1, f1⟩ := g1.use; have z1 := g1.size; (try simp only [World.size_alloc, World.size_setCell, World.heap_drewN, Nat.add_one_le_iff] at z1); (try have l0 : w.heap.size < w1.heap.size := by omega); (try have l1 : w.heap.size + 1 < w1.heap.size := by omega); (try have l2 : w.heap.size + 1 + 1 < w1.heap.size := by omega)))
    go_ret
    exact ⟨rfl, (by repeat (first | with_reducible exact Gr.refl _ | with_reducible assumption | with_reducible refine Gr.alloc ?_ _ | with_reducible refine Gr.drewN ?_ _ | with_reducible refine Gr.drew ?_ | with_reducible refine Gr.setCell ?_ (by first | (dsimp only; omega) | (simp only [World.size_alloc]; omega) | (with_reducible refine Gr.size ?_; (repeat (first | with_reducible exact Gr.refl _ | with_reducible assumption | with_reducible refine Gr.alloc ?_ _ | with_reducible refine Gr.drewN ?_ _ | with_reducible refine Gr.drew ?_ | with_reducible refine Gr.trans ?_ (by with_reducible assumption))); done)) _ | with_reducible refine Gr.trans ?_ (by with_reducible assumption)))⟩
  | false =>
    cases hb2 : bgB q with
    | true =>
      rw [hb1] at HBG1
      rw [hb2] at HBG2
      clear hb1 hb2 hX hY
      go_enter Try.func10, Try.ntmps10
      go_wp2_with fail
      refine (HBG1.out _ (by repeat (first | with_reducible exact Gr.refl _ | with_reducible assumption | with_reducible refine Gr.alloc ?_ _ | with_reducible refine Gr.drewN ?_ _ | with_reducible refine Gr.drew ?_ | with_reducible refine Gr.setCell ?_ (by first | (dsimp only; omega) | (simp only [World.size_alloc]; omega) | (with_reducible refine Gr.size ?_; (repeat (first | with_reducible exact Gr.refl _ | with_reducible assumption | with_reducible refine Gr.alloc ?_ _ | with_reducible refine Gr.drewN ?_ _ | with_reducible refine Gr.drew ?_ | with_reducible refine Gr.trans ?_ (by with_reducible assumption))); done)) _ | with_reducible refine Gr.trans ?_ (by with_reducible assumption)))).mono ?_
      rintro e w1 ⟨rfl, g1⟩
      obtain ⟨X1, Y1, c1, f1⟩ := g1.use
      have z1 := g1.size
      simp only [World.size_alloc] at z1
      have l1 : w.heap.size < w1.heap.size := by omega
      have l2 : w.heap.size + 1 < w1.heap.size := by omega
      have gw1 : Gr w w1 := (by repeat (first | with_reducible exact Gr.refl _ | with_reducible assumption | with_reducible refine Gr.alloc ?_ _ | with_reducible refine Gr.drewN ?_ _ | with_reducible refine Gr.drew ?_ | with_reducible refine Gr.setCell ?_ (by first | (dsimp only; omega) | (simp only [World.size_alloc]; omega) | (with_reducible refine Gr.size ?_; (repeat (first | with_reducible exact Gr.refl _ | with_reducible assumption | with_reducible refine Gr.alloc ?_ _ | with_reducible refine Gr.drewN ?_ _ | with_reducible refine Gr.drew ?_ | with_reducible refine Gr.trans ?_ (by with_reducible assumption))); done)) _ | with_reducible refine Gr.trans ?_ (by with_reducible assumption)))
      go_wp2_with fail
      refine (HBG2.out _ gw1).mono ?_
      rintro e w2 ⟨rfl, g2⟩
      go_wp2_with (first | (go_at_call 16; refine (known_any _).mono ?_; rintro e w1 ⟨rfl, g1⟩; obtain ⟨X1, Y1, c1, f1⟩ := g1.use))
      go_ret
      exact ⟨rfl, (by repeat (first | with_reducible exact Gr.refl _ | with_reducible assumption | with_reducible refine Gr.alloc ?_ _ | with_reducible refine Gr.drewN ?_ _ | with_reducible refine Gr.drew ?_ | with_reducible refine Gr.setCell ?_ (by first | (dsimp only; omega) | (simp only [World.size_alloc]; omega) | (with_reducible refine Gr.size ?_; (repeat (first | with_reducible exact Gr.refl _ | with_reducible assumption | with_reducible refine Gr.alloc ?_ _ | with_reducible refine Gr.drewN ?_ _ | with_reducible refine Gr.drew ?_ | with_reducible refine Gr.trans ?_ (by with_reducible assumption))); done)) _ | with_reducible refine Gr.trans ?_ (by with_reducible assumption)))⟩
    | false =>
      have hP := hX.small hb1
      have hQ := hY.small hb2
      rw [hb1] at HBG1
      rw [hb2] at HBG2
      have HC1 := hide (fun (w' : World) (g : Gr w w') => Changed_any p q A B A' B' c d c' d' w' (hP.gr g) (hQ.gr g))
      have HC2 := hide (fun (w' : World) (g : Gr w w') => rChanged_any p q A B A' B' c d c' d' w' (hP.gr g) (hQ.gr g))
      have HQ1 := hide (fun (w' : World) (g : Gr w w') => cEqual_any p q A B A' B' c d c' d' w' (hP.gr g) (hQ.gr g))
      have HQ2 := hide (fun (w' : World) (g : Gr w w') => rEqual_any p q A B A' B' c d c' d' w' (hP.gr g) (hQ.gr g))
      have herr := chV_err p q
      generalize eqB p q = eB at *
      generalize hs : chS (chV p q) = s at *
      generalize chV p q = t at *
      obtain ⟨o, h, E⟩ := t
      dsimp only at herr HC1 HC2
      clear hb1 hb2 hX hY hP hQ
      have hcase : (∃ x, E = x ∧ (x == 0) = false ∧ o = false ∧ h = false ∧ s = false) ∨ (E = 0 ∧ s = (!o && !h)) := by
        by_cases hE : E = 0
        · right
          subst hE
          exact ⟨rfl, by rw [← hs]; simp [chS]⟩
        · left
          rcases herr with k | ⟨rfl, rfl⟩
          · exact absurd k hE
          · exact ⟨E, rfl, by simpa using hE, rfl, rfl, by rw [← hs]; simp [chS, hE]⟩
      clear herr hs
      rcases hcase with ⟨x, rfl, hx0, rfl, rfl, rfl⟩ | ⟨rfl, rfl⟩
      · go_enter Try.func10, Try.ntmps10
        go_wp2_with fail
        refine (HBG1.out _ (by repeat (first | with_reducible exact Gr.refl _ | with_reducible assumption | with_reducible refine Gr.alloc ?_ _ | with_reducible refine Gr.drewN ?_ _ | with_reducible refine Gr.drew ?_ | with_reducible refine Gr.setCell ?_ (by first | (dsimp only; omega) | (simp only [World.size_alloc]; omega) | (with_reducible refine Gr.size ?_; (repeat (first | with_reducible exact Gr.refl _ | with_reducible assumption | with_reducible refine Gr.alloc ?_ _ | with_reducible refine Gr.drewN ?_ _ | with_reducible refine Gr.drew ?_ | with_reducible refine Gr.trans ?_ (by with_reducible assumption))); done)) _ | with_reducible refine Gr.trans ?_ (by with_reducible assumption)))).mono ?_
        rintro e w1 ⟨rfl, g1⟩
        obtain ⟨X1, Y1, c1, f1⟩ := g1.use
        have z1 := g1.size
        simp only [World.size_alloc] at z1
        have l1 : w.heap.size < w1.heap.size := by omega
        have l2 : w.heap.size + 1 < w1.heap.size := by omega
        have gw1 : Gr w w1 := (by repeat (first | with_reducible exact Gr.refl _ | with_reducible assumption | with_reducible refine Gr.alloc ?_ _ | with_reducible refine Gr.drewN ?_ _ | with_reducible refine Gr.drew ?_ | with_reducible refine Gr.setCell ?_ (by first | (dsimp only; omega) | (simp only [World.size_alloc]; omega) | (with_reducible refine Gr.size ?_; (repeat (first | with_reducible exact Gr.refl _ | with_reducible assumption | with_reducible refine Gr.alloc ?_ _ | with_reducible refine Gr.drewN ?_ _ | with_reducible refine Gr.drew ?_ | with_reducible refine Gr.trans ?_ (by with_reducible assumption))); done)) _ | with_reducible refine Gr.trans ?_ (by with_reducible assumption)))
        go_wp2_with fail
        refine (HBG2.out _ gw1).mono ?_
        rintro e w2 ⟨rfl, g2⟩
        obtain ⟨X2, Y2, c2, f2⟩ := g2.use
        have z2 := g2.size
        have m1 : w.heap.size < w2.heap.size := by omega
        have m2 : w.heap.size + 1 < w2.heap.size := by omega
        have gw2 : Gr w w2 := gw1.trans g2
        go_wp2_with fail
        refine (HC1.out _ gw2).mono ?_
        rintro e w3 ⟨rfl, g3⟩
        obtain ⟨X3, Y3, c3, f3⟩ := g3.use
        have z3 := g3.size
        have n1 : w.heap.size < w3.heap.size := by omega
        have n2 : w.heap.size + 1 < w3.heap.size := by omega
        have gw3 : Gr w w3 := gw2.trans g3
        go_wp2_with fail
        refine (HC2.out _ (by repeat (first | with_reducible exact Gr.refl _ | with_reducible assumption | with_reducible refine Gr.alloc ?_ _ | with_reducible refine Gr.drewN ?_ _ | with_reducible refine Gr.drew ?_ | with_reducible refine Gr.setCell ?_ (by first | (dsimp only; omega) | (simp only [World.size_alloc]; omega) | (with_reducible refine Gr.size ?_; (repeat (first | with_reducible exact Gr.refl _ | with_reducible assumption | with_reducible refine Gr.alloc ?_ _ | with_reducible refine Gr.drewN ?_ _ | with_reducible refine Gr.drew ?_ | with_reducible refine Gr.trans ?_ (by with_reducible assumption))); done)) _ | with_reducible refine Gr.trans ?_ (by with_reducible assumption)))).mono ?_
        rintro e w4 ⟨rfl, g4⟩
        obtain ⟨X4, Y4, c4, f4⟩ := g4.use
        have z4 := g4.size
        simp only [World.size_alloc] at z4
        have o1 : w.heap.size < w4.heap.size := by omega
        have o2 : w.heap.size + 1 < w4.heap.size := by omega
        have o3 : w3.heap.size < w4.heap.size := by omega
        have gw4 : Gr w w4 := (by repeat (first | with_reducible exact Gr.refl _ | with_reducible assumption | with_reducible refine Gr.alloc ?_ _ | with_reducible refine Gr.drewN ?_ _ | with_reducible refine Gr.drew ?_ | with_reducible refine Gr.setCell ?_ (by first | (dsimp only; omega) | (simp only [World.size_alloc]; omega) | (with_reducible refine Gr.size ?_; (repeat (first | with_reducible exact Gr.refl _ | with_reducible assumption | with_reducible refine Gr.alloc ?_ _ | with_reducible refine Gr.drewN ?_ _ | with_reducible refine Gr.drew ?_ | with_reducible refine Gr.trans ?_ (by with_reducible assumption))); done)) _ | with_reducible refine Gr.trans ?_ (by with_reducible assumption)))
        have HQ3 := hide (fun (g : GrW w4) => HQ1.out g.w (gw4.trans g.gr))
        have HQ4 := hide (fun (g : GrW w4) => HQ2.out g.w (gw4.trans g.gr))
        go_upto_region 5 with fail
        have GC := @GrW.cell
        refine wp_region_grw _ (by kernel_rfl) (by kernel_rfl) (Gr.refl _) ?_
        repeat (go_big_quiet_step ((first | (go_at_call 35; exact quiet_grw (HQ3.out _)) | (go_at_call 20; exact quiet_grw (HQ4.out _)))))
        refine wpQuiet_nil ?_
        intro wq hwq
        obtain ⟨gq, hwq'⟩ := hwq
        subst hwq'
        clear GC
        have gq1 := gq.gr
        generalize gq.w = wq at gq1 ⊢
        obtain ⟨Xq, Yq, cq, fq⟩ := gq1.use
        have sq := gq1.size
        (try simp only [World.size_alloc, World.size_setCell, World.heap_drewN] at sq)
        have p3 : w3.heap.size < wq.heap.size := by omega
        go_wp2_with (first | (go_at_call 16; refine (known_any _).mono ?_; rintro e w1 ⟨rfl, g1⟩; obtain ⟨X1, Y1, c1, f1⟩ := g1.use))
        go_ret
        exact ⟨rfl, (by repeat (first | with_reducible exact Gr.refl _ | with_reducible assumption | with_reducible refine Gr.alloc ?_ _ | with_reducible refine Gr.drewN ?_ _ | with_reducible refine Gr.drew ?_ | with_reducible refine Gr.setCell ?_ (by first | (dsimp only; omega) | (simp only [World.size_alloc]; omega) | (with_reducible refine Gr.size ?_; (repeat (first | with_reducible exact Gr.refl _ | with_reducible assumption | with_reducible refine Gr.alloc ?_ _ | with_reducible refine Gr.drewN ?_ _ | with_reducible refine Gr.drew ?_ | with_reducible refine Gr.trans ?_ (by with_reducible assumption))); done)) _ | with_reducible refine Gr.trans ?_ (by with_reducible assumption)))⟩
      · cases o <;> cases h
        all_goals
          go_enter Try.func10, Try.ntmps10
          go_wp2_with fail
          refine (HBG1.out _ (by repeat (first | with_reducible exact Gr.refl _ | with_reducible assumption | with_reducible refine Gr.alloc ?_ _ | with_reducible refine Gr.drewN ?_ _ | with_reducible refine Gr.drew ?_ | with_reducible refine Gr.setCell ?_ (by first | (dsimp only; omega) | (simp only [World.size_alloc]; omega) | (with_reducible refine Gr.size ?_; (repeat (first | with_reducible exact Gr.refl _ | with_reducible assumption | with_reducible refine Gr.alloc ?_ _ | with_reducible refine Gr.drewN ?_ _ | with_reducible refine Gr.drew ?_ | with_reducible refine Gr.trans ?_ (by with_reducible assumption))); done)) _ | with_reducible refine Gr.trans ?_ (by with_reducible assumption)))).mono ?_
          rintro e w1 ⟨rfl, g1⟩
          obtain ⟨X1, Y1, c1, f1⟩ := g1.use
          have z1 := g1.size
          simp only [World.size_alloc] at z1
          have l1 : w.heap.size < w1.heap.size := by omega
          have l2 : w.heap.size + 1 < w1.heap.size := by omega
          have gw1 : Gr w w1 := (by repeat (first | with_reducible exact Gr.refl _ | with_reducible assumption | with_reducible refine Gr.alloc ?_ _ | with_reducible refine Gr.drewN ?_ _ | with_reducible refine Gr.drew ?_ | with_reducible refine Gr.setCell ?_ (by first | (dsimp only; omega) | (simp only [World.size_alloc]; omega) | (with_reducible refine Gr.size ?_; (repeat (first | with_reducible exact Gr.refl _ | with_reducible assumption | with_reducible refine Gr.alloc ?_ _ | with_reducible refine Gr.drewN ?_ _ | with_reducible refine Gr.drew ?_ | with_reducible refine Gr.trans ?_ (by with_reducible assumption))); done)) _ | with_reducible refine Gr.trans ?_ (by with_reducible assumption)))
          go_wp2_with fail
          refine (HBG2.out _ gw1).mono ?_
          rintro e w2 ⟨rfl, g2⟩
          obtain ⟨X2, Y2, c2, f2⟩ := g2.use
          have z2 := g2.size
          have m1 : w.heap.size < w2.heap.size := by omega
          have m2 : w.heap.size + 1 < w2.heap.size := by omega
          have gw2 : Gr w w2 := gw1.trans g2
          go_wp2_with fail
          refine (HC1.out _ gw2).mono ?_
          rintro e w3 ⟨rfl, g3⟩
          obtain ⟨X3, Y3, c3, f3⟩ := g3.use
          have z3 := g3.size
          have n1 : w.heap.size < w3.heap.size := by omega
          have n2 : w.heap.size + 1 < w3.heap.size := by omega
          have gw3 : Gr w w3 := gw2.trans g3
          go_wp2_with fail
          refine (HC2.out _ (by repeat (first | with_reducible exact Gr.refl _ | with_reducible assumption | with_reducible refine Gr.alloc ?_ _ | with_reducible refine Gr.drewN ?_ _ | with_reducible refine Gr.drew ?_ | with_reducible refine Gr.setCell ?_ (by first | (dsimp only; omega) | (simp only [World.size_alloc]; omega) | (with_reducible refine Gr.size ?_; (repeat (first | with_reducible exact Gr.refl _ | with_reducible assumption | with_reducible refine Gr.alloc ?_ _ | with_reducible refine Gr.drewN ?_ _ | with_reducible refine Gr.drew ?_ | with_reducible refine Gr.trans ?_ (by with_reducible assumption))); done)) _ | with_reducible refine Gr.trans ?_ (by with_reducible assumption)))).mono ?_
          rintro e w4 ⟨rfl, g4⟩
          obtain ⟨X4, Y4, c4, f4⟩ := g4.use
          have z4 := g4.size
          simp only [World.size_alloc] at z4
          have o1 : w.heap.size < w4.heap.size := by omega
          have o2 : w.heap.size + 1 < w4.heap.size := by omega
          have o3 : w3.heap.size < w4.heap.size := by omega
          have gw4 : Gr w w4 := (by repeat (first | with_reducible exact Gr.refl _ | with_reducible assumption | with_reducible refine Gr.alloc ?_ _ | with_reducible refine Gr.drewN ?_ _ | with_reducible refine Gr.drew ?_ | with_reducible refine Gr.setCell ?_ (by first | (dsimp only; omega) | (simp only [World.size_alloc]; omega) | (with_reducible refine Gr.size ?_; (repeat (first | with_reducible exact Gr.refl _ | with_reducible assumption | with_reducible refine Gr.alloc ?_ _ | with_reducible refine Gr.drewN ?_ _ | with_reducible refine Gr.drew ?_ | with_reducible refine Gr.trans ?_ (by with_reducible assumption))); done)) _ | with_reducible refine Gr.trans ?_ (by with_reducible assumption)))
          have HQ3 := hide (fun (g : GrW w4) => HQ1.out g.w (gw4.trans g.gr))
          have HQ4 := hide (fun (g : GrW w4) => HQ2.out g.w (gw4.trans g.gr))
          go_upto_region 5 with fail
          have GC := @GrW.cell
          refine wp_region_grw _ (by kernel_rfl) (by kernel_rfl) (Gr.refl _) ?_
          repeat (go_big_quiet_step ((first | (go_at_call 35; exact quiet_grw (HQ3.out _)) | (go_at_call 20; exact quiet_grw (HQ4.out _)))))
          refine wpQuiet_nil ?_
          intro wq hwq
          obtain ⟨gq, hwq'⟩ := hwq
          subst hwq'
          clear GC
          have gq1 := gq.gr
          generalize gq.w = wq at gq1 ⊢
          obtain ⟨Xq, Yq, cq, fq⟩ := gq1.use
          have sq := gq1.size
          (try simp only [World.size_alloc, World.size_setCell, World.heap_drewN] at sq)
          have p3 : w3.heap.size < wq.heap.size := by omega
          go_wp2_with (first | (go_at_call 16; refine (known_any _).mono ?_; rintro e w1 ⟨rfl, g1⟩; obtain ⟨X1, Y1, c1, f1⟩ := g1.use))
          go_ret
          exact ⟨rfl, (by repeat (first | with_reducible exact Gr.refl _ | with_reducible assumption | with_reducible refine Gr.alloc ?_ _ | with_reducible refine Gr.drewN ?_ _ | with_reducible refine Gr.drew ?_ | with_reducible refine Gr.setCell ?_ (by first | (dsimp only; omega) | (simp only [World.size_alloc]; omega) | (with_reducible refine Gr.size ?_; (repeat (first | with_reducible exact Gr.refl _ | with_reducible assumption | with_reducible refine Gr.alloc ?_ _ | with_reducible refine Gr.drewN ?_ _ | with_reducible refine Gr.drew ?_ | with_reducible refine Gr.trans ?_ (by with_reducible assumption))); done)) _ | with_reducible refine Gr.trans ?_ (by with_reducible assumption)))⟩
end Go.Proofs.Ytpmomgfepkegnaa
