/-
  What a plan's changes are, plainly: so many as are saved, and every step served.
-/
import Derived.Test.YtfndhddnglcliaaPln3
import Derived.Test.YtfndhddnglcliaaSb20
import Derived.Test.YtfndhddnglcliaaSb24
set_option linter.unusedVariables false
set_option linter.unusedSimpArgs false
namespace Go.Proofs.Ytfndhddnglcliaa
set_option linter.unusedVariables false
set_option linter.unusedSimpArgs false
open Go Go.ChangeShapes Go.WideShapes Go.ChangeAt Go.RowKit Go.Deep

/-- the set of what a station holds -/
def stv (z : Int) : Nat := if z < 0 then 0 else 2 ^ z.toNat
def msL (q : Nat) (L : List Chg) : List Nat := (List.range q).map fun i : Nat => stv (mu L (i : Int))
theorem msL_len (q : Nat) (L : List Chg) : (msL q L).length = q := by simp [msL]
theorem msL_at {q i : Nat} {L : List Chg} (h : i < q) : (msL q L)[i]? = some (stv (mu L (i : Int))) := by
  unfold msL
  rw [List.getElem?_map, List.getElem?_range h]
  rfl
theorem mu_snoc (L : List Chg) (x : Chg) (i : Int) : mu (L ++ [x]) i = muF i (mu L i) x := by
  unfold mu
  rw [List.foldl_append]
  rfl
theorem mu_rg {n : Nat} {s i : Int} : ∀ {l : List Chg} {a : Int}, (∀ x ∈ l, okC n s x = true) → -1 ≤ a ∧ a ≤ 8 → -1 ≤ l.foldl (muF i) a ∧ l.foldl (muF i) a ≤ 8
  | [], a, _, h => h
  | x :: l, a, hx, h => by
    rw [List.foldl_cons]
    refine mu_rg (fun y hy => hx y (List.mem_cons_of_mem _ hy)) ?_
    have := hx x (List.mem_cons_self ..)
    unfold okC at this
    simp only [Bool.and_eq_true, wiB_iff] at this
    unfold muF
    split <;> omega
theorem stv_one {z : Int} (h : -1 ≤ z ∧ z ≤ 8) : stv z = 0 ∨ ∃ p, p < 9 ∧ stv z = 2 ^ p := by
  unfold stv
  split
  · exact .inl rfl
  · exact .inr ⟨z.toNat, by omega, rfl⟩
theorem stv_lt {z : Int} (h : -1 ≤ z ∧ z ≤ 8) : stv z < 512 := by
  rcases stv_one h with e | ⟨p, hp, e⟩
  · omega
  · rw [e]
    exact two_pow_lt hp
theorem stv_bit {z : Int} (h : -1 ≤ z ∧ z ≤ 8) {i : Nat} : (stv z).testBit i = true ↔ z = (i : Int) := by
  unfold stv
  split
  · simp
    omega
  · rw [Nat.testBit_two_pow]
    simp
    omega
theorem ord_mu {n q : Nat} {L : List Chg} (h : Ord n (q : Int) L L.length) (i : Int) : -1 ≤ mu L i ∧ mu L i ≤ 8 := mu_rg (ord_mem h) (by omega)
theorem msL_one {n q : Nat} {L : List Chg} (h : Ord n (q : Int) L L.length) : oneP (msL q L) := by
  intro m hm
  unfold msL at hm
  obtain ⟨i, _, rfl⟩ := List.mem_map.1 hm
  exact stv_one (ord_mu h _)
theorem msL_lt {n q : Nat} {L : List Chg} (h : Ord n (q : Int) L L.length) : ∀ m ∈ msL q L, m < 512 := by
  intro m hm
  unfold msL at hm
  obtain ⟨i, _, rfl⟩ := List.mem_map.1 hm
  exact stv_lt (ord_mu h _)
theorem moL_all {q : Nat} {L : List Chg} {t : Int} (h : ∀ x ∈ L, x.st ≤ t) : moL q L t = (List.range q).map fun i : Nat => mu L (i : Int) := by
  unfold moL
  refine List.map_congr_left fun i _ => ?_
  have hc : Cut L L.length t := ⟨fun j x _ hx => h x (List.mem_of_getElem? hx), fun j x hj hx => absurd (List.getElem?_eq_some_iff.1 hx).1 (by omega)⟩
  rw [mo1_cut hc, List.take_length]
theorem moL_old {q : Nat} {L : List Chg} {x : Chg} {t : Int} (h : t < x.st) : moL q (L ++ [x]) t = moL q L t := by
  unfold moL
  refine List.map_congr_left fun i _ => ?_
  unfold mo1
  rw [List.foldl_append]
  exact moF_no1 (by omega)
theorem mt_ms {n q : Nat} {L : List Chg} {t : Int} {x : Nd} (h : Ord n (q : Int) L L.length) (hb : ∀ y ∈ L, y.st ≤ t) (hx : inR x.l) : LS.mt (orL (msL q L)) (mk x.l) = stOk x (moL q L t) := by
  rw [moL_all hb, Bool.eq_iff_iff, LS.mt_iff]
  unfold stOk
  rw [List.any_eq_true]
  constructor
  · rintro ⟨i, hi, h1, h2⟩
    obtain ⟨m, hm, hmi⟩ := orL_bit.1 h1
    unfold msL at hm
    obtain ⟨j, hj, rfl⟩ := List.mem_map.1 hm
    rw [stv_bit (ord_mu h _)] at hmi
    exact ⟨mu L (j : Int), List.mem_map.2 ⟨j, hj, rfl⟩, by rw [decide_eq_true_eq, hmi]; exact (mk_bit hx).1 h2⟩
  · rintro ⟨p, hp, hpx⟩
    rw [decide_eq_true_eq] at hpx
    obtain ⟨j, hj, rfl⟩ := List.mem_map.1 hp
    have hr := hx _ hpx
    refine ⟨(mu L (j : Int)).toNat, by omega, orL_bit.2 ⟨stv (mu L (j : Int)), List.mem_map.2 ⟨j, hj, rfl⟩, (stv_bit (ord_mu h _)).2 (by omega)⟩, (mk_bit hx).2 ?_⟩
    rw [Int.toNat_of_nonneg hr.1]
    exact hpx
theorem orL_set {ms : List Nat} {a v : Nat} (h : a < ms.length) : orL (ms.set a v) = kpS ms a ||| v := by
  rw [List.set_eq_take_append_cons_drop, if_pos h, orL_app, orL_cons]
  unfold kpS
  rw [Nat.or_assoc, Nat.or_comm v]
theorem msL_snoc {q a : Nat} {L : List Chg} {t b : Int} : msL q (L ++ [⟨t, (a : Int), b⟩]) = (msL q L).set a (stv b) := by
  refine List.ext_getElem? fun i => ?_
  rw [List.getElem?_set, msL_len]
  by_cases hi : i < q
  · rw [msL_at hi, msL_at hi, mu_snoc]
    unfold muF
    by_cases e : a = i
    · subst e
      rw [if_pos rfl, if_pos rfl, if_pos hi]
    · rw [if_neg e, if_neg (by simp only; omega)]
  · rw [List.getElem?_eq_none (by rw [msL_len]; omega), List.getElem?_eq_none (by rw [msL_len]; omega)]
    split <;> simp_all
/-- the plan so far: t steps are through -/
structure PlI (ns : List Nd) (q t : Nat) (L : List Chg) : Prop where
  ord : Ord ns.length (q : Int) L L.length
  bel : ∀ x ∈ L, x.st < (t : Int)
  ok : ∀ t', t' < t → ckS ns q L t' = true
  val : L.length + LS.outl q ((mks ns).drop t) (orL (msL q L)) = LS.outl q (mks ns) 0
theorem msL_nil (q : Nat) : orL (msL q []) = 0 := by
  refine Nat.eq_of_testBit_eq fun i => ?_
  rw [Nat.zero_testBit]
  cases e : (orL (msL q [])).testBit i with
  | false => rfl
  | true =>
    obtain ⟨m, hm, hb⟩ := orL_bit.1 e
    unfold msL at hm
    obtain ⟨j, _, rfl⟩ := List.mem_map.1 hm
    rw [show stv (mu [] (j : Int)) = 0 from rfl, Nat.zero_testBit] at hb
    exact hb.symm
theorem plI0 (ns : List Nd) (q : Nat) : PlI ns q 0 [] :=
  ⟨fun i x hi => absurd hi (Nat.not_lt_zero i), fun x hx => by simp at hx, fun t' h => absurd h (Nat.not_lt_zero t'), by rw [msL_nil]; simp⟩
theorem plI_yes {ns : List Nd} {q t : Nat} {L : List Chg} (h : PlI ns q t L) {x : Nd} (hx : ns[t]? = some x) (hr : inR x.l) (hm : LS.mt (orL (msL q L)) (mk x.l) = true) : PlI ns q (t + 1) L := by
  have hd : (mks ns)[t]? = some (mk x.l) := by unfold mks; rw [List.getElem?_map, hx]; rfl
  refine ⟨h.ord, fun y hy => by have := h.bel y hy; omega, below h.ok ?_, ?_⟩
  · rw [ckS_at hx, ← mt_ms h.ord (fun y hy => by have := h.bel y hy; omega) hr]
    exact hm
  · have := h.val
    rwa [drop_at hd, LS.outl_yes hm] at this
theorem plI_no {ns : List Nd} {q t : Nat} {L : List Chg} (h : PlI ns q t L) (hB : ndsB ns = true) (hln : ns.length ≤ 24) (hq : 1 ≤ q) {x : Nd} (hx : ns[t]? = some x) (hm : LS.mt (orL (msL q L)) (mk x.l) = false) {a : Nat} {b : Int} (ha : a < q) (hb : b ∈ x.l)
    (hbest : ∀ j z, j < q → z ∈ x.l → LS.outl q ((mks ns).drop (t + 1)) (kpS (msL q L) a ||| 2 ^ b.toNat) ≤ LS.outl q ((mks ns).drop (t + 1)) (kpS (msL q L) j ||| 2 ^ z.toNat)) : PlI ns q (t + 1) (L ++ [(⟨(t : Int), (a : Int), b⟩ : Chg)]) := by
  have htl := (List.getElem?_eq_some_iff.1 hx).1
  have hr := inR_of (nds_in hB (List.mem_of_getElem? hx)).2
  have hbr := hr b hb
  have hd : (mks ns)[t]? = some (mk x.l) := by unfold mks; rw [List.getElem?_map, hx]; rfl
  have hO : Ord ns.length (q : Int) (L ++ [(⟨(t : Int), (a : Int), b⟩ : Chg)]) (L ++ [(⟨(t : Int), (a : Int), b⟩ : Chg)]).length := by
    rw [List.length_append]
    refine ord_step (x := ⟨(t : Int), (a : Int), b⟩) ?_ (by simp) ?_ ?_
    · intro i c hi hc
      rw [List.getElem?_append_left hi] at hc
      obtain ⟨h1, h2⟩ := h.ord i c hi hc
      refine ⟨h1, fun j d hj hd => ?_⟩
      rw [List.getElem?_append_left (by omega)] at hd
      exact h2 j d hj hd
    · exact okC_y (wiB_iff.2 ⟨by simp only; omega, by simp only; omega⟩) (wiB_iff.2 ⟨by simp only; omega, by simp only; omega⟩) (wiB_iff.2 hbr)
    · intro j d hj hd
      rw [List.getElem?_append_left hj] at hd
      have := h.bel d (List.mem_of_getElem? hd)
      rw [bdP_no]
      simp only
      omega
  have hbel : ∀ y ∈ L ++ [(⟨(t : Int), (a : Int), b⟩ : Chg)], y.st < ((t + 1 : Nat) : Int) := by
    intro y hy
    rcases List.mem_append.1 hy with hy | hy
    · have := h.bel y hy
      omega
    · rw [List.mem_singleton] at hy
      subst hy
      simp only
      omega
  have hms : orL (msL q (L ++ [(⟨(t : Int), (a : Int), b⟩ : Chg)])) = kpS (msL q L) a ||| 2 ^ b.toNat := by
    rw [msL_snoc, orL_set (by rw [msL_len]; exact ha)]
    unfold stv
    rw [if_neg (by omega)]
  refine ⟨hO, hbel, below (fun t' ht' => ?_) ?_, ?_⟩
  · have h1 := h.ok t' ht'
    obtain ⟨y, hy⟩ : ∃ y, ns[t']? = some y := ⟨_, List.getElem?_eq_getElem (by omega)⟩
    rw [ckS_at hy] at h1 ⊢
    rw [moL_old (by simp only; omega)]
    exact h1
  · rw [ckS_at hx, ← mt_ms hO (fun y hy => by have := hbel y hy; omega) hr, hms, LS.mt_iff]
    refine ⟨b.toNat, by omega, by rw [LS.wi_bit]; simp, (mk_bit hr).2 ?_⟩
    rw [Int.toNat_of_nonneg hbr.1]
    exact hb
  · have h1 := h.val
    have hl : (msL q L).length = q := msL_len q L
    have hbd := best_down (ms := msL q L) (msL_one h.ord) (by omega) (n := mk x.l) (ns := (mks ns).drop (t + 1)) (fun y hy => mks_ok hB y (by
      rw [← drop_at hd] at hy
      exact List.mem_of_mem_drop hy)) (by rw [List.length_drop, mks_len]; omega) hm (a := a) (p := b.toNat) (by omega) (by omega) ((mk_bit hr).2 (by rw [Int.toNat_of_nonneg hbr.1]; exact hb))
      (fun j p hj hp hnp => by
        have := hbest j (p : Int) (by omega) ((mk_bit hr).1 hnp)
        rw [hl]
        exact this)
    rw [hl] at hbd
    rw [drop_at hd, hbd] at h1
    rw [hms, List.length_append]
    simp only [List.length_singleton]
    omega
theorem plI_done {ns : List Nd} {q : Nat} {L : List Chg} (h : PlI ns q ns.length L) (h0 : chE ns (q : Int) = 0) : L.length = leN ns (q : Int) ∧ ckE ns (q : Int) L = 0 := by
  constructor
  · have := h.val
    rw [List.drop_eq_nil_of_le (by rw [mks_len]; omega)] at this
    unfold leN
    rw [if_pos h0, Int.toNat_natCast, ← this]
    simp [LS.outl]
  · rw [ckE_in h0 (orB_iff.2 h.ord), Int.toNat_natCast, ckB_end h.ok]
    rfl
end Go.Proofs.Ytfndhddnglcliaa
