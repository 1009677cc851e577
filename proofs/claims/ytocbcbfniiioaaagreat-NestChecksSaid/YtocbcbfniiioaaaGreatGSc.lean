/-
  Nests: Check of the reference; the law NestChecks.
  Nests: the law NestChecks; its arguments opened.
-/
import Derived.Test.YtocbcbfniiioaaaGreatGRc
import Derived.Test.YtocbcbfniiioaaaGreatGJc
set_option linter.unusedVariables false
set_option linter.unusedSimpArgs false
namespace Go.Proofs.YtocbcbfniiioaaaGreat
set_option linter.unusedVariables false
set_option linter.unusedSimpArgs false
open Go Go.ChangeShapes Go.WideShapes Go.ChangeAt Go.RowKit Go.Deep

namespace RG
theorem SlA.take {w : World} {A : Option Addr} {c : Nat} {l : List At6} (h : SlA w A c l) (k : Nat) : SlA w A c (l.take k) := ⟨fun i x hx => h.rd i x (by
    rw [List.getElem?_take] at hx
    split at hx
    · exact hx
    · cases hx), by rw [List.length_take]; have := h.cap; omega, h.capB⟩
theorem oneE_0 {S : List ShT} {Ps : List Pc} {t : St} {L : List At6} {z : At6} (h : oneE S Ps t L z = 0) : ∃ (i : Nat) (p : Pc), z.pi = i ∧ Ps[i]? = some p ∧ puB p z = true := by
  cases hx : ixB S Ps z with
  | false =>
    rw [oneE_no hx] at h
    exact absurd h (by decide)
  | true =>
    obtain ⟨i, j, p, s, e1, e2, hp, hs, hE⟩ := oneE_at hx
    rw [hE] at h
    cases hpu : puB p z with
    | false =>
      unfold oneQ at h
      rw [if_neg (by rw [hpu]; decide)] at h
      exact absurd h (by decide)
    | true => exact ⟨i, p, e1, hp, hpu⟩
theorem CkA.early {S : List ShT} {Ps : List Pc} {t : St} {l : List At6} {K : Nat} {E : Int} (h : CkA l (oneE S Ps t) K E) {k : Nat} (hk : k ≤ K) : ∀ a ∈ l.take k, ∃ (i : Nat) (p : Pc), a.pi = i ∧ Ps[i]? = some p ∧ puB p a = true := fun a ha => by
  obtain ⟨m, hm, e⟩ := List.getElem_of_mem ha
  have e' : (l.take k)[m]? = some a := by rw [← e]; exact List.getElem?_eq_getElem hm
  rw [List.getElem?_take] at e'
  split at e'
  · exact oneE_0 (h.zero m a (by omega) e')
  · cases e'
theorem one_any {bs : Pc → Bool} (A : Option Addr) (c : Nat) (S : List ShT) (A' : Option Addr) (d : Nat) (Ps : List Pc) (t : St) (C : Option Addr) (e5 : Nat) (L : List At6) (z : At6) (w : World) (hS : SlS w A c S) (hP : SlP w A' d Ps) (hA : SlA w C e5 L) (hb : CoBs Ps bs) (z1 : S.length ≤ 4) (z2 : Ps.length ≤ 8) (z3 : ∀ s ∈ S, vsE s = 0) (z4 : ∀ p ∈ Ps, vpE p (bs p) = 0) (z5 : vtB t = true)
    (hL : ∀ a ∈ L, ∃ (i' : Nat) (p' : Pc), a.pi = i' ∧ Ps[i']? = some p' ∧ puB p' a = true) :
    Calls Tryz.prog 64 #[.slice A S.length c, .slice A' Ps.length d, stvv t, .slice C L.length e5, atz z] w fun e w' => e = .returned (iv (oneE S Ps t L z)) ∧ Gr w w' := by
  cases hix : ixB S Ps z with
  | false =>
    rw [oneE_no hix]
    exact one_idx A c S.length A' d Ps.length t _ z.pi z.sh z.x z.y z.t w z1 z2 hix
  | true =>
    obtain ⟨i, j, p, s, e1, e2, hp, hs, hE⟩ := oneE_at hix
    rw [hE]
    clear hE hix
    obtain ⟨pi, sh, x, y, k⟩ := z
    dsimp only at e1 e2
    subst e1 e2
    cases hpu : puB p ⟨i, j, x, y, k⟩ with
    | true => exact one_ok (bs := bs) A c S A' d Ps t C e5 L i j p s x y k w hS hP hA hb hp hs z1 z2 z3 z4 z5 hpu hL
    | false =>
      obtain ⟨E, hE0, _, hU⟩ := Put_no (hP.el p (List.mem_of_getElem? hp)) (hb p (List.mem_of_getElem? hp)) (z4 p (List.mem_of_getElem? hp)) hpu
      have e : oneQ Ps t L p s ⟨i, j, x, y, k⟩ = 1 := by
        unfold oneQ
        rw [if_neg (by rw [hpu]; decide)]
      rw [e]
      exact one_put A c S A' d Ps t _ i j p x y k E w hS hP hp (List.getElem?_eq_some_iff.1 hs).1 z1 z2 hE0 hU
set_option maxHeartbeats 8000000 in
set_option maxRecDepth 100000 in
theorem rCheck_bad (A : Option Addr) (c : Nat) (S : List ShT) (B : Option Addr) (d : Nat) (Ps : List Pc) (bs : Pc → Bool) (t : St) (V : Value) (w : World) (hS : SlS w A c S) (hP : SlP w B d Ps) (hb : CoBs Ps bs) (h0 : ckE S Ps bs t ≠ 0) :
    Calls Tryz.prog 25 #[.slice A S.length c, .slice B Ps.length d, stvv t, V] w fun e w' => e = .returned (.tuple #[iv 0, iv (ckE S Ps bs t)]) ∧ Gr w w' := by
  have HCK := hide (fun (w' : World) (g : Gr w w') => given6_any A c S B d Ps bs w' (hS.gr g) (hP.gr g) hb)
  have HT := hide (fun (w' : World) => rValidSettings_any t w')
  by_cases h1 : clE S Ps bs = 0
  · have h2 : vtB t = false := by
      cases e : vtB t with
      | false => rfl
      | true =>
        unfold ckE at h0
        rw [if_neg (by simpa using h1), if_pos e] at h0
        exact absurd rfl h0
    have h3 : ckE S Ps bs t = 1 := by
      unfold ckE
      rw [if_neg (by simpa using h1), if_neg (by rw [h2]; decide)]
    rw [h3]
    rw [h1] at HCK
    rw [h2] at HT
    obtain ⟨g, m, cm⟩ := t
    clear hS hP hb h0 h1 h2 h3
    go_enter Tryz.func25, Tryz.ntmps25
    go_wp2_with fail
    refine (HCK.out _ (by with_reducible repeat (first | exact Gr.refl _ | assumption | refine Gr.alloc ?_ _ | refine Gr.drewN ?_ _ | refine Gr.drew ?_ | refine Gr.setCell ?_ (by first | (dsimp only; omega) | (simp only [World.size_alloc]; omega) | (refine Gr.size ?_; (repeat (first | exact Gr.refl _ | assumption | refine Gr.alloc ?_ _ | refine Gr.drewN ?_ _ | refine Gr.drew ?_ | refine Gr.trans ?_ (by assumption))); done)) _ | refine Gr.trans ?_ (by assumption)))).mono ?_
    rintro e w1 ⟨rfl, g1⟩
    obtain ⟨e0, y0, _⟩ := (Made.new w #[iv g, iv m, .bool cm] 28).gr g1
    have a00 := y0 0
    have a01 := y0 1
    have a02 := y0 2
    clear y0
    go_wp2_with fail
    refine (HT.out _).mono ?_
    rintro e w2 ⟨rfl, g2⟩
    clear a00 a01 a02
    go_wp2_with fail
    exact bodyPost_ret (v := .tuple #[iv 0, iv 1]) (by simp [results, Tryz.results25, go_sem, *]) rfl ⟨rfl, (by with_reducible repeat (first | exact Gr.refl _ | assumption | refine Gr.alloc ?_ _ | refine Gr.drewN ?_ _ | refine Gr.drew ?_ | refine Gr.setCell ?_ (by first | (dsimp only; omega) | (simp only [World.size_alloc]; omega) | (refine Gr.size ?_; (repeat (first | exact Gr.refl _ | assumption | refine Gr.alloc ?_ _ | refine Gr.drewN ?_ _ | refine Gr.drew ?_ | refine Gr.trans ?_ (by assumption))); done)) _ | refine Gr.trans ?_ (by assumption)))⟩
  · have h3 : ckE S Ps bs t = clE S Ps bs := by
      unfold ckE
      rw [if_pos (by simpa using h1)]
    rw [h3]
    generalize clE S Ps bs = E at *
    have hE : (E != 0) = true := by simpa using h1
    obtain ⟨g, m, cm⟩ := t
    clear hS hP hb h0 h1 h3 HT
    go_enter Tryz.func25, Tryz.ntmps25
    go_wp2_with fail
    refine (HCK.out _ (by with_reducible repeat (first | exact Gr.refl _ | assumption | refine Gr.alloc ?_ _ | refine Gr.drewN ?_ _ | refine Gr.drew ?_ | refine Gr.setCell ?_ (by first | (dsimp only; omega) | (simp only [World.size_alloc]; omega) | (refine Gr.size ?_; (repeat (first | exact Gr.refl _ | assumption | refine Gr.alloc ?_ _ | refine Gr.drewN ?_ _ | refine Gr.drew ?_ | refine Gr.trans ?_ (by assumption))); done)) _ | refine Gr.trans ?_ (by assumption)))).mono ?_
    rintro e w1 ⟨rfl, g1⟩
    go_wp2
    exact bodyPost_ret (v := .tuple #[iv 0, iv E]) (by simp [results, Tryz.results25, go_sem, *]) rfl ⟨rfl, (by with_reducible repeat (first | exact Gr.refl _ | assumption | refine Gr.alloc ?_ _ | refine Gr.drewN ?_ _ | refine Gr.drew ?_ | refine Gr.setCell ?_ (by first | (dsimp only; omega) | (simp only [World.size_alloc]; omega) | (refine Gr.size ?_; (repeat (first | exact Gr.refl _ | assumption | refine Gr.alloc ?_ _ | refine Gr.drewN ?_ _ | refine Gr.drew ?_ | refine Gr.trans ?_ (by assumption))); done)) _ | refine Gr.trans ?_ (by assumption)))⟩
set_option maxHeartbeats 8000000 in
set_option maxRecDepth 100000 in
theorem rCheck_good (A : Option Addr) (c : Nat) (S : List ShT) (B : Option Addr) (d : Nat) (Ps : List Pc) (bs : Pc → Bool) (t : St) (C : Option Addr) (e5 : Nat) (l : List At6) (K : Nat) (E : Int) (w : World) (hS : SlS w A c S) (hP : SlP w B d Ps) (hA : SlA w C e5 l) (hb : CoBs Ps bs) (h0 : ckE S Ps bs t = 0) (hl : l.length ≤ 1000) (hK : CkA l (oneE S Ps t) K E) :
    Calls Tryz.prog 25 #[.slice A S.length c, .slice B Ps.length d, stvv t, .slice C l.length e5] w fun e w' => e = .returned (.tuple #[iv (if E = 0 then 0 else K), iv E]) ∧ Gr w w' := by
  obtain ⟨⟨z1, z2⟩, z3, z4, z5⟩ := ck_good h0
  have HCK := hide (fun (w' : World) (g : Gr w w') => given6_any A c S B d Ps bs w' (hS.gr g) (hP.gr g) hb)
  have h1 : clE S Ps bs = 0 := by
    by_cases e : clE S Ps bs = 0
    · exact e
    · unfold ckE at h0
      rw [if_pos (by simpa using e)] at h0
      exact absurd h0 e
  rw [h1] at HCK
  have HT := hide (fun (w' : World) => rValidSettings_any t w')
  rw [z5] at HT
  have HONE := hide (fun (k : Nat) (hk : k ≤ K) (z : At6) (w' : World) (g : Gr w w') => one_any (bs := bs) A c S B d Ps t C e5 (l.take k) z w' (hS.gr g) (hP.gr g) ((hA.gr g).take k) hb z1 z2 z3 z4 z5 (hK.early hk))
  have n1 := hS.cap
  have n2 := hS.capB
  have n3 := hP.cap
  have n4 := hP.capB
  have n5 := hA.cap
  have n6 := hA.capB
  have HA := hide hA
  have HK := hide hK
  have hKl := hK.le
  obtain ⟨g, m, cm⟩ := t
  clear hS hP hA hb h0 h1 z3 z4 z5 hK
  go_enter Tryz.func25, Tryz.ntmps25
  go_wp2_with fail
  refine (HCK.out _ (by with_reducible repeat (first | exact Gr.refl _ | assumption | refine Gr.alloc ?_ _ | refine Gr.drewN ?_ _ | refine Gr.drew ?_ | refine Gr.setCell ?_ (by first | (dsimp only; omega) | (simp only [World.size_alloc]; omega) | (refine Gr.size ?_; (repeat (first | exact Gr.refl _ | assumption | refine Gr.alloc ?_ _ | refine Gr.drewN ?_ _ | refine Gr.drew ?_ | refine Gr.trans ?_ (by assumption))); done)) _ | refine Gr.trans ?_ (by assumption)))).mono ?_
  rintro e w1 ⟨rfl, g1⟩
  have M0 := hide ((Made.new w #[iv g, iv m, .bool cm] 28).gr g1)
  obtain ⟨e0, y0, _⟩ := M0.out
  have a00 := y0 0
  have a01 := y0 1
  have a02 := y0 2
  clear y0
  have gw1 : Gr w w1 := Gr.trans (by with_reducible repeat (first | exact Gr.refl _ | assumption | refine Gr.alloc ?_ _ | refine Gr.drewN ?_ _ | refine Gr.drew ?_ | refine Gr.setCell ?_ (by first | (dsimp only; omega) | (simp only [World.size_alloc]; omega) | (refine Gr.size ?_; (repeat (first | exact Gr.refl _ | assumption | refine Gr.alloc ?_ _ | refine Gr.drewN ?_ _ | refine Gr.drew ?_ | refine Gr.trans ?_ (by assumption))); done)) _ | refine Gr.trans ?_ (by assumption))) g1
  go_wp2_with fail
  refine (HT.out _).mono ?_
  rintro e w2 ⟨rfl, g2⟩
  have gw2 : Gr w w2 := gw1.trans g2
  have M2 := hide (M0.out.gr g2)
  clear a00 a01 a02 M0 e0 g1 g2 gw1
  go_upto_region 7 with fail
  go_loopw [11] (fun i wr => ∃ k : Nat, k ≤ K ∧ i = iv k ∧ Gr w2 wr) (fun i _ => l.length - (intOf i).toNat)
  case atStart => exact ⟨0, by omega, rfl, Gr.refl _⟩
  case round =>
    obtain ⟨k, hk, rfl, g⟩ := hrel
    have gwr := gw2.trans g
    by_cases hkl : k < l.length
    · obtain ⟨z, hz⟩ : ∃ z, l[k]? = some z := ⟨_, List.getElem?_eq_getElem hkl⟩
      have hst := HK.out.step hk hz
      obtain ⟨b, o, rfl, x0, x1, x2, x3, x4⟩ := (HA.out.gr gwr).at_ hz
      have hbl : b < wr.heap.size := cell_lt (by rw [x0]; rfl)
      have hk0 : (0 : Int) ≤ (k : Int) := by omega
      have hk1 : (k : Int) < (l.length : Int) := by omega
      have hk2 : (k : Int) ≤ (e5 : Int) := by omega
      obtain ⟨e0, y0, _⟩ := M2.out.gr g
      have a00 := y0 0
      have a01 := y0 1
      have a02 := y0 2
      clear y0 hz
      have HO := hide (fun (w' : World) (g' : Gr wr w') => HONE.out k hk z w' (gwr.trans g'))
      rw [show (l.take k).length = k by rw [List.length_take]; omega] at HO
      obtain ⟨pi, sh, x, y, tt⟩ := z
      dsimp only at x0 x1 x2 x3 x4
      rcases hst with ⟨hkK, hE0⟩ | ⟨hkK, hEE, hE0⟩
      · rw [hE0] at HO
        clear hE0
        go_upto_region 9 with fail
        have GC := @GrW.cell
        refine wp_region_grw _ (by kernel_rfl) (by kernel_rfl) (Gr.refl _) ?_
        repeat (go_big_quiet_step ((first | (go_at_call 64; exact quiet_grw (HO.out _ (GrW.gr _))))))
        refine wpQuiet_nil ?_
        intro wq hwq
        obtain ⟨gq, hwq'⟩ := hwq
        subst hwq'
        clear GC
        have gq1 := gq.gr
        generalize gq.w = wq at gq1 ⊢
        obtain ⟨Xq, Yq, cq, fq⟩ := gq1.use
        have sq := gq1.size
        (try simp only [World.size_alloc, World.size_setCell, World.heap_drewN] at sq)
        go_wp2
        go_roundw
        case rel => exact ⟨k + 1, by omega, by go_num, (by with_reducible repeat (first | exact Gr.refl _ | assumption | refine Gr.alloc ?_ _ | refine Gr.drewN ?_ _ | refine Gr.drew ?_ | refine Gr.setCell ?_ (by first | (dsimp only; omega) | (simp only [World.size_alloc]; omega) | (refine Gr.size ?_; (repeat (first | exact Gr.refl _ | assumption | refine Gr.alloc ?_ _ | refine Gr.drewN ?_ _ | refine Gr.drew ?_ | refine Gr.trans ?_ (by assumption))); done)) _ | refine Gr.trans ?_ (by assumption)))⟩
        case measure => simp only [intOf]; omega
      · rw [hEE] at HO
        clear hEE
        subst hkK
        have h1 : (E != 0) = true := by simpa using hE0
        go_upto_region 9 with fail
        have GC := @GrW.cell
        refine wp_region_grw _ (by kernel_rfl) (by kernel_rfl) (Gr.refl _) ?_
        repeat (go_big_quiet_step ((first | (go_at_call 64; exact quiet_grw (HO.out _ (GrW.gr _))))))
        refine wpQuiet_nil ?_
        intro wq hwq
        obtain ⟨gq, hwq'⟩ := hwq
        subst hwq'
        clear GC
        have gq1 := gq.gr
        generalize gq.w = wq at gq1 ⊢
        obtain ⟨Xq, Yq, cq, fq⟩ := gq1.use
        have sq := gq1.size
        (try simp only [World.size_alloc, World.size_setCell, World.heap_drewN] at sq)
        go_wp2_with fail
        refine bodyPost_ret (v := .tuple #[iv k, iv E]) (by simp [results, Tryz.results25, go_sem, *]) rfl ⟨?_, (by with_reducible repeat (first | exact Gr.refl _ | assumption | refine Gr.alloc ?_ _ | refine Gr.drewN ?_ _ | refine Gr.drew ?_ | refine Gr.setCell ?_ (by first | (dsimp only; omega) | (simp only [World.size_alloc]; omega) | (refine Gr.size ?_; (repeat (first | exact Gr.refl _ | assumption | refine Gr.alloc ?_ _ | refine Gr.drewN ?_ _ | refine Gr.drew ?_ | refine Gr.trans ?_ (by assumption))); done)) _ | refine Gr.trans ?_ (by assumption)))⟩
        first | rw [if_neg hE0] | rfl
    · obtain rfl : E = 0 := HK.out.fin (by omega)
      clear HONE
      go_wp2_with fail
      refine bodyPost_ret (v := .tuple #[iv 0, iv 0]) (by simp [results, Tryz.results25, go_sem, *]) rfl ⟨?_, gwr⟩
      first | rfl | rw [if_pos rfl]
end RG
end Go.Proofs.YtocbcbfniiioaaaGreat
set_option linter.unusedVariables false
set_option linter.unusedSimpArgs false
namespace Go.Proofs.YtocbcbfniiioaaaGreat
set_option linter.unusedVariables false
set_option linter.unusedSimpArgs false
open Go Go.ChangeShapes Go.WideShapes Go.ChangeAt Go.RowKit Go.Deep

namespace RG
abbrev jbv (A : Option Addr) (n c : Nat) (B : Option Addr) (m d : Nat) (t : St) : Value := .agg #[.slice A n c, .slice B m d, iv t.g, iv t.m, .bool t.c]
theorem c8Shs : Tryz.prog.cellsOf 44 = 1 := by kernel_rfl
theorem c8Pcs : Tryz.prog.cellsOf 45 = 1 := by kernel_rfl
theorem c8Job : Tryz.prog.cellsOf 47 = 5 := by kernel_rfl
section
variable {H : Type} {enc : TypeId × Value → H} {W : World}
theorem o8_shs {n : Nat} {cs : List Value} {x : DataW H × List MemPlace} (h : DataW.trod enc Tryz.prog W 0 (fun _ => true) true n 44 cs = some x) : ∃ (A : Option Addr) (c : Nat) (L : List ShT), cs = [.slice A L.length c] ∧ SlS W A c L := by
  obtain ⟨A, c, l, e, h1, h2, h3, h4⟩ := open_list (c := shL) (Ok := fun y : ShT => ShW W y) Tryz.underlying44 c6Sh (by decide) (fun {n cs x} hx => o6_sh hx) (fun _ => rfl) h
  exact ⟨A, c, l, e, h1, h2, h3, by unfold maxLen at h4; omega⟩
theorem o8_pcs {n : Nat} {cs : List Value} {x : DataW H × List MemPlace} (h : DataW.trod enc Tryz.prog W 0 (fun _ => true) true n 45 cs = some x) : ∃ (A : Option Addr) (c : Nat) (L : List Pc), cs = [.slice A L.length c] ∧ SlP W A c L := by
  obtain ⟨A, c, l, e, h1, h2, h3, h4⟩ := open_list (c := pcL) (Ok := fun y : Pc => PcW W y) Tryz.underlying45 c6Pc (by decide) (fun {n cs x} hx => o6_pc hx) (fun _ => rfl) h
  exact ⟨A, c, l, e, h1, h2, h3, by unfold maxLen at h4; omega⟩
set_option maxRecDepth 100000 in
theorem o8_places {base : Nat} {v : Value} {d : DataW H} {ps : List MemPlace} (hv : Value.okWide Tryz.prog W .any base 48 v) (hd : DataW.Trod enc Tryz.prog W 0 (fun _ => true) true 48 v d ps) :
    ∃ (A : Option Addr) (c : Nat) (l : List At6), v = .slice A l.length c ∧ SlA W A c l := by
  obtain ⟨A, len, cap, rfl⟩ := okWide_slice Tryz.underlying48 hv
  obtain ⟨fuel, h⟩ := hd
  obtain ⟨A', c, l, e, h1, h2, h3, h4⟩ := open_list (c := at6L) (Ok := fun _ : At6 => True) Tryz.underlying48 c6At (by decide) (fun {n cs x} hx => by
    obtain ⟨z, hz⟩ := o6_at hx
    exact ⟨z, hz, trivial⟩) (fun _ => rfl) h
  have e' : Value.slice A len cap = .slice A' l.length c := by simpa [Value.cells] using e
  exact ⟨A', c, l, e', h1, h3, by unfold maxLen at h4; omega⟩
set_option maxRecDepth 100000 in
theorem o8_job {base : Nat} {v : Value} {d : DataW H} {ps : List MemPlace} (hv : Value.okWide Tryz.prog W .any base 47 v) (hd : DataW.Trod enc Tryz.prog W 0 (fun _ => true) true 47 v d ps) :
    ∃ (A : Option Addr) (c : Nat) (S : List ShT) (B : Option Addr) (d : Nat) (Ps : List Pc) (t : St), v = jbv A S.length c B Ps.length d t ∧ SlS W A c S ∧ SlP W B d Ps := by
  obtain ⟨cs, rfl, _⟩ := okWide_struct Tryz.underlying47 hv
  obtain ⟨fuel, h⟩ := hd
  simp only [Value.cells] at h
  obtain ⟨xs, m, _, _, hl, hxl, hg⟩ := DataW.trod_struct Tryz.underlying47 h
  rw [c8Job] at hl
  have hxl : xs.length = 3 := hxl
  have el : ∀ i : Nat, i < 3 → xs[i]? = some (xs[i]?.getD (.nil, [])) := fun i hi => by rw [List.getElem?_eq_getElem (by omega)]; rfl
  have f0 := field_use hg 0 44 0 rfl
  have f1 := field_use hg 1 45 1 rfl
  have f2 := field_use hg 2 28 2 rfl
  rw [c8Shs, el 0 (by omega)] at f0
  rw [c8Pcs, el 1 (by omega)] at f1
  rw [c6Set, el 2 (by omega)] at f2
  obtain ⟨cl⟩ := cs
  simp only at hl f0 f1 f2
  match cl, hl with
  | [k0, k1, k2, k3, k4], _ =>
    obtain ⟨A, c, S, e0, hS⟩ := o8_shs f0
    obtain ⟨B, d, Ps, e1, hP⟩ := o8_pcs f1
    obtain ⟨t, e2⟩ := o6_set f2
    simp at e0 e1 e2
    subst e0 e1
    obtain ⟨rfl, rfl, rfl⟩ := e2
    exact ⟨A, c, S, B, d, Ps, t, rfl, hS, hP⟩
end
set_option maxHeartbeats 8000000 in
set_option maxRecDepth 100000 in
theorem checks_same (A : Option Addr) (c n : Nat) (B : Option Addr) (d m : Nat) (t : St) (C : Option Addr) (k e5 : Nat) (a E : Int) (w : World) (hk : k ≤ 40)
    (HP : ∀ w', Gr w w' → Calls Tryz.prog 24 #[.slice A n c, .slice B m d, stvv t, .slice C k e5] w' fun e w'' => e = .returned (.tuple #[iv a, iv E]) ∧ Gr w' w'')
    (HR : ∀ w', Gr w w' → Calls Tryz.prog 25 #[.slice A n c, .slice B m d, stvv t, .slice C k e5] w' fun e w'' => e = .returned (.tuple #[iv a, iv E]) ∧ Gr w' w'') :
    Calls Tryz.prog 8 #[jbv A n c B m d t, .slice C k e5] w fun e w' => e = .returned (.bool true) ∧ Gr w w' := by
  have H1 := hide HP
  have H2 := hide HR
  have h40 : ¬ ((40 : Int) < (k : Int)) := by omega
  have h41 : decide ((k : Int) > 40) = false := decide_eq_false h40
  obtain ⟨g, mm, cm⟩ := t
  clear HP HR
  go_enter Tryz.func8, Tryz.ntmps8
  go_upto_region 3 with fail
  have M0 := hide (Made.new w #[.slice A n c, .slice B m d, iv g, iv mm, .bool cm] 47)
  have g0 : Gr w (w.alloc (.cells #[.slice A n c, .slice B m d, iv g, iv mm, .bool cm] 47)) := Gr.alloc (Gr.refl _) _
  generalize w.alloc (.cells #[.slice A n c, .slice B m d, iv g, iv mm, .bool cm] 47) = w0 at *
  generalize w.heap.size = b2 at *
  obtain ⟨l0, y0, _⟩ := M0.out
  have a0 := y0 0
  have a1 := y0 1
  have a2 := y0 2
  have a3 := y0 3
  have a4 := y0 4
  clear y0
  go_upto_region 4 with fail
  refine (H1.out _ g0).mono ?_
  rintro e w1 ⟨rfl, g1⟩
  have gw1 := g0.trans g1
  clear a0 a1 a2 a3 a4 l0
  go_upto_region 4 with fail
  obtain ⟨l0, y0, _⟩ := M0.out.gr g1
  have a0 := y0 0
  have a1 := y0 1
  have a2 := y0 2
  have a3 := y0 3
  have a4 := y0 4
  clear y0
  go_upto_region 5 with fail
  refine (H2.out _ gw1).mono ?_
  rintro e w2 ⟨rfl, g2⟩
  have gw2 := gw1.trans g2
  clear a0 a1 a2 a3 a4 l0
  go_wp2_with fail
  refine (known6_any _).mono ?_
  rintro e w3 ⟨rfl, g3⟩
  go_wp2
  go_ret
  exact ⟨rfl, gw2.trans g3⟩
set_option maxHeartbeats 4000000 in
set_option maxRecDepth 100000 in
theorem checks_long (A : Option Addr) (c n : Nat) (B : Option Addr) (d m : Nat) (t : St) (C : Option Addr) (k e5 : Nat) (w : World) (hk : 40 < k) :
    Calls Tryz.prog 8 #[jbv A n c B m d t, .slice C k e5] w fun e w' => e = .returned (.bool true) ∧ Gr w w' := by
  have h40 : (40 : Int) < (k : Int) := by omega
  obtain ⟨g, mm, cm⟩ := t
  go_enter Tryz.func8, Tryz.ntmps8
  go_wp2_with (first | (go_at_call 16; refine (known6_any _).mono ?_; rintro e w1 ⟨rfl, g1⟩; obtain ⟨X1, Y1, c1, f1⟩ := g1.use))
  go_ret
  exact ⟨rfl, (by with_reducible repeat (first | exact Gr.refl _ | assumption | refine Gr.alloc ?_ _ | refine Gr.drewN ?_ _ | refine Gr.drew ?_ | refine Gr.setCell ?_ (by first | (dsimp only; omega) | (simp only [World.size_alloc]; omega) | (refine Gr.size ?_; (repeat (first | exact Gr.refl _ | assumption | refine Gr.alloc ?_ _ | refine Gr.drewN ?_ _ | refine Gr.drew ?_ | refine Gr.trans ?_ (by assumption))); done)) _ | refine Gr.trans ?_ (by assumption)))⟩
theorem checks_walk (A : Option Addr) (c : Nat) (S : List ShT) (B : Option Addr) (d : Nat) (Ps : List Pc) (t : St) (C : Option Addr) (e5 : Nat) (l : List At6) (w : World) (hS : SlS w A c S) (hP : SlP w B d Ps) (hA : SlA w C e5 l) :
    Calls Tryz.prog 8 #[jbv A S.length c B Ps.length d t, .slice C l.length e5] w fun e w' => e = .returned (.bool true) ∧ Gr w w' := by
  by_cases hl : 40 < l.length
  · exact checks_long A c S.length B d Ps.length t C l.length e5 w hl
  · obtain ⟨bs, hbs⟩ := coBs_ex
    have hb : CoBs Ps bs := fun p _ => hbs p
    by_cases h0 : ckE S Ps bs t = 0
    · obtain ⟨K, E, hK⟩ := ckA_ex l (oneE S Ps t)
      exact checks_same A c S.length B d Ps.length t C l.length e5 _ E w (by omega) (fun w' g => Check_good A c S B d Ps bs t C e5 l K E w' (hS.gr g) (hP.gr g) (hA.gr g) hb h0 (by omega) hK) (fun w' g => rCheck_good A c S B d Ps bs t C e5 l K E w' (hS.gr g) (hP.gr g) (hA.gr g) hb h0 (by omega) hK)
    · exact checks_same A c S.length B d Ps.length t C l.length e5 _ _ w (by omega) (fun w' g => Check_bad A c S B d Ps bs t _ w' (hS.gr g) (hP.gr g) hb h0) (fun w' g => rCheck_bad A c S B d Ps bs t _ w' (hS.gr g) (hP.gr g) hb h0)
end RG
end Go.Proofs.YtocbcbfniiioaaaGreat
