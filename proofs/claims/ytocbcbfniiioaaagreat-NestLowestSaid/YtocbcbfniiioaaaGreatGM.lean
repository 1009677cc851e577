/-
  Nests, plain: there is a first place, or none; what lies well and clear.
  Nests: lies, of the law NestLowest.
  Nests: arguments opened: what is on a sheet, a piece with settings.
  Nests: the law NestLowest.
-/
import Derived.Test.YtocbcbfniiioaaaGreatGJ
set_option linter.unusedVariables false
set_option linter.unusedSimpArgs false
namespace Go.Proofs.YtocbcbfniiioaaaGreat
set_option linter.unusedVariables false
set_option linter.unusedSimpArgs false
open Go Go.ChangeShapes Go.WideShapes Go.ChangeAt Go.RowKit Go.Deep

namespace RG
theorem int_least {P : Int → Prop} {lo : Int} (hlo : ∀ z, P z → lo ≤ z) : ∀ (n : Nat) (z : Int), P z → z ≤ lo + n → ∃ u, P u ∧ ∀ v, P v → u ≤ v
  | 0, z, h, hz => ⟨z, h, fun v hv => by have := hlo v hv; have := hlo z h; omega⟩
  | n + 1, z, h, hz => by
    by_cases k : ∃ v, P v ∧ v ≤ lo + n
    · obtain ⟨v, hv, hn⟩ := k
      exact int_least hlo n v hv hn
    · refine ⟨z, h, fun v hv => ?_⟩
      have : ¬ v ≤ lo + n := fun e => k ⟨v, hv, e⟩
      omega
theorem least_of {P : Int → Prop} {lo : Int} (hlo : ∀ z, P z → lo ≤ z) {z : Int} (h : P z) : ∃ u, P u ∧ ∀ v, P v → u ≤ v :=
  int_least hlo (z - lo).toNat z h (by have := hlo z h; omega)
theorem fsO_ex (f : Br) (l : List Br) : ∃ o, FsO f l o := by
  by_cases h : ∃ x y, FreeP f l x y
  · obtain ⟨x, y, hxy⟩ := h
    obtain ⟨y0, ⟨x1, h1⟩, hy⟩ := least_of (P := fun y => ∃ x, FreeP f l x y) (lo := f.b) (fun z ⟨x, hz⟩ => hz.1.2.2.1) ⟨x, hxy⟩
    obtain ⟨x0, h0, hx⟩ := least_of (P := fun x => FreeP f l x y0) (lo := f.l) (fun z hz => hz.1.1) h1
    refine ⟨some (x0, y0), ⟨fun x y e => ?_, fun e => by cases e⟩⟩
    simp only [Option.some.injEq, Prod.mk.injEq] at e
    obtain ⟨rfl, rfl⟩ := e
    refine ⟨h0, fun x' y' h' => ?_⟩
    have a := hy y' ⟨x', h'⟩
    rcases Int.lt_or_le y0 y' with c | c
    · exact .inl c
    · obtain rfl : y0 = y' := by omega
      exact .inr ⟨rfl, hx x' h'⟩
  · exact ⟨none, ⟨(fun x y e => by cases e), fun _ x y hf => h ⟨x, y, hf⟩⟩⟩
theorem ftO_ex (o : Nat → Option (Int × Int)) : ∃ r, FtO o r := by
  have key : ∀ k, ∃ r : Option (Nat × Int × Int), (∀ t x y, r = some (t, x, y) → t < k ∧ o t = some (x, y) ∧ ∀ t' x' y', t' < k → o t' = some (x', y') → y < y' ∨ y = y' ∧ (x < x' ∨ x = x' ∧ t ≤ t')) ∧ (r = none → ∀ t, t < k → o t = none) := by
    intro k
    induction k with
    | zero => exact ⟨none, (fun _ _ _ e => by cases e), fun _ t ht => absurd ht (Nat.not_lt_zero t)⟩
    | succ k ih =>
      obtain ⟨r, h1, h2⟩ := ih
      cases hk : o k with
      | none =>
        refine ⟨r, fun t x y e => ?_, fun e t ht => ?_⟩
        · obtain ⟨a, b, c⟩ := h1 t x y e
          refine ⟨by omega, b, fun t' x' y' ht' he => ?_⟩
          by_cases q : t' = k
          · subst q; rw [hk] at he; cases he
          · exact c t' x' y' (by omega) he
        · by_cases q : t = k
          · subst q; exact hk
          · exact h2 e t (by omega)
      | some v =>
        obtain ⟨u, w⟩ := v
        cases r with
        | none =>
          refine ⟨some (k, u, w), fun t x y e => ?_, fun e => by cases e⟩
          simp only [Option.some.injEq, Prod.mk.injEq] at e
          obtain ⟨rfl, rfl, rfl⟩ := e
          refine ⟨by omega, hk, fun t' x' y' ht' he => ?_⟩
          by_cases q : t' = k
          · subst q
            rw [hk] at he
            simp only [Option.some.injEq, Prod.mk.injEq] at he
            omega
          · rw [h2 rfl t' (by omega)] at he; cases he
        | some z =>
          obtain ⟨t0, x0, y0⟩ := z
          obtain ⟨a, b, c⟩ := h1 t0 x0 y0 rfl
          by_cases q : y0 < w ∨ y0 = w ∧ x0 ≤ u
          · refine ⟨some (t0, x0, y0), fun t x y e => ?_, fun e => by cases e⟩
            simp only [Option.some.injEq, Prod.mk.injEq] at e
            obtain ⟨rfl, rfl, rfl⟩ := e
            refine ⟨by omega, b, fun t' x' y' ht' he => ?_⟩
            by_cases q' : t' = k
            · subst q'
              rw [hk] at he
              simp only [Option.some.injEq, Prod.mk.injEq] at he
              omega
            · exact c t' x' y' (by omega) he
          · refine ⟨some (k, u, w), fun t x y e => ?_, fun e => by cases e⟩
            simp only [Option.some.injEq, Prod.mk.injEq] at e
            obtain ⟨rfl, rfl, rfl⟩ := e
            refine ⟨by omega, hk, fun t' x' y' ht' he => ?_⟩
            by_cases q' : t' = k
            · subst q'
              rw [hk] at he
              simp only [Option.some.injEq, Prod.mk.injEq] at he
              omega
            · have := c t' x' y' (by omega) he
              omega
  obtain ⟨r, h1, h2⟩ := key 4
  exact ⟨r, ⟨h1, h2⟩⟩
/-- each piece has its first place on a sheet beside what is there, or none -/
theorem fitR_ex (s : ShT) (L : List Rc) (p : Pc) (t : St) : ∃ r, FitR s L p t r := by
  have h : ∀ k : Nat, ∃ v : Option (Int × Int), (alB p.mt s.mt p.ga s.ga p.gr s.gr k = false → v = none) ∧ (alB p.mt s.mt p.ga s.ga p.gr s.gr k = true → FsO (fdV (inmR s.wd s.ht t.m) (tnL p.r k p.r)) (fdB (tnL p.r k p.r) (s.cl ++ s.us) L t) v) := fun k => by
    cases e : alB p.mt s.mt p.ga s.ga p.gr s.gr k with
    | false => exact ⟨none, fun _ => rfl, fun e => by cases e⟩
    | true =>
      obtain ⟨v, hv⟩ := fsO_ex (fdV (inmR s.wd s.ht t.m) (tnL p.r k p.r)) (fdB (tnL p.r k p.r) (s.cl ++ s.us) L t)
      exact ⟨v, (fun e => by cases e), fun _ => hv⟩
  obtain ⟨r, hr⟩ := ftO_ex (fun k => Classical.choose (h k))
  exact ⟨r, fun k => Classical.choose (h k), ⟨fun k _ e => (Classical.choose_spec (h k)).1 e, fun k _ e => (Classical.choose_spec (h k)).2 e⟩, hr⟩
/-- a rectangle lies well on a sheet -/
def rcW (s : ShT) (m : Int) (r : Rc) : Bool := isR r (inmR s.wd s.ht m) && (!(s.cl.any (ovQ r)) && !(s.us.any (ovQ r)))
/-- rectangles lie well on a sheet, clear of lists -/
def lsM (s : ShT) (t : St) (M : List Rc) (L : List RS) : Bool := M.all (rcW s t.m) && L.all fun z => !npB (ucB t) M z.l
theorem lsM_iff {s : ShT} {t : St} {l : List Rc} {L : List RS} {x y : Int} : lsM s t (l.map (mvR x y)) L = true ↔ PlP (inmR s.wd s.ht t.m) (s.cl ++ s.us) (allR L) t l x y := by
  unfold lsM rcW npB allR
  simp only [Bool.and_eq_true, List.all_eq_true, Bool.not_eq_true', List.any_eq_false, List.mem_map, forall_exists_index, and_imp, forall_apply_eq_imp_iff₂, Bool.not_eq_true]
  constructor
  · rintro ⟨h1, h2⟩
    refine ⟨fun r hr => (h1 r hr).1, fun r hr o ho => ?_, fun r hr o ho => ?_⟩
    · rcases List.mem_append.1 ho with h | h
      · exact (h1 r hr).2.1 o h
      · exact (h1 r hr).2.2 o h
    · obtain ⟨z, hz, hoz⟩ := List.mem_flatMap.1 ho
      exact h2 z hz r hr o hoz
  · intro h
    exact ⟨fun r hr => ⟨h.ins r hr, fun o ho => h.hard r hr o (List.mem_append.2 (.inl ho)), fun o ho => h.hard r hr o (List.mem_append.2 (.inr ho))⟩, fun z hz r hr o ho => h.soft r hr o (List.mem_flatMap.2 ⟨z, hz, ho⟩)⟩
/-- the first place is before any other -/
theorem fit_least {s : ShT} {L : List Rc} {p : Pc} {t : St} {r : Option (Nat × Int × Int)} (hp : PcG p) (hS : ShG s) (ht : (0 ≤ t.g ∧ t.g ≤ 14400) ∧ 0 ≤ t.m ∧ t.m ≤ 14400) (hL : ∀ r ∈ L, vrR r = true) (h : FitR s L p t r) {k : Nat} {x y : Int} (hk : k < 4) (hal : alB p.mt s.mt p.ga s.ga p.gr s.gr k = true)
    (hpl : PlP (inmR s.wd s.ht t.m) (s.cl ++ s.us) L t (tnL p.r k p.r) x y) : ∃ k0 x0 y0, r = some (k0, x0, y0) ∧ (y0 < y ∨ y0 = y ∧ (x0 < x ∨ x0 = x ∧ k0 ≤ k)) := by
  obtain ⟨o, ho, hr⟩ := h
  have hw := hS.wd
  have hh := hS.ht
  have hf := (place_iff (hp.atT k) (by dsimp only; omega) (by dsimp only; omega) hS.v hL ht.1.1 x y).2 hpl
  have hy := ho.yes k hk hal
  cases hok : o k with
  | none => exact absurd hf (hy.no hok x y)
  | some v =>
    obtain ⟨x1, y1⟩ := v
    have h1 := (hy.yes x1 y1 hok).2 x y hf
    cases r with
    | none => rw [hr.no rfl k hk] at hok; cases hok
    | some z =>
      obtain ⟨k0, x0, y0⟩ := z
      have h2 := (hr.yes k0 x0 y0 rfl).2.2 k x1 y1 hk hok
      exact ⟨k0, x0, y0, rfl, by omega⟩
end RG
end Go.Proofs.YtocbcbfniiioaaaGreat
set_option linter.unusedVariables false
set_option linter.unusedSimpArgs false
namespace Go.Proofs.YtocbcbfniiioaaaGreat
set_option linter.unusedVariables false
set_option linter.unusedSimpArgs false
open Go Go.ChangeShapes Go.WideShapes Go.ChangeAt Go.RowKit Go.Deep

namespace RG
abbrev glv (p : Pc) (t : St) : Value := .agg #[.string p.nm, .string p.mt, iv p.ga, iv p.gr, .slice p.rA p.r.length p.rc, .slice p.cA p.c.length p.cc, .slice p.fA p.f.length p.fc, iv t.g, iv t.m, .bool t.c]
set_option maxHeartbeats 8000000 in
set_option maxRecDepth 100000 in
theorem lies_bad (s : ShT) (A : Option Addr) (c n : Nat) (p : Pc) (t : St) (pi sh x y k E : Int) (w : World) (hE : E ≠ 0) (HP : ∀ w', Gr w w' → Calls Tryz.prog 17 #[p.v, atv pi sh x y k] w' fun e w'' => e = .returned (sle noPcV E) ∧ Gr w' w'') :
    Calls Tryz.prog 27 #[s.v, .slice A n c, glv p t, atv pi sh x y k] w fun e w' => e = .returned (.bool false) ∧ Gr w w' := by
  have H1 := hide HP
  have hE1 : (E != 0) = true := by simpa using hE
  clear HP
  go_enter Tryz.func27, Tryz.ntmps27
  go_wp2_with fail
  refine (H1.out _ (by repeat (first | with_reducible exact Gr.refl _ | with_reducible assumption | with_reducible refine Gr.alloc ?_ _ | with_reducible refine Gr.drewN ?_ _ | with_reducible refine Gr.drew ?_ | with_reducible refine Gr.setCell ?_ (by first | (dsimp only; omega) | (simp only [World.size_alloc]; omega) | (with_reducible refine Gr.size ?_; (repeat (first | with_reducible exact Gr.refl _ | with_reducible assumption | with_reducible refine Gr.alloc ?_ _ | with_reducible refine Gr.drewN ?_ _ | with_reducible refine Gr.drew ?_ | with_reducible refine Gr.trans ?_ (by with_reducible assumption))); done)) _ | with_reducible refine Gr.trans ?_ (by with_reducible assumption)))).mono ?_
  rintro e w1 ⟨rfl, g1⟩
  have gw1 : Gr w w1 := Gr.trans (by repeat (first | with_reducible exact Gr.refl _ | with_reducible assumption | with_reducible refine Gr.alloc ?_ _ | with_reducible refine Gr.drewN ?_ _ | with_reducible refine Gr.drew ?_ | with_reducible refine Gr.setCell ?_ (by first | (dsimp only; omega) | (simp only [World.size_alloc]; omega) | (with_reducible refine Gr.size ?_; (repeat (first | with_reducible exact Gr.refl _ | with_reducible assumption | with_reducible refine Gr.alloc ?_ _ | with_reducible refine Gr.drewN ?_ _ | with_reducible refine Gr.drew ?_ | with_reducible refine Gr.trans ?_ (by with_reducible assumption))); done)) _ | with_reducible refine Gr.trans ?_ (by with_reducible assumption))) g1
  go_wp2_with fail
  go_ret
  exact ⟨rfl, (by repeat (first | with_reducible exact Gr.refl _ | with_reducible assumption | with_reducible refine Gr.alloc ?_ _ | with_reducible refine Gr.drewN ?_ _ | with_reducible refine Gr.drew ?_ | with_reducible refine Gr.setCell ?_ (by first | (dsimp only; omega) | (simp only [World.size_alloc]; omega) | (with_reducible refine Gr.size ?_; (repeat (first | with_reducible exact Gr.refl _ | with_reducible assumption | with_reducible refine Gr.alloc ?_ _ | with_reducible refine Gr.drewN ?_ _ | with_reducible refine Gr.drew ?_ | with_reducible refine Gr.trans ?_ (by with_reducible assumption))); done)) _ | with_reducible refine Gr.trans ?_ (by with_reducible assumption)))⟩
theorem ls_no1 {s : ShT} {t : St} {M : List Rc} {L : List RS} {i : Nat} {r : Rc} (h : M[i]? = some r) (q : rcW s t.m r = false) : lsM s t M L = false := by
  unfold lsM
  rw [alls_no h q, Bool.false_and]
theorem ls_no2 {s : ShT} {t : St} {M : List Rc} {L : List RS} {i : Nat} {z : RS} (h : L[i]? = some z) (q : npB (ucB t) M z.l = true) : lsM s t M L = false := by
  unfold lsM
  rw [alls_no (p := fun z => !npB (ucB t) M z.l) h (by rw [q]; rfl), Bool.and_false]
theorem ls_yes {s : ShT} {t : St} {M : List Rc} {L : List RS} (h : ∀ (i : Nat) (r : Rc), i < M.length → M[i]? = some r → rcW s t.m r = true) (k : ∀ (i : Nat) (z : RS), i < L.length → L[i]? = some z → npB (ucB t) M z.l = false) : lsM s t M L = true := by
  unfold lsM
  have e : (L.all fun z => !npB (ucB t) M z.l) = true := alls_yes (fun j z hj hz => by rw [k j z hj hz]; rfl)
  rw [alls_yes h, e]
  rfl
theorem rcW_1 {s : ShT} {m : Int} {r : Rc} (h : isR r (inmR s.wd s.ht m) = false) : rcW s m r = false := by unfold rcW; rw [h]; rfl
theorem rcW_2 {s : ShT} {m : Int} {r : Rc} {j : Nat} {o : Rc} (h : s.cl[j]? = some o) (q : ovQ r o = true) : rcW s m r = false := by
  unfold rcW
  rw [any_ye h q]
  simp
theorem rcW_3 {s : ShT} {m : Int} {r : Rc} {j : Nat} {o : Rc} (h : s.us[j]? = some o) (q : ovQ r o = true) : rcW s m r = false := by
  unfold rcW
  rw [any_ye h q]
  simp
theorem rcW_y {s : ShT} {m : Int} {r : Rc} (h : isR r (inmR s.wd s.ht m) = true) (k : ∀ (j : Nat) (o : Rc), j < s.cl.length → s.cl[j]? = some o → ovQ r o = false) (l : ∀ (j : Nat) (o : Rc), j < s.us.length → s.us[j]? = some o → ovQ r o = false) : rcW s m r = true := by
  unfold rcW
  rw [h, any_nn k, any_nn l]
  rfl
set_option maxHeartbeats 8000000 in
set_option maxRecDepth 100000 in
theorem lies_ok (s : ShT) (A : Option Addr) (c : Nat) (L : List RS) (p : Pc) (t : St) (pi sh x y k : Int) (M1 M2 M3 : List Rc) (w : World) (hs : ShW w s) (hT : SlRR w A c L) (hS : ShG s) (hm : 0 ≤ t.m ∧ t.m ≤ 14400)
    (HP : ∀ w', Gr w w' → Calls Tryz.prog 17 #[p.v, atv pi sh x y k] w' fun e w'' => PutOk p.nm p.mt p.ga p.gr M1 M2 M3 w' w'' e) :
    Calls Tryz.prog 27 #[s.v, .slice A L.length c, glv p t, atv pi sh x y k] w fun e w' => e = .returned (.bool (alB p.mt s.mt p.ga s.ga p.gr s.gr k && lsM s t M1 L)) ∧ Gr w w' := by
  have H1 := hide HP
  have HS := hide hs
  have HT := hide hT
  have HA := hide (fun w' => Allowed_any p.nm p.mt p.ga p.gr (.slice p.rA p.r.length p.rc) (.slice p.cA p.c.length p.cc) (.slice p.fA p.f.length p.fc) s.nm s.mt s.ga s.gr (iv s.wd) (iv s.ht) (.slice s.cA s.cl.length s.cc) (.slice s.uA s.us.length s.uc) k w')
  obtain ⟨hm0, hm1⟩ := hm
  obtain ⟨⟨hw0, hw1⟩, ⟨hh0, hh1⟩, _, _⟩ := hS
  obtain ⟨g, m, cm⟩ := t
  dsimp only at hm0 hm1
  have W1 : IntKind.i64.wrap (2 * m) = 2 * m := IntWalk.i64_in _ (by omega)
  have W2 : IntKind.i64.wrap (s.wd - 2 * m) = s.wd - 2 * m := IntWalk.i64_in _ (by omega)
  have W3 : IntKind.i64.wrap (s.ht - 2 * m) = s.ht - 2 * m := IntWalk.i64_in _ (by omega)
  clear hs hT HP
  go_enter Tryz.func27, Tryz.ntmps27
  go_wp2_with fail
  have MS := hide ((Made.new w #[.string s.nm, .string s.mt, iv s.ga, iv s.gr, iv s.wd, iv s.ht, .slice s.cA s.cl.length s.cc, .slice s.uA s.us.length s.uc] 24).gr (show Gr _ (((w.alloc (.cells #[.string s.nm, .string s.mt, iv s.ga, iv s.gr, iv s.wd, iv s.ht, .slice s.cA s.cl.length s.cc, .slice s.uA s.us.length s.uc] 24)).alloc (.cells #[.string p.nm, .string p.mt, iv p.ga, iv p.gr, .slice p.rA p.r.length p.rc, .slice p.cA p.c.length p.cc, .slice p.fA p.f.length p.fc, iv g, iv m, .bool cm] 56)).alloc (.cells #[iv pi, iv sh, iv x, iv y, iv k] 36)) from Gr.alloc (Gr.alloc (Gr.refl _) _) _))
  have MG := (Made.new (w.alloc (.cells #[.string s.nm, .string s.mt, iv s.ga, iv s.gr, iv s.wd, iv s.ht, .slice s.cA s.cl.length s.cc, .slice s.uA s.us.length s.uc] 24)) #[.string p.nm, .string p.mt, iv p.ga, iv p.gr, .slice p.rA p.r.length p.rc, .slice p.cA p.c.length p.cc, .slice p.fA p.f.length p.fc, iv g, iv m, .bool cm] 56).gr (show Gr _ (((w.alloc (.cells #[.string s.nm, .string s.mt, iv s.ga, iv s.gr, iv s.wd, iv s.ht, .slice s.cA s.cl.length s.cc, .slice s.uA s.us.length s.uc] 24)).alloc (.cells #[.string p.nm, .string p.mt, iv p.ga, iv p.gr, .slice p.rA p.r.length p.rc, .slice p.cA p.c.length p.cc, .slice p.fA p.f.length p.fc, iv g, iv m, .bool cm] 56)).alloc (.cells #[iv pi, iv sh, iv x, iv y, iv k] 36)) from Gr.alloc (Gr.refl _) _)
  have MA := Made.new ((w.alloc (.cells #[.string s.nm, .string s.mt, iv s.ga, iv s.gr, iv s.wd, iv s.ht, .slice s.cA s.cl.length s.cc, .slice s.uA s.us.length s.uc] 24)).alloc (.cells #[.string p.nm, .string p.mt, iv p.ga, iv p.gr, .slice p.rA p.r.length p.rc, .slice p.cA p.c.length p.cc, .slice p.fA p.f.length p.fc, iv g, iv m, .bool cm] 56)) #[iv pi, iv sh, iv x, iv y, iv k] 36
  have g0 : Gr w (((w.alloc (.cells #[.string s.nm, .string s.mt, iv s.ga, iv s.gr, iv s.wd, iv s.ht, .slice s.cA s.cl.length s.cc, .slice s.uA s.us.length s.uc] 24)).alloc (.cells #[.string p.nm, .string p.mt, iv p.ga, iv p.gr, .slice p.rA p.r.length p.rc, .slice p.cA p.c.length p.cc, .slice p.fA p.f.length p.fc, iv g, iv m, .bool cm] 56)).alloc (.cells #[iv pi, iv sh, iv x, iv y, iv k] 36)) := Gr.alloc (Gr.alloc (Gr.alloc (Gr.refl _) _) _) _
  rw [World.size_alloc] at MG
  rw [World.size_alloc, World.size_alloc] at MA
  have MG := hide MG
  have MA := hide MA
  generalize ((w.alloc (.cells #[.string s.nm, .string s.mt, iv s.ga, iv s.gr, iv s.wd, iv s.ht, .slice s.cA s.cl.length s.cc, .slice s.uA s.us.length s.uc] 24)).alloc (.cells #[.string p.nm, .string p.mt, iv p.ga, iv p.gr, .slice p.rA p.r.length p.rc, .slice p.cA p.c.length p.cc, .slice p.fA p.f.length p.fc, iv g, iv m, .bool cm] 56)).alloc (.cells #[iv pi, iv sh, iv x, iv y, iv k] 36) = w0 at *
  generalize w.heap.size + 1 + 1 = b7 at *
  generalize w.heap.size + 1 = b6 at *
  generalize w.heap.size = b4 at *
  refine (H1.out _ g0).mono ?_
  rintro e w1 ⟨D1, D2, D3, q1, q2, q3, rfl, ⟨s1, _, _⟩, _, g1⟩
  obtain ⟨e4, q4, _⟩ := MS.out.gr g1
  have a40 := q4 0
  have a41 := q4 1
  have a42 := q4 2
  have a43 := q4 3
  have a44 := q4 4
  have a45 := q4 5
  have a46 := q4 6
  have a47 := q4 7
  clear q4
  obtain ⟨e6, q6, _⟩ := MG.out.gr g1
  have a60 := q6 0
  have a61 := q6 1
  have a62 := q6 2
  have a63 := q6 3
  have a64 := q6 4
  have a65 := q6 5
  have a66 := q6 6
  have a67 := q6 7
  have a68 := q6 8
  have a69 := q6 9
  clear q6
  obtain ⟨e7, q7, _⟩ := MA.out.gr g1
  have a74 := q7 4
  clear q7
  have HM := hide s1
  clear s1
  go_wp2_with fail
  cases hal : alB p.mt s.mt p.ga s.ga p.gr s.gr k with
  | false =>
    rw [hal] at HA
    have HE := hide (show (alB p.mt s.mt p.ga s.ga p.gr s.gr k && lsM s ⟨g, m, cm⟩ M1 L) = false by rw [hal, Bool.false_and])
    clear hal
    refine (HA.out _).mono ?_
    rintro e w3 ⟨rfl, g3⟩
    have gw3 : Gr w w3 := (g0.trans g1).trans (Gr.trans (by repeat (first | with_reducible exact Gr.refl _ | with_reducible assumption | with_reducible refine Gr.alloc ?_ _ | with_reducible refine Gr.drewN ?_ _ | with_reducible refine Gr.drew ?_ | with_reducible refine Gr.setCell ?_ (by first | (dsimp only; omega) | (simp only [World.size_alloc]; omega) | (with_reducible refine Gr.size ?_; (repeat (first | with_reducible exact Gr.refl _ | with_reducible assumption | with_reducible refine Gr.alloc ?_ _ | with_reducible refine Gr.drewN ?_ _ | with_reducible refine Gr.drew ?_ | with_reducible refine Gr.trans ?_ (by with_reducible assumption))); done)) _ | with_reducible refine Gr.trans ?_ (by with_reducible assumption))) g3)
    go_wp2
    go_ret
    exact ⟨ret_bool HE.out.symm, (by repeat (first | with_reducible exact Gr.refl _ | with_reducible assumption | with_reducible refine Gr.alloc ?_ _ | with_reducible refine Gr.drewN ?_ _ | with_reducible refine Gr.drew ?_ | with_reducible refine Gr.setCell ?_ (by first | (dsimp only; omega) | (simp only [World.size_alloc]; omega) | (with_reducible refine Gr.size ?_; (repeat (first | with_reducible exact Gr.refl _ | with_reducible assumption | with_reducible refine Gr.alloc ?_ _ | with_reducible refine Gr.drewN ?_ _ | with_reducible refine Gr.drew ?_ | with_reducible refine Gr.trans ?_ (by with_reducible assumption))); done)) _ | with_reducible refine Gr.trans ?_ (by with_reducible assumption)))⟩
  | true =>
    rw [hal] at HA
    refine (HA.out _).mono ?_
    rintro e w3 ⟨rfl, g3⟩
    have M9 := hide ((Made.new w1 #[.string p.nm, .string p.mt, iv p.ga, iv p.gr, .slice D1 M1.length q1, .slice D2 M2.length q2, .slice D3 M3.length q3] 26).gr g3)
    have g13 : Gr w1 w3 := Gr.trans (Gr.alloc (Gr.refl _) _) g3
    have gw3 : Gr w w3 := (g0.trans g1).trans g13
    have HM3 := hide (HM.out.gr g13)
    have MS3 := hide (MS.out.gr (g1.trans g13))
    have MG3 := hide (MG.out.gr (g1.trans g13))
    have HS3 := hide (HS.out.gr gw3)
    have HT3 := hide (HT.out.gr gw3)
    have HN1 := hide (show ∀ (i : Nat) (r : Rc), M1[i]? = some r → rcW s m r = false → (alB p.mt s.mt p.ga s.ga p.gr s.gr k && lsM s ⟨g, m, cm⟩ M1 L) = false from fun i r h q => by rw [hal, Bool.true_and]; exact ls_no1 (t := ⟨g, m, cm⟩) (L := L) h q)
    have HN2 := hide (show ∀ (i : Nat) (z : RS), L[i]? = some z → npB (ucB ⟨g, m, cm⟩) M1 z.l = true → (alB p.mt s.mt p.ga s.ga p.gr s.gr k && lsM s ⟨g, m, cm⟩ M1 L) = false from fun i z h q => by rw [hal, Bool.true_and]; exact ls_no2 (s := s) (t := ⟨g, m, cm⟩) (M := M1) h q)
    have HNY := hide (show (∀ (i : Nat) (r : Rc), i < M1.length → M1[i]? = some r → rcW s m r = true) → (∀ (i : Nat) (z : RS), i < L.length → L[i]? = some z → npB (ucB ⟨g, m, cm⟩) M1 z.l = false) → (alB p.mt s.mt p.ga s.ga p.gr s.gr k && lsM s ⟨g, m, cm⟩ M1 L) = true from fun h k => by rw [hal, Bool.true_and]; exact ls_yes (t := ⟨g, m, cm⟩) (L := L) h k)
    clear HM MS MG HS HT H1 HA MA a40 a41 a42 a43 a44 a45 a46 a47 a60 a61 a62 a63 a64 a65 a66 a67 a69 a74 e4 e7 hal
    generalize w1.heap.size = b9 at *
    obtain ⟨e6, q6, _⟩ := MG3.out
    have a68 := q6 8
    clear q6
    have n1 := HM3.out.cap
    have n2 := HM3.out.capB
    have n3 := HS3.out.c.cap
    have n4 := HS3.out.c.capB
    have n5 := HS3.out.u.cap
    have n6 := HS3.out.u.capB
    have n7 := HT3.out.cap
    have n8 := HT3.out.capB
    go_wp2_with fail
    go_loopw [12] (fun i wr => ∃ j : Nat, j ≤ M1.length ∧ i = iv j ∧ Gr w3 wr ∧ Hid (∀ (i : Nat) (r : Rc), i < j → M1[i]? = some r → rcW s m r = true)) (fun i _ => M1.length - (intOf i).toNat)
    case atStart => exact ⟨0, by omega, rfl, Gr.refl _, hide (fun j r h => absurd h (Nat.not_lt_zero j))⟩
    case round =>
      obtain ⟨j, hj, rfl, gw, HR⟩ := hrel
      obtain ⟨e9, q9, _⟩ := M9.out.gr gw
      have a94 := q9 4
      clear q9
      obtain ⟨e4, q4, _⟩ := MS3.out.gr gw
      have a44 := q4 4
      have a45 := q4 5
      have a46 := q4 6
      have a47 := q4 7
      clear q4
      by_cases hjl : j < M1.length
      · obtain ⟨r, hr⟩ : ∃ r, M1[j]? = some r := ⟨_, List.getElem?_eq_getElem hjl⟩
        obtain ⟨b, o, hA, x0, x1, x2, x3⟩ := (HM3.out.gr gw).at_ hr
        subst hA
        have hbl : b < wr.heap.size := cell_lt (by rw [x0]; rfl)
        have HI := hide (fun w' => Inside_any r.x r.y r.w r.h m m (s.wd - 2 * m) (s.ht - 2 * m) w')
        rw [show isB r.x r.y r.w r.h m m (s.wd - 2 * m) (s.ht - 2 * m) = isR r (inmR s.wd s.ht m) from rfl] at HI
        have HRR := hide hr
        have hj0 : (0 : Int) ≤ (j : Int) := by omega
        have hj1 : (j : Int) < (M1.length : Int) := by omega
        clear hr
        cases hin : isR r (inmR s.wd s.ht m) with
        | false =>
          have HE := hide (HN1.out j r HRR.out (rcW_1 hin))
          rw [hin] at HI
          clear hin
          go_upto_region 8 with fail
          have GC := @GrW.cell
          refine wp_region_grw _ (by kernel_rfl) (by kernel_rfl) (Gr.refl _) ?_
          repeat (go_big_quiet_step ((first | (go_at_call 67; exact quiet_grw (HI.out _)))))
          refine wpQuiet_nil ?_
          intro wq hwq
          obtain ⟨gq, hwq'⟩ := hwq
          subst hwq'
          clear GC
          have gq1 := gq.gr
          generalize gq.w = wq at gq1 ⊢
          obtain ⟨Xq, Yq, cq, fq⟩ := gq1.use
          have sq := gq1.size
          (try simp only [World.size_alloc, World.size_setCell, World.heap_drewN] at sq)
          go_wp2
          go_ret
          exact ⟨ret_bool HE.out.symm, (by repeat (first | with_reducible exact Gr.refl _ | with_reducible assumption | with_reducible refine Gr.alloc ?_ _ | with_reducible refine Gr.drewN ?_ _ | with_reducible refine Gr.drew ?_ | with_reducible refine Gr.setCell ?_ (by first | (dsimp only; omega) | (simp only [World.size_alloc]; omega) | (with_reducible refine Gr.size ?_; (repeat (first | with_reducible exact Gr.refl _ | with_reducible assumption | with_reducible refine Gr.alloc ?_ _ | with_reducible refine Gr.drewN ?_ _ | with_reducible refine Gr.drew ?_ | with_reducible refine Gr.trans ?_ (by with_reducible assumption))); done)) _ | with_reducible refine Gr.trans ?_ (by with_reducible assumption)))⟩
        | true =>
          have HIN := hide hin
          rw [hin] at HI
          clear hin
          go_upto_region 8 with fail
          have GC := @GrW.cell
          refine wp_region_grw _ (by kernel_rfl) (by kernel_rfl) (Gr.refl _) ?_
          repeat (go_big_quiet_step ((first | (go_at_call 67; exact quiet_grw (HI.out _)))))
          refine wpQuiet_nil ?_
          intro wq hwq
          obtain ⟨gq, hwq'⟩ := hwq
          subst hwq'
          clear GC
          have gq1 := gq.gr
          generalize gq.w = wq at gq1 ⊢
          obtain ⟨Xq, Yq, cq, fq⟩ := gq1.use
          have sq := gq1.size
          (try simp only [World.size_alloc, World.size_setCell, World.heap_drewN] at sq)
          clear x0 x1 x2 x3 a94 a44 a45 a46 a47 e9 e4 hbl cq fq
          obtain ⟨wo, hwo⟩ : ∃ x, x = wq := ⟨_, rfl⟩
          have go : Gr w3 wq := gw.trans gq1
          go_wp2_with fail
          clear gq1 sq
          subst hwo
          go_loopw [13] (fun i wr2 => ∃ n : Nat, n ≤ s.cl.length ∧ i = iv n ∧ Gr wo wr2 ∧ Hid (∀ (i : Nat) (u : Rc), i < n → s.cl[i]? = some u → ovQ r u = false)) (fun i _ => s.cl.length - (intOf i).toNat)
          case atStart => exact ⟨0, by omega, rfl, Gr.refl _, hide (fun j r h => absurd h (Nat.not_lt_zero j))⟩
          case round =>
            obtain ⟨n, hn, rfl, g2, HC⟩ := hrel
            have gg := go.trans g2
            obtain ⟨e9, q9, _⟩ := M9.out.gr gg
            have a94 := q9 4
            clear q9
            obtain ⟨e4, q4, _⟩ := MS3.out.gr gg
            have a46 := q4 6
            have a47 := q4 7
            clear q4
            by_cases hnl : n < s.cl.length
            · obtain ⟨u, hu⟩ : ∃ u, s.cl[n]? = some u := ⟨_, List.getElem?_eq_getElem hnl⟩
              obtain ⟨b', o', hA', y0, y1, y2, y3⟩ := (HS3.out.c.gr gg).at_ hu
              obtain ⟨b2, o2, hA2, x0, x1, x2, x3⟩ := (HM3.out.gr gg).at_ HRR.out
              cases hA2
              have hAU := hide hA'
              rw [hA'] at a46
              have hbl : b < wr.heap.size := cell_lt (by rw [x0]; rfl)
              have hbl' : b' < wr.heap.size := cell_lt (by rw [y0]; rfl)
              have HO := hide (fun w' => Overlap_any r.x r.y r.w r.h u.x u.y u.w u.h w')
              rw [show ovB r.x r.y r.w r.h u.x u.y u.w u.h = ovQ r u from rfl] at HO
              have HU := hide hu
              have hn0 : (0 : Int) ≤ (n : Int) := by omega
              have hn1 : (n : Int) < (s.cl.length : Int) := by omega
              clear hu hA'
              cases hov : ovQ r u with
              | true =>
                have HE := hide (HN1.out j r HRR.out (rcW_2 HU.out hov))
                rw [hov] at HO
                clear hov
                go_upto_region 13 with fail
                have GC := @GrW.cell
                refine wp_region_grw _ (by kernel_rfl) (by kernel_rfl) (Gr.refl _) ?_
                repeat (go_big_quiet_step ((first | (go_at_call 39; exact quiet_grw (HO.out _)))))
                refine wpQuiet_nil ?_
                intro wq hwq
                obtain ⟨gq, hwq'⟩ := hwq
                subst hwq'
                clear GC
                have gq1 := gq.gr
                generalize gq.w = wq at gq1 ⊢
                obtain ⟨Xq, Yq, cq, fq⟩ := gq1.use
                have sq := gq1.size
                (try simp only [World.size_alloc, World.size_setCell, World.heap_drewN] at sq)
                go_wp2
                go_ret
                exact ⟨ret_bool HE.out.symm, (by repeat (first | with_reducible exact Gr.refl _ | with_reducible assumption | with_reducible refine Gr.alloc ?_ _ | with_reducible refine Gr.drewN ?_ _ | with_reducible refine Gr.drew ?_ | with_reducible refine Gr.setCell ?_ (by first | (dsimp only; omega) | (simp only [World.size_alloc]; omega) | (with_reducible refine Gr.size ?_; (repeat (first | with_reducible exact Gr.refl _ | with_reducible assumption | with_reducible refine Gr.alloc ?_ _ | with_reducible refine Gr.drewN ?_ _ | with_reducible refine Gr.drew ?_ | with_reducible refine Gr.trans ?_ (by with_reducible assumption))); done)) _ | with_reducible refine Gr.trans ?_ (by with_reducible assumption)))⟩
              | false =>
                have HC' := hide (show ∀ (i : Nat) (v : Rc), i < n + 1 → s.cl[i]? = some v → ovQ r v = false by
                  intro i v hi hv
                  rcases Nat.lt_or_ge i n with h | h
                  · exact HC.out i v h hv
                  · obtain rfl : i = n := by omega
                    rw [HU.out] at hv
                    obtain rfl := Option.some.inj hv
                    exact hov)
                rw [hov] at HO
                clear hov
                go_upto_region 13 with fail
                have GC := @GrW.cell
                refine wp_region_grw _ (by kernel_rfl) (by kernel_rfl) (Gr.refl _) ?_
                repeat (go_big_quiet_step ((first | (go_at_call 39; exact quiet_grw (HO.out _)))))
                refine wpQuiet_nil ?_
                intro wq hwq
                obtain ⟨gq, hwq'⟩ := hwq
                subst hwq'
                clear GC
                have gq1 := gq.gr
                generalize gq.w = wq at gq1 ⊢
                obtain ⟨Xq, Yq, cq, fq⟩ := gq1.use
                have sq := gq1.size
                (try simp only [World.size_alloc, World.size_setCell, World.heap_drewN] at sq)
                go_wp2
                go_roundw
                case rel => exact ⟨n + 1, by omega, by go_num, (by repeat (first | with_reducible exact Gr.refl _ | with_reducible assumption | with_reducible refine Gr.alloc ?_ _ | with_reducible refine Gr.drewN ?_ _ | with_reducible refine Gr.drew ?_ | with_reducible refine Gr.setCell ?_ (by first | (dsimp only; omega) | (simp only [World.size_alloc]; omega) | (with_reducible refine Gr.size ?_; (repeat (first | with_reducible exact Gr.refl _ | with_reducible assumption | with_reducible refine Gr.alloc ?_ _ | with_reducible refine Gr.drewN ?_ _ | with_reducible refine Gr.drew ?_ | with_reducible refine Gr.trans ?_ (by with_reducible assumption))); done)) _ | with_reducible refine Gr.trans ?_ (by with_reducible assumption))), HC'⟩
                case measure => simp only [intOf]; omega
            · obtain rfl : n = s.cl.length := by omega
              go_wp2
              obtain ⟨wp, hwp⟩ : ∃ x, x = wr := ⟨_, rfl⟩
              subst hwp
              clear e9 a94 e4 a46 a47
              go_loopw [14] (fun i wr2 => ∃ n : Nat, n ≤ s.us.length ∧ i = iv n ∧ Gr wp wr2 ∧ Hid (∀ (i : Nat) (u : Rc), i < n → s.us[i]? = some u → ovQ r u = false)) (fun i _ => s.us.length - (intOf i).toNat)
              case atStart => exact ⟨0, by omega, rfl, Gr.refl _, hide (fun j r h => absurd h (Nat.not_lt_zero j))⟩
              case round =>
                obtain ⟨n, hn, rfl, g3, HD⟩ := hrel
                have gg2 := gg.trans g3
                obtain ⟨e9, q9, _⟩ := M9.out.gr gg2
                have a94 := q9 4
                clear q9
                obtain ⟨e4, q4, _⟩ := MS3.out.gr gg2
                have a46 := q4 6
                have a47 := q4 7
                clear q4
                by_cases hnl : n < s.us.length
                · obtain ⟨u, hu⟩ : ∃ u, s.us[n]? = some u := ⟨_, List.getElem?_eq_getElem hnl⟩
                  obtain ⟨b', o', hA', y0, y1, y2, y3⟩ := (HS3.out.u.gr gg2).at_ hu
                  obtain ⟨b2, o2, hA2, x0, x1, x2, x3⟩ := (HM3.out.gr gg2).at_ HRR.out
                  cases hA2
                  rw [hA'] at a47
                  have hbl : b < wr.heap.size := cell_lt (by rw [x0]; rfl)
                  have hbl' : b' < wr.heap.size := cell_lt (by rw [y0]; rfl)
                  have HO := hide (fun w' => Overlap_any r.x r.y r.w r.h u.x u.y u.w u.h w')
                  rw [show ovB r.x r.y r.w r.h u.x u.y u.w u.h = ovQ r u from rfl] at HO
                  have HU := hide hu
                  have hn0 : (0 : Int) ≤ (n : Int) := by omega
                  have hn1 : (n : Int) < (s.us.length : Int) := by omega
                  clear hu hA'
                  cases hov : ovQ r u with
                  | true =>
                    have HE := hide (HN1.out j r HRR.out (rcW_3 HU.out hov))
                    rw [hov] at HO
                    clear hov
                    go_upto_region 18 with fail
                    have GC := @GrW.cell
                    refine wp_region_grw _ (by kernel_rfl) (by kernel_rfl) (Gr.refl _) ?_
                    repeat (go_big_quiet_step ((first | (go_at_call 39; exact quiet_grw (HO.out _)))))
                    refine wpQuiet_nil ?_
                    intro wq hwq
                    obtain ⟨gq, hwq'⟩ := hwq
                    subst hwq'
                    clear GC
                    have gq1 := gq.gr
                    generalize gq.w = wq at gq1 ⊢
                    obtain ⟨Xq, Yq, cq, fq⟩ := gq1.use
                    have sq := gq1.size
                    (try simp only [World.size_alloc, World.size_setCell, World.heap_drewN] at sq)
                    go_wp2
                    go_ret
                    exact ⟨ret_bool HE.out.symm, (by repeat (first | with_reducible exact Gr.refl _ | with_reducible assumption | with_reducible refine Gr.alloc ?_ _ | with_reducible refine Gr.drewN ?_ _ | with_reducible refine Gr.drew ?_ | with_reducible refine Gr.setCell ?_ (by first | (dsimp only; omega) | (simp only [World.size_alloc]; omega) | (with_reducible refine Gr.size ?_; (repeat (first | with_reducible exact Gr.refl _ | with_reducible assumption | with_reducible refine Gr.alloc ?_ _ | with_reducible refine Gr.drewN ?_ _ | with_reducible refine Gr.drew ?_ | with_reducible refine Gr.trans ?_ (by with_reducible assumption))); done)) _ | with_reducible refine Gr.trans ?_ (by with_reducible assumption)))⟩
                  | false =>
                    have HD' := hide (show ∀ (i : Nat) (v : Rc), i < n + 1 → s.us[i]? = some v → ovQ r v = false by
                      intro i v hi hv
                      rcases Nat.lt_or_ge i n with h | h
                      · exact HD.out i v h hv
                      · obtain rfl : i = n := by omega
                        rw [HU.out] at hv
                        obtain rfl := Option.some.inj hv
                        exact hov)
                    rw [hov] at HO
                    clear hov
                    go_upto_region 18 with fail
                    have GC := @GrW.cell
                    refine wp_region_grw _ (by kernel_rfl) (by kernel_rfl) (Gr.refl _) ?_
                    repeat (go_big_quiet_step ((first | (go_at_call 39; exact quiet_grw (HO.out _)))))
                    refine wpQuiet_nil ?_
                    intro wq hwq
                    obtain ⟨gq, hwq'⟩ := hwq
                    subst hwq'
                    clear GC
                    have gq1 := gq.gr
                    generalize gq.w = wq at gq1 ⊢
                    obtain ⟨Xq, Yq, cq, fq⟩ := gq1.use
                    have sq := gq1.size
                    (try simp only [World.size_alloc, World.size_setCell, World.heap_drewN] at sq)
                    go_wp2
                    go_roundw
                    case rel => exact ⟨n + 1, by omega, by go_num, (by repeat (first | with_reducible exact Gr.refl _ | with_reducible assumption | with_reducible refine Gr.alloc ?_ _ | with_reducible refine Gr.drewN ?_ _ | with_reducible refine Gr.drew ?_ | with_reducible refine Gr.setCell ?_ (by first | (dsimp only; omega) | (simp only [World.size_alloc]; omega) | (with_reducible refine Gr.size ?_; (repeat (first | with_reducible exact Gr.refl _ | with_reducible assumption | with_reducible refine Gr.alloc ?_ _ | with_reducible refine Gr.drewN ?_ _ | with_reducible refine Gr.drew ?_ | with_reducible refine Gr.trans ?_ (by with_reducible assumption))); done)) _ | with_reducible refine Gr.trans ?_ (by with_reducible assumption))), HD'⟩
                    case measure => simp only [intOf]; omega
                · obtain rfl : n = s.us.length := by omega
                  have HR' := hide (show ∀ (i : Nat) (v : Rc), i < j + 1 → M1[i]? = some v → rcW s m v = true by
                    intro i v hi hv
                    rcases Nat.lt_or_ge i j with h | h
                    · exact HR.out i v h hv
                    · obtain rfl : i = j := by omega
                      rw [HRR.out] at hv
                      obtain rfl := Option.some.inj hv
                      exact rcW_y HIN.out (fun q o _ ho => HC.out q o (List.getElem?_eq_some_iff.1 ho).1 ho) (fun q o _ ho => HD.out q o (List.getElem?_eq_some_iff.1 ho).1 ho))
                  go_wp2
                  go_roundw
                  case rel => exact ⟨j + 1, by omega, by go_num, gg2, HR'⟩
                  case measure => simp only [intOf]; omega
      · obtain rfl : j = M1.length := by omega
        go_wp2
        obtain ⟨wo, hwo⟩ : ∃ x, x = wr := ⟨_, rfl⟩
        subst hwo
        clear e9 a94 e4 a44 a45 a46 a47
        go_loopw [15] (fun i wr2 => ∃ n : Nat, n ≤ L.length ∧ i = iv n ∧ Gr wo wr2 ∧ Hid (∀ (i : Nat) (z : RS), i < n → L[i]? = some z → npB (ucB ⟨g, m, cm⟩) M1 z.l = false)) (fun i _ => L.length - (intOf i).toNat)
        case atStart => exact ⟨0, by omega, rfl, Gr.refl _, hide (fun j r h => absurd h (Nat.not_lt_zero j))⟩
        case round =>
          obtain ⟨n, hn, rfl, g2, HC⟩ := hrel
          have gg := gw.trans g2
          obtain ⟨e9, q9, _⟩ := M9.out.gr gg
          have a94 := q9 4
          clear q9
          obtain ⟨e6', q6, _⟩ := MG3.out.gr gg
          have a67 := q6 7
          have a68 := q6 8
          have a69 := q6 9
          clear q6
          by_cases hnl : n < L.length
          · obtain ⟨ZA, zc, zl, hz⟩ : ∃ ZA zc zl, L[n]? = some ⟨ZA, zc, zl⟩ := ⟨_, _, _, List.getElem?_eq_getElem hnl⟩
            obtain ⟨b', o', hA', y0, hzl⟩ := (HT3.out.gr gg).at_ hz
            subst hA'
            have hbl' : b' < wr.heap.size := cell_lt (by rw [y0]; rfl)
            have HZ := hide hz
            have HZL := hide hzl
            have HCC := hide (fun (w' : World) (g' : Gr wr w') => Clear_any D1 q1 M1 ZA zc zl ⟨g, m, cm⟩ w' (HM3.out.gr (gg.trans g')) (HZL.out.gr g'))
            have hn0 : (0 : Int) ≤ (n : Int) := by omega
            have hn1 : (n : Int) < (L.length : Int) := by omega
            clear hz hzl
            dsimp only at y0
            cases hv : npB (ucB ⟨g, m, cm⟩) M1 zl with
            | true =>
              have HE := hide (HN2.out n _ HZ.out hv)
              rw [hv] at HCC
              clear hv
              go_upto_region 23 with fail
              have GC := @GrW.cell
              refine wp_region_grw _ (by kernel_rfl) (by kernel_rfl) (Gr.refl _) ?_
              repeat (go_big_quiet_step ((first | (go_at_call 22; exact quiet_grw (HCC.out _ (GrW.gr _))))))
              refine wpQuiet_nil ?_
              intro wq hwq
              obtain ⟨gq, hwq'⟩ := hwq
              subst hwq'
              clear GC
              have gq1 := gq.gr
              generalize gq.w = wq at gq1 ⊢
              obtain ⟨Xq, Yq, cq, fq⟩ := gq1.use
              have sq := gq1.size
              (try simp only [World.size_alloc, World.size_setCell, World.heap_drewN] at sq)
              go_wp2
              go_ret
              exact ⟨ret_bool HE.out.symm, (by repeat (first | with_reducible exact Gr.refl _ | with_reducible assumption | with_reducible refine Gr.alloc ?_ _ | with_reducible refine Gr.drewN ?_ _ | with_reducible refine Gr.drew ?_ | with_reducible refine Gr.setCell ?_ (by first | (dsimp only; omega) | (simp only [World.size_alloc]; omega) | (with_reducible refine Gr.size ?_; (repeat (first | with_reducible exact Gr.refl _ | with_reducible assumption | with_reducible refine Gr.alloc ?_ _ | with_reducible refine Gr.drewN ?_ _ | with_reducible refine Gr.drew ?_ | with_reducible refine Gr.trans ?_ (by with_reducible assumption))); done)) _ | with_reducible refine Gr.trans ?_ (by with_reducible assumption)))⟩
            | false =>
              have HC' := hide (show ∀ (i : Nat) (z : RS), i < n + 1 → L[i]? = some z → npB (ucB ⟨g, m, cm⟩) M1 z.l = false by
                intro i z hi hz
                rcases Nat.lt_or_ge i n with h | h
                · exact HC.out i z h hz
                · obtain rfl : i = n := by omega
                  rw [HZ.out] at hz
                  obtain rfl := Option.some.inj hz
                  exact hv)
              rw [hv] at HCC
              clear hv
              go_upto_region 23 with fail
              have GC := @GrW.cell
              refine wp_region_grw _ (by kernel_rfl) (by kernel_rfl) (Gr.refl _) ?_
              repeat (go_big_quiet_step ((first | (go_at_call 22; exact quiet_grw (HCC.out _ (GrW.gr _))))))
              refine wpQuiet_nil ?_
              intro wq hwq
              obtain ⟨gq, hwq'⟩ := hwq
              subst hwq'
              clear GC
              have gq1 := gq.gr
              generalize gq.w = wq at gq1 ⊢
              obtain ⟨Xq, Yq, cq, fq⟩ := gq1.use
              have sq := gq1.size
              (try simp only [World.size_alloc, World.size_setCell, World.heap_drewN] at sq)
              go_wp2
              go_roundw
              case rel => exact ⟨n + 1, by omega, by go_num, (by repeat (first | with_reducible exact Gr.refl _ | with_reducible assumption | with_reducible refine Gr.alloc ?_ _ | with_reducible refine Gr.drewN ?_ _ | with_reducible refine Gr.drew ?_ | with_reducible refine Gr.setCell ?_ (by first | (dsimp only; omega) | (simp only [World.size_alloc]; omega) | (with_reducible refine Gr.size ?_; (repeat (first | with_reducible exact Gr.refl _ | with_reducible assumption | with_reducible refine Gr.alloc ?_ _ | with_reducible refine Gr.drewN ?_ _ | with_reducible refine Gr.drew ?_ | with_reducible refine Gr.trans ?_ (by with_reducible assumption))); done)) _ | with_reducible refine Gr.trans ?_ (by with_reducible assumption))), HC'⟩
              case measure => simp only [intOf]; omega
          · obtain rfl : n = L.length := by omega
            have HE := hide (HNY.out HR.out HC.out)
            go_wp2
            go_ret
            exact ⟨ret_bool HE.out.symm, (by repeat (first | with_reducible exact Gr.refl _ | with_reducible assumption | with_reducible refine Gr.alloc ?_ _ | with_reducible refine Gr.drewN ?_ _ | with_reducible refine Gr.drew ?_ | with_reducible refine Gr.setCell ?_ (by first | (dsimp only; omega) | (simp only [World.size_alloc]; omega) | (with_reducible refine Gr.size ?_; (repeat (first | with_reducible exact Gr.refl _ | with_reducible assumption | with_reducible refine Gr.alloc ?_ _ | with_reducible refine Gr.drewN ?_ _ | with_reducible refine Gr.drew ?_ | with_reducible refine Gr.trans ?_ (by with_reducible assumption))); done)) _ | with_reducible refine Gr.trans ?_ (by with_reducible assumption)))⟩
end RG
end Go.Proofs.YtocbcbfniiioaaaGreat
set_option linter.unusedVariables false
set_option linter.unusedSimpArgs false
namespace Go.Proofs.YtocbcbfniiioaaaGreat
set_option linter.unusedVariables false
set_option linter.unusedSimpArgs false
open Go Go.ChangeShapes Go.WideShapes Go.ChangeAt Go.RowKit Go.Deep

namespace RG
abbrev whv (s : ShT) (A : Option Addr) (n c : Nat) : Value := .agg #[.string s.nm, .string s.mt, iv s.ga, iv s.gr, iv s.wd, iv s.ht, .slice s.cA s.cl.length s.cc, .slice s.uA s.us.length s.uc, .slice A n c]
theorem c7Rr : Tryz.prog.cellsOf 22 = 1 := by kernel_rfl
theorem c7Sl : Tryz.prog.cellsOf 52 = 1 := by kernel_rfl
theorem c7Wh : Tryz.prog.cellsOf 54 = 9 := by kernel_rfl
theorem c7Go : Tryz.prog.cellsOf 56 = 10 := by kernel_rfl
section
variable {H : Type} {enc : TypeId × Value → H} {W : World}
theorem o7_rrl {n : Nat} {cs : List Value} {x : DataW H × List MemPlace} (h : DataW.trod enc Tryz.prog W 0 (fun _ => true) true n 52 cs = some x) : ∃ (A : Option Addr) (c : Nat) (L : List RS), cs = [.slice A L.length c] ∧ SlRR W A c L := by
  obtain ⟨A, c, l, e, h1, h2, h3, h4⟩ := open_list (c := rsL) (Ok := fun y : RS => SlR W y.A y.c y.l) Tryz.underlying52 c7Rr (by decide) (fun {n cs x} hx => by
    obtain ⟨A, c, l, e, hl⟩ := o6_rl hx
    exact ⟨⟨A, c, l⟩, e, hl⟩) (fun _ => rfl) h
  exact ⟨A, c, l, e, h1, h2, h3, by unfold maxLen at h4; omega⟩
set_option maxRecDepth 100000 in
theorem o7_where {base : Nat} {v : Value} {d : DataW H} {ps : List MemPlace} (hv : Value.okWide Tryz.prog W .any base 54 v) (hd : DataW.Trod enc Tryz.prog W 0 (fun _ => true) true 54 v d ps) :
    ∃ (s : ShT) (A : Option Addr) (c : Nat) (L : List RS), v = whv s A L.length c ∧ ShW W s ∧ SlRR W A c L := by
  obtain ⟨cs, rfl, _⟩ := okWide_struct Tryz.underlying54 hv
  obtain ⟨fuel, h⟩ := hd
  simp only [Value.cells] at h
  obtain ⟨xs, m, _, _, hl, hxl, hg⟩ := DataW.trod_struct Tryz.underlying54 h
  rw [c7Wh] at hl
  have hxl : xs.length = 2 := hxl
  have el : ∀ i : Nat, i < 2 → xs[i]? = some (xs[i]?.getD (.nil, [])) := fun i hi => by rw [List.getElem?_eq_getElem (by omega)]; rfl
  have f0 := field_use hg 0 24 0 rfl
  have f1 := field_use hg 1 52 8 rfl
  rw [c6Sh, el 0 (by omega)] at f0
  rw [c7Sl, el 1 (by omega)] at f1
  obtain ⟨cl⟩ := cs
  simp only at hl f0 f1
  match cl, hl with
  | [k0, k1, k2, k3, k4, k5, k6, k7, k8], _ =>
    obtain ⟨s, e0, hs⟩ := o6_sh f0
    obtain ⟨A, c, L, e1, hL⟩ := o7_rrl f1
    simp at e0 e1
    obtain ⟨rfl, rfl, rfl, rfl, rfl, rfl, rfl, rfl⟩ := e0
    subst e1
    exact ⟨s, A, c, L, rfl, hs, hL⟩
set_option maxRecDepth 100000 in
theorem o7_goal {base : Nat} {v : Value} {d : DataW H} {ps : List MemPlace} (hv : Value.okWide Tryz.prog W .any base 56 v) (hd : DataW.Trod enc Tryz.prog W 0 (fun _ => true) true 56 v d ps) :
    ∃ (p : Pc) (t : St), v = glv p t ∧ PcW W p := by
  obtain ⟨cs, rfl, _⟩ := okWide_struct Tryz.underlying56 hv
  obtain ⟨fuel, h⟩ := hd
  simp only [Value.cells] at h
  obtain ⟨xs, m, _, _, hl, hxl, hg⟩ := DataW.trod_struct Tryz.underlying56 h
  rw [c7Go] at hl
  have hxl : xs.length = 2 := hxl
  have el : ∀ i : Nat, i < 2 → xs[i]? = some (xs[i]?.getD (.nil, [])) := fun i hi => by rw [List.getElem?_eq_getElem (by omega)]; rfl
  have f0 := field_use hg 0 26 0 rfl
  have f1 := field_use hg 1 28 7 rfl
  rw [c6Pc, el 0 (by omega)] at f0
  rw [c6Set, el 1 (by omega)] at f1
  obtain ⟨cl⟩ := cs
  simp only at hl f0 f1
  match cl, hl with
  | [k0, k1, k2, k3, k4, k5, k6, k7, k8, k9], _ =>
    obtain ⟨p, e0, hp⟩ := o6_pc f0
    obtain ⟨t, e1⟩ := o6_set f1
    simp at e0 e1
    obtain ⟨rfl, rfl, rfl, rfl, rfl, rfl, rfl⟩ := e0
    obtain ⟨rfl, rfl, rfl⟩ := e1
    exact ⟨p, t, rfl, hp⟩
end
end RG
end Go.Proofs.YtocbcbfniiioaaaGreat
set_option linter.unusedVariables false
set_option linter.unusedSimpArgs false
namespace Go.Proofs.YtocbcbfniiioaaaGreat
set_option linter.unusedVariables false
set_option linter.unusedSimpArgs false
open Go Go.ChangeShapes Go.WideShapes Go.ChangeAt Go.RowKit Go.Deep

namespace RG
/-- lies of any place, once the arguments are right -/
theorem lies_any (s : ShT) (A : Option Addr) (c : Nat) (L : List RS) (p : Pc) (t : St) (pi sh x y k : Int) (w : World) (hs : ShW w s) (hT : SlRR w A c L) (hp : PcW w p) (hS : ShG s) (hm : 0 ≤ t.m ∧ t.m ≤ 14400) (hb : CoB p.r true) (h0 : vpE p true = 0) :
    ∃ b : Bool, (b = true → ∃ n : Nat, n < 4 ∧ k = n ∧ alB p.mt s.mt p.ga s.ga p.gr s.gr n = true ∧ PlP (inmR s.wd s.ht t.m) (s.cl ++ s.us) (allR L) t (tnL p.r n p.r) x y) ∧ ∀ w', Gr w w' → Calls Tryz.prog 27 #[s.v, .slice A L.length c, glv p t, atv pi sh x y k] w' fun e w'' => e = .returned (.bool b) ∧ Gr w' w'' := by
  cases hk : wiB k 0 3 with
  | false => exact ⟨false, nofun, fun w' g => lies_bad s A c L.length p t pi sh x y k 1 w' (by decide) (fun w'' g' => Put_turn p true pi sh x y k w'' (hp.gr (g.trans g')) hb h0 hk)⟩
  | true =>
    obtain ⟨hk0, hk3⟩ := wiB_iff.1 hk
    obtain ⟨n, rfl⟩ : ∃ n : Nat, k = n := ⟨k.toNat, by omega⟩
    cases hxy : (wiB x (-1048576) 1048576 && wiB y (-1048576) 1048576) with
    | false => exact ⟨false, nofun, fun w' g => lies_bad s A c L.length p t pi sh x y n 4 w' (by decide) (fun w'' g' => Put_far p true pi sh x y n w'' (hp.gr (g.trans g')) hb h0 (by omega) hxy)⟩
    | true =>
      rw [Bool.and_eq_true, wiB_iff, wiB_iff] at hxy
      cases hv : (vaB ((tnL p.r n p.r).map (mvR x y)) && (vaB ((tnL p.r n p.c).map (mvR x y)) && vaB ((tnL p.r n p.f).map (mvR x y)))) with
      | false => exact ⟨false, nofun, fun w' g => lies_bad s A c L.length p t pi sh x y n 4 w' (by decide) (fun w'' g' => by
          refine (Put_ok p true pi sh x y n w'' (hp.gr (g.trans g')) hb h0 (by omega) hxy.1 hxy.2).mono fun e w3 h => ?_
          unfold PutR at h
          rwa [if_neg (by rw [hv]; decide)] at h)⟩
      | true =>
        refine ⟨_, fun h => ?_, fun w' g => lies_ok s A c L p t pi sh x y n _ _ _ w' (hs.gr g) (hT.gr g) hS hm (fun w'' g' => by
          refine (Put_ok p true pi sh x y n w'' (hp.gr (g.trans g')) hb h0 (by omega) hxy.1 hxy.2).mono fun e w3 h => ?_
          unfold PutR at h
          rwa [if_pos hv] at h)⟩
        rw [Bool.and_eq_true] at h
        exact ⟨n, by omega, rfl, h.1, lsM_iff.1 h.2⟩
/-- the first place lies well -/
theorem lies_first (s : ShT) (A : Option Addr) (c : Nat) (L : List RS) (p : Pc) (t : St) (n : Nat) (x y : Int) (w : World) (hs : ShW w s) (hT : SlRR w A c L) (hp : PcW w p) (hS : ShG s) (hm : 0 ≤ t.m ∧ t.m ≤ 14400) (hb : CoB p.r true) (h0 : vpE p true = 0) (hn : n < 4)
    (hal : alB p.mt s.mt p.ga s.ga p.gr s.gr n = true) (hpl : PlP (inmR s.wd s.ht t.m) (s.cl ++ s.us) (allR L) t (tnL p.r n p.r) x y) : ∀ w', Gr w w' → Calls Tryz.prog 27 #[s.v, .slice A L.length c, glv p t, atv 0 0 x y n] w' fun e w'' => e = .returned (.bool true) ∧ Gr w' w'' := by
  intro w' g
  have hG := (vpE_good h0).1
  have hxy := plp_xy (t := t) hG hS hm.1 hpl
  have hv := put_va (t := t) hG hpl
  have h := lies_ok s A c L p t 0 0 x y n _ _ _ w' (hs.gr g) (hT.gr g) hS hm (fun w'' g' => by
          refine (Put_ok p true 0 0 x y n w'' (hp.gr (g.trans g')) hb h0 (by omega) hxy.1 hxy.2).mono fun e w3 h => ?_
          unfold PutR at h
          rwa [if_pos hv] at h)
  rwa [hal, lsM_iff.2 hpl] at h
structure LiC (w0 : World) (s : ShT) (A : Option Addr) (n c : Nat) (p : Pc) (t : St) (pi sh x y k : Int) (b : Bool) : Prop where
  use : ∀ w', Gr w0 w' → Calls Tryz.prog 27 #[s.v, .slice A n c, glv p t, atv pi sh x y k] w' fun e w'' => e = .returned (.bool b) ∧ Gr w' w''
set_option maxHeartbeats 8000000 in
set_option maxRecDepth 100000 in
theorem lowest_bad (s : ShT) (A : Option Addr) (c : Nat) (L : List RS) (p : Pc) (b : Bool) (t : St) (pi sh x y k : Int) (w : World) (hs : ShW w s) (hT : SlRR w A c L) (hp : PcW w p) (hb : CoB p.r b) (h0 : fiE s L p b t ≠ 0) :
    Calls Tryz.prog 9 #[whv s A L.length c, glv p t, atv pi sh x y k] w fun e w' => e = .returned (.bool true) ∧ Gr w w' := by
  have H1 := hide (fun (w' : World) (g : Gr w w') => Fit_bad s A c L p b t w' (hs.gr g) (hT.gr g) (hp.gr g) hb h0)
  generalize fiE s L p b t = E at *
  have hE1 : (E != 0) = true := by simpa using h0
  clear hs hT hp hb h0
  obtain ⟨g, m, cm⟩ := t
  go_enter Tryz.func9, Tryz.ntmps9
  go_wp2_with fail
  refine (H1.out _ (by repeat (first | with_reducible exact Gr.refl _ | with_reducible assumption | with_reducible refine Gr.alloc ?_ _ | with_reducible refine Gr.drewN ?_ _ | with_reducible refine Gr.drew ?_ | with_reducible refine Gr.setCell ?_ (by first | (dsimp only; omega) | (simp only [World.size_alloc]; omega) | (with_reducible refine Gr.size ?_; (repeat (first | with_reducible exact Gr.refl _ | with_reducible assumption | with_reducible refine Gr.alloc ?_ _ | with_reducible refine Gr.drewN ?_ _ | with_reducible refine Gr.drew ?_ | with_reducible refine Gr.trans ?_ (by with_reducible assumption))); done)) _ | with_reducible refine Gr.trans ?_ (by with_reducible assumption)))).mono ?_
  rintro e w1 ⟨rfl, g1⟩
  have gw1 : Gr w w1 := Gr.trans (by repeat (first | with_reducible exact Gr.refl _ | with_reducible assumption | with_reducible refine Gr.alloc ?_ _ | with_reducible refine Gr.drewN ?_ _ | with_reducible refine Gr.drew ?_ | with_reducible refine Gr.setCell ?_ (by first | (dsimp only; omega) | (simp only [World.size_alloc]; omega) | (with_reducible refine Gr.size ?_; (repeat (first | with_reducible exact Gr.refl _ | with_reducible assumption | with_reducible refine Gr.alloc ?_ _ | with_reducible refine Gr.drewN ?_ _ | with_reducible refine Gr.drew ?_ | with_reducible refine Gr.trans ?_ (by with_reducible assumption))); done)) _ | with_reducible refine Gr.trans ?_ (by with_reducible assumption))) g1
  go_wp2_with (first | (go_at_call 16; refine (known6_any _).mono ?_; rintro e w1 ⟨rfl, g1⟩; obtain ⟨X1, Y1, c1, f1⟩ := g1.use))
  go_ret
  exact ⟨rfl, (by repeat (first | with_reducible exact Gr.refl _ | with_reducible assumption | with_reducible refine Gr.alloc ?_ _ | with_reducible refine Gr.drewN ?_ _ | with_reducible refine Gr.drew ?_ | with_reducible refine Gr.setCell ?_ (by first | (dsimp only; omega) | (simp only [World.size_alloc]; omega) | (with_reducible refine Gr.size ?_; (repeat (first | with_reducible exact Gr.refl _ | with_reducible assumption | with_reducible refine Gr.alloc ?_ _ | with_reducible refine Gr.drewN ?_ _ | with_reducible refine Gr.drew ?_ | with_reducible refine Gr.trans ?_ (by with_reducible assumption))); done)) _ | with_reducible refine Gr.trans ?_ (by with_reducible assumption)))⟩
set_option maxHeartbeats 8000000 in
set_option maxRecDepth 100000 in
theorem lowest_good (s : ShT) (A : Option Addr) (c : Nat) (L : List RS) (p : Pc) (t : St) (pi sh x y k : Int) (ok : Bool) (x0 y0 k0 : Int) (b : Bool) (w : World) (H1 : ∀ w', Gr w w' → Calls Tryz.prog 26 #[s.v, .slice A L.length c, p.v, stvv t] w' fun e w'' => e = .returned (.tuple #[atv 0 0 x0 y0 k0, .bool ok, iv 0]) ∧ Gr w' w'')
    (K1 : ok = true → LiC w s A L.length c p t 0 0 x0 y0 k0 true) (K2 : LiC w s A L.length c p t pi sh x y k b) (hb : b = true → ok = true ∧ (y0 < y ∨ y0 = y ∧ (x0 < x ∨ x0 = x ∧ k0 ≤ k))) :
    Calls Tryz.prog 9 #[whv s A L.length c, glv p t, atv pi sh x y k] w fun e w' => e = .returned (.bool true) ∧ Gr w w' := by
  have H1 := hide H1
  have HB := hide hb
  have HK1 := hide K1
  have HK2 := hide K2
  clear hb K1 K2
  obtain ⟨g, m, cm⟩ := t
  go_enter Tryz.func9, Tryz.ntmps9
  go_wp2_with fail
  have M3 := hide ((Made.new w #[.string s.nm, .string s.mt, iv s.ga, iv s.gr, iv s.wd, iv s.ht, .slice s.cA s.cl.length s.cc, .slice s.uA s.us.length s.uc, .slice A L.length c] 54).gr (show Gr _ (((w.alloc (.cells #[.string s.nm, .string s.mt, iv s.ga, iv s.gr, iv s.wd, iv s.ht, .slice s.cA s.cl.length s.cc, .slice s.uA s.us.length s.uc, .slice A L.length c] 54)).alloc (.cells #[.string p.nm, .string p.mt, iv p.ga, iv p.gr, .slice p.rA p.r.length p.rc, .slice p.cA p.c.length p.cc, .slice p.fA p.f.length p.fc, iv g, iv m, .bool cm] 56)).alloc (.cells #[iv pi, iv sh, iv x, iv y, iv k] 36)) from Gr.alloc (Gr.alloc (Gr.refl _) _) _))
  have M4 := (Made.new (w.alloc (.cells #[.string s.nm, .string s.mt, iv s.ga, iv s.gr, iv s.wd, iv s.ht, .slice s.cA s.cl.length s.cc, .slice s.uA s.us.length s.uc, .slice A L.length c] 54)) #[.string p.nm, .string p.mt, iv p.ga, iv p.gr, .slice p.rA p.r.length p.rc, .slice p.cA p.c.length p.cc, .slice p.fA p.f.length p.fc, iv g, iv m, .bool cm] 56).gr (show Gr _ (((w.alloc (.cells #[.string s.nm, .string s.mt, iv s.ga, iv s.gr, iv s.wd, iv s.ht, .slice s.cA s.cl.length s.cc, .slice s.uA s.us.length s.uc, .slice A L.length c] 54)).alloc (.cells #[.string p.nm, .string p.mt, iv p.ga, iv p.gr, .slice p.rA p.r.length p.rc, .slice p.cA p.c.length p.cc, .slice p.fA p.f.length p.fc, iv g, iv m, .bool cm] 56)).alloc (.cells #[iv pi, iv sh, iv x, iv y, iv k] 36)) from Gr.alloc (Gr.refl _) _)
  have M5 := Made.new ((w.alloc (.cells #[.string s.nm, .string s.mt, iv s.ga, iv s.gr, iv s.wd, iv s.ht, .slice s.cA s.cl.length s.cc, .slice s.uA s.us.length s.uc, .slice A L.length c] 54)).alloc (.cells #[.string p.nm, .string p.mt, iv p.ga, iv p.gr, .slice p.rA p.r.length p.rc, .slice p.cA p.c.length p.cc, .slice p.fA p.f.length p.fc, iv g, iv m, .bool cm] 56)) #[iv pi, iv sh, iv x, iv y, iv k] 36
  have g0 : Gr w (((w.alloc (.cells #[.string s.nm, .string s.mt, iv s.ga, iv s.gr, iv s.wd, iv s.ht, .slice s.cA s.cl.length s.cc, .slice s.uA s.us.length s.uc, .slice A L.length c] 54)).alloc (.cells #[.string p.nm, .string p.mt, iv p.ga, iv p.gr, .slice p.rA p.r.length p.rc, .slice p.cA p.c.length p.cc, .slice p.fA p.f.length p.fc, iv g, iv m, .bool cm] 56)).alloc (.cells #[iv pi, iv sh, iv x, iv y, iv k] 36)) := Gr.alloc (Gr.alloc (Gr.alloc (Gr.refl _) _) _) _
  rw [World.size_alloc] at M4
  rw [World.size_alloc, World.size_alloc] at M5
  have M4 := hide M4
  have M5 := hide M5
  generalize (((w.alloc (.cells #[.string s.nm, .string s.mt, iv s.ga, iv s.gr, iv s.wd, iv s.ht, .slice s.cA s.cl.length s.cc, .slice s.uA s.us.length s.uc, .slice A L.length c] 54)).alloc (.cells #[.string p.nm, .string p.mt, iv p.ga, iv p.gr, .slice p.rA p.r.length p.rc, .slice p.cA p.c.length p.cc, .slice p.fA p.f.length p.fc, iv g, iv m, .bool cm] 56)).alloc (.cells #[iv pi, iv sh, iv x, iv y, iv k] 36)) = w0 at *
  generalize w.heap.size + 1 + 1 = b5 at *
  generalize w.heap.size + 1 = b4 at *
  generalize w.heap.size = b3 at *
  refine (H1.out _ g0).mono ?_
  rintro e w1 ⟨rfl, g1⟩
  cases ok with
  | false =>
    obtain ⟨a3_, q_, _⟩ := M3.out.gr g1
    have a30 := q_ 0
    have a31 := q_ 1
    have a32 := q_ 2
    have a33 := q_ 3
    have a34 := q_ 4
    have a35 := q_ 5
    have a36 := q_ 6
    have a37 := q_ 7
    have a38 := q_ 8
    clear q_
    obtain ⟨a4_, q_, _⟩ := M4.out.gr g1
    have a40 := q_ 0
    have a41 := q_ 1
    have a42 := q_ 2
    have a43 := q_ 3
    have a44 := q_ 4
    have a45 := q_ 5
    have a46 := q_ 6
    have a47 := q_ 7
    have a48 := q_ 8
    have a49 := q_ 9
    clear q_
    obtain ⟨a5_, q_, _⟩ := M5.out.gr g1
    have a50 := q_ 0
    have a51 := q_ 1
    have a52 := q_ 2
    have a53 := q_ 3
    have a54 := q_ 4
    clear q_
    have gw1 := g0.trans g1
    cases b with
    | true =>
      cases (HB.out rfl).1
    | false =>
      go_wp2_with fail
      refine (HK2.out.use _ (by repeat (first | with_reducible exact Gr.refl _ | with_reducible assumption | with_reducible refine Gr.alloc ?_ _ | with_reducible refine Gr.drewN ?_ _ | with_reducible refine Gr.drew ?_ | with_reducible refine Gr.setCell ?_ (by first | (dsimp only; omega) | (simp only [World.size_alloc]; omega) | (with_reducible refine Gr.size ?_; (repeat (first | with_reducible exact Gr.refl _ | with_reducible assumption | with_reducible refine Gr.alloc ?_ _ | with_reducible refine Gr.drewN ?_ _ | with_reducible refine Gr.drew ?_ | with_reducible refine Gr.trans ?_ (by with_reducible assumption))); done)) _ | with_reducible refine Gr.trans ?_ (by with_reducible assumption)))).mono ?_
      rintro e w2 ⟨rfl, g2⟩
      have gw2 : Gr w w2 := gw1.trans (Gr.trans (by repeat (first | with_reducible exact Gr.refl _ | with_reducible assumption | with_reducible refine Gr.alloc ?_ _ | with_reducible refine Gr.drewN ?_ _ | with_reducible refine Gr.drew ?_ | with_reducible refine Gr.setCell ?_ (by first | (dsimp only; omega) | (simp only [World.size_alloc]; omega) | (with_reducible refine Gr.size ?_; (repeat (first | with_reducible exact Gr.refl _ | with_reducible assumption | with_reducible refine Gr.alloc ?_ _ | with_reducible refine Gr.drewN ?_ _ | with_reducible refine Gr.drew ?_ | with_reducible refine Gr.trans ?_ (by with_reducible assumption))); done)) _ | with_reducible refine Gr.trans ?_ (by with_reducible assumption))) g2)
      go_wp2_with (first | (go_at_call 16; refine (known6_any _).mono ?_; rintro e w1 ⟨rfl, g1⟩; obtain ⟨X1, Y1, c1, f1⟩ := g1.use))
      go_ret
      exact ⟨rfl, (by repeat (first | with_reducible exact Gr.refl _ | with_reducible assumption | with_reducible refine Gr.alloc ?_ _ | with_reducible refine Gr.drewN ?_ _ | with_reducible refine Gr.drew ?_ | with_reducible refine Gr.setCell ?_ (by first | (dsimp only; omega) | (simp only [World.size_alloc]; omega) | (with_reducible refine Gr.size ?_; (repeat (first | with_reducible exact Gr.refl _ | with_reducible assumption | with_reducible refine Gr.alloc ?_ _ | with_reducible refine Gr.drewN ?_ _ | with_reducible refine Gr.drew ?_ | with_reducible refine Gr.trans ?_ (by with_reducible assumption))); done)) _ | with_reducible refine Gr.trans ?_ (by with_reducible assumption)))⟩
  | true =>
    have HL1 := hide (HK1.out rfl)
    obtain ⟨a3_, q_, _⟩ := M3.out.gr g1
    have a30 := q_ 0
    have a31 := q_ 1
    have a32 := q_ 2
    have a33 := q_ 3
    have a34 := q_ 4
    have a35 := q_ 5
    have a36 := q_ 6
    have a37 := q_ 7
    have a38 := q_ 8
    clear q_
    obtain ⟨a4_, q_, _⟩ := M4.out.gr g1
    have a40 := q_ 0
    have a41 := q_ 1
    have a42 := q_ 2
    have a43 := q_ 3
    have a44 := q_ 4
    have a45 := q_ 5
    have a46 := q_ 6
    have a47 := q_ 7
    have a48 := q_ 8
    have a49 := q_ 9
    clear q_
    have gw1 := g0.trans g1
    have M7 := hide (Made.new w1 #[iv 0, iv 0, iv x0, iv y0, iv k0] 36)
    go_wp2_with fail
    refine (HL1.out.use _ (by repeat (first | with_reducible exact Gr.refl _ | with_reducible assumption | with_reducible refine Gr.alloc ?_ _ | with_reducible refine Gr.drewN ?_ _ | with_reducible refine Gr.drew ?_ | with_reducible refine Gr.setCell ?_ (by first | (dsimp only; omega) | (simp only [World.size_alloc]; omega) | (with_reducible refine Gr.size ?_; (repeat (first | with_reducible exact Gr.refl _ | with_reducible assumption | with_reducible refine Gr.alloc ?_ _ | with_reducible refine Gr.drewN ?_ _ | with_reducible refine Gr.drew ?_ | with_reducible refine Gr.trans ?_ (by with_reducible assumption))); done)) _ | with_reducible refine Gr.trans ?_ (by with_reducible assumption)))).mono ?_
    rintro e w2 ⟨rfl, g2⟩
    have g12 : Gr w1 w2 := Gr.trans (Gr.alloc (Gr.refl _) _) g2
    have gw2 : Gr w w2 := gw1.trans g12
    clear a30 a31 a32 a33 a34 a35 a36 a37 a38 a3_ a40 a41 a42 a43 a44 a45 a46 a47 a48 a49 a4_
    obtain ⟨a3_, q_, _⟩ := M3.out.gr (g1.trans g12)
    have a30 := q_ 0
    have a31 := q_ 1
    have a32 := q_ 2
    have a33 := q_ 3
    have a34 := q_ 4
    have a35 := q_ 5
    have a36 := q_ 6
    have a37 := q_ 7
    have a38 := q_ 8
    clear q_
    obtain ⟨a4_, q_, _⟩ := M4.out.gr (g1.trans g12)
    have a40 := q_ 0
    have a41 := q_ 1
    have a42 := q_ 2
    have a43 := q_ 3
    have a44 := q_ 4
    have a45 := q_ 5
    have a46 := q_ 6
    have a47 := q_ 7
    have a48 := q_ 8
    have a49 := q_ 9
    clear q_
    obtain ⟨a5_, q_, _⟩ := M5.out.gr (g1.trans g12)
    have a50 := q_ 0
    have a51 := q_ 1
    have a52 := q_ 2
    have a53 := q_ 3
    have a54 := q_ 4
    clear q_
    go_wp2_with fail
    refine (HK2.out.use _ gw2).mono ?_
    rintro e w3 ⟨rfl, g3⟩
    have gw3 : Gr w w3 := gw2.trans g3
    clear a30 a31 a32 a33 a34 a35 a36 a37 a38 a3_ a40 a41 a42 a43 a44 a45 a46 a47 a48 a49 a4_ a50 a51 a52 a53 a54 a5_
    cases b with
    | false =>
      go_wp2_with (first | (go_at_call 16; refine (known6_any _).mono ?_; rintro e w1 ⟨rfl, g1⟩; obtain ⟨X1, Y1, c1, f1⟩ := g1.use))
      go_ret
      exact ⟨rfl, (by repeat (first | with_reducible exact Gr.refl _ | with_reducible assumption | with_reducible refine Gr.alloc ?_ _ | with_reducible refine Gr.drewN ?_ _ | with_reducible refine Gr.drew ?_ | with_reducible refine Gr.setCell ?_ (by first | (dsimp only; omega) | (simp only [World.size_alloc]; omega) | (with_reducible refine Gr.size ?_; (repeat (first | with_reducible exact Gr.refl _ | with_reducible assumption | with_reducible refine Gr.alloc ?_ _ | with_reducible refine Gr.drewN ?_ _ | with_reducible refine Gr.drew ?_ | with_reducible refine Gr.trans ?_ (by with_reducible assumption))); done)) _ | with_reducible refine Gr.trans ?_ (by with_reducible assumption)))⟩
    | true =>
      obtain ⟨a5_, q_, _⟩ := M5.out.gr ((g1.trans g12).trans g3)
      have a50 := q_ 0
      have a51 := q_ 1
      have a52 := q_ 2
      have a53 := q_ 3
      have a54 := q_ 4
      clear q_
      obtain ⟨a7_, q_, _⟩ := M7.out.gr (g2.trans g3)
      have a70 := q_ 0
      have a71 := q_ 1
      have a72 := q_ 2
      have a73 := q_ 3
      have a74 := q_ 4
      clear q_
      have HLT := hide (HB.out rfl).2
      rcases HLT.out with h | ⟨h1, h⟩
      · have d1 : decide (y0 < y) = true := decide_eq_true h
        clear h
        go_wp2_with (first | (go_at_call 16; refine (known6_any _).mono ?_; rintro e w1 ⟨rfl, g1⟩; obtain ⟨X1, Y1, c1, f1⟩ := g1.use))
        go_ret
        exact ⟨rfl, (by repeat (first | with_reducible exact Gr.refl _ | with_reducible assumption | with_reducible refine Gr.alloc ?_ _ | with_reducible refine Gr.drewN ?_ _ | with_reducible refine Gr.drew ?_ | with_reducible refine Gr.setCell ?_ (by first | (dsimp only; omega) | (simp only [World.size_alloc]; omega) | (with_reducible refine Gr.size ?_; (repeat (first | with_reducible exact Gr.refl _ | with_reducible assumption | with_reducible refine Gr.alloc ?_ _ | with_reducible refine Gr.drewN ?_ _ | with_reducible refine Gr.drew ?_ | with_reducible refine Gr.trans ?_ (by with_reducible assumption))); done)) _ | with_reducible refine Gr.trans ?_ (by with_reducible assumption)))⟩
      · subst h1
        have d1 : decide (y0 < y0) = false := decide_eq_false (Int.lt_irrefl _)
        rcases h with h | ⟨h1, h⟩
        · have d2 : decide (x0 < x) = true := decide_eq_true h
          clear h
          go_wp2_with (first | (go_at_call 16; refine (known6_any _).mono ?_; rintro e w1 ⟨rfl, g1⟩; obtain ⟨X1, Y1, c1, f1⟩ := g1.use))
          go_ret
          exact ⟨rfl, (by repeat (first | with_reducible exact Gr.refl _ | with_reducible assumption | with_reducible refine Gr.alloc ?_ _ | with_reducible refine Gr.drewN ?_ _ | with_reducible refine Gr.drew ?_ | with_reducible refine Gr.setCell ?_ (by first | (dsimp only; omega) | (simp only [World.size_alloc]; omega) | (with_reducible refine Gr.size ?_; (repeat (first | with_reducible exact Gr.refl _ | with_reducible assumption | with_reducible refine Gr.alloc ?_ _ | with_reducible refine Gr.drewN ?_ _ | with_reducible refine Gr.drew ?_ | with_reducible refine Gr.trans ?_ (by with_reducible assumption))); done)) _ | with_reducible refine Gr.trans ?_ (by with_reducible assumption)))⟩
        · subst h1
          have d2 : decide (x0 < x0) = false := decide_eq_false (Int.lt_irrefl _)
          have d3 : decide (k0 ≤ k) = true := decide_eq_true h
          clear h
          go_wp2_with (first | (go_at_call 16; refine (known6_any _).mono ?_; rintro e w1 ⟨rfl, g1⟩; obtain ⟨X1, Y1, c1, f1⟩ := g1.use))
          go_ret
          exact ⟨rfl, (by repeat (first | with_reducible exact Gr.refl _ | with_reducible assumption | with_reducible refine Gr.alloc ?_ _ | with_reducible refine Gr.drewN ?_ _ | with_reducible refine Gr.drew ?_ | with_reducible refine Gr.setCell ?_ (by first | (dsimp only; omega) | (simp only [World.size_alloc]; omega) | (with_reducible refine Gr.size ?_; (repeat (first | with_reducible exact Gr.refl _ | with_reducible assumption | with_reducible refine Gr.alloc ?_ _ | with_reducible refine Gr.drewN ?_ _ | with_reducible refine Gr.drew ?_ | with_reducible refine Gr.trans ?_ (by with_reducible assumption))); done)) _ | with_reducible refine Gr.trans ?_ (by with_reducible assumption)))⟩

set_option maxHeartbeats 8000000 in
theorem lowest_walk (s : ShT) (A : Option Addr) (c : Nat) (L : List RS) (p : Pc) (t : St) (z : At6) (w : World) (hs : ShW w s) (hT : SlRR w A c L) (hp : PcW w p) :
    Calls Tryz.prog 9 #[whv s A L.length c, glv p t, atv z.pi z.sh z.x z.y z.t] w fun e w' => e = .returned (.bool true) ∧ Gr w w' := by
  obtain ⟨b, hb⟩ := coB_ex p.r
  by_cases h0 : fiE s L p b t = 0
  · obtain ⟨z1, z2, z3, z4⟩ := fiE_good h0
    obtain rfl : b = true := (vpE_good z3).2
    have hG := (vpE_good z3).1
    have hS := vsE_good z1
    have hL := (ctE_good z2).2.2
    have ht := vtB_iff.1 z4
    obtain ⟨r, hr⟩ := fitR_ex s (allR L) p t
    obtain ⟨q, hq, hQ⟩ := lies_any s A c L p t z.pi z.sh z.x z.y z.t w hs hT hp hS ht.2 hb z3
    cases r with
    | none =>
      refine lowest_good s A c L p t z.pi z.sh z.x z.y z.t false 0 0 0 q w (fun w' g => ?_) nofun ⟨hQ⟩ (fun e => ?_)
      · obtain ⟨o, ho, hf⟩ := hr
        exact Fit_good s A c L p true t o none w' (hs.gr g) (hT.gr g) (hp.gr g) hb h0 ho hf
      · obtain ⟨n, hn, hz, hal, hpl⟩ := hq e
        obtain ⟨k0, x0, y0, e1, e2⟩ := fit_least hG hS ht hL hr hn hal hpl
        cases e1
    | some v =>
      obtain ⟨k0, x0, y0⟩ := v
      refine lowest_good s A c L p t z.pi z.sh z.x z.y z.t true x0 y0 k0 q w (fun w' g => ?_) (fun _ => ⟨?_⟩) ⟨hQ⟩ (fun e => ⟨rfl, ?_⟩)
      · obtain ⟨o, ho, hf⟩ := hr
        exact Fit_good s A c L p true t o (some (k0, x0, y0)) w' (hs.gr g) (hT.gr g) (hp.gr g) hb h0 ho hf
      · obtain ⟨a1, a2, a3⟩ := fit_right hG hS ht hL hr
        exact lies_first s A c L p t k0 x0 y0 w hs hT hp hS ht.2 hb z3 a1 a2 a3
      · obtain ⟨n, hn, hz, hal, hpl⟩ := hq e
        obtain ⟨k1, x1, y1, e1, e2⟩ := fit_least hG hS ht hL hr hn hal hpl
        simp only [Option.some.injEq, Prod.mk.injEq] at e1
        obtain ⟨rfl, rfl, rfl⟩ := e1
        omega
  · exact lowest_bad s A c L p b t z.pi z.sh z.x z.y z.t w hs hT hp hb h0
end RG
end Go.Proofs.YtocbcbfniiioaaaGreat
