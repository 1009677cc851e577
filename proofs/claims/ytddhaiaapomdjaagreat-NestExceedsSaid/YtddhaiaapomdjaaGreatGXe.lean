/-
 Nests, plain: the results of Nest exist, and the placements are right.
 Nests, plain: pieces that are placed right have no more area than is free.
 Nests, plain: right placements of all pieces have no more area than is free on the sheets.
-/
import Derived.Test.YtddhaiaapomdjaaGreatGQe
import Derived.Test.YtddhaiaapomdjaaGreatGMe
import Derived.Test.YtddhaiaapomdjaaGreatGTe
import Derived.Test.YtddhaiaapomdjaaGreatGLe
import Derived.Test.YtddhaiaapomdjaaGreatGNe
import Derived.Test.YtddhaiaapomdjaaGreatRg3e
import Derived.Test.YtddhaiaapomdjaaGreatGRe
set_option linter.unusedVariables false
set_option linter.unusedSimpArgs false
namespace Go.Proofs.YtddhaiaapomdjaaGreat
set_option linter.unusedVariables false
set_option linter.unusedSimpArgs false
open Go Go.ChangeShapes Go.WideShapes Go.ChangeAt Go.RowKit Go.Deep

namespace RG
end RG
end Go.Proofs.YtddhaiaapomdjaaGreat
set_option linter.unusedVariables false
set_option linter.unusedSimpArgs false
namespace Go.Proofs.YtddhaiaapomdjaaGreat
set_option linter.unusedVariables false
set_option linter.unusedSimpArgs false
open Go Go.ChangeShapes Go.WideShapes Go.ChangeAt Go.RowKit Go.Deep

namespace RG
theorem ovR_ovP {r s : Rc} : ovR r s = true ↔ ovP r s := by
 rw [ovR_iff]
 unfold ovP
 omega
theorem ovR_ovQ {r s : Rc} (hr : vrR r = true) (hs : vrR s = true) : ovR r s = ovQ r s := by
 rw [Bool.eq_iff_iff, ovR_ovP, ovQ_iff hr hs]
theorem sumA_app (a b : List Rc) : sumA (a ++ b) = sumA a + sumA b := by
 unfold sumA
 rw [List.map_append, List.sum_append]
theorem sumA_map {f : Rc → Rc} : ∀ {l : List Rc}, (∀ r ∈ l, (f r).w * (f r).h = r.w * r.h) → sumA (l.map f) = sumA l
 | [], _ => rfl
 | r :: l, h => by
  have ih := sumA_map (f := f) (l := l) fun s hs => h s (List.mem_cons_of_mem _ hs)
  unfold sumA at ih ⊢
  simp only [List.map_cons, List.sum_cons]
  rw [ih, h r List.mem_cons_self]
theorem sumA_m (p : Pc) (z : At6) : sumA (mRl p z) = sumA p.r := by
 unfold mRl tnL
 rw [List.map_map]
 refine sumA_map fun r _ => ?_
 show (mvR z.x z.y (tnR p.r z.t.toNat r)).w * (mvR z.x z.y (tnR p.r z.t.toNat r)).h = _
 unfold mvR
 dsimp only
 rcases wh_tn p.r z.t.toNat r with ⟨e1, e2⟩ | ⟨e1, e2⟩
 ·rw [e1, e2]
 ·rw [e1, e2, Int.mul_comm]
theorem pairs_of {f : Rc → Rc → Bool} : ∀ {l : List Rc}, (∀ (i j : Nat) (a b : Rc), i < j → l[i]? = some a → l[j]? = some b → f a b = false) → l.Pairwise fun a b => f a b = false
 | [], _ => List.Pairwise.nil
 | a :: l, h => List.pairwise_cons.2 ⟨fun b hb => by
     obtain ⟨j, hj, e⟩ := List.getElem_of_mem hb
     exact h 0 (j + 1) a b (by omega) rfl (by rw [← e]; exact List.getElem?_eq_getElem hj), pairs_of fun i j x y hij hx hy => h (i + 1) (j + 1) x y (by omega) hx hy⟩
theorem ovQ_comm' (a b : Rc) : ovQ a b = ovQ b a := by
 unfold ovQ
 exact ovB_comm ..
theorem apart_p {p : Pc} (h : PcG p) : Apart p.r := pairs_of fun i j a b hij ha hb => by
 have va := vaB_iff.1 h.vr a (List.mem_of_getElem? ha)
 have vb := vaB_iff.1 h.vr b (List.mem_of_getElem? hb)
 rw [ovR_ovQ va vb]
 exact ap_pair ovQ_comm' h.ap ha hb (by omega)
theorem apart_m {p : Pc} (h : PcG p) (z : At6) : Apart (mRl p z) := by
 have ha := apart_p h
 unfold Apart mRl tnL at *
 rw [List.map_map, List.pairwise_map]
 refine ha.imp fun {a b} hab => ?_
 cases e : ovR ((mvR z.x z.y ∘ tnR p.r z.t.toNat) a) ((mvR z.x z.y ∘ tnR p.r z.t.toNat) b) with
 | false => rfl
 | true =>
  have e1 : ovP (tnR p.r z.t.toNat a) (tnR p.r z.t.toNat b) := by
   have := ovR_ovP.1 e
   unfold ovP at this ⊢
   simp only [Function.comp, mvR] at this
   omega
  have := ovR_ovP.2 ((ov_tn p.r a b z.t.toNat).1 e1)
  rw [hab] at this
  cases this
def frV (s : ShT) : Int := s.wd * s.ht - ar 1048576 (s.cl ++ s.us)
theorem ar_add {M : Nat} {a b : List Rc} (h : ∀ r ∈ a, ∀ s ∈ b, ovR r s = false) : ar M (a ++ b) = ar M a + ar M b := by
 unfold ar
 rw [← s2_add]
 refine s2_congr fun x y _ _ _ _ => ?_
 rw [cov_app]
 cases h1 : cov a x y with
 | false => simp [ib]
 | true =>
  cases h2 : cov b x y with
  | false => simp [ib]
  | true =>
   obtain ⟨r, hr, e1⟩ := List.any_eq_true.1 h1
   obtain ⟨s, hs, e2⟩ := List.any_eq_true.1 h2
   have := h r hr s hs
   have q : ovR r s = true := by
    have k1 := inR_iff.1 e1
    have k2 := inR_iff.1 e2
    rw [ovR_iff]
    omega
   rw [q] at this
   cases this
theorem ar_in_le {M : Nat} {l : List Rc} {s : Rc} (hs : InM M s) (h : ∀ r ∈ l, s.x ≤ r.x ∧ r.x + r.w ≤ s.x + s.w ∧ s.y ≤ r.y ∧ r.y + r.h ≤ s.y + s.h) : ar M l ≤ s.w * s.h := by
 rw [← ar_rect hs]
 unfold ar
 refine s2_le fun x y => ib_le fun e => ?_
 obtain ⟨r, hr, e1⟩ := List.any_eq_true.1 e
 have k1 := inR_iff.1 e1
 have k2 := h r hr
 rw [inR_iff]
 omega
theorem sheet_le {s : ShT} (hS : ShG s) {l : List Rc} (hv : ∀ r ∈ l, vrR r = true) (ha : Apart l) (hi : ∀ r ∈ l, 0 ≤ r.x ∧ r.x + r.w ≤ s.wd ∧ 0 ≤ r.y ∧ r.y + r.h ≤ s.ht) (ho : ∀ r ∈ l, ∀ o ∈ s.cl ++ s.us, ovR r o = false) (hb : ∀ o ∈ s.cl ++ s.us, 0 ≤ o.x ∧ o.x + o.w ≤ s.wd ∧ 0 ≤ o.y ∧ o.y + o.h ≤ s.ht) : sumA l ≤ frV s := by
 have hw := hS.wd
 have hh := hS.ht
 rw [← ar_apart (M := 1048576) (fun r hr => vrR_iff.1 (hv r hr)) ha]
 have e := ar_add (M := 1048576) ho
 have h := ar_in_le (M := 1048576) (l := l ++ (s.cl ++ s.us)) (s := ⟨0, 0, s.wd, s.ht⟩) ⟨by dsimp only; omega, by dsimp only; omega, by dsimp only; omega, by dsimp only; omega, by dsimp only; omega, by dsimp only; omega⟩ (fun r hr => by
  dsimp only
  rcases List.mem_append.1 hr with q | q
  ·have := hi r q; omega
  ·have := hb r q; omega)
 dsimp only at h
 unfold frV
 omega
end RG
end Go.Proofs.YtddhaiaapomdjaaGreat
set_option linter.unusedVariables false
set_option linter.unusedSimpArgs false
namespace Go.Proofs.YtddhaiaapomdjaaGreat
set_option linter.unusedVariables false
set_option linter.unusedSimpArgs false
open Go Go.ChangeShapes Go.WideShapes Go.ChangeAt Go.RowKit Go.Deep

namespace RG
def smF (f : Nat → Int) : Nat → Int
 | 0 => 0
 | n + 1 => smF f n + f n
theorem smF_congr {f g : Nat → Int} : ∀ {n : Nat}, (∀ i, i < n → f i = g i) → smF f n = smF g n
 | 0, _ => rfl
 | n + 1, h => by rw [smF, smF, smF_congr (n := n) fun i hi => h i (by omega), h n (by omega)]
theorem smF_le {f g : Nat → Int} : ∀ {n : Nat}, (∀ i, i < n → f i ≤ g i) → smF f n ≤ smF g n
 | 0, _ => Int.le_refl _
 | n + 1, h => by
  have h1 := smF_le (n := n) fun i hi => h i (by omega)
  have h2 := h n (by omega)
  rw [smF, smF]
  omega
theorem smF_one {f : Nat → Int} {j : Nat} {c : Int} : ∀ {n : Nat}, j < n → smF (fun i => f i + (if i = j then c else 0)) n = smF f n + c
 | 0, h => absurd h (Nat.not_lt_zero j)
 | n + 1, h => by
  rw [smF, smF]
  rcases Nat.lt_or_ge j n with q | q
  ·rw [smF_one q, if_neg (by omega)]
   omega
  ·obtain rfl : j = n := by omega
   rw [smF_congr (g := f) fun i hi => by rw [if_neg (by omega)]; omega, if_pos rfl]
   omega
theorem sum_perm {l l' : List Int} (h : l.Perm l') : l.sum = l'.sum := by
 induction h with
 | nil => rfl
 | cons x _ ih => rw [List.sum_cons, List.sum_cons, ih]
 | swap x y l => simp only [List.sum_cons]; omega
 | trans _ _ a b => rw [a, b]
theorem nodup_len : ∀ (n : Nat) (l : List Nat), l.Nodup → (∀ x ∈ l, x < n) → l.length ≤ n
 | 0, l, _, h => by
  cases l with
  | nil => simp
  | cons x l => exact absurd (h x List.mem_cons_self) (Nat.not_lt_zero x)
 | n + 1, l, hn, h => by
  have h1 := nodup_len n (l.erase n) (hn.erase n) fun x hx => by
   have := (hn.mem_erase_iff).1 hx
   have := h x this.2
   omega
  have h2 : l.length ≤ (l.erase n).length + 1 := by
   rw [List.length_erase]
   split <;> omega
  omega
theorem sum_all {g : Nat → Int} : ∀ (n : Nat) (l : List Nat), l.Nodup → (∀ x ∈ l, x < n) → l.length = n → (l.map g).sum = smF g n
 | 0, l, _, _, hl => by
  rw [List.length_eq_zero_iff.1 hl]
  rfl
 | n + 1, l, hn, h, hl => by
  have hm : n ∈ l := Classical.byContradiction fun k => by
   have := nodup_len n l hn fun x hx => by
    have h1 := h x hx
    have : x ≠ n := fun e => k (e ▸ hx)
    omega
   omega
  have h1 := sum_all (g := g) n (l.erase n) (hn.erase n) (fun x hx => by
   have := (hn.mem_erase_iff).1 hx
   have := h x this.2
   omega) (by rw [List.length_erase_of_mem hm]; omega)
  rw [sum_perm ((List.perm_cons_erase hm).map g), List.map_cons, List.sum_cons, h1, smF]
  omega
structure OneR (S : List ShT) (Ps : List Pc) (t : St) (L : List At6) (z : At6) (i j : Nat) (p : Pc) (s : ShT) : Prop where
 pi : z.pi = i
 sh : z.sh = j
 hp : Ps[i]? = some p
 hs : S[j]? = some s
 pu : puB p z = true
 nw : ∀ a ∈ L, ¬ a.pi = (i : Int)
 we : weB (mRl p z) s t.m = true
 cl : ∀ m ∈ takL Ps L (j : Int), npB (ucB t) (mRl p z) m = false
theorem oneR_of {S : List ShT} {Ps : List Pc} {t : St} {L : List At6} {z : At6} (h : oneE S Ps t L z = 0) : ∃ i j p s, OneR S Ps t L z i j p s := by
 cases hx : ixB S Ps z with
 | false =>
  rw [oneE_no hx] at h
  exact absurd h (by decide)
 | true =>
  obtain ⟨i, j, p, s, e1, e2, hp, hs, hE⟩ := oneE_at hx
  rw [hE] at h
  unfold oneQ at h
  split at h
  ·rename_i h1
   split at h
   ·exact absurd h (by decide)
   ·rename_i h2
    split at h
    ·rename_i h3
     split at h
     ·rename_i h4
      refine ⟨i, j, p, s, e1, e2, hp, hs, h1, fun a ha e => h2 (List.any_eq_true.2 ⟨a, ha, by rw [e1]; simpa using e⟩), ?_, fun m hm => ?_⟩
      ·have : (alB p.mt s.mt p.ga s.ga p.gr s.gr z.t && weB (mRl p z) s t.m) = true := h3
       rw [Bool.and_eq_true] at this
       exact this.2
      ·rw [e2] at h4
       have := List.all_eq_true.1 h4 m hm
       simpa using this
     ·exact absurd h (by decide)
    ·exact absurd h (by decide)
  ·exact absurd h (by decide)
theorem npB_at {f : Rc → Rc → Bool} {l m : List Rc} (h : npB f l m = false) {r o : Rc} (hr : r ∈ l) (ho : o ∈ m) : f r o = false := by
 cases e : f r o with
 | false => rfl
 | true =>
  have : npB f l m = true := List.any_eq_true.2 ⟨r, hr, List.any_eq_true.2 ⟨o, ho, e⟩⟩
  rw [h] at this
  cases this
structure OnS (s : ShT) (l : List Rc) : Prop where
 v : ∀ r ∈ l, vrR r = true
 ap : Apart l
 i : ∀ r ∈ l, 0 ≤ r.x ∧ r.x + r.w ≤ s.wd ∧ 0 ≤ r.y ∧ r.y + r.h ≤ s.ht
 o : ∀ r ∈ l, ∀ o ∈ s.cl ++ s.us, ovR r o = false
theorem onS_nil (s : ShT) : OnS s [] := ⟨fun r h => by simp at h, List.Pairwise.nil, fun r h => by simp at h, fun r h => by simp at h⟩
theorem OnS.app {s : ShT} {l m : List Rc} (h : OnS s l) (k : OnS s m) (hc : ∀ r ∈ m, ∀ o ∈ l, ovR r o = false) : OnS s (l ++ m) := by
 refine ⟨fun r hr => ?_, List.pairwise_append.2 ⟨h.ap, k.ap, fun a ha b hb => by rw [ovR_comm]; exact hc b hb a ha⟩, fun r hr => ?_, fun r hr => ?_⟩
 ·rcases List.mem_append.1 hr with q | q
  ·exact h.v r q
  ·exact k.v r q
 ·rcases List.mem_append.1 hr with q | q
  ·exact h.i r q
  ·exact k.i r q
 ·rcases List.mem_append.1 hr with q | q
  ·exact h.o r q
  ·exact k.o r q
theorem OneR.on {S : List ShT} {Ps : List Pc} {bs : Pc → Bool} {t : St} {L : List At6} {z : At6} {i j : Nat} {p : Pc} {s : ShT} (h : OneR S Ps t L z i j p s) (z4 : vpE p (bs p) = 0) (hS : ShG s) (htm : 0 ≤ t.m) : OnS s (mRl p z) := by
 have hv : ∀ r ∈ mRl p z, vrR r = true := fun r hr => by
  obtain ⟨_, _, h3⟩ := puB_iff.1 h.pu
  rw [Bool.and_eq_true] at h3
  exact vaB_iff.1 h3.1 r hr
 have hw := h.we
 unfold weB at hw
 rw [Bool.and_eq_true, Bool.not_eq_true'] at hw
 refine ⟨hv, apart_m (vpE_good z4).1 z, fun r hr => ?_, fun r hr o ho => ?_⟩
 ·have := (isR_iff _ _).1 (List.all_eq_true.1 hw.1 r hr)
  dsimp only at this
  omega
 ·rw [ovR_ovQ (hv r hr) (hS.v o ho)]
  exact npB_at hw.2 hr ho
theorem eaR_at' {Ps : List Pc} {a : At6} {i : Nat} {p : Pc} (h : a.pi = i) (hp : Ps[i]? = some p) : eaR Ps a = mRl p a := by
 unfold eaR
 rw [h, show ((i : Int)).toNat = i from rfl, hp]
theorem all_on {S : List ShT} {Ps : List Pc} {bs : Pc → Bool} {t : St} {L : List At6} (z3 : ∀ s ∈ S, vsE s = 0) (z4 : ∀ p ∈ Ps, vpE p (bs p) = 0) (htm : 0 ≤ t.m) (h : ∀ m z, L[m]? = some z → oneE S Ps t (L.take m) z = 0) :
  ∀ n, n ≤ L.length → (∀ (j : Nat) (s : ShT), S[j]? = some s → OnS s (takL Ps (L.take n) (j : Int)).flatten) ∧ smF (fun j => sumA (takL Ps (L.take n) (j : Int)).flatten) S.length = ((L.take n).map fun a => sumA (eaR Ps a)).sum
 | 0, _ => by
  rw [List.take_zero]
  refine ⟨fun j s _ => onS_nil s, ?_⟩
  have : ∀ n, smF (fun j => sumA (takL Ps [] (j : Int)).flatten) n = 0 := fun n => by
   induction n with
   | zero => rfl
   | succ n ih => rw [smF, ih]; rfl
  rw [this]
  rfl
 | n + 1, hn => by
  obtain ⟨ih1, ih2⟩ := all_on z3 z4 htm h n (by omega)
  obtain ⟨z, hz⟩ : ∃ z, L[n]? = some z := ⟨_, List.getElem?_eq_getElem (by omega)⟩
  obtain ⟨i, j, p, s, hR⟩ := oneR_of (h n z hz)
  have e : L.take (n + 1) = L.take n ++ [z] := take_at hz
  have hea : eaR Ps z = mRl p z := eaR_at' hR.pi hR.hp
  have hjl : j < S.length := (List.getElem?_eq_some_iff.1 hR.hs).1
  have hOn := OneR.on (bs := bs) hR (z4 p (List.mem_of_getElem? hR.hp)) (vsE_good (z3 s (List.mem_of_getElem? hR.hs))) htm
  rw [e]
  refine ⟨fun j' s' hs' => ?_, ?_⟩
  ·rw [takL_app, hR.sh]
   by_cases q : (j : Int) = (j' : Int)
   ·obtain rfl : j = j' := by omega
    rw [hR.hs] at hs'
    obtain rfl := Option.some.inj hs'
    rw [if_pos rfl, List.flatten_append, hea]
    have : [mRl p z].flatten = mRl p z := by simp
    rw [this]
    refine (ih1 j s hR.hs).app hOn fun r hr o ho => ?_
    obtain ⟨m, hm, ho⟩ := List.mem_flatten.1 ho
    have hu := npB_at (hR.cl m hm) hr ho
    rw [ovR_ovQ (hOn.v r hr) ((ih1 j s hR.hs).v o (List.mem_flatten.2 ⟨m, hm, ho⟩))]
    unfold ucB at hu
    rw [Bool.or_eq_false_iff] at hu
    exact hu.1
   ·rw [if_neg q, List.append_nil]
    exact ih1 j' s' hs'
  ·rw [List.map_append, List.sum_append, ← ih2]
   have : ∀ j' : Nat, sumA (takL Ps (L.take n ++ [z]) (j' : Int)).flatten = sumA (takL Ps (L.take n) (j' : Int)).flatten + (if j' = j then sumA (eaR Ps z) else 0) := fun j' => by
    rw [takL_app, hR.sh]
    by_cases q : j' = j
    ·subst q
     rw [if_pos rfl, if_pos rfl, List.flatten_append, sumA_app]
     simp
    ·rw [if_neg (by omega), if_neg q, List.append_nil]
     omega
   rw [smF_congr (g := fun j' => sumA (takL Ps (L.take n) (j' : Int)).flatten + (if j' = j then sumA (eaR Ps z) else 0)) fun j' _ => this j', smF_one hjl]
   simp
theorem vsE_in {s : ShT} (h : vsE s = 0) : ∀ o ∈ s.cl ++ s.us, 0 ≤ o.x ∧ o.x + o.w ≤ s.wd ∧ 0 ≤ o.y ∧ o.y + o.h ≤ s.ht := by
 have h0 : stE s.nm s.mt s.ga s.gr = 0 := Classical.byContradiction fun k => by
  rw [vs_st k] at h
  exact k h
 rw [vs_go h0] at h
 split at h
 ·split at h
  ·exact absurd h (by decide)
  ·split at h
   ·split at h
    ·rename_i h4
     rw [Bool.and_eq_true] at h4
     intro o ho
     have hi : isR o ⟨0, 0, s.wd, s.ht⟩ = true := by
      rcases List.mem_append.1 ho with q | q
      ·exact List.all_eq_true.1 h4.1 o q
      ·exact List.all_eq_true.1 h4.2 o q
     have := (isR_iff _ _).1 hi
     dsimp only at this
     omega
    ·exact absurd h (by decide)
   ·exact absurd h (by decide)
 ·exact absurd h (by decide)
theorem all_free {S : List ShT} {Ps : List Pc} {bs : Pc → Bool} {t : St} {L : List At6} (z3 : ∀ s ∈ S, vsE s = 0) (z4 : ∀ p ∈ Ps, vpE p (bs p) = 0) (htm : 0 ≤ t.m) (h : ∀ m z, L[m]? = some z → oneE S Ps t (L.take m) z = 0) (hl : L.length = Ps.length) :
  smF (fun i => match Ps[i]? with | some p => sumA p.r | none => 0) Ps.length ≤ smF (fun j => match S[j]? with | some s => frV s | none => 0) S.length := by
 obtain ⟨h1, h2⟩ := all_on (bs := bs) z3 z4 htm h L.length (Nat.le_refl _)
 rw [List.take_length] at h1 h2
 have hr : ∀ m z, L[m]? = some z → ∃ i j p s, OneR S Ps t (L.take m) z i j p s := fun m z hz => oneR_of (h m z hz)
 have hx : ∀ a ∈ L, a.pi.toNat < Ps.length ∧ ∃ p, Ps[a.pi.toNat]? = some p := fun a ha => by
  obtain ⟨m, hm, e⟩ := List.getElem_of_mem ha
  obtain ⟨i, j, p, s, hR⟩ := hr m a (by rw [← e]; exact List.getElem?_eq_getElem hm)
  have e1 := hR.pi
  have e2 : a.pi.toNat = i := by omega
  rw [e2]
  exact ⟨(List.getElem?_eq_some_iff.1 hR.hp).1, p, hR.hp⟩
 have hn : (L.map fun a => a.pi.toNat).Nodup := by
  unfold List.Nodup
  rw [List.pairwise_map, List.pairwise_iff_getElem]
  intro m n hm hn hmn e
  obtain ⟨i, j, p, s, hR⟩ := hr n L[n] (List.getElem?_eq_getElem hn)
  have h3 := hR.nw L[m] (List.mem_of_getElem? (by rw [List.getElem?_take, if_pos hmn]; exact List.getElem?_eq_getElem hm))
  have h4 := hR.pi
  obtain ⟨i', j', p', s', hR'⟩ := hr m L[m] (List.getElem?_eq_getElem hm)
  have h5 := hR'.pi
  omega
 have h3 := sum_all (g := fun i => match Ps[i]? with | some p => sumA p.r | none => 0) Ps.length (L.map fun a => a.pi.toNat) hn (fun x hx' => by
  obtain ⟨a, ha, rfl⟩ := List.mem_map.1 hx'
  exact (hx a ha).1) (by rw [List.length_map, hl])
 rw [← h3, List.map_map]
 have h4 : (L.map ((fun i => match Ps[i]? with | some p => sumA p.r | none => 0) ∘ fun a => a.pi.toNat)) = L.map fun a => sumA (eaR Ps a) := List.map_congr_left fun a ha => by
  obtain ⟨_, p, hp⟩ := hx a ha
  show (match Ps[a.pi.toNat]? with | some p => sumA p.r | none => 0) = _
  unfold eaR
  rw [hp]
  exact (sumA_m p a).symm
 rw [h4, ← h2]
 refine smF_le fun j hj => ?_
 have hs := List.getElem?_eq_getElem hj
 have hm := z3 _ (List.mem_of_getElem? hs)
 have ho := h1 j _ hs
 rw [hs]
 exact sheet_le (vsE_good hm) ho.v ho.ap ho.i ho.o (vsE_in hm)
end RG
end Go.Proofs.YtddhaiaapomdjaaGreat
