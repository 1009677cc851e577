/-
  Nests: whether rectangles are connected: what is reached from the first one by neighbors.
-/
import Derived.Test.YtddhaiaapomdjaaGreatNp2r
import Derived.Deep.LoopGhost
set_option linter.unusedVariables false
set_option linter.unusedSimpArgs false
namespace Go.Proofs.YtddhaiaapomdjaaGreat
set_option linter.unusedVariables false
set_option linter.unusedSimpArgs false
open Go Go.ChangeShapes Go.WideShapes Go.ChangeAt Go.RowKit Go.Deep

namespace RG
/-- how many of the first n are false -/
def cfN (f : Nat → Bool) : Nat → Nat
  | 0 => 0
  | n + 1 => cfN f n + (if f n = true then 0 else 1)
def upF (f : Nat → Bool) (k : Nat) : Nat → Bool := fun j => if j = k then true else f j
theorem upF_at (f : Nat → Bool) (k : Nat) : upF f k k = true := by simp [upF]
theorem upF_of {f : Nat → Bool} {k j : Nat} (h : f j = true) : upF f k j = true := by unfold upF; split <;> simp [h]
theorem upF_or {f : Nat → Bool} {k j : Nat} (h : upF f k j = true) : j = k ∨ f j = true := by
  unfold upF at h
  by_cases e : j = k
  · exact .inl e
  · rw [if_neg e] at h
    exact .inr h
theorem cfN_far {f : Nat → Bool} {k : Nat} : ∀ n, n ≤ k → cfN (upF f k) n = cfN f n
  | 0, _ => rfl
  | n + 1, h => by
    unfold cfN
    rw [cfN_far n (by omega)]
    have : upF f k n = f n := by unfold upF; rw [if_neg (by omega)]
    rw [this]
theorem cfN_up {f : Nat → Bool} {k : Nat} (hf : f k = false) : ∀ n, k < n → cfN (upF f k) n + 1 = cfN f n
  | 0, h => by omega
  | n + 1, h => by
    unfold cfN
    by_cases e : k = n
    · subst e
      rw [cfN_far k (Nat.le_refl _), upF_at, hf]
      simp
    · have ih := cfN_up hf n (by omega)
      have : upF f k n = f n := by unfold upF; rw [if_neg (by omega)]
      rw [this]
      omega
theorem cfN_none : ∀ n, cfN (fun _ => false) n = n
  | 0 => rfl
  | n + 1 => by unfold cfN; rw [cfN_none n]; simp
/-- what is reached from the first one by neighbors -/
inductive Rch (nb : Nat → Nat → Bool) (n : Nat) : Nat → Prop
  | zero : Rch nb n 0
  | step {i j : Nat} (h : Rch nb n i) (hj : j < n) (e : nb i j = true) : Rch nb n j
def Con (nb : Nat → Nat → Bool) (n : Nat) : Prop := ∀ j, j < n → Rch nb n j
structure CnI (nb : Nat → Nat → Bool) (n : Nat) (f : Nat → Bool) (W : List Int) : Prop where
  r0 : f 0 = true
  rc : ∀ j, f j = true → Rch nb n j
  wk : ∀ z ∈ W, ∃ j : Nat, z = j ∧ j < n ∧ f j = true
  cl : ∀ i j, f i = true → (i : Int) ∉ W → j < n → nb i j = true → f j = true
/-- while the neighbors of i are looked at, those from k on are left -/
structure CnJ (nb : Nat → Nat → Bool) (n : Nat) (f : Nat → Bool) (W : List Int) (i k : Nat) : Prop where
  r0 : f 0 = true
  rc : ∀ j, f j = true → Rch nb n j
  wk : ∀ z ∈ W, ∃ j : Nat, z = j ∧ j < n ∧ f j = true
  cl : ∀ a j, f a = true → (a : Int) ∉ W → j < n → nb a j = true → f j = true ∨ (a = i ∧ k ≤ j)
  fi : f i = true
theorem CnI.start {nb : Nat → Nat → Bool} {n : Nat} (hn : 0 < n) : CnI nb n (upF (fun _ => false) 0) [0] := by
  refine ⟨upF_at _ _, fun j h => ?_, fun z hz => ?_, fun i j hi hm _ _ => ?_⟩
  · rcases upF_or h with e | e
    · subst e; exact .zero
    · cases e
  · rw [List.mem_singleton] at hz
    exact ⟨0, hz, hn, upF_at _ _⟩
  · rcases upF_or hi with e | e
    · subst e; simp at hm
    · cases e
theorem CnI.pop {nb : Nat → Nat → Bool} {n i : Nat} {f : Nat → Bool} {W : List Int} (h : CnI nb n f (W ++ [(i : Int)])) : CnJ nb n f W i 0 ∧ i < n := by
  obtain ⟨j, e, hj, hf⟩ := h.wk i (by simp)
  have e' : i = j := by omega
  subst e'
  refine ⟨⟨h.r0, h.rc, fun z hz => h.wk z (List.mem_append_left _ hz), fun a j ha hm hj' hn => ?_, hf⟩, hj⟩
  by_cases e : a = i
  · exact .inr ⟨e, Nat.zero_le _⟩
  · exact .inl (h.cl a j ha (by simp only [List.mem_append, List.mem_singleton, not_or]; exact ⟨hm, by omega⟩) hj' hn)
theorem CnJ.skip {nb : Nat → Nat → Bool} {n i k : Nat} {f : Nat → Bool} {W : List Int} (h : CnJ nb n f W i k) (e : f k = true ∨ nb i k = false) : CnJ nb n f W i (k + 1) := by
  refine ⟨h.r0, h.rc, h.wk, fun a j ha hm hj hn => ?_, h.fi⟩
  rcases h.cl a j ha hm hj hn with c | ⟨c, d⟩
  · exact .inl c
  · by_cases q : j = k
    · subst q
      rcases e with e | e
      · exact .inl e
      · rw [c] at hn
        rw [hn] at e
        cases e
    · exact .inr ⟨c, by omega⟩
theorem CnJ.push {nb : Nat → Nat → Bool} {n i k : Nat} {f : Nat → Bool} {W : List Int} (h : CnJ nb n f W i k) (hk : k < n) (e : nb i k = true) : CnJ nb n (upF f k) (W ++ [(k : Int)]) i (k + 1) := by
  refine ⟨upF_of h.r0, fun j hj => ?_, fun z hz => ?_, fun a j ha hm hj hn => ?_, upF_of h.fi⟩
  · rcases upF_or hj with c | c
    · subst c; exact .step (h.rc i h.fi) hk e
    · exact h.rc j c
  · rcases List.mem_append.1 hz with c | c
    · obtain ⟨j, h1, h2, h3⟩ := h.wk z c
      exact ⟨j, h1, h2, upF_of h3⟩
    · rw [List.mem_singleton] at c
      exact ⟨k, c, hk, upF_at _ _⟩
  · simp only [List.mem_append, List.mem_singleton, not_or] at hm
    rcases upF_or ha with c | c
    · subst c; exact absurd rfl hm.2
    · rcases h.cl a j c hm.1 hj hn with d | ⟨d, q⟩
      · exact .inl (upF_of d)
      · by_cases q' : j = k
        · subst q'; exact .inl (upF_at _ _)
        · exact .inr ⟨d, by omega⟩
theorem CnJ.out {nb : Nat → Nat → Bool} {n i : Nat} {f : Nat → Bool} {W : List Int} (h : CnJ nb n f W i n) : CnI nb n f W :=
  ⟨h.r0, h.rc, h.wk, fun a j ha hm hj hn => by
    rcases h.cl a j ha hm hj hn with c | ⟨_, c⟩
    · exact c
    · omega⟩
theorem CnI.all {nb : Nat → Nat → Bool} {n : Nat} {f : Nat → Bool} (h : CnI nb n f []) {j : Nat} (hj : Rch nb n j) : f j = true := by
  induction hj with
  | zero => exact h.r0
  | step _ hj e ih => exact h.cl _ _ ih (by simp) hj e
theorem CnI.yes {nb : Nat → Nat → Bool} {n : Nat} {f : Nat → Bool} {W : List Int} (h : CnI nb n f W) (k : ∀ j, j < n → f j = true) : Con nb n := fun j hj => h.rc j (k j hj)
theorem CnI.no {nb : Nat → Nat → Bool} {n : Nat} {f : Nat → Bool} (h : CnI nb n f []) {k : Nat} (hk : k < n) (e : f k = false) : ¬ Con nb n := fun c => by
  have := h.all (c k hk)
  rw [e] at this
  cases this
/-- the neighbors of a list -/
def nbL (l : List Rc) (i j : Nat) : Bool := match l[i]?, l[j]? with
  | some a, some b => nbB a b
  | _, _ => false
theorem nbL_at {l : List Rc} {i j : Nat} {a b : Rc} (h : l[i]? = some a) (k : l[j]? = some b) : nbL l i j = nbB a b := by simp [nbL, h, k]
/-- a block of truth values -/
def Bls (w : World) (B : Nat) (g : Nat → Bool) (n : Nat) : Prop := B < w.heap.size ∧ ∀ j, j < n → w.cell? ⟨B, j, none⟩ = some (.bool (g j)) ∧ w.frozen? ⟨B, j, none⟩ = false
theorem Bls.gr {w w' : World} {B n : Nat} {f : Nat → Bool} (h : Bls w B f n) (g : Gr w w') : Bls w' B f n :=
  ⟨Nat.lt_of_lt_of_le h.1 g.size, fun j hj => ⟨(g.cell B j h.1).trans (h.2 j hj).1, (g.frozen B j h.1).trans (h.2 j hj).2⟩⟩
theorem Bls.grown {w w' : World} {B lo n : Nat} {f : Nat → Bool} {row : Option Nat} (h : Bls w B f n) (hg : w.grownBy w' row) (hr : ∀ k, row = some k → lo ≤ k) (hB : B < lo) : Bls w' B f n := by
  have hne : some B ≠ row := fun e => by have := hr B e.symm; omega
  refine ⟨?_, fun j hj => ⟨(hg.cell_far ⟨B, j, none⟩ h.1 hne).trans (h.2 j hj).1, (hg.frozen_far ⟨B, j, none⟩ h.1 hne).trans (h.2 j hj).2⟩⟩
  have hb := hg.block B h.1 hne
  have h1 := h.1
  refine Nat.not_le.1 fun hle => ?_
  rw [Array.getElem?_eq_none hle, Array.getElem?_eq_getElem h1] at hb
  cases hb
theorem Bls.up {w : World} {B n k : Nat} {f : Nat → Bool} (h : Bls w B f n) (hk : k < n) : Bls (w.setCell ⟨B, k, none⟩ (.bool true)) B (upF f k) n := by
  refine ⟨by simpa using h.1, fun j hj => ?_⟩
  obtain ⟨c1, f1⟩ := h.2 j hj
  obtain ⟨c2, f2⟩ := h.2 k hk
  unfold upF
  by_cases hjk : j = k
  · subst hjk
    rw [if_pos rfl]
    exact ⟨by simp [go_sem, c2], by simp [go_sem, f1]⟩
  · rw [if_neg hjk]
    exact ⟨by simp [go_sem, c1, c2, hjk], by simp [go_sem, f1]⟩
theorem infoBl : (Tryz.prog.info? 4).map (fun i => (i.zero, i.size, i.bytes)) = some (some (.bool false), 1, 1) := by kernel_rfl
theorem make_bls (n : Nat) (hn : n ≤ 1000) (w : World) : (Instr.makeSlice 72 (.int .i64 (n : Int)) (.int .i64 (n : Int))).run Tryz.prog w = .ok (.slice (some ⟨w.heap.size, 0, none⟩) n n) (w.alloc (.cells (madeCells #[.bool false] n) 4)) := by
  obtain ⟨i0, hi0, hz0, hz1, hz2⟩ := info_parts infoBl
  have := run_makeSlice (P := Tryz.prog) w 72 4 i0 (.bool false) Tryz.underlying72 hi0 hz0 .i64 .i64 (n : Int) (n : Int) (by omega) (by omega) (by rw [hz1]; omega) (by rw [hz2]; omega) (by omega)
  rw [hz1, show (n : Int).toNat = n by omega, Nat.mul_one] at this
  exact this
theorem made_bls (n : Nat) (w : World) : Bls (w.alloc (.cells (madeCells #[.bool false] n) 4)) w.heap.size (fun _ => false) n := by
  obtain ⟨h0, h1, h2⟩ := Made.new w (madeCells #[.bool false] n) 4
  refine ⟨h0, fun j hj => ⟨?_, h2 j⟩⟩
  rw [h1 j]
  simp [madeCells, hj, Nat.mod_one]
theorem own_farN {w : World} {base : Nat} {e : TypeId} {k n : Nat} {v : Value} {xs : List Value} (h : w.ownsRow base e k v n xs) {a : Addr} (ha : a.block < base) (u : Value) : (w.setCell a u).ownsRow base e k v n xs := by
  obtain ⟨h0, h1 | ⟨b, cap, cur, h1, hb, h2, h3⟩⟩ := id h
  · exact ⟨h0, .inl h1⟩
  · refine ⟨h0, .inr ⟨b, cap, cur, h1, hb, ?_, h3⟩⟩
    rw [← h2]
    exact Below.heap_setCell w a u b (by omega)
theorem elIntN : ElT Tryz.prog 44 3 1 8 := elT_of (.int .i64 0) Tryz.underlying44 (by kernel_rfl) rfl
theorem own_snoc {w : World} {base d m : Nat} {A : Option Addr} {W : List Int} {z : Int} (h : OwnL w base 3 1 inL (.slice A (m + 1) d) (W ++ [z])) (hm : W.length = m) :
    (∃ g, A = some ⟨g, 0, none⟩ ∧ g < w.heap.size ∧ w.cell? ⟨g, m, none⟩ = some (iv z)) ∧ m + 1 ≤ d ∧ d ≤ 9223372036854775807 ∧ OwnL w base 3 1 inL (.slice A m d) W := by
  obtain ⟨_, rd, h1, h2⟩ := OwnL.rd (c := inL) (fun _ => rfl) h
  obtain ⟨b, off, hA, hc⟩ := rd.in_ (show (W ++ [z])[m]? = some z by rw [List.getElem?_append_right (by omega)]; simp [hm])
  subst hA
  have hoff : off = 0 := by
    rcases h.2 with ⟨h0, _⟩ | ⟨g', cap', cur, hv, _⟩
    · cases h0
    · injection hv with hv
      injection hv with hv
      injection hv with _ hv
  subst hoff
  rw [Nat.zero_add] at hc
  refine ⟨⟨b, rfl, cell_lt (by rw [hc]; rfl), hc⟩, by simp at h1; omega, by unfold maxLen at h2; omega, ?_⟩
  unfold OwnL at h ⊢
  rw [hm]
  rw [List.length_append, hm] at h
  rcases h.2 with ⟨h0, _⟩ | ⟨g', cap', cur, hv, hg, hh, hn', hcap, hsz, htake⟩
  · cases h0
  · cases hv
    refine ⟨by rw [fm_len (c := inL) (k := 1) (fun _ => rfl), hm], .inr ⟨b, d, cur, rfl, hg, hh, by simp at hn'; omega, hcap, hsz, ?_⟩⟩
    rw [List.flatMap_append] at htake
    have e : (W.flatMap inL).length = m * 1 := by rw [fm_len (c := inL) (k := 1) (fun _ => rfl), hm]
    have e2 : cur.toList.take (m * 1) = (cur.toList.take ((m + [z].length) * 1)).take (m * 1) := by rw [List.take_take, Nat.min_eq_left (by simp)]
    rw [e2, htake, ← e, List.take_left']
    rfl
set_option maxHeartbeats 8000000 in
set_option maxRecDepth 100000 in
theorem isConnected_any (A : Option Addr) (c : Nat) (l : List Rc) (b : Bool) (w : World) (hl : SlR w A c l) (h0 : 0 < l.length) (h1 : l.length ≤ 1000) (hv : ∀ r ∈ l, vrR r = true) (hb : b = true ↔ Con (nbL l) l.length) :
    Calls Tryz.prog 63 #[.slice A l.length c] w fun e w' => e = .returned (.bool b) ∧ Gr w w' := by
  have n1 := hl.cap
  have n2 := hl.capB
  have HL := hide hl
  have HV := hide hv
  have HB := hide hb
  have HMK := hide (make_bls l.length h1)
  obtain ⟨n, hn⟩ : ∃ n, l.length = n := ⟨_, rfl⟩
  have HN := hide hn
  rw [hn] at h0 h1 n1 HMK HB ⊢
  clear hl hv hb hn
  have HMK' := HMK.out
  go_enter Tryz.func63, Tryz.ntmps63
  go_upto_region 2 with fail
  have hm0 := hide (made_bls n w)
  have gM : Gr w (w.alloc (.cells (madeCells #[.bool false] n) 4)) := (by with_reducible repeat (first | exact Gr.refl _ | assumption | refine Gr.alloc ?_ _ | refine Gr.drewN ?_ _ | refine Gr.drew ?_ | refine Gr.setCell ?_ (by first | (dsimp only; omega) | (simp only [World.size_alloc]; omega) | (refine Gr.size ?_; (repeat (first | exact Gr.refl _ | assumption | refine Gr.alloc ?_ _ | refine Gr.drewN ?_ _ | refine Gr.drew ?_ | refine Gr.trans ?_ (by assumption))); done)) _ | refine Gr.trans ?_ (by assumption)))
  obtain ⟨B, hB⟩ : ∃ B, w.heap.size = B := ⟨_, rfl⟩
  have hwB : w.heap.size ≤ B := by omega
  have hBl : B < (w.alloc (.cells (madeCells #[.bool false] n) 4)).heap.size := by simp; omega
  have szM : (w.alloc (.cells (madeCells #[.bool false] n) 4)).heap.size = B + 1 := by simp; omega
  rw [hB] at hm0 ⊢
  generalize w.alloc (.cells (madeCells #[.bool false] n) 4) = w1 at *
  have HSZ := hide szM
  clear hB szM HMK' HMK
  have y0 := (hm0.out.2 0 h0).1
  have f0 := (hm0.out.2 0 h0).2
  have h00 : (0 : Int) < (n : Int) := by omega
  go_upto_region 3 with fail
  have hm1 := hide (hm0.out.up h0)
  have gM1 : Gr w (w1.setCell ⟨B, 0, none⟩ (.bool true)) := Gr.setCell gM (by dsimp only; omega) _
  have szM1 := hide (show (w1.setCell ⟨B, 0, none⟩ (.bool true)).heap.size = B + 1 by rw [World.size_setCell]; exact HSZ.out)
  generalize w1.setCell ⟨B, 0, none⟩ (.bool true) = w2 at *
  clear y0 f0 hm0 HSZ gM hBl
  have O1 := hide (own_lit (c := inL) (k := 1) w2 (B + 1) 3 #[iv 0] [0] (by rw [szM1.out]; exact Nat.le_refl _) (fun _ => rfl) rfl (by decide))
  have hm2 := hide (hm1.out.gr (show Gr w2 (w2.alloc (.cells #[iv 0] 3)) from Gr.alloc (Gr.refl _) _))
  have gM2 : Gr w (w2.alloc (.cells #[iv 0] 3)) := (by with_reducible repeat (first | exact Gr.refl _ | assumption | refine Gr.alloc ?_ _ | refine Gr.drewN ?_ _ | refine Gr.drew ?_ | refine Gr.setCell ?_ (by first | (dsimp only; omega) | (simp only [World.size_alloc]; omega) | (refine Gr.size ?_; (repeat (first | exact Gr.refl _ | assumption | refine Gr.alloc ?_ _ | refine Gr.drewN ?_ _ | refine Gr.drew ?_ | refine Gr.trans ?_ (by assumption))); done)) _ | refine Gr.trans ?_ (by assumption)))
  have szM2 : B + 1 ≤ (w2.alloc (.cells #[iv 0] 3)).heap.size := by rw [World.size_alloc, szM1.out]; omega
  go_wp2
  simp only [szM1.out]
  have O2 := hide (show OwnL (w2.alloc (.cells #[iv 0] 3)) (B + 1) 3 1 inL (.slice (some ⟨B + 1, 0, none⟩) 1 1) [0] by have := O1.out; rw [szM1.out] at this; exact this)
  clear O1 szM1 hm1 gM1
  generalize w2.alloc (.cells #[iv 0] 3) = w3 at *
  go_loopg [4] (2 * cfN (upF (fun _ => false) 0) n + 1) (fun g v wx => ∃ (W : List Int) (f : Nat → Bool) (A' : Option Addr) (d' : Nat), v = .slice A' W.length d' ∧ g = 2 * cfN f n + W.length ∧ W.length ≤ 2000 ∧ W.length + cfN f n ≤ n ∧ Gr w wx ∧ B + 1 ≤ wx.heap.size ∧ Hid (Bls wx B f n) ∧ Hid (OwnL wx (B + 1) 3 1 inL (.slice A' W.length d') W) ∧ Hid (CnI (nbL l) n f W))
  case atStart => exact ⟨[0], upF (fun _ => false) 0, some ⟨B + 1, 0, none⟩, 1, by first | rfl | trivial, by first | rfl | trivial, by decide, by have := cfN_up (f := fun _ => false) (k := 0) rfl n h0; rw [cfN_none] at this; simp; omega, gM2, szM2, hm2, O2, hide (CnI.start h0)⟩
  case round =>
    clear hm2 O2 gM2 szM2
    obtain ⟨W, f, A1, d1, rfl, hgk, hW2, hWn, g, szr, hbl, hO, hI⟩ := hrel
    have HGK := hide hgk
    clear hgk
    rcases List.eq_nil_or_concat W with hW | ⟨W0, z, hW⟩
    · subst hW
      have HGO := hide (show b = true ↔ ∀ j, j < n → f j = true from ⟨fun hb j hj => hI.out.all (HB.out.1 hb j hj), fun h => HB.out.2 (hI.out.yes h)⟩)
      clear hO HGK hWn hW2
      simp only [List.length_nil]
      go_wp2
      obtain ⟨w4, hw4⟩ : ∃ w4, w4 = wr := ⟨_, rfl⟩
      rw [← hw4] at g szr hbl ⊢
      clear hw4
      go_loopw [60] (fun i wx => ∃ k : Nat, k ≤ n ∧ i = iv k ∧ w4 = wx ∧ Hid (∀ j, j < k → f j = true)) (fun i _ => n - (intOf i).toNat)
      case atStart => exact ⟨0, by omega, rfl, by first | rfl | trivial, hide (fun j h => absurd h (Nat.not_lt_zero j))⟩
      case round =>
        obtain ⟨k, hk, rfl, rfl, HS⟩ := hrel
        by_cases hkn : k < n
        · have y0 := (hbl.out.2 k hkn).1
          have hk0 : (0 : Int) ≤ (k : Int) := by omega
          have hk1 : (k : Int) < (n : Int) := by omega
          have hBr := hbl.out.1
          cases hf : f k with
          | true =>
            rw [hf] at y0
            have HS' := hide (show ∀ j, j < k + 1 → f j = true by
              intro j hj
              rcases Nat.lt_or_ge j k with h | h
              · exact HS.out j h
              · obtain rfl : j = k := by omega
                exact hf)
            clear hf
            go_wp2
            go_roundw
            case rel => exact ⟨k + 1, by omega, by go_num, by first | rfl | trivial, HS'⟩
            case measure => simp only [intOf]; omega
          | false =>
            rw [hf] at y0
            have HE := hide (show b = false by
              rw [Bool.eq_false_iff]
              intro hb
              have := HGO.out.1 hb k hkn
              rw [hf] at this
              cases this)
            clear hf
            go_wp2
            go_ret
            exact ⟨ret_bool HE.out.symm, g⟩
        · obtain rfl : k = n := by omega
          have HE := hide (show b = true from HGO.out.2 (fun j hj => HS.out j hj))
          go_wp2
          go_ret
          exact ⟨ret_bool HE.out.symm, g⟩
    · rw [List.concat_eq_append] at hW
      subst hW
      obtain ⟨m, hm⟩ : ∃ m, W0.length = m := ⟨_, rfl⟩
      have HL0 := hide (show (W0 ++ [z]).length = m + 1 by rw [List.length_append, hm]; rfl)
      have HM := hide hm
      obtain ⟨i, hzi, hin, hfi⟩ := hI.out.wk z (by simp)
      subst hzi
      rw [HL0.out] at hW2 hWn HGK ⊢
      have hO' := hO.out
      rw [HL0.out] at hO'
      obtain ⟨⟨gq, hA, hgq, yw⟩, q1, q2, hO0⟩ := own_snoc hO' hm
      subst hA
      have HO0 := hide hO0
      have HJ := hide hI.out.pop.1
      clear hO hI hO' hO0 hm HL0
      have hm0 : (0 : Int) ≤ (m : Int) := by omega
      have hm1 : (m : Int) < (m : Int) + 1 := by omega
      have hm2 : (m : Int) ≤ (d1 : Int) := by omega
      go_wp2
      obtain ⟨ri, hri⟩ : ∃ r, l[i]? = some r := ⟨_, List.getElem?_eq_getElem (by rw [HN.out]; exact hin)⟩
      have HRI := hide hri
      clear hri yw hm0 hm1 hm2 hfi
      obtain ⟨w4, hw4⟩ : ∃ w4, w4 = wr := ⟨_, rfl⟩
      have g4 := g
      have szr4 := szr
      rw [← hw4] at g szr hbl HO0 hgq ⊢
      clear hw4 g4 szr4
      go_loopw [4, 31] (fun v ix wx => ∃ (k : Nat) (W : List Int) (f : Nat → Bool) (A' : Option Addr) (d' : Nat), k ≤ n ∧ ix = iv k ∧ v = .slice A' W.length d' ∧ Hid (2 * cfN f n + W.length < gk) ∧ W.length ≤ 2000 ∧ W.length + cfN f n ≤ n ∧ Gr w wx ∧ B + 1 ≤ wx.heap.size ∧ Hid (Bls wx B f n) ∧ Hid (OwnL wx (B + 1) 3 1 inL (.slice A' W.length d') W) ∧ Hid (CnJ (nbL l) n f W i k)) (fun _ ix _ => n - (intOf ix).toNat)
      case atStart => exact ⟨0, W0, f, some ⟨gq, 0, none⟩, d1, by omega, rfl, by rw [HM.out], hide (by rw [HGK.out, HM.out]; omega), by rw [HM.out]; omega, by rw [HM.out]; omega, g, szr, hbl, by rw [HM.out]; exact HO0, HJ⟩
      case round =>
        clear HO0 HJ HGK HM hbl hgq szr g hW2 hWn q1 q2
        obtain ⟨k, W, f, A1, d1, hk, rfl, rfl, HG, hW2, hWn, g, szr, hbl, hO, hJ⟩ := hrel
        by_cases hkn : k < n
        · obtain ⟨rk, hrk⟩ : ∃ r, l[k]? = some r := ⟨_, List.getElem?_eq_getElem (by rw [HN.out]; exact hkn)⟩
          obtain ⟨b1, o1, hA1, x0, x1, x2, x3⟩ := (HL.out.gr g).at_ HRI.out
          obtain ⟨b2, o2, hA2, z0, z1, z2, z3⟩ := (HL.out.gr g).at_ hrk
          subst hA1
          cases hA2
          have hbr : b1 < wr.heap.size := cell_lt (by rw [x0]; rfl)
          have hBr := hbl.out.1
          have hk0 : (0 : Int) ≤ (k : Int) := by omega
          have hk1 : (k : Int) < (n : Int) := by omega
          have hi0 : (0 : Int) ≤ (i : Int) := by omega
          have hi1 : (i : Int) < (n : Int) := by omega
          have y0 := (hbl.out.2 k hkn).1
          have f0 := (hbl.out.2 k hkn).2
          have HNB := hide (fun w' => neighbors_any ri rk w' (HV.out _ (List.mem_of_getElem? HRI.out)) (HV.out _ (List.mem_of_getElem? hrk)))
          have HNL := hide (nbL_at HRI.out hrk)
          clear hrk
          cases hf : f k with
          | true =>
            rw [hf] at y0
            have HJ' := hide (hJ.out.skip (.inl hf))
            clear hf
            go_wp2
            have GC := @GrW.cell
            refine wp_region_grw _ (by kernel_rfl) (by kernel_rfl) (Gr.refl _) ?_
            repeat (go_big_quiet_step ((first | fail)))
            refine wpQuiet_nil ?_
            intro wq hwq
            obtain ⟨gq, hwq'⟩ := hwq
            subst hwq'
            clear GC
            have gq1 := gq.gr
            generalize gq.w = wq at gq1 ⊢
            obtain ⟨Xq, Yq, cq, fq⟩ := gq1.use
            have sq := gq1.size
            (try simp only [World.size_alloc, World.size_setCell, World.heap_drewN] at sq)
            go_wp2
            go_roundw
            case rel => exact ⟨k + 1, W, f, _, d1, by omega, by go_num, rfl, HG, hW2, hWn, (by with_reducible repeat (first | exact Gr.refl _ | assumption | refine Gr.alloc ?_ _ | refine Gr.drewN ?_ _ | refine Gr.drew ?_ | refine Gr.setCell ?_ (by first | (dsimp only; omega) | (simp only [World.size_alloc]; omega) | (refine Gr.size ?_; (repeat (first | exact Gr.refl _ | assumption | refine Gr.alloc ?_ _ | refine Gr.drewN ?_ _ | refine Gr.drew ?_ | refine Gr.trans ?_ (by assumption))); done)) _ | refine Gr.trans ?_ (by assumption))), Nat.le_trans szr sq, hide (hbl.out.gr (by with_reducible repeat (first | exact Gr.refl _ | assumption | refine Gr.alloc ?_ _ | refine Gr.drewN ?_ _ | refine Gr.drew ?_ | refine Gr.setCell ?_ (by first | (dsimp only; omega) | (simp only [World.size_alloc]; omega) | (refine Gr.size ?_; (repeat (first | exact Gr.refl _ | assumption | refine Gr.alloc ?_ _ | refine Gr.drewN ?_ _ | refine Gr.drew ?_ | refine Gr.trans ?_ (by assumption))); done)) _ | refine Gr.trans ?_ (by assumption)))), hide (hO.out.gr (by with_reducible repeat (first | exact Gr.refl _ | assumption | refine Gr.alloc ?_ _ | refine Gr.drewN ?_ _ | refine Gr.drew ?_ | refine Gr.setCell ?_ (by first | (dsimp only; omega) | (simp only [World.size_alloc]; omega) | (refine Gr.size ?_; (repeat (first | exact Gr.refl _ | assumption | refine Gr.alloc ?_ _ | refine Gr.drewN ?_ _ | refine Gr.drew ?_ | refine Gr.trans ?_ (by assumption))); done)) _ | refine Gr.trans ?_ (by assumption)))), HJ'⟩
            case measure => simp only [intOf]; omega
          | false =>
            rw [hf] at y0
            cases hnb : nbB ri rk with
            | false =>
              have HJ' := hide (hJ.out.skip (.inr (HNL.out.trans hnb)))
              rw [hnb] at HNB
              clear hf hnb
              go_wp2
              have GC := @GrW.cell
              refine wp_region_grw _ (by kernel_rfl) (by kernel_rfl) (Gr.refl _) ?_
              repeat (go_big_quiet_step ((first | (go_at_call 102; exact quiet_grw (HNB.out _)))))
              refine wpQuiet_nil ?_
              intro wq hwq
              obtain ⟨gq, hwq'⟩ := hwq
              subst hwq'
              clear GC
              have gq1 := gq.gr
              generalize gq.w = wq at gq1 ⊢
              obtain ⟨Xq, Yq, cq, fq⟩ := gq1.use
              have sq := gq1.size
              (try simp only [World.size_alloc, World.size_setCell, World.heap_drewN] at sq)
              go_wp2
              go_roundw
              case rel => exact ⟨k + 1, W, f, _, d1, by omega, by go_num, rfl, HG, hW2, hWn, (by with_reducible repeat (first | exact Gr.refl _ | assumption | refine Gr.alloc ?_ _ | refine Gr.drewN ?_ _ | refine Gr.drew ?_ | refine Gr.setCell ?_ (by first | (dsimp only; omega) | (simp only [World.size_alloc]; omega) | (refine Gr.size ?_; (repeat (first | exact Gr.refl _ | assumption | refine Gr.alloc ?_ _ | refine Gr.drewN ?_ _ | refine Gr.drew ?_ | refine Gr.trans ?_ (by assumption))); done)) _ | refine Gr.trans ?_ (by assumption))), Nat.le_trans szr sq, hide (hbl.out.gr (by with_reducible repeat (first | exact Gr.refl _ | assumption | refine Gr.alloc ?_ _ | refine Gr.drewN ?_ _ | refine Gr.drew ?_ | refine Gr.setCell ?_ (by first | (dsimp only; omega) | (simp only [World.size_alloc]; omega) | (refine Gr.size ?_; (repeat (first | exact Gr.refl _ | assumption | refine Gr.alloc ?_ _ | refine Gr.drewN ?_ _ | refine Gr.drew ?_ | refine Gr.trans ?_ (by assumption))); done)) _ | refine Gr.trans ?_ (by assumption)))), hide (hO.out.gr (by with_reducible repeat (first | exact Gr.refl _ | assumption | refine Gr.alloc ?_ _ | refine Gr.drewN ?_ _ | refine Gr.drew ?_ | refine Gr.setCell ?_ (by first | (dsimp only; omega) | (simp only [World.size_alloc]; omega) | (refine Gr.size ?_; (repeat (first | exact Gr.refl _ | assumption | refine Gr.alloc ?_ _ | refine Gr.drewN ?_ _ | refine Gr.drew ?_ | refine Gr.trans ?_ (by assumption))); done)) _ | refine Gr.trans ?_ (by assumption)))), HJ'⟩
              case measure => simp only [intOf]; omega
            | true =>
              have HJ' := hide (hJ.out.push hkn (HNL.out.trans hnb))
              have HCF := hide (cfN_up hf n hkn)
              rw [hnb] at HNB
              clear hnb
              go_wp2
              have GC := @GrW.cell
              refine wp_region_grw _ (by kernel_rfl) (by kernel_rfl) (Gr.refl _) ?_
              repeat (go_big_quiet_step ((first | (go_at_call 102; exact quiet_grw (HNB.out _)))))
              refine wpQuiet_nil ?_
              intro wq hwq
              obtain ⟨gq, hwq'⟩ := hwq
              subst hwq'
              clear GC
              have gq1 := gq.gr
              generalize gq.w = wq at gq1 ⊢
              obtain ⟨Xq, Yq, cq, fq⟩ := gq1.use
              have sq := gq1.size
              (try simp only [World.size_alloc, World.size_setCell, World.heap_drewN] at sq)
              obtain ⟨W2, hW2e⟩ : ∃ W2, W ++ [(k : Int)] = W2 := ⟨_, rfl⟩
              have hW2l : W2.length ≤ W.length + 1 := by rw [← hW2e, List.length_append]; exact Nat.le_refl _
              rw [hW2e] at HJ'
              have HY := hide hW2e
              clear hW2e hf
              go_upto_region 12 with fail
              have hm1 := hide ((hbl.out.gr gq1).up hkn)
              have gS : Gr w (wq.setCell ⟨B, k, none⟩ (.bool true)) := Gr.setCell (g.trans gq1) (by dsimp only; omega) _
              have szS : B + 1 ≤ (wq.setCell ⟨B, k, none⟩ (.bool true)).heap.size := by rw [World.size_setCell]; exact Nat.le_trans szr sq
              have hOS := hide (show OwnL (wq.setCell ⟨B, k, none⟩ (.bool true)) (B + 1) 3 1 inL (.slice A1 W.length d1) W from own_farN (hO.out.gr gq1) (by dsimp only; omega) _)
              have hOLT := hide (fun k hk => (World.ownsRow.lt hOS.out k hk).1)
              clear y0 f0 x0 x1 x2 x3 z0 z1 z2 z3 cq fq hbl hO
              generalize wq.setCell ⟨B, k, none⟩ (.bool true) = wS at *
              go_upto_region 13 with (refine wpList_app1 rfl _ _ _ rfl inL (B + 1) 3 1 8 elIntN (by decide) W (k : Int) W2 HY.out _ rfl (OwnL.gr hOS.out (by with_reducible repeat (first | exact Gr.refl _ | assumption | refine Gr.alloc ?_ _ | refine Gr.drewN ?_ _ | refine Gr.drew ?_ | refine Gr.setCell ?_ (by first | (dsimp only; omega) | (simp only [World.size_alloc]; omega) | (refine Gr.size ?_; (repeat (first | exact Gr.refl _ | assumption | refine Gr.alloc ?_ _ | refine Gr.drewN ?_ _ | refine Gr.drew ?_ | refine Gr.trans ?_ (by assumption))); done)) _ | refine Gr.trans ?_ (by assumption)))) _ 1 rfl rfl (by intro j u hu; refine newsA _ #[iv k] 3 j u ?_; exact hu) (by intro u hu; simp at hu; subst hu; rfl) (by omega) (by decide) (by simp only [World.size_alloc]; omega) ?_; intro gg cap1 w8 hO8 hG8 hgrow hgb hg8)
              have HB8 := hide (Bls.grown (lo := B + 1) (hm1.out.gr (show Gr wS _ from Gr.alloc (Gr.refl _) _)) hgrow hOLT.out (by omega))
              have HO8 := hide hO8
              have g8 := hG8 w (gS.trans (by with_reducible repeat (first | exact Gr.refl _ | assumption | refine Gr.alloc ?_ _ | refine Gr.drewN ?_ _ | refine Gr.drew ?_ | refine Gr.setCell ?_ (by first | (dsimp only; omega) | (simp only [World.size_alloc]; omega) | (refine Gr.size ?_; (repeat (first | exact Gr.refl _ | assumption | refine Gr.alloc ?_ _ | refine Gr.drewN ?_ _ | refine Gr.drew ?_ | refine Gr.trans ?_ (by assumption))); done)) _ | refine Gr.trans ?_ (by assumption)))) (by omega)
              have hs8 : B + 1 ≤ w8.heap.size := by have := HB8.out.1; omega
              have HG8 := hide (show 2 * cfN (upF f k) n + W2.length < gk by have := HG.out; have := HCF.out; omega)
              have hWn8 : W2.length + cfN (upF f k) n ≤ n := by have := HCF.out; omega
              have hW28 : W2.length ≤ 2000 := by omega
              clear hG8 hO8 hgrow
              go_wp2
              go_roundw
              case rel => exact ⟨k + 1, W2, upF f k, some ⟨gg, 0, none⟩, cap1, by omega, by go_num, rfl, HG8, hW28, hWn8, g8, hs8, HB8, HO8, HJ'⟩
              case measure => simp only [intOf]; omega
        · obtain rfl : k = n := by omega
          have HI := hide hJ.out.out
          go_wp2
          go_roundg (2 * cfN f k + W.length)
          case measure => exact HG.out
          case rel => exact ⟨W, f, A1, d1, rfl, rfl, hW2, hWn, g, szr, hbl, hO, HI⟩
end RG
end Go.Proofs.YtddhaiaapomdjaaGreat
