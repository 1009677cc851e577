/-
  The sets of needs as numbers, on both sides.
-/
import Derived.Test.YtfndhddnglcliaaSb3
import Derived.Test.YtfndhddnglcliaaSb1
set_option linter.unusedVariables false
set_option linter.unusedSimpArgs false
namespace Go.Proofs.Ytfndhddnglcliaa
set_option linter.unusedVariables false
set_option linter.unusedSimpArgs false
open Go Go.ChangeShapes Go.WideShapes Go.ChangeAt Go.RowKit Go.Deep

/-- a list of pairs as a set -/
def mk (l : List Int) : Nat := l.foldl (fun a z => a ||| 2 ^ z.toNat) 0
theorem mk_snoc (l : List Int) (z : Int) : mk (l ++ [z]) = mk l ||| 2 ^ z.toNat := by
  unfold mk
  rw [List.foldl_append]
  rfl
def inR (l : List Int) : Prop := ∀ z ∈ l, 0 ≤ z ∧ z ≤ 8
theorem inR_as {lo : Int} : ∀ {l : List Int}, asB lo l = true → inR l := by
  intro l
  induction l generalizing lo with
  | nil => intro _ z hz; simp at hz
  | cons y l ih =>
    intro h z hz
    simp only [asB, Bool.and_eq_true, wiB_iff] at h
    rcases List.mem_cons.1 hz with rfl | hz
    · omega
    · exact ih h.2.2 z hz
theorem inR_of {l : List Int} (h : stB l = true) : inR l := inR_as h
theorem mk_lt_aux : ∀ {l : List Int} {a : Nat}, a < 512 → inR l → l.foldl (fun a z => a ||| 2 ^ z.toNat) a < 512
  | [], a, h, _ => h
  | z :: l, a, h, hr => by
    have hz := hr z (List.mem_cons_self ..)
    exact mk_lt_aux (l := l) (wi_lt h (show z.toNat < 9 by omega)) (fun y hy => hr y (List.mem_cons_of_mem _ hy))
theorem mk_lt {l : List Int} (h : inR l) : mk l < 512 := mk_lt_aux (by decide) h
theorem inR_take {l : List Int} (h : inR l) (k : Nat) : inR (l.take k) := fun z hz => h z (List.mem_of_mem_take hz)
theorem mk_bit_aux : ∀ {l : List Int} {a i : Nat}, (∀ z ∈ l, 0 ≤ z) → ((l.foldl (fun a z => a ||| 2 ^ z.toNat) a).testBit i = true ↔ a.testBit i = true ∨ (i : Int) ∈ l)
  | [], a, i, _ => by simp
  | z :: l, a, i, hr => by
    have hz := hr z (List.mem_cons_self ..)
    rw [List.foldl_cons, mk_bit_aux (fun y hy => hr y (List.mem_cons_of_mem _ hy)), LS.wi_bit, List.mem_cons, Bool.or_eq_true, decide_eq_true_eq]
    rw [or_assoc]
    have : z.toNat = i ↔ (i : Int) = z := by omega
    rw [this]
theorem mk_bit {l : List Int} {i : Nat} (h : inR l) : (mk l).testBit i = true ↔ (i : Int) ∈ l := by
  unfold mk
  rw [mk_bit_aux (fun z hz => (h z hz).1)]
  simp
theorem two_pow_lt {p : Nat} (h : p < 9) : 2 ^ p < 512 := Nat.pow_lt_pow_right (n := 9) (by decide) h
theorem u_orp {m p : Nat} (h : m < 512) (k : p < 9) : bits BinOp.or IntKind.u64 (m : Int) ((2 : Int) ^ p) = ((m ||| 2 ^ p : Nat) : Int) := by
  have := u_or (m := m) (n := 2 ^ p) (Nat.lt_trans h (by decide)) (Nat.lt_trans (two_pow_lt k) (by decide))
  rwa [Int.natCast_pow] at this
set_option maxRecDepth 100000 in
set_option maxHeartbeats 2000000 in
theorem setOf_any (A : Option Addr) (c : Nat) (l : List Int) (w : World) (hl : SlI w A c l) (hr : inR l) :
    Calls Try.prog 33 #[.slice A l.length c] w fun e w' => e = .returned (uv (mk l)) ∧ w = w' := by
  have n1 := hl.cap
  have n2 := hl.capB
  have HL := hide hl
  have HR := hide hr
  clear hl hr
  go_enter Try.func33, Try.ntmps33
  go_wp2
  go_loop [3, 8] (fun s i => ∃ k : Nat, k ≤ l.length ∧ i = iv k ∧ s = uv (mk (l.take k))) (fun _ i => l.length - (intOf i).toNat)
  case atStart => exact ⟨0, by omega, rfl, rfl⟩
  case round =>
    obtain ⟨k, hk, rfl, rfl⟩ := hrel
    by_cases hkl : k < l.length
    · obtain ⟨z, hz⟩ : ∃ z, l[k]? = some z := ⟨_, List.getElem?_eq_getElem hkl⟩
      obtain ⟨b, o, rfl, x0⟩ := HL.out.rd.in_ hz
      have hzr := HR.out z (List.mem_of_getElem? hz)
      obtain ⟨p, rfl⟩ : ∃ p : Nat, z = p := ⟨z.toNat, by omega⟩
      have hp : p < 9 := by omega
      have HT := hide (show mk (l.take k) ||| 2 ^ p = mk (l.take (k + 1)) by rw [take_at hz, mk_snoc]; rfl)
      have hk0 : (0 : Int) ≤ (k : Int) := by omega
      have hk1 : (k : Int) < (l.length : Int) := by omega
      have W1 := u_orp (m := mk (l.take k)) (mk_lt (inR_take HR.out k)) hp
      rw [HT.out] at W1
      have HS := hide (fun w => single_any p w hp)
      clear hz hzr
      generalize mk (l.take k) = M at *
      go_wp2_with (first | (go_at_call 17; refine (HS.out _).mono ?_; rintro e w1 ⟨rfl, rfl⟩))
      go_round
      case rel => exact ⟨k + 1, by omega, by go_num, rfl⟩
      case measure => simp only [intOf]; omega
    · obtain rfl : k = l.length := by omega
      rw [List.take_length]
      go_wp2
      go_ret
      exact ⟨rfl, rfl⟩
theorem i_or_all : ∀ (m : Fin 512) (p : Fin 9), bits .or .i64 ((m.val : Nat) : Int) ((2 : Int) ^ p.val) = ((m.val ||| 2 ^ p.val : Nat) : Int) := by decide +kernel
theorem i_orp {m p : Nat} (h : m < 512) (k : p < 9) : bits BinOp.or IntKind.i64 (m : Int) ((2 : Int) ^ p) = ((m ||| 2 ^ p : Nat) : Int) := i_or_all ⟨m, h⟩ ⟨p, k⟩
theorem shl_u {p : Nat} (h : p < 9) : IntKind.u64.wrap (p : Int) = (p : Int) := u64_in (Nat.lt_trans h (by decide))
theorem pow_all : ∀ p : Fin 9, wrap64 ((2 : Int) ^ p.val) = (2 : Int) ^ p.val := by decide +kernel
theorem pow_in {p : Nat} (h : p < 9) : wrap64 ((2 : Int) ^ p) = (2 : Int) ^ p := pow_all ⟨p, h⟩
/-- the sets of needs -/
def mks (ns : List Nd) : List Nat := ns.map fun x => mk x.l
theorem mks_at {ns : List Nd} {k : Nat} {x : Nd} (h : ns[k]? = some x) : mks (ns.take k) ++ [mk x.l] = mks (ns.take (k + 1)) := by
  rw [take_at h]
  unfold mks
  rw [List.map_append]
  rfl
theorem mks_len (ns : List Nd) : (mks ns).length = ns.length := by simp [mks]
theorem nds_in {ns : List Nd} (h : ndsB ns = true) {x : Nd} (hx : x ∈ ns) : x.l ≠ [] ∧ stB x.l = true := by
  unfold ndsB at h
  have := List.all_eq_true.1 h x hx
  unfold ndB at this
  simp only [Bool.and_eq_true, Bool.not_eq_true', List.isEmpty_eq_false_iff] at this
  exact this
set_option maxRecDepth 100000 in
set_option maxHeartbeats 2000000 in
theorem setsOf_any (A : Option Addr) (c : Nat) (ns : List Nd) (w : World) (hl : SlN w A c ns) (hv : vaE ns = 0) :
    Calls Try.prog 13 #[.slice A ns.length c] w fun e w' => ∃ A' d, e = .returned (.slice A' (mks ns).length d) ∧ OwnL w' w.heap.size 50 1 uvL (.slice A' (mks ns).length d) (mks ns) ∧ Gr w w' := by
  have n1 := hl.cap
  have n2 := hl.capB
  obtain ⟨n3, hB⟩ := vaE_ok hv
  have HL := hide hl
  have HB := hide (fun (x : Nd) (hx : x ∈ ns) => inR_of (nds_in hB hx).2)
  obtain ⟨i, z, hi, hz, hsz, hby, hzs⟩ := elSet.inf
  clear hl hv hB
  go_enter Try.func13, Try.ntmps13
  go_wp2_with (refine wpList_make_own w rfl _ _ _ rfl w.heap.size 50 i z 1 elSet.und hi hz hsz .i64 .i64 _ ns.length rfl rfl rfl (by rw [hby]; omega) (by unfold maxLen; omega) (Nat.le_refl _) ?_; intro w1 hown1 hg1)
  have g1 : Gr w w1 := Gr.grown (Gr.refl _) hg1 (fun k hk => by cases hk)
  have HO1 := hide (show OwnL w1 w.heap.size 50 1 uvL (.slice (some ⟨w.heap.size, 0, none⟩) (mks (ns.take 0)).length ns.length) (mks (ns.take 0)) from hown1)
  clear hown1 hg1
  go_wp2
  go_loopw [3, 11] (fun v i wr => ∃ (k : Nat) (A' : Option Addr) (d' : Nat), k ≤ ns.length ∧ i = iv k ∧ v = .slice A' (mks (ns.take k)).length d' ∧ Gr w wr ∧ Hid (OwnL wr w.heap.size 50 1 uvL (.slice A' (mks (ns.take k)).length d') (mks (ns.take k)))) (fun _ i _ => ns.length - (intOf i).toNat)
  case atStart => exact ⟨0, _, _, by omega, rfl, rfl, g1, HO1⟩
  case round =>
    clear HO1
    obtain ⟨k, A1, d1, hk, rfl, rfl, g, HO⟩ := hrel
    by_cases hkl : k < ns.length
    · obtain ⟨x, hx⟩ : ∃ x, ns[k]? = some x := ⟨_, List.getElem?_eq_getElem hkl⟩
      obtain ⟨b, o, rfl, x0, xl⟩ := (HL.out.gr g).at_ hx
      have HM := hide (mks_at hx)
      have HS := hide (setOf_any x.A x.c x.l wr xl (HB.out x (List.mem_of_getElem? hx)))
      have hk0 : (0 : Int) ≤ (k : Int) := by omega
      have hk1 : (k : Int) < (ns.length : Int) := by omega
      have hlen : (mks (ns.take k)).length ≤ k := by rw [mks_len, List.length_take]; omega
      have sz := g.size
      clear hx xl
      go_wp2_with (first | (go_at_call 33; refine (HS.out).mono ?_; rintro e w1 ⟨rfl, rfl⟩) | (refine wpList_app1 rfl _ _ _ rfl uvL w.heap.size 50 1 8 elSet (by decide) (mks (ns.take k)) (mk x.l) (mks (ns.take (k + 1))) HM.out _ rfl (OwnL.gr HO.out (by repeat (first | with_reducible exact Gr.refl _ | with_reducible assumption | with_reducible refine Gr.alloc ?_ _ | with_reducible refine Gr.drewN ?_ _ | with_reducible refine Gr.drew ?_ | with_reducible refine Gr.setCell ?_ (by first | (dsimp only; omega) | (simp only [World.size_alloc]; omega) | (with_reducible refine Gr.size ?_; (repeat (first | with_reducible exact Gr.refl _ | with_reducible assumption | with_reducible refine Gr.alloc ?_ _ | with_reducible refine Gr.drewN ?_ _ | with_reducible refine Gr.drew ?_ | with_reducible refine Gr.trans ?_ (by with_reducible assumption))); done)) _ | with_reducible refine Gr.trans ?_ (by with_reducible assumption)))) _ 1 rfl rfl (by intro j u hu; refine newsA wr #[uv (mk x.l)] 50 j u ?_; exact hu) (by intro u hu; simp at hu; subst hu; rfl) (by omega) (by decide) (by simp only [World.size_alloc]; omega) ?_; intro gg cap1 w8 hO8 hG8 _ _ _))
      go_roundw
      case rel => exact ⟨k + 1, some ⟨gg, 0, none⟩, cap1, by omega, by go_num, rfl, hG8 _ (by repeat (first | with_reducible exact Gr.refl _ | with_reducible assumption | with_reducible refine Gr.alloc ?_ _ | with_reducible refine Gr.drewN ?_ _ | with_reducible refine Gr.drew ?_ | with_reducible refine Gr.setCell ?_ (by first | (dsimp only; omega) | (simp only [World.size_alloc]; omega) | (with_reducible refine Gr.size ?_; (repeat (first | with_reducible exact Gr.refl _ | with_reducible assumption | with_reducible refine Gr.alloc ?_ _ | with_reducible refine Gr.drewN ?_ _ | with_reducible refine Gr.drew ?_ | with_reducible refine Gr.trans ?_ (by with_reducible assumption))); done)) _ | with_reducible refine Gr.trans ?_ (by with_reducible assumption))) (Nat.le_refl _), hO8⟩
      case measure => simp only [intOf]; omega
    · obtain rfl : k = ns.length := by omega
      have HT := hide (show mks (ns.take ns.length) = mks ns by rw [List.take_length])
      have HO2 := hide (show OwnL wr w.heap.size 50 1 uvL (.slice A1 (mks ns).length d1) (mks ns) by rw [← HT.out]; exact HO.out)
      rw [HT.out]
      clear HO HT
      go_wp2
      go_ret
      exact ⟨A1, d1, rfl, HO2.out, (by repeat (first | with_reducible exact Gr.refl _ | with_reducible assumption | with_reducible refine Gr.alloc ?_ _ | with_reducible refine Gr.drewN ?_ _ | with_reducible refine Gr.drew ?_ | with_reducible refine Gr.setCell ?_ (by first | (dsimp only; omega) | (simp only [World.size_alloc]; omega) | (with_reducible refine Gr.size ?_; (repeat (first | with_reducible exact Gr.refl _ | with_reducible assumption | with_reducible refine Gr.alloc ?_ _ | with_reducible refine Gr.drewN ?_ _ | with_reducible refine Gr.drew ?_ | with_reducible refine Gr.trans ?_ (by with_reducible assumption))); done)) _ | with_reducible refine Gr.trans ?_ (by with_reducible assumption)))⟩
end Go.Proofs.Ytfndhddnglcliaa
