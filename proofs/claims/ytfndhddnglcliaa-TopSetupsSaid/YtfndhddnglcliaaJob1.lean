/-
  Jobs: opened, their errors, how many steps they have, permutations, on both sides.
-/
import Derived.Test.YtfndhddnglcliaaSb18
set_option linter.unusedVariables false
set_option linter.unusedSimpArgs false
namespace Go.Proofs.Ytfndhddnglcliaa
set_option linter.unusedVariables false
set_option linter.unusedSimpArgs false
open Go Go.ChangeShapes Go.WideShapes Go.ChangeAt Go.RowKit Go.Deep

/-- a job, where it lies -/
structure Jb where
  A : Option Addr
  c : Nat
  ns : List Nd
abbrev jbL (x : Jb) : List Value := [.slice x.A x.ns.length x.c]
structure SlJ (w : World) (A : Option Addr) (c : Nat) (js : List Jb) : Prop where
  rd : RdL w 1 jbL A js
  el : ∀ x ∈ js, SlN w x.A x.c x.ns
  cap : js.length ≤ c
  capB : c ≤ 9223372036854775807
theorem SlJ.gr {w w' : World} {A : Option Addr} {c : Nat} {l : List Jb} (h : SlJ w A c l) (g : Gr w w') : SlJ w' A c l := ⟨h.rd.gr g, fun x hx => (h.el x hx).gr g, h.cap, h.capB⟩
theorem SlJ.at_ {w : World} {A : Option Addr} {c : Nat} {l : List Jb} (h : SlJ w A c l) {i : Nat} {z : Jb} (hi : l[i]? = some z) : ∃ b off, A = some ⟨b, off, none⟩ ∧ w.cell? ⟨b, off + i, none⟩ = some (.slice z.A z.ns.length z.c) ∧ SlN w z.A z.c z.ns := by
  obtain ⟨b, off, e, h0, _⟩ := h.rd i z hi
  exact ⟨b, off, e, by rwa [Nat.mul_one] at h0, h.el z (List.mem_of_getElem? hi)⟩
theorem cellsSlJ : Try.prog.cellsOf 40 = 1 := by kernel_rfl
section
variable {H : Type} {enc : TypeId × Value → H} {W : World}
theorem open_job {n : Nat} {cs : List Value} {x : DataW H × List MemPlace} (h : DataW.trod enc Try.prog W 0 (fun _ => true) true n 22 cs = some x) : ∃ y : Jb, cs = jbL y ∧ SlN W y.A y.c y.ns := by
  obtain ⟨A, c, ns, e, hs, _⟩ := open_needs1 h
  exact ⟨⟨A, c, ns⟩, e, hs⟩
set_option maxRecDepth 100000 in
theorem open_jobs {base : Nat} {v : Value} {d : DataW H} {ps : List MemPlace} (hv : Value.okWide Try.prog W .any base 40 v) (hd : DataW.Trod enc Try.prog W 0 (fun _ => true) true 40 v d ps) :
    ∃ (A : Option Addr) (c : Nat) (js : List Jb), v = .slice A js.length c ∧ SlJ W A c js := by
  obtain ⟨A, c, l, e, r, o, n1, n2⟩ := open_arg_list (c := jbL) (Ok := fun y : Jb => SlN W y.A y.c y.ns) Try.underlying40 cellsSlN (by omega) (fun h => open_job h) (fun _ => rfl) hv hd
  exact ⟨A, c, l, e, ⟨r, o, n1, n2⟩⟩
end
/-- the first error of a job -/
def joF : List Jb → Int
  | [] => 0
  | j :: js => if vaE j.ns ≠ 0 then vaE j.ns else joF js
def joE (js : List Jb) : Int := if 4 < js.length then 4 else joF js
theorem joF_bad {js : List Jb} {j : Jb} (h : ¬ vaE j.ns = 0) : joF (j :: js) = vaE j.ns := by rw [joF, if_pos h]
theorem joF_go {js : List Jb} {j : Jb} (h : vaE j.ns = 0) : joF (j :: js) = joF js := by rw [joF, if_neg (by simpa using h)]
theorem joF_ok : ∀ {js : List Jb}, joF js = 0 → ∀ j ∈ js, vaE j.ns = 0
  | [], _, j, hj => by simp at hj
  | x :: js, h, j, hj => by
    by_cases hx : vaE x.ns = 0
    · rw [joF_go hx] at h
      rcases List.mem_cons.1 hj with rfl | hj
      · exact hx
      · exact joF_ok h j hj
    · rw [joF_bad hx] at h
      exact absurd h hx
set_option maxHeartbeats 1000000 in
theorem validateJobs_any (A : Option Addr) (c : Nat) (js : List Jb) (w : World) (hl : SlJ w A c js) :
    Calls Try.prog 23 #[.slice A js.length c] w fun e w' => e = .returned (iv (joE js)) ∧ w = w' := by
  have n1 := hl.cap
  have n2 := hl.capB
  have HL := hide hl
  clear hl
  by_cases hn : 4 < js.length
  · have HE := hide (show joE js = 4 from if_pos hn)
    go_enter Try.func23, Try.ntmps23
    go_wp2
    go_ret
    exact ⟨ret_iv HE.out.symm, rfl⟩
  · have HE := hide (show joE js = joF js from if_neg hn)
    go_enter Try.func23, Try.ntmps23
    go_wp2
    go_loop [11] (fun i => ∃ k : Nat, k ≤ js.length ∧ i = iv k ∧ Hid (joF js = joF (js.drop k))) (fun i => js.length - (intOf i).toNat)
    case atStart => exact ⟨0, by omega, rfl, rfl⟩
    case round =>
      obtain ⟨k, hk, rfl, HS⟩ := hrel
      by_cases hkl : k < js.length
      · obtain ⟨x, hx⟩ : ∃ z, js[k]? = some z := ⟨_, List.getElem?_eq_getElem hkl⟩
        obtain ⟨b, o, rfl, x0, xl⟩ := HL.out.at_ hx
        have HD := hide (drop_at hx)
        have hk0 : (0 : Int) ≤ (k : Int) := by omega
        have hk1 : (k : Int) < (js.length : Int) := by omega
        have HV := hide (sValidate_any x.A x.c x.ns w xl)
        clear hx xl
        by_cases hv : vaE x.ns = 0
        · have HN := hide (show joF js = joF (js.drop (k + 1)) by rw [HS.out, HD.out, joF_go hv])
          rw [hv] at HV
          clear hv
          go_wp2_with (first | (go_at_call 30; refine (HV.out).mono ?_; rintro e w1 ⟨rfl, rfl⟩))
          go_round
          case rel => exact ⟨k + 1, by omega, by go_num, HN⟩
          case measure => simp only [intOf]; omega
        · have HN := hide (show joE js = vaE x.ns by rw [HE.out, HS.out, HD.out, joF_bad hv])
          have hv' : (vaE x.ns != 0) = true := by simpa using hv
          generalize vaE x.ns = e0 at *
          clear hv
          go_wp2_with (first | (go_at_call 30; refine (HV.out).mono ?_; rintro e w1 ⟨rfl, rfl⟩))
          go_ret
          exact ⟨ret_iv HN.out.symm, rfl⟩
      · obtain rfl : k = js.length := by omega
        have HN := hide (show joE js = 0 by rw [HE.out, HS.out, List.drop_length]; rfl)
        go_wp2
        go_ret
        exact ⟨ret_iv HN.out.symm, rfl⟩
/-- how many steps all jobs have -/
def toN (js : List Jb) : Nat := (js.map fun j => j.ns.length).sum
theorem toN_at {js : List Jb} {k : Nat} {x : Jb} (h : js[k]? = some x) : toN (js.take (k + 1)) = toN (js.take k) + x.ns.length := by
  unfold toN
  rw [take_at h, List.map_append, List.sum_append]
  simp
theorem toN_le {js : List Jb} (h : ∀ j ∈ js, j.ns.length ≤ 60) : ∀ k, toN (js.take k) ≤ 60 * k
  | 0 => by simp [toN]
  | k + 1 => by
    have ih := toN_le h k
    by_cases hk : k < js.length
    · obtain ⟨x, hx⟩ : ∃ x, js[k]? = some x := ⟨_, List.getElem?_eq_getElem hk⟩
      have := h x (List.mem_of_getElem? hx)
      rw [toN_at hx]
      omega
    · rw [List.take_of_length_le (by omega)] at ih ⊢
      omega
set_option maxHeartbeats 1000000 in
theorem countSteps_any (A : Option Addr) (c : Nat) (js : List Jb) (w : World) (hl : SlJ w A c js) (hn : js.length ≤ 20) (hs : ∀ j ∈ js, j.ns.length ≤ 60) :
    Calls Try.prog 25 #[.slice A js.length c] w fun e w' => e = .returned (iv (toN js)) ∧ w = w' := by
  have n1 := hl.cap
  have n2 := hl.capB
  have HL := hide hl
  have HB := hide (toN_le hs)
  clear hl hs
  go_enter Try.func25, Try.ntmps25
  go_wp2
  go_loop [3, 8] (fun s i => ∃ k : Nat, k ≤ js.length ∧ i = iv k ∧ s = iv (toN (js.take k))) (fun _ i => js.length - (intOf i).toNat)
  case atStart => exact ⟨0, by omega, rfl, rfl⟩
  case round =>
    obtain ⟨k, hk, rfl, rfl⟩ := hrel
    by_cases hkl : k < js.length
    · obtain ⟨x, hx⟩ : ∃ z, js[k]? = some z := ⟨_, List.getElem?_eq_getElem hkl⟩
      obtain ⟨b, o, rfl, x0, xl⟩ := HL.out.at_ hx
      have HT := hide (toN_at hx)
      have b1 := HB.out k
      have b2 := HB.out (k + 1)
      rw [HT.out] at b2
      have hk0 : (0 : Int) ≤ (k : Int) := by omega
      have hk1 : (k : Int) < (js.length : Int) := by omega
      clear hx xl
      generalize toN (js.take k) = T at *
      have W1 : IntKind.i64.wrap ((T : Int) + (x.ns.length : Int)) = (T : Int) + (x.ns.length : Int) := IntWalk.i64_in _ (by omega)
      go_wp2
      go_round
      case rel => exact ⟨k + 1, by omega, by go_num, by rw [HT.out]; go_num⟩
      case measure => simp only [intOf]; omega
    · obtain rfl : k = js.length := by omega
      rw [List.take_length]
      go_wp2
      go_ret
      exact ⟨rfl, rfl⟩
def wdB (js : List Jb) : Bool := decide (20 < js.length) || js.any fun j => lgB j.ns
end Go.Proofs.Ytfndhddnglcliaa
