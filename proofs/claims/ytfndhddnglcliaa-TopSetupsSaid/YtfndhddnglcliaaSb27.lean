/-
  Windows that are found one after another, on both sides.
-/
import Derived.Test.YtfndhddnglcliaaSb24
import Derived.Test.YtfndhddnglcliaaSb6
set_option linter.unusedVariables false
set_option linter.unusedSimpArgs false
namespace Go.Proofs.Ytfndhddnglcliaa
set_option linter.unusedVariables false
set_option linter.unusedSimpArgs false
open Go Go.ChangeShapes Go.WideShapes Go.ChangeAt Go.RowKit Go.Deep

/-- the windows found in the steps below t, and the step at which the last one ends -/
def fdS (ss : List Nat) (q : Nat) : Nat → List Wd × Nat
  | 0 => ([], 0)
  | t + 1 => if bkB ss q (fdS ss q t).2 t then ((fdS ss q t).1 ++ [⟨((fdS ss q t).2 : Int), (t : Int)⟩], t) else fdS ss q t
def fdL (ss : List Nat) (q t : Nat) : List Wd := (fdS ss q t).1
def fdF (ss : List Nat) (q t : Nat) : Nat := (fdS ss q t).2
theorem fd_yes {ss : List Nat} {q t : Nat} (h : bkB ss q (fdF ss q t) t = true) : fdL ss q t ++ [⟨(fdF ss q t : Int), (t : Int)⟩] = fdL ss q (t + 1) ∧ fdF ss q (t + 1) = t := by
  unfold fdL fdF at *
  constructor
  · rw [fdS, if_pos h]
  · rw [fdS, if_pos h]
theorem fd_no {ss : List Nat} {q t : Nat} (h : bkB ss q (fdF ss q t) t = false) : fdL ss q (t + 1) = fdL ss q t ∧ fdF ss q (t + 1) = fdF ss q t := by
  unfold fdL fdF at *
  constructor
  · rw [fdS, if_neg (by simp [h])]
  · rw [fdS, if_neg (by simp [h])]
theorem fdF_le (ss : List Nat) (q : Nat) : ∀ t, fdF ss q t ≤ t
  | 0 => Nat.le_refl _
  | t + 1 => by
    have := fdF_le ss q t
    cases h : bkB ss q (fdF ss q t) t with
    | true => rw [(fd_yes h).2]; omega
    | false => rw [(fd_no h).2]; omega
theorem fdL_len (ss : List Nat) (q : Nat) : ∀ t, (fdL ss q t).length ≤ t
  | 0 => Nat.le_refl _
  | t + 1 => by
    have := fdL_len ss q t
    cases h : bkB ss q (fdF ss q t) t with
    | true => rw [← (fd_yes h).1, List.length_append]; simp; omega
    | false => rw [(fd_no h).1]; omega
/-- one step is never blocked -/
theorem one_free {ss : List Nat} {q t n : Nat} (hq : 1 ≤ q) (hn : ss[t]? = some n) (ho : LS.okN n) : bkB ss q t t = false := by
  obtain ⟨p, hp, h1⟩ := ho
  refine bk_stop (m := 2 ^ p) (two_pow_lt hp) (Nat.le_trans (LS.cd_pow p) hq) ?_
  have ht := (List.getElem?_eq_some_iff.1 hn).1
  refine (srv_sv ht (Nat.le_refl _)).2 fun j x h2 h3 hx => ?_
  obtain rfl : j = t := by omega
  rw [hn] at hx
  obtain rfl := Option.some.inj hx
  exact LS.mt_iff.2 ⟨p, hp, by simp [Nat.testBit_two_pow], h1⟩
def bdE (ns : List Nd) (s : Int) : Int := chE ns s
def bdL (ns : List Nd) (s : Int) : List Wd := if chE ns s = 0 then fdL (mks ns) s.toNat ns.length else []
theorem elWd : ElT Try.prog 26 59 2 16 := elT_of (.agg #[.int .i64 0, .int .i64 0]) Try.underlying26 (by kernel_rfl) rfl
theorem own_slw {w : World} {base : Nat} {e : TypeId} {A : Option Addr} {d : Nat} {xs : List Wd} (h : OwnL w base e 2 wdL (.slice A xs.length d) xs) : SlW w A d xs := by
  obtain ⟨_, h1, h2, h3⟩ := OwnL.rd (c := wdL) (fun _ => rfl) h
  exact ⟨h1, h2, by unfold maxLen at h3; omega⟩
theorem slw_nil (w : World) : SlW w none 0 [] := ⟨fun i x hx => by simp at hx, by simp, by decide⟩
end Go.Proofs.Ytfndhddnglcliaa
