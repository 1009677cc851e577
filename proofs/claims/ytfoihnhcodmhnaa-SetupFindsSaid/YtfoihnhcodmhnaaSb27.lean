/-
  Windows that are found one after another, on both sides.
-/
import Derived.Test.YtfoihnhcodmhnaaSb24
import Derived.Test.YtfoihnhcodmhnaaSb6
set_option linter.unusedVariables false
set_option linter.unusedSimpArgs false
namespace Go.Proofs.Ytfoihnhcodmhnaa
set_option linter.unusedVariables false
set_option linter.unusedSimpArgs false
open Go Go.ChangeShapes Go.WideShapes Go.ChangeAt Go.RowKit Go.Deep

/-- the windows found in the steps below t, and the step at which the last one ends -/
def fdS (ss : List Nat) (q : Nat) : Nat → List Wd × Nat
  | 0 => ([], 0)
  | t + 1 => if bkB ss q (fdS ss q t).2 t then ((fdS ss q t).1 ++ [⟨((fdS ss q t).2 : Int), (t : Int)⟩], t) else fdS ss q t
def fdL (ss : List Nat) (q t : Nat) : List Wd := (fdS ss q t).1
def fdF (ss : List Nat) (q t : Nat) : Nat := (fdS ss q t).2
theorem fd_yes {ss : List Nat} {q t : Nat} (h : bkB ss q (fdF ss q t) t = true) : fdL ss q t ++ [⟨(fdF ss q t : Int), (t : Int)⟩] = fdL ss q (t + 1) ∧ fdF ss q (t + 1) = t := by
  unfold fdL fdF at *
  constructor
  · rw [fdS, if_pos h]
  · rw [fdS, if_pos h]
theorem fd_no {ss : List Nat} {q t : Nat} (h : bkB ss q (fdF ss q t) t = false) : fdL ss q (t + 1) = fdL ss q t ∧ fdF ss q (t + 1) = fdF ss q t := by
  unfold fdL fdF at *
  constructor
  · rw [fdS, if_neg (by simp [h])]
  · rw [fdS, if_neg (by simp [h])]
theorem fdF_le (ss : List Nat) (q : Nat) : ∀ t, fdF ss q t ≤ t
  | 0 => Nat.le_refl _
  | t + 1 => by
    have := fdF_le ss q t
    cases h : bkB ss q (fdF ss q t) t with
    | true => rw [(fd_yes h).2]; omega
    | false => rw [(fd_no h).2]; omega
theorem fdL_len (ss : List Nat) (q : Nat) : ∀ t, (fdL ss q t).length ≤ t
  | 0 => Nat.le_refl _
  | t + 1 => by
    have := fdL_len ss q t
    cases h : bkB ss q (fdF ss q t) t with
    | true => rw [← (fd_yes h).1, List.length_append]; simp; omega
    | false => rw [(fd_no h).1]; omega
/-- one step is never blocked -/
theorem one_free {ss : List Nat} {q t n : Nat} (hq : 1 ≤ q) (hn : ss[t]? = some n) (ho : LS.okN n) : bkB ss q t t = false := by
  obtain ⟨p, hp, h1⟩ := ho
  refine bk_stop (m := 2 ^ p) (two_pow_lt hp) (Nat.le_trans (LS.cd_pow p) hq) ?_
  have ht := (List.getElem?_eq_some_iff.1 hn).1
  refine (srv_sv ht (Nat.le_refl _)).2 fun j x h2 h3 hx => ?_
  obtain rfl : j = t := by omega
  rw [hn] at hx
  obtain rfl := Option.some.inj hx
  exact LS.mt_iff.2 ⟨p, hp, by simp [Nat.testBit_two_pow], h1⟩
def bdE (ns : List Nd) (s : Int) : Int := chE ns s
def bdL (ns : List Nd) (s : Int) : List Wd := if chE ns s = 0 then fdL (mks ns) s.toNat ns.length else []
theorem elWd : ElT Try.prog 48 43 2 16 := elT_of (.agg #[.int .i64 0, .int .i64 0]) Try.underlying48 (by kernel_rfl) rfl
theorem own_slw {w : World} {base : Nat} {e : TypeId} {A : Option Addr} {d : Nat} {xs : List Wd} (h : OwnL w base e 2 wdL (.slice A xs.length d) xs) : SlW w A d xs := by
  obtain ⟨_, h1, h2, h3⟩ := OwnL.rd (c := wdL) (fun _ => rfl) h
  exact ⟨h1, h2, by unfold maxLen at h3; omega⟩
theorem slw_nil (w : World) : SlW w none 0 [] := ⟨fun i x hx => by simp at hx, by simp, by decide⟩
set_option maxRecDepth 100000 in
set_option maxHeartbeats 4000000 in
theorem rBound_any (A : Option Addr) (c : Nat) (ns : List Nd) (s : Int) (w : World) (hl : SlN w A c ns) :
    Calls Try.prog 34 #[.slice A ns.length c, iv s] w fun e w' => ∃ A' d', e = .returned (sle (.slice A' (bdL ns s).length d') (chE ns s)) ∧ SlW w' A' d' (bdL ns s) ∧ Gr w w' := by
  have HV := hide (rCheck0_any A c ns s w hl)
  by_cases h0 : chE ns s = 0
  · obtain ⟨h2, h3⟩ := chE_ok h0
    obtain ⟨b4, b5⟩ := wiB_iff.1 h3
    obtain ⟨hlen, hB⟩ := vaE_ok h2
    obtain ⟨q, rfl⟩ : ∃ q : Nat, s = q := ⟨s.toNat, by omega⟩
    have HBK := hide (fun (f t : Nat) (w' : World) (g : Gr w w') (h1 : f ≤ t) (h2 : t < ns.length) => rblocked_any A c ns q f t w' (hl.gr g) hB h1 h2 (by omega))
    have HE := hide (show bdL ns (q : Int) = fdL (mks ns) q ns.length by unfold bdL; rw [if_pos h0]; rfl)
    rw [h0] at HV ⊢
    rw [HE.out]
    clear h0 h2 h3 hB hl HE
    generalize mks ns = ss at *
    go_enter Try.func34, Try.ntmps34
    go_wp2_with (first | (go_at_call 46; refine (HV.out).mono ?_; rintro e w1 ⟨rfl, g1⟩; obtain ⟨X1, Y1, c1, f1⟩ := g1.use))
    go_loopw [7, 8, 9] (fun v f i wr => ∃ (t : Nat) (A' : Option Addr) (d' : Nat), t ≤ ns.length ∧ i = iv t ∧ f = iv (fdF ss q t) ∧ v = .slice A' (fdL ss q t).length d' ∧ Gr w wr ∧ Hid (OwnL wr w.heap.size 43 2 wdL (.slice A' (fdL ss q t).length d') (fdL ss q t))) (fun _ _ i _ => ns.length - (intOf i).toNat)
    case atStart => exact ⟨0, none, 0, by omega, rfl, rfl, rfl, (by repeat (first | with_reducible exact Gr.refl _ | with_reducible assumption | with_reducible refine Gr.alloc ?_ _ | with_reducible refine Gr.drewN ?_ _ | with_reducible refine Gr.drew ?_ | with_reducible refine Gr.setCell ?_ (by first | (dsimp only; omega) | (simp only [World.size_alloc]; omega) | (with_reducible refine Gr.size ?_; (repeat (first | with_reducible exact Gr.refl _ | with_reducible assumption | with_reducible refine Gr.alloc ?_ _ | with_reducible refine Gr.drewN ?_ _ | with_reducible refine Gr.drew ?_ | with_reducible refine Gr.trans ?_ (by with_reducible assumption))); done)) _ | with_reducible refine Gr.trans ?_ (by with_reducible assumption))), own_nil _ _ _ _ _⟩
    case round =>
      obtain ⟨t, A1, d1, ht, rfl, rfl, rfl, g, HO⟩ := hrel
      by_cases htn : t < ns.length
      · have HBX := hide (HBK.out (fdF ss q t) t wr g (fdF_le ss q t) htn)
        have hfl := fdL_len ss q t
        have sz := g.size
        cases hv : bkB ss q (fdF ss q t) t with
        | true =>
          obtain ⟨h1, h2⟩ := fd_yes hv
          have HY := hide h1
          have HF := hide h2
          rw [hv] at HBX
          clear hv h1 h2
          generalize fdF ss q t = f at *
          go_wp2_with (first | (go_at_call 67; refine (HBX.out).mono ?_; rintro e w1 ⟨rfl, rfl⟩) | (refine wpList_app1 rfl _ _ _ rfl wdL w.heap.size 43 2 16 elWd (by decide) (fdL ss q t) ⟨(f : Int), (t : Int)⟩ (fdL ss q (t + 1)) HY.out _ rfl (OwnL.gr HO.out (by repeat (first | with_reducible exact Gr.refl _ | with_reducible assumption | with_reducible refine Gr.alloc ?_ _ | with_reducible refine Gr.drewN ?_ _ | with_reducible refine Gr.drew ?_ | with_reducible refine Gr.setCell ?_ (by first | (dsimp only; omega) | (simp only [World.size_alloc]; omega) | (with_reducible refine Gr.size ?_; (repeat (first | with_reducible exact Gr.refl _ | with_reducible assumption | with_reducible refine Gr.alloc ?_ _ | with_reducible refine Gr.drewN ?_ _ | with_reducible refine Gr.drew ?_ | with_reducible refine Gr.trans ?_ (by with_reducible assumption))); done)) _ | with_reducible refine Gr.trans ?_ (by with_reducible assumption)))) _ 1 rfl rfl (by intro j u hu; refine newsA wr #[iv f, iv t] 43 j u ?_; exact hu) (by intro u hu; simp at hu; rcases hu with rfl | rfl <;> rfl) (by omega) (by decide) (by simp only [World.size_alloc]; omega) ?_; intro gg cap1 w8 hO8 hG8 _ _ _))
          go_roundw
          case rel => exact ⟨t + 1, some ⟨gg, 0, none⟩, cap1, by omega, by go_num, by rw [HF.out], rfl, hG8 _ (by repeat (first | with_reducible exact Gr.refl _ | with_reducible assumption | with_reducible refine Gr.alloc ?_ _ | with_reducible refine Gr.drewN ?_ _ | with_reducible refine Gr.drew ?_ | with_reducible refine Gr.setCell ?_ (by first | (dsimp only; omega) | (simp only [World.size_alloc]; omega) | (with_reducible refine Gr.size ?_; (repeat (first | with_reducible exact Gr.refl _ | with_reducible assumption | with_reducible refine Gr.alloc ?_ _ | with_reducible refine Gr.drewN ?_ _ | with_reducible refine Gr.drew ?_ | with_reducible refine Gr.trans ?_ (by with_reducible assumption))); done)) _ | with_reducible refine Gr.trans ?_ (by with_reducible assumption))) (Nat.le_refl _), hO8⟩
          case measure => simp only [intOf]; omega
        | false =>
          obtain ⟨h1, h2⟩ := fd_no hv
          have HY := hide h1
          have HF := hide h2
          rw [hv] at HBX
          clear hv h1 h2
          go_wp2_with (first | (go_at_call 67; refine (HBX.out).mono ?_; rintro e w1 ⟨rfl, rfl⟩))
          go_roundw
          case rel => exact ⟨t + 1, A1, d1, by omega, by go_num, by rw [HF.out], by rw [HY.out], g, by rw [HY.out]; exact HO.out⟩
          case measure => simp only [intOf]; omega
      · obtain rfl : t = ns.length := by omega
        have HS := hide (own_slw HO.out)
        go_wp2
        go_ret2
        exact ⟨A1, d1, rfl, HS.out, g⟩
  · have HE := hide (show bdL ns s = [] by unfold bdL; rw [if_neg h0])
    have h1 : (chE ns s != 0) = true := by simpa using h0
    rw [HE.out]
    generalize chE ns s = e0 at *
    clear h0 hl
    go_enter Try.func34, Try.ntmps34
    go_wp2_with (first | (go_at_call 46; refine (HV.out).mono ?_; rintro e w1 ⟨rfl, g1⟩; obtain ⟨X1, Y1, c1, f1⟩ := g1.use))
    go_ret2
    exact ⟨none, 0, rfl, slw_nil _, (by repeat (first | with_reducible exact Gr.refl _ | with_reducible assumption | with_reducible refine Gr.alloc ?_ _ | with_reducible refine Gr.drewN ?_ _ | with_reducible refine Gr.drew ?_ | with_reducible refine Gr.setCell ?_ (by first | (dsimp only; omega) | (simp only [World.size_alloc]; omega) | (with_reducible refine Gr.size ?_; (repeat (first | with_reducible exact Gr.refl _ | with_reducible assumption | with_reducible refine Gr.alloc ?_ _ | with_reducible refine Gr.drewN ?_ _ | with_reducible refine Gr.drew ?_ | with_reducible refine Gr.trans ?_ (by with_reducible assumption))); done)) _ | with_reducible refine Gr.trans ?_ (by with_reducible assumption)))⟩
end Go.Proofs.Ytfoihnhcodmhnaa
