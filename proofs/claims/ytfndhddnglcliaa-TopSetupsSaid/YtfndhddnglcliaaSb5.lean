/-
  What is left before a step: the method before of an outlook.
-/
import Derived.Test.YtfndhddnglcliaaSb4
set_option linter.unusedVariables false
set_option linter.unusedSimpArgs false
namespace Go.Proofs.Ytfndhddnglcliaa
set_option linter.unusedVariables false
set_option linter.unusedSimpArgs false
open Go Go.ChangeShapes Go.WideShapes Go.ChangeAt Go.RowKit Go.Deep

/-- the smallest number behind one set, of the pairs below j -/
def inn (F : Nat → Nat) (n k j a : Nat) : Nat := (((List.range j).filter n.testBit).map fun p => F (k ||| 2 ^ p)).foldl min a
theorem inn_zero (F : Nat → Nat) (n k a : Nat) : inn F n k 0 a = a := rfl
theorem inn_yes {F : Nat → Nat} {n k j a : Nat} (h : n.testBit j = true) : inn F n k (j + 1) a = min (inn F n k j a) (F (k ||| 2 ^ j)) := by
  unfold inn
  rw [List.range_succ, List.filter_append, List.map_append, List.foldl_append]
  simp [h]
theorem inn_no {F : Nat → Nat} {n k j a : Nat} (h : n.testBit j = false) : inn F n k (j + 1) a = inn F n k j a := by
  unfold inn
  rw [List.range_succ, List.filter_append, List.map_append, List.foldl_append]
  simp [h]
/-- .. behind all sets of a list -/
def ous (F : Nat → Nat) (n : Nat) (l : List Nat) (a : Nat) : Nat := l.foldl (fun a k => inn F n k 9 a) a
theorem ous_at {F : Nat → Nat} {n : Nat} {l : List Nat} {i k : Nat} (h : l[i]? = some k) : ous F n (l.take (i + 1)) 24 = inn F n k 9 (ous F n (l.take i) 24) := by
  unfold ous
  rw [take_at h, List.foldl_append]
  rfl
theorem ous_all {F : Nat → Nat} {n : Nat} : ∀ {l : List Nat} {a : Nat}, ous F n l a = (l.flatMap fun k => (LS.prs n).map fun p => F (k ||| 2 ^ p)).foldl min a
  | [], a => rfl
  | k :: l, a => by
    rw [List.flatMap_cons, List.foldl_append, ← ous_all]
    rfl
/-- what is left before a step -/
def bef (s : Nat) (F : Nat → Nat) (n m : Nat) : Nat := if LS.mt m n then F m else (LS.cand s F m n).foldl min 24 + 1
theorem bef_yes {s : Nat} {F : Nat → Nat} {n m : Nat} (h : LS.mt m n = true) : bef s F n m = F m := if_pos h
theorem bef_no {s : Nat} {F : Nat → Nat} {n m : Nat} (h : LS.mt m n = false) : bef s F n m = ous F n (LS.kept s m) 24 + 1 := by
  unfold bef
  rw [if_neg (by simp [h]), ous_all]
  rfl
theorem bef_outl (s : Nat) (ns : List Nat) (n m : Nat) : bef s (LS.outl s ns) n m = LS.outl s (n :: ns) m := rfl
theorem kept_lt {s m k : Nat} (h : m < 512) (hk : k ∈ LS.kept s m) : k < 512 := by
  rcases LS.kept_mem.1 hk with ⟨_, rfl⟩ | ⟨_, q, _, _, rfl⟩
  · exact h
  · exact wo_lt h
theorem ous_le (F : Nat → Nat) (n : Nat) (l : List Nat) : ous F n l 24 ≤ 24 := by
  rw [ous_all]
  exact LS.fold_le (.inr rfl)
theorem inn_le (F : Nat → Nat) (n k j a : Nat) : inn F n k j a ≤ a := LS.fold_le (.inr rfl)
theorem min_if (a b : Nat) : (if b < a then (b : Int) else (a : Int)) = ((min a b : Nat) : Int) := by
  rw [Nat.min_def]
  split <;> split <;> omega
theorem iv_eq {a b : Int} (h : a = b) : iv a = iv b := by rw [h]
/-- an outlook, where it lies -/
def Olk (w : World) (B off s : Nat) (F : Nat → Nat) : Prop := B < w.heap.size ∧ ∀ m, m < 512 → LS.cd m ≤ s → w.cell? ⟨B, off + m, none⟩ = some (iv (F m))
theorem Olk.gr {w w' : World} {B off s : Nat} {F : Nat → Nat} (h : Olk w B off s F) (g : Gr w w') : Olk w' B off s F :=
  ⟨Nat.lt_of_lt_of_le h.1 g.size, fun m h1 h2 => (g.cell _ _ h.1).trans (h.2 m h1 h2)⟩
set_option maxRecDepth 100000 in
set_option maxHeartbeats 4000000 in
theorem before_any (B off s m n : Nat) (F : Nat → Nat) (w : World) (hO : Olk w B off s F) (hm : m < 512) (hn : n < 512) (hs : s ≤ 3) (hc : LS.cd m ≤ s) :
    Calls Try.prog 32 #[.pointer (some ⟨B, off, none⟩), uv n, uv m, iv s] w fun e w' => e = .returned (iv (bef s F n m)) ∧ Gr w w' := by
  have HM := hide (fun w => meets_any m n w hm hn)
  have HOL := hide hO
  cases hv : LS.mt m n with
  | true =>
    rw [bef_yes hv]
    rw [hv] at HM
    have x0 := hO.2 m hm hc
    have hB := hO.1
    have hm0 : (0 : Int) ≤ (m : Int) := by omega
    have hm1 : (m : Int) < 512 := by omega
    clear hv hO
    go_enter Try.func32, Try.ntmps32
    go_wp2_with (first | (go_at_call 15; refine (HM.out _).mono ?_; rintro e w1 ⟨rfl, rfl⟩))
    go_ret
    exact ⟨rfl, (by repeat (first | with_reducible exact Gr.refl _ | with_reducible assumption | with_reducible refine Gr.alloc ?_ _ | with_reducible refine Gr.drewN ?_ _ | with_reducible refine Gr.drew ?_ | with_reducible refine Gr.setCell ?_ (by first | (dsimp only; omega) | (simp only [World.size_alloc]; omega) | (with_reducible refine Gr.size ?_; (repeat (first | with_reducible exact Gr.refl _ | with_reducible assumption | with_reducible refine Gr.alloc ?_ _ | with_reducible refine Gr.drewN ?_ _ | with_reducible refine Gr.drew ?_ | with_reducible refine Gr.trans ?_ (by with_reducible assumption))); done)) _ | with_reducible refine Gr.trans ?_ (by with_reducible assumption)))⟩
  | false =>
    have HE := hide (bef_no (s := s) (F := F) hv)
    rw [hv] at HM
    have HK := hide (fun w => kept_any m s w hm hs)
    have HKL := hide (fun (k : Nat) (hk : k ∈ LS.kept s m) => kept_lt (s := s) hm hk)
    have HKC := hide (fun (k p : Nat) (hk : k ∈ LS.kept s m) => LS.kept_cd (p := p) hc hk)
    have HN := hide hn
    clear hv hO hm hn hc
    generalize LS.kept s m = L at *
    go_enter Try.func32, Try.ntmps32
    go_wp2_with (first | (go_at_call 15; refine (HM.out _).mono ?_; rintro e w1 ⟨rfl, rfl⟩))
    refine (HK.out _).mono ?_
    rintro e w1 ⟨A1, d1, rfl, o1, g1⟩
    have HL := hide (own_sub o1)
    have hcap := HL.out.cap
    have hcapB := HL.out.capB
    clear o1
    go_wp2
    go_loopw [9, 25] (fun v i wr => ∃ k : Nat, k ≤ L.length ∧ i = iv k ∧ v = iv (ous F n (L.take k) 24) ∧ Gr w1 wr) (fun _ i _ => L.length - (intOf i).toNat)
    case atStart => exact ⟨0, by omega, rfl, rfl, Gr.refl _⟩
    case round =>
      obtain ⟨i, hi, rfl, rfl, g⟩ := hrel
      by_cases hil : i < L.length
      · obtain ⟨k, hk⟩ : ∃ k, L[i]? = some k := ⟨_, List.getElem?_eq_getElem hil⟩
        obtain ⟨b, o, rfl, x0⟩ := (HL.out.gr g).rd.uv_ hk
        have HLT := hide (HKL.out k (List.mem_of_getElem? hk))
        have HCD := hide (fun p => HKC.out k p (List.mem_of_getElem? hk))
        have HOU := hide (ous_at (F := F) (n := n) hk)
        have hi0 : (0 : Int) ≤ (i : Int) := by omega
        have hi1 : (i : Int) < (L.length : Int) := by omega
        have ho := ous_le F n (L.take i)
        obtain ⟨wo, rfl⟩ : ∃ wo, wo = wr := ⟨_, rfl⟩
        clear hk
        generalize ous F n (L.take i) 24 = a at *
        go_wp2
        go_loopw [9, 29] (fun v j wr => ∃ p : Nat, p ≤ 9 ∧ j = iv p ∧ v = iv (inn F n k p a) ∧ Gr wo wr) (fun _ j _ => 9 - (intOf j).toNat)
        case atStart => exact ⟨0, by omega, rfl, rfl, Gr.refl _⟩
        case round =>
          obtain ⟨p, hp, rfl, rfl, g'⟩ := hrel
          by_cases hpl : p < 9
          · have HH := hide (fun w => has_any n p w HN.out hpl)
            have HS := hide (fun w => single_any p w hpl)
            cases hv : n.testBit p with
            | true =>
              have HI := hide (inn_yes (F := F) (k := k) (a := a) hv)
              rw [hv] at HH
              have W1 := u_orp HLT.out hpl
              have hK := wi_lt HLT.out hpl
              have xK := ((HOL.out.gr (g1.trans g)).gr g').2 (k ||| 2 ^ p) hK (HCD.out p)
              have hB := ((HOL.out.gr (g1.trans g)).gr g').1
              generalize k ||| 2 ^ p = K at *
              have hK0 : (0 : Int) ≤ (K : Int) := by omega
              have hK1 : (K : Int) < 512 := by omega
              clear hv
              go_upto_region 11 with (first | (go_at_call 44; refine (HH.out _).mono ?_; rintro e w1 ⟨rfl, rfl⟩))
              have GC := @GrW.cell
              refine wp_region_grw _ (by kernel_rfl) (by kernel_rfl) (Gr.refl _) ?_
              repeat (go_big_quiet_step ((first | (go_at_call 17; exact quiet_grs (HS.out _)))))
              refine wpQuiet_nil ?_
              intro wq hwq
              obtain ⟨gq, hwq'⟩ := hwq
              subst hwq'
              clear GC
              have gq1 := gq.gr
              generalize gq.w = wq at gq1 ⊢
              obtain ⟨Xq, Yq, cq, fq⟩ := gq1.use
              have sq := gq1.size
              (try simp only [World.size_alloc, World.size_setCell, World.heap_drewN] at sq)
              go_wp2
              go_roundw
              case rel => exact ⟨p + 1, by omega, by go_num, iv_eq (by rw [min_if, HI.out]), (by repeat (first | with_reducible exact Gr.refl _ | with_reducible assumption | with_reducible refine Gr.alloc ?_ _ | with_reducible refine Gr.drewN ?_ _ | with_reducible refine Gr.drew ?_ | with_reducible refine Gr.setCell ?_ (by first | (dsimp only; omega) | (simp only [World.size_alloc]; omega) | (with_reducible refine Gr.size ?_; (repeat (first | with_reducible exact Gr.refl _ | with_reducible assumption | with_reducible refine Gr.alloc ?_ _ | with_reducible refine Gr.drewN ?_ _ | with_reducible refine Gr.drew ?_ | with_reducible refine Gr.trans ?_ (by with_reducible assumption))); done)) _ | with_reducible refine Gr.trans ?_ (by with_reducible assumption)))⟩
              case measure => simp only [intOf]; omega
            | false =>
              have HI := hide (inn_no (F := F) (k := k) (a := a) hv)
              rw [hv] at HH
              clear hv
              go_wp2_with (first | (go_at_call 44; refine (HH.out _).mono ?_; rintro e w1 ⟨rfl, rfl⟩))
              go_roundw
              case rel => exact ⟨p + 1, by omega, by go_num, by rw [HI.out], (by repeat (first | with_reducible exact Gr.refl _ | with_reducible assumption | with_reducible refine Gr.alloc ?_ _ | with_reducible refine Gr.drewN ?_ _ | with_reducible refine Gr.drew ?_ | with_reducible refine Gr.setCell ?_ (by first | (dsimp only; omega) | (simp only [World.size_alloc]; omega) | (with_reducible refine Gr.size ?_; (repeat (first | with_reducible exact Gr.refl _ | with_reducible assumption | with_reducible refine Gr.alloc ?_ _ | with_reducible refine Gr.drewN ?_ _ | with_reducible refine Gr.drew ?_ | with_reducible refine Gr.trans ?_ (by with_reducible assumption))); done)) _ | with_reducible refine Gr.trans ?_ (by with_reducible assumption)))⟩
              case measure => simp only [intOf]; omega
          · have HP := hide (show inn F n k 9 a = inn F n k p a by rw [show p = 9 by omega])
            have hpz : decide ((p : Int) < 9) = false := by rw [decide_eq_false_iff_not]; omega
            go_wp2
            go_roundw
            case rel => exact ⟨i + 1, by omega, by go_num, by rw [HOU.out, HP.out], (by repeat (first | with_reducible exact Gr.refl _ | with_reducible assumption | with_reducible refine Gr.alloc ?_ _ | with_reducible refine Gr.drewN ?_ _ | with_reducible refine Gr.drew ?_ | with_reducible refine Gr.setCell ?_ (by first | (dsimp only; omega) | (simp only [World.size_alloc]; omega) | (with_reducible refine Gr.size ?_; (repeat (first | with_reducible exact Gr.refl _ | with_reducible assumption | with_reducible refine Gr.alloc ?_ _ | with_reducible refine Gr.drewN ?_ _ | with_reducible refine Gr.drew ?_ | with_reducible refine Gr.trans ?_ (by with_reducible assumption))); done)) _ | with_reducible refine Gr.trans ?_ (by with_reducible assumption)))⟩
            case measure => simp only [intOf]; omega
      · obtain rfl : i = L.length := by omega
        have HT := hide (show ous F n (L.take L.length) 24 = ous F n L 24 by rw [List.take_length])
        have ho := ous_le F n L
        rw [HT.out]
        clear HT
        generalize ous F n L 24 = a at *
        go_wp2
        go_ret
        exact ⟨ret_iv (by rw [HE.out]; omega), (by repeat (first | with_reducible exact Gr.refl _ | with_reducible assumption | with_reducible refine Gr.alloc ?_ _ | with_reducible refine Gr.drewN ?_ _ | with_reducible refine Gr.drew ?_ | with_reducible refine Gr.setCell ?_ (by first | (dsimp only; omega) | (simp only [World.size_alloc]; omega) | (with_reducible refine Gr.size ?_; (repeat (first | with_reducible exact Gr.refl _ | with_reducible assumption | with_reducible refine Gr.alloc ?_ _ | with_reducible refine Gr.drewN ?_ _ | with_reducible refine Gr.drew ?_ | with_reducible refine Gr.trans ?_ (by with_reducible assumption))); done)) _ | with_reducible refine Gr.trans ?_ (by with_reducible assumption)))⟩
end Go.Proofs.Ytfndhddnglcliaa
