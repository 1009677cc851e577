/-
  Bend tables: the deduction of an angle, in the reference.
-/
import Derived.Test.YtpmomgfepkegnaaTab5
set_option linter.unusedVariables false
set_option linter.unusedSimpArgs false
namespace Go.Proofs.Ytpmomgfepkegnaa
set_option linter.unusedVariables false
set_option linter.unusedSimpArgs false
open Go Go.ChangeShapes Go.WideShapes Go.ChangeAt Go.RowKit Go.Deep

/-- the reference's two places behind k entries -/
def loI (l : List En) (a : Int) (k : Nat) : Int := (if k ≤ cutI l a then (k : Int) else if fdB l a then (cutI l a : Int) + 1 else (cutI l a : Int)) - 1
def hiI (l : List En) (a : Int) (k : Nat) : Int := if k ≤ cutI l a then -1 else (cutI l a : Int)
theorem lohi_low {l : List En} {a : Int} {k : Nat} (h : k < cutI l a) : loI l a (k + 1) = k ∧ hiI l a (k + 1) = hiI l a k := by
  unfold loI hiI
  rw [if_pos (by omega), if_pos (by omega), if_pos (by omega)]
  omega
theorem lohi_eq {l : List En} {a : Int} {x : En} (hx : l[cutI l a]? = some x) (h : x.an = a) : loI l a (cutI l a + 1) = cutI l a ∧ hiI l a (cutI l a) = -1 ∧ hiI l a (cutI l a + 1) = cutI l a := by
  have hf : fdB l a = true := by rw [fdB_some hx]; simpa using h
  unfold loI hiI
  rw [if_neg (by omega), hf, if_pos rfl, if_pos (by omega), if_neg (by omega)]
  omega
theorem lohi_gt {l : List En} {a : Int} {x : En} (hx : l[cutI l a]? = some x) (h : ¬ x.an = a) : loI l a (cutI l a + 1) = loI l a (cutI l a) ∧ hiI l a (cutI l a) = -1 ∧ hiI l a (cutI l a + 1) = cutI l a := by
  have hf : fdB l a = false := by rw [fdB_some hx]; simpa using h
  have h1 : ¬ cutI l a + 1 ≤ cutI l a := by omega
  have h2 : cutI l a ≤ cutI l a := Nat.le_refl _
  simp only [loI, hiI, if_neg h1, if_pos h2, hf, Bool.false_eq_true, if_false, and_self]
theorem lohi_up {l : List En} {a : Int} {k : Nat} (h : cutI l a < k) : loI l a (k + 1) = loI l a k ∧ hiI l a k = cutI l a ∧ hiI l a (k + 1) = cutI l a := by
  have h1 : ¬ k + 1 ≤ cutI l a := by omega
  have h2 : ¬ k ≤ cutI l a := by omega
  simp only [loI, hiI, if_neg h1, if_neg h2, and_self]
set_option maxRecDepth 100000 in
set_option maxHeartbeats 4000000 in
theorem deduction_any (t : Tb) (A : Option Addr) (c : Nat) (a : Int) (w : World) (hE : SlE w A c t.en) (hok : okB t.en t.en.length = true) (h6 : t.en.length ≤ 6) :
    Calls Try.prog 99 #[tbv t A c, iv a] w fun e w' => e = .returned (trV (dedV t.en a)) ∧ Gr w w' := by
  have hlen := hE.len
  have HF := hide hE
  have HS := hide (asc_of hok)
  have HEN := hide (fun (k : Nat) (x : En) (hx : t.en[k]? = some x) => en_of hok hx)
  have hcl := cut_le t.en a
  clear hE hok
  go_enter Try.func99, Try.ntmps99
  go_wp2
  go_loopw [6, 7, 8] (fun lo hi i wr => ∃ (k : Nat) (u v : Int), k ≤ t.en.length ∧ i = iv k ∧ lo = iv u ∧ hi = iv v ∧ Gr ((w.alloc (.cells #[.string t.mt, iv t.ga, iv t.di, .slice A t.en.length c] 71)).alloc (.cells #[iv 0, iv 0] 74)) wr ∧ Hid (u = loI t.en a k) ∧ Hid (v = hiI t.en a k)) (fun _ _ i _ => t.en.length - (intOf i).toNat)
  case atStart => exact ⟨0, -1, -1, by omega, rfl, rfl, rfl, Gr.refl _, by unfold Hid loI; rw [if_pos (by omega)]; rfl, by unfold Hid hiI; rw [if_pos (by omega)]⟩
  case round =>
    obtain ⟨k, u, v, hk, rfl, rfl, rfl, g, HU, HV⟩ := hrel
    have gW : Gr w wr := (by repeat (first | with_reducible exact Gr.refl _ | with_reducible assumption | with_reducible refine Gr.alloc ?_ _ | with_reducible refine Gr.drewN ?_ _ | with_reducible refine Gr.drew ?_ | with_reducible refine Gr.setCell ?_ (by first | (dsimp only; omega) | (simp only [World.size_alloc]; omega) | (with_reducible refine Gr.size ?_; (repeat (first | with_reducible exact Gr.refl _ | with_reducible assumption | with_reducible refine Gr.alloc ?_ _ | with_reducible refine Gr.drewN ?_ _ | with_reducible refine Gr.drew ?_ | with_reducible refine Gr.trans ?_ (by with_reducible assumption))); done)) _ | with_reducible refine Gr.trans ?_ (by with_reducible assumption)))
    obtain ⟨Xr, Yr, cr, fr⟩ := g.use
    have zr := g.size
    simp only [World.size_alloc] at zr
    have l0 : w.heap.size < wr.heap.size := by omega
    have l1 : w.heap.size + 1 < wr.heap.size := by omega
    by_cases hkl : k < t.en.length
    · obtain ⟨x, hx⟩ : ∃ x, t.en[k]? = some x := ⟨_, List.getElem?_eq_getElem hkl⟩
      obtain ⟨b, off, rfl, x0, x1, x2⟩ := HF.out.rd.en hx
      have hb : b < w.heap.size := cell_lt (by rw [x0]; rfl)
      have hbr : b < wr.heap.size := by omega
      have hk0 : (0 : Int) ≤ (k : Int) := by omega
      have hk1 : (k : Int) < (t.en.length : Int) := by omega
      rcases Nat.lt_trichotomy k (cutI t.en a) with h | h | h
      · have hxa := cut_lt h hx
        obtain ⟨e1, e2⟩ := lohi_low h
        have HU' := hide e1.symm
        have HV' := hide (HV.out.trans e2.symm)
        clear hx e1 e2 h hcl
        go_wp2
        go_roundw
        case rel => exact ⟨k + 1, k, v, by omega, by go_num, rfl, rfl, (by repeat (first | with_reducible exact Gr.refl _ | with_reducible assumption | with_reducible refine Gr.alloc ?_ _ | with_reducible refine Gr.drewN ?_ _ | with_reducible refine Gr.drew ?_ | with_reducible refine Gr.setCell ?_ (by first | (dsimp only; omega) | (simp only [World.size_alloc]; omega) | (with_reducible refine Gr.size ?_; (repeat (first | with_reducible exact Gr.refl _ | with_reducible assumption | with_reducible refine Gr.alloc ?_ _ | with_reducible refine Gr.drewN ?_ _ | with_reducible refine Gr.drew ?_ | with_reducible refine Gr.trans ?_ (by with_reducible assumption))); done)) _ | with_reducible refine Gr.trans ?_ (by with_reducible assumption))), HU', HV'⟩
        case measure => simp only [intOf]; omega
      · have hx2 := hx
        rw [h] at hx2
        by_cases hxa : x.an = a
        · obtain ⟨e1, e2, e3⟩ := lohi_eq hx2 hxa
          rw [← h] at e1 e2 e3
          have HU' := hide e1.symm
          have HV' := hide e3.symm
          obtain rfl : v = -1 := HV.out.trans e2
          have q1 : x.an ≤ a := by omega
          have q2 : a ≤ x.an := by omega
          clear hx e1 e2 e3 h hx2 hxa hcl HV
          go_wp2
          go_roundw
          case rel => exact ⟨k + 1, k, k, by omega, by go_num, rfl, rfl, (by repeat (first | with_reducible exact Gr.refl _ | with_reducible assumption | with_reducible refine Gr.alloc ?_ _ | with_reducible refine Gr.drewN ?_ _ | with_reducible refine Gr.drew ?_ | with_reducible refine Gr.setCell ?_ (by first | (dsimp only; omega) | (simp only [World.size_alloc]; omega) | (with_reducible refine Gr.size ?_; (repeat (first | with_reducible exact Gr.refl _ | with_reducible assumption | with_reducible refine Gr.alloc ?_ _ | with_reducible refine Gr.drewN ?_ _ | with_reducible refine Gr.drew ?_ | with_reducible refine Gr.trans ?_ (by with_reducible assumption))); done)) _ | with_reducible refine Gr.trans ?_ (by with_reducible assumption))), HU', HV'⟩
          case measure => simp only [intOf]; omega
        · obtain ⟨e1, e2, e3⟩ := lohi_gt hx2 hxa
          rw [← h] at e1 e2 e3
          have hge := cut_at hx2
          have HU' := hide (HU.out.trans e1.symm)
          have HV' := hide e3.symm
          obtain rfl : v = -1 := HV.out.trans e2
          have q1 : ¬ x.an ≤ a := by omega
          have q2 : a ≤ x.an := by omega
          clear hx e1 e2 e3 h hx2 hxa hcl HV hge
          go_wp2
          go_roundw
          case rel => exact ⟨k + 1, u, k, by omega, by go_num, rfl, rfl, (by repeat (first | with_reducible exact Gr.refl _ | with_reducible assumption | with_reducible refine Gr.alloc ?_ _ | with_reducible refine Gr.drewN ?_ _ | with_reducible refine Gr.drew ?_ | with_reducible refine Gr.setCell ?_ (by first | (dsimp only; omega) | (simp only [World.size_alloc]; omega) | (with_reducible refine Gr.size ?_; (repeat (first | with_reducible exact Gr.refl _ | with_reducible assumption | with_reducible refine Gr.alloc ?_ _ | with_reducible refine Gr.drewN ?_ _ | with_reducible refine Gr.drew ?_ | with_reducible refine Gr.trans ?_ (by with_reducible assumption))); done)) _ | with_reducible refine Gr.trans ?_ (by with_reducible assumption))), HU', HV'⟩
          case measure => simp only [intOf]; omega
      · have hge := cut_gt HS.out h hx
        obtain ⟨e1, e2, e3⟩ := lohi_up h
        have HU' := hide (HU.out.trans e1.symm)
        have HV' := hide e3.symm
        have hv := HV.out.trans e2
        have q1 : ¬ x.an ≤ a := by omega
        have q2 : a ≤ x.an := by omega
        have q3 : ¬ v < 0 := by omega
        have HVV := hide hv
        clear hx e1 e2 e3 h hcl HV hge hv
        go_wp2
        go_roundw
        case rel => exact ⟨k + 1, u, v, by omega, by go_num, rfl, rfl, (by repeat (first | with_reducible exact Gr.refl _ | with_reducible assumption | with_reducible refine Gr.alloc ?_ _ | with_reducible refine Gr.drewN ?_ _ | with_reducible refine Gr.drew ?_ | with_reducible refine Gr.setCell ?_ (by first | (dsimp only; omega) | (simp only [World.size_alloc]; omega) | (with_reducible refine Gr.size ?_; (repeat (first | with_reducible exact Gr.refl _ | with_reducible assumption | with_reducible refine Gr.alloc ?_ _ | with_reducible refine Gr.drewN ?_ _ | with_reducible refine Gr.drew ?_ | with_reducible refine Gr.trans ?_ (by with_reducible assumption))); done)) _ | with_reducible refine Gr.trans ?_ (by with_reducible assumption))), HU', by unfold Hid; rw [HVV.out]; exact HV'.out⟩
        case measure => simp only [intOf]; omega
    · obtain rfl : k = t.en.length := by omega
      cases hy : t.en[cutI t.en a]? with
      | none =>
        have hn : cutI t.en a = t.en.length := by have := List.getElem?_eq_none_iff.1 hy; omega
        obtain rfl : v = -1 := by rw [HV.out]; unfold hiI; rw [if_pos (by omega)]
        have HE := hide (dedV_none hy)
        clear hy hn hcl HU HV
        go_wp2
        all_goals
          refine bodyPost_ret (v := trV (0, 0, 5)) (by simp [results, Try.results99, go_sem, *]) rfl ⟨by rw [HE.out], (by repeat (first | with_reducible exact Gr.refl _ | with_reducible assumption | with_reducible refine Gr.alloc ?_ _ | with_reducible refine Gr.drewN ?_ _ | with_reducible refine Gr.drew ?_ | with_reducible refine Gr.setCell ?_ (by first | (dsimp only; omega) | (simp only [World.size_alloc]; omega) | (with_reducible refine Gr.size ?_; (repeat (first | with_reducible exact Gr.refl _ | with_reducible assumption | with_reducible refine Gr.alloc ?_ _ | with_reducible refine Gr.drewN ?_ _ | with_reducible refine Gr.drew ?_ | with_reducible refine Gr.trans ?_ (by with_reducible assumption))); done)) _ | with_reducible refine Gr.trans ?_ (by with_reducible assumption)))⟩
      | some y =>
        have hn : cutI t.en a < t.en.length := (List.getElem?_eq_some_iff.1 hy).1
        have hv : v = (cutI t.en a : Int) := by rw [HV.out]; unfold hiI; rw [if_neg (by omega)]
        obtain ⟨b, off, hA, y0, y1, y2⟩ := HF.out.rd.en hy
        subst hA
        have hb : b < w.heap.size := cell_lt (by rw [y0]; rfl)
        have hbr : b < wr.heap.size := by omega
        have hbr1 : b < wr.heap.size + 1 := by omega
        have hey := HEN.out _ _ hy
        by_cases hya : y.an = a
        · have hu : u = (cutI t.en a : Int) := by rw [HU.out]; unfold loI; rw [if_neg (by omega), fdB_some hy, if_pos (by simpa using hya)]; omega
          have HE := hide (dedV_found hy hya)
          obtain ⟨-, m1, m2⟩ := en_ra hey
          have HLW := hide (fun w => lowest_any y.nm y.dn w (by omega) (by omega))
          generalize rdN y.nm y.dn = rn at *
          generalize rdD y.nm y.dn = rd at *
          clear hy hya hey m1 m2 HU HV hcl hkl
          have HC := hide hn
          generalize cutI t.en a = n at *
          subst hu
          subst hv
          have hn0 : (0 : Int) ≤ (n : Int) := by omega
          have hn1 : (n : Int) < (t.en.length : Int) := by omega
          go_upto_region 11 with fail
          go_region
          all_goals
            go_wp2_with (first | (go_at_call 155; refine (HLW.out _).mono ?_; rintro e w1 ⟨rfl, g1⟩; obtain ⟨X1, Y1, c1, f1⟩ := g1.use; have z1 := g1.size; (try simp only [World.size_alloc, World.size_setCell, World.heap_drewN, Nat.add_one_le_iff] at z1); (try have l0 : w.heap.size < w1.heap.size := by omega); (try have l1 : w.heap.size + 1 < w1.heap.size := by omega); (try have l2 : w.heap.size + 1 + 1 < w1.heap.size := by omega)))
            refine bodyPost_ret (v := trV (rn, rd, 0)) (by simp [results, Try.results99, go_sem, *]) rfl ⟨by rw [HE.out], (by repeat (first | with_reducible exact Gr.refl _ | with_reducible assumption | with_reducible refine Gr.alloc ?_ _ | with_reducible refine Gr.drewN ?_ _ | with_reducible refine Gr.drew ?_ | with_reducible refine Gr.setCell ?_ (by first | (dsimp only; omega) | (simp only [World.size_alloc]; omega) | (with_reducible refine Gr.size ?_; (repeat (first | with_reducible exact Gr.refl _ | with_reducible assumption | with_reducible refine Gr.alloc ?_ _ | with_reducible refine Gr.drewN ?_ _ | with_reducible refine Gr.drew ?_ | with_reducible refine Gr.trans ?_ (by with_reducible assumption))); done)) _ | with_reducible refine Gr.trans ?_ (by with_reducible assumption)))⟩
        · have hu : u = (cutI t.en a : Int) - 1 := by rw [HU.out]; unfold loI; rw [if_neg (by omega), fdB_some hy, if_neg (by simpa using hya)]
          by_cases hn0 : cutI t.en a = 0
          · have HE := hide (dedV_zero hy hya hn0)
            obtain rfl : u = -1 := by omega
            clear hy hya hey HU HV hcl hkl hu hn0
            go_wp2
            refine bodyPost_ret (v := trV (0, 0, 5)) (by simp [results, Try.results99, go_sem, *]) rfl ⟨by rw [HE.out], (by repeat (first | with_reducible exact Gr.refl _ | with_reducible assumption | with_reducible refine Gr.alloc ?_ _ | with_reducible refine Gr.drewN ?_ _ | with_reducible refine Gr.drew ?_ | with_reducible refine Gr.setCell ?_ (by first | (dsimp only; omega) | (simp only [World.size_alloc]; omega) | (with_reducible refine Gr.size ?_; (repeat (first | with_reducible exact Gr.refl _ | with_reducible assumption | with_reducible refine Gr.alloc ?_ _ | with_reducible refine Gr.drewN ?_ _ | with_reducible refine Gr.drew ?_ | with_reducible refine Gr.trans ?_ (by with_reducible assumption))); done)) _ | with_reducible refine Gr.trans ?_ (by with_reducible assumption)))⟩
          · obtain ⟨n, hn'⟩ : ∃ n : Nat, cutI t.en a = n + 1 := ⟨cutI t.en a - 1, by omega⟩
            obtain ⟨x, hx⟩ : ∃ x, t.en[n]? = some x := ⟨_, List.getElem?_eq_getElem (by omega)⟩
            have hx' : t.en[cutI t.en a - 1]? = some x := by rw [hn']; exact hx
            have HE := hide (dedV_mid hy hya hn0 hx')
            have hex := HEN.out _ _ hx
            have hxa : x.an < a := cut_lt (by omega) hx
            have hay : a < y.an := by have := cut_at hy; omega
            obtain ⟨-, ⟨b1, b2⟩, b3, b4⟩ := be_ok hex hey hxa hay
            obtain ⟨ax, dx, nx0, nx1⟩ := enB_use hex
            obtain ⟨ay, dy, ny0, ny1⟩ := enB_use hey
            have HLW := hide (fun w => lowest_any (beN x y a) (beD x y) w (by omega) (by omega))
            obtain ⟨b', off', hA', x0, x1, x2⟩ := HF.out.rd.en hx
            obtain ⟨rfl, rfl⟩ : b = b' ∧ off = off' := by simpa using hA'
            have tx := tw_bd hex
            have ty := tw_bd hey
            have ex : x.nm * (12 : Int).tdiv x.dn = twI x := by rw [tw_eq dx]; rcases dx with h | h | h | h | h | h <;> rw [h] <;> rfl
            have ey : y.nm * (12 : Int).tdiv y.dn = twI y := by rw [tw_eq dy]; rcases dy with h | h | h | h | h | h <;> rw [h] <;> rfl
            have dx0 : (x.dn == 0) = false := by rw [beq_eq_false_iff_ne]; omega
            have dy0 : (y.dn == 0) = false := by rw [beq_eq_false_iff_ne]; omega
            have zx : ¬ x.dn = 0 := by omega
            have zy : ¬ y.dn = 0 := by omega
            have Wx : IntKind.i64.wrap ((12 : Int).tdiv x.dn) = (12 : Int).tdiv x.dn := by rcases dx with h | h | h | h | h | h <;> rw [h] <;> rfl
            have Wy : IntKind.i64.wrap ((12 : Int).tdiv y.dn) = (12 : Int).tdiv y.dn := by rcases dy with h | h | h | h | h | h <;> rw [h] <;> rfl
            have Vx : IntKind.i64.wrap (x.nm * (12 : Int).tdiv x.dn) = twI x := by rw [ex, IntWalk.i64_in _ (by omega)]
            have Vy : IntKind.i64.wrap (y.nm * (12 : Int).tdiv y.dn) = twI y := by rw [ey, IntWalk.i64_in _ (by omega)]
            have p1 : 0 ≤ twI x * (y.an - a) := Int.mul_nonneg (by omega) (by omega)
            have p2 : 0 ≤ twI y * (a - x.an) := Int.mul_nonneg (by omega) (by omega)
            have p3 : twI x * (y.an - a) ≤ 240 * (y.an - a) := Int.mul_le_mul_of_nonneg_right tx.2 (by omega)
            have p4 : twI y * (a - x.an) ≤ 240 * (a - x.an) := Int.mul_le_mul_of_nonneg_right ty.2 (by omega)
            unfold beN beD at HLW HE
            generalize rdN (twI x * (y.an - a) + twI y * (a - x.an)) (12 * (y.an - x.an)) = rn at *
            generalize rdD (twI x * (y.an - a) + twI y * (a - x.an)) (12 * (y.an - x.an)) = rd at *
            generalize twI x = tx' at *
            generalize twI y = ty' at *
            clear hA' hy hya hn0 hx hx' hex hey HU HV hcl hkl ex ey dx dy b1 b2 b3 b4 nx0 nx1 ny0 ny1 tx ty
            rw [hn'] at hu hv hn y0 y1 y2
            have HC := hide hn'
            clear hn'
            obtain rfl : u = (n : Int) := by omega
            obtain rfl : v = (n : Int) + 1 := by omega
            clear hu hv
            have hk0 : (0 : Int) ≤ (n : Int) := by omega
            have hk1 : (n : Int) < (t.en.length : Int) := by omega
            have hk2 : (0 : Int) ≤ (n : Int) + 1 := by omega
            have hk3 : (n : Int) + 1 < (t.en.length : Int) := by omega
            have hne : ((n : Int) == (n : Int) + 1) = false := by rw [beq_eq_false_iff_ne]; omega
            go_upto_region 11 with fail
            go_region
            all_goals
              go_upto_region 14 with fail
              have GC := @GrW.cell
              refine wp_region_grw _ (by kernel_rfl) (by kernel_rfl) (Gr.refl _) ?_
              repeat (go_big_quiet_step ((first | fail)))
              refine wpQuiet_nil ?_
              intro wq hwq
              obtain ⟨gq, hwq'⟩ := hwq
              subst hwq'
              clear GC
              have gq1 := gq.gr
              generalize gq.w = wq at gq1 ⊢
              obtain ⟨Xq, Yq, cq, fq⟩ := gq1.use
              have sq := gq1.size
              (try simp only [World.size_alloc, World.size_setCell, World.heap_drewN] at sq)
              clear Wx Wy Vx Vy
              go_wp2_with (first | (go_at_call 155; refine (HLW.out _).mono ?_; rintro e w1 ⟨rfl, g1⟩; obtain ⟨X1, Y1, c1, f1⟩ := g1.use; have z1 := g1.size; (try simp only [World.size_alloc, World.size_setCell, World.heap_drewN, Nat.add_one_le_iff] at z1); (try have l0 : w.heap.size < w1.heap.size := by omega); (try have l1 : w.heap.size + 1 < w1.heap.size := by omega); (try have l2 : w.heap.size + 1 + 1 < w1.heap.size := by omega)))
              refine bodyPost_ret (v := trV (rn, rd, 0)) (by simp [results, Try.results99, go_sem, *]) rfl ⟨by rw [HE.out], (by repeat (first | with_reducible exact Gr.refl _ | with_reducible assumption | with_reducible refine Gr.alloc ?_ _ | with_reducible refine Gr.drewN ?_ _ | with_reducible refine Gr.drew ?_ | with_reducible refine Gr.setCell ?_ (by first | (dsimp only; omega) | (simp only [World.size_alloc]; omega) | (with_reducible refine Gr.size ?_; (repeat (first | with_reducible exact Gr.refl _ | with_reducible assumption | with_reducible refine Gr.alloc ?_ _ | with_reducible refine Gr.drewN ?_ _ | with_reducible refine Gr.drew ?_ | with_reducible refine Gr.trans ?_ (by with_reducible assumption))); done)) _ | with_reducible refine Gr.trans ?_ (by with_reducible assumption)))⟩
end Go.Proofs.Ytpmomgfepkegnaa
