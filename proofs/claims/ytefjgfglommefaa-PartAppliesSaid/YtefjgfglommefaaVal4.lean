/-
  Parts: the size of a face; the error of a flange, in the code.
-/
import Derived.Test.YtefjgfglommefaaVal3
import Derived.Test.YtefjgfglommefaaOpenPa
set_option linter.unusedVariables false
set_option linter.unusedSimpArgs false
namespace Go.Proofs.Ytefjgfglommefaa
set_option linter.unusedVariables false
set_option linter.unusedSimpArgs false
open Go Go.ChangeShapes Go.WideShapes Go.ChangeAt Go.RowKit Go.Deep

/-- a slice of flanges as an argument has it -/
structure SlF (w : World) (A : Option Addr) (c : Nat) (l : List Fl) : Prop where
  rd : RdF w A l
  cap : l.length ≤ c
  capB : c ≤ 9223372036854775807
  len : l.length ≤ 1000
  nm : ∀ g ∈ l, g.nm.size ≤ 1000
theorem SlF.gr {w w' : World} {A : Option Addr} {c : Nat} {l : List Fl} (h : SlF w A c l) (g : Gr w w') : SlF w' A c l := ⟨h.rd.gr g, h.cap, h.capB, h.len, h.nm⟩
set_option maxRecDepth 100000 in
set_option maxHeartbeats 1000000 in
theorem size_any (p : Pa) (A B : Option Addr) (c d : Nat) (n : Int) (w : World) (hF : SlF w A c p.fl) (h0 : 0 ≤ n) (h1 : n ≤ p.fl.length) :
    Calls Try.prog 56 #[pav p A c B d, iv n] w fun e w' => e = .returned (.tuple #[iv (extW p n), iv (extH p n)]) ∧ Gr w w' := by
  by_cases hn : n = 0
  · subst hn
    rw [show extW p 0 = p.wd from rfl, show extH p 0 = p.ht from rfl]
    clear h0 h1 hF
    go_enter Try.func56, Try.ntmps56
    go_upto_region 2 with fail
    have GC := @GrW.cell
    refine wp_region_grw _ (by kernel_rfl) (by kernel_rfl) (Gr.refl _) ?_
    repeat (go_big_quiet_step ((first | fail)))
    refine wpQuiet_nil ?_
    intro wq hwq
    obtain ⟨gq, hwq'⟩ := hwq
    subst hwq'
    clear GC
    have gq1 := gq.gr
    generalize gq.w = wq at gq1 ⊢
    obtain ⟨Xq, Yq, cq, fq⟩ := gq1.use
    have sq := gq1.size
    (try simp only [World.size_alloc, World.size_setCell, World.heap_drewN] at sq)
    go_wp2
    go_ret2
    exact ⟨rfl, (by repeat (first | with_reducible exact Gr.refl _ | with_reducible assumption | with_reducible refine Gr.alloc ?_ _ | with_reducible refine Gr.drewN ?_ _ | with_reducible refine Gr.drew ?_ | with_reducible refine Gr.setCell ?_ (by first | (dsimp only; omega) | (simp only [World.size_alloc]; omega) | (with_reducible refine Gr.size ?_; (repeat (first | with_reducible exact Gr.refl _ | with_reducible assumption | with_reducible refine Gr.alloc ?_ _ | with_reducible refine Gr.drewN ?_ _ | with_reducible refine Gr.drew ?_ | with_reducible refine Gr.trans ?_ (by with_reducible assumption))); done)) _ | with_reducible refine Gr.trans ?_ (by with_reducible assumption)))⟩
  · obtain ⟨k, rfl⟩ : ∃ k : Nat, n = (k : Int) + 1 := ⟨(n - 1).toNat, by omega⟩
    obtain ⟨f, hf⟩ : ∃ f, p.fl[k]? = some f := ⟨_, List.getElem?_eq_getElem (by omega)⟩
    have e1 : extW p (k + 1) = f.wd := by unfold extW; rw [if_neg hn, show ((k : Int) + 1 - 1).toNat = k by omega, hf]; rfl
    have e2 : extH p (k + 1) = f.ln := by unfold extH; rw [if_neg hn, show ((k : Int) + 1 - 1).toNat = k by omega, hf]; rfl
    rw [e1, e2]
    have hlen := hF.len
    have hkl : k < p.fl.length := by omega
    obtain ⟨b, off, rfl, x0, x1, x2, x3, x4, x5, x6⟩ := hF.rd.fl hf
    have hb : b < w.heap.size := cell_lt (by rw [x0]; rfl)
    have W1 : IntKind.i64.wrap ((k : Int) + 1 - 1) = k := by rw [IntWalk.i64_in _ (by omega)]; omega
    have hn2 : ((k : Int) + 1 == 0) = false := by simpa using hn
    clear h0 h1 hF hf e1 e2 hn
    go_enter Try.func56, Try.ntmps56
    go_upto_region 4 with fail
    have GC := @GrW.cell
    refine wp_region_grw _ (by kernel_rfl) (by kernel_rfl) (Gr.refl _) ?_
    repeat (go_big_quiet_step ((first | fail)))
    refine wpQuiet_nil ?_
    intro wq hwq
    obtain ⟨gq, hwq'⟩ := hwq
    subst hwq'
    clear GC
    have gq1 := gq.gr
    generalize gq.w = wq at gq1 ⊢
    obtain ⟨Xq, Yq, cq, fq⟩ := gq1.use
    have sq := gq1.size
    (try simp only [World.size_alloc, World.size_setCell, World.heap_drewN] at sq)
    go_wp2
    go_ret2
    exact ⟨rfl, (by repeat (first | with_reducible exact Gr.refl _ | with_reducible assumption | with_reducible refine Gr.alloc ?_ _ | with_reducible refine Gr.drewN ?_ _ | with_reducible refine Gr.drew ?_ | with_reducible refine Gr.setCell ?_ (by first | (dsimp only; omega) | (simp only [World.size_alloc]; omega) | (with_reducible refine Gr.size ?_; (repeat (first | with_reducible exact Gr.refl _ | with_reducible assumption | with_reducible refine Gr.alloc ?_ _ | with_reducible refine Gr.drewN ?_ _ | with_reducible refine Gr.drew ?_ | with_reducible refine Gr.trans ?_ (by with_reducible assumption))); done)) _ | with_reducible refine Gr.trans ?_ (by with_reducible assumption)))⟩
theorem dup_step {l : List Fl} {j : Nat} {g : Fl} {s : ByteArray} (h : l[j]? = some g) (h0 : dupB l j s = false) (hg : (g.nm.toList == s.toList) = false) : dupB l (j + 1) s = false := by
  unfold dupB at *
  rw [List.take_add_one, h]
  simp only [Option.toList_some, List.any_append, List.any_cons, List.any_nil, Bool.or_false]
  rw [h0, hg]
  rfl
theorem dup_yes {l : List Fl} {j k : Nat} {g : Fl} {s : ByteArray} (h : l[j]? = some g) (hjk : j < k) (hg : (g.nm.toList == s.toList) = true) : dupB l k s = true := by
  unfold dupB
  rw [List.any_eq_true]
  refine ⟨g, ?_, hg⟩
  rw [List.mem_iff_getElem?]
  exact ⟨j, by rw [List.getElem?_take_of_lt hjk]; exact h⟩
set_option maxRecDepth 100000 in
set_option maxHeartbeats 4000000 in
theorem checkFlange_any (p : Pa) (A B : Option Addr) (c d k : Nat) (f : Fl) (w : World) (hF : SlF w A c p.fl) (hf : p.fl[k]? = some f) (ok : FlOk p k) :
    Calls Try.prog 28 #[pav p A c B d, iv k] w fun e w' => e = .returned (iv (flE p k f)) ∧ Gr w w' := by
  have hlen := hF.len
  have hcap := hF.cap
  have hcapB := hF.capB
  have hkl : k < p.fl.length := (List.getElem?_eq_some_iff.1 hf).1
  have hfn : f.nm.size ≤ 1000 := hF.nm f (List.mem_of_getElem? hf)
  obtain ⟨b, off, hA, x0, x1, x2, x3, x4, x5, x6⟩ := hF.rd.fl hf
  subst hA
  have hb : b < w.heap.size := cell_lt (by rw [x0]; rfl)
  have HF := hide hF
  have HL := hide hf
  have HOK := hide ok
  clear hF ok
  cases hn : nameB f.nm.toList with
  | false =>
    rw [show flE p k f = 2 by unfold flE; rw [hn]; rfl]
    go_enter Try.func28, Try.ntmps28
    go_wp2_with (go_at_call 13; refine (validName_any _ _ (by omega)).mono ?_; rintro e w1 ⟨rfl, rfl⟩)
    go_ret
    exact ⟨rfl, (by repeat (first | with_reducible exact Gr.refl _ | with_reducible assumption | with_reducible refine Gr.alloc ?_ _ | with_reducible refine Gr.drewN ?_ _ | with_reducible refine Gr.drew ?_ | with_reducible refine Gr.setCell ?_ (by first | (dsimp only; omega) | (simp only [World.size_alloc]; omega) | (with_reducible refine Gr.size ?_; (repeat (first | with_reducible exact Gr.refl _ | with_reducible assumption | with_reducible refine Gr.alloc ?_ _ | with_reducible refine Gr.drewN ?_ _ | with_reducible refine Gr.drew ?_ | with_reducible refine Gr.trans ?_ (by with_reducible assumption))); done)) _ | with_reducible refine Gr.trans ?_ (by with_reducible assumption)))⟩
  | true =>
    go_enter Try.func28, Try.ntmps28
    go_upto_region 4 with (go_at_call 13; refine (validName_any _ _ (by omega)).mono ?_; rintro e w1 ⟨rfl, rfl⟩)
    go_wp2
    go_loopw [25] (fun j wr => ∃ j' : Nat, j' ≤ k ∧ j = iv j' ∧ Gr ((w.alloc (.cells #[.string p.nm, .string p.mt, iv p.ga, iv p.gr, iv p.wd, iv p.ht, .slice (some ⟨b, off, none⟩) p.fl.length c, .slice B p.ho.length d] 25)).alloc (.cells #[.string f.nm, iv f.pa, iv f.sd, iv f.o, iv f.wd, iv f.ln, iv f.an] 27)) wr ∧ Hid (dupB p.fl j' f.nm = false)) (fun j _ => k - (intOf j).toNat)
    case atStart => exact ⟨0, by omega, rfl, Gr.refl _, by unfold Hid dupB; simp⟩
    case round =>
      obtain ⟨j, hj, rfl, g, HD⟩ := hrel
      have gW : Gr w wr := (by repeat (first | with_reducible exact Gr.refl _ | with_reducible assumption | with_reducible refine Gr.alloc ?_ _ | with_reducible refine Gr.drewN ?_ _ | with_reducible refine Gr.drew ?_ | with_reducible refine Gr.setCell ?_ (by first | (dsimp only; omega) | (simp only [World.size_alloc]; omega) | (with_reducible refine Gr.size ?_; (repeat (first | with_reducible exact Gr.refl _ | with_reducible assumption | with_reducible refine Gr.alloc ?_ _ | with_reducible refine Gr.drewN ?_ _ | with_reducible refine Gr.drew ?_ | with_reducible refine Gr.trans ?_ (by with_reducible assumption))); done)) _ | with_reducible refine Gr.trans ?_ (by with_reducible assumption)))
      obtain ⟨Xr, Yr, cr, fr⟩ := g.use
      have zr := g.size
      simp only [World.size_alloc] at zr
      have l0 : w.heap.size < wr.heap.size := by omega
      have l1 : w.heap.size + 1 < wr.heap.size := by omega
      have hbr : b < wr.heap.size := by omega
      by_cases hjk : j < k
      · obtain ⟨h, hh⟩ : ∃ h, p.fl[j]? = some h := ⟨_, List.getElem?_eq_getElem (by omega)⟩
        obtain ⟨b', off', hA', y0, y1, y2, y3, y4, y5, y6⟩ := HF.out.rd.fl hh
        obtain ⟨rfl, rfl⟩ : b = b' ∧ off = off' := by simpa using hA'
        clear hA'
        cases hg : (h.nm.toList == f.nm.toList) with
        | true =>
          have HE := hide (show flE p k f = 2 by unfold flE; rw [hn, dup_yes hh hjk hg]; rfl)
          go_wp2
          go_ret
          exact ⟨ret_iv HE.out.symm, (by repeat (first | with_reducible exact Gr.refl _ | with_reducible assumption | with_reducible refine Gr.alloc ?_ _ | with_reducible refine Gr.drewN ?_ _ | with_reducible refine Gr.drew ?_ | with_reducible refine Gr.setCell ?_ (by first | (dsimp only; omega) | (simp only [World.size_alloc]; omega) | (with_reducible refine Gr.size ?_; (repeat (first | with_reducible exact Gr.refl _ | with_reducible assumption | with_reducible refine Gr.alloc ?_ _ | with_reducible refine Gr.drewN ?_ _ | with_reducible refine Gr.drew ?_ | with_reducible refine Gr.trans ?_ (by with_reducible assumption))); done)) _ | with_reducible refine Gr.trans ?_ (by with_reducible assumption)))⟩
        | false =>
          have HD' := hide (dup_step hh HD.out hg)
          go_wp2
          go_roundw
          case rel => exact ⟨j + 1, by omega, by go_num, (by repeat (first | with_reducible exact Gr.refl _ | with_reducible assumption | with_reducible refine Gr.alloc ?_ _ | with_reducible refine Gr.drewN ?_ _ | with_reducible refine Gr.drew ?_ | with_reducible refine Gr.setCell ?_ (by first | (dsimp only; omega) | (simp only [World.size_alloc]; omega) | (with_reducible refine Gr.size ?_; (repeat (first | with_reducible exact Gr.refl _ | with_reducible assumption | with_reducible refine Gr.alloc ?_ _ | with_reducible refine Gr.drewN ?_ _ | with_reducible refine Gr.drew ?_ | with_reducible refine Gr.trans ?_ (by with_reducible assumption))); done)) _ | with_reducible refine Gr.trans ?_ (by with_reducible assumption))), HD'⟩
          case measure => simp only [intOf]; omega
      · obtain rfl : j = k := by omega
        have HE := hide (show flE p j f = if !(wiB f.pa 0 j && sidB f && angB f.an && lenB f.wd && lenB f.ln) then 1 else if !wiB f.o 0 (sidL p f.pa f.sd - f.wd) then 1 else 0 by
          unfold flE; rw [hn, HD.out]; rfl)
        clear HD
        cases hT : (wiB f.pa 0 j && sidB f && angB f.an && lenB f.wd && lenB f.ln) with
        | false =>
          have HE2 := hide (show flE p j f = 1 by rw [HE.out, hT]; rfl)
          clear HE
          go_wp2_with (first | (go_at_call 52; refine (pwithin_any _ _ _ _).mono ?_; rintro e w1 ⟨rfl, rfl⟩) | (go_at_call 54; refine (validSide_any _ _).mono ?_; rintro e w1 ⟨rfl, g1⟩; obtain ⟨X1, Y1, c1, f1⟩ := g1.use; have z1 := g1.size; (try simp only [World.size_alloc, World.size_setCell, World.heap_drewN, Nat.add_one_le_iff] at z1); (try have l0 : w.heap.size < w1.heap.size := by omega); (try have l1 : w.heap.size + 1 < w1.heap.size := by omega); (try have l2 : w.heap.size + 1 + 1 < w1.heap.size := by omega)) | (go_at_call 55; refine (validAngle_any _ _).mono ?_; rintro e w1 ⟨rfl, rfl⟩) | (go_at_call 53; refine (validLength_any _ _).mono ?_; rintro e w1 ⟨rfl, rfl⟩))
          all_goals first
            | (go_ret
               exact ⟨ret_iv HE2.out.symm, (by repeat (first | with_reducible exact Gr.refl _ | with_reducible assumption | with_reducible refine Gr.alloc ?_ _ | with_reducible refine Gr.drewN ?_ _ | with_reducible refine Gr.drew ?_ | with_reducible refine Gr.setCell ?_ (by first | (dsimp only; omega) | (simp only [World.size_alloc]; omega) | (with_reducible refine Gr.size ?_; (repeat (first | with_reducible exact Gr.refl _ | with_reducible assumption | with_reducible refine Gr.alloc ?_ _ | with_reducible refine Gr.drewN ?_ _ | with_reducible refine Gr.drew ?_ | with_reducible refine Gr.trans ?_ (by with_reducible assumption))); done)) _ | with_reducible refine Gr.trans ?_ (by with_reducible assumption)))⟩)
            | (exfalso
               simp_all
               done)
        | true =>
          have HE2 := hide (show flE p j f = if !wiB f.o 0 (sidL p f.pa f.sd - f.wd) then 1 else 0 by rw [HE.out, hT]; rfl)
          clear HE
          simp only [Bool.and_eq_true] at hT
          obtain ⟨⟨⟨⟨t1, t2⟩, t3⟩, t4⟩, t5⟩ := hT
          obtain ⟨u1, u2⟩ := wiB_iff.1 t1
          have HS := hide (fun (w' : World) (g : Gr wr w') => size_any p (some ⟨b, off, none⟩) B c d f.pa w' (HF.out.gr (gW.trans g)) u1 (by omega))
          have hsd := sid_le HOK.out u1 u2 (by omega) (s := f.sd)
          obtain ⟨v1, v2⟩ := wiB_iff.1 (show wiB f.wd 1 150 = true from t4)
          have hq : (tur ⟨0, 0, 0, 0, 0, 0, 0, 0, 0, extW p f.pa, extH p f.pa⟩ f.sd).w = sidL p f.pa f.sd := by rw [tur_w]; rfl
          have HT := hide (fun w => turnedTo_any ⟨0, 0, 0, 0, 0, 0, 0, 0, 0, extW p f.pa, extH p f.pa⟩ f.sd w)
          generalize tur ⟨0, 0, 0, 0, 0, 0, 0, 0, 0, extW p f.pa, extH p f.pa⟩ f.sd = q at *
          generalize sidL p f.pa f.sd = S at *
          obtain ⟨q0, q1, q2, q3, q4, q5, q6, q7, q8, q9, q10⟩ := q
          simp only at hq
          subst hq
          clear u1 u2 x0 x1 x2 x3 x4 x5 x6
          cases hO : wiB f.o 0 (q9 - f.wd) with
          | false =>
            go_wp2_with (first | (go_at_call 52; refine (pwithin_any _ _ _ _).mono ?_; rintro e w1 ⟨rfl, rfl⟩) | (go_at_call 54; refine (validSide_any _ _).mono ?_; rintro e w1 ⟨rfl, g1⟩; obtain ⟨X1, Y1, c1, f1⟩ := g1.use; have z1 := g1.size; (try simp only [World.size_alloc, World.size_setCell, World.heap_drewN, Nat.add_one_le_iff] at z1); (try have l0 : w.heap.size < w1.heap.size := by omega); (try have l1 : w.heap.size + 1 < w1.heap.size := by omega); (try have l2 : w.heap.size + 1 + 1 < w1.heap.size := by omega)) | (go_at_call 55; refine (validAngle_any _ _).mono ?_; rintro e w1 ⟨rfl, rfl⟩) | (go_at_call 53; refine (validLength_any _ _).mono ?_; rintro e w1 ⟨rfl, rfl⟩) | (go_at_call 56; refine (HS.out _ (by with_reducible assumption)).mono ?_; rintro e w1 ⟨rfl, g1⟩; obtain ⟨X1, Y1, c1, f1⟩ := g1.use; have z1 := g1.size; (try simp only [World.size_alloc, World.size_setCell, World.heap_drewN, Nat.add_one_le_iff] at z1); (try have l0 : w.heap.size < w1.heap.size := by omega); (try have l1 : w.heap.size + 1 < w1.heap.size := by omega); (try have l2 : w.heap.size + 1 + 1 < w1.heap.size := by omega)) | (go_at_call 57; refine (HT.out _).mono ?_; rintro e w1 ⟨rfl, g1⟩; obtain ⟨X1, Y1, c1, f1⟩ := g1.use; have z1 := g1.size; (try simp only [World.size_alloc, World.size_setCell, World.heap_drewN, Nat.add_one_le_iff] at z1); (try have l0 : w.heap.size < w1.heap.size := by omega); (try have l1 : w.heap.size + 1 < w1.heap.size := by omega); (try have l2 : w.heap.size + 1 + 1 < w1.heap.size := by omega)))
            go_ret
            exact ⟨ret_iv (by rw [HE2.out, hO]; rfl), (by repeat (first | with_reducible exact Gr.refl _ | with_reducible assumption | with_reducible refine Gr.alloc ?_ _ | with_reducible refine Gr.drewN ?_ _ | with_reducible refine Gr.drew ?_ | with_reducible refine Gr.setCell ?_ (by first | (dsimp only; omega) | (simp only [World.size_alloc]; omega) | (with_reducible refine Gr.size ?_; (repeat (first | with_reducible exact Gr.refl _ | with_reducible assumption | with_reducible refine Gr.alloc ?_ _ | with_reducible refine Gr.drewN ?_ _ | with_reducible refine Gr.drew ?_ | with_reducible refine Gr.trans ?_ (by with_reducible assumption))); done)) _ | with_reducible refine Gr.trans ?_ (by with_reducible assumption)))⟩
          | true =>
            go_wp2_with (first | (go_at_call 52; refine (pwithin_any _ _ _ _).mono ?_; rintro e w1 ⟨rfl, rfl⟩) | (go_at_call 54; refine (validSide_any _ _).mono ?_; rintro e w1 ⟨rfl, g1⟩; obtain ⟨X1, Y1, c1, f1⟩ := g1.use; have z1 := g1.size; (try simp only [World.size_alloc, World.size_setCell, World.heap_drewN, Nat.add_one_le_iff] at z1); (try have l0 : w.heap.size < w1.heap.size := by omega); (try have l1 : w.heap.size + 1 < w1.heap.size := by omega); (try have l2 : w.heap.size + 1 + 1 < w1.heap.size := by omega)) | (go_at_call 55; refine (validAngle_any _ _).mono ?_; rintro e w1 ⟨rfl, rfl⟩) | (go_at_call 53; refine (validLength_any _ _).mono ?_; rintro e w1 ⟨rfl, rfl⟩) | (go_at_call 56; refine (HS.out _ (by with_reducible assumption)).mono ?_; rintro e w1 ⟨rfl, g1⟩; obtain ⟨X1, Y1, c1, f1⟩ := g1.use; have z1 := g1.size; (try simp only [World.size_alloc, World.size_setCell, World.heap_drewN, Nat.add_one_le_iff] at z1); (try have l0 : w.heap.size < w1.heap.size := by omega); (try have l1 : w.heap.size + 1 < w1.heap.size := by omega); (try have l2 : w.heap.size + 1 + 1 < w1.heap.size := by omega)) | (go_at_call 57; refine (HT.out _).mono ?_; rintro e w1 ⟨rfl, g1⟩; obtain ⟨X1, Y1, c1, f1⟩ := g1.use; have z1 := g1.size; (try simp only [World.size_alloc, World.size_setCell, World.heap_drewN, Nat.add_one_le_iff] at z1); (try have l0 : w.heap.size < w1.heap.size := by omega); (try have l1 : w.heap.size + 1 < w1.heap.size := by omega); (try have l2 : w.heap.size + 1 + 1 < w1.heap.size := by omega)))
            go_ret
            exact ⟨ret_iv (by rw [HE2.out, hO]; rfl), (by repeat (first | with_reducible exact Gr.refl _ | with_reducible assumption | with_reducible refine Gr.alloc ?_ _ | with_reducible refine Gr.drewN ?_ _ | with_reducible refine Gr.drew ?_ | with_reducible refine Gr.setCell ?_ (by first | (dsimp only; omega) | (simp only [World.size_alloc]; omega) | (with_reducible refine Gr.size ?_; (repeat (first | with_reducible exact Gr.refl _ | with_reducible assumption | with_reducible refine Gr.alloc ?_ _ | with_reducible refine Gr.drewN ?_ _ | with_reducible refine Gr.drew ?_ | with_reducible refine Gr.trans ?_ (by with_reducible assumption))); done)) _ | with_reducible refine Gr.trans ?_ (by with_reducible assumption)))⟩
end Go.Proofs.Ytefjgfglommefaa
