/-
  Flat patterns: the reference's frame of a flange for that of its parent.
  Flat patterns: the frames of all faces, in the reference.
-/
import Derived.Test.YtdabhnefoigebaaGreatMU
import Derived.BigRegion
set_option linter.unusedVariables false
set_option linter.unusedSimpArgs false
namespace Go.Proofs.YtdabhnefoigebaaGreat
set_option linter.unusedVariables false
set_option linter.unusedSimpArgs false
open Go Go.ChangeShapes Go.WideShapes Go.ChangeAt Go.RowKit Go.Deep

abbrev frv (F : Fr) : Value := .agg #[iv F.x, iv F.y, iv F.ux, iv F.uy, iv F.vx, iv F.vy, iv F.w, iv F.h, iv F.le]
abbrev frL (F : Fr) : List Value := [iv F.x, iv F.y, iv F.ux, iv F.uy, iv F.vx, iv F.vy, iv F.w, iv F.h, iv F.le]
theorem frO_one (q : Pl) : (-1 ≤ (frO q).ux ∧ (frO q).ux ≤ 1) ∧ (-1 ≤ (frO q).uy ∧ (frO q).uy ≤ 1) ∧ (-1 ≤ (frO q).vx ∧ (frO q).vx ≤ 1) ∧ -1 ≤ (frO q).vy ∧ (frO q).vy ≤ 1 := by
  obtain ⟨a, b⟩ := rt_bd q.t (u := 1) (v := 0) (m := 1) (by omega) (by omega)
  obtain ⟨c, d⟩ := rt_bd q.t (u := 0) (v := 1) (m := 1) (by omega) (by omega)
  exact ⟨a, b, c, d⟩
set_option maxRecDepth 100000 in
set_option maxHeartbeats 2000000 in
theorem at_any (q : Pl) (u v : Int) (w : World) (h1 : R.Lim 10000000 u) (h2 : R.Lim 10000000 v) (h3 : R.Lim 10000000 q.x) (h4 : R.Lim 10000000 q.y) :
    Calls Tryz.prog 54 #[frv (frO q), iv u, iv v] w fun e w' => e = .returned (.tuple #[iv (ptX q u v), iv (ptY q u v)]) ∧ Gr w w' := by
  obtain ⟨o1, o2, o3, o4⟩ := frO_one q
  have e1 := ptX_lin q u v
  have e2 := ptY_lin q u v
  have hx : (frO q).x = q.x := rfl
  have hy : (frO q).y = q.y := rfl
  rw [e1, e2, ← hx, ← hy]
  rw [← hx] at h3
  rw [← hy] at h4
  generalize frO q = F at *
  obtain ⟨x, y, ux, uy, vx, vy, W, Ht, le⟩ := F
  simp only at o1 o2 o3 o4 h3 h4 ⊢
  have m1 := R.Lim.mul h1 (show R.Lim 1 ux from o1)
  have m2 := R.Lim.mul h2 (show R.Lim 1 vx from o3)
  have m3 := R.Lim.mul h1 (show R.Lim 1 uy from o2)
  have m4 := R.Lim.mul h2 (show R.Lim 1 vy from o4)
  unfold R.Lim at *
  have W1 : IntKind.i64.wrap (u * ux) = u * ux := IntWalk.i64_in _ (by omega)
  have W2 : IntKind.i64.wrap (v * vx) = v * vx := IntWalk.i64_in _ (by omega)
  have W3 : IntKind.i64.wrap (u * uy) = u * uy := IntWalk.i64_in _ (by omega)
  have W4 : IntKind.i64.wrap (v * vy) = v * vy := IntWalk.i64_in _ (by omega)
  have W5 : IntKind.i64.wrap (x + u * ux) = x + u * ux := IntWalk.i64_in _ (by omega)
  have W6 : IntKind.i64.wrap (x + u * ux + v * vx) = x + u * ux + v * vx := IntWalk.i64_in _ (by omega)
  have W7 : IntKind.i64.wrap (y + u * uy) = y + u * uy := IntWalk.i64_in _ (by omega)
  have W8 : IntKind.i64.wrap (y + u * uy + v * vy) = y + u * uy + v * vy := IntWalk.i64_in _ (by omega)
  clear m1 m2 m3 m4 h1 h2 h3 h4 o1 o2 o3 o4 hx hy e1 e2
  go_enter Tryz.func54, Tryz.ntmps54
  go_upto_region 1 with fail
  have GC := @GrW.cell
  refine wp_region_grw _ (by kernel_rfl) (by kernel_rfl) (Gr.refl _) ?_
  repeat (go_big_quiet_step ((first | fail)))
  refine wpQuiet_nil ?_
  intro wq hwq
  obtain ⟨gq, hwq'⟩ := hwq
  subst hwq'
  clear GC
  have gq1 := gq.gr
  generalize gq.w = wq at gq1 ⊢
  obtain ⟨Xq, Yq, cq, fq⟩ := gq1.use
  have sq := gq1.size
  (try simp only [World.size_alloc, World.size_setCell, World.heap_drewN] at sq)
  go_wp2
  refine bodyPost_ret (v := .tuple #[iv (x + u * ux + v * vx), iv (y + u * uy + v * vy)]) (by simp [results, Tryz.results54, go_sem, *]) rfl ⟨rfl, (by repeat (first | with_reducible exact Gr.refl _ | with_reducible assumption | with_reducible refine Gr.alloc ?_ _ | with_reducible refine Gr.drewN ?_ _ | with_reducible refine Gr.drew ?_ | with_reducible refine Gr.setCell ?_ (by first | (dsimp only; omega) | (simp only [World.size_alloc]; omega) | (with_reducible refine Gr.size ?_; (repeat (first | with_reducible exact Gr.refl _ | with_reducible assumption | with_reducible refine Gr.alloc ?_ _ | with_reducible refine Gr.drewN ?_ _ | with_reducible refine Gr.drew ?_ | with_reducible refine Gr.trans ?_ (by with_reducible assumption))); done)) _ | with_reducible refine Gr.trans ?_ (by with_reducible assumption)))⟩
theorem frO_plC (q : Pl) (f : Fl) (d : Int) (hs : sdOk f.sd) : frO (plC q f d) = ⟨ptX q (beU f q * 720) (abv q (beV f q)), ptY q (beU f q * 720) (abv q (beV f q)),
    (if f.sd = 0 then -(frO q).vx else if f.sd = 1 then -(frO q).ux else if f.sd = 2 then (frO q).vx else (frO q).ux),
    (if f.sd = 0 then -(frO q).vy else if f.sd = 1 then -(frO q).uy else if f.sd = 2 then (frO q).vy else (frO q).uy),
    (if f.sd = 0 then (frO q).ux else if f.sd = 1 then -(frO q).vx else if f.sd = 2 then -(frO q).ux else (frO q).vx),
    (if f.sd = 0 then (frO q).uy else if f.sd = 1 then -(frO q).vy else if f.sd = 2 then -(frO q).uy else (frO q).vy), f.wd * 720, f.ln * 720 - d, d⟩ := by
  have h := frO_dir q f d hs
  have e : ∀ F : Fr, F = ⟨F.x, F.y, F.ux, F.uy, F.vx, F.vy, F.w, F.h, F.le⟩ := fun F => rfl
  rw [e (frO (plC q f d))]
  have hx : (frO (plC q f d)).x = ptX q (beU f q * 720) (abv q (beV f q)) := rfl
  have hy : (frO (plC q f d)).y = ptY q (beU f q * 720) (abv q (beV f q)) := rfl
  have hw : (frO (plC q f d)).w = f.wd * 720 := rfl
  have hh : (frO (plC q f d)).h = f.ln * 720 - d := rfl
  have hl : (frO (plC q f d)).le = d := rfl
  rw [hx, hy, hw, hh, hl]
  rcases hs with s | s | s | s <;> simp only [s, if_true, if_false, Int.reduceEq, Prod.mk.injEq] at h ⊢ <;> (obtain ⟨a, b, c, d'⟩ := h; rw [a, b, c, d'])
set_option maxRecDepth 100000 in
set_option maxHeartbeats 4000000 in
theorem child_any (q : Pl) (f : Fl) (d : Int) (k : Nat) (w : World) (hq : PlB k q) (hf : FlB f) (hk : k ≤ 10) (hd : 0 ≤ d ∧ d ≤ 14400) (hs1 : f.sd = 1 → q.lo = 0) :
    Calls Tryz.prog 53 #[frv (frO q), flv f, iv d] w fun e w' => e = .returned (frv (frO (plC q f d))) ∧ Gr w w' := by
  have HE := hide (frO_plC q f d hf.sd)
  obtain ⟨u1, u2⟩ := be_bd hq hf hf.o.2
  have hx := hq.x
  have hy := hq.y
  have hlo := hq.lo
  have hw := hq.w
  have hh := hq.h
  have ho := hf.o
  have hwd := hf.wd
  have hln := hf.ln
  have HA := hide (fun w => at_any q (beU f q * 720) (abv q (beV f q)) w (by unfold R.Lim; omega) (by unfold abv R.Lim; omega) (by unfold R.Lim; omega) (by unfold R.Lim; omega))
  obtain ⟨o1, o2, o3, o4⟩ := frO_one q
  have fw : (frO q).w = q.w * 720 := rfl
  have fh : (frO q).h = q.h * 720 - q.lo := rfl
  have fl : (frO q).le = q.lo := rfl
  have W1 : IntKind.i64.wrap (f.o * 720) = f.o * 720 := IntWalk.i64_in _ (by omega)
  have W2 : IntKind.i64.wrap (f.wd * 720) = f.wd * 720 := IntWalk.i64_in _ (by omega)
  have W3 : IntKind.i64.wrap (f.ln * 720) = f.ln * 720 := IntWalk.i64_in _ (by omega)
  have W4 : IntKind.i64.wrap (f.ln * 720 - d) = f.ln * 720 - d := IntWalk.i64_in _ (by omega)
  have W5 : IntKind.i64.wrap (-(frO q).vx) = -(frO q).vx := IntWalk.i64_in _ (by omega)
  have W6 : IntKind.i64.wrap (-(frO q).vy) = -(frO q).vy := IntWalk.i64_in _ (by omega)
  have W7 : IntKind.i64.wrap (-(frO q).ux) = -(frO q).ux := IntWalk.i64_in _ (by omega)
  have W8 : IntKind.i64.wrap (-(frO q).uy) = -(frO q).uy := IntWalk.i64_in _ (by omega)
  rw [HE.out]
  rcases hf.sd with s | s | s | s
  · have b1 : beU f q * 720 = (frO q).w := by unfold beU; rw [if_pos s, fw]
    have b2 : abv q (beV f q) = (frO q).h - f.o * 720 := by unfold abv beV; rw [if_pos s, fh]; omega
    have W9 : IntKind.i64.wrap ((frO q).h - f.o * 720) = (frO q).h - f.o * 720 := IntWalk.i64_in _ (by omega)
    simp only [s, if_true, if_false, Int.reduceEq]
    rw [b1, b2] at HA ⊢
    clear b1 b2 HE u1 u2 hx hy hlo hw hh ho hwd hln o1 o2 o3 o4 fw fh fl hq hf hs1 hd
    generalize ptX q ((frO q).w) ((frO q).h - f.o * 720) = px at *
    generalize ptY q ((frO q).w) ((frO q).h - f.o * 720) = py at *
    generalize frO q = F at *
    obtain ⟨x, y, ux, uy, vx, vy, W, Ht, le⟩ := F
    obtain ⟨nm, pa, sd, fo, wd, ln, an⟩ := f
    simp only at s W1 W2 W3 W4 W5 W6 W7 W8 W9 HA ⊢
    subst s
    go_enter Tryz.func53, Tryz.ntmps53
    go_upto_region 5 with (first | (go_at_call 54; refine (HA.out _).mono ?_; rintro e w1 ⟨rfl, g1⟩; obtain ⟨X1, Y1, c1, f1⟩ := g1.use; have z1 := g1.size; (try simp only [World.size_alloc, World.size_setCell, World.heap_drewN, Nat.add_one_le_iff] at z1); (try have l0 : w.heap.size < w1.heap.size := by omega); (try have l1 : w.heap.size + 1 < w1.heap.size := by omega); (try have l2 : w.heap.size + 1 + 1 < w1.heap.size := by omega)))
    go_region
    go_wp2
    all_goals refine bodyPost_ret (v := frv ⟨px, py, -vx, -vy, ux, uy, wd * 720, ln * 720 - d, d⟩) (by simp [results, Tryz.results53, go_sem, *]) rfl ⟨rfl, (by repeat (first | with_reducible exact Gr.refl _ | with_reducible assumption | with_reducible refine Gr.alloc ?_ _ | with_reducible refine Gr.drewN ?_ _ | with_reducible refine Gr.drew ?_ | with_reducible refine Gr.setCell ?_ (by first | (dsimp only; omega) | (simp only [World.size_alloc]; omega) | (with_reducible refine Gr.size ?_; (repeat (first | with_reducible exact Gr.refl _ | with_reducible assumption | with_reducible refine Gr.alloc ?_ _ | with_reducible refine Gr.drewN ?_ _ | with_reducible refine Gr.drew ?_ | with_reducible refine Gr.trans ?_ (by with_reducible assumption))); done)) _ | with_reducible refine Gr.trans ?_ (by with_reducible assumption)))⟩
  · have b1 : beU f q * 720 = (frO q).w - f.o * 720 := by unfold beU; rw [if_neg (by omega), if_pos s, fw]; omega
    have b2 : abv q (beV f q) = 0 := by unfold abv beV; rw [if_neg (by omega), if_pos s, hs1 s]; omega
    have W9 : IntKind.i64.wrap ((frO q).w - f.o * 720) = (frO q).w - f.o * 720 := IntWalk.i64_in _ (by omega)
    simp only [s, if_true, if_false, Int.reduceEq]
    rw [b1, b2] at HA ⊢
    clear b1 b2 HE u1 u2 hx hy hlo hw hh ho hwd hln o1 o2 o3 o4 fw fh fl hq hf hs1 hd
    generalize ptX q ((frO q).w - f.o * 720) (0) = px at *
    generalize ptY q ((frO q).w - f.o * 720) (0) = py at *
    generalize frO q = F at *
    obtain ⟨x, y, ux, uy, vx, vy, W, Ht, le⟩ := F
    obtain ⟨nm, pa, sd, fo, wd, ln, an⟩ := f
    simp only at s W1 W2 W3 W4 W5 W6 W7 W8 W9 HA ⊢
    subst s
    go_enter Tryz.func53, Tryz.ntmps53
    go_upto_region 8 with (first | (go_at_call 54; refine (HA.out _).mono ?_; rintro e w1 ⟨rfl, g1⟩; obtain ⟨X1, Y1, c1, f1⟩ := g1.use; have z1 := g1.size; (try simp only [World.size_alloc, World.size_setCell, World.heap_drewN, Nat.add_one_le_iff] at z1); (try have l0 : w.heap.size < w1.heap.size := by omega); (try have l1 : w.heap.size + 1 < w1.heap.size := by omega); (try have l2 : w.heap.size + 1 + 1 < w1.heap.size := by omega)))
    go_region
    go_wp2
    all_goals refine bodyPost_ret (v := frv ⟨px, py, -ux, -uy, -vx, -vy, wd * 720, ln * 720 - d, d⟩) (by simp [results, Tryz.results53, go_sem, *]) rfl ⟨rfl, (by repeat (first | with_reducible exact Gr.refl _ | with_reducible assumption | with_reducible refine Gr.alloc ?_ _ | with_reducible refine Gr.drewN ?_ _ | with_reducible refine Gr.drew ?_ | with_reducible refine Gr.setCell ?_ (by first | (dsimp only; omega) | (simp only [World.size_alloc]; omega) | (with_reducible refine Gr.size ?_; (repeat (first | with_reducible exact Gr.refl _ | with_reducible assumption | with_reducible refine Gr.alloc ?_ _ | with_reducible refine Gr.drewN ?_ _ | with_reducible refine Gr.drew ?_ | with_reducible refine Gr.trans ?_ (by with_reducible assumption))); done)) _ | with_reducible refine Gr.trans ?_ (by with_reducible assumption)))⟩
  · have b1 : beU f q * 720 = 0 := by unfold beU; rw [if_neg (by omega), if_neg (by omega), if_pos s]; omega
    have b2 : abv q (beV f q) = f.o * 720 - (frO q).le := by unfold abv beV; rw [if_neg (by omega), if_neg (by omega), if_pos s, fl]
    have W9 : IntKind.i64.wrap (f.o * 720 - (frO q).le) = f.o * 720 - (frO q).le := IntWalk.i64_in _ (by omega)
    simp only [s, if_true, if_false, Int.reduceEq]
    rw [b1, b2] at HA ⊢
    clear b1 b2 HE u1 u2 hx hy hlo hw hh ho hwd hln o1 o2 o3 o4 fw fh fl hq hf hs1 hd
    generalize ptX q (0) (f.o * 720 - (frO q).le) = px at *
    generalize ptY q (0) (f.o * 720 - (frO q).le) = py at *
    generalize frO q = F at *
    obtain ⟨x, y, ux, uy, vx, vy, W, Ht, le⟩ := F
    obtain ⟨nm, pa, sd, fo, wd, ln, an⟩ := f
    simp only at s W1 W2 W3 W4 W5 W6 W7 W8 W9 HA ⊢
    subst s
    go_enter Tryz.func53, Tryz.ntmps53
    go_upto_region 11 with (first | (go_at_call 54; refine (HA.out _).mono ?_; rintro e w1 ⟨rfl, g1⟩; obtain ⟨X1, Y1, c1, f1⟩ := g1.use; have z1 := g1.size; (try simp only [World.size_alloc, World.size_setCell, World.heap_drewN, Nat.add_one_le_iff] at z1); (try have l0 : w.heap.size < w1.heap.size := by omega); (try have l1 : w.heap.size + 1 < w1.heap.size := by omega); (try have l2 : w.heap.size + 1 + 1 < w1.heap.size := by omega)))
    go_region
    go_wp2
    all_goals refine bodyPost_ret (v := frv ⟨px, py, vx, vy, -ux, -uy, wd * 720, ln * 720 - d, d⟩) (by simp [results, Tryz.results53, go_sem, *]) rfl ⟨rfl, (by repeat (first | with_reducible exact Gr.refl _ | with_reducible assumption | with_reducible refine Gr.alloc ?_ _ | with_reducible refine Gr.drewN ?_ _ | with_reducible refine Gr.drew ?_ | with_reducible refine Gr.setCell ?_ (by first | (dsimp only; omega) | (simp only [World.size_alloc]; omega) | (with_reducible refine Gr.size ?_; (repeat (first | with_reducible exact Gr.refl _ | with_reducible assumption | with_reducible refine Gr.alloc ?_ _ | with_reducible refine Gr.drewN ?_ _ | with_reducible refine Gr.drew ?_ | with_reducible refine Gr.trans ?_ (by with_reducible assumption))); done)) _ | with_reducible refine Gr.trans ?_ (by with_reducible assumption)))⟩
  · have b1 : beU f q * 720 = f.o * 720 := by unfold beU; rw [if_neg (by omega), if_neg (by omega), if_neg (by omega)]
    have b2 : abv q (beV f q) = (frO q).h := by unfold abv beV; rw [if_neg (by omega), if_neg (by omega), if_neg (by omega), fh]
    have W9 : IntKind.i64.wrap ((frO q).h) = (frO q).h := IntWalk.i64_in _ (by omega)
    simp only [s, if_true, if_false, Int.reduceEq]
    rw [b1, b2] at HA ⊢
    clear b1 b2 HE u1 u2 hx hy hlo hw hh ho hwd hln o1 o2 o3 o4 fw fh fl hq hf hs1 hd
    generalize ptX q (f.o * 720) ((frO q).h) = px at *
    generalize ptY q (f.o * 720) ((frO q).h) = py at *
    generalize frO q = F at *
    obtain ⟨x, y, ux, uy, vx, vy, W, Ht, le⟩ := F
    obtain ⟨nm, pa, sd, fo, wd, ln, an⟩ := f
    simp only at s W1 W2 W3 W4 W5 W6 W7 W8 W9 HA ⊢
    subst s
    go_enter Tryz.func53, Tryz.ntmps53
    go_upto_region 14 with (first | (go_at_call 54; refine (HA.out _).mono ?_; rintro e w1 ⟨rfl, g1⟩; obtain ⟨X1, Y1, c1, f1⟩ := g1.use; have z1 := g1.size; (try simp only [World.size_alloc, World.size_setCell, World.heap_drewN, Nat.add_one_le_iff] at z1); (try have l0 : w.heap.size < w1.heap.size := by omega); (try have l1 : w.heap.size + 1 < w1.heap.size := by omega); (try have l2 : w.heap.size + 1 + 1 < w1.heap.size := by omega)))
    go_region
    go_wp2
    all_goals refine bodyPost_ret (v := frv ⟨px, py, ux, uy, vx, vy, wd * 720, ln * 720 - d, d⟩) (by simp [results, Tryz.results53, go_sem, *]) rfl ⟨rfl, (by repeat (first | with_reducible exact Gr.refl _ | with_reducible assumption | with_reducible refine Gr.alloc ?_ _ | with_reducible refine Gr.drewN ?_ _ | with_reducible refine Gr.drew ?_ | with_reducible refine Gr.setCell ?_ (by first | (dsimp only; omega) | (simp only [World.size_alloc]; omega) | (with_reducible refine Gr.size ?_; (repeat (first | with_reducible exact Gr.refl _ | with_reducible assumption | with_reducible refine Gr.alloc ?_ _ | with_reducible refine Gr.drewN ?_ _ | with_reducible refine Gr.drew ?_ | with_reducible refine Gr.trans ?_ (by with_reducible assumption))); done)) _ | with_reducible refine Gr.trans ?_ (by with_reducible assumption)))⟩
end Go.Proofs.YtdabhnefoigebaaGreat
set_option linter.unusedVariables false
set_option linter.unusedSimpArgs false
namespace Go.Proofs.YtdabhnefoigebaaGreat
set_option linter.unusedVariables false
set_option linter.unusedSimpArgs false
open Go Go.ChangeShapes Go.WideShapes Go.ChangeAt Go.RowKit Go.Deep

/-- no flange of a valid part has an error -/
theorem flE_all {p : Pa} (h : valE p = 0) : ∀ (i : Nat) (f : Fl), p.fl[i]? = some f → flE p i f = 0 := by
  by_cases h1 : (nameB p.nm.toList && nameB p.mt.toList) = true
  · by_cases h2 : basB p = true
    · by_cases h3 : 5 < p.fl.length ∨ 6 < p.ho.length
      · rw [valE_large h1 h2 h3] at h
        cases h
      · rw [valE_rest h1 h2 h3] at h
        split at h
        · rename_i h4
          exact absurd h h4
        rename_i h4
        intro i f hf
        have := firE_zero (show firE (flA p) p.fl.length = 0 by simpa using h4) i (List.getElem?_eq_some_iff.1 hf).1
        unfold flA at this
        rw [hf] at this
        exact this
    · rw [valE_base h1 (by simpa using h2)] at h
      cases h
  · rw [valE_names (by simpa using h1)] at h
    cases h
/-- where a flange may lie -/
theorem flE_side {p : Pa} {i : Nat} {f : Fl} (h : flE p i f = 0) : (f.sd = 1 → f.pa = 0) ∧ 0 ≤ f.o ∧ f.o + f.wd ≤ sidL p f.pa f.sd := by
  unfold flE at h
  split at h
  · cases h
  split at h
  · cases h
  split at h
  · cases h
  rename_i h1
  split at h
  · cases h
  rename_i h2
  simp [wiB, sidB, angB, lenB] at h1 h2
  refine ⟨fun k => ?_, by omega, by omega⟩
  obtain ⟨⟨⟨⟨_, _, hb⟩, _⟩, _⟩, _⟩ := h1
  exact hb k
theorem a6_ang {a : Int} (h : anOk a) : a6B (abI a) = true := by
  unfold anOk at h
  rcases h with rfl | rfl | rfl | rfl <;> decide
theorem elFr : ElT Tryz.prog 66 74 9 72 := elT_of (.agg #[.int .i64 0, .int .i64 0, .int .i64 0, .int .i64 0, .int .i64 0, .int .i64 0, .int .i64 0, .int .i64 0, .int .i64 0]) Tryz.underlying66 (by kernel_rfl) rfl
theorem one_fr (q : Fr) : ∀ u ∈ frL q, u.oneCell' = true := by
  intro u hu
  simp at hu
  rcases hu with rfl | rfl | rfl | rfl | rfl | rfl | rfl | rfl | rfl <;> rfl
theorem RdL.fr {w : World} {A : Option Addr} {l : List Fr} (h : RdL w 9 frL A l) {i : Nat} {f : Fr} (hi : l[i]? = some f) : ∃ b off, A = some ⟨b, off, none⟩ ∧ w.cell? ⟨b, off + i * 9, none⟩ = some (iv f.x) ∧ w.cell? ⟨b, off + i * 9 + 1, none⟩ = some (iv f.y) ∧
    w.cell? ⟨b, off + i * 9 + 2, none⟩ = some (iv f.ux) ∧ w.cell? ⟨b, off + i * 9 + 3, none⟩ = some (iv f.uy) ∧ w.cell? ⟨b, off + i * 9 + 4, none⟩ = some (iv f.vx) ∧ w.cell? ⟨b, off + i * 9 + 5, none⟩ = some (iv f.vy) ∧
    w.cell? ⟨b, off + i * 9 + 6, none⟩ = some (iv f.w) ∧ w.cell? ⟨b, off + i * 9 + 7, none⟩ = some (iv f.h) ∧ w.cell? ⟨b, off + i * 9 + 8, none⟩ = some (iv f.le) := by
  obtain ⟨b, off, e, h0, h1, h2, h3, h4, h5, h6, h7, h8, _⟩ := h i f hi
  exact ⟨b, off, e, h0, h1, h2, h3, h4, h5, h6, h7, h8⟩
structure SlFr (w : World) (A : Option Addr) (c : Nat) (l : List Fr) : Prop where
  rd : RdL w 9 frL A l
  cap : l.length ≤ c
  capB : c ≤ 9223372036854775807
theorem SlFr.gr {w w' : World} {A : Option Addr} {c : Nat} {l : List Fr} (h : SlFr w A c l) (g : Gr w w') : SlFr w' A c l := ⟨h.rd.gr g, h.cap, h.capB⟩
theorem slFr_own {w : World} {base : Nat} {e : TypeId} {A : Option Addr} {n d : Nat} {xs : List Fr} (h : OwnL w base e 9 frL (.slice A n d) xs) : SlFr w A d xs := by
  obtain ⟨_, h1, h2, h3⟩ := OwnL.rd (c := frL) (fun _ => rfl) h
  exact ⟨h1, h2, by unfold maxLen at h3; omega⟩
theorem tik_quo {a b n : Int} (h : tikV a b = (n, 0)) : raB a b = true ∧ (a * 720).tdiv b = n := by
  unfold tikV at h
  split at h
  · rename_i h1
    split at h
    · exact ⟨h1, by simpa using h⟩
    · simp at h
  · simp at h
set_option maxRecDepth 100000 in
set_option maxHeartbeats 4000000 in
theorem frames_any (p : Pa) (t : Tb) (A B C : Option Addr) (c d q : Nat) (w : World) (hP : PaW w p A c B d) (hE : SlE w C q t.en) (hs : t.mt.size ≤ 1000) :
    Calls Tryz.prog 24 #[pav p A c B d, tbv t C q] w fun e w' => ∃ v, e = .returned (sle v (dlE p t)) ∧ (dlE p t = 0 → OwnL w' w.heap.size 74 9 frL v ((plsA p t).map frO)) ∧ Gr w w' := by
  have HV := hide (fun (w' : World) (g : Gr w w') => rValidate_any p A B c d w' (hP.gr g))
  have HT := hide (fun (w' : World) (g : Gr w w') => r3Validate_any t C q w' (hE.gr g) hs)
  have HF := hide hP.fl
  have HE := hide hE
  have hpl := hP.fl.len
  have hen := hE.len
  by_cases h1 : valE p = 0
  · rw [h1] at HV
    by_cases h2 : tbE t = 0
    · rw [h2] at HT
      cases h3 : fitB p t with
      | false =>
        have HN := hide (dlE_fit h1 h2 h3)
        have HK := hide (ne_fit h3)
        clear h1 h2 h3 hP hE
        go_enter Tryz.func24, Tryz.ntmps24
        go_wp2_with fail
        refine (HV.out _ (by repeat (first | with_reducible exact Gr.refl _ | with_reducible assumption | with_reducible refine Gr.alloc ?_ _ | with_reducible refine Gr.drewN ?_ _ | with_reducible refine Gr.drew ?_ | with_reducible refine Gr.setCell ?_ (by first | (dsimp only; omega) | (simp only [World.size_alloc]; omega) | (with_reducible refine Gr.size ?_; (repeat (first | with_reducible exact Gr.refl _ | with_reducible assumption | with_reducible refine Gr.alloc ?_ _ | with_reducible refine Gr.drewN ?_ _ | with_reducible refine Gr.drew ?_ | with_reducible refine Gr.trans ?_ (by with_reducible assumption))); done)) _ | with_reducible refine Gr.trans ?_ (by with_reducible assumption)))).mono ?_
        rintro e w1 ⟨rfl, g1⟩
        obtain ⟨X1, Y1, c1, f1⟩ := g1.use
        have z1 := g1.size
        simp only [World.size_alloc] at z1
        have l1 : w.heap.size + 1 < w1.heap.size := by omega
        have l0 : w.heap.size < w1.heap.size := by omega
        go_wp2_with fail
        refine (HT.out _ (by repeat (first | with_reducible exact Gr.refl _ | with_reducible assumption | with_reducible refine Gr.alloc ?_ _ | with_reducible refine Gr.drewN ?_ _ | with_reducible refine Gr.drew ?_ | with_reducible refine Gr.setCell ?_ (by first | (dsimp only; omega) | (simp only [World.size_alloc]; omega) | (with_reducible refine Gr.size ?_; (repeat (first | with_reducible exact Gr.refl _ | with_reducible assumption | with_reducible refine Gr.alloc ?_ _ | with_reducible refine Gr.drewN ?_ _ | with_reducible refine Gr.drew ?_ | with_reducible refine Gr.trans ?_ (by with_reducible assumption))); done)) _ | with_reducible refine Gr.trans ?_ (by with_reducible assumption)))).mono ?_
        rintro e w2 ⟨rfl, g2⟩
        obtain ⟨X2, Y2, c2, f2⟩ := g2.use
        have z2 := g2.size
        have m1 : w.heap.size + 1 < w2.heap.size := by omega
        have m0 : w.heap.size < w2.heap.size := by omega
        rcases HK.out with ⟨k1, k2⟩ | k1
        all_goals
          go_wp2_with fail
          refine bodyPost_ret (v := sle (.slice none 0 0) 9) (by simp [results, Tryz.results24, go_sem, *]) rfl ⟨_, ret_sle HN.out.symm, (fun h => by rw [HN.out] at h; cases h), (by repeat (first | with_reducible exact Gr.refl _ | with_reducible assumption | with_reducible refine Gr.alloc ?_ _ | with_reducible refine Gr.drewN ?_ _ | with_reducible refine Gr.drew ?_ | with_reducible refine Gr.setCell ?_ (by first | (dsimp only; omega) | (simp only [World.size_alloc]; omega) | (with_reducible refine Gr.size ?_; (repeat (first | with_reducible exact Gr.refl _ | with_reducible assumption | with_reducible refine Gr.alloc ?_ _ | with_reducible refine Gr.drewN ?_ _ | with_reducible refine Gr.drew ?_ | with_reducible refine Gr.trans ?_ (by with_reducible assumption))); done)) _ | with_reducible refine Gr.trans ?_ (by with_reducible assumption)))⟩
      | true =>
        have HN := hide (dlE_rest h1 h2 h3)
        have HG := hide (good_of h1)
        have HV0 := hide h1
        have HFE := hide (flE_all h1)
        obtain ⟨ok1, ok2⟩ := tbE_ok h2
        have HOK2 := hide ok2
        have h6 := (hdB_len ok1).2
        have H0 := hide h2
        have HK := hide (eq_fit h3)
        clear h1 h2 h3 hP hE ok1 ok2
        go_enter Tryz.func24, Tryz.ntmps24
        go_wp2_with fail
        refine (HV.out _ (by repeat (first | with_reducible exact Gr.refl _ | with_reducible assumption | with_reducible refine Gr.alloc ?_ _ | with_reducible refine Gr.drewN ?_ _ | with_reducible refine Gr.drew ?_ | with_reducible refine Gr.setCell ?_ (by first | (dsimp only; omega) | (simp only [World.size_alloc]; omega) | (with_reducible refine Gr.size ?_; (repeat (first | with_reducible exact Gr.refl _ | with_reducible assumption | with_reducible refine Gr.alloc ?_ _ | with_reducible refine Gr.drewN ?_ _ | with_reducible refine Gr.drew ?_ | with_reducible refine Gr.trans ?_ (by with_reducible assumption))); done)) _ | with_reducible refine Gr.trans ?_ (by with_reducible assumption)))).mono ?_
        rintro e w1 ⟨rfl, g1⟩
        obtain ⟨X1, Y1, c1, f1⟩ := g1.use
        have z1 := g1.size
        simp only [World.size_alloc] at z1
        have l1 : w.heap.size + 1 < w1.heap.size := by omega
        have l0 : w.heap.size < w1.heap.size := by omega
        go_wp2_with fail
        refine (HT.out _ (by repeat (first | with_reducible exact Gr.refl _ | with_reducible assumption | with_reducible refine Gr.alloc ?_ _ | with_reducible refine Gr.drewN ?_ _ | with_reducible refine Gr.drew ?_ | with_reducible refine Gr.setCell ?_ (by first | (dsimp only; omega) | (simp only [World.size_alloc]; omega) | (with_reducible refine Gr.size ?_; (repeat (first | with_reducible exact Gr.refl _ | with_reducible assumption | with_reducible refine Gr.alloc ?_ _ | with_reducible refine Gr.drewN ?_ _ | with_reducible refine Gr.drew ?_ | with_reducible refine Gr.trans ?_ (by with_reducible assumption))); done)) _ | with_reducible refine Gr.trans ?_ (by with_reducible assumption)))).mono ?_
        rintro e w2 ⟨rfl, g2⟩
        obtain ⟨X2, Y2, c2, f2⟩ := g2.use
        have z2 := g2.size
        have m1 : w.heap.size + 1 < w2.heap.size := by omega
        have m0 : w.heap.size < w2.heap.size := by omega
        have gw2 : Gr w w2 := (by repeat (first | with_reducible exact Gr.refl _ | with_reducible assumption | with_reducible refine Gr.alloc ?_ _ | with_reducible refine Gr.drewN ?_ _ | with_reducible refine Gr.drew ?_ | with_reducible refine Gr.setCell ?_ (by first | (dsimp only; omega) | (simp only [World.size_alloc]; omega) | (with_reducible refine Gr.size ?_; (repeat (first | with_reducible exact Gr.refl _ | with_reducible assumption | with_reducible refine Gr.alloc ?_ _ | with_reducible refine Gr.drewN ?_ _ | with_reducible refine Gr.drew ?_ | with_reducible refine Gr.trans ?_ (by with_reducible assumption))); done)) _ | with_reducible refine Gr.trans ?_ (by with_reducible assumption)))
        obtain ⟨k1, k2⟩ := HK.out
        go_upto_region 9 with fail
        clear k1 k2
        have n0 : w2.cell? ⟨w.heap.size + 1, 0, none⟩ = some (.string t.mt) := by rw [c2, c1]; simp [go_sem]
        have n1 : w2.cell? ⟨w.heap.size + 1, 1, none⟩ = some (iv t.ga) := by rw [c2, c1]; simp [go_sem]
        have n2 : w2.cell? ⟨w.heap.size + 1, 2, none⟩ = some (iv t.di) := by rw [c2, c1]; simp [go_sem]
        have n3 : w2.cell? ⟨w.heap.size + 1, 3, none⟩ = some (.slice C t.en.length q) := by rw [c2, c1]; simp [go_sem]
        have p4 : w2.cell? ⟨w.heap.size, 4, none⟩ = some (iv p.wd) := by rw [c2, c1]; simp [go_sem]
        have p5 : w2.cell? ⟨w.heap.size, 5, none⟩ = some (iv p.ht) := by rw [c2, c1]; simp [go_sem]
        have p6 : w2.cell? ⟨w.heap.size, 6, none⟩ = some (.slice A p.fl.length c) := by rw [c2, c1]; simp [go_sem]
        clear X1 Y1 c1 f1 X2 Y2 c2 f2
        have b1 := HG.out.fl.wd
        have b2 := HG.out.fl.ht
        have V1 : IntKind.i64.wrap (p.wd * 720) = p.wd * 720 := IntWalk.i64_in _ (by omega)
        have V2 : IntKind.i64.wrap (p.ht * 720) = p.ht * 720 := IntWalk.i64_in _ (by omega)
        go_upto_region 10 with fail
        have g1b : Gr w2 (w2.alloc (.cells #[iv 0, iv 0, iv 1, iv 0, iv 0, iv 1, iv (p.wd * 720), iv (p.ht * 720), iv 0] 74)) := Gr.alloc (Gr.refl _) _
        have own0 := own_lit (c := frL) (k := 9) w2 w2.heap.size 74 #[iv 0, iv 0, iv 1, iv 0, iv 0, iv 1, iv (p.wd * 720), iv (p.ht * 720), iv 0] [frO ⟨0, 0, 0, p.wd, p.ht, 0⟩] (Nat.le_refl _) (fun _ => rfl) (by simp [frO, rt]) (by simp)
        have HO0 := hide own0
        clear own0
        have HB := hide (flsB_v t (show valE p = 0 from HV0.out))
        have h5 := HG.out.nfl
        go_wp2_with fail
        go_loopw [8, 9] (fun v i wr => ∃ (k : Nat) (A2 : Option Addr) (d2 : Nat), k ≤ p.fl.length ∧ i = iv k ∧ v = .slice A2 (k + 1) d2 ∧ Gr w2 wr ∧ Hid (∀ j, j < k → dA t p.fl j = 0) ∧ Hid (OwnL wr w2.heap.size 74 9 frL (.slice A2 (k + 1) d2) ((pls p.wd p.ht p.fl (dT t) k).map frO))) (fun _ i _ => p.fl.length - (intOf i).toNat)
        case atStart => exact ⟨0, _, _, by omega, rfl, rfl, g1b, (fun j hj => by omega), HO0.out⟩
        case round =>
          obtain ⟨k, A2, d2, hk, rfl, rfl, g, HS, HO⟩ := hrel
          have gW : Gr w wr := gw2.trans g
          have zr := g.size
          have l0 : w.heap.size < wr.heap.size := by omega
          have l1 : w.heap.size + 1 < wr.heap.size := by omega
          have o0 := (g.cell _ _ m1).trans n0
          have o1 := (g.cell _ _ m1).trans n1
          have o2 := (g.cell _ _ m1).trans n2
          have o3 := (g.cell _ _ m1).trans n3
          have o6 := (g.cell _ _ m0).trans p6
          clear n0 n1 n2 n3 p4 p5 p6 V1 V2 b1 b2
          have hlen : ((pls p.wd p.ht p.fl (dT t) k).map frO).length = k + 1 := by rw [List.length_map]; exact pls_len hk
          by_cases hkl : k < p.fl.length
          · obtain ⟨f, hf⟩ : ∃ f, p.fl[k]? = some f := ⟨_, List.getElem?_eq_getElem hkl⟩
            obtain ⟨b, off, hA, x0, x1, x2, x3, x4, x5, x6⟩ := HF.out.rd.fl hf
            subst hA
            have hb : b < w.heap.size := cell_lt (by rw [x0]; rfl)
            have hbr : b < wr.heap.size := by omega
            have y0 := (gW.cell _ _ hb).trans x0
            have y1 := (gW.cell _ _ hb).trans x1
            have y2 := (gW.cell _ _ hb).trans x2
            have y3 := (gW.cell _ _ hb).trans x3
            have y4 := (gW.cell _ _ hb).trans x4
            have y5 := (gW.cell _ _ hb).trans x5
            have y6 := (gW.cell _ _ hb).trans x6
            clear x0 x1 x2 x3 x4 x5 x6
            have han : anOk f.an := (HG.out.fl.fl k f hkl hf).2.2.1
            have hpa := HB.out.pa k f hf
            obtain ⟨m, hm⟩ : ∃ m : Nat, f.pa = m := ⟨f.pa.toNat, by omega⟩
            have hmk : m ≤ k := by omega
            obtain ⟨gp, hgp⟩ : ∃ gp, (pls p.wd p.ht p.fl (dT t) k)[m]? = some gp := ⟨_, List.getElem?_eq_getElem (by rw [pls_len hk]; omega)⟩
            have hpb : PlB k gp := pls_b HB.out hk gp (List.mem_of_getElem? hgp)
            have hs1 : f.sd = 1 → gp.lo = 0 := fun hs1 => by
              have h0 := (flE_side (HFE.out k f hf)).1 hs1
              obtain rfl : m = 0 := by omega
              rw [pls_at (Nat.zero_le _) hk] at hgp
              obtain rfl := Option.some.inj hgp
              rfl
            have HCH := hide (fun w => child_any gp f (dT t f) k w hpb (HB.out.fl k f hf) (by omega) (dT_bd t f) hs1)
            have HSU := hide (show (pls p.wd p.ht p.fl (dT t) k).map frO ++ [frO (plC gp f (dT t f))] = (pls p.wd p.ht p.fl (dT t) (k + 1)).map frO by
              rw [pls_succ hf, hm, show ((m : Int)).toNat = m from rfl, hgp, List.map_append]; rfl)
            have HN2 := hide (show ((pls p.wd p.ht p.fl (dT t) (k + 1)).map frO).length = k + 1 + 1 by rw [List.length_map]; exact pls_len (by omega))
            obtain ⟨bs, os, hA2, v0, v1, v2, v3, v4, v5, v6, v7, v8⟩ := (slFr_own HO.out).rd.fr (i := m) (f := frO gp) (by rw [List.getElem?_map, hgp]; rfl)
            subst hA2
            have hbs : bs < wr.heap.size := cell_lt (by rw [v0]; rfl)
            have HDED := hide (show ∀ z, z = abI f.an → ∀ w', Gr w w' → Calls Tryz.prog 52 #[tbv t C q, iv z] w' fun e w'' => e = .returned (trV (dR t f)) ∧ Gr w' w'' from fun z hz w' g => by
              rw [hz, show dR t f = dedV t.en (abI f.an) from dedA_good H0.out (a6_ang han)]
              exact deduction_any t C q (abI f.an) w' (HE.out.gr g) HOK2.out h6)
            have HAT := hide (dA_at (t := t) hf)
            have HOK := hide (fun h => dR_ok (t := t) (f := f) h)
            obtain ⟨d1', d2', d3', hdr⟩ : ∃ a b c, dR t f = (a, b, c) := ⟨_, _, _, rfl⟩
            rw [hdr] at HDED HAT HOK
            simp only at HAT HOK
            have WN : IntKind.i64.wrap (-f.an) = -f.an := IntWalk.i64_in _ (by unfold anOk at han; omega)
            have HA1 := hide (show ¬ f.an < 0 → f.an = abI f.an from fun h => by unfold abI; rw [if_neg h])
            have HA2 := hide (show f.an < 0 → -f.an = abI f.an from fun h => by unfold abI; rw [if_pos h])
            have hk0 : (0 : Int) ≤ (k : Int) := by omega
            have hk1 : (k : Int) < (p.fl.length : Int) := by omega
            have hm0 : (0 : Int) ≤ (m : Int) := by omega
            have hm1 : (m : Int) < (k : Int) + 1 := by omega
            clear hgp hpb hf hs1 han hdr hpa
            by_cases he : d3' = 0
            · subst he
              obtain ⟨htk, hn1, hn2⟩ := HOK.out rfl
              obtain ⟨hra, hquo⟩ := tik_quo htk
              obtain ⟨⟨r1, r2⟩, r3, r4⟩ := raB_iff.1 hra
              have HS2 := hide (show ∀ j, j < k + 1 → dA t p.fl j = 0 by
                intro j hj
                rcases Nat.lt_or_ge j k with h | h
                · exact HS.out j h
                · obtain rfl : j = k := by omega
                  exact HAT.out)
              have U1 : IntKind.i64.wrap (d1' * 720) = d1' * 720 := IntWalk.i64_in _ (by omega)
              have U2 : IntKind.i64.wrap ((d1' * 720).tdiv d2') = dT t f := by rw [hquo]; exact IntWalk.i64_in _ (by omega)
              have hz0 : ¬ d2' = 0 := by omega
              have hz2 : (d2' == 0) = false := by simpa using hz0
              clear HOK htk HAT HS hra hquo
              generalize hL1 : (pls p.wd p.ht p.fl (dT t) k).map frO = L1 at *
              generalize hL2 : (pls p.wd p.ht p.fl (dT t) (k + 1)).map frO = L2 at *
              have HL1 := hide hL1
              have HL2 := hide hL2
              clear hL1 hL2
              generalize frO gp = F at *
              generalize frO (plC gp f (dT t f)) = G at *
              generalize dT t f = n at *
              obtain ⟨x, y, ux, uy, vx, vy, W, Ht, le⟩ := F
              obtain ⟨x', y', ux', uy', vx', vy', W', Ht', le'⟩ := G
              obtain ⟨nm, pa, sd, fo, wd, ln, an⟩ := f
              simp only at hm y0 y1 y2 y3 y4 y5 y6 v0 v1 v2 v3 v4 v5 v6 v7 v8 WN HDED HA1 HA2
              subst hm
              have hsg : an < 0 ∨ ¬ an < 0 := Decidable.em _
              rcases hsg with hsg | hsg
              case' inl => have HD9 := hide (HDED.out (-an) (HA2.out hsg))
              case' inr => have HD9 := hide (HDED.out an (HA1.out hsg))
              all_goals
                clear HDED HA1 HA2
                go_wp2_with fail
                refine (HD9.out _ (by repeat (first | with_reducible exact Gr.refl _ | with_reducible assumption | with_reducible refine Gr.alloc ?_ _ | with_reducible refine Gr.drewN ?_ _ | with_reducible refine Gr.drew ?_ | with_reducible refine Gr.setCell ?_ (by first | (dsimp only; omega) | (simp only [World.size_alloc]; omega) | (with_reducible refine Gr.size ?_; (repeat (first | with_reducible exact Gr.refl _ | with_reducible assumption | with_reducible refine Gr.alloc ?_ _ | with_reducible refine Gr.drewN ?_ _ | with_reducible refine Gr.drew ?_ | with_reducible refine Gr.trans ?_ (by with_reducible assumption))); done)) _ | with_reducible refine Gr.trans ?_ (by with_reducible assumption)))).mono ?_
                rintro e w3 ⟨rfl, g3⟩
                have z3 := g3.size
                simp only [World.size_alloc] at z3
                have lw3 : wr.heap.size < w3.heap.size := by omega
                have lbs : bs < w3.heap.size := by omega
                have e0 : w3.cell? ⟨wr.heap.size, 0, none⟩ = some (.string nm) := (g3.cell _ _ (by simp)).trans (by simp [go_sem])
                have e1 : w3.cell? ⟨wr.heap.size, 1, none⟩ = some (iv (m : Int)) := (g3.cell _ _ (by simp)).trans (by simp [go_sem])
                have e2 : w3.cell? ⟨wr.heap.size, 2, none⟩ = some (iv sd) := (g3.cell _ _ (by simp)).trans (by simp [go_sem])
                have e3 : w3.cell? ⟨wr.heap.size, 3, none⟩ = some (iv fo) := (g3.cell _ _ (by simp)).trans (by simp [go_sem])
                have e4 : w3.cell? ⟨wr.heap.size, 4, none⟩ = some (iv wd) := (g3.cell _ _ (by simp)).trans (by simp [go_sem])
                have e5 : w3.cell? ⟨wr.heap.size, 5, none⟩ = some (iv ln) := (g3.cell _ _ (by simp)).trans (by simp [go_sem])
                have e6 : w3.cell? ⟨wr.heap.size, 6, none⟩ = some (iv an) := (g3.cell _ _ (by simp)).trans (by simp [go_sem])
                have gx : Gr wr w3 := (by repeat (first | with_reducible exact Gr.refl _ | with_reducible assumption | with_reducible refine Gr.alloc ?_ _ | with_reducible refine Gr.drewN ?_ _ | with_reducible refine Gr.drew ?_ | with_reducible refine Gr.setCell ?_ (by first | (dsimp only; omega) | (simp only [World.size_alloc]; omega) | (with_reducible refine Gr.size ?_; (repeat (first | with_reducible exact Gr.refl _ | with_reducible assumption | with_reducible refine Gr.alloc ?_ _ | with_reducible refine Gr.drewN ?_ _ | with_reducible refine Gr.drew ?_ | with_reducible refine Gr.trans ?_ (by with_reducible assumption))); done)) _ | with_reducible refine Gr.trans ?_ (by with_reducible assumption)))
                have q0 := (gx.cell _ _ hbs).trans v0
                have q1 := (gx.cell _ _ hbs).trans v1
                have q2 := (gx.cell _ _ hbs).trans v2
                have q3 := (gx.cell _ _ hbs).trans v3
                have q4 := (gx.cell _ _ hbs).trans v4
                have q5 := (gx.cell _ _ hbs).trans v5
                have q6 := (gx.cell _ _ hbs).trans v6
                have q7 := (gx.cell _ _ hbs).trans v7
                have q8 := (gx.cell _ _ hbs).trans v8
                clear v0 v1 v2 v3 v4 v5 v6 v7 v8 y0 y1 y2 y3 y4 y5 y6 HD9 o0 o1 o2 o3 o6
                go_upto_region 20 with fail
                refine wp_region_build1 _ 14 (by kernel_rfl) (by kernel_rfl) (Gr.refl _) (d1 := some 85) rfl ?_
                intro s gs
                obtain ⟨Xs, Ys, cs, fs⟩ := gs.use
                have GC := @GrW.cell
                simp only [List.take_succ_cons, List.take_zero]
                repeat (go_big_quiet_step ((first | (go_at_call 53; exact quiet_grw (HCH.out _)))))
                refine wpQuiet_nil ?_
                clear GC cs fs gs
                refine ⟨fun BB => .slice (some ⟨BB, 0, none⟩) 1 1, #[iv x', iv y', iv ux', iv uy', iv vx', iv vy', iv W', iv Ht', iv le'], 74, ⟨rfl, rfl, fun w => by go_simp⟩, ?_⟩
                intro B1 wq gq1 l1 ⟨b1, c1, f1⟩
                obtain ⟨Xq, Yq, cq, fq⟩ := gq1.use
                have sq := gq1.size
                (try simp only [World.size_alloc, World.size_setCell, World.heap_drewN] at sq l1)
                simp only [List.drop_succ_cons, List.drop_zero]
                refine wpList_app1 rfl _ _ _ rfl frL w2.heap.size 74 9 72 elFr (by decide) L1 ⟨x', y', ux', uy', vx', vy', W', Ht', le'⟩ L2 HSU.out (.slice (some ⟨bs, os, none⟩) (k + 1) d2) rfl (HO.out.gr (gx.trans (show Gr w3 wq from (by repeat (first | with_reducible exact Gr.refl _ | with_reducible assumption | with_reducible refine Gr.alloc ?_ _ | with_reducible refine Gr.drewN ?_ _ | with_reducible refine Gr.drew ?_ | with_reducible refine Gr.setCell ?_ (by first | (dsimp only; omega) | (simp only [World.size_alloc]; omega) | (with_reducible refine Gr.size ?_; (repeat (first | with_reducible exact Gr.refl _ | with_reducible assumption | with_reducible refine Gr.alloc ?_ _ | with_reducible refine Gr.drewN ?_ _ | with_reducible refine Gr.drew ?_ | with_reducible refine Gr.trans ?_ (by with_reducible assumption))); done)) _ | with_reducible refine Gr.trans ?_ (by with_reducible assumption)))))) ⟨B1, 0, none⟩ 1 rfl rfl (by intro j u hu; rw [addr_add, Nat.zero_add, c1]; simpa using hu) (one_fr _) (by omega) (by decide) (by omega) ?_
                intro gg cap1 w8 hO8 hG8 _ _ _
                have G8 : Gr w2 w8 := hG8 _ ((g.trans gx).trans (show Gr w3 wq from (by repeat (first | with_reducible exact Gr.refl _ | with_reducible assumption | with_reducible refine Gr.alloc ?_ _ | with_reducible refine Gr.drewN ?_ _ | with_reducible refine Gr.drew ?_ | with_reducible refine Gr.setCell ?_ (by first | (dsimp only; omega) | (simp only [World.size_alloc]; omega) | (with_reducible refine Gr.size ?_; (repeat (first | with_reducible exact Gr.refl _ | with_reducible assumption | with_reducible refine Gr.alloc ?_ _ | with_reducible refine Gr.drewN ?_ _ | with_reducible refine Gr.drew ?_ | with_reducible refine Gr.trans ?_ (by with_reducible assumption))); done)) _ | with_reducible refine Gr.trans ?_ (by with_reducible assumption))))) (Nat.le_refl _)
                clear c1 f1 cq fq hG8
                go_wp2
                go_roundw
                case rel => exact ⟨k + 1, some ⟨gg, 0, none⟩, cap1, by omega, by go_num, by rw [HN2.out], G8, HS2, by rw [HL2.out, ← HN2.out]; exact hO8⟩
                case measure => simp only [intOf]; omega
            · have HE0 := hide (show dlE p t = d3' by
                rw [HN.out, firE_at HS.out (by rw [HAT.out]; exact he) hkl, HAT.out])
              obtain ⟨nm, pa, sd, fo, wd, ln, an⟩ := f
              simp only at hm y0 y1 y2 y3 y4 y5 y6 WN HDED HA1 HA2
              clear HOK HAT HS HO HSU HN2 HCH v0 v1 v2 v3 v4 v5 v6 v7 v8 hm
              have hsg : an < 0 ∨ ¬ an < 0 := Decidable.em _
              rcases hsg with hsg | hsg
              case' inl => have HD9 := hide (HDED.out (-an) (HA2.out hsg))
              case' inr => have HD9 := hide (HDED.out an (HA1.out hsg))
              all_goals
                clear HDED HA1 HA2
                go_wp2_with fail
                refine (HD9.out _ (by repeat (first | with_reducible exact Gr.refl _ | with_reducible assumption | with_reducible refine Gr.alloc ?_ _ | with_reducible refine Gr.drewN ?_ _ | with_reducible refine Gr.drew ?_ | with_reducible refine Gr.setCell ?_ (by first | (dsimp only; omega) | (simp only [World.size_alloc]; omega) | (with_reducible refine Gr.size ?_; (repeat (first | with_reducible exact Gr.refl _ | with_reducible assumption | with_reducible refine Gr.alloc ?_ _ | with_reducible refine Gr.drewN ?_ _ | with_reducible refine Gr.drew ?_ | with_reducible refine Gr.trans ?_ (by with_reducible assumption))); done)) _ | with_reducible refine Gr.trans ?_ (by with_reducible assumption)))).mono ?_
                rintro e w3 ⟨rfl, g3⟩
                go_wp2_with fail
                refine bodyPost_ret (v := sle (.slice none 0 0) d3') (by simp [results, Tryz.results24, go_sem, *]) rfl ⟨_, ret_sle HE0.out.symm, (fun h => by rw [HE0.out] at h; exact absurd h he), gW.trans (by repeat (first | with_reducible exact Gr.refl _ | with_reducible assumption | with_reducible refine Gr.alloc ?_ _ | with_reducible refine Gr.drewN ?_ _ | with_reducible refine Gr.drew ?_ | with_reducible refine Gr.setCell ?_ (by first | (dsimp only; omega) | (simp only [World.size_alloc]; omega) | (with_reducible refine Gr.size ?_; (repeat (first | with_reducible exact Gr.refl _ | with_reducible assumption | with_reducible refine Gr.alloc ?_ _ | with_reducible refine Gr.drewN ?_ _ | with_reducible refine Gr.drew ?_ | with_reducible refine Gr.trans ?_ (by with_reducible assumption))); done)) _ | with_reducible refine Gr.trans ?_ (by with_reducible assumption)))⟩
          · obtain rfl : k = p.fl.length := by omega
            have HE0 := hide (show dlE p t = 0 by rw [HN.out]; exact firE_none HS.out)
            have HO9 := hide (HO.out.weak (show w.heap.size ≤ w2.heap.size by omega))
            clear HO HS
            go_wp2
            refine bodyPost_ret (v := sle (.slice A2 (p.fl.length + 1) d2) 0) (by simp [results, Tryz.results24, go_sem, *]) rfl ⟨_, ret_sle HE0.out.symm, (fun _ => HO9.out), gW⟩
    · have HN := hide (dlE_table h1 h2)
      have HZ := hide h2
      clear h1 h2 hP hE
      generalize tbE t = te at *
      have hz : ¬ te = 0 := HZ.out
      go_enter Tryz.func24, Tryz.ntmps24
      go_wp2_with fail
      refine (HV.out _ (by repeat (first | with_reducible exact Gr.refl _ | with_reducible assumption | with_reducible refine Gr.alloc ?_ _ | with_reducible refine Gr.drewN ?_ _ | with_reducible refine Gr.drew ?_ | with_reducible refine Gr.setCell ?_ (by first | (dsimp only; omega) | (simp only [World.size_alloc]; omega) | (with_reducible refine Gr.size ?_; (repeat (first | with_reducible exact Gr.refl _ | with_reducible assumption | with_reducible refine Gr.alloc ?_ _ | with_reducible refine Gr.drewN ?_ _ | with_reducible refine Gr.drew ?_ | with_reducible refine Gr.trans ?_ (by with_reducible assumption))); done)) _ | with_reducible refine Gr.trans ?_ (by with_reducible assumption)))).mono ?_
      rintro e w1 ⟨rfl, g1⟩
      obtain ⟨X1, Y1, c1, f1⟩ := g1.use
      have z1 := g1.size
      simp only [World.size_alloc] at z1
      have l1 : w.heap.size + 1 < w1.heap.size := by omega
      have l0 : w.heap.size < w1.heap.size := by omega
      go_wp2_with fail
      refine (HT.out _ (by repeat (first | with_reducible exact Gr.refl _ | with_reducible assumption | with_reducible refine Gr.alloc ?_ _ | with_reducible refine Gr.drewN ?_ _ | with_reducible refine Gr.drew ?_ | with_reducible refine Gr.setCell ?_ (by first | (dsimp only; omega) | (simp only [World.size_alloc]; omega) | (with_reducible refine Gr.size ?_; (repeat (first | with_reducible exact Gr.refl _ | with_reducible assumption | with_reducible refine Gr.alloc ?_ _ | with_reducible refine Gr.drewN ?_ _ | with_reducible refine Gr.drew ?_ | with_reducible refine Gr.trans ?_ (by with_reducible assumption))); done)) _ | with_reducible refine Gr.trans ?_ (by with_reducible assumption)))).mono ?_
      rintro e w2 ⟨rfl, g2⟩
      go_wp2_with fail
      refine bodyPost_ret (v := sle (.slice none 0 0) te) (by simp [results, Tryz.results24, go_sem, *]) rfl ⟨_, ret_sle HN.out.symm, (fun h => by rw [HN.out] at h; exact absurd h hz), (by repeat (first | with_reducible exact Gr.refl _ | with_reducible assumption | with_reducible refine Gr.alloc ?_ _ | with_reducible refine Gr.drewN ?_ _ | with_reducible refine Gr.drew ?_ | with_reducible refine Gr.setCell ?_ (by first | (dsimp only; omega) | (simp only [World.size_alloc]; omega) | (with_reducible refine Gr.size ?_; (repeat (first | with_reducible exact Gr.refl _ | with_reducible assumption | with_reducible refine Gr.alloc ?_ _ | with_reducible refine Gr.drewN ?_ _ | with_reducible refine Gr.drew ?_ | with_reducible refine Gr.trans ?_ (by with_reducible assumption))); done)) _ | with_reducible refine Gr.trans ?_ (by with_reducible assumption)))⟩
  · have HN := hide (dlE_part (t := t) h1)
    have HZ := hide h1
    clear h1 hP hE
    generalize valE p = te at *
    have hz : ¬ te = 0 := HZ.out
    go_enter Tryz.func24, Tryz.ntmps24
    go_wp2_with fail
    refine (HV.out _ (by repeat (first | with_reducible exact Gr.refl _ | with_reducible assumption | with_reducible refine Gr.alloc ?_ _ | with_reducible refine Gr.drewN ?_ _ | with_reducible refine Gr.drew ?_ | with_reducible refine Gr.setCell ?_ (by first | (dsimp only; omega) | (simp only [World.size_alloc]; omega) | (with_reducible refine Gr.size ?_; (repeat (first | with_reducible exact Gr.refl _ | with_reducible assumption | with_reducible refine Gr.alloc ?_ _ | with_reducible refine Gr.drewN ?_ _ | with_reducible refine Gr.drew ?_ | with_reducible refine Gr.trans ?_ (by with_reducible assumption))); done)) _ | with_reducible refine Gr.trans ?_ (by with_reducible assumption)))).mono ?_
    rintro e w1 ⟨rfl, g1⟩
    go_wp2_with fail
    refine bodyPost_ret (v := sle (.slice none 0 0) te) (by simp [results, Tryz.results24, go_sem, *]) rfl ⟨_, ret_sle HN.out.symm, (fun h => by rw [HN.out] at h; exact absurd h hz), (by repeat (first | with_reducible exact Gr.refl _ | with_reducible assumption | with_reducible refine Gr.alloc ?_ _ | with_reducible refine Gr.drewN ?_ _ | with_reducible refine Gr.drew ?_ | with_reducible refine Gr.setCell ?_ (by first | (dsimp only; omega) | (simp only [World.size_alloc]; omega) | (with_reducible refine Gr.size ?_; (repeat (first | with_reducible exact Gr.refl _ | with_reducible assumption | with_reducible refine Gr.alloc ?_ _ | with_reducible refine Gr.drewN ?_ _ | with_reducible refine Gr.drew ?_ | with_reducible refine Gr.trans ?_ (by with_reducible assumption))); done)) _ | with_reducible refine Gr.trans ?_ (by with_reducible assumption)))⟩
end Go.Proofs.YtdabhnefoigebaaGreat
