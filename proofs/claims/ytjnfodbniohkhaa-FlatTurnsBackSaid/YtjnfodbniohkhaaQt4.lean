/-
  Flat patterns turned: isOrdered and settled of the code.
-/
import Derived.Test.YtjnfodbniohkhaaQt3
import Derived.Test.YtjnfodbniohkhaaQt5
set_option linter.unusedVariables false
set_option linter.unusedSimpArgs false
namespace Go.Proofs.Ytjnfodbniohkhaa
set_option linter.unusedVariables false
set_option linter.unusedSimpArgs false
open Go Go.ChangeShapes Go.WideShapes Go.ChangeAt Go.RowKit Go.Deep

namespace RG
theorem gSgT : Try.prog.eqGuardType Try.prog.depth 47 = false := by kernel_rfl
def sqO (a b c d x y z t : Int) : Bool := a == x && (b == y && (c == z && d == t))
theorem eqInSgO (n : Nat) (a b c d x y z t : Int) (w : World) : (Op.equalIn (n + 2) 47 (.agg #[iv a, iv b, iv c, iv d]) (.agg #[iv x, iv y, iv z, iv t])).run Try.prog w = .ok (sqO a b c d x y z t) w := by
  have u3 := Try.underlying3
  have a3 := Try.isAgg3
  have z3 := Try.sizeOf3
  rw [run_equalIn_agg w (n + 1) 47 _ _ sSgT pSgT]
  simp only [Program.fieldsOf, Try.underlying47, sqO]
  go_simp
  by_cases h1 : a = x <;> by_cases h2 : b = y <;> by_cases h3 : c = z <;> by_cases h4 : d = t <;> simp [h1, h2, h3, h4]
theorem sqO_od (b : Bd) : sqO b.a b.b b.c b.d (min b.a b.c) (min b.b b.d) (max b.a b.c) (max b.b b.d) = odB b := by
  rw [Bool.eq_iff_iff]
  unfold sqO odB
  simp only [Bool.and_eq_true, decide_eq_true_eq, beq_iff_eq]
  omega
set_option maxRecDepth 100000 in
theorem isOrdered_any (b : Bd) (w : World) : Calls Try.prog 19 #[sg4 b.a b.b b.c b.d] w fun e w' => e = .returned (.bool (odB b)) ∧ Gr w w' := by
  have HE := hide (sqO_od b)
  obtain ⟨ff, pp, a, b, c, d, nn, ee⟩ := b
  simp only at HE ⊢
  have NEQ := fun w => eqInSgO 9998 a b c d (min a c) (min b d) (max a c) (max b d) w
  have GP := gSgT
  have HO := hide (fun w' => inOrder_any a b c d w')
  generalize sqO a b c d (min a c) (min b d) (max a c) (max b d) = V at *
  generalize min a c = q1 at *
  generalize min b d = q2 at *
  generalize max a c = q3 at *
  generalize max b d = q4 at *
  go_enter Try.func19, Try.ntmps19
  go_upto_region 1 with fail
  have GC := @GrW.cell
  refine wp_region_grw _ (by kernel_rfl) (by kernel_rfl) (Gr.refl _) ?_
  repeat (go_big_quiet_step ((first | (go_at_call 20; exact quiet_grw (HO.out _)))))
  refine wpQuiet_nil ?_
  intro wq hwq
  obtain ⟨gq, hwq'⟩ := hwq
  subst hwq'
  clear GC
  have gq1 := gq.gr
  generalize gq.w = wq at gq1 ⊢
  obtain ⟨Xq, Yq, cq, fq⟩ := gq1.use
  have sq := gq1.size
  (try simp only [World.size_alloc, World.size_setCell, World.heap_drewN] at sq)
  go_wp2
  go_ret
  exact ⟨ret_bool HE.out, (by repeat (first | with_reducible exact Gr.refl _ | with_reducible assumption | with_reducible refine Gr.alloc ?_ _ | with_reducible refine Gr.drewN ?_ _ | with_reducible refine Gr.drew ?_ | with_reducible refine Gr.setCell ?_ (by first | (dsimp only; omega) | (simp only [World.size_alloc]; omega) | (with_reducible refine Gr.size ?_; (repeat (first | with_reducible exact Gr.refl _ | with_reducible assumption | with_reducible refine Gr.alloc ?_ _ | with_reducible refine Gr.drewN ?_ _ | with_reducible refine Gr.drew ?_ | with_reducible refine Gr.trans ?_ (by with_reducible assumption))); done)) _ | with_reducible refine Gr.trans ?_ (by with_reducible assumption)))⟩
theorem bnR_bd {l : List Rc} (h : ∀ r ∈ l, InM 1048576 r) (h0 : 0 < l.length) : (-1048576 ≤ (bnR l).x ∧ (bnR l).x ≤ 1048576) ∧ -1048576 ≤ (bnR l).y ∧ (bnR l).y ≤ 1048576 := by
  match l, h0 with
  | r :: q, _ =>
    have hr := h r List.mem_cons_self
    have m1 := hr.w
    have m2 := hr.h
    have m3 := hr.x
    have m4 := hr.y
    have m5 := hr.x'
    have m6 := hr.y'
    have := bnV_bd (m := 1048576) (r :: q) (r.x, r.y, r.x, r.y) (fun s hs => by
      have hr := h s hs
      have m1 := hr.w
      have m2 := hr.h
      have m3 := hr.x
      have m4 := hr.y
      have m5 := hr.x'
      have m6 := hr.y'
      omega) (by dsimp only; omega)
    exact ⟨this.1, this.2.1⟩
set_option maxHeartbeats 4000000 in
set_option maxRecDepth 100000 in
theorem settled_any (A1 A2 A3 A4 : Option Addr) (c1 c2 c3 c4 : Nat) (F : Pat) (w : World) (hF : PatW w A1 c1 A2 c2 A3 c3 A4 c4 F)
    (v1 : ∀ r ∈ F.r, InM 1048576 r) (v2 : ∀ r ∈ F.c, InM 1048576 r) (v3 : ∀ r ∈ F.f, InM 1048576 r) (v4 : ∀ b ∈ F.b, (-10000000 ≤ b.a ∧ b.a ≤ 10000000) ∧ (-10000000 ≤ b.b ∧ b.b ≤ 10000000) ∧ (-10000000 ≤ b.c ∧ b.c ≤ 10000000) ∧ (-10000000 ≤ b.d ∧ b.d ≤ 10000000))
    (n0 : 0 < F.r.length) (n1 : F.r.length ≤ 400) (n2 : F.c.length ≤ 400) (n3 : F.f.length ≤ 400) (n4 : F.b.length ≤ 400) :
    Calls Try.prog 17 #[ptv A1 F.r.length c1 A2 F.c.length c2 A3 F.f.length c3 A4 F.b.length c4] w fun e w' => NewP w w' (stF F) e := by
  obtain ⟨⟨u1, u2⟩, u3, u4⟩ := bnR_bd v1 n0
  have HBO := hide (fun (w' : World) (g : Gr w w') => bounds_any A1 c1 F.r w' (hF.r.gr g) (fun r hr => by
    have := v1 r hr
    have m1 := this.w
    have m2 := this.h
    have m3 := this.x
    have m4 := this.y
    have m5 := this.x'
    have m6 := this.y'
    omega) n1 n0)
  have HPA := hide (fun (w' : World) (g : Gr w w') => pattern_any (-(bnR F.r).x) (-(bnR F.r).y) 0 A1 A2 A3 A4 c1 c2 c3 c4 F w' (hF.gr g) (by omega) (by omega) v1 v2 v3 v4 (by omega) n1 n2 n3 n4)
  have HS := hide (show patM (-(bnR F.r).x) (-(bnR F.r).y) 0 F = stF F from rfl)
  have s1 : IntKind.i64.wrap (-(bnR F.r).x) = -(bnR F.r).x := IntWalk.i64_in _ (by omega)
  have s2 : IntKind.i64.wrap (-(bnR F.r).y) = -(bnR F.r).y := IntWalk.i64_in _ (by omega)
  rw [HS.out] at HPA
  clear hF v1 v2 v3 v4 n0 n1 n2 n3 n4 u1 u2 u3 u4 HS
  generalize stF F = G at *
  generalize bnR F.r = R at *
  obtain ⟨R1, R2, R3, R4⟩ := R
  simp only at s1 s2 HPA
  obtain ⟨w0, hw0⟩ : ∃ w0, (w.alloc (.cells #[.slice A1 F.r.length c1, .slice A2 F.c.length c2, .slice A3 F.f.length c3, .slice A4 F.b.length c4] 25)).alloc (.cells #[.slice none 0 0, .slice none 0 0, .slice none 0 0, .slice none 0 0] 25) = w0 := ⟨_, rfl⟩
  have gw0 : Gr w w0 := by rw [← hw0]; exact Gr.alloc (Gr.alloc (Gr.refl _) _) _
  have s0 : w0.heap.size = w.heap.size + 2 := by rw [← hw0]; simp
  have k1 : w0.cell? ⟨w.heap.size, 0, none⟩ = some (.slice A1 F.r.length c1) ∧ w0.cell? ⟨w.heap.size, 1, none⟩ = some (.slice A2 F.c.length c2) ∧ w0.cell? ⟨w.heap.size, 2, none⟩ = some (.slice A3 F.f.length c3) ∧ w0.cell? ⟨w.heap.size, 3, none⟩ = some (.slice A4 F.b.length c4) := by rw [← hw0]; simp [go_sem]
  have k2 : (∀ j, w0.frozen? ⟨w.heap.size + 1, j, none⟩ = false) ∧ w0.cell? ⟨w.heap.size + 1, 0, none⟩ = some (.slice none 0 0) ∧ w0.cell? ⟨w.heap.size + 1, 1, none⟩ = some (.slice none 0 0) ∧ w0.cell? ⟨w.heap.size + 1, 2, none⟩ = some (.slice none 0 0) ∧ w0.cell? ⟨w.heap.size + 1, 3, none⟩ = some (.slice none 0 0) := by rw [← hw0]; simp [go_sem]
  obtain ⟨k10, k11, k12, k13⟩ := k1
  have HK2 := hide k2
  clear k2
  go_enter Try.func17, Try.ntmps17
  go_upto_region 1 with fail
  clear hw0
  go_wp2_with fail
  refine (HBO.out _ gw0).mono ?_
  rintro e w1 ⟨rfl, g1⟩
  have z1 := g1.size
  have e0 : w1.cell? ⟨w.heap.size, 0, none⟩ = some (.slice A1 F.r.length c1) := (g1.cell _ _ (by omega)).trans k10
  have e1 : w1.cell? ⟨w.heap.size, 1, none⟩ = some (.slice A2 F.c.length c2) := (g1.cell _ _ (by omega)).trans k11
  have e2 : w1.cell? ⟨w.heap.size, 2, none⟩ = some (.slice A3 F.f.length c3) := (g1.cell _ _ (by omega)).trans k12
  have e3 : w1.cell? ⟨w.heap.size, 3, none⟩ = some (.slice A4 F.b.length c4) := (g1.cell _ _ (by omega)).trans k13
  have l1 : w.heap.size < w1.heap.size := by omega
  clear k10 k11 k12 k13 HBO
  have HP2 := hide (HPA.out (w1.alloc (.cells #[iv R1, iv R2, iv R3, iv R4] 55)) ((gw0.trans g1).trans (Gr.alloc (Gr.refl _) _)))
  clear HPA
  go_wp2_with fail
  refine HP2.out.mono ?_
  rintro e w2 ⟨n, D1, D2, D3, D4, q1, q2, q3, q4, rfl, ⟨h1, h2, h3⟩, ⟨f1, f2, f3⟩, ho, hn, hn', g2⟩
  have z2 := g2.size
  simp only [World.size_alloc] at z2 hn f1 f2 f3
  have g12 : Gr w0 w2 := g1.trans ((Gr.alloc (Gr.refl _) _).trans g2)
  have p0 : w2.frozen? ⟨w.heap.size + 1, 0, none⟩ = false := (g12.frozen _ _ (by omega)).trans (HK2.out.1 0)
  have p1 : w2.frozen? ⟨w.heap.size + 1, 1, none⟩ = false := (g12.frozen _ _ (by omega)).trans (HK2.out.1 1)
  have p2 : w2.frozen? ⟨w.heap.size + 1, 2, none⟩ = false := (g12.frozen _ _ (by omega)).trans (HK2.out.1 2)
  have p3 : w2.frozen? ⟨w.heap.size + 1, 3, none⟩ = false := (g12.frozen _ _ (by omega)).trans (HK2.out.1 3)
  have d0 : w2.cell? ⟨w.heap.size + 1, 0, none⟩ = some (.slice none 0 0) := (g12.cell _ _ (by omega)).trans HK2.out.2.1
  have d1 : w2.cell? ⟨w.heap.size + 1, 1, none⟩ = some (.slice none 0 0) := (g12.cell _ _ (by omega)).trans HK2.out.2.2.1
  have d2 : w2.cell? ⟨w.heap.size + 1, 2, none⟩ = some (.slice none 0 0) := (g12.cell _ _ (by omega)).trans HK2.out.2.2.2.1
  have d3 : w2.cell? ⟨w.heap.size + 1, 3, none⟩ = some (.slice none 0 0) := (g12.cell _ _ (by omega)).trans HK2.out.2.2.2.2
  have H1 := hide h1
  have H2 := hide h2
  have H3 := hide h3
  have HO := hide ho
  have HF1 := hide f1
  have HF2 := hide f2
  have HF3 := hide f3
  have HG := hide (gw0.trans g12)
  have hlt : w.heap.size + 1 < w2.heap.size := by omega
  clear h1 h2 h3 ho f1 f2 f3 g1 g2 HP2 e0 e1 e2 e3 s1 s2
  go_wp2_with fail
  refine bodyPost_ret (v := ptv D1 G.r.length q1 D2 G.c.length q2 D3 G.f.length q3 D4 G.b.length q4) (by simp [results, Try.results17, go_sem, *]) rfl ?_
  have kq := (((((Kq.refl (lo := w.heap.size + 2) (n := n) (B := w.heap.size + 1) hn').set (C := w.heap.size + 1) (i := 0) (.inl (by omega)) (.slice D1 G.r.length q1)).set (C := w.heap.size + 1) (i := 1) (.inl (by omega)) (.slice D2 G.c.length q2)).set (C := w.heap.size + 1) (i := 2) (.inl (by omega)) (.slice D3 G.f.length q3)).set (C := w.heap.size + 1) (i := 3) (.inl (by omega)) (.slice D4 G.b.length q4))
  have hlo2 : w.heap.size + 1 < n := by omega
  have hle : w.heap.size ≤ w.heap.size + 1 := by omega
  have fr : ∀ {D : Option Addr} {l : List Rc}, (l ≠ [] → ∀ a, D = some a → w1.heap.size + 1 ≤ a.block ∧ a.block < n) → (l ≠ [] → ∀ a, D = some a → w.heap.size ≤ a.block ∧ a.block < n) ∧ (l ≠ [] → ∀ a, D = some a → w.heap.size + 2 ≤ a.block ∧ a.block < n ∧ a.block ≠ w.heap.size + 1) := fun h => ⟨fun hl a ha => by have := h hl a ha; omega, fun hl a ha => by have := h hl a ha; omega⟩
  exact ⟨n, D1, D2, D3, D4, q1, q2, q3, q4, rfl, ⟨((SlK.mk H1.out (fr HF1.out).2).kq kq).sl, ((SlK.mk H2.out (fr HF2.out).2).kq kq).sl, ((SlK.mk H3.out (fr HF3.out).2).kq kq).sl⟩, ⟨(fr HF1.out).1, (fr HF2.out).1, (fr HF3.out).1⟩, own_farQ (own_farQ (own_farQ (own_farQ HO.out (a := ⟨w.heap.size + 1, 0, none⟩) hlo2 _) (a := ⟨w.heap.size + 1, 1, none⟩) hlo2 _) (a := ⟨w.heap.size + 1, 2, none⟩) hlo2 _) (a := ⟨w.heap.size + 1, 3, none⟩) hlo2 _, by omega, kq.n0,
    Gr.setCell (Gr.setCell (Gr.setCell (Gr.setCell HG.out (p := ⟨w.heap.size + 1, 0, none⟩) hle _) (p := ⟨w.heap.size + 1, 1, none⟩) hle _) (p := ⟨w.heap.size + 1, 2, none⟩) hle _) (p := ⟨w.heap.size + 1, 3, none⟩) hle _⟩
end RG
end Go.Proofs.Ytjnfodbniohkhaa
