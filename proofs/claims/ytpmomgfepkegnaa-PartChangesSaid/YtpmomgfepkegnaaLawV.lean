/-
  PartValidates: the walk.
-/
import Derived.Test.YtpmomgfepkegnaaLaw4
set_option linter.unusedVariables false
set_option linter.unusedSimpArgs false
namespace Go.Proofs.Ytpmomgfepkegnaa
set_option linter.unusedVariables false
set_option linter.unusedSimpArgs false
open Go Go.ChangeShapes Go.WideShapes Go.ChangeAt Go.RowKit Go.Deep

theorem PaW.own {w w' : World} {p : Pa} {A B A' B' : Option Addr} {c d c' d' lo1 lo2 : Nat} (h : PaW w p A c B d) (h1 : OwnL w' lo1 55 7 flL (.slice A' p.fl.length c') p.fl) (h2 : OwnL w' lo2 57 6 hoL (.slice B' p.ho.length d') p.ho) : PaW w' p A' c' B' d' := by
  obtain ⟨-, r1, a1, a2⟩ := OwnL.rd (c := flL) (fun _ => rfl) h1
  obtain ⟨-, r2, b1, b2⟩ := OwnL.rd (c := hoL) (fun _ => rfl) h2
  unfold maxLen at a2 b2
  exact ⟨⟨r1, a1, by omega, h.fl.len, h.fl.nm⟩, ⟨r2, b1, by omega, h.ho.len⟩, h.nm, h.mt⟩
set_option maxRecDepth 100000 in
set_option maxHeartbeats 4000000 in
theorem validates_walk (p : Pa) (A B : Option Addr) (c d : Nat) (w : World) (hX : PaX w p A c B d) :
    Calls Try.prog 3 #[pav p A c B d] w fun x w' => x = .returned (.bool true) ∧ Gr w w' := by
  have HBG := hide (fun (w' : World) (g : Gr w w') => big_any p A B c d w' (hX.gr g))
  cases hb : bgB p with
  | true =>
    rw [hb] at HBG
    clear hb hX
    go_enter Try.func3, Try.ntmps3
    go_wp2_with fail
    refine (HBG.out _ (by repeat (first | with_reducible exact Gr.refl _ | with_reducible assumption | with_reducible refine Gr.alloc ?_ _ | with_reducible refine Gr.drewN ?_ _ | with_reducible refine Gr.drew ?_ | with_reducible refine Gr.setCell ?_ (by first | (dsimp only; omega) | (simp only [World.size_alloc]; omega) | (with_reducible refine Gr.size ?_; (repeat (first | with_reducible exact Gr.refl _ | with_reducible assumption | with_reducible refine Gr.alloc ?_ _ | with_reducible refine Gr.drewN ?_ _ | with_reducible refine Gr.drew ?_ | with_reducible refine Gr.trans ?_ (by with_reducible assumption))); done)) _ | with_reducible refine Gr.trans ?_ (by with_reducible assumption)))).mono ?_
    rintro e w1 ⟨rfl, g1⟩
    go_wp2_with (first | (go_at_call 16; refine (known_any _).mono ?_; rintro e w1 ⟨rfl, g1⟩; obtain ⟨X1, Y1, c1, f1⟩ := g1.use; have z1 := g1.size; (try simp only [World.size_alloc, World.size_setCell, World.heap_drewN, Nat.add_one_le_iff] at z1); (try have l0 : w.heap.size < w1.heap.size := by omega); (try have l1 : w.heap.size + 1 < w1.heap.size := by omega); (try have l2 : w.heap.size + 1 + 1 < w1.heap.size := by omega)))
    go_ret
    exact ⟨rfl, (by repeat (first | with_reducible exact Gr.refl _ | with_reducible assumption | with_reducible refine Gr.alloc ?_ _ | with_reducible refine Gr.drewN ?_ _ | with_reducible refine Gr.drew ?_ | with_reducible refine Gr.setCell ?_ (by first | (dsimp only; omega) | (simp only [World.size_alloc]; omega) | (with_reducible refine Gr.size ?_; (repeat (first | with_reducible exact Gr.refl _ | with_reducible assumption | with_reducible refine Gr.alloc ?_ _ | with_reducible refine Gr.drewN ?_ _ | with_reducible refine Gr.drew ?_ | with_reducible refine Gr.trans ?_ (by with_reducible assumption))); done)) _ | with_reducible refine Gr.trans ?_ (by with_reducible assumption)))⟩
  | false =>
    have hP := hX.small hb
    rw [hb] at HBG
    have HP := hide hP
    have HCP := hide (fun (w' : World) (g : Gr w w') => copy_any p A B c d w' (HP.out.gr g))
    clear hb hX hP
    go_enter Try.func3, Try.ntmps3
    go_wp2_with fail
    refine (HBG.out _ (by repeat (first | with_reducible exact Gr.refl _ | with_reducible assumption | with_reducible refine Gr.alloc ?_ _ | with_reducible refine Gr.drewN ?_ _ | with_reducible refine Gr.drew ?_ | with_reducible refine Gr.setCell ?_ (by first | (dsimp only; omega) | (simp only [World.size_alloc]; omega) | (with_reducible refine Gr.size ?_; (repeat (first | with_reducible exact Gr.refl _ | with_reducible assumption | with_reducible refine Gr.alloc ?_ _ | with_reducible refine Gr.drewN ?_ _ | with_reducible refine Gr.drew ?_ | with_reducible refine Gr.trans ?_ (by with_reducible assumption))); done)) _ | with_reducible refine Gr.trans ?_ (by with_reducible assumption)))).mono ?_
    rintro e w1 ⟨rfl, g1⟩
    obtain ⟨X1, Y1, c1, f1⟩ := g1.use
    have z1 := g1.size
    simp only [World.size_alloc] at z1
    have l1 : w.heap.size < w1.heap.size := by omega
    have gw1 : Gr w w1 := (by repeat (first | with_reducible exact Gr.refl _ | with_reducible assumption | with_reducible refine Gr.alloc ?_ _ | with_reducible refine Gr.drewN ?_ _ | with_reducible refine Gr.drew ?_ | with_reducible refine Gr.setCell ?_ (by first | (dsimp only; omega) | (simp only [World.size_alloc]; omega) | (with_reducible refine Gr.size ?_; (repeat (first | with_reducible exact Gr.refl _ | with_reducible assumption | with_reducible refine Gr.alloc ?_ _ | with_reducible refine Gr.drewN ?_ _ | with_reducible refine Gr.drew ?_ | with_reducible refine Gr.trans ?_ (by with_reducible assumption))); done)) _ | with_reducible refine Gr.trans ?_ (by with_reducible assumption)))
    go_wp2_with fail
    refine (HCP.out _ gw1).mono ?_
    rintro e w2 ⟨A', c', B', d', rfl, o1, o2, g2⟩
    have z2 := g2.size
    have l2 : w.heap.size < w2.heap.size := by omega
    have gw2 : Gr w w2 := gw1.trans g2
    obtain ⟨X2, Y2, c2, f2⟩ := g2.use
    have HO := hide (HP.out.own o1 o2)
    clear o1 o2
    go_upto_region 4 with fail
    have HV1 := hide (fun (g : GrW (w2.alloc (.cells #[.string p.nm, .string p.mt, iv p.ga, iv p.gr, iv p.wd, iv p.ht, .slice A' p.fl.length c', .slice B' p.ho.length d'] 25))) => Validate_any p A' B' c' d' g.w (HO.out.gr ((Gr.alloc (Gr.refl _) _).trans g.gr)))
    have HV2 := hide (fun (g : GrW (w2.alloc (.cells #[.string p.nm, .string p.mt, iv p.ga, iv p.gr, iv p.wd, iv p.ht, .slice A' p.fl.length c', .slice B' p.ho.length d'] 25))) => rValidate_any p A B c d g.w (HP.out.gr (gw2.trans ((Gr.alloc (Gr.refl _) _).trans g.gr))))
    have HEQ := hide (fun (g : GrW (w2.alloc (.cells #[.string p.nm, .string p.mt, iv p.ga, iv p.gr, iv p.wd, iv p.ht, .slice A' p.fl.length c', .slice B' p.ho.length d'] 25))) => rEqual_any p p A' B' A B c' d' c d g.w (HO.out.gr ((Gr.alloc (Gr.refl _) _).trans g.gr)) (HP.out.gr (gw2.trans ((Gr.alloc (Gr.refl _) _).trans g.gr))))
    rw [eqB_self] at HEQ
    generalize valE p = vE at *
    have GC := @GrW.cell
    refine wp_region_grw _ (by kernel_rfl) (by kernel_rfl) (Gr.refl _) ?_
    repeat (go_big_quiet_step ((first | (go_at_call 18; exact quiet_grw (HV1.out _)) | (go_at_call 19; exact quiet_grw (HV2.out _)) | (go_at_call 20; exact quiet_grw (HEQ.out _)) | (go_at_call 16; exact quiet_grw (known_any _)))))
    refine wpQuiet_nil ?_
    intro wq hwq
    obtain ⟨gq, hwq'⟩ := hwq
    subst hwq'
    clear GC
    have gq1 := gq.gr
    generalize gq.w = wq at gq1 ⊢
    obtain ⟨Xq, Yq, cq, fq⟩ := gq1.use
    have sq := gq1.size
    (try simp only [World.size_alloc, World.size_setCell, World.heap_drewN] at sq)
    go_wp2
    go_ret
    exact ⟨rfl, (by repeat (first | with_reducible exact Gr.refl _ | with_reducible assumption | with_reducible refine Gr.alloc ?_ _ | with_reducible refine Gr.drewN ?_ _ | with_reducible refine Gr.drew ?_ | with_reducible refine Gr.setCell ?_ (by first | (dsimp only; omega) | (simp only [World.size_alloc]; omega) | (with_reducible refine Gr.size ?_; (repeat (first | with_reducible exact Gr.refl _ | with_reducible assumption | with_reducible refine Gr.alloc ?_ _ | with_reducible refine Gr.drewN ?_ _ | with_reducible refine Gr.drew ?_ | with_reducible refine Gr.trans ?_ (by with_reducible assumption))); done)) _ | with_reducible refine Gr.trans ?_ (by with_reducible assumption)))⟩
end Go.Proofs.Ytpmomgfepkegnaa
