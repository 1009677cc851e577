/-
  Regions: the law of GeomOutlines.
-/
import Derived.Test.YtfbhpeedjphpaaaDoorRgw
import Derived.Test.YtfbhpeedjphpaaaDoorRga
set_option linter.unusedVariables false
set_option linter.unusedSimpArgs false
namespace Go.Proofs.YtfbhpeedjphpaaaDoor
set_option linter.unusedVariables false
set_option linter.unusedSimpArgs false
open Go Go.ChangeShapes Go.WideShapes Go.ChangeAt Go.RowKit Go.Deep

namespace RG
theorem own_rdS {w : World} {base : Nat} {e : TypeId} {n d : Nat} {A : Option Addr} {L : List Sg} (h : OwnL w base e 4 sgL (.slice A n d) L) : L.length ≤ d ∧ d ≤ 9223372036854775807 ∧ RdL w 4 sgL A L := by
  obtain ⟨_, h1, h2, h3⟩ := OwnL.rd (c := sgL) (fun _ => rfl) h
  exact ⟨h2, by unfold maxLen at h3; omega, h1⟩
set_option maxHeartbeats 8000000 in
set_option maxRecDepth 100000 in
theorem outlines_walk (A : Option Addr) (c : Nat) (l : List Rc) (w : World) (ht : Tab w) (hl : SlR w A c l) :
    Calls Tryd.prog 4 #[.slice A l.length c] w fun x w' => x = .returned (.bool true) ∧ Gr w w' := by
  have HT := hide ht
  by_cases hlo : 60 < l.length
  · have hdl : decide (60 < l.length) = true := by simpa using hlo
    clear ht hl
    go_enter Tryd.func4, Tryd.ntmps4
    go_wp2_with (first | (go_at_call 5; refine (many_any _ _ _ _).mono ?_; rintro e w1 ⟨rfl, rfl⟩) | (go_at_call 6; refine (known_any _ (HT.out.gr (by repeat (first | with_reducible exact Gr.refl _ | with_reducible assumption | with_reducible refine Gr.alloc ?_ _ | with_reducible refine Gr.drewN ?_ _ | with_reducible refine Gr.drew ?_ | with_reducible refine Gr.setCell ?_ (by first | (dsimp only; omega) | (simp only [World.size_alloc]; omega) | (with_reducible refine Gr.size ?_; (repeat (first | with_reducible exact Gr.refl _ | with_reducible assumption | with_reducible refine Gr.alloc ?_ _ | with_reducible refine Gr.drewN ?_ _ | with_reducible refine Gr.drew ?_ | with_reducible refine Gr.trans ?_ (by with_reducible assumption))); done)) _ | with_reducible refine Gr.trans ?_ (by with_reducible assumption))))).mono ?_; rintro e w1 ⟨rfl, g1⟩; obtain ⟨X1, Y1, c1, f1⟩ := g1.use; have z1 := g1.size; (try simp only [World.size_alloc, World.size_setCell, World.heap_drewN, Nat.add_one_le_iff] at z1); (try have l0 : w.heap.size < w1.heap.size := by omega); (try have l1 : w.heap.size + 1 < w1.heap.size := by omega); (try have l2 : w.heap.size + 1 + 1 < w1.heap.size := by omega)))
    go_ret
    exact ⟨rfl, (by repeat (first | with_reducible exact Gr.refl _ | with_reducible assumption | with_reducible refine Gr.alloc ?_ _ | with_reducible refine Gr.drewN ?_ _ | with_reducible refine Gr.drew ?_ | with_reducible refine Gr.setCell ?_ (by first | (dsimp only; omega) | (simp only [World.size_alloc]; omega) | (with_reducible refine Gr.size ?_; (repeat (first | with_reducible exact Gr.refl _ | with_reducible assumption | with_reducible refine Gr.alloc ?_ _ | with_reducible refine Gr.drewN ?_ _ | with_reducible refine Gr.drew ?_ | with_reducible refine Gr.trans ?_ (by with_reducible assumption))); done)) _ | with_reducible refine Gr.trans ?_ (by with_reducible assumption)))⟩
  · have hdl : decide (60 < l.length) = false := by simpa using hlo
    have n1 := hl.cap
    have n2 := hl.capB
    have H1 := hide (copyRects_any A c l w hl (by omega))
    have H2 := hide (fun (D : Option Addr) (q : Nat) (w' : World) (h : SlR w' D q l) => Outline_any D q l w' h)
    have H3 := hide (fun (w' : World) (g : Gr w w') => rOutline_any A c l w' (hl.gr g))
    have H4 := hide (fun (D : Option Addr) (q : Nat) (w' : World) (g : Gr w w') (h : SlR w' D q l) => sameRects_any D A q c l w' h (hl.gr g))
    clear ht hl
    generalize outV l = L at *
    generalize ceL l = ce at *
    go_enter Tryd.func4, Tryd.ntmps4
    go_wp2_with (go_at_call 5; refine (many_any _ _ _ _).mono ?_; rintro e w1 ⟨rfl, rfl⟩)
    refine H1.out.mono ?_
    rintro e w1 ⟨D, q, rfl, hD, g1⟩
    have HD := hide hD
    have n3 := hD.cap
    have n4 := hD.capB
    clear hD
    go_wp2_with fail
    refine (H2.out D q _ HD.out).mono ?_
    rintro e w2 ⟨O1, d1, rfl, hO1, g2⟩
    have g12 := g1.trans g2
    have HO1 := hide hO1
    clear hO1
    go_wp2_with fail
    refine (H3.out _ g12).mono ?_
    rintro e w3 ⟨O2, d2, rfl, hO2, g3⟩
    have g13 := g12.trans g3
    obtain ⟨c1, c2, r1⟩ := own_rdS (OwnL.gr HO1.out g3)
    obtain ⟨c3, c4, r2⟩ := own_rdS hO2
    have HR1 := hide (fun (w' : World) (g : Gr w3 w') => sameSegs_any O1 O2 d1 d2 L w' (r1.gr g) (r2.gr g) c1 c2)
    have HD3 := hide (HD.out.gr (g2.trans g3))
    have HR2 := hide (fun (w' : World) (g : Gr w3 w') => H4.out D q w' (g13.trans g) (HD3.out.gr g))
    clear r1 r2 hO2 H1 H2 H3 H4 HO1 HD g12
    have hce : (ce == ce) = true := by simp
    go_wp2_with fail
    refine (HR1.out _ (Gr.refl _)).mono ?_
    rintro e w4 ⟨rfl, g4⟩
    go_wp2_with fail
    refine (HR2.out _ g4).mono ?_
    rintro e w5 ⟨rfl, g5⟩
    have g15 := g13.trans (g4.trans g5)
    clear HR1 HR2 HD3
    go_wp2_with (first | (go_at_call 6; refine (known_any _ (HT.out.gr (by repeat (first | with_reducible exact Gr.refl _ | with_reducible assumption | with_reducible refine Gr.alloc ?_ _ | with_reducible refine Gr.drewN ?_ _ | with_reducible refine Gr.drew ?_ | with_reducible refine Gr.setCell ?_ (by first | (dsimp only; omega) | (simp only [World.size_alloc]; omega) | (with_reducible refine Gr.size ?_; (repeat (first | with_reducible exact Gr.refl _ | with_reducible assumption | with_reducible refine Gr.alloc ?_ _ | with_reducible refine Gr.drewN ?_ _ | with_reducible refine Gr.drew ?_ | with_reducible refine Gr.trans ?_ (by with_reducible assumption))); done)) _ | with_reducible refine Gr.trans ?_ (by with_reducible assumption))))).mono ?_; rintro e w1 ⟨rfl, g1⟩; obtain ⟨X1, Y1, c1, f1⟩ := g1.use; have z1 := g1.size; (try simp only [World.size_alloc, World.size_setCell, World.heap_drewN, Nat.add_one_le_iff] at z1); (try have l0 : w.heap.size < w1.heap.size := by omega); (try have l1 : w.heap.size + 1 < w1.heap.size := by omega); (try have l2 : w.heap.size + 1 + 1 < w1.heap.size := by omega)))
    go_ret
    exact ⟨rfl, (by repeat (first | with_reducible exact Gr.refl _ | with_reducible assumption | with_reducible refine Gr.alloc ?_ _ | with_reducible refine Gr.drewN ?_ _ | with_reducible refine Gr.drew ?_ | with_reducible refine Gr.setCell ?_ (by first | (dsimp only; omega) | (simp only [World.size_alloc]; omega) | (with_reducible refine Gr.size ?_; (repeat (first | with_reducible exact Gr.refl _ | with_reducible assumption | with_reducible refine Gr.alloc ?_ _ | with_reducible refine Gr.drewN ?_ _ | with_reducible refine Gr.drew ?_ | with_reducible refine Gr.trans ?_ (by with_reducible assumption))); done)) _ | with_reducible refine Gr.trans ?_ (by with_reducible assumption)))⟩
end RG
end Go.Proofs.YtfbhpeedjphpaaaDoor
