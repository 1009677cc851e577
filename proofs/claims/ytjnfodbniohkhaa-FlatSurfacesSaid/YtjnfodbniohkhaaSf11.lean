/-
  FlatSurfaces: the law.
-/
import Derived.Test.YtjnfodbniohkhaaSf7
import Derived.Test.YtjnfodbniohkhaaSf10
import Derived.Test.YtjnfodbniohkhaaSfo
import Derived.Test.YtjnfodbniohkhaaRat5
set_option linter.unusedVariables false
set_option linter.unusedSimpArgs false
namespace Go.Proofs.Ytjnfodbniohkhaa
set_option linter.unusedVariables false
set_option linter.unusedSimpArgs false
open Go Go.ChangeShapes Go.WideShapes Go.ChangeAt Go.RowKit Go.Deep

open RG in
set_option maxRecDepth 100000 in
theorem surfaces_walk (A1 A2 A3 A4 : Option Addr) (c1 c2 c3 c4 : Nat) (F : Pat) (w : World) (hF : PatW w A1 c1 A2 c2 A3 c3 A4 c4 F) :
    Calls Try.prog 4 #[ptv A1 F.r.length c1 A2 F.c.length c2 A3 F.f.length c3 A4 F.b.length c4] w fun x w' => x = .returned (.bool true) ∧ Gr w w' := by
  have HL := hide (fun (w' : World) => Long_any A1 A2 A3 A4 c1 c2 c3 c4 F w' hF.r.capB hF.c.capB hF.f.capB hF.b.capB hF.r.cap hF.c.cap hF.f.cap hF.b.cap)
  have HK := hide (fun (w' : World) => known3_any w')
  cases hb : lgB F with
  | true =>
    rw [hb] at HL
    clear hb hF
    go_enter Try.func4, Try.ntmps4
    go_wp2_with fail
    refine (HL.out _).mono ?_
    rintro e w1 ⟨rfl, g1⟩
    have gw1 := (Gr.alloc (Gr.refl _) _).trans g1
    go_wp2_with fail
    refine (HK.out _).mono ?_
    rintro e w2 ⟨rfl, g2⟩
    go_wp2_with fail
    go_ret
    exact ⟨rfl, gw1.trans g2⟩
  | false =>
    rw [hb] at HL
    have H1 := hide (fun (w' : World) (g : Gr w w') => Surface_any A1 A2 A3 A4 c1 c2 c3 c4 F w' (hF.gr g))
    have H2 := hide (fun (w' : World) (g : Gr w w') => (show sfV2 F = sfV F from rfl) ▸ rSurface_any A1 A2 A3 A4 c1 c2 c3 c4 F w' (hF.gr g))
    generalize sfV F = V at *
    generalize chE F = E at *
    clear hb hF
    go_enter Try.func4, Try.ntmps4
    go_wp2_with fail
    refine (HL.out _).mono ?_
    rintro e w1 ⟨rfl, g1⟩
    obtain ⟨s1, b0, b1, b2, b3⟩ := box4 g1
    have gw1 := (Gr.alloc (Gr.refl _) _).trans g1
    clear g1 HL
    go_wp2_with fail
    refine (H1.out _ gw1).mono ?_
    rintro e w2 ⟨rfl, g2⟩
    have gw2 := gw1.trans g2
    have b0 := (g2.cell _ _ s1).trans b0
    have b1 := (g2.cell _ _ s1).trans b1
    have b2 := (g2.cell _ _ s1).trans b2
    have b3 := (g2.cell _ _ s1).trans b3
    clear g2 H1
    go_wp2_with fail
    refine (H2.out _ gw2).mono ?_
    rintro e w3 ⟨rfl, g3⟩
    have gw3 := gw2.trans g3
    clear g3 H2
    go_wp2_with fail
    refine (HK.out _).mono ?_
    rintro e w4 ⟨rfl, g4⟩
    go_wp2_with fail
    go_ret
    exact ⟨rfl, gw3.trans g4⟩
end Go.Proofs.Ytjnfodbniohkhaa
