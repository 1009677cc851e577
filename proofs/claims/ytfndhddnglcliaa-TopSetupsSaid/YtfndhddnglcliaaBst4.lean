/-
  Best of the code: all permutations.
-/
import Derived.Test.YtfndhddnglcliaaBst3
import Derived.Laws.EntriesVeiled
set_option linter.unusedVariables false
set_option linter.unusedSimpArgs false
namespace Go.Proofs.Ytfndhddnglcliaa
set_option linter.unusedVariables false
set_option linter.unusedSimpArgs false
open Go Go.ChangeShapes Go.WideShapes Go.ChangeAt Go.RowKit Go.Deep

theorem hmf (fn : Fn) (first cap : Array Value) (w : World) : (Instr.makeFunc fn first cap).run Try.prog w = .ok (.func fn first cap) w := rfl
theorem At1.new (w : World) (v : Value) (t : TypeId) : At1 (w.alloc (.cells #[v] t)) w.heap.size v := ⟨by simp [go_sem], by simp [go_sem]⟩
theorem row_own {w : World} {base R n : Nat} {e : TypeId} (h : w.ownsRow base e 1 (.slice (some ⟨R, 0, none⟩) 0 n) 0 []) (hb : base = R) : w.ownsRow R e 1 (.slice (some ⟨R, 0, none⟩) 0 n) 0 [] := by subst hb; exact h
abbrev vsF (j s l b : Nat) : Value := .func (.func 27) #[] #[pb j, pb s, pb l, pb b]
set_option maxRecDepth 100000 in
set_option maxHeartbeats 2000000 in
theorem permute_any (w0 : World) (bj bs bb bl : Nat) (A : Option Addr) (c : Nat) (js : List Jb) (q : Nat) (w : World) (hord : w0.heap.size ≤ bj ∧ bj < bs ∧ bs < bb ∧ bb < bl) (h1 : Gr w0 w) (cj : At1 w bj (.slice A js.length c)) (cs : At1 w bs (iv q)) (cl : At1 w bl (iv 25)) (cb : At1 w bb (.slice none 0 0))
    (hj : SlJ w0 A c js) (hwd : wdB js = false) (h0 : joE js = 0) (ht : toN js ≤ 24) (hq : 1 ≤ q ∧ q ≤ 3) :
    Calls Try.prog 26 #[iv js.length, vsF bj bs bl bb] w fun e w' => e = .returned (.tuple #[]) ∧ Gr w0 w' ∧ At1 w' bl (iv (bsR js q).2) ∧ ∃ Ab d, At1 w' bb (.slice Ab (bsR js q).1.length d) ∧ SlI w' Ab d (bsR js q).1 := by
  have hj4 := joE_len h0
  have HEX := hide (fun x hx => extend_any w0 x A c js q hx hj hwd h0 ht hq js.length [] ([], 25))
  have HPM := hide (fun o ho => exts_perm js.length hj4 o ho)
  obtain ⟨i0, z0, hi0, hz0, hsz0, hby0, hzs0⟩ := elInt.inf
  have CJ := hide cj
  have CS := hide cs
  have CL := hide cl
  have CB := hide cb
  have hbl := cl.lt
  have hm := hmf
  clear cj cs cl cb hj hwd h0 ht
  go_enter Try.func26, Try.ntmps26
  go_upto_region 2 with (refine wpList_make_own _ rfl _ _ _ rfl _ 3 i0 z0 1 elInt.und hi0 hz0 hsz0 .i64 .i64 _ js.length rfl rfl rfl (by rw [hby0]; omega) (by unfold maxLen; omega) (Nat.le_refl _) ?_; intro w3 hown3 hg3)
  obtain ⟨N, hN⟩ : ∃ N, w.heap.size = N := ⟨_, rfl⟩
  have g23 := Gr.grown (Gr.refl _) hg3 (fun k hk => by cases hk)
  have g3 : Gr w w3 := Gr.trans (Gr.alloc (Gr.alloc (Gr.refl _) _) _) g23
  have An : At1 w3 w.heap.size (iv js.length) := ((At1.new w _ 3).gr (Gr.alloc (Gr.refl _) (.cells #[vsF bj bs bl bb] 72))).gr g23
  have Av : At1 w3 (w.heap.size + 1) (vsF bj bs bl bb) := by
    have := (At1.new (w.alloc (.cells #[iv js.length] 3)) (vsF bj bs bl bb) 72).gr g23
    rwa [World.size_alloc] at this
  have s23 := g23.size
  simp only [World.size_alloc] at s23
  rw [hN] at An Av s23
  simp only [World.size_alloc] at hown3
  rw [hN] at hown3
  have sR : N + 1 + 1 < w3.heap.size := (World.ownsRow.lt hown3 _ rfl).2
  have Hrow := hide hown3
  have AN := hide An
  have AV := hide Av
  simp only [hN]
  clear hown3 hg3 g23 An Av
  obtain ⟨O, hO⟩ : ∃ O, w3.heap.size = O := ⟨_, rfl⟩
  have AO := hide (show At1 (w3.alloc (.cells #[.slice (some ⟨N + 1 + 1, 0, none⟩) 0 js.length] 30)) O (.slice (some ⟨N + 1 + 1, 0, none⟩) 0 js.length) by rw [← hO]; exact At1.new _ _ _)
  have sO : (w3.alloc (.cells #[.slice (some ⟨N + 1 + 1, 0, none⟩) 0 js.length] 30)).heap.size = O + 1 := by rw [World.size_alloc, hO]
  have g4 : Gr w3 (w3.alloc (.cells #[.slice (some ⟨N + 1 + 1, 0, none⟩) 0 js.length] 30)) := Gr.alloc (Gr.refl _) _
  generalize w3.alloc (.cells #[.slice (some ⟨N + 1 + 1, 0, none⟩) 0 js.length] 30) = w4 at *
  simp only [hO]
  go_upto_region 3 with fail
  have an := At1.new w4 .nilFunc 1
  rw [sO] at an
  have g45 : Gr w4 (w4.alloc (.cells #[.nilFunc] 1)) := Gr.alloc (Gr.refl _) _
  try simp only [sO]
  generalize w4.alloc (.cells #[.nilFunc] 1) = w5 at *
  have an1 := an.1
  have an2 := an.2
  have an3 := an.lt
  have AE := hide an
  clear an
  go_upto_region 4 with fail
  obtain ⟨w6, hw6⟩ : ∃ w6, w5.setCell ⟨O + 1, 0, none⟩ (.func (.func 39) #[] #[pb O, pb N, pb (N + 1), pb (O + 1)]) = w6 := ⟨_, rfl⟩
  have k46 : Gr w4 w6 := by rw [← hw6]; exact Gr.setCell g45 (by dsimp only; omega) _
  have k36 : Gr w3 w6 := by rw [← hw6]; exact Gr.setCell (g4.trans g45) (by dsimp only; omega) _
  have k06 : Gr w w6 := by rw [← hw6]; exact Gr.setCell ((g3.trans g4).trans g45) (by dsimp only; omega) _
  have k6 : Gr w0 w6 := h1.trans k06
  have AE6 := hide (show At1 w6 (O + 1) (.func (.func 39) #[] #[pb O, pb N, pb (N + 1), pb (O + 1)]) by rw [← hw6]; exact AE.out.set _ rfl)
  have s6 : O + 1 < w6.heap.size := AE6.out.lt
  have HXO := hide (show Bx.ok ⟨bj, bs, bb, bl, N, N + 1, N + 1 + 1, O, O + 1, O + 2⟩ w0.heap.size from by unfold Bx.ok; simp only; omega)
  have HP6 := hide (show PX w0 ⟨bj, bs, bb, bl, N, N + 1, N + 1 + 1, O, O + 1, O + 2⟩ A c js q [] ([], 25) w6 from
    ⟨k6, by simp only; omega, CJ.out.gr k06, CS.out.gr k06, CL.out.gr k06, ⟨none, 0, CB.out.gr k06, sli_nil _, fun a ha => by cases ha⟩, AN.out.gr k36, AV.out.gr k36, AE6.out, AO.out.gr k46, row_eb Hrow.out (Eb.of_gr (N + 1 + 1 + 1) k36) (by show N + 1 + 1 ≠ N + 1 + 1 + 1; omega)⟩)
  have HE6 := hide (HEX.out _ HXO.out w6 HP6.out (by simp) HPM.out)
  have y1 := AE6.out.1
  rw [hw6]
  clear hw6 an1 an2 an3
  go_wp2_with fail
  refine HE6.out.mono ?_
  rintro e w7 ⟨rfl, h7⟩
  go_wp2
  first | go_end0 | refine bodyPost_ret (results_none rfl _ _ _) rfl ?_
  obtain ⟨Ab, d, h8, h9, _⟩ := h7.cb
  exact ⟨rfl, h7.gr, h7.cl, Ab, d, h8, h9⟩
end Go.Proofs.Ytfndhddnglcliaa
