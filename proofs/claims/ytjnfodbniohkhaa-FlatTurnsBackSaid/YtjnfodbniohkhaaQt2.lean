/-
  Flat patterns turned: rects and bounds of the code.
-/
import Derived.Test.YtjnfodbniohkhaaQt1
import Derived.Test.YtjnfodbniohkhaaSet
set_option linter.unusedVariables false
set_option linter.unusedSimpArgs false
namespace Go.Proofs.Ytjnfodbniohkhaa
set_option linter.unusedVariables false
set_option linter.unusedSimpArgs false
open Go Go.ChangeShapes Go.WideShapes Go.ChangeAt Go.RowKit Go.Deep

namespace RG
theorem map_take1 {α β : Type} (f : α → β) {l : List α} {k : Nat} {r : α} (h : l[k]? = some r) : (l.take (k + 1)).map f = (l.take k).map f ++ [f r] := by
  rw [List.take_add_one, h]
  simp
set_option maxHeartbeats 2000000 in
set_option maxRecDepth 100000 in
theorem rects_any (x y : Int) (t : Nat) (A : Option Addr) (c : Nat) (l : List Rc) (w : World) (hl : SlR w A c l) (hx : -10000000 ≤ x ∧ x ≤ 10000000) (hy : -10000000 ≤ y ∧ y ≤ 10000000) (hv : ∀ r ∈ l, InM 1048576 r) (ht : t ≤ 1000) (hn : l.length ≤ 400) :
    Calls Try.prog 33 #[fmv x y (t : Int), .slice A l.length c] w fun e w' => ∃ (D : Option Addr) (q : Nat), e = .returned (.slice D (l.map (rcM x y t)).length q) ∧ SlR w' D q (l.map (rcM x y t)) ∧ (∀ a, D = some a → w.heap.size ≤ a.block) ∧ Gr w w' := by
  have HL := hide hl
  have n1 := hl.cap
  have n2 := hl.capB
  have HM := hide (fun (k : Nat) (r : Rc) (h : l[k]? = some r) => map_take1 (rcM x y t) h)
  have HR := hide (fun (r : Rc) (hr : r ∈ l) (w' : World) => by
    have := hv r hr
    have m1 := this.w
    have m2 := this.h
    have m3 := this.x
    have m4 := this.y
    have m5 := this.x'
    have m6 := this.y'
    exact rect_any x y t r w' hx hy (by omega) (by omega) (by omega) (by omega) ht)
  clear hl hv hx hy
  have g0 : Gr w (w.alloc (.cells #[iv x, iv y, iv (t : Int)] 45)) := Gr.alloc (Gr.refl _) _
  go_enter Try.func33, Try.ntmps33
  go_wp2_with fail
  go_loopw [5, 10] (fun xv i wr => ∃ (k : Nat) (O : List Rc) (A1 : Option Addr) (d1 : Nat), k ≤ l.length ∧ i = iv k ∧ xv = .slice A1 O.length d1 ∧ Gr (w.alloc (.cells #[iv x, iv y, iv (t : Int)] 45)) wr ∧ Hid (OwnL wr (w.heap.size + 1) 55 4 rcL (.slice A1 O.length d1) O) ∧ Hid (O = (l.take k).map (rcM x y t)) ∧ O.length ≤ k) (fun _ i _ => l.length - (intOf i).toNat)
  case atStart => exact ⟨0, [], none, 0, by omega, rfl, rfl, Gr.refl _, own_nil _ _ _ _ _, rfl, by simp⟩
  case round =>
    obtain ⟨k, O, A1, d1, hk, rfl, rfl, g, HO, HE, hO⟩ := hrel
    obtain ⟨s0, m0, m1, m2⟩ := box3 g
    by_cases hkl : k < l.length
    · obtain ⟨r, hr⟩ : ∃ r, l[k]? = some r := ⟨_, List.getElem?_eq_getElem hkl⟩
      obtain ⟨b2, o2, hA, y0, y1, y2, y3⟩ := (HL.out.gr (g0.trans g)).at_ hr
      have hk0 : (0 : Int) ≤ (k : Int) := by omega
      have hk1 : (k : Int) < (l.length : Int) := by omega
      have sg := g.size
      simp only [World.size_alloc] at sg
      have HN := hide (HM.out k r hr)
      have HC := hide (fun w' => HR.out r (List.mem_of_getElem? hr) w')
      subst hA
      clear hr
      generalize rcM x y t r = r2 at *
      obtain ⟨O2, hO2⟩ : ∃ O2, O ++ [r2] = O2 := ⟨_, rfl⟩
      have HO2 := hide hO2
      have HE2 := hide (show O2 = (l.take (k + 1)).map (rcM x y t) by rw [HN.out, ← HE.out]; exact hO2.symm)
      have hO2e : O2.length ≤ k + 1 := by rw [← hO2]; simp; omega
      clear hO2 HE HN
      go_wp2_with fail
      refine (HC.out _).mono ?_
      rintro e w1 ⟨rfl, g1⟩
      have z1 := g1.size
      simp only [World.size_alloc] at z1
      have gk := (Gr.alloc (Gr.refl wr) (.cells #[iv r.x, iv r.y, iv r.w, iv r.h] 55)).trans g1
      clear HC
      go_wp2_with (refine wpList_appZ rfl _ _ _ rfl rcL (w.heap.size + 1) 55 4 32 elRect (by decide) O [r2] O2 HO2.out _ rfl (HO.out.gr (gk.trans (Gr.alloc (Gr.refl _) _))) ⟨w1.heap.size, 0, none⟩ 1 1 rfl rfl (by decide) (fun _ => rfl) (newsN _ #[iv r2.x, iv r2.y, iv r2.w, iv r2.h] 55 _ (by simp)) (one_all [r2]) (by omega) (by decide) (by simp only [World.size_alloc]; omega) ?_; intro gg cap1 w8 hO8 hG8 hgw8 hat8 hlt8)
      have g8 := hG8 _ ((g.trans gk).trans (Gr.alloc (Gr.refl _) _)) (by simp only [World.size_alloc]; exact Nat.le_refl _)
      have HO8 := hide hO8
      clear hO8 hG8 hgw8 hat8 HO
      go_roundw
      case rel => exact ⟨k + 1, O2, some ⟨gg, 0, none⟩, cap1, by omega, by go_num, rfl, g8, HO8, HE2, by omega⟩
      case measure => simp only [intOf]; omega
    · obtain rfl : k = l.length := by omega
      rw [List.take_length] at HE
      have hk1 : ¬ ((l.length : Int) < (l.length : Int)) := by omega
      have hE := HE.out
      subst hE
      clear HE HM
      go_wp2
      go_ret
      exact ⟨A1, d1, rfl, own_slr HO.out, fun a ha => Nat.le_of_succ_le (own_ge HO.out a ha), g0.trans g⟩
/-- the bounds so far: least x and y, most x and y -/
def bnV : List Rc → Int × Int × Int × Int → Int × Int × Int × Int
  | [], s => s
  | r :: l, s => bnV l (min s.1 r.x, min s.2.1 r.y, max s.2.2.1 (r.x + r.w), max s.2.2.2 (r.y + r.h))
theorem bnV_snoc : ∀ (l : List Rc) (s : Int × Int × Int × Int) (r : Rc), bnV (l ++ [r]) s = (min (bnV l s).1 r.x, min (bnV l s).2.1 r.y, max (bnV l s).2.2.1 (r.x + r.w), max (bnV l s).2.2.2 (r.y + r.h))
  | [], s, r => rfl
  | q :: l, s, r => bnV_snoc l _ r
theorem bnV_take {l : List Rc} {k : Nat} {r : Rc} (h : l[k]? = some r) (s : Int × Int × Int × Int) : bnV (l.take (k + 1)) s = (min (bnV (l.take k) s).1 r.x, min (bnV (l.take k) s).2.1 r.y, max (bnV (l.take k) s).2.2.1 (r.x + r.w), max (bnV (l.take k) s).2.2.2 (r.y + r.h)) := by
  rw [List.take_add_one, h]
  exact bnV_snoc _ _ r
theorem bnV_bd {m : Int} : ∀ (l : List Rc) (s : Int × Int × Int × Int), (∀ r ∈ l, -m ≤ r.x ∧ r.x ≤ m ∧ -m ≤ r.y ∧ r.y ≤ m ∧ -m ≤ r.x + r.w ∧ r.x + r.w ≤ m ∧ -m ≤ r.y + r.h ∧ r.y + r.h ≤ m) → (-m ≤ s.1 ∧ s.1 ≤ m) ∧ (-m ≤ s.2.1 ∧ s.2.1 ≤ m) ∧ (-m ≤ s.2.2.1 ∧ s.2.2.1 ≤ m) ∧ (-m ≤ s.2.2.2 ∧ s.2.2.2 ≤ m) →
    (-m ≤ (bnV l s).1 ∧ (bnV l s).1 ≤ m) ∧ (-m ≤ (bnV l s).2.1 ∧ (bnV l s).2.1 ≤ m) ∧ (-m ≤ (bnV l s).2.2.1 ∧ (bnV l s).2.2.1 ≤ m) ∧ (-m ≤ (bnV l s).2.2.2 ∧ (bnV l s).2.2.2 ≤ m)
  | [], s, _, hs => hs
  | r :: l, s, hv, hs => by
    have := hv r List.mem_cons_self
    exact bnV_bd l _ (fun q hq => hv q (List.mem_cons_of_mem _ hq)) (by dsimp only; omega)
/-- the bounds of a list whose first element is given -/
def bnW (l : List Rc) (r : Rc) : Int × Int × Int × Int := bnV l (r.x, r.y, r.x, r.y)
/-- the bounds of a list as a rectangle -/
def bnR (l : List Rc) : Rc := match l with
  | [] => ⟨0, 0, 0, 0⟩
  | r :: q => ⟨(bnW (r :: q) r).1, (bnW (r :: q) r).2.1, (bnW (r :: q) r).2.2.1 - (bnW (r :: q) r).1, (bnW (r :: q) r).2.2.2 - (bnW (r :: q) r).2.1⟩
set_option maxHeartbeats 4000000 in
set_option maxRecDepth 100000 in
theorem bounds_any (A : Option Addr) (c : Nat) (l : List Rc) (w : World) (hl : SlR w A c l) (hv : ∀ r ∈ l, -10000000 ≤ r.x ∧ r.x ≤ 10000000 ∧ -10000000 ≤ r.y ∧ r.y ≤ 10000000 ∧ -10000000 ≤ r.x + r.w ∧ r.x + r.w ≤ 10000000 ∧ -10000000 ≤ r.y + r.h ∧ r.y + r.h ≤ 10000000) (hn : l.length ≤ 400) (h0 : 0 < l.length) :
    Calls Try.prog 32 #[.slice A l.length c] w fun e w' => e = .returned (rcv (bnR l)) ∧ Gr w w' := by
  obtain ⟨r0, hr0⟩ : ∃ r, l[0]? = some r := ⟨_, List.getElem?_eq_getElem h0⟩
  have HQ := hide (show bnR l = ⟨(bnW l r0).1, (bnW l r0).2.1, (bnW l r0).2.2.1 - (bnW l r0).1, (bnW l r0).2.2.2 - (bnW l r0).2.1⟩ by
    match l, hr0 with
    | r :: q, h =>
      obtain rfl : r = r0 := by simpa using h
      rfl)
  have hb0 := hv r0 (List.mem_of_getElem? hr0)
  have HB := hide (fun (k : Nat) => bnV_bd (m := 10000000) (l.take k) (r0.x, r0.y, r0.x, r0.y) (fun r hr => hv r (List.mem_of_mem_take hr)) ⟨⟨hb0.1, hb0.2.1⟩, ⟨hb0.2.2.1, hb0.2.2.2.1⟩, ⟨hb0.1, hb0.2.1⟩, ⟨hb0.2.2.1, hb0.2.2.2.1⟩⟩)
  have HN := hide (fun (k : Nat) (r : Rc) (h : l[k]? = some r) => bnV_take h (r0.x, r0.y, r0.x, r0.y))
  have HW := hide (show bnW l r0 = bnV (l.take l.length) (r0.x, r0.y, r0.x, r0.y) by rw [List.take_length]; rfl)
  have HL := hide hl
  have HV := hide hv
  have n1 := hl.cap
  have n2 := hl.capB
  obtain ⟨b0, o0, hA0, y0, y1, y2, y3⟩ := hl.at_ hr0
  rw [Nat.zero_mul, Nat.add_zero] at y0 y1 y2 y3
  have hlt : b0 < w.heap.size := cell_lt (by rw [y0]; rfl)
  have h00 : (0 : Int) < (l.length : Int) := by omega
  subst hA0
  clear hl hv hb0 hr0 y2 y3
  go_enter Try.func32, Try.ntmps32
  go_wp2_with fail
  go_region
  go_wp2_with fail
  have hMs := Made.new (w.alloc (.cells #[iv 0, iv 0, iv 0, iv 0] 55)) #[iv r0.x, iv r0.y, iv r0.x, iv r0.y] 47
  rw [World.size_alloc] at hMs
  have HMs := hide hMs
  clear hMs
  have HMr := hide ((Made.new w #[iv 0, iv 0, iv 0, iv 0] 55).gr (Gr.alloc (Gr.refl _) (.cells #[iv r0.x, iv r0.y, iv r0.x, iv r0.y] 47)))
  obtain ⟨z0, hz0⟩ : ∃ z, (r0.x, r0.y, r0.x, r0.y) = z := ⟨_, rfl⟩
  rw [hz0] at HB HN HW
  have HZ0 := hide hz0
  clear hz0
  go_loopw [25] (fun i wr => ∃ k : Nat, k ≤ l.length ∧ i = iv k ∧ Gr w wr ∧ Hid (Made wr w.heap.size #[iv 0, iv 0, iv 0, iv 0]) ∧ Hid (Made wr (w.heap.size + 1) #[iv (bnV (l.take k) z0).1, iv (bnV (l.take k) z0).2.1, iv (bnV (l.take k) z0).2.2.1, iv (bnV (l.take k) z0).2.2.2])) (fun i _ => l.length - (intOf i).toNat)
  case atStart => exact ⟨0, by omega, rfl, Gr.drew (Gr.alloc (Gr.alloc (Gr.refl _) _) _), HMr.out.gr (Gr.drew (Gr.refl _)), by rw [List.take_zero, ← HZ0.out]; exact HMs.out.gr (Gr.drew (Gr.refl _))⟩
  case round =>
    obtain ⟨k, hk, rfl, g, HR, HS⟩ := hrel
    have c0 := HS.out.2.1 0
    have c1 := HS.out.2.1 1
    have c2 := HS.out.2.1 2
    have c3 := HS.out.2.1 3
    have f0 : wr.frozen? ⟨w.heap.size + 1, 0, none⟩ = false := HS.out.2.2 0
    have f1 : wr.frozen? ⟨w.heap.size + 1, 1, none⟩ = false := HS.out.2.2 1
    have f2 : wr.frozen? ⟨w.heap.size + 1, 2, none⟩ = false := HS.out.2.2 2
    have f3 : wr.frozen? ⟨w.heap.size + 1, 3, none⟩ = false := HS.out.2.2 3
    have hB1 := HS.out.1
    have hB0 := HR.out.1
    obtain ⟨⟨b1, b2⟩, ⟨b3, b4⟩, ⟨b5, b6⟩, b7, b8⟩ := HB.out k
    by_cases hkl : k < l.length
    · obtain ⟨r, hr⟩ : ∃ r, l[k]? = some r := ⟨_, List.getElem?_eq_getElem hkl⟩
      obtain ⟨b9, o9, hA, y0, y1, y2, y3⟩ := (HL.out.gr g).at_ hr
      injection hA with hA
      injection hA with e1 e2
      subst e1 e2
      have hb := HV.out r (List.mem_of_getElem? hr)
      have hk0 : (0 : Int) ≤ (k : Int) := by omega
      have hk1 : (k : Int) < (l.length : Int) := by omega
      have s1 : IntKind.i64.wrap (r.x + r.w) = r.x + r.w := IntWalk.i64_in _ (by omega)
      have s2 : IntKind.i64.wrap (r.y + r.h) = r.y + r.h := IntWalk.i64_in _ (by omega)
      have s3 : IntKind.i64.wrap ((k : Int) + 1) = (k : Int) + 1 := IntWalk.i64_in _ (by omega)
      have HNk := hide (HN.out k r hr)
      generalize bnV (l.take k) z0 = z at *
      clear hr hb b1 b2 b3 b4 b5 b6 b7 b8
      have hbk : b0 < wr.heap.size := by have := g.size; omega
      obtain ⟨z1, z2, z3, z4⟩ := z
      dsimp only at c0 c1 c2 c3 HNk HS
      have c0 : wr.cell? ⟨w.heap.size + 1, 0, none⟩ = some (iv z1) := c0
      have c1 : wr.cell? ⟨w.heap.size + 1, 1, none⟩ = some (iv z2) := c1
      have c2 : wr.cell? ⟨w.heap.size + 1, 2, none⟩ = some (iv z3) := c2
      have c3 : wr.cell? ⟨w.heap.size + 1, 3, none⟩ = some (iv z4) := c3
      go_wp2
      go_roundw
      case rel =>
        refine ⟨k + 1, by omega, by go_num, ?_, ?_, ?_⟩
        · exact Gr.alloc (gr_setL (w0 := w) (B := w.heap.size + 1) (o := 0) (w := wr) (Nat.le_succ _) (vs := [iv (min z1 r.x), iv (min z2 r.y), iv (max z3 (r.x + r.w)), iv (max z4 (r.y + r.h))]) g) _
        · exact (Made.oth (B := w.heap.size + 1) (o := 0) (w := wr) (Nat.ne_of_lt (Nat.lt_succ_self _)) (vs := [iv (min z1 r.x), iv (min z2 r.y), iv (max z3 (r.x + r.w)), iv (max z4 (r.y + r.h))]) HR.out).gr (Gr.alloc (Gr.refl _) _)
        · rw [HNk.out]
          exact (HS.out.setL [iv (min z1 r.x), iv (min z2 r.y), iv (max z3 (r.x + r.w)), iv (max z4 (r.y + r.h))] rfl).gr (Gr.alloc (Gr.refl _) _)
      case measure => simp only [intOf]; omega
    · obtain rfl : k = l.length := by omega
      rw [← HW.out] at c0 c1 c2 c3 b1 b2 b3 b4 b5 b6 b7 b8
      have hk1 : ¬ ((l.length : Int) < (l.length : Int)) := by omega
      generalize bnW l r0 = z at *
      obtain ⟨z1, z2, z3, z4⟩ := z
      dsimp only at c0 c1 c2 c3 b1 b2 b3 b4 b5 b6 b7 b8 HQ
      have c0 : wr.cell? ⟨w.heap.size + 1, 0, none⟩ = some (iv z1) := c0
      have c1 : wr.cell? ⟨w.heap.size + 1, 1, none⟩ = some (iv z2) := c1
      have c2 : wr.cell? ⟨w.heap.size + 1, 2, none⟩ = some (iv z3) := c2
      have c3 : wr.cell? ⟨w.heap.size + 1, 3, none⟩ = some (iv z4) := c3
      have p0 : wr.frozen? ⟨w.heap.size, 0, none⟩ = false := HR.out.2.2 0
      have p1 : wr.frozen? ⟨w.heap.size, 1, none⟩ = false := HR.out.2.2 1
      have p2 : wr.frozen? ⟨w.heap.size, 2, none⟩ = false := HR.out.2.2 2
      have p3 : wr.frozen? ⟨w.heap.size, 3, none⟩ = false := HR.out.2.2 3
      have d0 : wr.cell? ⟨w.heap.size, 0, none⟩ = some (iv 0) := HR.out.2.1 0
      have d1 : wr.cell? ⟨w.heap.size, 1, none⟩ = some (iv 0) := HR.out.2.1 1
      have d2 : wr.cell? ⟨w.heap.size, 2, none⟩ = some (iv 0) := HR.out.2.1 2
      have d3 : wr.cell? ⟨w.heap.size, 3, none⟩ = some (iv 0) := HR.out.2.1 3
      have s1 : IntKind.i64.wrap (z3 - z1) = z3 - z1 := IntWalk.i64_in _ (by omega)
      have s2 : IntKind.i64.wrap (z4 - z2) = z4 - z2 := IntWalk.i64_in _ (by omega)
      clear b1 b2 b3 b4 b5 b6 b7 b8 HB HN
      go_wp2
      refine bodyPost_ret (v := rcv ⟨z1, z2, z3 - z1, z4 - z2⟩) (by simp [results, Try.results32, go_sem, *]) rfl ⟨by rw [HQ.out], ?_⟩
      exact gr_setL (B := w.heap.size) (Nat.le_refl _) (vs := [iv z1, iv z2, iv (z3 - z1), iv (z4 - z2)]) g
end RG
end Go.Proofs.Ytjnfodbniohkhaa
