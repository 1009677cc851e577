/-
  Nests: a placement that is not right is refused, of the code (add).
  Nests: a placement of no piece or sheet, or where the piece can't be put, is refused, of the code (add).
  Nests: which placement is wrong, plain; Put of the code and of the reference at any placement.
  Nests: Check of the code.
-/
import Derived.Test.YtddhaiaapomdjaaGreatGIr
import Derived.Test.YtddhaiaapomdjaaGreatGPr
import Derived.Test.YtddhaiaapomdjaaGreatGJr
set_option linter.unusedVariables false
set_option linter.unusedSimpArgs false
namespace Go.Proofs.YtddhaiaapomdjaaGreat
set_option linter.unusedVariables false
set_option linter.unusedSimpArgs false
open Go Go.ChangeShapes Go.WideShapes Go.ChangeAt Go.RowKit Go.Deep

namespace RG
end RG
end Go.Proofs.YtddhaiaapomdjaaGreat
set_option linter.unusedVariables false
set_option linter.unusedSimpArgs false
namespace Go.Proofs.YtddhaiaapomdjaaGreat
set_option linter.unusedVariables false
set_option linter.unusedSimpArgs false
open Go Go.ChangeShapes Go.WideShapes Go.ChangeAt Go.RowKit Go.Deep

namespace RG
end RG
end Go.Proofs.YtddhaiaapomdjaaGreat
set_option linter.unusedVariables false
set_option linter.unusedSimpArgs false
namespace Go.Proofs.YtddhaiaapomdjaaGreat
set_option linter.unusedVariables false
set_option linter.unusedSimpArgs false
open Go Go.ChangeShapes Go.WideShapes Go.ChangeAt Go.RowKit Go.Deep

namespace RG
/-- placements, where they lie -/
structure SlA (w : World) (A : Option Addr) (c : Nat) (l : List At6) : Prop where
  rd : RdL w 5 at6L A l
  cap : l.length ≤ c
  capB : c ≤ 9223372036854775807
theorem SlA.gr {w w' : World} {A : Option Addr} {c : Nat} {l : List At6} (h : SlA w A c l) (g : Gr w w') : SlA w' A c l := ⟨h.rd.gr g, h.cap, h.capB⟩
theorem SlA.at_ {w : World} {A : Option Addr} {c : Nat} {l : List At6} (h : SlA w A c l) {i : Nat} {z : At6} (hi : l[i]? = some z) : ∃ b off, A = some ⟨b, off, none⟩ ∧ w.cell? ⟨b, off + i * 5, none⟩ = some (iv z.pi) ∧ w.cell? ⟨b, off + i * 5 + 1, none⟩ = some (iv z.sh) ∧ w.cell? ⟨b, off + i * 5 + 2, none⟩ = some (iv z.x) ∧ w.cell? ⟨b, off + i * 5 + 3, none⟩ = some (iv z.y) ∧ w.cell? ⟨b, off + i * 5 + 4, none⟩ = some (iv z.t) := by
  obtain ⟨b, off, e, h0, h1, h2, h3, h4, _⟩ := h.rd i z hi
  exact ⟨b, off, e, h0, h1, h2, h3, h4⟩
def mRl (p : Pc) (z : At6) : List Rc := (tnL p.r z.t.toNat p.r).map (mvR z.x z.y)
def mCl (p : Pc) (z : At6) : List Rc := (tnL p.r z.t.toNat p.c).map (mvR z.x z.y)
def mFl (p : Pc) (z : At6) : List Rc := (tnL p.r z.t.toNat p.f).map (mvR z.x z.y)
/-- a piece can be put -/
def puB (p : Pc) (z : At6) : Bool := wiB z.t 0 3 && ((wiB z.x (-1048576) 1048576 && wiB z.y (-1048576) 1048576) && (vaB (mRl p z) && (vaB (mCl p z) && vaB (mFl p z))))
theorem puB_iff {p : Pc} {z : At6} : puB p z = true ↔ wiB z.t 0 3 = true ∧ (wiB z.x (-1048576) 1048576 && wiB z.y (-1048576) 1048576) = true ∧ (vaB (mRl p z) && (vaB (mCl p z) && vaB (mFl p z))) = true := by
  unfold puB
  rw [Bool.and_eq_true, Bool.and_eq_true]
def eaR (Ps : List Pc) (a : At6) : List Rc := match Ps[a.pi.toNat]? with
  | some p => mRl p a
  | none => []
/-- what lies on a sheet -/
def takL (Ps : List Pc) (L : List At6) (j : Int) : List (List Rc) := (L.filter fun a => a.sh == j).map (eaR Ps)
/-- where it stops -/
structure CkA (l : List At6) (one : List At6 → At6 → Int) (K : Nat) (E : Int) : Prop where
  le : K ≤ l.length
  zero : ∀ m z, m < K → l[m]? = some z → one (l.take m) z = 0
  stop : (K = l.length ∧ E = 0) ∨ ∃ z, l[K]? = some z ∧ one (l.take K) z = E ∧ E ≠ 0
theorem CkA.step {l : List At6} {one : List At6 → At6 → Int} {K : Nat} {E : Int} (h : CkA l one K E) {k : Nat} {z : At6} (hk : k ≤ K) (hz : l[k]? = some z) : (k < K ∧ one (l.take k) z = 0) ∨ (k = K ∧ one (l.take k) z = E ∧ E ≠ 0) := by
  rcases Nat.lt_or_ge k K with q | q
  · exact .inl ⟨q, h.zero k z q hz⟩
  · obtain rfl : k = K := by omega
    rcases h.stop with ⟨a, _⟩ | ⟨z', a, b, c⟩
    · rw [List.getElem?_eq_none (by omega)] at hz
      cases hz
    · rw [a] at hz
      obtain rfl := Option.some.inj hz
      exact .inr ⟨rfl, b, c⟩
end RG
end Go.Proofs.YtddhaiaapomdjaaGreat
set_option linter.unusedVariables false
set_option linter.unusedSimpArgs false
namespace Go.Proofs.YtddhaiaapomdjaaGreat
set_option linter.unusedVariables false
set_option linter.unusedSimpArgs false
open Go Go.ChangeShapes Go.WideShapes Go.ChangeAt Go.RowKit Go.Deep

namespace RG
/-- what stands while placements are checked -/
def NcI (S : List ShT) (Ps : List Pc) (w0 wr : World) (lo P T B : Nat) (cs : Array Value) (L : List At6) : Prop := ∃ (pl : List Bool) (tk : List Tk), NsI w0 wr lo P T B cs pl tk (.slice none 0 0) (.slice none 0 0) [] [] ∧ (∀ i : Nat, i < Ps.length → pl[i]? = some (L.any fun a => a.pi == (i : Int))) ∧ tk.length = S.length ∧ ∀ (j : Nat) (z : Tk), tk[j]? = some z → z.L.map RS.l = takL Ps L j
theorem NcI.grow {S : List ShT} {Ps : List Pc} {w0 wr w' : World} {lo P T B : Nat} {cs : Array Value} {L : List At6} (h : NcI S Ps w0 wr lo P T B cs L) (g : Gr wr w') : NcI S Ps w0 w' lo P T B cs L := by
  obtain ⟨pl, tk, a, b⟩ := h
  exact ⟨pl, tk, a.grow g, b⟩
theorem NcI.gr {S : List ShT} {Ps : List Pc} {w0 wr : World} {lo P T B : Nat} {cs : Array Value} {L : List At6} (h : NcI S Ps w0 wr lo P T B cs L) : Gr w0 wr := by
  obtain ⟨pl, tk, a, b⟩ := h
  exact a.gr
theorem NcI.mb {S : List ShT} {Ps : List Pc} {w0 wr : World} {lo P T B : Nat} {cs : Array Value} {L : List At6} (h : NcI S Ps w0 wr lo P T B cs L) : Made wr B cs := by
  obtain ⟨pl, tk, a, b⟩ := h
  exact a.mb
end RG
end Go.Proofs.YtddhaiaapomdjaaGreat
