/- The frame of every statement of this seat: what the listed variable gives, and how arguments are opened. -/
import Derived.Test.YticoklfgmflidaaDoorCards
import Derived.Test.YticoklfgmflidaaDoorTie
import Derived.Test.YticoklfgmflidaaDoorAi
import Derived.Deep.DeepHandedRow
import Derived.Lib.LaidTab
import Derived.Lib.SmallJoins
import Derived.ProofKit
import Derived.OpenShut
import Derived.Lay
import Derived.MakeChecks
import Derived.Deep.SlicePairs
import Derived.Carry
namespace Go.Proofs.YticoklfgmflidaaDoor
open Go.ChangeShapes Go.WideShapes Go.ChangeAt Go.RowKit Go.Deep

theorem own : ownKnob Tryd.prog.godebug = none := by kernel_rfl
theorem laidOut : laidOutB Tryd.prog = true := by kernel_rfl
theorem cellsP : Tryd.prog.cellsOf 25 = 2 := by kernel_rfl
theorem cellsB : Tryd.prog.cellsOf 54 = 4 := by kernel_rfl
theorem cellsI : Tryd.prog.cellsOf 3 = 1 := by kernel_rfl
theorem cellsM : Tryd.prog.cellsOf 23 = 6 := by kernel_rfl
theorem cellsA : Tryd.prog.cellsOf 60 = 4 := by kernel_rfl
theorem cellsZ : Tryd.prog.cellsOf 47 = 5 := by kernel_rfl
theorem cellsQ : Tryd.prog.cellsOf 74 = 24 := by kernel_rfl
theorem i64_of_wf {x : Int} (h : (Lit.int .i64 x).wf = true) : I64 x := by
  unfold I64; simpa [Lit.wf, IntKind.min, IntKind.max, IntKind.signed, IntKind.bits] using h
theorem list4 {α : Type} {l : List α} (h : l.length = 4) : ∃ c0 c1 c2 c3, l = [c0, c1, c2, c3] := by
  match l, h with
  | [c0, c1, c2, c3], _ => exact ⟨c0, c1, c2, c3, rfl⟩
theorem list5 {α : Type} {l : List α} (h : l.length = 5) : ∃ c0 c1 c2 c3 c4, l = [c0, c1, c2, c3, c4] := by
  match l, h with
  | [c0, c1, c2, c3, c4], _ => exact ⟨c0, c1, c2, c3, c4, rfl⟩
theorem list6 {α : Type} {l : List α} (h : l.length = 6) : ∃ c0 c1 c2 c3 c4 c5, l = [c0, c1, c2, c3, c4, c5] := by
  match l, h with
  | [c0, c1, c2, c3, c4, c5], _ => exact ⟨c0, c1, c2, c3, c4, c5, rfl⟩
theorem okWide_row {P : Program} {w : World} {r : Reach} {base : Nat} {t e : TypeId} {n : Nat} {v : Value} (ht : P.underlying t = some (.array n e)) (h : Value.okWide P w r base t v) : ∃ cs, v = .agg cs ∧ cs.size = P.cellsOf t := by
  simp only [Value.okWide, ht] at h
  obtain ⟨cs, h1, h2, _⟩ := h
  exact ⟨cs, h1, h2⟩
section
variable {H : Type} {enc : TypeId × Value → H} {W : World} {base b0 : Nat} {spare : Nat → Bool} {held : Bool}
/-- A cell of a struct or of an array that is an int. -/
theorem int_at {m : Nat} {o : Option (DataW H × List MemPlace)} {c : Value} (h : DataW.trod enc Tryd.prog W base spare held m 3 [c] = o) (ho : o ≠ none) : ∃ z : Int, c = .int .i64 z ∧ (Lit.int .i64 z).wf = true ∧ o = some (.lit (.int .i64 z), []) := by
  obtain ⟨x, rfl⟩ := Option.ne_none_iff_exists'.1 ho
  obtain ⟨z, hz, he, hw⟩ := DataW.trod_int Tryd.underlying3 h
  exact ⟨z, by simpa using hz, hw, by rw [he]⟩
/-- A matrix, opened. -/
theorem mat_open {m : Nat} {cs : List Value} {x : DataW H × List MemPlace} (h : DataW.trod enc Tryd.prog W base spare held m 23 cs = some x) :
    ∃ M : Mx, cs = (six M).toList ∧ x.1 = .agg [.lit (.int .i64 M.a), .lit (.int .i64 M.b), .lit (.int .i64 M.c), .lit (.int .i64 M.d), .lit (.int .i64 M.e), .lit (.int .i64 M.f)] := by
  obtain ⟨xs, k, _, hx, hl, hlen, hf⟩ := DataW.trod_struct Tryd.underlying23 h
  rw [cellsM] at hl
  obtain ⟨c0, c1, c2, c3, c4, c5, rfl⟩ := list6 hl
  obtain ⟨y0, y1, y2, y3, y4, y5, rfl⟩ := list6 (l := xs) (by rw [hlen]; rfl)
  obtain ⟨z0, rfl, _, e0⟩ := int_at (by have := hf 0 _ rfl; simpa [cellsI] using this) (by simp)
  obtain ⟨z1, rfl, _, e1⟩ := int_at (by have := hf 1 _ rfl; simpa [cellsI] using this) (by simp)
  obtain ⟨z2, rfl, _, e2⟩ := int_at (by have := hf 2 _ rfl; simpa [cellsI] using this) (by simp)
  obtain ⟨z3, rfl, _, e3⟩ := int_at (by have := hf 3 _ rfl; simpa [cellsI] using this) (by simp)
  obtain ⟨z4, rfl, _, e4⟩ := int_at (by have := hf 4 _ rfl; simpa [cellsI] using this) (by simp)
  obtain ⟨z5, rfl, _, e5⟩ := int_at (by have := hf 5 _ rfl; simpa [cellsI] using this) (by simp)
  refine ⟨⟨z0, z1, z2, z3, z4, z5⟩, rfl, ?_⟩
  rw [hx]
  simp only [Option.some.injEq] at e0 e1 e2 e3 e4 e5
  simp [e0, e1, e2, e3, e4, e5]
theorem open_mat {v : Value} {d : DataW H} {p : List MemPlace} (hv : Value.okWide Tryd.prog W .any b0 23 v) (h : DataW.Trod enc Tryd.prog W base spare held 23 v d p) : ∃ M : Mx, v = .agg (six M) := by
  obtain ⟨cs, rfl, hsz⟩ := okWide_struct Tryd.underlying23 hv
  obtain ⟨fuel, hf⟩ := h
  obtain ⟨M, hM, _⟩ := mat_open hf
  refine ⟨M, ?_⟩
  congr 1
  apply Array.toList_inj.1
  simpa [Value.cells] using hM
end
end Go.Proofs.YticoklfgmflidaaDoor
