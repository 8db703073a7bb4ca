/- The frame of ImageLays: its argument opened, ints in range. -/
import Derived.Test.YtoppmlfibllhlaaFm
import Derived.Test.YtoppmlfibllhlaaJm
namespace Go.Proofs.Ytoppmlfibllhlaa
open Go.ChangeShapes Go.WideShapes Go.ChangeAt Go.RowKit Go.Deep
theorem int_wf {z : Int} (h : (Lit.int .i64 z).wf = true) : rngI z := by
  unfold Lit.wf at h
  rw [Bool.and_eq_true, decide_eq_true_eq, decide_eq_true_eq] at h
  exact ⟨h.1, h.2⟩
theorem intR_at {H : Type} {enc : TypeId × Value → H} {W : World} {base : Nat} {spare : Nat → Bool} {held : Bool} {m : Nat} {o : Option (DataW H × List MemPlace)} {c : Value} (h : DataW.trod enc Try.prog W base spare held m 3 [c] = o) (ho : o ≠ none) : ∃ z : Int, c = .int .i64 z ∧ rngI z := by
  obtain ⟨x, rfl⟩ := Option.ne_none_iff_exists'.1 ho
  obtain ⟨z, hz, _, hw⟩ := DataW.trod_int Try.underlying3 h
  exact ⟨z, by simpa using hz, int_wf hw⟩
set_option maxRecDepth 100000 in
theorem open_laidR {H : Type} {enc : TypeId × Value → H} {W : World} {base : Nat} {v : Value} {d : DataW H} {p : List MemPlace} (hv : Value.okWide Try.prog W .any base 47 v) (h : DataW.Trod enc Try.prog W 0 (fun _ => true) true 47 v d p) :
    ∃ (a b a' b' x y z m : Int) (s s' : Value) (l l' : List Col), v = .agg #[.int .i64 a, .int .i64 b, s, .int .i64 a', .int .i64 b', s', .int .i64 x, .int .i64 y, .int .u8 z, .int .i64 m] ∧ RowK .u8 W s l ∧ RowK .u8 W s' l' ∧ (∀ c ∈ l, OkC c) ∧ (∀ c ∈ l', OkC c) ∧ byteI z ∧ Hid (CapS s) ∧ Hid (CapS s') ∧ Hid (rngI x ∧ rngI y) := by
  obtain ⟨cs, rfl, hsz⟩ := okWide_struct Try.underlying47 hv
  obtain ⟨l⟩ := cs
  obtain ⟨c0, c1, c2, c3, c4, c5, c6, c7, c8, c9, rfl⟩ := list10 (l := l) (by simpa [cellsL] using hsz)
  obtain ⟨fuel, hf⟩ := h
  obtain ⟨xs, k, _, _, hl, hlen, hg⟩ := DataW.trod_struct Try.underlying47 (by simpa [Value.cells] using hf)
  obtain ⟨y0, y1, y2, y3, y4, y5, rfl⟩ := list6 (l := xs) (by rw [hlen]; rfl)
  obtain ⟨a, b, l, rfl, rfl, row, hok, hcp⟩ := im_at (c0 := c0) (c1 := c1) (c2 := c2) (x := y0) (fuel := k) (by have := hg 0 _ rfl; simpa [cellsI, cellsM, cellsB] using this)
  obtain ⟨a', b', l', rfl, rfl, row', hok', hcp'⟩ := im_at (c0 := c3) (c1 := c4) (c2 := c5) (x := y1) (fuel := k) (by have := hg 1 _ rfl; simpa [cellsI, cellsM, cellsB] using this)
  obtain ⟨x, rfl, hx⟩ := intR_at (by have := hg 2 _ rfl; simpa [cellsI, cellsM, cellsB] using this) (by simp)
  obtain ⟨y, rfl, hy⟩ := intR_at (by have := hg 3 _ rfl; simpa [cellsI, cellsM, cellsB] using this) (by simp)
  obtain ⟨z, rfl, hz⟩ := byte_at (by have := hg 4 _ rfl; simpa [cellsI, cellsM, cellsB] using this) (by simp)
  obtain ⟨m, rfl⟩ := int_at (by have := hg 5 _ rfl; simpa [cellsI, cellsM, cellsB] using this) (by simp)
  exact ⟨a, b, a', b', x, y, z, m, c2, c5, l, l', rfl, row, row', hok, hok', hz, hcp, hcp', ⟨hx, hy⟩⟩
end Go.Proofs.Ytoppmlfibllhlaa
