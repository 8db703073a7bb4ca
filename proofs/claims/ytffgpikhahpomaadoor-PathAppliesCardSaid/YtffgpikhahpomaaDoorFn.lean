/- Arguments opened, with what a slice's capacity is at least. -/
import Derived.Test.YtffgpikhahpomaaDoorFm
namespace Go.Proofs.YtffgpikhahpomaaDoor
open Go.ChangeShapes Go.WideShapes Go.ChangeAt Go.RowKit Go.Deep
set_option maxRecDepth 100000 in
theorem open_segs2 {H : Type} {enc : TypeId × Value → H} {W : World} {base : Nat} {v : Value} {d : DataW H} {p : List MemPlace} (hv : Value.okWide Tryd.prog W .any base 22 v) (h : DataW.Trod enc Tryd.prog W 0 (fun _ => true) true 22 v d p) :
    ∃ (ao : Option Addr) (n c : Nat) (l : List Sg), v = .slice ao n c ∧ RowS W (.slice ao n c) l ∧ n ≤ c := by
  obtain ⟨a0, len, cap, rfl⟩ := okWide_slice Tryd.underlying22 hv
  obtain ⟨fuel, hf⟩ := h
  have hf' : DataW.trod enc Tryd.prog W 0 (fun _ => true) true fuel 22 [.slice a0 len cap] = some (d, p) := by simpa [Value.cells] using hf
  have hlc : len ≤ cap := by
    rcases open_slice Tryd.underlying22 hf' with ⟨hcs, _⟩ | ⟨a, len', cap', m', n', D, Pl, hcs, _, hlc, _⟩
    · simp at hcs; obtain ⟨_, rfl, rfl⟩ := hcs; exact Nat.le_refl _
    · simp at hcs; obtain ⟨_, rfl, rfl⟩ := hcs; exact hlc
  obtain ⟨l, hl⟩ := segs_at hf'
  exact ⟨_, _, _, l, rfl, hl, hlc⟩
set_option maxRecDepth 100000 in
theorem open_edit2 {H : Type} {enc : TypeId × Value → H} {W : World} {base : Nat} {v : Value} {d : DataW H} {p : List MemPlace} (hv : Value.okWide Tryd.prog W .any base 50 v) (h : DataW.Trod enc Tryd.prog W 0 (fun _ => true) true 50 v d p) :
    ∃ (ao : Option Addr) (n c : Nat) (l : List Sg) (i k : Int) (s : Sg) (x y : Int), v = .agg (editCells (.slice ao n c) i k s x y) ∧ RowS W (.slice ao n c) l ∧ n ≤ c := by
  obtain ⟨cs, rfl, hsz⟩ := okWide_struct Tryd.underlying50 hv
  obtain ⟨l⟩ := cs
  obtain ⟨c0, c1, c2, c3, c4, c5, c6, c7, c8, c9, c10, c11, rfl⟩ := list12 (l := l) (by simpa [cellsE] using hsz)
  obtain ⟨fuel, hf⟩ := h
  obtain ⟨xs, m, _, _, _, hlen, hg⟩ := DataW.trod_struct Tryd.underlying50 hf
  obtain ⟨y0, y1, y2, y3, y4, rfl⟩ : ∃ y0 y1 y2 y3 y4, xs = [y0, y1, y2, y3, y4] := by
    match xs, (by rw [hlen]; rfl : xs.length = 5) with
    | [y0, y1, y2, y3, y4], _ => exact ⟨y0, y1, y2, y3, y4, rfl⟩
  have h0 : DataW.trod enc Tryd.prog W 0 (fun _ => true) true m 22 [c0] = some y0 := by have := hg 0 _ rfl; simpa [cellsV, Value.cells] using this
  obtain ⟨z1, rfl, _, _⟩ := int_at (by have := hg 1 _ rfl; simpa [cellsI, Value.cells] using this) (by simp)
  obtain ⟨z2, rfl, _, _⟩ := int_at (by have := hg 2 _ rfl; simpa [cellsI, Value.cells] using this) (by simp)
  obtain ⟨s, hs⟩ := seg_ints (m := m) (cs := [c3, c4, c5, c6, c7, c8, c9]) (x := y3) (by have := hg 3 _ rfl; simpa [cellsS, Value.cells] using this)
  obtain ⟨q, rfl, rfl⟩ := pair_ints (m := m) (c0 := c10) (c1 := c11) (x := y4) (by have := hg 4 _ rfl; simpa [cellsP, Value.cells] using this)
  obtain ⟨ao, n, c, rfl, hnc⟩ : ∃ ao n c, c0 = .slice ao n c ∧ n ≤ c := by
    rcases open_slice Tryd.underlying22 h0 with ⟨hcs, _⟩ | ⟨a, len', cap', m', n', D, Pl, hcs, _, hlc, _⟩
    · simp at hcs; exact ⟨_, _, _, hcs, Nat.le_refl _⟩
    · simp at hcs; exact ⟨_, _, _, hcs, hlc⟩
  obtain ⟨l, hl⟩ := segs_at h0
  simp only [Sg.cells, List.cons.injEq, and_true] at hs
  obtain ⟨rfl, rfl, rfl, rfl, rfl, rfl, rfl⟩ := hs
  exact ⟨ao, n, c, l, z1, z2, s, q.1, q.2, rfl, hl, hnc⟩
end Go.Proofs.YtffgpikhahpomaaDoor
