/- The frame of every statement of this seat: what the listed variable gives, and how arguments are opened. -/
import Derived.Test.YtffgpikhahpomaaDoorCards
import Derived.Test.YtffgpikhahpomaaDoorTie
import Derived.Test.YtffgpikhahpomaaDoorSa
import Derived.Deep.DeepHandedRow
import Derived.Lib.LaidTab
import Derived.Lib.SmallJoins
import Derived.ProofKit
import Derived.OpenShut
import Derived.Lay
import Derived.MakeChecks
import Derived.Deep.SlicePairs
import Derived.Carry
namespace Go.Proofs.YtffgpikhahpomaaDoor
open Go.ChangeShapes Go.WideShapes Go.ChangeAt Go.RowKit Go.Deep
theorem own : ownKnob Tryd.prog.godebug = none := by kernel_rfl
theorem laidOut : laidOutB Tryd.prog = true := by kernel_rfl
theorem cellsP : Tryd.prog.cellsOf 44 = 2 := by kernel_rfl
theorem cellsI : Tryd.prog.cellsOf 3 = 1 := by kernel_rfl
theorem cellsS : Tryd.prog.cellsOf 48 = 7 := by kernel_rfl
theorem cells6 : Tryd.prog.cellsOf 82 = 6 := by kernel_rfl
theorem cellsP3 : Tryd.prog.cellsOf 46 = 6 := by kernel_rfl
theorem cellsV : Tryd.prog.cellsOf 22 = 1 := by kernel_rfl
theorem cellsM : Tryd.prog.cellsOf 67 = 6 := by kernel_rfl
theorem cellsE : Tryd.prog.cellsOf 50 = 12 := by kernel_rfl
theorem list2 {α : Type} {l : List α} (h : l.length = 2) : ∃ c0 c1, l = [c0, c1] := by
  match l, h with
  | [c0, c1], _ => exact ⟨c0, c1, rfl⟩
theorem list6 {α : Type} {l : List α} (h : l.length = 6) : ∃ c0 c1 c2 c3 c4 c5, l = [c0, c1, c2, c3, c4, c5] := by
  match l, h with
  | [c0, c1, c2, c3, c4, c5], _ => exact ⟨c0, c1, c2, c3, c4, c5, rfl⟩
theorem list7 {α : Type} {l : List α} (h : l.length = 7) : ∃ c0 c1 c2 c3 c4 c5 c6, l = [c0, c1, c2, c3, c4, c5, c6] := by
  match l, h with
  | [c0, c1, c2, c3, c4, c5, c6], _ => exact ⟨c0, c1, c2, c3, c4, c5, c6, rfl⟩
theorem list12 {α : Type} {l : List α} (h : l.length = 12) : ∃ c0 c1 c2 c3 c4 c5 c6 c7 c8 c9 c10 c11, l = [c0, c1, c2, c3, c4, c5, c6, c7, c8, c9, c10, c11] := by
  match l, h with
  | [c0, c1, c2, c3, c4, c5, c6, c7, c8, c9, c10, c11], _ => exact ⟨c0, c1, c2, c3, c4, c5, c6, c7, c8, c9, c10, c11, rfl⟩
section
variable {H : Type} {enc : TypeId × Value → H} {W : World} {base b0 : Nat} {spare : Nat → Bool} {held : Bool}
/-- A cell of a struct or of an array that is an int. -/
theorem int_at {m : Nat} {o : Option (DataW H × List MemPlace)} {c : Value} (h : DataW.trod enc Tryd.prog W base spare held m 3 [c] = o) (ho : o ≠ none) : ∃ z : Int, c = .int .i64 z ∧ (Lit.int .i64 z).wf = true ∧ o = some (.lit (.int .i64 z), []) := by
  obtain ⟨x, rfl⟩ := Option.ne_none_iff_exists'.1 ho
  obtain ⟨z, hz, he, hw⟩ := DataW.trod_int Tryd.underlying3 h
  exact ⟨z, by simpa using hz, hw, by rw [he]⟩
/-- What a row's list gives the walks. -/
theorem rd_of {W : World} (h : laidMetH Tryd.prog [("limner/path.needs", Rows.laid_limner_path_needs)] W) : Rd W := by
  rw [MakeChecks.laidMetH_plain _ _ _ (by kernel_rfl)] at h
  obtain ⟨ps, ⟨g', t', cs, fuel, p, q, hg', ht', hvar, hd, _, _⟩, _⟩ := h
  obtain rfl : g' = 0 := Option.some.inj (hg'.symm.trans gN)
  obtain rfl : t' = 82 := Option.some.inj (ht'.symm.trans (show (Tryd.prog.globals[0]?).map (·.type) = some 82 by kernel_rfl))
  obtain ⟨xs, m, _, hx, hl, hlen, hf⟩ := DataW.trod_array Tryd.underlying82 hd
  rw [cells6] at hl
  obtain ⟨c0, c1, c2, c3, c4, c5, hc⟩ := list6 hl
  obtain ⟨y0, y1, y2, y3, y4, y5, rfl⟩ := list6 hlen
  rw [hc] at hf
  obtain ⟨z0, rfl, _, e0⟩ := int_at (by have := hf 0 (by decide); simpa [cellsI] using this) (by simp)
  obtain ⟨z1, rfl, _, e1⟩ := int_at (by have := hf 1 (by decide); simpa [cellsI] using this) (by simp)
  obtain ⟨z2, rfl, _, e2⟩ := int_at (by have := hf 2 (by decide); simpa [cellsI] using this) (by simp)
  obtain ⟨z3, rfl, _, e3⟩ := int_at (by have := hf 3 (by decide); simpa [cellsI] using this) (by simp)
  obtain ⟨z4, rfl, _, e4⟩ := int_at (by have := hf 4 (by decide); simpa [cellsI] using this) (by simp)
  obtain ⟨z5, rfl, _, e5⟩ := int_at (by have := hf 5 (by decide); simpa [cellsI] using this) (by simp)
  simp only [Option.some.injEq] at e0 e1 e2 e3 e4 e5
  have hdat := congrArg Prod.fst hx
  simp only [List.map_cons, List.map_nil, e0, e1, e2, e3, e4, e5] at hdat
  unfold Rows.laid_limner_path_needs at hdat
  simp only [DataW.agg.injEq, List.cons.injEq, DataW.lit.injEq, Lit.int.injEq, true_and, and_true] at hdat
  obtain ⟨rfl, rfl, rfl, rfl, rfl, rfl⟩ := hdat
  unfold Rd
  rw [hvar]
  exact congrArg some (Array.toList_inj.1 (by rw [hc]; rfl))
theorem pair_ints {m : Nat} {c0 c1 : Value} {x : DataW H × List MemPlace} (h : DataW.trod enc Tryd.prog W base spare held m 44 [c0, c1] = some x) : ∃ p : Pt, c0 = .int .i64 p.1 ∧ c1 = .int .i64 p.2 := by
  obtain ⟨xs, k, _, hx, hl, hlen, hf⟩ := DataW.trod_struct Tryd.underlying44 h
  obtain ⟨y0, y1, rfl⟩ := list2 (l := xs) (by rw [hlen]; rfl)
  obtain ⟨z0, rfl, _, _⟩ := int_at (by have := hf 0 _ rfl; simpa [cellsI] using this) (by simp)
  obtain ⟨z1, rfl, _, _⟩ := int_at (by have := hf 1 _ rfl; simpa [cellsI] using this) (by simp)
  exact ⟨(z0, z1), rfl, rfl⟩
/-- A segment, opened. -/
theorem seg_ints {m : Nat} {cs : List Value} {x : DataW H × List MemPlace} (h : DataW.trod enc Tryd.prog W base spare held m 48 cs = some x) : ∃ s : Sg, cs = s.cells.toList := by
  obtain ⟨xs, k, _, hx, hl, hlen, hf⟩ := DataW.trod_struct Tryd.underlying48 h
  rw [cellsS] at hl
  obtain ⟨c0, c1, c2, c3, c4, c5, c6, rfl⟩ := list7 hl
  obtain ⟨y0, y1, rfl⟩ := list2 (l := xs) (by rw [hlen]; rfl)
  obtain ⟨z0, rfl, _, _⟩ := int_at (by have := hf 0 _ rfl; simpa [cellsI] using this) (by simp)
  have hp : DataW.trod enc Tryd.prog W base spare held k 46 [c1, c2, c3, c4, c5, c6] = some y1 := by have := hf 1 _ rfl; simpa [cellsP3] using this
  obtain ⟨ys, j, _, _, _, hlen2, hf2⟩ := DataW.trod_array Tryd.underlying46 hp
  obtain ⟨u0, u1, u2, rfl⟩ : ∃ u0 u1 u2, ys = [u0, u1, u2] := by
    match ys, hlen2 with
    | [u0, u1, u2], _ => exact ⟨u0, u1, u2, rfl⟩
  obtain ⟨p, rfl, rfl⟩ := pair_ints (by have := hf2 0 (by decide); simpa [cellsP] using this)
  obtain ⟨q, rfl, rfl⟩ := pair_ints (by have := hf2 1 (by decide); simpa [cellsP] using this)
  obtain ⟨r, rfl, rfl⟩ := pair_ints (by have := hf2 2 (by decide); simpa [cellsP] using this)
  exact ⟨⟨z0, p, q, r⟩, rfl⟩
end
instance : Inhabited Sg := ⟨⟨0, (0, 0), (0, 0), (0, 0)⟩⟩
/-- A slice of segments, opened. -/
theorem segs_at {H : Type} {enc : TypeId × Value → H} {W : World} {ao : Option Addr} {len cap fuel : Nat} {x : DataW H × List MemPlace} (h : DataW.trod enc Tryd.prog W 0 (fun _ => true) true fuel 22 [.slice ao len cap] = some x) :
    ∃ l : List Sg, RowS W (.slice ao len cap) l := by
  rcases open_slice Tryd.underlying22 h with ⟨hcs, _⟩ | ⟨a, len', cap', m, n, D, Pl, hcs, hb, hl, hm, hmm, _, hx⟩
  · simp at hcs
    obtain ⟨rfl, rfl, rfl⟩ := hcs
    exact ⟨[], .inl ⟨rfl, rfl⟩⟩
  · simp at hcs
    obtain ⟨rfl, rfl, rfl⟩ := hcs
    simp only [if_true] at hmm
    subst hmm
    by_cases h0 : len = 0
    · subst h0
      exact ⟨[], .inr (.inl ⟨a, _, rfl, rfl⟩)⟩
    have each : ∀ i, i < m → ∃ s : Sg, ∀ j v, s.cells[j]? = some v → W.cell? (a.add (i * 7 + j)) = some v := fun i hi => by
      obtain ⟨cs', h1, h2⟩ := hx i hi
      rw [cellsS] at h1
      obtain ⟨s, hs⟩ := seg_ints h2
      obtain ⟨_, hlen, hcell⟩ := World.cells?_some h1
      refine ⟨s, fun j v hv => ?_⟩
      have hj : j < 7 := by have := (Array.getElem?_eq_some_iff.1 hv).1; simpa [Sg.cells] using this
      have h3 := hcell j (by omega)
      rw [add_add] at h3
      rw [h3, hs]
      simpa using hv
    obtain ⟨f, hf'⟩ := choose_lt each
    obtain ⟨b, off, spot⟩ := a
    have c0 := hf' 0 (by omega) 0 _ rfl
    have hspot : spot = none := by simpa [Addr.add] using World.cell?_spot c0
    subst hspot
    have hlt : b < W.heap.size := by
      rcases Nat.lt_or_ge b W.heap.size with h | h
      · exact h
      · rw [show ((⟨b, off, none⟩ : Addr).add (0 * 7 + 0)) = ⟨b, off + (0 * 7 + 0), none⟩ from add_plain _ _ _] at c0
        unfold World.cell? at c0
        simp [Array.getElem?_eq_none h] at c0
    refine ⟨(List.range len).map f, .inr (.inr ⟨b, off, m, by simp, hlt, fun i s hp j v hv => ?_⟩)⟩
    have hi : i < len := by
      have := (List.getElem?_eq_some_iff.1 hp).1
      simpa using this
    have hpe : f i = s := by
      rw [List.getElem?_map, List.getElem?_range hi] at hp
      simpa using hp
    have := hf' i (by omega) j v (by rw [hpe]; exact hv)
    rw [add_plain] at this
    rw [Nat.add_assoc]; exact this
set_option maxRecDepth 100000 in
theorem open_segs {H : Type} {enc : TypeId × Value → H} {W : World} {base : Nat} {v : Value} {d : DataW H} {p : List MemPlace} (hv : Value.okWide Tryd.prog W .any base 22 v) (h : DataW.Trod enc Tryd.prog W 0 (fun _ => true) true 22 v d p) :
    ∃ l : List Sg, RowS W v l := by
  obtain ⟨a0, len, cap, rfl⟩ := okWide_slice Tryd.underlying22 hv
  obtain ⟨fuel, hf⟩ := h
  exact segs_at (by simpa [Value.cells] using hf)
set_option maxRecDepth 100000 in
theorem open_mat {H : Type} {enc : TypeId × Value → H} {W : World} {base : Nat} {v : Value} {d : DataW H} {p : List MemPlace} (hv : Value.okWide Tryd.prog W .any base 67 v) (h : DataW.Trod enc Tryd.prog W 0 (fun _ => true) true 67 v d p) :
    ∃ a b c d e f : Int, v = .agg #[.int .i64 a, .int .i64 b, .int .i64 c, .int .i64 d, .int .i64 e, .int .i64 f] := by
  obtain ⟨cs, rfl, hsz⟩ := okWide_struct Tryd.underlying67 hv
  obtain ⟨l⟩ := cs
  obtain ⟨c0, c1, c2, c3, c4, c5, rfl⟩ := list6 (l := l) (by simpa [cellsM] using hsz)
  obtain ⟨fuel, hf⟩ := h
  obtain ⟨xs, m, _, _, _, hlen, hg⟩ := DataW.trod_struct Tryd.underlying67 hf
  obtain ⟨y0, y1, y2, y3, y4, y5, rfl⟩ := list6 (l := xs) (by rw [hlen]; rfl)
  obtain ⟨z0, rfl, _, _⟩ := int_at (by have := hg 0 _ rfl; simpa [cellsI, Value.cells] using this) (by simp)
  obtain ⟨z1, rfl, _, _⟩ := int_at (by have := hg 1 _ rfl; simpa [cellsI, Value.cells] using this) (by simp)
  obtain ⟨z2, rfl, _, _⟩ := int_at (by have := hg 2 _ rfl; simpa [cellsI, Value.cells] using this) (by simp)
  obtain ⟨z3, rfl, _, _⟩ := int_at (by have := hg 3 _ rfl; simpa [cellsI, Value.cells] using this) (by simp)
  obtain ⟨z4, rfl, _, _⟩ := int_at (by have := hg 4 _ rfl; simpa [cellsI, Value.cells] using this) (by simp)
  obtain ⟨z5, rfl, _, _⟩ := int_at (by have := hg 5 _ rfl; simpa [cellsI, Value.cells] using this) (by simp)
  exact ⟨z0, z1, z2, z3, z4, z5, rfl⟩
/-- The cells of an Edit. -/
abbrev editCells (v : Value) (i k : Int) (s : Sg) (x y : Int) : Array Value := #[v, .int .i64 i, .int .i64 k, .int .i64 s.k, .int .i64 s.p.1, .int .i64 s.p.2, .int .i64 s.q.1, .int .i64 s.q.2, .int .i64 s.r.1, .int .i64 s.r.2, .int .i64 x, .int .i64 y]
set_option maxRecDepth 100000 in
theorem open_edit {H : Type} {enc : TypeId × Value → H} {W : World} {base : Nat} {v : Value} {d : DataW H} {p : List MemPlace} (hv : Value.okWide Tryd.prog W .any base 50 v) (h : DataW.Trod enc Tryd.prog W 0 (fun _ => true) true 50 v d p) :
    ∃ (u : Value) (l : List Sg) (i k : Int) (s : Sg) (x y : Int), v = .agg (editCells u i k s x y) ∧ RowS W u l := by
  obtain ⟨cs, rfl, hsz⟩ := okWide_struct Tryd.underlying50 hv
  obtain ⟨l⟩ := cs
  obtain ⟨c0, c1, c2, c3, c4, c5, c6, c7, c8, c9, c10, c11, rfl⟩ := list12 (l := l) (by simpa [cellsE] using hsz)
  obtain ⟨fuel, hf⟩ := h
  obtain ⟨xs, m, _, _, _, hlen, hg⟩ := DataW.trod_struct Tryd.underlying50 hf
  obtain ⟨y0, y1, y2, y3, y4, rfl⟩ : ∃ y0 y1 y2 y3 y4, xs = [y0, y1, y2, y3, y4] := by
    match xs, (by rw [hlen]; rfl : xs.length = 5) with
    | [y0, y1, y2, y3, y4], _ => exact ⟨y0, y1, y2, y3, y4, rfl⟩
  have h0 : DataW.trod enc Tryd.prog W 0 (fun _ => true) true m 22 [c0] = some y0 := by have := hg 0 _ rfl; simpa [cellsV, Value.cells] using this
  obtain ⟨z1, rfl, _, _⟩ := int_at (by have := hg 1 _ rfl; simpa [cellsI, Value.cells] using this) (by simp)
  obtain ⟨z2, rfl, _, _⟩ := int_at (by have := hg 2 _ rfl; simpa [cellsI, Value.cells] using this) (by simp)
  obtain ⟨s, hs⟩ := seg_ints (m := m) (cs := [c3, c4, c5, c6, c7, c8, c9]) (x := y3) (by have := hg 3 _ rfl; simpa [cellsS, Value.cells] using this)
  obtain ⟨q, rfl, rfl⟩ := pair_ints (m := m) (c0 := c10) (c1 := c11) (x := y4) (by have := hg 4 _ rfl; simpa [cellsP, Value.cells] using this)
  obtain ⟨ao, n, c, rfl⟩ : ∃ ao n c, c0 = .slice ao n c := by
    rcases open_slice Tryd.underlying22 h0 with ⟨hcs, _⟩ | ⟨a, len', cap', m', n', D, Pl, hcs, _⟩
    · simp at hcs; exact ⟨_, _, _, hcs⟩
    · simp at hcs; exact ⟨_, _, _, hcs⟩
  obtain ⟨l, hl⟩ := segs_at h0
  simp only [Sg.cells, List.cons.injEq, and_true] at hs
  obtain ⟨rfl, rfl, rfl, rfl, rfl, rfl, rfl⟩ := hs
  exact ⟨_, l, z1, z2, s, q.1, q.2, rfl, hl⟩
end Go.Proofs.YtffgpikhahpomaaDoor
