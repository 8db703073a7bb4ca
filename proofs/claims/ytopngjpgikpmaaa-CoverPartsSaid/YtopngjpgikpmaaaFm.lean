/- The frame of every statement of this seat: how arguments are opened. -/
import Derived.Test.YtopngjpgikpmaaaCa
import Derived.Deep.DeepHandedRow
import Derived.Lib.LaidTab
import Derived.Lib.SmallJoins
import Derived.ProofKit
import Derived.OpenShut
import Derived.Lay
import Derived.MakeChecks
import Derived.Deep.SlicePairs
import Derived.Carry
namespace Go.Proofs.Ytopngjpgikpmaaa
open Go.ChangeShapes Go.WideShapes Go.ChangeAt Go.RowKit Go.Deep
theorem own : ownKnob Try.prog.godebug = none := by kernel_rfl
theorem laidOut : laidOutB Try.prog = true := by kernel_rfl
theorem cellsP : Try.prog.cellsOf 39 = 2 := by kernel_rfl
theorem cellsI : Try.prog.cellsOf 3 = 1 := by kernel_rfl
theorem cellsV : Try.prog.cellsOf 47 = 1 := by kernel_rfl
theorem cellsVV : Try.prog.cellsOf 22 = 1 := by kernel_rfl
theorem cellsPa : Try.prog.cellsOf 45 = 7 := by kernel_rfl
theorem cellsFa : Try.prog.cellsOf 50 = 4 := by kernel_rfl
theorem cellsB : Try.prog.cellsOf 24 = 4 := by kernel_rfl
theorem list2 {α : Type} {l : List α} (h : l.length = 2) : ∃ c0 c1, l = [c0, c1] := by
  match l, h with
  | [c0, c1], _ => exact ⟨c0, c1, rfl⟩
theorem list1 {α : Type} {l : List α} (h : l.length = 1) : ∃ c0, l = [c0] := by
  match l, h with
  | [c0], _ => exact ⟨c0, rfl⟩
theorem list7 {α : Type} {l : List α} (h : l.length = 7) : ∃ c0 c1 c2 c3 c4 c5 c6, l = [c0, c1, c2, c3, c4, c5, c6] := by
  match l, h with
  | [c0, c1, c2, c3, c4, c5, c6], _ => exact ⟨c0, c1, c2, c3, c4, c5, c6, rfl⟩
theorem list4 {α : Type} {l : List α} (h : l.length = 4) : ∃ c0 c1 c2 c3, l = [c0, c1, c2, c3] := by
  match l, h with
  | [c0, c1, c2, c3], _ => exact ⟨c0, c1, c2, c3, rfl⟩
section
variable {H : Type} {enc : TypeId × Value → H} {W : World} {base b0 : Nat} {spare : Nat → Bool} {held : Bool}
/-- A cell of a struct or of an array that is an int. -/
theorem int_at {m : Nat} {o : Option (DataW H × List MemPlace)} {c : Value} (h : DataW.trod enc Try.prog W base spare held m 3 [c] = o) (ho : o ≠ none) : ∃ z : Int, c = .int .i64 z ∧ (Lit.int .i64 z).wf = true ∧ o = some (.lit (.int .i64 z), []) := by
  obtain ⟨x, rfl⟩ := Option.ne_none_iff_exists'.1 ho
  obtain ⟨z, hz, he, hw⟩ := DataW.trod_int Try.underlying3 h
  exact ⟨z, by simpa using hz, hw, by rw [he]⟩
theorem pair_ints {m : Nat} {c0 c1 : Value} {x : DataW H × List MemPlace} (h : DataW.trod enc Try.prog W base spare held m 39 [c0, c1] = some x) : ∃ p : Pt, c0 = .int .i64 p.1 ∧ c1 = .int .i64 p.2 := by
  obtain ⟨xs, k, _, hx, hl, hlen, hf⟩ := DataW.trod_struct Try.underlying39 h
  obtain ⟨y0, y1, rfl⟩ := list2 (l := xs) (by rw [hlen]; rfl)
  obtain ⟨z0, rfl, _, _⟩ := int_at (by have := hf 0 _ rfl; simpa [cellsI] using this) (by simp)
  obtain ⟨z1, rfl, _, _⟩ := int_at (by have := hf 1 _ rfl; simpa [cellsI] using this) (by simp)
  exact ⟨(z0, z1), rfl, rfl⟩
theorem four_ints {m : Nat} {c0 c1 c2 c3 : Value} {x : DataW H × List MemPlace} (h : DataW.trod enc Try.prog W base spare held m 24 [c0, c1, c2, c3] = some x) : ∃ a b c d : Int, (I64 a ∧ I64 b ∧ I64 c ∧ I64 d) ∧ c0 = .int .i64 a ∧ c1 = .int .i64 b ∧ c2 = .int .i64 c ∧ c3 = .int .i64 d := by
  obtain ⟨xs, k, _, hx, hl, hlen, hf⟩ := DataW.trod_struct Try.underlying24 h
  obtain ⟨y0, y1, y2, y3, rfl⟩ := list4 (l := xs) (by rw [hlen]; rfl)
  obtain ⟨z0, rfl, w0, _⟩ := int_at (by have := hf 0 _ rfl; simpa [cellsI] using this) (by simp)
  obtain ⟨z1, rfl, w1, _⟩ := int_at (by have := hf 1 _ rfl; simpa [cellsI] using this) (by simp)
  obtain ⟨z2, rfl, w2, _⟩ := int_at (by have := hf 2 _ rfl; simpa [cellsI] using this) (by simp)
  obtain ⟨z3, rfl, w3, _⟩ := int_at (by have := hf 3 _ rfl; simpa [cellsI] using this) (by simp)
  have wf : ∀ {x : Int}, (Lit.int .i64 x).wf = true → I64 x := fun h => by unfold I64; simpa [Lit.wf, IntKind.min, IntKind.max, IntKind.signed, IntKind.bits] using h
  exact ⟨z0, z1, z2, z3, ⟨wf w0, wf w1, wf w2, wf w3⟩, rfl, rfl, rfl, rfl⟩
end
/-- A slice of points, opened. -/
theorem pts_at {H : Type} {enc : TypeId × Value → H} {W : World} {ao : Option Addr} {len cap fuel : Nat} {x : DataW H × List MemPlace} (h : DataW.trod enc Try.prog W 0 (fun _ => true) true fuel 47 [.slice ao len cap] = some x) :
    ∃ l : List Pt, Row W (.slice ao len cap) l := by
  rcases open_slice Try.underlying47 h with ⟨hcs, _⟩ | ⟨a, len', cap', m, n, D, Pl, hcs, hb, hl, hm, hmm, _, hx⟩
  · simp at hcs
    obtain ⟨rfl, rfl, rfl⟩ := hcs
    exact ⟨[], .inl ⟨rfl, rfl⟩⟩
  · simp at hcs
    obtain ⟨rfl, rfl, rfl⟩ := hcs
    simp only [if_true] at hmm
    subst hmm
    by_cases h0 : len = 0
    · subst h0
      exact ⟨[], .inr (.inl ⟨a, _, rfl, rfl⟩)⟩
    have each : ∀ i, i < m → ∃ p : Pt, W.cell? (a.add (i * 2)) = some (.int .i64 p.1) ∧ W.cell? (a.add (i * 2 + 1)) = some (.int .i64 p.2) := fun i hi => by
      obtain ⟨cs', h1, h2⟩ := hx i hi
      rw [cellsP] at h1
      obtain ⟨_, hlen, hcell⟩ := World.cells?_some h1
      obtain ⟨c0, c1, rfl⟩ := list2 (l := cs') hlen
      obtain ⟨p, rfl, rfl⟩ := pair_ints h2
      have g0 := hcell 0 (by omega)
      have g1 := hcell 1 (by omega)
      rw [add_add] at g0 g1
      exact ⟨p, by simpa using g0, by simpa using g1⟩
    obtain ⟨f, hf'⟩ := choose_lt each
    obtain ⟨b, off, spot⟩ := a
    have c0 := (hf' 0 (by omega)).1
    have hspot : spot = none := by simpa [Addr.add] using World.cell?_spot c0
    subst hspot
    have hlt : b < W.heap.size := by
      rcases Nat.lt_or_ge b W.heap.size with h | h
      · exact h
      · rw [show ((⟨b, off, none⟩ : Addr).add (0 * 2)) = ⟨b, off + 0 * 2, none⟩ from add_plain _ _ _] at c0
        unfold World.cell? at c0
        simp [Array.getElem?_eq_none h] at c0
    refine ⟨(List.range len).map f, .inr (.inr ⟨b, off, m, by simp, hlt, fun i p hp => ?_⟩)⟩
    have hi : i < len := by
      have := (List.getElem?_eq_some_iff.1 hp).1
      simpa using this
    have hpe : f i = p := by
      rw [List.getElem?_map, List.getElem?_range hi] at hp
      simpa using hp
    have := hf' i (by omega)
    rw [add_plain, add_plain, hpe] at this
    rw [Nat.add_assoc]; exact this
/-- A slice within a struct: its value is a slice. -/
theorem slice_at {H : Type} {enc : TypeId × Value → H} {W : World} {c0 : Value} {fuel : Nat} {x : DataW H × List MemPlace} (h : DataW.trod enc Try.prog W 0 (fun _ => true) true fuel 47 [c0] = some x) :
    ∃ (ao : Option Addr) (n c : Nat) (l : List Pt), c0 = .slice ao n c ∧ Row W (.slice ao n c) l ∧ n ≤ c := by
  obtain ⟨ao, n, c, rfl, hnc⟩ : ∃ ao n c, c0 = .slice ao n c ∧ n ≤ c := by
    rcases open_slice Try.underlying47 h with ⟨hcs, _⟩ | ⟨a, len', cap', m', n', D, Pl, hcs, _, hlc, _⟩
    · simp at hcs; exact ⟨_, _, _, hcs, Nat.le_refl _⟩
    · simp at hcs; exact ⟨_, _, _, hcs, hlc⟩
  obtain ⟨l, hl⟩ := pts_at h
  exact ⟨_, _, _, l, rfl, hl, hnc⟩
set_option maxRecDepth 100000 in
theorem open_pt {H : Type} {enc : TypeId × Value → H} {W : World} {base : Nat} {v : Value} {d : DataW H} {p : List MemPlace} (hv : Value.okWide Try.prog W .any base 39 v) (h : DataW.Trod enc Try.prog W 0 (fun _ => true) true 39 v d p) :
    ∃ a b : Int, v = .agg #[.int .i64 a, .int .i64 b] := by
  obtain ⟨cs, rfl, hsz⟩ := okWide_struct Try.underlying39 hv
  obtain ⟨l⟩ := cs
  obtain ⟨c0, c1, rfl⟩ := list2 (l := l) (by simpa [cellsP] using hsz)
  obtain ⟨fuel, hf⟩ := h
  obtain ⟨q, rfl, rfl⟩ := pair_ints (by simpa [Value.cells] using hf)
  exact ⟨_, _, rfl⟩
set_option maxRecDepth 100000 in
theorem open_pts {H : Type} {enc : TypeId × Value → H} {W : World} {base : Nat} {v : Value} {d : DataW H} {p : List MemPlace} (hv : Value.okWide Try.prog W .any base 47 v) (h : DataW.Trod enc Try.prog W 0 (fun _ => true) true 47 v d p) :
    ∃ l : List Pt, Row W v l := by
  obtain ⟨a0, len, cap, rfl⟩ := okWide_slice Try.underlying47 hv
  obtain ⟨fuel, hf⟩ := h
  exact pts_at (by simpa [Value.cells] using hf)
/-- A slice of polygons, opened. -/
theorem polys_at {H : Type} {enc : TypeId × Value → H} {W : World} {ao : Option Addr} {len cap fuel : Nat} {x : DataW H × List MemPlace} (h : DataW.trod enc Try.prog W 0 (fun _ => true) true fuel 22 [.slice ao len cap] = some x) :
    ∃ S : List (Value × List Pt), PolyR W (.slice ao len cap) S := by
  rcases open_slice Try.underlying22 h with ⟨hcs, _⟩ | ⟨a, len', cap', m, n, D, Pl, hcs, hb, hl, hm, hmm, _, hx⟩
  · simp at hcs
    obtain ⟨rfl, rfl, rfl⟩ := hcs
    exact ⟨[], .inl ⟨rfl, rfl⟩, fun x hx => (by cases hx)⟩
  · simp at hcs
    obtain ⟨rfl, rfl, rfl⟩ := hcs
    simp only [if_true] at hmm
    subst hmm
    by_cases h0 : len = 0
    · subst h0
      exact ⟨[], .inr (.inl ⟨a, _, rfl, rfl⟩), fun x hx => (by cases hx)⟩
    have each : ∀ i, i < m → ∃ q : Value × List Pt, W.cell? (a.add i) = some q.1 ∧ Row W q.1 q.2 := fun i hi => by
      obtain ⟨cs', h1, h2⟩ := hx i hi
      rw [cellsV] at h1
      obtain ⟨_, hlen, hcell⟩ := World.cells?_some h1
      obtain ⟨c0, rfl⟩ := list1 (l := cs') hlen
      obtain ⟨ao, n, c, l, rfl, row, _⟩ := slice_at h2
      have g0 := hcell 0 (by omega)
      rw [add_add] at g0
      exact ⟨(_, l), by simpa using g0, row⟩
    obtain ⟨f, hf'⟩ := choose_lt each
    obtain ⟨b, off, spot⟩ := a
    have c0 := (hf' 0 (by omega)).1
    have hspot : spot = none := by simpa [Addr.add] using World.cell?_spot c0
    subst hspot
    have hlt : b < W.heap.size := by
      rcases Nat.lt_or_ge b W.heap.size with h | h
      · exact h
      · rw [show ((⟨b, off, none⟩ : Addr).add 0) = ⟨b, off + 0, none⟩ from add_plain _ _ _] at c0
        unfold World.cell? at c0
        simp [Array.getElem?_eq_none h] at c0
    refine ⟨(List.range len).map f, .inr (.inr ⟨b, off, m, by simp, hlt, fun i p hp => ?_⟩), fun x hx => ?_⟩
    · rw [List.getElem?_map, List.getElem?_map] at hp
      obtain ⟨y, hy, rfl⟩ := Option.map_eq_some_iff.1 hp
      obtain ⟨j, hj, rfl⟩ := Option.map_eq_some_iff.1 hy
      have hi : i < len := by
        have := (List.getElem?_eq_some_iff.1 hj).1
        simpa using this
      rw [List.getElem?_range hi] at hj
      cases hj
      have := (hf' i (by omega)).1
      rwa [add_plain] at this
    · obtain ⟨i, hi, rfl⟩ := List.mem_map.1 hx
      exact (hf' i (by have := List.mem_range.1 hi; omega)).2
theorem polyslice_at {H : Type} {enc : TypeId × Value → H} {W : World} {c0 : Value} {fuel : Nat} {x : DataW H × List MemPlace} (h : DataW.trod enc Try.prog W 0 (fun _ => true) true fuel 22 [c0] = some x) :
    ∃ S : List (Value × List Pt), PolyR W c0 S := by
  obtain ⟨ao, n, c, rfl⟩ : ∃ ao n c, c0 = .slice ao n c := by
    rcases open_slice Try.underlying22 h with ⟨hcs, _⟩ | ⟨a, len', cap', m', n', D, Pl, hcs, _⟩
    · simp at hcs; exact ⟨_, _, _, hcs⟩
    · simp at hcs; exact ⟨_, _, _, hcs⟩
  exact polys_at h
set_option maxRecDepth 100000 in
theorem open_polys {H : Type} {enc : TypeId × Value → H} {W : World} {base : Nat} {v : Value} {d : DataW H} {p : List MemPlace} (hv : Value.okWide Try.prog W .any base 22 v) (h : DataW.Trod enc Try.prog W 0 (fun _ => true) true 22 v d p) :
    ∃ S : List (Value × List Pt), PolyR W v S := by
  obtain ⟨a0, len, cap, rfl⟩ := okWide_slice Try.underlying22 hv
  obtain ⟨fuel, hf⟩ := h
  exact polys_at (by simpa [Value.cells] using hf)
set_option maxRecDepth 100000 in
theorem open_box {H : Type} {enc : TypeId × Value → H} {W : World} {base : Nat} {v : Value} {d : DataW H} {p : List MemPlace} (hv : Value.okWide Try.prog W .any base 24 v) (h : DataW.Trod enc Try.prog W 0 (fun _ => true) true 24 v d p) :
    ∃ a b c e : Int, v = .agg #[.int .i64 a, .int .i64 b, .int .i64 c, .int .i64 e] := by
  obtain ⟨cs, rfl, hsz⟩ := okWide_struct Try.underlying24 hv
  obtain ⟨l⟩ := cs
  obtain ⟨c0, c1, c2, c3, rfl⟩ := list4 (l := l) (by simpa [cellsB] using hsz)
  obtain ⟨fuel, hf⟩ := h
  obtain ⟨a, b, c, e, _, rfl, rfl, rfl, rfl⟩ := four_ints (by simpa [Value.cells] using hf)
  exact ⟨a, b, c, e, rfl⟩
set_option maxRecDepth 100000 in
theorem open_parted {H : Type} {enc : TypeId × Value → H} {W : World} {base : Nat} {v : Value} {d : DataW H} {p : List MemPlace} (hv : Value.okWide Try.prog W .any base 45 v) (h : DataW.Trod enc Try.prog W 0 (fun _ => true) true 45 v d p) :
    ∃ (s : Value) (S : List (Value × List Pt)) (rule x0 y0 x1 y1 cut : Int), v = .agg #[s, .int .i64 rule, .int .i64 x0, .int .i64 y0, .int .i64 x1, .int .i64 y1, .int .i64 cut] ∧ PolyR W s S := by
  obtain ⟨cs, rfl, hsz⟩ := okWide_struct Try.underlying45 hv
  obtain ⟨l⟩ := cs
  obtain ⟨c0, c1, c2, c3, c4, c5, c6, rfl⟩ := list7 (l := l) (by simpa [cellsPa] using hsz)
  obtain ⟨fuel, hf⟩ := h
  obtain ⟨xs, m, _, _, _, hlen, hg⟩ := DataW.trod_struct Try.underlying45 hf
  obtain ⟨z0, z1, z2, z3, rfl⟩ := list4 (l := xs) (by rw [hlen]; rfl)
  obtain ⟨S, hS⟩ := polyslice_at (c0 := c0) (x := z0) (fuel := m) (by have := hg 0 _ rfl; simpa [cellsVV, Value.cells] using this)
  obtain ⟨rule, rfl, _, _⟩ := int_at (by have := hg 1 _ rfl; simpa [cellsI, Value.cells] using this) (by simp)
  obtain ⟨a, b, c', d', _, rfl, rfl, rfl, rfl⟩ := four_ints (m := m) (c0 := c2) (c1 := c3) (c2 := c4) (c3 := c5) (x := z2) (by have := hg 2 _ rfl; simpa [cellsB, Value.cells] using this)
  obtain ⟨cut, rfl, _, _⟩ := int_at (by have := hg 3 _ rfl; simpa [cellsI, Value.cells] using this) (by simp)
  exact ⟨c0, S, rule, a, b, c', d', cut, rfl, hS⟩
set_option maxRecDepth 100000 in
theorem open_far {H : Type} {enc : TypeId × Value → H} {W : World} {base : Nat} {v : Value} {d : DataW H} {p : List MemPlace} (hv : Value.okWide Try.prog W .any base 50 v) (h : DataW.Trod enc Try.prog W 0 (fun _ => true) true 50 v d p) :
    ∃ (s : Value) (S : List (Value × List Pt)) (rule x y : Int), v = .agg #[s, .int .i64 rule, .int .i64 x, .int .i64 y] ∧ PolyR W s S := by
  obtain ⟨cs, rfl, hsz⟩ := okWide_struct Try.underlying50 hv
  obtain ⟨l⟩ := cs
  obtain ⟨c0, c1, c2, c3, rfl⟩ := list4 (l := l) (by simpa [cellsFa] using hsz)
  obtain ⟨fuel, hf⟩ := h
  obtain ⟨xs, m, _, _, _, hlen, hg⟩ := DataW.trod_struct Try.underlying50 hf
  obtain ⟨z0, z1, z2, z3, rfl⟩ := list4 (l := xs) (by rw [hlen]; rfl)
  obtain ⟨S, hS⟩ := polyslice_at (c0 := c0) (x := z0) (fuel := m) (by have := hg 0 _ rfl; simpa [cellsVV, Value.cells] using this)
  obtain ⟨rule, rfl, _, _⟩ := int_at (by have := hg 1 _ rfl; simpa [cellsI, Value.cells] using this) (by simp)
  obtain ⟨x, rfl, _, _⟩ := int_at (by have := hg 2 _ rfl; simpa [cellsI, Value.cells] using this) (by simp)
  obtain ⟨y, rfl, _, _⟩ := int_at (by have := hg 3 _ rfl; simpa [cellsI, Value.cells] using this) (by simp)
  exact ⟨c0, S, rule, x, y, rfl, hS⟩
end Go.Proofs.Ytopngjpgikpmaaa
