/- The frame of every statement of layer 10: how arguments are opened. -/
import Derived.Test.YtcbldamlfjkppaaPs
import Derived.Deep.DeepHandedRow
import Derived.Lib.LaidTab
import Derived.Lib.SmallJoins
import Derived.ProofKit
import Derived.OpenShut
import Derived.Lay
import Derived.MakeChecks
import Derived.Deep.SlicePairs
import Derived.Carry
namespace Go.Proofs.Ytcbldamlfjkppaa
open Go.ChangeShapes Go.WideShapes Go.ChangeAt Go.RowKit Go.Deep
theorem own : ownKnob Try.prog.godebug = none := by kernel_rfl
theorem laidOut : laidOutB Try.prog = true := by kernel_rfl
theorem cellsC : Try.prog.cellsOf 26 = 4 := by kernel_rfl
theorem cellsI : Try.prog.cellsOf 3 = 1 := by kernel_rfl
theorem cellsB : Try.prog.cellsOf 5 = 1 := by kernel_rfl
theorem cellsS : Try.prog.cellsOf 48 = 5 := by kernel_rfl
theorem list2 {α : Type} {l : List α} (h : l.length = 2) : ∃ c0 c1, l = [c0, c1] := by
  match l, h with
  | [c0, c1], _ => exact ⟨c0, c1, rfl⟩
theorem list4 {α : Type} {l : List α} (h : l.length = 4) : ∃ c0 c1 c2 c3, l = [c0, c1, c2, c3] := by
  match l, h with
  | [c0, c1, c2, c3], _ => exact ⟨c0, c1, c2, c3, rfl⟩
theorem list5 {α : Type} {l : List α} (h : l.length = 5) : ∃ c0 c1 c2 c3 c4, l = [c0, c1, c2, c3, c4] := by
  match l, h with
  | [c0, c1, c2, c3, c4], _ => exact ⟨c0, c1, c2, c3, c4, rfl⟩
theorem byte_wf {z : Int} (h : (Lit.int .u8 z).wf = true) : byteI z := by
  unfold Lit.wf at h
  rw [Bool.and_eq_true, decide_eq_true_eq, decide_eq_true_eq] at h
  exact ⟨h.1, h.2⟩
theorem okWide_row {P : Program} {w : World} {r : Reach} {base : Nat} {t e : TypeId} {n : Nat} {v : Value} (ht : P.underlying t = some (.array n e)) (h : Value.okWide P w r base t v) : ∃ cs, v = .agg cs ∧ cs.size = P.cellsOf t := by
  simp only [Value.okWide, ht] at h
  obtain ⟨cs, h1, h2, _⟩ := h
  exact ⟨cs, h1, h2⟩
section
variable {H : Type} {enc : TypeId × Value → H} {W : World} {base b0 : Nat} {spare : Nat → Bool} {held : Bool}
/-- A cell of a struct or of an array that is an int. -/
theorem int_at {m : Nat} {o : Option (DataW H × List MemPlace)} {c : Value} (h : DataW.trod enc Try.prog W base spare held m 3 [c] = o) (ho : o ≠ none) : ∃ z : Int, c = .int .i64 z := by
  obtain ⟨x, rfl⟩ := Option.ne_none_iff_exists'.1 ho
  obtain ⟨z, hz, _, _⟩ := DataW.trod_int Try.underlying3 h
  exact ⟨z, by simpa using hz⟩
theorem byte_at {m : Nat} {o : Option (DataW H × List MemPlace)} {c : Value} (h : DataW.trod enc Try.prog W base spare held m 5 [c] = o) (ho : o ≠ none) : ∃ z : Int, c = .int .u8 z ∧ byteI z := by
  obtain ⟨x, rfl⟩ := Option.ne_none_iff_exists'.1 ho
  obtain ⟨z, hz, _, hw⟩ := DataW.trod_int Try.underlying5 h
  exact ⟨z, by simpa using hz, byte_wf hw⟩
theorem col_at {m : Nat} {c0 c1 c2 c3 : Value} {x : DataW H × List MemPlace} (h : DataW.trod enc Try.prog W base spare held m 26 [c0, c1, c2, c3] = some x) : ∃ c : Col, c0 = .int .u8 (c 0) ∧ c1 = .int .u8 (c 1) ∧ c2 = .int .u8 (c 2) ∧ c3 = .int .u8 (c 3) ∧ OkC c := by
  obtain ⟨xs, k, _, _, _, hlen, hg⟩ := DataW.trod_array Try.underlying26 h
  obtain ⟨y0, y1, y2, y3, rfl⟩ := list4 hlen
  obtain ⟨z0, rfl, b0⟩ := byte_at (by have := hg 0 (by decide); simpa [cellsB, Value.cells] using this) (by simp)
  obtain ⟨z1, rfl, b1⟩ := byte_at (by have := hg 1 (by decide); simpa [cellsB, Value.cells] using this) (by simp)
  obtain ⟨z2, rfl, b2⟩ := byte_at (by have := hg 2 (by decide); simpa [cellsB, Value.cells] using this) (by simp)
  obtain ⟨z3, rfl, b3⟩ := byte_at (by have := hg 3 (by decide); simpa [cellsB, Value.cells] using this) (by simp)
  exact ⟨col4 z0 z1 z2 z3, rfl, rfl, rfl, rfl, col4_ok b0 b1 b2 b3⟩
theorem open_col {v : Value} {d : DataW H} {p : List MemPlace} (hv : Value.okWide Try.prog W .any b0 26 v) (h : DataW.Trod enc Try.prog W base spare held 26 v d p) :
    ∃ c : Col, v = .agg #[.int .u8 (c 0), .int .u8 (c 1), .int .u8 (c 2), .int .u8 (c 3)] ∧ OkC c := by
  obtain ⟨cs, rfl, hsz⟩ := okWide_row Try.underlying26 hv
  obtain ⟨l⟩ := cs
  obtain ⟨c0, c1, c2, c3, rfl⟩ := list4 (l := l) (by simpa [cellsC] using hsz)
  obtain ⟨fuel, hf⟩ := h
  obtain ⟨c, rfl, rfl, rfl, rfl, hc⟩ := col_at (by simpa [Value.cells] using hf)
  exact ⟨c, rfl, hc⟩
theorem stop_at {m : Nat} {c0 c1 c2 c3 c4 : Value} {x : DataW H × List MemPlace} (h : DataW.trod enc Try.prog W base spare held m 48 [c0, c1, c2, c3, c4] = some x) : ∃ p : Stp, c0 = .int .i64 p.1 ∧ c1 = .int .u8 (p.2 0) ∧ c2 = .int .u8 (p.2 1) ∧ c3 = .int .u8 (p.2 2) ∧ c4 = .int .u8 (p.2 3) ∧ OkC p.2 := by
  obtain ⟨xs, k, _, _, _, hlen, hf⟩ := DataW.trod_struct Try.underlying48 h
  obtain ⟨y0, y1, rfl⟩ := list2 (l := xs) (by rw [hlen]; rfl)
  obtain ⟨z, rfl⟩ := int_at (by have := hf 0 _ rfl; simpa [cellsI, cellsC] using this) (by simp)
  obtain ⟨c, rfl, rfl, rfl, rfl, hc⟩ := col_at (c0 := c1) (c1 := c2) (c2 := c3) (c3 := c4) (x := y1) (m := k) (by have := hf 1 _ rfl; simpa [cellsI, cellsC] using this)
  exact ⟨(z, c), rfl, rfl, rfl, rfl, rfl, hc⟩
end
/-- A slice of stops, opened. -/
theorem stops_at {H : Type} {enc : TypeId × Value → H} {W : World} {ao : Option Addr} {len cap fuel : Nat} {x : DataW H × List MemPlace} (h : DataW.trod enc Try.prog W 0 (fun _ => true) true fuel 46 [.slice ao len cap] = some x) :
    ∃ l : List Stp, RowS W (.slice ao len cap) l := by
  rcases open_slice Try.underlying46 h with ⟨hcs, _⟩ | ⟨a, len', cap', m, n, D, Pl, hcs, hb, hl, hm, hmm, _, hx⟩
  · simp at hcs
    obtain ⟨rfl, rfl, rfl⟩ := hcs
    exact ⟨[], .inl ⟨rfl, rfl⟩, by simp⟩
  · simp at hcs
    obtain ⟨rfl, rfl, rfl⟩ := hcs
    simp only [if_true] at hmm
    subst hmm
    by_cases h0 : len = 0
    · subst h0
      exact ⟨[], .inr (.inl ⟨a, _, rfl, rfl⟩), by simp⟩
    have each : ∀ i, i < m → ∃ p : Stp, W.cell? (a.add (i * 5)) = some (.int .i64 p.1) ∧ W.cell? (a.add (i * 5 + 1)) = some (.int .u8 (p.2 0)) ∧ W.cell? (a.add (i * 5 + 2)) = some (.int .u8 (p.2 1)) ∧ W.cell? (a.add (i * 5 + 3)) = some (.int .u8 (p.2 2)) ∧ W.cell? (a.add (i * 5 + 4)) = some (.int .u8 (p.2 3)) ∧ OkC p.2 := fun i hi => by
      obtain ⟨cs', h1, h2⟩ := hx i hi
      rw [cellsS] at h1
      obtain ⟨_, hlen, hcell⟩ := World.cells?_some h1
      obtain ⟨c0, c1, c2, c3, c4, rfl⟩ := list5 (l := cs') hlen
      obtain ⟨p, rfl, rfl, rfl, rfl, rfl, hc⟩ := stop_at h2
      have g0 := hcell 0 (by omega)
      have g1 := hcell 1 (by omega)
      have g2 := hcell 2 (by omega)
      have g3 := hcell 3 (by omega)
      have g4 := hcell 4 (by omega)
      rw [add_add] at g0 g1 g2 g3 g4
      exact ⟨p, by simpa using g0, by simpa using g1, by simpa using g2, by simpa using g3, by simpa using g4, hc⟩
    obtain ⟨f, hf'⟩ := choose_lt each
    obtain ⟨b, off, spot⟩ := a
    have c0 := (hf' 0 (by omega)).1
    have hspot : spot = none := by simpa [Addr.add] using World.cell?_spot c0
    subst hspot
    have hlt : b < W.heap.size := by
      rcases Nat.lt_or_ge b W.heap.size with h | h
      · exact h
      · rw [show ((⟨b, off, none⟩ : Addr).add (0 * 5)) = ⟨b, off + 0 * 5, none⟩ from add_plain _ _ _] at c0
        unfold World.cell? at c0
        simp [Array.getElem?_eq_none h] at c0
    have hat : ∀ i p, ((List.range len).map f)[i]? = some p → i < len ∧ f i = p := fun i p hp => by
      have hi : i < len := by
        have := (List.getElem?_eq_some_iff.1 hp).1
        simpa using this
      refine ⟨hi, ?_⟩
      rw [List.getElem?_map, List.getElem?_range hi] at hp
      simpa using hp
    refine ⟨(List.range len).map f, .inr (.inr ⟨b, off, m, by simp, hlt, fun i p hp => ?_⟩), fun p hp => ?_⟩
    · obtain ⟨hi, hpe⟩ := hat i p hp
      have := hf' i (by omega)
      rw [add_plain, add_plain, add_plain, add_plain, add_plain, hpe] at this
      obtain ⟨k0, k1, k2, k3, k4, _⟩ := this
      unfold StopAt
      rw [Nat.add_assoc, Nat.add_assoc, Nat.add_assoc, Nat.add_assoc]
      exact ⟨k0, k1, k2, k3, k4⟩
    · obtain ⟨i, hi, rfl⟩ := List.mem_map.1 hp
      exact (hf' i (by have := List.mem_range.1 hi; omega)).2.2.2.2.2
set_option maxRecDepth 100000 in
theorem open_stops {H : Type} {enc : TypeId × Value → H} {W : World} {base : Nat} {v : Value} {d : DataW H} {p : List MemPlace} (hv : Value.okWide Try.prog W .any base 46 v) (h : DataW.Trod enc Try.prog W 0 (fun _ => true) true 46 v d p) :
    ∃ l : List Stp, RowS W v l := by
  obtain ⟨a0, len, cap, rfl⟩ := okWide_slice Try.underlying46 hv
  obtain ⟨fuel, hf⟩ := h
  exact stops_at (by simpa [Value.cells] using hf)
end Go.Proofs.Ytcbldamlfjkppaa
