/- The frame of layer 14's scripts: how a slice of calls is opened. -/
import Derived.Test.YtdcjchakgfpgaaaFm
import Derived.Test.YtdcjchakgfpgaaaNa
namespace Go.Proofs.Ytdcjchakgfpgaaa
open Go.ChangeShapes Go.WideShapes Go.ChangeAt Go.RowKit Go.Deep
theorem op_at {H : Type} {enc : TypeId × Value → H} {W : World} {c0 c1 c2 c3 c4 c5 : Value} {fuel : Nat} {x : DataW H × List MemPlace} (h : DataW.trod enc Try.prog W 0 (fun _ => true) true fuel 52 [c0, c1, c2, c3, c4, c5] = some x) :
    ∃ p : Op14, (c0 = .int .i64 p.kind ∧ c1 = .int .i64 p.n ∧ c2 = p.dv ∧ c3 = p.kv ∧ c4 = .int .i64 p.torn ∧ c5 = .int .i64 p.cut) ∧ Ok14 W p := by
  obtain ⟨xs, k, _, hx, hl, hlen, hf⟩ := DataW.trod_struct Try.underlying52 h
  obtain ⟨y0, y1, y2, y3, y4, y5, rfl⟩ := list6 (l := xs) (by rw [hlen]; rfl)
  obtain ⟨z0, rfl, r0⟩ := int_at (by have := hf 0 _ rfl; simpa [cellsI, cellsY, cellsV] using this) (by simp)
  obtain ⟨z1, rfl, r1⟩ := int_at (by have := hf 1 _ rfl; simpa [cellsI, cellsY, cellsV] using this) (by simp)
  obtain ⟨D, drow, dok, dcp, dlt⟩ := byts_at (c0 := c2) (x := y2) (fuel := k) (by have := hf 2 _ rfl; simpa [cellsI, cellsY, cellsV] using this)
  obtain ⟨K, krow, kcp, klt⟩ := bools_at (c0 := c3) (x := y3) (fuel := k) (by have := hf 3 _ rfl; simpa [cellsI, cellsY, cellsV] using this)
  obtain ⟨z4, rfl, r4⟩ := int_at (by have := hf 4 _ rfl; simpa [cellsI, cellsY, cellsV] using this) (by simp)
  obtain ⟨z5, rfl, r5⟩ := int_at (by have := hf 5 _ rfl; simpa [cellsI, cellsY, cellsV] using this) (by simp)
  exact ⟨⟨z0, z1, c2, D, c3, K, z4, z5⟩, ⟨rfl, rfl, rfl, rfl, rfl, rfl⟩, ⟨r1, r4, r5, drow, dok, dcp, dlt, krow, kcp, klt⟩⟩
/-- A slice of calls, opened. -/
theorem ops_at {H : Type} {enc : TypeId × Value → H} {W : World} {ao : Option Addr} {len cap fuel : Nat} {x : DataW H × List MemPlace} (h : DataW.trod enc Try.prog W 0 (fun _ => true) true fuel 37 [.slice ao len cap] = some x) :
    ∃ L : List Op14, RowS W (.slice ao len cap) L ∧ L.length ≤ 9223372036854775807 := by
  rcases open_slice Try.underlying37 h with ⟨hcs, _⟩ | ⟨a, len', cap', m, n, D, Pl, hcs, hb, hl, hm, hmm, _, hx⟩
  · simp at hcs
    obtain ⟨rfl, rfl, rfl⟩ := hcs
    exact ⟨[], ⟨.inl ⟨rfl, rfl⟩, by simp⟩, by simp⟩
  · simp at hcs
    obtain ⟨rfl, rfl, rfl⟩ := hcs
    simp only [if_true] at hmm
    subst hmm
    by_cases h0 : len = 0
    · subst h0
      exact ⟨[], ⟨.inr (.inl ⟨a, _, rfl, rfl⟩), by simp⟩, by simp⟩
    have each : ∀ i, i < m → ∃ p : Op14, (W.cell? (a.add (i * 6)) = some (.int .i64 p.kind) ∧ W.cell? (a.add (i * 6 + 1)) = some (.int .i64 p.n) ∧ W.cell? (a.add (i * 6 + 2)) = some p.dv ∧ W.cell? (a.add (i * 6 + 3)) = some p.kv ∧ W.cell? (a.add (i * 6 + 4)) = some (.int .i64 p.torn) ∧ W.cell? (a.add (i * 6 + 5)) = some (.int .i64 p.cut)) ∧ Ok14 W p := fun i hi => by
      obtain ⟨cs', h1, h2⟩ := hx i hi
      rw [cellsOp] at h1
      obtain ⟨_, hlen, hcell⟩ := World.cells?_some h1
      obtain ⟨c0, c1, c2, c3, c4, c5, rfl⟩ := list6 (l := cs') hlen
      obtain ⟨p, ⟨rfl, rfl, rfl, rfl, rfl, rfl⟩, hp⟩ := op_at h2
      have g0 := hcell 0 (by omega)
      have g1 := hcell 1 (by omega)
      have g2 := hcell 2 (by omega)
      have g3 := hcell 3 (by omega)
      have g4 := hcell 4 (by omega)
      have g5 := hcell 5 (by omega)
      rw [add_add] at g0 g1 g2 g3 g4 g5
      exact ⟨p, ⟨by simpa using g0, by simpa using g1, by simpa using g2, by simpa using g3, by simpa using g4, by simpa using g5⟩, hp⟩
    haveI : Inhabited Op14 := ⟨⟨0, 0, .slice none 0 0, [], .slice none 0 0, [], 0, 0⟩⟩
    obtain ⟨f, hf'⟩ := choose_lt each
    obtain ⟨b, off, spot⟩ := a
    have c0 := (hf' 0 (by omega)).1.1
    have hspot : spot = none := by simpa [Addr.add] using World.cell?_spot c0
    subst hspot
    have hlt : b < W.heap.size := by
      rcases Nat.lt_or_ge b W.heap.size with h | h
      · exact h
      · rw [show ((⟨b, off, none⟩ : Addr).add (0 * 6)) = ⟨b, off + 0 * 6, none⟩ from add_plain _ _ _] at c0
        unfold World.cell? at c0
        simp [Array.getElem?_eq_none h] at c0
    have hat : ∀ i p, ((List.range len).map f)[i]? = some p → i < len ∧ f i = p := fun i p hp => by
      have hi : i < len := by
        have := (List.getElem?_eq_some_iff.1 hp).1
        simpa using this
      refine ⟨hi, ?_⟩
      rw [List.getElem?_map, List.getElem?_range hi] at hp
      simpa using hp
    have hin : ∀ p ∈ (List.range len).map f, Ok14 W p := fun p hp => by
      obtain ⟨i, hi, rfl⟩ := List.mem_map.1 hp
      exact (hf' i (by have := List.mem_range.1 hi; omega)).2
    refine ⟨(List.range len).map f, ⟨.inr (.inr ⟨b, off, m, by simp, hlt, fun i p hp => ?_⟩), hin⟩, ?_⟩
    · obtain ⟨hi, hpe⟩ := hat i p hp
      have := (hf' i (by omega)).1
      rw [add_plain, add_plain, add_plain, add_plain, add_plain, add_plain, hpe] at this
      obtain ⟨k0, k1, k2, k3, k4, k5⟩ := this
      refine ⟨k0, ?_, ?_, ?_, ?_, ?_⟩
      all_goals rw [Nat.add_assoc]; assumption
    · unfold maxLen at hm
      simp
      omega
set_option maxRecDepth 100000 in
theorem open_ops {H : Type} {enc : TypeId × Value → H} {W : World} {base : Nat} {v : Value} {d : DataW H} {p : List MemPlace} (hv : Value.okWide Try.prog W .any base 37 v) (h : DataW.Trod enc Try.prog W 0 (fun _ => true) true 37 v d p) :
    ∃ L : List Op14, RowS W v L ∧ L.length ≤ 9223372036854775807 := by
  obtain ⟨a0, len, cap, rfl⟩ := okWide_slice Try.underlying37 hv
  obtain ⟨fuel, hf⟩ := h
  exact ops_at (by simpa [Value.cells] using hf)
end Go.Proofs.Ytdcjchakgfpgaaa
