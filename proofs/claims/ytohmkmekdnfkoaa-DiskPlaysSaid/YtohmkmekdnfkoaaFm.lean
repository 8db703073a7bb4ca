/- The frame of every statement of layer 12: how arguments are opened. -/
import Derived.Test.YtohmkmekdnfkoaaBi
import Derived.Deep.DeepHandedRow
import Derived.Lib.LaidTab
import Derived.Lib.SmallJoins
import Derived.ProofKit
import Derived.OpenShut
import Derived.Lay
import Derived.MakeChecks
import Derived.Deep.SlicePairs
import Derived.Carry
namespace Go.Proofs.Ytohmkmekdnfkoaa
open Go.ChangeShapes Go.WideShapes Go.ChangeAt Go.RowKit Go.Deep
theorem own : ownKnob Try.prog.godebug = none := by kernel_rfl
theorem laidOut : laidOutB Try.prog = true := by kernel_rfl
theorem cellsI : Try.prog.cellsOf 3 = 1 := by kernel_rfl
theorem cellsB : Try.prog.cellsOf 5 = 1 := by kernel_rfl
theorem cellsT : Try.prog.cellsOf 4 = 1 := by kernel_rfl
theorem cellsV : Try.prog.cellsOf 32 = 1 := by kernel_rfl
theorem cellsOp : Try.prog.cellsOf 34 = 7 := by kernel_rfl
theorem list1 {α : Type} {l : List α} (h : l.length = 1) : ∃ c0, l = [c0] := by
  match l, h with
  | [c0], _ => exact ⟨c0, rfl⟩
theorem list7 {α : Type} {l : List α} (h : l.length = 7) : ∃ c0 c1 c2 c3 c4 c5 c6, l = [c0, c1, c2, c3, c4, c5, c6] := by
  match l, h with
  | [c0, c1, c2, c3, c4, c5, c6], _ => exact ⟨c0, c1, c2, c3, c4, c5, c6, rfl⟩
def byteI (z : Int) : Prop := 0 ≤ z ∧ z ≤ 255
theorem byte_wf {z : Int} (h : (Lit.int .u8 z).wf = true) : byteI z := by
  unfold Lit.wf at h
  rw [Bool.and_eq_true, decide_eq_true_eq, decide_eq_true_eq] at h
  exact ⟨h.1, h.2⟩
theorem int_wf {z : Int} (h : (Lit.int .i64 z).wf = true) : rngI z := by
  unfold Lit.wf at h
  rw [Bool.and_eq_true, decide_eq_true_eq, decide_eq_true_eq] at h
  exact ⟨h.1, h.2⟩
section
variable {H : Type} {enc : TypeId × Value → H} {W : World} {base b0 : Nat} {spare : Nat → Bool} {held : Bool}
theorem int_at {m : Nat} {o : Option (DataW H × List MemPlace)} {c : Value} (h : DataW.trod enc Try.prog W base spare held m 3 [c] = o) (ho : o ≠ none) : ∃ z : Int, c = .int .i64 z ∧ rngI z := by
  obtain ⟨x, rfl⟩ := Option.ne_none_iff_exists'.1 ho
  obtain ⟨z, hz, _, hw⟩ := DataW.trod_int Try.underlying3 h
  exact ⟨z, by simpa using hz, int_wf hw⟩
theorem byte_at {m : Nat} {o : Option (DataW H × List MemPlace)} {c : Value} (h : DataW.trod enc Try.prog W base spare held m 5 [c] = o) (ho : o ≠ none) : ∃ z : Int, c = .int .u8 z ∧ byteI z := by
  obtain ⟨x, rfl⟩ := Option.ne_none_iff_exists'.1 ho
  obtain ⟨z, hz, _, hw⟩ := DataW.trod_int Try.underlying5 h
  exact ⟨z, by simpa using hz, byte_wf hw⟩
theorem bool_at {m : Nat} {o : Option (DataW H × List MemPlace)} {c : Value} (h : DataW.trod enc Try.prog W base spare held m 4 [c] = o) (ho : o ≠ none) : ∃ z : Bool, c = .bool z := by
  obtain ⟨x, rfl⟩ := Option.ne_none_iff_exists'.1 ho
  obtain ⟨z, hz, _, _⟩ := DataW.trod_bool (x := x) Try.underlying4 h
  exact ⟨z, by simpa using hz⟩
end
theorem capS_of {a : Option Addr} {n c : Nat} (h : n ≤ c) : CapS (.slice a n c) := fun a' n' c' e => by cases e; exact h
/-- A slice of booleans, opened. -/
theorem bools_at {H : Type} {enc : TypeId × Value → H} {W : World} {c0 : Value} {fuel : Nat} {x : DataW H × List MemPlace} (h : DataW.trod enc Try.prog W 0 (fun _ => true) true fuel 32 [c0] = some x) :
    ∃ L : List Bool, RowT W c0 L ∧ CapS c0 ∧ (L.length ≠ 0 → ∀ k, c0.ownBlock = some k → k < W.heap.size) := by
  rcases open_slice Try.underlying32 h with ⟨hcs, _⟩ | ⟨a, len, cap, m, n, D, Pl, hcs, hb, hl, hm, hmm, hxe, hx⟩
  · simp at hcs
    subst hcs
    exact ⟨[], .inl ⟨rfl, rfl⟩, capS_of (by omega), fun h => absurd rfl h⟩
  · simp at hcs
    subst hcs
    simp only [if_true] at hmm
    subst hmm
    have each : ∀ i, i < m → ∃ z : Bool, W.cell? (a.add i) = some (.bool z) := fun i hi => by
      obtain ⟨cs', h1, h2⟩ := hx i hi
      rw [cellsT] at h1
      obtain ⟨_, hlen, hcell⟩ := World.cells?_some h1
      obtain ⟨c0, rfl⟩ := list1 (l := cs') hlen
      obtain ⟨z, rfl⟩ := bool_at h2 (by simp)
      have g0 := hcell 0 (by omega)
      rw [add_add] at g0
      exact ⟨z, by simpa using g0⟩
    by_cases h0 : len = 0
    · subst h0
      exact ⟨[], .inr (.inl ⟨a, _, rfl, rfl⟩), capS_of (by omega), fun h => absurd rfl h⟩
    obtain ⟨f, hf'⟩ := choose_lt each
    obtain ⟨b, off, spot⟩ := a
    have c0 := hf' 0 (by omega)
    have hspot : spot = none := by simpa [Addr.add] using World.cell?_spot c0
    subst hspot
    have hlt : b < W.heap.size := by
      rcases Nat.lt_or_ge b W.heap.size with h | h
      · exact h
      · rw [show ((⟨b, off, none⟩ : Addr).add 0) = ⟨b, off + 0, none⟩ from add_plain _ _ _] at c0
        unfold World.cell? at c0
        simp [Array.getElem?_eq_none h] at c0
    have hat : ∀ i x, ((List.range len).map f)[i]? = some x → i < len ∧ f i = x := fun i x hx => by
      have hi : i < len := by
        have := (List.getElem?_eq_some_iff.1 hx).1
        simpa using this
      refine ⟨hi, ?_⟩
      rw [List.getElem?_map, List.getElem?_range hi] at hx
      simpa using hx
    refine ⟨(List.range len).map f, .inr (.inr ⟨b, off, m, by simp, hlt, fun i x hx => ?_⟩), capS_of (by omega), fun _ k e => by cases e; exact hlt⟩
    obtain ⟨hi, he⟩ := hat i x hx
    have := hf' i (by omega)
    rw [add_plain, he] at this
    exact this
/-- What is known of a call of a script. -/
def OpOk (W : World) (p : OpM) : Prop := OkO p ∧ RowT W p.kv p.keep ∧ CapS p.kv ∧ (p.keep.length ≠ 0 → ∀ k, p.kv.ownBlock = some k → k < W.heap.size)
theorem op_at {H : Type} {enc : TypeId × Value → H} {W : World} {c0 c1 c2 c3 c4 c5 c6 : Value} {fuel : Nat} {x : DataW H × List MemPlace} (h : DataW.trod enc Try.prog W 0 (fun _ => true) true fuel 34 [c0, c1, c2, c3, c4, c5, c6] = some x) :
    ∃ p : OpM, (c0 = .int .i64 p.kind ∧ c1 = .int .i64 p.n ∧ c2 = .int .u8 p.fill ∧ c3 = .int .i64 p.short ∧ c4 = p.kv ∧ c5 = .int .i64 p.torn ∧ c6 = .int .i64 p.cut) ∧ OpOk W p := by
  obtain ⟨xs, k, _, hx, hl, hlen, hf⟩ := DataW.trod_struct Try.underlying34 h
  obtain ⟨y0, y1, y2, y3, y4, y5, y6, rfl⟩ := list7 (l := xs) (by rw [hlen]; rfl)
  obtain ⟨z0, rfl, r0⟩ := int_at (by have := hf 0 _ rfl; simpa [cellsI, cellsB, cellsV] using this) (by simp)
  obtain ⟨z1, rfl, r1⟩ := int_at (by have := hf 1 _ rfl; simpa [cellsI, cellsB, cellsV] using this) (by simp)
  obtain ⟨z2, rfl, r2⟩ := byte_at (by have := hf 2 _ rfl; simpa [cellsI, cellsB, cellsV] using this) (by simp)
  obtain ⟨z3, rfl, r3⟩ := int_at (by have := hf 3 _ rfl; simpa [cellsI, cellsB, cellsV] using this) (by simp)
  obtain ⟨L, row, hcp, hb⟩ := bools_at (c0 := c4) (x := y4) (fuel := k) (by have := hf 4 _ rfl; simpa [cellsI, cellsB, cellsV] using this)
  obtain ⟨z5, rfl, r5⟩ := int_at (by have := hf 5 _ rfl; simpa [cellsI, cellsB, cellsV] using this) (by simp)
  obtain ⟨z6, rfl, r6⟩ := int_at (by have := hf 6 _ rfl; simpa [cellsI, cellsB, cellsV] using this) (by simp)
  exact ⟨⟨z0, z1, z2, z3, c4, L, z5, z6⟩, ⟨rfl, rfl, rfl, rfl, rfl, rfl, rfl⟩, ⟨r1, r2, r5, r6, r3⟩, row, hcp, hb⟩
/-- A slice of calls, opened. -/
theorem ops_at {H : Type} {enc : TypeId × Value → H} {W : World} {ao : Option Addr} {len cap fuel : Nat} {x : DataW H × List MemPlace} (h : DataW.trod enc Try.prog W 0 (fun _ => true) true fuel 22 [.slice ao len cap] = some x) :
    ∃ L : List OpM, RowO W (.slice ao len cap) L ∧ L.length ≤ 9223372036854775807 ∧ ∀ p ∈ L, OpOk W p := by
  rcases open_slice Try.underlying22 h with ⟨hcs, _⟩ | ⟨a, len', cap', m, n, D, Pl, hcs, hb, hl, hm, hmm, _, hx⟩
  · simp at hcs
    obtain ⟨rfl, rfl, rfl⟩ := hcs
    exact ⟨[], ⟨.inl ⟨rfl, rfl⟩, by simp⟩, by simp, by simp⟩
  · simp at hcs
    obtain ⟨rfl, rfl, rfl⟩ := hcs
    simp only [if_true] at hmm
    subst hmm
    by_cases h0 : len = 0
    · subst h0
      exact ⟨[], ⟨.inr (.inl ⟨a, _, rfl, rfl⟩), by simp⟩, by simp, by simp⟩
    have each : ∀ i, i < m → ∃ p : OpM, (W.cell? (a.add (i * 7)) = some (.int .i64 p.kind) ∧ W.cell? (a.add (i * 7 + 1)) = some (.int .i64 p.n) ∧ W.cell? (a.add (i * 7 + 2)) = some (.int .u8 p.fill) ∧ W.cell? (a.add (i * 7 + 3)) = some (.int .i64 p.short) ∧ W.cell? (a.add (i * 7 + 4)) = some p.kv ∧ W.cell? (a.add (i * 7 + 5)) = some (.int .i64 p.torn) ∧ W.cell? (a.add (i * 7 + 6)) = some (.int .i64 p.cut)) ∧ OpOk W p := fun i hi => by
      obtain ⟨cs', h1, h2⟩ := hx i hi
      rw [cellsOp] at h1
      obtain ⟨_, hlen, hcell⟩ := World.cells?_some h1
      obtain ⟨c0, c1, c2, c3, c4, c5, c6, rfl⟩ := list7 (l := cs') hlen
      obtain ⟨p, ⟨rfl, rfl, rfl, rfl, rfl, rfl, rfl⟩, hp⟩ := op_at h2
      have g0 := hcell 0 (by omega)
      have g1 := hcell 1 (by omega)
      have g2 := hcell 2 (by omega)
      have g3 := hcell 3 (by omega)
      have g4 := hcell 4 (by omega)
      have g5 := hcell 5 (by omega)
      have g6 := hcell 6 (by omega)
      rw [add_add] at g0 g1 g2 g3 g4 g5 g6
      exact ⟨p, ⟨by simpa using g0, by simpa using g1, by simpa using g2, by simpa using g3, by simpa using g4, by simpa using g5, by simpa using g6⟩, hp⟩
    haveI : Inhabited OpM := ⟨⟨0, 0, 0, 0, .slice none 0 0, [], 0, 0⟩⟩
    obtain ⟨f, hf'⟩ := choose_lt each
    obtain ⟨b, off, spot⟩ := a
    have c0 := (hf' 0 (by omega)).1.1
    have hspot : spot = none := by simpa [Addr.add] using World.cell?_spot c0
    subst hspot
    have hlt : b < W.heap.size := by
      rcases Nat.lt_or_ge b W.heap.size with h | h
      · exact h
      · rw [show ((⟨b, off, none⟩ : Addr).add (0 * 7)) = ⟨b, off + 0 * 7, none⟩ from add_plain _ _ _] at c0
        unfold World.cell? at c0
        simp [Array.getElem?_eq_none h] at c0
    have hat : ∀ i p, ((List.range len).map f)[i]? = some p → i < len ∧ f i = p := fun i p hp => by
      have hi : i < len := by
        have := (List.getElem?_eq_some_iff.1 hp).1
        simpa using this
      refine ⟨hi, ?_⟩
      rw [List.getElem?_map, List.getElem?_range hi] at hp
      simpa using hp
    have hin : ∀ p ∈ (List.range len).map f, OpOk W p := fun p hp => by
      obtain ⟨i, hi, rfl⟩ := List.mem_map.1 hp
      exact (hf' i (by have := List.mem_range.1 hi; omega)).2
    refine ⟨(List.range len).map f, ⟨.inr (.inr ⟨b, off, m, by simp, hlt, fun i p hp => ?_⟩), fun p hp => (hin p hp).2.1⟩, ?_, hin⟩
    · obtain ⟨hi, hpe⟩ := hat i p hp
      have := (hf' i (by omega)).1
      rw [add_plain, add_plain, add_plain, add_plain, add_plain, add_plain, add_plain, hpe] at this
      obtain ⟨k0, k1, k2, k3, k4, k5, k6⟩ := this
      refine ⟨k0, ?_, ?_, ?_, ?_, ?_, ?_⟩
      all_goals rw [Nat.add_assoc]; assumption
    · unfold maxLen at hm
      simp
      omega
set_option maxRecDepth 100000 in
theorem open_ops {H : Type} {enc : TypeId × Value → H} {W : World} {base : Nat} {v : Value} {d : DataW H} {p : List MemPlace} (hv : Value.okWide Try.prog W .any base 22 v) (h : DataW.Trod enc Try.prog W 0 (fun _ => true) true 22 v d p) :
    ∃ L : List OpM, RowO W v L ∧ L.length ≤ 9223372036854775807 ∧ ∀ p ∈ L, OpOk W p := by
  obtain ⟨a0, len, cap, rfl⟩ := okWide_slice Try.underlying22 hv
  obtain ⟨fuel, hf⟩ := h
  exact ops_at (by simpa [Value.cells] using hf)
end Go.Proofs.Ytohmkmekdnfkoaa
