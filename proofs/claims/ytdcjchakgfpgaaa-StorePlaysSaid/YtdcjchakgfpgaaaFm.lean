/- The frame of every statement of layer 14: how arguments are opened. -/
import Derived.Test.YtdcjchakgfpgaaaMw
import Derived.Deep.DeepHandedRow
import Derived.Lib.LaidTab
import Derived.Lib.SmallJoins
import Derived.ProofKit
import Derived.OpenShut
import Derived.Lay
import Derived.MakeChecks
import Derived.Deep.SlicePairs
import Derived.Carry
namespace Go.Proofs.Ytdcjchakgfpgaaa
open Go.ChangeShapes Go.WideShapes Go.ChangeAt Go.RowKit Go.Deep
theorem own : ownKnob Try.prog.godebug = none := by kernel_rfl
theorem laidOut : laidOutB Try.prog = true := by kernel_rfl
theorem cellsI : Try.prog.cellsOf 3 = 1 := by kernel_rfl
theorem cellsB : Try.prog.cellsOf 5 = 1 := by kernel_rfl
theorem cellsT : Try.prog.cellsOf 4 = 1 := by kernel_rfl
theorem cellsV : Try.prog.cellsOf 50 = 1 := by kernel_rfl
theorem cellsY : Try.prog.cellsOf 24 = 1 := by kernel_rfl
theorem cellsHd : Try.prog.cellsOf 23 = 4 := by kernel_rfl
theorem cellsHg : Try.prog.cellsOf 26 = 7 := by kernel_rfl
theorem cellsOp : Try.prog.cellsOf 52 = 6 := by kernel_rfl
theorem list1 {α : Type} {l : List α} (h : l.length = 1) : ∃ c0, l = [c0] := by
  match l, h with
  | [c0], _ => exact ⟨c0, rfl⟩
theorem list4 {α : Type} {l : List α} (h : l.length = 4) : ∃ c0 c1 c2 c3, l = [c0, c1, c2, c3] := by
  match l, h with
  | [c0, c1, c2, c3], _ => exact ⟨c0, c1, c2, c3, rfl⟩
theorem list6 {α : Type} {l : List α} (h : l.length = 6) : ∃ c0 c1 c2 c3 c4 c5, l = [c0, c1, c2, c3, c4, c5] := by
  match l, h with
  | [c0, c1, c2, c3, c4, c5], _ => exact ⟨c0, c1, c2, c3, c4, c5, rfl⟩
theorem list7 {α : Type} {l : List α} (h : l.length = 7) : ∃ c0 c1 c2 c3 c4 c5 c6, l = [c0, c1, c2, c3, c4, c5, c6] := by
  match l, h with
  | [c0, c1, c2, c3, c4, c5, c6], _ => exact ⟨c0, c1, c2, c3, c4, c5, c6, rfl⟩
def byteI (z : Int) : Prop := 0 ≤ z ∧ z ≤ 255
theorem byte_wf {z : Int} (h : (Lit.int .u8 z).wf = true) : byteI z := by
  unfold Lit.wf at h
  rw [Bool.and_eq_true, decide_eq_true_eq, decide_eq_true_eq] at h
  exact ⟨h.1, h.2⟩
theorem int_wf {z : Int} (h : (Lit.int .i64 z).wf = true) : rngI z := by
  unfold Lit.wf at h
  rw [Bool.and_eq_true, decide_eq_true_eq, decide_eq_true_eq] at h
  exact ⟨h.1, h.2⟩
section
variable {H : Type} {enc : TypeId × Value → H} {W : World} {base b0 : Nat} {spare : Nat → Bool} {held : Bool}
theorem int_at {m : Nat} {o : Option (DataW H × List MemPlace)} {c : Value} (h : DataW.trod enc Try.prog W base spare held m 3 [c] = o) (ho : o ≠ none) : ∃ z : Int, c = .int .i64 z ∧ rngI z := by
  obtain ⟨x, rfl⟩ := Option.ne_none_iff_exists'.1 ho
  obtain ⟨z, hz, _, hw⟩ := DataW.trod_int Try.underlying3 h
  exact ⟨z, by simpa using hz, int_wf hw⟩
theorem byte_at {m : Nat} {o : Option (DataW H × List MemPlace)} {c : Value} (h : DataW.trod enc Try.prog W base spare held m 5 [c] = o) (ho : o ≠ none) : ∃ z : Int, c = .int .u8 z ∧ byteI z := by
  obtain ⟨x, rfl⟩ := Option.ne_none_iff_exists'.1 ho
  obtain ⟨z, hz, _, hw⟩ := DataW.trod_int Try.underlying5 h
  exact ⟨z, by simpa using hz, byte_wf hw⟩
theorem bool_at {m : Nat} {o : Option (DataW H × List MemPlace)} {c : Value} (h : DataW.trod enc Try.prog W base spare held m 4 [c] = o) (ho : o ≠ none) : ∃ z : Bool, c = .bool z := by
  obtain ⟨x, rfl⟩ := Option.ne_none_iff_exists'.1 ho
  obtain ⟨z, hz, _, _⟩ := DataW.trod_bool (x := x) Try.underlying4 h
  exact ⟨z, by simpa using hz⟩
end
theorem capS_of {a : Option Addr} {n c : Nat} (h : n ≤ c) : CapS (.slice a n c) := fun a' n' c' e => by cases e; exact h
/-- A slice of booleans, opened. -/
theorem bools_at {H : Type} {enc : TypeId × Value → H} {W : World} {c0 : Value} {fuel : Nat} {x : DataW H × List MemPlace} (h : DataW.trod enc Try.prog W 0 (fun _ => true) true fuel 50 [c0] = some x) :
    ∃ L : List Bool, RowT W c0 L ∧ CapS c0 ∧ (L.length ≠ 0 → ∀ k, c0.ownBlock = some k → k < W.heap.size) := by
  rcases open_slice Try.underlying50 h with ⟨hcs, _⟩ | ⟨a, len, cap, m, n, D, Pl, hcs, hb, hl, hm, hmm, hxe, hx⟩
  · simp at hcs
    subst hcs
    exact ⟨[], .inl ⟨rfl, rfl⟩, capS_of (by omega), fun h => absurd rfl h⟩
  · simp at hcs
    subst hcs
    simp only [if_true] at hmm
    subst hmm
    have each : ∀ i, i < m → ∃ z : Bool, W.cell? (a.add i) = some (.bool z) := fun i hi => by
      obtain ⟨cs', h1, h2⟩ := hx i hi
      rw [cellsT] at h1
      obtain ⟨_, hlen, hcell⟩ := World.cells?_some h1
      obtain ⟨c0, rfl⟩ := list1 (l := cs') hlen
      obtain ⟨z, rfl⟩ := bool_at h2 (by simp)
      have g0 := hcell 0 (by omega)
      rw [add_add] at g0
      exact ⟨z, by simpa using g0⟩
    by_cases h0 : len = 0
    · subst h0
      exact ⟨[], .inr (.inl ⟨a, _, rfl, rfl⟩), capS_of (by omega), fun h => absurd rfl h⟩
    obtain ⟨f, hf'⟩ := choose_lt each
    obtain ⟨b, off, spot⟩ := a
    have c0 := hf' 0 (by omega)
    have hspot : spot = none := by simpa [Addr.add] using World.cell?_spot c0
    subst hspot
    have hlt : b < W.heap.size := by
      rcases Nat.lt_or_ge b W.heap.size with h | h
      · exact h
      · rw [show ((⟨b, off, none⟩ : Addr).add 0) = ⟨b, off + 0, none⟩ from add_plain _ _ _] at c0
        unfold World.cell? at c0
        simp [Array.getElem?_eq_none h] at c0
    have hat : ∀ i x, ((List.range len).map f)[i]? = some x → i < len ∧ f i = x := fun i x hx => by
      have hi : i < len := by
        have := (List.getElem?_eq_some_iff.1 hx).1
        simpa using this
      refine ⟨hi, ?_⟩
      rw [List.getElem?_map, List.getElem?_range hi] at hx
      simpa using hx
    refine ⟨(List.range len).map f, .inr (.inr ⟨b, off, m, by simp, hlt, fun i x hx => ?_⟩), capS_of (by omega), fun _ k e => by cases e; exact hlt⟩
    obtain ⟨hi, he⟩ := hat i x hx
    have := hf' i (by omega)
    rw [add_plain, he] at this
    exact this
/-- A slice of bytes, opened. -/
theorem byts_at {H : Type} {enc : TypeId × Value → H} {W : World} {c0 : Value} {fuel : Nat} {x : DataW H × List MemPlace} (h : DataW.trod enc Try.prog W 0 (fun _ => true) true fuel 24 [c0] = some x) :
    ∃ L : List Int, RowB W c0 L ∧ OkB L ∧ CapS c0 ∧ (L.length ≠ 0 → ∀ k, c0.ownBlock = some k → k < W.heap.size) := by
  rcases open_slice Try.underlying24 h with ⟨hcs, _⟩ | ⟨a, len, cap, m, n, D, Pl, hcs, hb, hl, hm, hmm, hxe, hx⟩
  · simp at hcs
    subst hcs
    exact ⟨[], .inl ⟨rfl, rfl⟩, (by intro x hx; cases hx), capS_of (by omega), fun h => absurd rfl h⟩
  · simp at hcs
    subst hcs
    simp only [if_true] at hmm
    subst hmm
    by_cases h0 : len = 0
    · subst h0
      exact ⟨[], .inr (.inl ⟨a, _, rfl, rfl⟩), (by intro x hx; cases hx), capS_of (by omega), fun h => absurd rfl h⟩
    have each : ∀ i, i < m → ∃ z : Int, W.cell? (a.add i) = some (.int .u8 z) ∧ byteI z := fun i hi => by
      obtain ⟨cs', h1, h2⟩ := hx i hi
      rw [cellsB] at h1
      obtain ⟨_, hlen, hcell⟩ := World.cells?_some h1
      obtain ⟨c0, rfl⟩ := list1 (l := cs') hlen
      obtain ⟨z, rfl, hz⟩ := byte_at h2 (by simp)
      have g0 := hcell 0 (by omega)
      rw [add_add] at g0
      exact ⟨z, by simpa using g0, hz⟩
    obtain ⟨f, hf'⟩ := choose_lt each
    obtain ⟨b, off, spot⟩ := a
    have c0 := (hf' 0 (by omega)).1
    have hspot : spot = none := by simpa [Addr.add] using World.cell?_spot c0
    subst hspot
    have hlt : b < W.heap.size := by
      rcases Nat.lt_or_ge b W.heap.size with h | h
      · exact h
      · rw [show ((⟨b, off, none⟩ : Addr).add 0) = ⟨b, off + 0, none⟩ from add_plain _ _ _] at c0
        unfold World.cell? at c0
        simp [Array.getElem?_eq_none h] at c0
    have hat : ∀ i x, ((List.range len).map f)[i]? = some x → i < len ∧ f i = x := fun i x hx => by
      have hi : i < len := by
        have := (List.getElem?_eq_some_iff.1 hx).1
        simpa using this
      refine ⟨hi, ?_⟩
      rw [List.getElem?_map, List.getElem?_range hi] at hx
      simpa using hx
    refine ⟨(List.range len).map f, .inr (.inr ⟨b, off, m, by simp, hlt, fun i x hx => ?_⟩), fun x hx => ?_, capS_of (by omega), fun _ k e => by cases e; exact hlt⟩
    · obtain ⟨hi, he⟩ := hat i x hx
      have := (hf' i (by omega)).1
      rw [add_plain, he] at this
      exact this
    · obtain ⟨i, hi, rfl⟩ := List.mem_map.1 hx
      exact (hf' i (by have := List.mem_range.1 hi; omega)).2
set_option maxRecDepth 100000 in
theorem open_byts {H : Type} {enc : TypeId × Value → H} {W : World} {base : Nat} {v : Value} {d : DataW H} {p : List MemPlace} (hv : Value.okWide Try.prog W .any base 24 v) (h : DataW.Trod enc Try.prog W 0 (fun _ => true) true 24 v d p) :
    ∃ L : List Int, RowB W v L ∧ OkB L ∧ CapS v ∧ (L.length ≠ 0 → ∀ k, v.ownBlock = some k → k < W.heap.size) := by
  obtain ⟨a0, len, cap, rfl⟩ := okWide_slice Try.underlying24 hv
  obtain ⟨fuel, hf⟩ := h
  exact byts_at (by simpa [Value.cells] using hf)
theorem hd_at {H : Type} {enc : TypeId × Value → H} {W : World} {c0 c1 c2 c3 : Value} {fuel : Nat} {x : DataW H × List MemPlace} (h : DataW.trod enc Try.prog W 0 (fun _ => true) true fuel 23 [c0, c1, c2, c3] = some x) :
    ∃ q : Hd, (c0 = .int .i64 q.gen ∧ c1 = .int .i64 q.half ∧ c2 = .int .i64 q.snap ∧ c3 = .int .i64 q.log) ∧ rngH q := by
  obtain ⟨xs, k, _, hx, hl, hlen, hf⟩ := DataW.trod_struct Try.underlying23 h
  obtain ⟨y0, y1, y2, y3, rfl⟩ := list4 (l := xs) (by rw [hlen]; rfl)
  obtain ⟨z0, rfl, r0⟩ := int_at (by have := hf 0 _ rfl; simpa [cellsI] using this) (by simp)
  obtain ⟨z1, rfl, r1⟩ := int_at (by have := hf 1 _ rfl; simpa [cellsI] using this) (by simp)
  obtain ⟨z2, rfl, r2⟩ := int_at (by have := hf 2 _ rfl; simpa [cellsI] using this) (by simp)
  obtain ⟨z3, rfl, r3⟩ := int_at (by have := hf 3 _ rfl; simpa [cellsI] using this) (by simp)
  exact ⟨⟨z0, z1, z2, z3⟩, ⟨rfl, rfl, rfl, rfl⟩, r0, r1, r2, r3⟩
set_option maxRecDepth 100000 in
theorem open_hd {H : Type} {enc : TypeId × Value → H} {W : World} {base : Nat} {v : Value} {d : DataW H} {p : List MemPlace} (hv : Value.okWide Try.prog W .any base 23 v) (h : DataW.Trod enc Try.prog W 0 (fun _ => true) true 23 v d p) :
    ∃ q : Hd, v = hdV q ∧ rngH q := by
  obtain ⟨cs, rfl, hsz⟩ := okWide_struct Try.underlying23 hv
  obtain ⟨l⟩ := cs
  obtain ⟨c0, c1, c2, c3, rfl⟩ := list4 (l := l) (by simpa [cellsHd] using hsz)
  obtain ⟨fuel, hf⟩ := h
  obtain ⟨q, ⟨rfl, rfl, rfl, rfl⟩, hq⟩ := hd_at (by simpa [Value.cells] using hf)
  exact ⟨q, rfl, hq⟩
set_option maxRecDepth 100000 in
theorem open_hg {H : Type} {enc : TypeId × Value → H} {W : World} {base : Nat} {v : Value} {d : DataW H} {p : List MemPlace} (hv : Value.okWide Try.prog W .any base 26 v) (h : DataW.Trod enc Try.prog W 0 (fun _ => true) true 26 v d p) :
    ∃ (q : Hd) (z cap : Int) (s : Value) (L : List Int), v = .agg #[.int .i64 q.gen, .int .i64 q.half, .int .i64 q.snap, .int .i64 q.log, .int .i64 z, .int .i64 cap, s] ∧ rngH q ∧ rngI z ∧ rngI cap ∧ RowB W s L ∧ OkB L ∧ CapS s := by
  obtain ⟨cs, rfl, hsz⟩ := okWide_struct Try.underlying26 hv
  obtain ⟨l⟩ := cs
  obtain ⟨c0, c1, c2, c3, c4, c5, c6, rfl⟩ := list7 (l := l) (by simpa [cellsHg] using hsz)
  obtain ⟨fuel, hf⟩ := h
  obtain ⟨xs, m, _, _, _, hlen, hg⟩ := DataW.trod_struct Try.underlying26 hf
  obtain ⟨y0, y1, y2, y3, rfl⟩ := list4 (l := xs) (by rw [hlen]; rfl)
  obtain ⟨q, ⟨rfl, rfl, rfl, rfl⟩, hq⟩ := hd_at (c0 := c0) (c1 := c1) (c2 := c2) (c3 := c3) (x := y0) (fuel := m) (by have := hg 0 _ rfl; simpa [cellsI, cellsY, cellsHd, Value.cells] using this)
  obtain ⟨z1, rfl, r1⟩ := int_at (by have := hg 1 _ rfl; simpa [cellsI, cellsY, cellsHd, Value.cells] using this) (by simp)
  obtain ⟨z2, rfl, r2⟩ := int_at (by have := hg 2 _ rfl; simpa [cellsI, cellsY, cellsHd, Value.cells] using this) (by simp)
  obtain ⟨L, row, ok, hcp, _⟩ := byts_at (c0 := c6) (x := y3) (fuel := m) (by have := hg 3 _ rfl; simpa [cellsI, cellsY, cellsHd, Value.cells] using this)
  exact ⟨q, z1, z2, c6, L, rfl, hq, r1, r2, row, ok, hcp⟩
end Go.Proofs.Ytdcjchakgfpgaaa
