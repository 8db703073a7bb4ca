/- The frame of ImageParses: its argument opened, with its room. -/
import Derived.Test.YtoppmlfibllhlaaFm
namespace Go.Proofs.Ytoppmlfibllhlaa
open Go.ChangeShapes Go.WideShapes Go.ChangeAt Go.RowKit Go.Deep
/-- A slice of bytes, opened. -/
theorem bytsR_at {H : Type} {enc : TypeId × Value → H} {W : World} {ao : Option Addr} {len cap fuel : Nat} {x : DataW H × List MemPlace} (h : DataW.trod enc Try.prog W 0 (fun _ => true) true fuel 58 [.slice ao len cap] = some x) :
    ∃ L : List Int, RowB W (.slice ao len cap) L ∧ OkB L ∧ Hid (CapS (.slice ao len cap)) := by
  rcases open_slice Try.underlying58 h with ⟨hcs, _⟩ | ⟨a, len', cap', m, n, D, Pl, hcs, hb, hl, hm, hmm, _, hx⟩
  · simp at hcs
    obtain ⟨rfl, rfl, rfl⟩ := hcs
    exact ⟨[], .inl ⟨rfl, rfl⟩, (by intro x hx; cases hx), capS_of (by omega)⟩
  · simp at hcs
    obtain ⟨rfl, rfl, rfl⟩ := hcs
    simp only [if_true] at hmm
    subst hmm
    by_cases h0 : len = 0
    · subst h0
      exact ⟨[], .inr (.inl ⟨a, _, rfl, rfl⟩), (by intro x hx; cases hx), capS_of (by omega)⟩
    have each : ∀ i, i < m → ∃ z : Int, W.cell? (a.add i) = some (.int .u8 z) ∧ byteI z := fun i hi => by
      obtain ⟨cs', h1, h2⟩ := hx i hi
      rw [cellsB] at h1
      obtain ⟨_, hlen, hcell⟩ := World.cells?_some h1
      obtain ⟨c0, rfl⟩ := list1 (l := cs') hlen
      obtain ⟨z, rfl, hz⟩ := byte_at h2 (by simp)
      have g0 := hcell 0 (by omega)
      rw [add_add] at g0
      exact ⟨z, by simpa using g0, hz⟩
    obtain ⟨f, hf'⟩ := choose_lt each
    obtain ⟨b, off, spot⟩ := a
    have c0 := (hf' 0 (by omega)).1
    have hspot : spot = none := by simpa [Addr.add] using World.cell?_spot c0
    subst hspot
    have hlt : b < W.heap.size := by
      rcases Nat.lt_or_ge b W.heap.size with h | h
      · exact h
      · rw [show ((⟨b, off, none⟩ : Addr).add 0) = ⟨b, off + 0, none⟩ from add_plain _ _ _] at c0
        unfold World.cell? at c0
        simp [Array.getElem?_eq_none h] at c0
    have hat : ∀ i x, ((List.range len).map f)[i]? = some x → i < len ∧ f i = x := fun i x hx => by
      have hi : i < len := by
        have := (List.getElem?_eq_some_iff.1 hx).1
        simpa using this
      refine ⟨hi, ?_⟩
      rw [List.getElem?_map, List.getElem?_range hi] at hx
      simpa using hx
    refine ⟨(List.range len).map f, .inr (.inr ⟨b, off, m, by simp, hlt, fun i x hx => ?_⟩), fun x hx => ?_, capS_of (by omega)⟩
    · obtain ⟨hi, he⟩ := hat i x hx
      have := (hf' i (by omega)).1
      rw [add_plain, he] at this
      exact this
    · obtain ⟨i, hi, rfl⟩ := List.mem_map.1 hx
      exact (hf' i (by have := List.mem_range.1 hi; omega)).2
set_option maxRecDepth 100000 in
theorem open_bytsR {H : Type} {enc : TypeId × Value → H} {W : World} {base : Nat} {v : Value} {d : DataW H} {p : List MemPlace} (hv : Value.okWide Try.prog W .any base 58 v) (h : DataW.Trod enc Try.prog W 0 (fun _ => true) true 58 v d p) :
    ∃ L : List Int, RowB W v L ∧ OkB L ∧ Hid (CapS v) := by
  obtain ⟨a0, len, cap, rfl⟩ := okWide_slice Try.underlying58 hv
  obtain ⟨fuel, hf⟩ := h
  exact bytsR_at (by simpa [Value.cells] using hf)
end Go.Proofs.Ytoppmlfibllhlaa

