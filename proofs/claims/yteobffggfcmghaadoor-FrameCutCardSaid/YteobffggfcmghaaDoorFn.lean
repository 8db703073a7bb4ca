/- The frame of the statements of layer 13: slices of numbers, and of texts, opened. -/
import Derived.Test.YteobffggfcmghaaDoorFm
import Derived.Test.YteobffggfcmghaaDoorUk
namespace Go.Proofs.YteobffggfcmghaaDoor
open Go.ChangeShapes Go.WideShapes Go.ChangeAt Go.RowKit Go.Deep
/-- A slice whose elements have one cell each, opened: P is what is known of each. -/
theorem cells_at {H : Type} {enc : TypeId × Value → H} {W : World} {ao : Option Addr} {len cap fuel : Nat} {x : DataW H × List MemPlace} {t e : TypeId} {β : Type} [Inhabited β] (ht : Tryd.prog.underlying t = some (.slice e)) (he : Tryd.prog.cellsOf e = 1) (val : β → Value) (P : β → Prop)
    (hP : ∀ (fuel : Nat) (c : Value) (x : DataW H × List MemPlace), DataW.trod enc Tryd.prog W 0 (fun _ => true) true fuel e [c] = some x → ∃ b : β, c = val b ∧ P b)
    (h : DataW.trod enc Tryd.prog W 0 (fun _ => true) true fuel t [.slice ao len cap] = some x) :
    ∃ L : List β, VRow W (.slice ao len cap) (L.map val) ∧ ∀ b ∈ L, P b := by
  rcases open_slice ht h with ⟨hcs, _⟩ | ⟨a, len', cap', m, n, D, Pl, hcs, hb, hl, hm, hmm, _, hx⟩
  · simp at hcs
    obtain ⟨rfl, rfl, rfl⟩ := hcs
    exact ⟨[], .inl ⟨rfl, rfl⟩, by simp⟩
  · simp at hcs
    obtain ⟨rfl, rfl, rfl⟩ := hcs
    simp only [if_true] at hmm
    subst hmm
    by_cases h0 : len = 0
    · subst h0
      exact ⟨[], .inr (.inl ⟨a, _, rfl, rfl⟩), by simp⟩
    have each : ∀ i, i < m → ∃ b : β, W.cell? (a.add i) = some (val b) ∧ P b := fun i hi => by
      obtain ⟨cs', h1, h2⟩ := hx i hi
      rw [he] at h1
      obtain ⟨_, hlen, hcell⟩ := World.cells?_some h1
      obtain ⟨c0, rfl⟩ := list1 (l := cs') hlen
      obtain ⟨z, rfl, hz⟩ := hP _ _ _ h2
      have g0 := hcell 0 (by omega)
      rw [add_add] at g0
      exact ⟨z, by simpa using g0, hz⟩
    obtain ⟨f, hf'⟩ := choose_lt each
    obtain ⟨b, off, spot⟩ := a
    have c0 := (hf' 0 (by omega)).1
    have hspot : spot = none := by simpa [Addr.add] using World.cell?_spot c0
    subst hspot
    have hlt : b < W.heap.size := by
      rcases Nat.lt_or_ge b W.heap.size with h | h
      · exact h
      · rw [show ((⟨b, off, none⟩ : Addr).add 0) = ⟨b, off + 0, none⟩ from add_plain _ _ _] at c0
        unfold World.cell? at c0
        simp [Array.getElem?_eq_none h] at c0
    refine ⟨(List.range len).map f, .inr (.inr ⟨b, off, m, by simp, hlt, fun i x hx => ?_⟩), fun x hx => ?_⟩
    · have hi : i < len := by
        have := (List.getElem?_eq_some_iff.1 hx).1
        simpa using this
      rw [List.getElem?_map, List.getElem?_map, List.getElem?_range hi] at hx
      have hxe : val (f i) = x := by simpa using hx
      have := (hf' i (by omega)).1
      rw [add_plain, hxe] at this
      exact this
    · obtain ⟨i, hi, rfl⟩ := List.mem_map.1 hx
      exact (hf' i (by have := List.mem_range.1 hi; omega)).2
set_option maxRecDepth 100000 in
theorem open_nums {H : Type} {enc : TypeId × Value → H} {W : World} {base : Nat} {v : Value} {d : DataW H} {p : List MemPlace} (hv : Value.okWide Tryd.prog W .any base 45 v) (h : DataW.Trod enc Tryd.prog W 0 (fun _ => true) true 45 v d p) :
    ∃ L : List Int, VRow W v (L.map (Value.int .i64)) ∧ ∀ x ∈ L, rngN x := by
  obtain ⟨a0, len, cap, rfl⟩ := okWide_slice Tryd.underlying45 hv
  obtain ⟨fuel, hf⟩ := h
  exact cells_at Tryd.underlying45 cellsI (Value.int .i64) rngN (fun _ c x hc => int_at hc (by simp)) (by simpa [Value.cells] using hf)
set_option maxRecDepth 100000 in
theorem open_texts {H : Type} {enc : TypeId × Value → H} {W : World} {base : Nat} {v : Value} {d : DataW H} {p : List MemPlace} (hv : Value.okWide Tryd.prog W .any base 44 v) (h : DataW.Trod enc Tryd.prog W 0 (fun _ => true) true 44 v d p) :
    ∃ S : List (Value × List Int), TxtR W v S := by
  obtain ⟨a0, len, cap, rfl⟩ := okWide_slice Tryd.underlying44 hv
  obtain ⟨fuel, hf⟩ := h
  haveI : Inhabited (Value × List Int) := ⟨(.slice none 0 0, [])⟩
  obtain ⟨L, h1, h2⟩ := cells_at (β := Value × List Int) Tryd.underlying44 cellsS Prod.fst (fun x => RowB W x.1 x.2 ∧ OkB x.2 ∧ CapS x.1) (fun _ c x hc => by
    obtain ⟨L, r1, r2, r3, _⟩ := byts_at hc
    exact ⟨(c, L), rfl, r1, r2, r3⟩) (by simpa [Value.cells] using hf)
  exact ⟨L, h1, h2⟩
end Go.Proofs.YteobffggfcmghaaDoor
