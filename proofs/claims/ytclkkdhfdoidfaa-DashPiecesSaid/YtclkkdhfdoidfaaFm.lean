/- The frame of every statement of this seat: how arguments are opened. -/
import Derived.Test.YtclkkdhfdoidfaaDc
import Derived.Deep.DeepHandedRow
import Derived.Lib.LaidTab
import Derived.Lib.SmallJoins
import Derived.ProofKit
import Derived.OpenShut
import Derived.Lay
import Derived.MakeChecks
import Derived.Deep.SlicePairs
import Derived.Carry
namespace Go.Proofs.Ytclkkdhfdoidfaa
open Go.ChangeShapes Go.WideShapes Go.ChangeAt Go.RowKit Go.Deep
theorem own : ownKnob Try.prog.godebug = none := by kernel_rfl
theorem laidOut : laidOutB Try.prog = true := by kernel_rfl
theorem cellsP : Try.prog.cellsOf 32 = 2 := by kernel_rfl
theorem cellsI : Try.prog.cellsOf 3 = 1 := by kernel_rfl
theorem cellsV : Try.prog.cellsOf 44 = 1 := by kernel_rfl
theorem cellsL : Try.prog.cellsOf 22 = 1 := by kernel_rfl
theorem cellsT : Try.prog.cellsOf 4 = 1 := by kernel_rfl
theorem cellsU : Try.prog.cellsOf 46 = 2 := by kernel_rfl
theorem cellsD : Try.prog.cellsOf 24 = 2 := by kernel_rfl
theorem list2 {α : Type} {l : List α} (h : l.length = 2) : ∃ c0 c1, l = [c0, c1] := by
  match l, h with
  | [c0, c1], _ => exact ⟨c0, c1, rfl⟩
theorem list1 {α : Type} {l : List α} (h : l.length = 1) : ∃ c0, l = [c0] := by
  match l, h with
  | [c0], _ => exact ⟨c0, rfl⟩
section
variable {H : Type} {enc : TypeId × Value → H} {W : World} {base b0 : Nat} {spare : Nat → Bool} {held : Bool}
/-- A cell of a struct or of an array that is an int. -/
theorem int_at {m : Nat} {o : Option (DataW H × List MemPlace)} {c : Value} (h : DataW.trod enc Try.prog W base spare held m 3 [c] = o) (ho : o ≠ none) : ∃ z : Int, c = .int .i64 z ∧ (Lit.int .i64 z).wf = true ∧ o = some (.lit (.int .i64 z), []) := by
  obtain ⟨x, rfl⟩ := Option.ne_none_iff_exists'.1 ho
  obtain ⟨z, hz, he, hw⟩ := DataW.trod_int Try.underlying3 h
  exact ⟨z, by simpa using hz, hw, by rw [he]⟩
theorem pair_ints {m : Nat} {c0 c1 : Value} {x : DataW H × List MemPlace} (h : DataW.trod enc Try.prog W base spare held m 32 [c0, c1] = some x) : ∃ p : Pt, c0 = .int .i64 p.1 ∧ c1 = .int .i64 p.2 := by
  obtain ⟨xs, k, _, hx, hl, hlen, hf⟩ := DataW.trod_struct Try.underlying32 h
  obtain ⟨y0, y1, rfl⟩ := list2 (l := xs) (by rw [hlen]; rfl)
  obtain ⟨z0, rfl, _, _⟩ := int_at (by have := hf 0 _ rfl; simpa [cellsI] using this) (by simp)
  obtain ⟨z1, rfl, _, _⟩ := int_at (by have := hf 1 _ rfl; simpa [cellsI] using this) (by simp)
  exact ⟨(z0, z1), rfl, rfl⟩
end
/-- A slice of points, opened. -/
theorem pts_at {H : Type} {enc : TypeId × Value → H} {W : World} {ao : Option Addr} {len cap fuel : Nat} {x : DataW H × List MemPlace} (h : DataW.trod enc Try.prog W 0 (fun _ => true) true fuel 44 [.slice ao len cap] = some x) :
    ∃ l : List Pt, Row W (.slice ao len cap) l := by
  rcases open_slice Try.underlying44 h with ⟨hcs, _⟩ | ⟨a, len', cap', m, n, D, Pl, hcs, hb, hl, hm, hmm, _, hx⟩
  · simp at hcs
    obtain ⟨rfl, rfl, rfl⟩ := hcs
    exact ⟨[], .inl ⟨rfl, rfl⟩⟩
  · simp at hcs
    obtain ⟨rfl, rfl, rfl⟩ := hcs
    simp only [if_true] at hmm
    subst hmm
    by_cases h0 : len = 0
    · subst h0
      exact ⟨[], .inr (.inl ⟨a, _, rfl, rfl⟩)⟩
    have each : ∀ i, i < m → ∃ p : Pt, W.cell? (a.add (i * 2)) = some (.int .i64 p.1) ∧ W.cell? (a.add (i * 2 + 1)) = some (.int .i64 p.2) := fun i hi => by
      obtain ⟨cs', h1, h2⟩ := hx i hi
      rw [cellsP] at h1
      obtain ⟨_, hlen, hcell⟩ := World.cells?_some h1
      obtain ⟨c0, c1, rfl⟩ := list2 (l := cs') hlen
      obtain ⟨p, rfl, rfl⟩ := pair_ints h2
      have g0 := hcell 0 (by omega)
      have g1 := hcell 1 (by omega)
      rw [add_add] at g0 g1
      exact ⟨p, by simpa using g0, by simpa using g1⟩
    obtain ⟨f, hf'⟩ := choose_lt each
    obtain ⟨b, off, spot⟩ := a
    have c0 := (hf' 0 (by omega)).1
    have hspot : spot = none := by simpa [Addr.add] using World.cell?_spot c0
    subst hspot
    have hlt : b < W.heap.size := by
      rcases Nat.lt_or_ge b W.heap.size with h | h
      · exact h
      · rw [show ((⟨b, off, none⟩ : Addr).add (0 * 2)) = ⟨b, off + 0 * 2, none⟩ from add_plain _ _ _] at c0
        unfold World.cell? at c0
        simp [Array.getElem?_eq_none h] at c0
    refine ⟨(List.range len).map f, .inr (.inr ⟨b, off, m, by simp, hlt, fun i p hp => ?_⟩)⟩
    have hi : i < len := by
      have := (List.getElem?_eq_some_iff.1 hp).1
      simpa using this
    have hpe : f i = p := by
      rw [List.getElem?_map, List.getElem?_range hi] at hp
      simpa using hp
    have := hf' i (by omega)
    rw [add_plain, add_plain, hpe] at this
    rw [Nat.add_assoc]; exact this
/-- A slice within a struct: its value is a slice. -/
theorem slice_at {H : Type} {enc : TypeId × Value → H} {W : World} {c0 : Value} {fuel : Nat} {x : DataW H × List MemPlace} (h : DataW.trod enc Try.prog W 0 (fun _ => true) true fuel 44 [c0] = some x) :
    ∃ (ao : Option Addr) (n c : Nat) (l : List Pt), c0 = .slice ao n c ∧ Row W (.slice ao n c) l ∧ n ≤ c := by
  obtain ⟨ao, n, c, rfl, hnc⟩ : ∃ ao n c, c0 = .slice ao n c ∧ n ≤ c := by
    rcases open_slice Try.underlying44 h with ⟨hcs, _⟩ | ⟨a, len', cap', m', n', D, Pl, hcs, _, hlc, _⟩
    · simp at hcs; exact ⟨_, _, _, hcs, Nat.le_refl _⟩
    · simp at hcs; exact ⟨_, _, _, hcs, hlc⟩
  obtain ⟨l, hl⟩ := pts_at h
  exact ⟨_, _, _, l, rfl, hl, hnc⟩
set_option maxRecDepth 100000 in
theorem open_pt {H : Type} {enc : TypeId × Value → H} {W : World} {base : Nat} {v : Value} {d : DataW H} {p : List MemPlace} (hv : Value.okWide Try.prog W .any base 32 v) (h : DataW.Trod enc Try.prog W 0 (fun _ => true) true 32 v d p) :
    ∃ a b : Int, v = .agg #[.int .i64 a, .int .i64 b] := by
  obtain ⟨cs, rfl, hsz⟩ := okWide_struct Try.underlying32 hv
  obtain ⟨l⟩ := cs
  obtain ⟨c0, c1, rfl⟩ := list2 (l := l) (by simpa [cellsP] using hsz)
  obtain ⟨fuel, hf⟩ := h
  obtain ⟨q, rfl, rfl⟩ := pair_ints (by simpa [Value.cells] using hf)
  exact ⟨_, _, rfl⟩
theorem sub_at {H : Type} {enc : TypeId × Value → H} {W : World} {c0 c1 : Value} {fuel : Nat} {x : DataW H × List MemPlace} (h : DataW.trod enc Try.prog W 0 (fun _ => true) true fuel 46 [c0, c1] = some x) :
    ∃ (ao : Option Addr) (n c : Nat) (l : List Pt) (cl : Bool), c0 = .slice ao n c ∧ c1 = .bool cl ∧ Row W (.slice ao n c) l ∧ n ≤ c := by
  obtain ⟨xs, k, _, hx, hl, hlen, hf⟩ := DataW.trod_struct Try.underlying46 h
  obtain ⟨y0, y1, rfl⟩ := list2 (l := xs) (by rw [hlen]; rfl)
  obtain ⟨ao, n, c, l, rfl, row, hnc⟩ := slice_at (c0 := c0) (x := y0) (fuel := k) (by have := hf 0 _ rfl; simpa [cellsV] using this)
  obtain ⟨b, hb, _, _⟩ := DataW.trod_bool (x := y1) (fuel := k) Try.underlying4 (by have := hf 1 _ rfl; simpa [cellsT] using this)
  exact ⟨ao, n, c, l, b, rfl, by simpa using hb, row, hnc⟩
set_option maxRecDepth 100000 in
theorem open_sub {H : Type} {enc : TypeId × Value → H} {W : World} {base : Nat} {v : Value} {d : DataW H} {p : List MemPlace} (hv : Value.okWide Try.prog W .any base 46 v) (h : DataW.Trod enc Try.prog W 0 (fun _ => true) true 46 v d p) :
    ∃ (ao : Option Addr) (n c : Nat) (l : List Pt) (cl : Bool), v = .agg #[.slice ao n c, .bool cl] ∧ Row W (.slice ao n c) l ∧ n ≤ c := by
  obtain ⟨cs, rfl, hsz⟩ := okWide_struct Try.underlying46 hv
  obtain ⟨l⟩ := cs
  obtain ⟨c0, c1, rfl⟩ := list2 (l := l) (by simpa [cellsU] using hsz)
  obtain ⟨fuel, hf⟩ := h
  obtain ⟨ao, n, c, l, cl, rfl, rfl, row, hnc⟩ := sub_at (by simpa [Value.cells] using hf)
  exact ⟨ao, n, c, l, cl, rfl, row, hnc⟩
/-- A slice of ints, opened. -/
theorem ints_at {H : Type} {enc : TypeId × Value → H} {W : World} {ao : Option Addr} {len cap fuel : Nat} {x : DataW H × List MemPlace} (h : DataW.trod enc Try.prog W 0 (fun _ => true) true fuel 22 [.slice ao len cap] = some x) :
    ∃ L : List Int, RowI W (.slice ao len cap) L := by
  rcases open_slice Try.underlying22 h with ⟨hcs, _⟩ | ⟨a, len', cap', m, n, D, Pl, hcs, hb, hl, hm, hmm, _, hx⟩
  · simp at hcs
    obtain ⟨rfl, rfl, rfl⟩ := hcs
    exact ⟨[], .inl ⟨rfl, rfl⟩⟩
  · simp at hcs
    obtain ⟨rfl, rfl, rfl⟩ := hcs
    simp only [if_true] at hmm
    subst hmm
    by_cases h0 : len = 0
    · subst h0
      exact ⟨[], .inr (.inl ⟨a, _, rfl, rfl⟩)⟩
    have each : ∀ i, i < m → ∃ z : Int, W.cell? (a.add i) = some (.int .i64 z) := fun i hi => by
      obtain ⟨cs', h1, h2⟩ := hx i hi
      rw [cellsI] at h1
      obtain ⟨_, hlen, hcell⟩ := World.cells?_some h1
      obtain ⟨c0, rfl⟩ := list1 (l := cs') hlen
      obtain ⟨z, rfl, _, _⟩ := int_at h2 (by simp)
      have g0 := hcell 0 (by omega)
      rw [add_add] at g0
      exact ⟨z, by simpa using g0⟩
    obtain ⟨f, hf'⟩ := choose_lt each
    obtain ⟨b, off, spot⟩ := a
    have c0 := hf' 0 (by omega)
    have hspot : spot = none := by simpa [Addr.add] using World.cell?_spot c0
    subst hspot
    have hlt : b < W.heap.size := by
      rcases Nat.lt_or_ge b W.heap.size with h | h
      · exact h
      · rw [show ((⟨b, off, none⟩ : Addr).add 0) = ⟨b, off + 0, none⟩ from add_plain _ _ _] at c0
        unfold World.cell? at c0
        simp [Array.getElem?_eq_none h] at c0
    refine ⟨(List.range len).map f, .inr (.inr ⟨b, off, m, by simp, hlt, fun i v hv => ?_⟩)⟩
    rw [List.getElem?_map, List.getElem?_map] at hv
    obtain ⟨z, hz, rfl⟩ := Option.map_eq_some_iff.1 hv
    obtain ⟨j, hj, rfl⟩ := Option.map_eq_some_iff.1 hz
    have hi : i < len := by
      have := (List.getElem?_eq_some_iff.1 hj).1
      simpa using this
    rw [List.getElem?_range hi] at hj
    cases hj
    have := hf' i (by omega)
    rwa [add_plain] at this
set_option maxRecDepth 100000 in
theorem open_pat {H : Type} {enc : TypeId × Value → H} {W : World} {base : Nat} {v : Value} {d : DataW H} {p : List MemPlace} (hv : Value.okWide Try.prog W .any base 24 v) (h : DataW.Trod enc Try.prog W 0 (fun _ => true) true 24 v d p) :
    ∃ (ao : Option Addr) (n c : Nat) (L : List Int) (x : Int), v = .agg #[.slice ao n c, .int .i64 x] ∧ RowI W (.slice ao n c) L ∧ n ≤ c := by
  obtain ⟨cs, rfl, hsz⟩ := okWide_struct Try.underlying24 hv
  obtain ⟨l⟩ := cs
  obtain ⟨c0, c1, rfl⟩ := list2 (l := l) (by simpa [cellsD] using hsz)
  obtain ⟨fuel, hf⟩ := h
  obtain ⟨xs, m, _, _, _, hlen, hg⟩ := DataW.trod_struct Try.underlying24 hf
  obtain ⟨z0, z1, rfl⟩ := list2 (l := xs) (by rw [hlen]; rfl)
  obtain ⟨x, rfl, _, _⟩ := int_at (by have := hg 1 _ rfl; simpa [cellsI, Value.cells] using this) (by simp)
  have hs : DataW.trod enc Try.prog W 0 (fun _ => true) true m 22 [c0] = some z0 := by have := hg 0 _ rfl; simpa [cellsL, Value.cells] using this
  obtain ⟨ao, n, c, rfl, hnc⟩ : ∃ ao n c, c0 = .slice ao n c ∧ n ≤ c := by
    rcases open_slice Try.underlying22 hs with ⟨hcs, _⟩ | ⟨a, len', cap', m', n', D, Pl, hcs, _, hlc, _⟩
    · simp at hcs; exact ⟨_, _, _, hcs, Nat.le_refl _⟩
    · simp at hcs; exact ⟨_, _, _, hcs, hlc⟩
  obtain ⟨L, hL⟩ := ints_at hs
  exact ⟨ao, n, c, L, x, rfl, hL, hnc⟩
end Go.Proofs.Ytclkkdhfdoidfaa
