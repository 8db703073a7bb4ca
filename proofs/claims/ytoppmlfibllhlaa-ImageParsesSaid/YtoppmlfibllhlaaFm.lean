/- The frame of every statement of layer 11: how arguments are opened. -/
import Derived.Test.YtoppmlfibllhlaaKa
import Derived.Deep.DeepHandedRow
import Derived.Lib.LaidTab
import Derived.Lib.SmallJoins
import Derived.ProofKit
import Derived.OpenShut
import Derived.Lay
import Derived.MakeChecks
import Derived.Deep.SlicePairs
import Derived.Carry
namespace Go.Proofs.Ytoppmlfibllhlaa
open Go.ChangeShapes Go.WideShapes Go.ChangeAt Go.RowKit Go.Deep
theorem own : ownKnob Try.prog.godebug = none := by kernel_rfl
theorem laidOut : laidOutB Try.prog = true := by kernel_rfl
theorem cellsC : Try.prog.cellsOf 28 = 4 := by kernel_rfl
theorem cellsI : Try.prog.cellsOf 3 = 1 := by kernel_rfl
theorem cellsB : Try.prog.cellsOf 5 = 1 := by kernel_rfl
theorem cellsK : Try.prog.cellsOf 22 = 1 := by kernel_rfl
theorem cellsM : Try.prog.cellsOf 24 = 3 := by kernel_rfl
theorem cellsX : Try.prog.cellsOf 26 = 4 := by kernel_rfl
theorem cellsP : Try.prog.cellsOf 52 = 2 := by kernel_rfl
theorem cellsL : Try.prog.cellsOf 47 = 10 := by kernel_rfl
theorem list1 {α : Type} {l : List α} (h : l.length = 1) : ∃ c0, l = [c0] := by
  match l, h with
  | [c0], _ => exact ⟨c0, rfl⟩
theorem list2 {α : Type} {l : List α} (h : l.length = 2) : ∃ c0 c1, l = [c0, c1] := by
  match l, h with
  | [c0, c1], _ => exact ⟨c0, c1, rfl⟩
theorem list3 {α : Type} {l : List α} (h : l.length = 3) : ∃ c0 c1 c2, l = [c0, c1, c2] := by
  match l, h with
  | [c0, c1, c2], _ => exact ⟨c0, c1, c2, rfl⟩
theorem list4 {α : Type} {l : List α} (h : l.length = 4) : ∃ c0 c1 c2 c3, l = [c0, c1, c2, c3] := by
  match l, h with
  | [c0, c1, c2, c3], _ => exact ⟨c0, c1, c2, c3, rfl⟩
theorem list6 {α : Type} {l : List α} (h : l.length = 6) : ∃ c0 c1 c2 c3 c4 c5, l = [c0, c1, c2, c3, c4, c5] := by
  match l, h with
  | [c0, c1, c2, c3, c4, c5], _ => exact ⟨c0, c1, c2, c3, c4, c5, rfl⟩
theorem list10 {α : Type} {l : List α} (h : l.length = 10) : ∃ c0 c1 c2 c3 c4 c5 c6 c7 c8 c9, l = [c0, c1, c2, c3, c4, c5, c6, c7, c8, c9] := by
  match l, h with
  | [c0, c1, c2, c3, c4, c5, c6, c7, c8, c9], _ => exact ⟨c0, c1, c2, c3, c4, c5, c6, c7, c8, c9, rfl⟩
def colF (a b c d : Int) : Col := fun i => match i with | 0 => a | 1 => b | 2 => c | _ => d
theorem colF_ok {a b c d : Int} (ha : byteI a) (hb : byteI b) (hc : byteI c) (hd : byteI d) : OkC (colF a b c d) := fun i hi => by
  match i, hi with
  | 0, _ => exact ha
  | 1, _ => exact hb
  | 2, _ => exact hc
  | 3, _ => exact hd
theorem byte_wf {z : Int} (h : (Lit.int .u8 z).wf = true) : byteI z := by
  unfold Lit.wf at h
  rw [Bool.and_eq_true, decide_eq_true_eq, decide_eq_true_eq] at h
  exact ⟨h.1, h.2⟩
theorem okWide_row {P : Program} {w : World} {r : Reach} {base : Nat} {t e : TypeId} {n : Nat} {v : Value} (ht : P.underlying t = some (.array n e)) (h : Value.okWide P w r base t v) : ∃ cs, v = .agg cs ∧ cs.size = P.cellsOf t := by
  simp only [Value.okWide, ht] at h
  obtain ⟨cs, h1, h2, _⟩ := h
  exact ⟨cs, h1, h2⟩
section
variable {H : Type} {enc : TypeId × Value → H} {W : World} {base b0 : Nat} {spare : Nat → Bool} {held : Bool}
/-- A cell of a struct or of an array that is an int. -/
theorem int_at {m : Nat} {o : Option (DataW H × List MemPlace)} {c : Value} (h : DataW.trod enc Try.prog W base spare held m 3 [c] = o) (ho : o ≠ none) : ∃ z : Int, c = .int .i64 z := by
  obtain ⟨x, rfl⟩ := Option.ne_none_iff_exists'.1 ho
  obtain ⟨z, hz, _, _⟩ := DataW.trod_int Try.underlying3 h
  exact ⟨z, by simpa using hz⟩
theorem byte_at {m : Nat} {o : Option (DataW H × List MemPlace)} {c : Value} (h : DataW.trod enc Try.prog W base spare held m 5 [c] = o) (ho : o ≠ none) : ∃ z : Int, c = .int .u8 z ∧ byteI z := by
  obtain ⟨x, rfl⟩ := Option.ne_none_iff_exists'.1 ho
  obtain ⟨z, hz, _, hw⟩ := DataW.trod_int Try.underlying5 h
  exact ⟨z, by simpa using hz, byte_wf hw⟩
theorem col_at {m : Nat} {c0 c1 c2 c3 : Value} {x : DataW H × List MemPlace} (h : DataW.trod enc Try.prog W base spare held m 28 [c0, c1, c2, c3] = some x) : ∃ c : Col, c0 = .int .u8 (c 0) ∧ c1 = .int .u8 (c 1) ∧ c2 = .int .u8 (c 2) ∧ c3 = .int .u8 (c 3) ∧ OkC c := by
  obtain ⟨xs, k, _, _, _, hlen, hg⟩ := DataW.trod_array Try.underlying28 h
  obtain ⟨y0, y1, y2, y3, rfl⟩ := list4 hlen
  obtain ⟨z0, rfl, b0⟩ := byte_at (by have := hg 0 (by decide); simpa [cellsB, Value.cells] using this) (by simp)
  obtain ⟨z1, rfl, b1⟩ := byte_at (by have := hg 1 (by decide); simpa [cellsB, Value.cells] using this) (by simp)
  obtain ⟨z2, rfl, b2⟩ := byte_at (by have := hg 2 (by decide); simpa [cellsB, Value.cells] using this) (by simp)
  obtain ⟨z3, rfl, b3⟩ := byte_at (by have := hg 3 (by decide); simpa [cellsB, Value.cells] using this) (by simp)
  exact ⟨colF z0 z1 z2 z3, rfl, rfl, rfl, rfl, colF_ok b0 b1 b2 b3⟩
set_option maxRecDepth 100000 in
theorem open_col {v : Value} {d : DataW H} {p : List MemPlace} (hv : Value.okWide Try.prog W .any b0 28 v) (h : DataW.Trod enc Try.prog W base spare held 28 v d p) :
    ∃ c : Col, v = .agg #[.int .u8 (c 0), .int .u8 (c 1), .int .u8 (c 2), .int .u8 (c 3)] ∧ OkC c := by
  obtain ⟨cs, rfl, hsz⟩ := okWide_row Try.underlying28 hv
  obtain ⟨l⟩ := cs
  obtain ⟨c0, c1, c2, c3, rfl⟩ := list4 (l := l) (by simpa [cellsC] using hsz)
  obtain ⟨fuel, hf⟩ := h
  obtain ⟨c, rfl, rfl, rfl, rfl, hc⟩ := col_at (by simpa [Value.cells] using hf)
  exact ⟨c, rfl, hc⟩
end
theorem capS_of {a : Option Addr} {n c : Nat} (h : n ≤ c) : Hid (CapS (.slice a n c)) := fun a' n' c' e => by cases e; exact h
/-- A slice of colours, opened. -/
theorem cols_at {H : Type} {enc : TypeId × Value → H} {W : World} {ao : Option Addr} {len cap fuel : Nat} {x : DataW H × List MemPlace} (h : DataW.trod enc Try.prog W 0 (fun _ => true) true fuel 22 [.slice ao len cap] = some x) :
    ∃ l : List Col, RowK .u8 W (.slice ao len cap) l ∧ (∀ c ∈ l, OkC c) ∧ Hid (CapS (.slice ao len cap)) := by
  rcases open_slice Try.underlying22 h with ⟨hcs, _⟩ | ⟨a, len', cap', m, n, D, Pl, hcs, hb, hl, hm, hmm, _, hx⟩
  · simp at hcs
    obtain ⟨rfl, rfl, rfl⟩ := hcs
    exact ⟨[], .inl ⟨rfl, rfl⟩, by simp, capS_of (by omega)⟩
  · simp at hcs
    obtain ⟨rfl, rfl, rfl⟩ := hcs
    simp only [if_true] at hmm
    subst hmm
    by_cases h0 : len = 0
    · subst h0
      exact ⟨[], .inr (.inl ⟨a, _, rfl, rfl⟩), by simp, capS_of (by omega)⟩
    have each : ∀ i, i < m → ∃ p : Col, W.cell? (a.add (i * 4)) = some (.int .u8 (p 0)) ∧ W.cell? (a.add (i * 4 + 1)) = some (.int .u8 (p 1)) ∧ W.cell? (a.add (i * 4 + 2)) = some (.int .u8 (p 2)) ∧ W.cell? (a.add (i * 4 + 3)) = some (.int .u8 (p 3)) ∧ OkC p := fun i hi => by
      obtain ⟨cs', h1, h2⟩ := hx i hi
      rw [cellsC] at h1
      obtain ⟨_, hlen, hcell⟩ := World.cells?_some h1
      obtain ⟨c0, c1, c2, c3, rfl⟩ := list4 (l := cs') hlen
      obtain ⟨p, rfl, rfl, rfl, rfl, hc⟩ := col_at h2
      have g0 := hcell 0 (by omega)
      have g1 := hcell 1 (by omega)
      have g2 := hcell 2 (by omega)
      have g3 := hcell 3 (by omega)
      rw [add_add] at g0 g1 g2 g3
      exact ⟨p, by simpa using g0, by simpa using g1, by simpa using g2, by simpa using g3, hc⟩
    obtain ⟨f, hf'⟩ := choose_lt each
    obtain ⟨b, off, spot⟩ := a
    have c0 := (hf' 0 (by omega)).1
    have hspot : spot = none := by simpa [Addr.add] using World.cell?_spot c0
    subst hspot
    have hlt : b < W.heap.size := by
      rcases Nat.lt_or_ge b W.heap.size with h | h
      · exact h
      · rw [show ((⟨b, off, none⟩ : Addr).add (0 * 4)) = ⟨b, off + 0 * 4, none⟩ from add_plain _ _ _] at c0
        unfold World.cell? at c0
        simp [Array.getElem?_eq_none h] at c0
    have hat : ∀ i p, ((List.range len).map f)[i]? = some p → i < len ∧ f i = p := fun i p hp => by
      have hi : i < len := by
        have := (List.getElem?_eq_some_iff.1 hp).1
        simpa using this
      refine ⟨hi, ?_⟩
      rw [List.getElem?_map, List.getElem?_range hi] at hp
      simpa using hp
    refine ⟨(List.range len).map f, .inr (.inr ⟨b, off, m, by simp, hlt, fun i p hp => ?_⟩), fun p hp => ?_, capS_of (by omega)⟩
    · obtain ⟨hi, hpe⟩ := hat i p hp
      have := hf' i (by omega)
      rw [add_plain, add_plain, add_plain, add_plain, hpe] at this
      obtain ⟨k0, k1, k2, k3, _⟩ := this
      unfold ColAt
      rw [Nat.add_assoc, Nat.add_assoc, Nat.add_assoc]
      exact ⟨k0, k1, k2, k3⟩
    · obtain ⟨i, hi, rfl⟩ := List.mem_map.1 hp
      exact (hf' i (by have := List.mem_range.1 hi; omega)).2.2.2.2
/-- A slice of bytes, opened. -/
theorem byts_at {H : Type} {enc : TypeId × Value → H} {W : World} {ao : Option Addr} {len cap fuel : Nat} {x : DataW H × List MemPlace} (h : DataW.trod enc Try.prog W 0 (fun _ => true) true fuel 58 [.slice ao len cap] = some x) :
    ∃ L : List Int, RowB W (.slice ao len cap) L ∧ OkB L := by
  rcases open_slice Try.underlying58 h with ⟨hcs, _⟩ | ⟨a, len', cap', m, n, D, Pl, hcs, hb, hl, hm, hmm, _, hx⟩
  · simp at hcs
    obtain ⟨rfl, rfl, rfl⟩ := hcs
    exact ⟨[], .inl ⟨rfl, rfl⟩, by intro x hx; cases hx⟩
  · simp at hcs
    obtain ⟨rfl, rfl, rfl⟩ := hcs
    simp only [if_true] at hmm
    subst hmm
    by_cases h0 : len = 0
    · subst h0
      exact ⟨[], .inr (.inl ⟨a, _, rfl, rfl⟩), by intro x hx; cases hx⟩
    have each : ∀ i, i < m → ∃ z : Int, W.cell? (a.add i) = some (.int .u8 z) ∧ byteI z := fun i hi => by
      obtain ⟨cs', h1, h2⟩ := hx i hi
      rw [cellsB] at h1
      obtain ⟨_, hlen, hcell⟩ := World.cells?_some h1
      obtain ⟨c0, rfl⟩ := list1 (l := cs') hlen
      obtain ⟨z, rfl, hz⟩ := byte_at h2 (by simp)
      have g0 := hcell 0 (by omega)
      rw [add_add] at g0
      exact ⟨z, by simpa using g0, hz⟩
    obtain ⟨f, hf'⟩ := choose_lt each
    obtain ⟨b, off, spot⟩ := a
    have c0 := (hf' 0 (by omega)).1
    have hspot : spot = none := by simpa [Addr.add] using World.cell?_spot c0
    subst hspot
    have hlt : b < W.heap.size := by
      rcases Nat.lt_or_ge b W.heap.size with h | h
      · exact h
      · rw [show ((⟨b, off, none⟩ : Addr).add 0) = ⟨b, off + 0, none⟩ from add_plain _ _ _] at c0
        unfold World.cell? at c0
        simp [Array.getElem?_eq_none h] at c0
    have hat : ∀ i x, ((List.range len).map f)[i]? = some x → i < len ∧ f i = x := fun i x hx => by
      have hi : i < len := by
        have := (List.getElem?_eq_some_iff.1 hx).1
        simpa using this
      refine ⟨hi, ?_⟩
      rw [List.getElem?_map, List.getElem?_range hi] at hx
      simpa using hx
    refine ⟨(List.range len).map f, .inr (.inr ⟨b, off, m, by simp, hlt, fun i x hx => ?_⟩), fun x hx => ?_⟩
    · obtain ⟨hi, he⟩ := hat i x hx
      have := (hf' i (by omega)).1
      rw [add_plain, he] at this
      exact this
    · obtain ⟨i, hi, rfl⟩ := List.mem_map.1 hx
      exact (hf' i (by have := List.mem_range.1 hi; omega)).2
/-- A slice of colours within a struct: its value is a slice. -/
theorem slice_at {H : Type} {enc : TypeId × Value → H} {W : World} {c0 : Value} {fuel : Nat} {x : DataW H × List MemPlace} (h : DataW.trod enc Try.prog W 0 (fun _ => true) true fuel 22 [c0] = some x) :
    ∃ l : List Col, RowK .u8 W c0 l ∧ (∀ c ∈ l, OkC c) ∧ Hid (CapS c0) := by
  obtain ⟨ao, n, c, rfl⟩ : ∃ ao n c, c0 = .slice ao n c := by
    rcases open_slice Try.underlying22 h with ⟨hcs, _⟩ | ⟨a, len', cap', m', n', D, Pl, hcs, _, hlc, _⟩
    · simp at hcs; exact ⟨_, _, _, hcs⟩
    · simp at hcs; exact ⟨_, _, _, hcs⟩
  exact cols_at h
theorem im_at {H : Type} {enc : TypeId × Value → H} {W : World} {c0 c1 c2 : Value} {fuel : Nat} {x : DataW H × List MemPlace} (h : DataW.trod enc Try.prog W 0 (fun _ => true) true fuel 24 [c0, c1, c2] = some x) :
    ∃ (a b : Int) (l : List Col), c0 = .int .i64 a ∧ c1 = .int .i64 b ∧ RowK .u8 W c2 l ∧ (∀ c ∈ l, OkC c) ∧ Hid (CapS c2) := by
  obtain ⟨xs, k, _, hx, hl, hlen, hf⟩ := DataW.trod_struct Try.underlying24 h
  obtain ⟨y0, y1, y2, rfl⟩ := list3 (l := xs) (by rw [hlen]; rfl)
  obtain ⟨a, rfl⟩ := int_at (by have := hf 0 _ rfl; simpa [cellsI, cellsK] using this) (by simp)
  obtain ⟨b, rfl⟩ := int_at (by have := hf 1 _ rfl; simpa [cellsI, cellsK] using this) (by simp)
  obtain ⟨l, row, hok, hcp⟩ := slice_at (c0 := c2) (x := y2) (fuel := k) (by have := hf 2 _ rfl; simpa [cellsI, cellsK] using this)
  exact ⟨a, b, l, rfl, rfl, row, hok, hcp⟩
set_option maxRecDepth 100000 in
theorem open_im {H : Type} {enc : TypeId × Value → H} {W : World} {base : Nat} {v : Value} {d : DataW H} {p : List MemPlace} (hv : Value.okWide Try.prog W .any base 24 v) (h : DataW.Trod enc Try.prog W 0 (fun _ => true) true 24 v d p) :
    ∃ (a b : Int) (s : Value) (l : List Col), v = .agg #[.int .i64 a, .int .i64 b, s] ∧ RowK .u8 W s l ∧ (∀ c ∈ l, OkC c) ∧ Hid (CapS s) := by
  obtain ⟨cs, rfl, hsz⟩ := okWide_struct Try.underlying24 hv
  obtain ⟨l⟩ := cs
  obtain ⟨c0, c1, c2, rfl⟩ := list3 (l := l) (by simpa [cellsM] using hsz)
  obtain ⟨fuel, hf⟩ := h
  obtain ⟨a, b, l, rfl, rfl, row, hok, hcp⟩ := im_at (by simpa [Value.cells] using hf)
  exact ⟨a, b, c2, l, rfl, row, hok, hcp⟩
set_option maxRecDepth 100000 in
theorem open_box {H : Type} {enc : TypeId × Value → H} {W : World} {base : Nat} {v : Value} {d : DataW H} {p : List MemPlace} (hv : Value.okWide Try.prog W .any base 26 v) (h : DataW.Trod enc Try.prog W 0 (fun _ => true) true 26 v d p) :
    ∃ a b c e : Int, v = .agg #[.int .i64 a, .int .i64 b, .int .i64 c, .int .i64 e] := by
  obtain ⟨cs, rfl, hsz⟩ := okWide_struct Try.underlying26 hv
  obtain ⟨l⟩ := cs
  obtain ⟨c0, c1, c2, c3, rfl⟩ := list4 (l := l) (by simpa [cellsX] using hsz)
  obtain ⟨fuel, hf⟩ := h
  obtain ⟨xs, k, _, hx, hl, hlen, hg⟩ := DataW.trod_struct Try.underlying26 (by simpa [Value.cells] using hf)
  obtain ⟨y0, y1, y2, y3, rfl⟩ := list4 (l := xs) (by rw [hlen]; rfl)
  obtain ⟨z0, rfl⟩ := int_at (by have := hg 0 _ rfl; simpa [cellsI] using this) (by simp)
  obtain ⟨z1, rfl⟩ := int_at (by have := hg 1 _ rfl; simpa [cellsI] using this) (by simp)
  obtain ⟨z2, rfl⟩ := int_at (by have := hg 2 _ rfl; simpa [cellsI] using this) (by simp)
  obtain ⟨z3, rfl⟩ := int_at (by have := hg 3 _ rfl; simpa [cellsI] using this) (by simp)
  exact ⟨z0, z1, z2, z3, rfl⟩
set_option maxRecDepth 100000 in
theorem open_pt {H : Type} {enc : TypeId × Value → H} {W : World} {base : Nat} {v : Value} {d : DataW H} {p : List MemPlace} (hv : Value.okWide Try.prog W .any base 52 v) (h : DataW.Trod enc Try.prog W 0 (fun _ => true) true 52 v d p) :
    ∃ a b : Int, v = .agg #[.int .i64 a, .int .i64 b] := by
  obtain ⟨cs, rfl, hsz⟩ := okWide_struct Try.underlying52 hv
  obtain ⟨l⟩ := cs
  obtain ⟨c0, c1, rfl⟩ := list2 (l := l) (by simpa [cellsP] using hsz)
  obtain ⟨fuel, hf⟩ := h
  obtain ⟨xs, k, _, hx, hl, hlen, hg⟩ := DataW.trod_struct Try.underlying52 (by simpa [Value.cells] using hf)
  obtain ⟨y0, y1, rfl⟩ := list2 (l := xs) (by rw [hlen]; rfl)
  obtain ⟨z0, rfl⟩ := int_at (by have := hg 0 _ rfl; simpa [cellsI] using this) (by simp)
  obtain ⟨z1, rfl⟩ := int_at (by have := hg 1 _ rfl; simpa [cellsI] using this) (by simp)
  exact ⟨z0, z1, rfl⟩
set_option maxRecDepth 100000 in
theorem open_laid {H : Type} {enc : TypeId × Value → H} {W : World} {base : Nat} {v : Value} {d : DataW H} {p : List MemPlace} (hv : Value.okWide Try.prog W .any base 47 v) (h : DataW.Trod enc Try.prog W 0 (fun _ => true) true 47 v d p) :
    ∃ (a b a' b' x y z m : Int) (s s' : Value) (l l' : List Col), v = .agg #[.int .i64 a, .int .i64 b, s, .int .i64 a', .int .i64 b', s', .int .i64 x, .int .i64 y, .int .u8 z, .int .i64 m] ∧ RowK .u8 W s l ∧ RowK .u8 W s' l' ∧ (∀ c ∈ l, OkC c) ∧ (∀ c ∈ l', OkC c) ∧ byteI z ∧ Hid (CapS s) ∧ Hid (CapS s') := by
  obtain ⟨cs, rfl, hsz⟩ := okWide_struct Try.underlying47 hv
  obtain ⟨l⟩ := cs
  obtain ⟨c0, c1, c2, c3, c4, c5, c6, c7, c8, c9, rfl⟩ := list10 (l := l) (by simpa [cellsL] using hsz)
  obtain ⟨fuel, hf⟩ := h
  obtain ⟨xs, k, _, hx, hl, hlen, hg⟩ := DataW.trod_struct Try.underlying47 (by simpa [Value.cells] using hf)
  obtain ⟨y0, y1, y2, y3, y4, y5, rfl⟩ := list6 (l := xs) (by rw [hlen]; rfl)
  obtain ⟨a, b, l, rfl, rfl, row, hok, hcp⟩ := im_at (c0 := c0) (c1 := c1) (c2 := c2) (x := y0) (fuel := k) (by have := hg 0 _ rfl; simpa [cellsI, cellsM, cellsB] using this)
  obtain ⟨a', b', l', rfl, rfl, row', hok', hcp'⟩ := im_at (c0 := c3) (c1 := c4) (c2 := c5) (x := y1) (fuel := k) (by have := hg 1 _ rfl; simpa [cellsI, cellsM, cellsB] using this)
  obtain ⟨x, rfl⟩ := int_at (by have := hg 2 _ rfl; simpa [cellsI, cellsM, cellsB] using this) (by simp)
  obtain ⟨y, rfl⟩ := int_at (by have := hg 3 _ rfl; simpa [cellsI, cellsM, cellsB] using this) (by simp)
  obtain ⟨z, rfl, hz⟩ := byte_at (by have := hg 4 _ rfl; simpa [cellsI, cellsM, cellsB] using this) (by simp)
  obtain ⟨m, rfl⟩ := int_at (by have := hg 5 _ rfl; simpa [cellsI, cellsM, cellsB] using this) (by simp)
  exact ⟨a, b, a', b', x, y, z, m, c2, c5, l, l', rfl, row, row', hok, hok', hz, hcp, hcp'⟩
set_option maxRecDepth 100000 in
theorem open_byts {H : Type} {enc : TypeId × Value → H} {W : World} {base : Nat} {v : Value} {d : DataW H} {p : List MemPlace} (hv : Value.okWide Try.prog W .any base 58 v) (h : DataW.Trod enc Try.prog W 0 (fun _ => true) true 58 v d p) :
    ∃ L : List Int, RowB W v L ∧ OkB L := by
  obtain ⟨a0, len, cap, rfl⟩ := okWide_slice Try.underlying58 hv
  obtain ⟨fuel, hf⟩ := h
  exact byts_at (by simpa [Value.cells] using hf)
end Go.Proofs.Ytoppmlfibllhlaa

