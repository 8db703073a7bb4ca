/- The frame of every statement of this seat: what the listed variable gives, and how arguments are opened. -/
import Derived.Test.YtdidbejinfkhbaaDoorCards
import Derived.Test.YtdidbejinfkhbaaDoorTie
import Derived.Test.YtdidbejinfkhbaaDoorSi
import Derived.Deep.DeepHandedRow
import Derived.Lib.LaidTab
import Derived.Lib.SmallJoins
import Derived.ProofKit
import Derived.OpenShut
import Derived.Lay
import Derived.MakeChecks
import Derived.Deep.SlicePairs
import Derived.Carry
namespace Go.Proofs.YtdidbejinfkhbaaDoor
open Go.ChangeShapes Go.WideShapes Go.ChangeAt Go.RowKit Go.Deep
theorem own : ownKnob Tryd.prog.godebug = none := by kernel_rfl
theorem laidOut : laidOutB Tryd.prog = true := by kernel_rfl
theorem cellsP : Tryd.prog.cellsOf 23 = 2 := by kernel_rfl
theorem cellsI : Tryd.prog.cellsOf 3 = 1 := by kernel_rfl
theorem cells5 : Tryd.prog.cellsOf 90 = 5 := by kernel_rfl
theorem cellsV : Tryd.prog.cellsOf 24 = 1 := by kernel_rfl
theorem cellsT : Tryd.prog.cellsOf 4 = 1 := by kernel_rfl
theorem cellsU : Tryd.prog.cellsOf 39 = 2 := by kernel_rfl
theorem cellsB : Tryd.prog.cellsOf 51 = 4 := by kernel_rfl
theorem cellsR : Tryd.prog.cellsOf 53 = 8 := by kernel_rfl
theorem list2 {α : Type} {l : List α} (h : l.length = 2) : ∃ c0 c1, l = [c0, c1] := by
  match l, h with
  | [c0, c1], _ => exact ⟨c0, c1, rfl⟩
theorem list4 {α : Type} {l : List α} (h : l.length = 4) : ∃ c0 c1 c2 c3, l = [c0, c1, c2, c3] := by
  match l, h with
  | [c0, c1, c2, c3], _ => exact ⟨c0, c1, c2, c3, rfl⟩
theorem list5 {α : Type} {l : List α} (h : l.length = 5) : ∃ c0 c1 c2 c3 c4, l = [c0, c1, c2, c3, c4] := by
  match l, h with
  | [c0, c1, c2, c3, c4], _ => exact ⟨c0, c1, c2, c3, c4, rfl⟩
theorem list8 {α : Type} {l : List α} (h : l.length = 8) : ∃ c0 c1 c2 c3 c4 c5 c6 c7, l = [c0, c1, c2, c3, c4, c5, c6, c7] := by
  match l, h with
  | [c0, c1, c2, c3, c4, c5, c6, c7], _ => exact ⟨c0, c1, c2, c3, c4, c5, c6, c7, rfl⟩
section
variable {H : Type} {enc : TypeId × Value → H} {W : World} {base b0 : Nat} {spare : Nat → Bool} {held : Bool}
/-- A cell of a struct or of an array that is an int. -/
theorem int_at {m : Nat} {o : Option (DataW H × List MemPlace)} {c : Value} (h : DataW.trod enc Tryd.prog W base spare held m 3 [c] = o) (ho : o ≠ none) : ∃ z : Int, c = .int .i64 z ∧ (Lit.int .i64 z).wf = true ∧ o = some (.lit (.int .i64 z), []) := by
  obtain ⟨x, rfl⟩ := Option.ne_none_iff_exists'.1 ho
  obtain ⟨z, hz, he, hw⟩ := DataW.trod_int Tryd.underlying3 h
  exact ⟨z, by simpa using hz, hw, by rw [he]⟩
/-- What a row's list gives the walks. -/
theorem rd_of {W : World} (h : laidMetH Tryd.prog [("limner/stroke.cosines", Rows.laid_limner_stroke_cosines)] W) : Rd W := by
  rw [MakeChecks.laidMetH_plain _ _ _ (by kernel_rfl)] at h
  obtain ⟨ps, ⟨g', t', cs, fuel, p, q, hg', ht', hvar, hd, _, _⟩, _⟩ := h
  obtain rfl : g' = 0 := Option.some.inj (hg'.symm.trans gN)
  obtain rfl : t' = 90 := Option.some.inj (ht'.symm.trans (show (Tryd.prog.globals[0]?).map (·.type) = some 90 by kernel_rfl))
  obtain ⟨xs, m, _, hx, hl, hlen, hf⟩ := DataW.trod_array Tryd.underlying90 hd
  rw [cells5] at hl
  obtain ⟨c0, c1, c2, c3, c4, hc⟩ := list5 hl
  obtain ⟨y0, y1, y2, y3, y4, rfl⟩ := list5 hlen
  rw [hc] at hf
  obtain ⟨z0, rfl, _, e0⟩ := int_at (by have := hf 0 (by decide); simpa [cellsI] using this) (by simp)
  obtain ⟨z1, rfl, _, e1⟩ := int_at (by have := hf 1 (by decide); simpa [cellsI] using this) (by simp)
  obtain ⟨z2, rfl, _, e2⟩ := int_at (by have := hf 2 (by decide); simpa [cellsI] using this) (by simp)
  obtain ⟨z3, rfl, _, e3⟩ := int_at (by have := hf 3 (by decide); simpa [cellsI] using this) (by simp)
  obtain ⟨z4, rfl, _, e4⟩ := int_at (by have := hf 4 (by decide); simpa [cellsI] using this) (by simp)
  simp only [Option.some.injEq] at e0 e1 e2 e3 e4
  have hdat := congrArg Prod.fst hx
  simp only [List.map_cons, List.map_nil, e0, e1, e2, e3, e4] at hdat
  unfold Rows.laid_limner_stroke_cosines at hdat
  simp only [DataW.agg.injEq, List.cons.injEq, DataW.lit.injEq, Lit.int.injEq, true_and, and_true] at hdat
  obtain ⟨rfl, rfl, rfl, rfl, rfl⟩ := hdat
  unfold Rd
  rw [hvar]
  exact congrArg some (Array.toList_inj.1 (by rw [hc]; rfl))
theorem pair_ints {m : Nat} {c0 c1 : Value} {x : DataW H × List MemPlace} (h : DataW.trod enc Tryd.prog W base spare held m 23 [c0, c1] = some x) : ∃ p : Pt, c0 = .int .i64 p.1 ∧ c1 = .int .i64 p.2 := by
  obtain ⟨xs, k, _, hx, hl, hlen, hf⟩ := DataW.trod_struct Tryd.underlying23 h
  obtain ⟨y0, y1, rfl⟩ := list2 (l := xs) (by rw [hlen]; rfl)
  obtain ⟨z0, rfl, _, _⟩ := int_at (by have := hf 0 _ rfl; simpa [cellsI] using this) (by simp)
  obtain ⟨z1, rfl, _, _⟩ := int_at (by have := hf 1 _ rfl; simpa [cellsI] using this) (by simp)
  exact ⟨(z0, z1), rfl, rfl⟩
theorem four_ints {m : Nat} {c0 c1 c2 c3 : Value} {x : DataW H × List MemPlace} (h : DataW.trod enc Tryd.prog W base spare held m 51 [c0, c1, c2, c3] = some x) : ∃ a b c d : Int, (I64 a ∧ I64 b ∧ I64 c ∧ I64 d) ∧ c0 = .int .i64 a ∧ c1 = .int .i64 b ∧ c2 = .int .i64 c ∧ c3 = .int .i64 d := by
  obtain ⟨xs, k, _, hx, hl, hlen, hf⟩ := DataW.trod_struct Tryd.underlying51 h
  obtain ⟨y0, y1, y2, y3, rfl⟩ := list4 (l := xs) (by rw [hlen]; rfl)
  obtain ⟨z0, rfl, w0, _⟩ := int_at (by have := hf 0 _ rfl; simpa [cellsI] using this) (by simp)
  obtain ⟨z1, rfl, w1, _⟩ := int_at (by have := hf 1 _ rfl; simpa [cellsI] using this) (by simp)
  obtain ⟨z2, rfl, w2, _⟩ := int_at (by have := hf 2 _ rfl; simpa [cellsI] using this) (by simp)
  obtain ⟨z3, rfl, w3, _⟩ := int_at (by have := hf 3 _ rfl; simpa [cellsI] using this) (by simp)
  have wf : ∀ {x : Int}, (Lit.int .i64 x).wf = true → I64 x := fun h => by unfold I64; simpa [Lit.wf, IntKind.min, IntKind.max, IntKind.signed, IntKind.bits] using h
  exact ⟨z0, z1, z2, z3, ⟨wf w0, wf w1, wf w2, wf w3⟩, rfl, rfl, rfl, rfl⟩
end
/-- A slice of points, opened. -/
theorem pts_at {H : Type} {enc : TypeId × Value → H} {W : World} {ao : Option Addr} {len cap fuel : Nat} {x : DataW H × List MemPlace} (h : DataW.trod enc Tryd.prog W 0 (fun _ => true) true fuel 24 [.slice ao len cap] = some x) :
    ∃ l : List Pt, Row W (.slice ao len cap) l := by
  rcases open_slice Tryd.underlying24 h with ⟨hcs, _⟩ | ⟨a, len', cap', m, n, D, Pl, hcs, hb, hl, hm, hmm, _, hx⟩
  · simp at hcs
    obtain ⟨rfl, rfl, rfl⟩ := hcs
    exact ⟨[], .inl ⟨rfl, rfl⟩⟩
  · simp at hcs
    obtain ⟨rfl, rfl, rfl⟩ := hcs
    simp only [if_true] at hmm
    subst hmm
    by_cases h0 : len = 0
    · subst h0
      exact ⟨[], .inr (.inl ⟨a, _, rfl, rfl⟩)⟩
    have each : ∀ i, i < m → ∃ p : Pt, W.cell? (a.add (i * 2)) = some (.int .i64 p.1) ∧ W.cell? (a.add (i * 2 + 1)) = some (.int .i64 p.2) := fun i hi => by
      obtain ⟨cs', h1, h2⟩ := hx i hi
      rw [cellsP] at h1
      obtain ⟨_, hlen, hcell⟩ := World.cells?_some h1
      obtain ⟨c0, c1, rfl⟩ := list2 (l := cs') hlen
      obtain ⟨p, rfl, rfl⟩ := pair_ints h2
      have g0 := hcell 0 (by omega)
      have g1 := hcell 1 (by omega)
      rw [add_add] at g0 g1
      exact ⟨p, by simpa using g0, by simpa using g1⟩
    obtain ⟨f, hf'⟩ := choose_lt each
    obtain ⟨b, off, spot⟩ := a
    have c0 := (hf' 0 (by omega)).1
    have hspot : spot = none := by simpa [Addr.add] using World.cell?_spot c0
    subst hspot
    have hlt : b < W.heap.size := by
      rcases Nat.lt_or_ge b W.heap.size with h | h
      · exact h
      · rw [show ((⟨b, off, none⟩ : Addr).add (0 * 2)) = ⟨b, off + 0 * 2, none⟩ from add_plain _ _ _] at c0
        unfold World.cell? at c0
        simp [Array.getElem?_eq_none h] at c0
    refine ⟨(List.range len).map f, .inr (.inr ⟨b, off, m, by simp, hlt, fun i p hp => ?_⟩)⟩
    have hi : i < len := by
      have := (List.getElem?_eq_some_iff.1 hp).1
      simpa using this
    have hpe : f i = p := by
      rw [List.getElem?_map, List.getElem?_range hi] at hp
      simpa using hp
    have := hf' i (by omega)
    rw [add_plain, add_plain, hpe] at this
    rw [Nat.add_assoc]; exact this
/-- A slice within a struct: its value is a slice. -/
theorem slice_at {H : Type} {enc : TypeId × Value → H} {W : World} {c0 : Value} {fuel : Nat} {x : DataW H × List MemPlace} (h : DataW.trod enc Tryd.prog W 0 (fun _ => true) true fuel 24 [c0] = some x) :
    ∃ (ao : Option Addr) (n c : Nat) (l : List Pt), c0 = .slice ao n c ∧ Row W (.slice ao n c) l ∧ n ≤ c := by
  obtain ⟨ao, n, c, rfl, hnc⟩ : ∃ ao n c, c0 = .slice ao n c ∧ n ≤ c := by
    rcases open_slice Tryd.underlying24 h with ⟨hcs, _⟩ | ⟨a, len', cap', m', n', D, Pl, hcs, _, hlc, _⟩
    · simp at hcs; exact ⟨_, _, _, hcs, Nat.le_refl _⟩
    · simp at hcs; exact ⟨_, _, _, hcs, hlc⟩
  obtain ⟨l, hl⟩ := pts_at h
  exact ⟨_, _, _, l, rfl, hl, hnc⟩
set_option maxRecDepth 100000 in
theorem open_pt {H : Type} {enc : TypeId × Value → H} {W : World} {base : Nat} {v : Value} {d : DataW H} {p : List MemPlace} (hv : Value.okWide Tryd.prog W .any base 23 v) (h : DataW.Trod enc Tryd.prog W 0 (fun _ => true) true 23 v d p) :
    ∃ a b : Int, v = .agg #[.int .i64 a, .int .i64 b] := by
  obtain ⟨cs, rfl, hsz⟩ := okWide_struct Tryd.underlying23 hv
  obtain ⟨l⟩ := cs
  obtain ⟨c0, c1, rfl⟩ := list2 (l := l) (by simpa [cellsP] using hsz)
  obtain ⟨fuel, hf⟩ := h
  obtain ⟨q, rfl, rfl⟩ := pair_ints (by simpa [Value.cells] using hf)
  exact ⟨_, _, rfl⟩
set_option maxRecDepth 100000 in
theorem sub_at {H : Type} {enc : TypeId × Value → H} {W : World} {c0 c1 : Value} {fuel : Nat} {x : DataW H × List MemPlace} (h : DataW.trod enc Tryd.prog W 0 (fun _ => true) true fuel 39 [c0, c1] = some x) :
    ∃ (ao : Option Addr) (n c : Nat) (l : List Pt) (cl : Bool), c0 = .slice ao n c ∧ c1 = .bool cl ∧ Row W (.slice ao n c) l ∧ n ≤ c := by
  obtain ⟨xs, k, _, hx, hl, hlen, hf⟩ := DataW.trod_struct Tryd.underlying39 h
  obtain ⟨y0, y1, rfl⟩ := list2 (l := xs) (by rw [hlen]; rfl)
  obtain ⟨ao, n, c, l, rfl, row, hnc⟩ := slice_at (c0 := c0) (x := y0) (fuel := k) (by have := hf 0 _ rfl; simpa [cellsV] using this)
  obtain ⟨b, hb, _, _⟩ := DataW.trod_bool (x := y1) (fuel := k) Tryd.underlying4 (by have := hf 1 _ rfl; simpa [cellsT] using this)
  exact ⟨ao, n, c, l, b, rfl, by simpa using hb, row, hnc⟩
set_option maxRecDepth 100000 in
theorem open_sub {H : Type} {enc : TypeId × Value → H} {W : World} {base : Nat} {v : Value} {d : DataW H} {p : List MemPlace} (hv : Value.okWide Tryd.prog W .any base 39 v) (h : DataW.Trod enc Tryd.prog W 0 (fun _ => true) true 39 v d p) :
    ∃ (ao : Option Addr) (n c : Nat) (l : List Pt) (cl : Bool), v = .agg #[.slice ao n c, .bool cl] ∧ Row W (.slice ao n c) l ∧ n ≤ c := by
  obtain ⟨cs, rfl, hsz⟩ := okWide_struct Tryd.underlying39 hv
  obtain ⟨l⟩ := cs
  obtain ⟨c0, c1, rfl⟩ := list2 (l := l) (by simpa [cellsU] using hsz)
  obtain ⟨fuel, hf⟩ := h
  obtain ⟨ao, n, c, l, cl, rfl, rfl, row, hnc⟩ := sub_at (by simpa [Value.cells] using hf)
  exact ⟨ao, n, c, l, cl, rfl, row, hnc⟩
set_option maxRecDepth 100000 in
theorem open_reached {H : Type} {enc : TypeId × Value → H} {W : World} {base : Nat} {v : Value} {d : DataW H} {p : List MemPlace} (hv : Value.okWide Tryd.prog W .any base 53 v) (h : DataW.Trod enc Tryd.prog W 0 (fun _ => true) true 53 v d p) :
    ∃ (ao : Option Addr) (n c : Nat) (l : List Pt) (cl : Bool) (h k a0 a1 a2 a3 : Int), v = .agg #[.slice ao n c, .bool cl, .int .i64 h, .int .i64 k, .int .i64 a0, .int .i64 a1, .int .i64 a2, .int .i64 a3] ∧ (Row W (.slice ao n c) l ∧ n ≤ c) ∧ (I64 a0 ∧ I64 a1 ∧ I64 a2 ∧ I64 a3) := by
  obtain ⟨cs, rfl, hsz⟩ := okWide_struct Tryd.underlying53 hv
  obtain ⟨l⟩ := cs
  obtain ⟨c0, c1, c2, c3, c4, c5, c6, c7, rfl⟩ := list8 (l := l) (by simpa [cellsR] using hsz)
  obtain ⟨fuel, hf⟩ := h
  obtain ⟨xs, m, _, _, _, hlen, hg⟩ := DataW.trod_struct Tryd.underlying53 hf
  obtain ⟨y0, y1, y2, y3, rfl⟩ := list4 (l := xs) (by rw [hlen]; rfl)
  obtain ⟨ao, n, c, l, cl, rfl, rfl, row, hnc⟩ := sub_at (c0 := c0) (c1 := c1) (x := y0) (fuel := m) (by have := hg 0 _ rfl; simpa [cellsU, Value.cells] using this)
  obtain ⟨z1, rfl, _, _⟩ := int_at (by have := hg 1 _ rfl; simpa [cellsI, Value.cells] using this) (by simp)
  obtain ⟨z2, rfl, _, _⟩ := int_at (by have := hg 2 _ rfl; simpa [cellsI, Value.cells] using this) (by simp)
  obtain ⟨a, b, c', d', hI, rfl, rfl, rfl, rfl⟩ := four_ints (m := m) (c0 := c4) (c1 := c5) (c2 := c6) (c3 := c7) (x := y3) (by have := hg 3 _ rfl; simpa [cellsB, Value.cells] using this)
  exact ⟨ao, n, c, l, cl, z1, z2, a, b, c', d', rfl, ⟨row, hnc⟩, hI⟩
end Go.Proofs.YtdidbejinfkhbaaDoor
