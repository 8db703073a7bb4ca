/- The frame of every statement of layer 13: what the listed variable gives, and how bytes and records are opened. -/
import Derived.Test.YteobffggfcmghaaDoorCards
import Derived.Test.YteobffggfcmghaaDoorTie
import Derived.Test.YteobffggfcmghaaDoorUa
import Derived.Deep.DeepHandedRow
import Derived.Lib.LaidTab
import Derived.Lib.SmallJoins
import Derived.ProofKit
import Derived.OpenShut
import Derived.Lay
import Derived.MakeChecks
import Derived.Deep.SlicePairs
import Derived.Carry
namespace Go.Proofs.YteobffggfcmghaaDoor
open Go.ChangeShapes Go.WideShapes Go.ChangeAt Go.RowKit Go.Deep
theorem own : ownKnob Tryd.prog.godebug = none := by kernel_rfl
theorem laidOut : laidOutB Tryd.prog = true := by kernel_rfl
theorem cellsI : Tryd.prog.cellsOf 3 = 1 := by kernel_rfl
theorem cellsB : Tryd.prog.cellsOf 5 = 1 := by kernel_rfl
theorem cellsU : Tryd.prog.cellsOf 24 = 1 := by kernel_rfl
theorem cellsS : Tryd.prog.cellsOf 22 = 1 := by kernel_rfl
theorem cellsR : Tryd.prog.cellsOf 29 = 3 := by kernel_rfl
theorem cellsH : Tryd.prog.cellsOf 61 = 16 := by kernel_rfl
theorem list1 {α : Type} {l : List α} (h : l.length = 1) : ∃ c0, l = [c0] := by
  match l, h with
  | [c0], _ => exact ⟨c0, rfl⟩
theorem list3 {α : Type} {l : List α} (h : l.length = 3) : ∃ c0 c1 c2, l = [c0, c1, c2] := by
  match l, h with
  | [c0, c1, c2], _ => exact ⟨c0, c1, c2, rfl⟩
theorem byte_wf {z : Int} (h : (Lit.int .u8 z).wf = true) : 0 ≤ z ∧ z ≤ 255 := by
  unfold Lit.wf at h
  rw [Bool.and_eq_true, decide_eq_true_eq, decide_eq_true_eq] at h
  exact ⟨h.1, h.2⟩
theorem int_wf {z : Int} (h : (Lit.int .i64 z).wf = true) : rngN z := by
  unfold Lit.wf at h
  rw [Bool.and_eq_true, decide_eq_true_eq, decide_eq_true_eq] at h
  exact ⟨h.1, h.2⟩
/-- What a row's list gives the walks. -/
theorem rd_of {W : World} (h : laidMetH Tryd.prog [("limner/frame.halfSums", Rows.laid_limner_frame_halfSums)] W) : Rd W := by
  rw [MakeChecks.laidMetH_plain _ _ _ (by kernel_rfl)] at h
  obtain ⟨ps, ⟨g', t', cs, fuel, p, q, hg', ht', hvar, hd, _, _⟩, _⟩ := h
  obtain rfl : g' = 0 := Option.some.inj (hg'.symm.trans gH)
  obtain rfl : t' = 61 := Option.some.inj (ht'.symm.trans (show (Tryd.prog.globals[0]?).map (·.type) = some 61 by kernel_rfl))
  obtain ⟨xs, m, _, hx, hl, hlen, hf⟩ := DataW.trod_array Tryd.underlying61 hd
  rw [cellsH] at hl
  rw [cellsU] at hf
  have hdat := congrArg Prod.fst hx
  have hlist : (halfL.map fun z => (DataW.lit (.int .u32 z) : DataW Unit)) = xs.map (fun x => x.fst) := DataW.agg.inj hdat
  have each : ∀ i, i < 16 → cs.toList[i]? = some (.int .u32 (bAt halfL i)) := fun i hi => by
    have h1 := hf i hi
    rw [List.getElem?_eq_getElem (by rw [hlen]; exact hi), Nat.mul_one] at h1
    obtain ⟨z, hz, he, _⟩ := DataW.trod_int Tryd.underlying24 h1
    have h2 : (halfL.map fun z => (DataW.lit (.int .u32 z) : DataW Unit))[i]? = (xs.map (fun x => x.fst))[i]? := by rw [hlist]
    rw [List.getElem?_map, List.getElem?_map, bAt_some (E := halfL) (k := i) (by simpa [halfL] using hi), List.getElem?_eq_getElem (by rw [hlen]; exact hi), he] at h2
    have h3 : bAt halfL i = z := by simpa using h2
    rw [h3]
    have h4 := congrArg (fun l : List Value => l[0]?) hz
    simpa using h4
  have hcs : cs.toList = halfV := by
    apply List.ext_getElem?
    intro i
    by_cases hi : i < 16
    · rw [each i hi, List.getElem?_map, bAt_some (E := halfL) (k := i) (by simpa [halfL] using hi)]
      rfl
    · rw [List.getElem?_eq_none (by omega), List.getElem?_eq_none (by simp [halfL]; omega)]
  unfold Rd
  rw [hvar]
  congr 1
  apply Array.toList_inj.1
  rw [hcs]
section
variable {H : Type} {enc : TypeId × Value → H} {W : World} {base b0 : Nat} {spare : Nat → Bool} {held : Bool}
theorem int_at {m : Nat} {o : Option (DataW H × List MemPlace)} {c : Value} (h : DataW.trod enc Tryd.prog W base spare held m 3 [c] = o) (ho : o ≠ none) : ∃ z : Int, c = .int .i64 z ∧ rngN z := by
  obtain ⟨x, rfl⟩ := Option.ne_none_iff_exists'.1 ho
  obtain ⟨z, hz, _, hw⟩ := DataW.trod_int Tryd.underlying3 h
  exact ⟨z, by simpa using hz, int_wf hw⟩
theorem byte_at {m : Nat} {o : Option (DataW H × List MemPlace)} {c : Value} (h : DataW.trod enc Tryd.prog W base spare held m 5 [c] = o) (ho : o ≠ none) : ∃ z : Int, c = .int .u8 z ∧ 0 ≤ z ∧ z ≤ 255 := by
  obtain ⟨x, rfl⟩ := Option.ne_none_iff_exists'.1 ho
  obtain ⟨z, hz, _, hw⟩ := DataW.trod_int Tryd.underlying5 h
  exact ⟨z, by simpa using hz, byte_wf hw⟩
end
theorem capS_of {a : Option Addr} {n c : Nat} (h : n ≤ c) : CapS (.slice a n c) := fun a' n' c' e => by cases e; exact h
/-- A slice of bytes, opened. -/
theorem byts_at {H : Type} {enc : TypeId × Value → H} {W : World} {c0 : Value} {fuel : Nat} {x : DataW H × List MemPlace} (h : DataW.trod enc Tryd.prog W 0 (fun _ => true) true fuel 22 [c0] = some x) :
    ∃ L : List Int, RowB W c0 L ∧ OkB L ∧ CapS c0 ∧ (L.length ≠ 0 → ∀ k, c0.ownBlock = some k → k < W.heap.size) := by
  rcases open_slice Tryd.underlying22 h with ⟨hcs, _⟩ | ⟨a, len, cap, m, n, D, Pl, hcs, hb, hl, hm, hmm, hxe, hx⟩
  · simp at hcs
    subst hcs
    exact ⟨[], .inl ⟨rfl, rfl⟩, (by intro x hx; cases hx), capS_of (by omega), fun h => absurd rfl h⟩
  · simp at hcs
    subst hcs
    simp only [if_true] at hmm
    subst hmm
    by_cases h0 : len = 0
    · subst h0
      exact ⟨[], .inr (.inl ⟨a, _, rfl, rfl⟩), (by intro x hx; cases hx), capS_of (by omega), fun h => absurd rfl h⟩
    have each : ∀ i, i < m → ∃ z : Int, W.cell? (a.add i) = some (.int .u8 z) ∧ 0 ≤ z ∧ z ≤ 255 := fun i hi => by
      obtain ⟨cs', h1, h2⟩ := hx i hi
      rw [cellsB] at h1
      obtain ⟨_, hlen, hcell⟩ := World.cells?_some h1
      obtain ⟨c0, rfl⟩ := list1 (l := cs') hlen
      obtain ⟨z, rfl, hz⟩ := byte_at h2 (by simp)
      have g0 := hcell 0 (by omega)
      rw [add_add] at g0
      exact ⟨z, by simpa using g0, hz⟩
    obtain ⟨f, hf'⟩ := choose_lt each
    obtain ⟨b, off, spot⟩ := a
    have c0 := (hf' 0 (by omega)).1
    have hspot : spot = none := by simpa [Addr.add] using World.cell?_spot c0
    subst hspot
    have hlt : b < W.heap.size := by
      rcases Nat.lt_or_ge b W.heap.size with h | h
      · exact h
      · rw [show ((⟨b, off, none⟩ : Addr).add 0) = ⟨b, off + 0, none⟩ from add_plain _ _ _] at c0
        unfold World.cell? at c0
        simp [Array.getElem?_eq_none h] at c0
    have hat : ∀ i x, ((List.range len).map f)[i]? = some x → i < len ∧ f i = x := fun i x hx => by
      have hi : i < len := by
        have := (List.getElem?_eq_some_iff.1 hx).1
        simpa using this
      refine ⟨hi, ?_⟩
      rw [List.getElem?_map, List.getElem?_range hi] at hx
      simpa using hx
    refine ⟨(List.range len).map f, .inr (.inr ⟨b, off, m, by simp, hlt, fun i x hx => ?_⟩), fun x hx => ?_, capS_of (by omega), fun _ k e => by cases e; exact hlt⟩
    · obtain ⟨hi, he⟩ := hat i x hx
      have := (hf' i (by omega)).1
      rw [add_plain, he] at this
      exact this
    · obtain ⟨i, hi, rfl⟩ := List.mem_map.1 hx
      exact (hf' i (by have := List.mem_range.1 hi; omega)).2
set_option maxRecDepth 100000 in
theorem open_byts {H : Type} {enc : TypeId × Value → H} {W : World} {base : Nat} {v : Value} {d : DataW H} {p : List MemPlace} (hv : Value.okWide Tryd.prog W .any base 22 v) (h : DataW.Trod enc Tryd.prog W 0 (fun _ => true) true 22 v d p) :
    ∃ L : List Int, RowB W v L ∧ OkB L ∧ CapS v ∧ (L.length ≠ 0 → ∀ k, v.ownBlock = some k → k < W.heap.size) := by
  obtain ⟨a0, len, cap, rfl⟩ := okWide_slice Tryd.underlying22 hv
  obtain ⟨fuel, hf⟩ := h
  exact byts_at (by simpa [Value.cells] using hf)
set_option maxRecDepth 100000 in
theorem open_rec {H : Type} {enc : TypeId × Value → H} {W : World} {base : Nat} {v : Value} {d : DataW H} {p : List MemPlace} (hv : Value.okWide Tryd.prog W .any base 29 v) (h : DataW.Trod enc Tryd.prog W 0 (fun _ => true) true 29 v d p) :
    ∃ (seq kind : Int) (s : Value) (L : List Int), v = .agg #[.int .i64 seq, .int .i64 kind, s] ∧ rngN seq ∧ rngN kind ∧ RowB W s L ∧ OkB L ∧ CapS s := by
  obtain ⟨cs, rfl, hsz⟩ := okWide_struct Tryd.underlying29 hv
  obtain ⟨l⟩ := cs
  obtain ⟨c0, c1, c2, rfl⟩ := list3 (l := l) (by simpa [cellsR] using hsz)
  obtain ⟨fuel, hf⟩ := h
  obtain ⟨xs, m, _, _, _, hlen, hg⟩ := DataW.trod_struct Tryd.underlying29 hf
  obtain ⟨y0, y1, y2, rfl⟩ := list3 (l := xs) (by rw [hlen]; rfl)
  obtain ⟨z0, rfl, r0⟩ := int_at (by have := hg 0 _ rfl; simpa [cellsI, cellsS, Value.cells] using this) (by simp)
  obtain ⟨z1, rfl, r1⟩ := int_at (by have := hg 1 _ rfl; simpa [cellsI, cellsS, Value.cells] using this) (by simp)
  obtain ⟨L, row, ok, hcp, _⟩ := byts_at (c0 := c2) (x := y2) (fuel := m) (by have := hg 2 _ rfl; simpa [cellsI, cellsS, Value.cells] using this)
  exact ⟨z0, z1, c2, L, rfl, r0, r1, row, ok, hcp⟩
end Go.Proofs.YteobffggfcmghaaDoor
