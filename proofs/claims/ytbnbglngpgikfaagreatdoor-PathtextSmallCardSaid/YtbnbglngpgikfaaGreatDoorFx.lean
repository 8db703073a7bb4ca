/- The frame of the layer's statements: what the listed variables give, and how arguments are opened. -/
import Derived.Test.YtbnbglngpgikfaaGreatDoorNf2
import Derived.Test.YtbnbglngpgikfaaGreatDoorQh
import Derived.Deep.SlicePairs
import Derived.MakeChecks
namespace Go.Proofs.YtbnbglngpgikfaaGreatDoor
open Go.ChangeShapes Go.WideShapes Go.ChangeAt Go.RowKit Go.Deep
theorem own : ownKnob Tryz.prog.godebug = none := by kernel_rfl
theorem laidOut : laidOutB Tryz.prog = true := by kernel_rfl
theorem cellsFP : Tryz.prog.cellsOf 50 = 2 := by kernel_rfl
theorem cellsFI : Tryz.prog.cellsOf 3 = 1 := by kernel_rfl
theorem cellsFS : Tryz.prog.cellsOf 53 = 7 := by kernel_rfl
theorem cellsF6 : Tryz.prog.cellsOf 74 = 6 := by kernel_rfl
theorem cellsFP3 : Tryz.prog.cellsOf 51 = 6 := by kernel_rfl
def needsD : DataW Unit := Rows.laid_limner_path_needs
theorem needsD_eq : needsD = Lib.tabData .i64 [0, 1, 1, 2, 3, 0] := by kernel_rfl
theorem gNT : (Tryz.prog.globals[0]?).map (·.type) = some 74 := by kernel_rfl
/-- What a row's list gives the walks. -/
theorem rdd_of {l : List (String × DataW Unit)} {W : World} (hp : (l.all fun x => x.2.handleName?.isNone) = true) (hm : ("internal/strconv.uint64pow10", powD) ∈ l)
    (hs : ("strconv.ErrSyntax", synD) ∈ l) (hr : ("strconv.ErrRange", rngD) ∈ l) (hn : ("limner/path.needs", needsD) ∈ l) (h : laidMetH Tryz.prog l W) (hshape : W.ShapedOpen Tryz.prog) : Rdd W := by
  refine ⟨?_, rd2_of hp hm hs hr h hshape⟩
  rw [MakeChecks.laidMetH_plain _ _ _ hp] at h
  have h2 : Lib.TabIs Tryz.prog W "limner/path.needs" .i64 [0, 1, 1, 2, 3, 0] := tabIs_of_reads gN gNT Tryz.underlying74 Tryz.underlying3 cellsFI cellsF6 (needsD_eq ▸ Lib.laidMet.reads h hn)
  exact h2
theorem list2 {α : Type} {l : List α} (h : l.length = 2) : ∃ c0 c1, l = [c0, c1] := by
  match l, h with
  | [c0, c1], _ => exact ⟨c0, c1, rfl⟩
theorem list7 {α : Type} {l : List α} (h : l.length = 7) : ∃ c0 c1 c2 c3 c4 c5 c6, l = [c0, c1, c2, c3, c4, c5, c6] := by
  match l, h with
  | [c0, c1, c2, c3, c4, c5, c6], _ => exact ⟨c0, c1, c2, c3, c4, c5, c6, rfl⟩
section
variable {H : Type} {enc : TypeId × Value → H} {W : World} {base b0 : Nat} {spare : Nat → Bool} {held : Bool}
/-- A cell of a struct or of an array that is an int. -/
theorem int_at {m : Nat} {o : Option (DataW H × List MemPlace)} {c : Value} (h : DataW.trod enc Tryz.prog W base spare held m 3 [c] = o) (ho : o ≠ none) : ∃ z : Int, c = .int .i64 z ∧ (Lit.int .i64 z).wf = true ∧ o = some (.lit (.int .i64 z), []) := by
  obtain ⟨x, rfl⟩ := Option.ne_none_iff_exists'.1 ho
  obtain ⟨z, hz, he, hw⟩ := DataW.trod_int Tryz.underlying3 h
  exact ⟨z, by simpa using hz, hw, by rw [he]⟩
theorem pair_ints {m : Nat} {c0 c1 : Value} {x : DataW H × List MemPlace} (h : DataW.trod enc Tryz.prog W base spare held m 50 [c0, c1] = some x) : ∃ p : Pt, c0 = .int .i64 p.1 ∧ c1 = .int .i64 p.2 := by
  obtain ⟨xs, k, _, hx, hl, hlen, hf⟩ := DataW.trod_struct Tryz.underlying50 h
  obtain ⟨y0, y1, rfl⟩ := list2 (l := xs) (by rw [hlen]; rfl)
  obtain ⟨z0, rfl, _, _⟩ := int_at (by have := hf 0 _ rfl; simpa [cellsFI] using this) (by simp)
  obtain ⟨z1, rfl, _, _⟩ := int_at (by have := hf 1 _ rfl; simpa [cellsFI] using this) (by simp)
  exact ⟨(z0, z1), rfl, rfl⟩
/-- A segment, opened. -/
theorem seg_ints {m : Nat} {cs : List Value} {x : DataW H × List MemPlace} (h : DataW.trod enc Tryz.prog W base spare held m 53 cs = some x) : ∃ s : Sg, cs = s.cells.toList := by
  obtain ⟨xs, k, _, hx, hl, hlen, hf⟩ := DataW.trod_struct Tryz.underlying53 h
  rw [cellsFS] at hl
  obtain ⟨c0, c1, c2, c3, c4, c5, c6, rfl⟩ := list7 hl
  obtain ⟨y0, y1, rfl⟩ := list2 (l := xs) (by rw [hlen]; rfl)
  obtain ⟨z0, rfl, _, _⟩ := int_at (by have := hf 0 _ rfl; simpa [cellsFI] using this) (by simp)
  have hp : DataW.trod enc Tryz.prog W base spare held k 51 [c1, c2, c3, c4, c5, c6] = some y1 := by have := hf 1 _ rfl; simpa [cellsFP3] using this
  obtain ⟨ys, j, _, _, _, hlen2, hf2⟩ := DataW.trod_array Tryz.underlying51 hp
  obtain ⟨u0, u1, u2, rfl⟩ : ∃ u0 u1 u2, ys = [u0, u1, u2] := by
    match ys, hlen2 with
    | [u0, u1, u2], _ => exact ⟨u0, u1, u2, rfl⟩
  obtain ⟨p, rfl, rfl⟩ := pair_ints (by have := hf2 0 (by decide); simpa [cellsFP] using this)
  obtain ⟨q, rfl, rfl⟩ := pair_ints (by have := hf2 1 (by decide); simpa [cellsFP] using this)
  obtain ⟨r, rfl, rfl⟩ := pair_ints (by have := hf2 2 (by decide); simpa [cellsFP] using this)
  exact ⟨⟨z0, p, q, r⟩, rfl⟩
end
instance : Inhabited Sg := ⟨⟨0, (0, 0), (0, 0), (0, 0)⟩⟩
/-- A slice of segments, opened. -/
theorem segs_at {H : Type} {enc : TypeId × Value → H} {W : World} {ao : Option Addr} {len cap fuel : Nat} {x : DataW H × List MemPlace} (h : DataW.trod enc Tryz.prog W 0 (fun _ => true) true fuel 22 [.slice ao len cap] = some x) :
    ∃ l : List Sg, RowS W (.slice ao len cap) l := by
  rcases open_slice Tryz.underlying22 h with ⟨hcs, _⟩ | ⟨a, len', cap', m, n, D, Pl, hcs, hb, hl, hm, hmm, _, hx⟩
  · simp at hcs
    obtain ⟨rfl, rfl, rfl⟩ := hcs
    exact ⟨[], .inl ⟨rfl, rfl⟩⟩
  · simp at hcs
    obtain ⟨rfl, rfl, rfl⟩ := hcs
    simp only [if_true] at hmm
    subst hmm
    by_cases h0 : len = 0
    · subst h0
      exact ⟨[], .inr (.inl ⟨a, _, rfl, rfl⟩)⟩
    have each : ∀ i, i < m → ∃ s : Sg, ∀ j v, s.cells[j]? = some v → W.cell? (a.add (i * 7 + j)) = some v := fun i hi => by
      obtain ⟨cs', h1, h2⟩ := hx i hi
      rw [cellsFS] at h1
      obtain ⟨s, hs⟩ := seg_ints h2
      obtain ⟨_, hlen, hcell⟩ := World.cells?_some h1
      refine ⟨s, fun j v hv => ?_⟩
      have hj : j < 7 := by have := (Array.getElem?_eq_some_iff.1 hv).1; simpa [Sg.cells] using this
      have h3 := hcell j (by omega)
      rw [add_add] at h3
      rw [h3, hs]
      simpa using hv
    obtain ⟨f, hf'⟩ := choose_lt each
    obtain ⟨b, off, spot⟩ := a
    have c0 := hf' 0 (by omega) 0 _ rfl
    have hspot : spot = none := by simpa [Addr.add] using World.cell?_spot c0
    subst hspot
    have hlt : b < W.heap.size := by
      rcases Nat.lt_or_ge b W.heap.size with h | h
      · exact h
      · rw [show ((⟨b, off, none⟩ : Addr).add (0 * 7 + 0)) = ⟨b, off + (0 * 7 + 0), none⟩ from add_plain _ _ _] at c0
        unfold World.cell? at c0
        simp [Array.getElem?_eq_none h] at c0
    refine ⟨(List.range len).map f, .inr (.inr ⟨b, off, m, by simp, hlt, fun i s hp j v hv => ?_⟩)⟩
    have hi : i < len := by
      have := (List.getElem?_eq_some_iff.1 hp).1
      simpa using this
    have hpe : f i = s := by
      rw [List.getElem?_map, List.getElem?_range hi] at hp
      simpa using hp
    have := hf' i (by omega) j v (by rw [hpe]; exact hv)
    rw [add_plain] at this
    rw [Nat.add_assoc]; exact this
set_option maxRecDepth 100000 in
theorem open_segs {H : Type} {enc : TypeId × Value → H} {W : World} {base : Nat} {v : Value} {d : DataW H} {p : List MemPlace} (hv : Value.okWide Tryz.prog W .any base 22 v) (h : DataW.Trod enc Tryz.prog W 0 (fun _ => true) true 22 v d p) :
    ∃ l : List Sg, RowS W v l := by
  obtain ⟨a0, len, cap, rfl⟩ := okWide_slice Tryz.underlying22 hv
  obtain ⟨fuel, hf⟩ := h
  exact segs_at (by simpa [Value.cells] using hf)
end Go.Proofs.YtbnbglngpgikfaaGreatDoor
