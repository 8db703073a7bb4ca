/- Layer 11: rows of bytes, their texts; what package image answers of bytes, counts, pairs. -/
import Derived.Test.YtoppmlfibllhlaaJf
import Derived.Test.YtoppmlfibllhlaaIh
import Derived.Laws.IdiomStrings
import Derived.Laws.BytesString
namespace Go.Proofs.Ytoppmlfibllhlaa
open Go.RowKit
/-- A slice of bytes: nil; empty, with any address; a row. -/
def RowB (w : World) (s : Value) (E : List Int) : Prop :=
  (s = .slice none 0 0 ∧ E = []) ∨ (∃ a c, s = .slice (some a) 0 c ∧ E = []) ∨ ∃ b o c, s = .slice (some ⟨b, o, none⟩) E.length c ∧ b < w.heap.size ∧ ∀ i x, E[i]? = some x → w.cell? ⟨b, o + i, none⟩ = some (.int .u8 x)
theorem RowB.on {w w' : World} {s : Value} {E : List Int} (h : RowB w s E) (hb : Below w.heap.size w w') : RowB w' s E := by
  rcases h with h | h | ⟨b, o, c, h1, h2, h3⟩
  · exact .inl h
  · exact .inr (.inl h)
  · exact .inr (.inr ⟨b, o, c, h1, Nat.lt_of_lt_of_le h2 hb.size, fun i x hx => by rw [cell_below hb h2]; exact h3 i x hx⟩)
theorem RowB.shape {w : World} {v : Value} {E : List Int} (h : RowB w v E) : ∃ ao c, v = .slice ao E.length c := by
  rcases h with ⟨rfl, rfl⟩ | ⟨a, c, rfl, rfl⟩ | ⟨b, o, c, rfl, _, _⟩ <;> exact ⟨_, _, rfl⟩
theorem OwnB.row {w : World} {base : Nat} {v : Value} {E : List Int} (h : OwnB w base v E) : RowB w v E := by
  have hr := h
  obtain ⟨_, ⟨rfl, hn⟩ | ⟨g, cap, cur, rfl, _, hg, hc, _, hs, ht⟩⟩ := h
  · exact .inl ⟨rfl, List.eq_nil_of_length_eq_zero hn⟩
  · refine .inr (.inr ⟨g, 0, cap, rfl, (Array.getElem?_eq_some_iff.1 hg).1, fun i x hx => ?_⟩)
    have key := World.ownsRow.cells hr (g := g) rfl i (.int .u8 x) (by unfold bytV; rw [List.getElem?_map, hx]; rfl)
    rw [show (⟨g, 0, none⟩ : Addr).add i = ⟨g, 0 + i, none⟩ from Addr.add_lit ..] at key
    exact key
/-- The text of some bytes. -/
def strI (E : List Int) : ByteArray := ⟨(E.map fun x => UInt8.ofNat x.toNat).toArray⟩
def OkB (E : List Int) : Prop := ∀ x ∈ E, 0 ≤ x ∧ x ≤ 255
theorem conv_b {w : World} {v : Value} {E : List Int} (h : RowB w v E) (hE : OkB E) : (convert 58 9 v).run Try.prog w = .ok (.string (strI E)) w := by
  have zero : ∀ (p : Option Addr) (c : Nat), (convert 58 9 (.slice p 0 c)).run Try.prog w = .ok (.string (strI [])) w := fun p c => by
    rw [run_convert_bytes_string w _ _ 5 p 0 c Try.underlying58 Try.underlying5 Try.underlying9]
    cases p <;> simp [Conv.bytesToString, loadCells] <;> rfl
  rcases h with ⟨rfl, rfl⟩ | ⟨a, c, rfl, rfl⟩ | ⟨b, o, c, rfl, hb, hc⟩
  · exact zero _ _
  · exact zero _ _
  · have key := run_convert_bytes_back (P := Try.prog) w 58 9 5 ⟨b, o, none⟩ c (E.map fun x => UInt8.ofNat x.toNat) Try.underlying58 Try.underlying5 Try.underlying9 (fun j hj => ?_)
    · rw [List.length_map] at key
      exact key
    · rw [List.length_map] at hj
      rw [show (⟨b, o, none⟩ : Addr).add j = ⟨b, o + j, none⟩ from Addr.add_lit .., hc j E[j] (List.getElem?_eq_getElem hj), List.getElem_map]
      obtain ⟨h0, h1⟩ := hE E[j] (List.getElem_mem hj)
      have e : ((UInt8.ofNat E[j].toNat).toNat : Int) = E[j] := by rw [UInt8.toNat_ofNat']; omega
      rw [e]
theorem runsB_ok {l : List Col} (hok : ∀ c ∈ l, OkC c) : ∀ f i, OkB (runsB l f i)
  | 0, _ => fun x hx => by simp [runsB] at hx
  | f + 1, i => by
    by_cases h : i < l.length
    · obtain ⟨r1, r2, _⟩ := runLen_in h
      rw [runsB_step h rfl rfl]
      have hc := hok _ (List.mem_of_getElem? (cAt_some h))
      have h0 := hc 0 (by decide)
      have h1 := hc 1 (by decide)
      have h2 := hc 2 (by decide)
      have h3 := hc 3 (by decide)
      have ih := runsB_ok hok f (i + runLen l i)
      intro x hx
      unfold colB at hx
      simp only [List.cons_append, List.nil_append, List.mem_cons] at hx
      rcases hx with rfl | rfl | rfl | rfl | rfl | hx
      · omega
      · exact h0
      · exact h1
      · exact h2
      · exact h3
      · exact ih x hx
    · rw [runsB_end h]; intro x hx; cases hx
theorem bytesI_ok {W H : Int} {l : List Col} (hW : 1 ≤ W ∧ W ≤ 256) (hH : 1 ≤ H ∧ H ≤ 256) (hok : ∀ c ∈ l, OkC c) : OkB (bytesI W H l) := fun x hx => by
  unfold bytesI at hx
  simp only [List.mem_cons] at hx
  rcases hx with rfl | rfl | hx
  · omega
  · omega
  · exact runsB_ok hok _ _ x hx
theorem runsB_len (l : List Col) : ∀ f i, i ≤ l.length → (runsB l f i).length ≤ 5 * (l.length - i)
  | 0, i, _ => by simp [runsB]
  | f + 1, i, hi => by
    by_cases h : i < l.length
    · obtain ⟨r1, r2, r3⟩ := runLen_in h
      rw [runsB_step h rfl rfl]
      have ih := runsB_len l f (i + runLen l i) r3
      unfold colB
      simp only [List.cons_append, List.nil_append, List.length_cons]
      omega
    · rw [runsB_end h]; simp
theorem bytesI_len (W H : Int) (l : List Col) : (bytesI W H l).length ≤ 5 * l.length + 2 := by
  have := runsB_len l l.length 0 (by omega)
  unfold bytesI
  simp only [List.length_cons]
  omega
/-- What package image answers of bytes. -/
def BytesOk : Prop := ∀ (W H : Int) (s : Value) (l : List Col) (w : World), RowK .u8 w s l → (∀ c ∈ l, OkC c) → l.length ≤ 400 → Calls Try.prog 25 #[.agg #[.int .i64 W, .int .i64 H, s]] w fun e w' =>
  ∃ v, e = .returned (.tuple #[v, .int .i64 (errIm (rightIm W H l))]) ∧ RowB w' v (if rightIm W H l then bytesI W H l else []) ∧ Below w.heap.size w w'
def IsIm (W H : Int) (l : List Col) (E : List Int) : Prop := rightIm W H l = true ∧ (∀ c ∈ l, OkC c) ∧ bytesI W H l = E
def ParseOk : Prop := ∀ (s : Value) (E : List Int) (w : World), RowB w s E → OkB E → E.length ≤ 2100 → Calls Try.prog 27 #[s] w fun e w' =>
  (∃ W H l, IsIm W H l E ∧ ToldIm w W H l 0 e w') ∨ ((¬ ∃ W H l, IsIm W H l E) ∧ ToldIm w 0 0 [] 20 e w')
/-- How many pixels have a colour. -/
def countC (l : List Col) (c : Col) : Nat := (l.filter fun d => eqC d c).length
def CountOk : Prop := ∀ (W H : Int) (s : Value) (l : List Col) (c : Col) (w : World), RowK .u8 w s l → (∀ c ∈ l, OkC c) → OkC c → l.length ≤ 400 → rightIm W H l = true → Calls Try.prog 31 #[.agg #[.int .i64 W, .int .i64 H, s], .agg #[.int .u8 (c 0), .int .u8 (c 1), .int .u8 (c 2), .int .u8 (c 3)]] w fun e w' => e = .returned (.int .i64 (countC l c)) ∧ Below w.heap.size w w'
def sameIm (W H : Int) (l : List Col) (W' H' : Int) (l' : List Col) : Bool := decide (W = W') && decide (H = H') && decide (l.map q4 = l'.map q4)
def EqualOk : Prop := ∀ (W H W' H' : Int) (s s' : Value) (l l' : List Col) (w : World), RowK .u8 w s l → RowK .u8 w s' l' → (∀ c ∈ l, OkC c) → (∀ c ∈ l', OkC c) → l.length ≤ 70000 → l'.length ≤ 70000 → rightIm W H l = true → rightIm W' H' l' = true →
  Calls Try.prog 28 #[.agg #[.int .i64 W, .int .i64 H, s], .agg #[.int .i64 W', .int .i64 H', s']] w fun e w' => e = .returned (.bool (sameIm W H l W' H' l')) ∧ Below w.heap.size w w'
def zeroK : Col := fun _ => 0
def NewOk : Prop := ∀ (w : World), Calls Try.prog 32 #[.int .i64 3, .int .i64 2] w fun e w' => ToldIm w 3 2 (List.replicate 6 zeroK) 0 e w'
end Go.Proofs.Ytoppmlfibllhlaa

