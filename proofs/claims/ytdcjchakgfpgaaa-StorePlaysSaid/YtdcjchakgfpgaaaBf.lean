/- Layer 12: the script's rows; small. -/
import Derived.Test.YtdcjchakgfpgaaaBd
namespace Go.Proofs.Ytdcjchakgfpgaaa
open Go.RowKit
structure OpM where
  kind : Int
  n : Int
  fill : Int
  short : Int
  kv : Value
  keep : List Bool
  torn : Int
  cut : Int
/-- A call's seven cells. -/
structure OpAt (w : World) (b o : Nat) (p : OpM) : Prop where
  c0 : w.cell? ⟨b, o, none⟩ = some (.int .i64 p.kind)
  c1 : w.cell? ⟨b, o + 1, none⟩ = some (.int .i64 p.n)
  c2 : w.cell? ⟨b, o + 2, none⟩ = some (.int .u8 p.fill)
  c3 : w.cell? ⟨b, o + 3, none⟩ = some (.int .i64 p.short)
  c4 : w.cell? ⟨b, o + 4, none⟩ = some p.kv
  c5 : w.cell? ⟨b, o + 5, none⟩ = some (.int .i64 p.torn)
  c6 : w.cell? ⟨b, o + 6, none⟩ = some (.int .i64 p.cut)
theorem OpAt.on {w w' : World} {b o : Nat} {p : OpM} (h : OpAt w b o p) (hb : Below w.heap.size w w') (hl : b < w.heap.size) : OpAt w' b o p :=
  ⟨(cell_below hb hl).trans h.c0, (cell_below hb hl).trans h.c1, (cell_below hb hl).trans h.c2, (cell_below hb hl).trans h.c3, (cell_below hb hl).trans h.c4, (cell_below hb hl).trans h.c5, (cell_below hb hl).trans h.c6⟩
/-- A slice of calls. -/
def RowO (w : World) (s : Value) (L : List OpM) : Prop :=
  ((s = .slice none 0 0 ∧ L = []) ∨ (∃ a c, s = .slice (some a) 0 c ∧ L = []) ∨ ∃ b o c, s = .slice (some ⟨b, o, none⟩) L.length c ∧ b < w.heap.size ∧ ∀ i p, L[i]? = some p → OpAt w b (o + i * 7) p) ∧ ∀ p ∈ L, RowT w p.kv p.keep
theorem RowO.on {w w' : World} {s : Value} {L : List OpM} (h : RowO w s L) (hb : Below w.heap.size w w') : RowO w' s L := by
  refine ⟨?_, fun p hp => (h.2 p hp).on hb⟩
  rcases h.1 with h | h | ⟨b, o, c, h1, h2, h3⟩
  · exact .inl h
  · exact .inr (.inl h)
  · exact .inr (.inr ⟨b, o, c, h1, Nat.lt_of_lt_of_le h2 hb.size, fun i p hp => (h3 i p hp).on hb h2⟩)
theorem RowO.shape {w : World} {v : Value} {L : List OpM} (h : RowO w v L) : ∃ ao c, v = .slice ao L.length c := by
  rcases h.1 with ⟨rfl, rfl⟩ | ⟨a, c, rfl, rfl⟩ | ⟨b, o, c, rfl, _, _⟩ <;> exact ⟨_, _, rfl⟩
theorem RowO.addr {w : World} {ao : Option Addr} {n c : Nat} {L : List OpM} (h : RowO w (.slice ao n c) L) (h0 : 0 < L.length) : ∃ b o, ao = some ⟨b, o, none⟩ ∧ b < w.heap.size ∧ ∀ i p, L[i]? = some p → OpAt w b (o + i * 7) p := by
  rcases h.1 with ⟨_, rfl⟩ | ⟨_, _, _, rfl⟩ | ⟨b, o, c', e, h1, h2⟩
  · simp at h0
  · simp at h0
  · cases e; exact ⟨b, o, rfl, h1, h2⟩
theorem RowT.shape {w : World} {v : Value} {E : List Bool} (h : RowT w v E) : ∃ ao c, v = .slice ao E.length c := by
  rcases h with ⟨rfl, rfl⟩ | ⟨a, c, rfl, rfl⟩ | ⟨b, o, c, rfl, _, _⟩ <;> exact ⟨_, _, rfl⟩
def smallI (L : List OpM) (most : Int) : Bool := L.all (fun p => decide (p.keep.length ≤ 100)) && decide ((L.length : Int) ≤ most)
def cellsO (p : OpM) : Array Value := #[.int .i64 p.kind, .int .i64 p.n, .int .u8 p.fill, .int .i64 p.short, p.kv, .int .i64 p.torn, .int .i64 p.cut]
end Go.Proofs.Ytdcjchakgfpgaaa
