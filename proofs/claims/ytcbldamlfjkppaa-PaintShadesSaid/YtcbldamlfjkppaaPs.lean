/- Layer 10: stops. -/
import Derived.Test.YtcbldamlfjkppaaLw
import Derived.BigQuiet
namespace Go.Proofs.Ytcbldamlfjkppaa
open Go.RowKit
abbrev Stp := Int × Col
def StopAt (w : World) (b o : Nat) (p : Stp) : Prop := w.cell? ⟨b, o, none⟩ = some (.int .i64 p.1) ∧ w.cell? ⟨b, o + 1, none⟩ = some (.int .u8 (p.2 0)) ∧ w.cell? ⟨b, o + 2, none⟩ = some (.int .u8 (p.2 1)) ∧ w.cell? ⟨b, o + 3, none⟩ = some (.int .u8 (p.2 2)) ∧ w.cell? ⟨b, o + 4, none⟩ = some (.int .u8 (p.2 3))
/-- A slice of stops: nil; empty, with any address; a row. Its colours' numbers are bytes. -/
def RowS (w : World) (s : Value) (l : List Stp) : Prop :=
  ((s = .slice none 0 0 ∧ l = []) ∨ (∃ a c, s = .slice (some a) 0 c ∧ l = []) ∨ ∃ b o c, s = .slice (some ⟨b, o, none⟩) l.length c ∧ b < w.heap.size ∧ ∀ i p, l[i]? = some p → StopAt w b (o + i * 5) p) ∧ ∀ p ∈ l, OkC p.2
theorem StopAt.on {w w' : World} {b o B : Nat} {p : Stp} (h : StopAt w b o p) (hb : Below B w w') (hlt : b < B) : StopAt w' b o p := by
  obtain ⟨h0, h1, h2, h3, h4⟩ := h
  exact ⟨(cell_below hb hlt).trans h0, (cell_below hb hlt).trans h1, (cell_below hb hlt).trans h2, (cell_below hb hlt).trans h3, (cell_below hb hlt).trans h4⟩
theorem RowS.on {w w' : World} {s : Value} {l : List Stp} (h : RowS w s l) (hb : Below w.heap.size w w') : RowS w' s l := by
  obtain ⟨h | h | ⟨b, o, c, rfl, hlt, hp⟩, hc⟩ := h
  · exact ⟨.inl h, hc⟩
  · exact ⟨.inr (.inl h), hc⟩
  · exact ⟨.inr (.inr ⟨b, o, c, rfl, Nat.lt_of_lt_of_le hlt hb.size, fun i p hi => (hp i p hi).on hb hlt⟩), hc⟩
theorem RowS.shape {w : World} {v : Value} {l : List Stp} (h : RowS w v l) : ∃ ao c, v = .slice ao l.length c := by
  obtain ⟨⟨rfl, rfl⟩ | ⟨a, c, rfl, rfl⟩ | ⟨b, o, c, rfl, _⟩, _⟩ := h
  · exact ⟨none, 0, rfl⟩
  · exact ⟨_, _, rfl⟩
  · exact ⟨_, _, rfl⟩
theorem RowS.addr {w : World} {v : Value} {l : List Stp} (h : RowS w v l) (h0 : 0 < l.length) : ∃ b o c, v = .slice (some ⟨b, o, none⟩) l.length c ∧ b < w.heap.size ∧ ∀ i p, l[i]? = some p → StopAt w b (o + i * 5) p := by
  obtain ⟨⟨_, rfl⟩ | ⟨_, _, _, rfl⟩ | h, _⟩ := h
  · simp at h0
  · simp at h0
  · exact h
theorem RowS.ok {w : World} {v : Value} {l : List Stp} (h : RowS w v l) : ∀ p ∈ l, OkC p.2 := h.2
def sAt (l : List Stp) (k : Nat) : Stp := l.getD k (0, zeroC)
theorem sAt_some {l : List Stp} {k : Nat} (h : k < l.length) : l[k]? = some (sAt l k) := by
  unfold sAt
  rw [List.getD_eq_getElem?_getD, List.getElem?_eq_getElem h]; rfl
/-- Does the stop at k keep what a shade asks? -/
def stopOk (l : List Stp) (k : Nat) : Bool := decide ((sAt l k).1 ≥ 0) && decide ((sAt l k).1 ≤ 65536) && rightC (sAt l k).2 && (decide (k = 0) || decide ((sAt l (k - 1)).1 ≤ (sAt l k).1))
def chkS (l : List Stp) : Nat → Bool
  | 0 => true
  | k + 1 => chkS l k && stopOk l k
def okS (l : List Stp) : Bool := decide (1 ≤ l.length) && decide (l.length ≤ 16) && chkS l l.length
theorem chkS_at {l : List Stp} : ∀ {n k : Nat}, chkS l n = true → k < n → stopOk l k = true
  | n + 1, k, h, hk => by
    unfold chkS at h
    simp only [Bool.and_eq_true] at h
    rcases Nat.lt_or_ge k n with h1 | h1
    · exact chkS_at h.1 h1
    · rw [show k = n by omega]; exact h.2
theorem stopOk_iff {l : List Stp} {k : Nat} : stopOk l k = true ↔ 0 ≤ (sAt l k).1 ∧ (sAt l k).1 ≤ 65536 ∧ rightC (sAt l k).2 = true ∧ (k = 0 ∨ (sAt l (k - 1)).1 ≤ (sAt l k).1) := by
  unfold stopOk
  simp [and_assoc]
/-- The last of the first n stops whose At is at most t. -/
def lastI (l : List Stp) (t : Int) : Nat → Nat
  | 0 => 0
  | k + 1 => if (sAt l k).1 ≤ t then k else lastI l t k
theorem lastI_lt (l : List Stp) (t : Int) : ∀ n, 0 < n → lastI l t n < n
  | 0, h => absurd h (by decide)
  | n + 1, _ => by
    unfold lastI
    split
    · omega
    · rcases Nat.eq_zero_or_pos n with h | h
      · subst h; unfold lastI; omega
      · have := lastI_lt l t n h; omega
theorem lastI_spec {l : List Stp} {t : Int} (h0 : (sAt l 0).1 ≤ t) : ∀ n, 0 < n → (sAt l (lastI l t n)).1 ≤ t ∧ ∀ j, lastI l t n < j → j < n → t < (sAt l j).1
  | 0, h => absurd h (by decide)
  | n + 1, _ => by
    unfold lastI
    by_cases h : (sAt l n).1 ≤ t
    · rw [if_pos h]; exact ⟨h, fun j h1 h2 => absurd h2 (by omega)⟩
    · rw [if_neg h]
      rcases Nat.eq_zero_or_pos n with hn | hn
      · subst hn; exact absurd h0 h
      · obtain ⟨a, b⟩ := lastI_spec h0 n hn
        refine ⟨a, fun j h1 h2 => ?_⟩
        rcases Nat.lt_or_ge j n with h3 | h3
        · exact b j h1 h3
        · rw [show j = n by omega]; omega
/-- The part of the way from the stop k to the next one at which t lies. -/
def partS (l : List Stp) (t : Int) (k : Nat) : Int := ((t - (sAt l k).1) * 65536) / ((sAt l (k + 1)).1 - (sAt l k).1)
def shadeC (l : List Stp) (t : Int) : Col :=
  if okS l = true then (if t ≤ (sAt l 0).1 then (sAt l 0).2 else if t ≥ (sAt l (l.length - 1)).1 then (sAt l (l.length - 1)).2 else mixC (sAt l (lastI l t l.length)).2 (sAt l (lastI l t l.length + 1)).2 (partS l t (lastI l t l.length))) else zeroC
def errS (l : List Stp) : Int := if okS l = true then 0 else 30
theorem part_in {l : List Stp} {t : Int} {k : Nat} (h1 : (sAt l k).1 ≤ t) (h2 : t < (sAt l (k + 1)).1) (h0 : 0 ≤ (sAt l k).1) (h3 : (sAt l (k + 1)).1 ≤ 65536) : 0 ≤ partS l t k ∧ partS l t k ≤ 65536 ∧ ((t - (sAt l k).1) * 65536).tdiv ((sAt l (k + 1)).1 - (sAt l k).1) = partS l t k ∧ 0 ≤ (t - (sAt l k).1) * 65536 ∧ (t - (sAt l k).1) * 65536 ≤ 4294967296 := by
  unfold partS
  generalize (sAt l k).1 = a at *
  generalize (sAt l (k + 1)).1 = b at *
  have hn : 0 ≤ (t - a) * 65536 := by omega
  refine ⟨Int.ediv_nonneg hn (by omega), ?_, (tdiv_pos _ _ hn).1, hn, by omega⟩
  have hle : (t - a) * 65536 ≤ 65536 * (b - a) := by omega
  exact Int.ediv_le_of_le_mul (by omega) hle
/-- What package paint answers of stops. -/
structure ShadeOk : Prop where
  check : ∀ (s : Value) (l : List Stp) (w : World), RowS w s l → l.length ≤ 100 → Calls Try.prog 29 #[s] w fun e w' => e = .returned (.int .i64 (errS l)) ∧ Below w.heap.size w w'
  shade : ∀ (s : Value) (l : List Stp) (t : Int) (w : World), RowS w s l → l.length ≤ 100 → Calls Try.prog 28 #[s, .int .i64 t] w fun e w' => e = .returned (.tuple #[.agg #[.int .u8 (shadeC l t 0), .int .u8 (shadeC l t 1), .int .u8 (shadeC l t 2), .int .u8 (shadeC l t 3)], .int .i64 (errS l)]) ∧ Below w.heap.size w w'
end Go.Proofs.Ytcbldamlfjkppaa
