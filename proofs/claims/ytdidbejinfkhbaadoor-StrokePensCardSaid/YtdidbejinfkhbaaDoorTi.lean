/- Layer 7: small facts on rows of polygons. -/
import Derived.Test.YtdidbejinfkhbaaDoorTe
namespace Go.Proofs.YtdidbejinfkhbaaDoor
open Go.RowKit
theorem own_lim {w : World} {base size n : Nat} {t : TypeId} {v : Value} {xs : List Value} (h : w.ownsRow base t size v n xs) : n ≤ maxLen := by
  obtain ⟨_, ⟨_, rfl⟩ | ⟨g', cap', cur', _, _, _, hc, hM, _, _⟩⟩ := h
  · exact Nat.zero_le _
  · exact Nat.le_trans hc hM
theorem own_len {w : World} {base n c : Nat} {t : TypeId} {a : Option Addr} {L : List Pt} (h : Own w base t (.slice a n c) L) : L.length = n := by
  obtain ⟨_, ⟨e, h0⟩ | ⟨g', cap', cur', e, _⟩⟩ := h
  · cases e; exact h0
  · cases e; rfl
theorem polys_cell {w : World} {base q c k : Nat} {tR tP : TypeId} {a : Option Addr} {S : List (Value × List Pt)} {x : Value × List Pt} (h : Polys w base tR tP (.slice a q c) S) (hq : S.length = q) (hx : S[k]? = some x) :
    ∃ g, a = some ⟨g, 0, none⟩ ∧ g < w.heap.size ∧ w.cell? ⟨g, k, none⟩ = some x.1 := by
  have hrow := h.row
  obtain ⟨h1, ⟨e, h0⟩ | ⟨g', cap', cur', e, _, hg, _⟩⟩ := hrow
  · rw [List.eq_nil_of_length_eq_zero h0] at hx; cases hx
  · cases e
    refine ⟨g', rfl, (Array.getElem?_eq_some_iff.1 hg).1, ?_⟩
    have := h.row.cells (g := g') rfl k x.1 (by rw [List.getElem?_map, hx]; rfl)
    rwa [Addr.add_lit, Nat.zero_add] at this
theorem row_len {w : World} {ao : Option Addr} {n c : Nat} {l : List Pt} (h : Row w (.slice ao n c) l) : l.length = n := by
  rcases h with ⟨e, rfl⟩ | ⟨a, c', e, rfl⟩ | ⟨b, o, c', e, _, _⟩
  · cases e; rfl
  · cases e; rfl
  · cases e; rfl
theorem strokeOut_zero {l : List Pt} {cl : Bool} {h cap : Int} (hz : (strokeOut l cl h cap).1 = 0) : penB h = true ∧ l.all roomP = true := by
  unfold strokeOut at hz
  split at hz
  · rename_i hc
    simp only [Bool.and_eq_true] at hc
    exact ⟨hc.1.1, hc.2⟩
  · cases hz
end Go.Proofs.YtdidbejinfkhbaaDoor
