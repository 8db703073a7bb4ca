/- Rows of points that the call makes by append. -/
import Derived.Test.YticoklfgmflidaaDoorAx
import Derived.OwnWalk
import Derived.Laws.AppendOwn
namespace Go.Proofs.YticoklfgmflidaaDoor
open Go.RowKit

/-- The cells of a row of points. -/
def flatL : List Pt → List Value
  | [] => []
  | p :: l => .int .i64 p.1 :: .int .i64 p.2 :: flatL l
def flat (l : List Pt) : Array Value := (flatL l).toArray
theorem flatL_at : ∀ (l : List Pt) (i : Nat) (p : Pt), l[i]? = some p → (flatL l)[i * 2]? = some (.int .i64 p.1) ∧ (flatL l)[i * 2 + 1]? = some (.int .i64 p.2)
  | [], _, _, h => by cases h
  | q :: l, 0, p, h => by
    obtain rfl : q = p := by simpa using h
    exact ⟨rfl, rfl⟩
  | q :: l, i + 1, p, h => by
    have h := flatL_at l i p (by simpa using h)
    rw [show (i + 1) * 2 = i * 2 + 1 + 1 by omega]
    exact h
theorem flatL_append : ∀ (l m : List Pt), flatL (l ++ m) = flatL l ++ flatL m
  | [], _ => rfl
  | p :: l, m => by simp [flatL, flatL_append l m]
theorem flatL_length : ∀ l : List Pt, (flatL l).length = l.length * 2
  | [] => rfl
  | p :: l => by simp [flatL, flatL_length l]; omega
theorem flatL_one : ∀ (l : List Pt) (u : Value), u ∈ flatL l → u.oneCell' = true
  | [], _, h => by cases h
  | p :: l, u, h => by
    simp only [flatL, List.mem_cons] at h
    rcases h with rfl | rfl | h
    · rfl
    · rfl
    · exact flatL_one l u h
/-- A row of points that the call owns. -/
def Own (w : World) (base : Nat) (t : TypeId) (v : Value) (l : List Pt) : Prop := w.ownsRow base t 2 v l.length (flatL l)
theorem Own.nil (w : World) (base : Nat) (t : TypeId) : Own w base t (.slice none 0 0) [] := World.ownsRow_nil _ _ _ _
theorem Own.row {w : World} {base : Nat} {t : TypeId} {v : Value} {l : List Pt} (h : Own w base t v l) : Row w v l := by
  obtain ⟨_, ⟨rfl, hn⟩ | ⟨g, cap, cur, rfl, _, hg, hc, _, hs, ht⟩⟩ := h
  · exact .inl ⟨rfl, List.eq_nil_of_length_eq_zero hn⟩
  · refine .inr (.inr ⟨g, 0, cap, rfl, (Array.getElem?_eq_some_iff.1 hg).1, fun i p hp => ?_⟩)
    have e := flatL_at l i p hp
    have hi : i < l.length := (List.getElem?_eq_some_iff.1 hp).1
    have key : ∀ j, j < l.length * 2 → w.cell? ⟨g, j, none⟩ = (flatL l)[j]? := fun j hj => by
      rw [Joins.cell_of_block hg j, ← ht, List.getElem?_take, if_pos hj]; simp
    rw [Nat.zero_add, key _ (by omega), key _ (by omega)]
    exact e
theorem Own.grow {w w' : World} {base : Nat} {t : TypeId} {v : Value} {l : List Pt} (h : Own w base t v l) (hb : Below w.heap.size w w') : Own w' base t v l := by
  unfold Own World.ownsRow at *
  obtain ⟨h1, h2 | ⟨g, cap, cur, e1, e2, hg, e3⟩⟩ := h
  · exact ⟨h1, .inl h2⟩
  · exact ⟨h1, .inr ⟨g, cap, cur, e1, e2, by rw [hb.block g (Array.getElem?_eq_some_iff.1 hg).1]; exact hg, e3⟩⟩
/-- What an append leaves of older memory. -/
theorem own_below {w W w' : World} {B base : Nat} {e : TypeId} {size : Nat} {v : Value} {n : Nat} {xs : List Value} (h : W.ownsRow base e size v n xs) (g : W.grownBy w' v.ownBlock) (hb : Below B w W) (hB : B ≤ base) (hs : B ≤ W.heap.size) : Below B w w' :=
  ⟨g.os.trans hb.os, g.tape.trans hb.tape, g.output.trans hb.output, Nat.le_trans hb.size g.size, fun k hk => by
    rw [g.block k (by omega) (fun e => by have := h.lt k e.symm; omega)]; exact hb.block k hk⟩
theorem own_blk {W w' : World} {base : Nat} {e : TypeId} {size : Nat} {v : Value} {n : Nat} {xs : List Value} (h : W.ownsRow base e size v n xs) (g : W.grownBy w' v.ownBlock) {k : Nat} {t : TypeId} {cs : Array Value} (hk : Blk W k t cs) (hlt : k < base) : Blk w' k t cs := by
  unfold Blk
  rw [g.block k hk.lt (fun e => by have := h.lt k e.symm; omega)]; exact hk
/-- Another row of the call's own, in a block of its own. -/
theorem own_other {W w' : World} {v : Value} (g : W.grownBy w' v.ownBlock) {base' : Nat} {t : TypeId} {u : Value} {l : List Pt} (hk : Own W base' t u l) (hne : u.ownBlock = none ∨ u.ownBlock ≠ v.ownBlock) : Own w' base' t u l :=
  World.ownsRow.kept hk g hne
theorem Row.shape {w : World} {v : Value} {l : List Pt} (h : Row w v l) : ∃ ao c, v = .slice ao l.length c := by
  rcases h with ⟨rfl, rfl⟩ | ⟨a, c, rfl, rfl⟩ | ⟨b, o, c, rfl, _, _⟩ <;> exact ⟨_, _, rfl⟩
theorem Row.addr {w : World} {ao : Option Addr} {n c : Nat} {l : List Pt} (h : Row w (.slice ao n c) l) {k : Nat} (hk : k < l.length) : ∃ b o, ao = some ⟨b, o, none⟩ ∧ b < w.heap.size ∧ PtsAt w b o l := by
  rcases h with ⟨_, rfl⟩ | ⟨a, c, _, rfl⟩ | ⟨b, o, c, e, h1, h2⟩
  · simp at hk
  · simp at hk
  · simp at e
    exact ⟨b, o, e.1, h1, h2⟩
theorem infoP : (Tryd.prog.info? 25).map (fun i => (i.zero, i.size, i.bytes)) = some (some (.agg (two (0, 0))), 2, 16) := by kernel_rfl
theorem Own.lt {w : World} {base : Nat} {t : TypeId} {v : Value} {l : List Pt} (h : Own w base t v l) {g : Nat} (hg : v.ownBlock = some g) : g < w.heap.size := by
  obtain ⟨_, ⟨rfl, _⟩ | ⟨g', cap, cur, rfl, _, hb, _⟩⟩ := h
  · cases hg
  · have e : g' = g := by simpa [Value.ownBlock] using hg
    subst e
    exact (Array.getElem?_eq_some_iff.1 hb).1
end Go.Proofs.YticoklfgmflidaaDoor
