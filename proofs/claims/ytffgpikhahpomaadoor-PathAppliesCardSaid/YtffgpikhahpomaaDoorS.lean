/- Layer 5: the pieces that Flat has waiting. -/
import Derived.Test.YtffgpikhahpomaaDoorR
namespace Go.Proofs.YtffgpikhahpomaaDoor
open Go.RowKit
/-- A piece: a curve, and how many times it is yet to be parted. -/
abbrev Pc := List Pt × Nat
def pcR (x : Ro) (k : Nat) : List Value := [.int .i64 x.p.1, .int .i64 x.p.2, .int .i64 x.q.1, .int .i64 x.q.2, .int .i64 x.r.1, .int .i64 x.r.2, .int .i64 x.s.1, .int .i64 x.s.2, .int .i64 x.n, .int .i64 (k : Int)]
def pcL (c : Pc) : List Value := pcR (ro c.1) c.2
/-- The cells of the pieces that wait: the one taken up next is the last one. -/
def stk : List Pc → List Value
  | [] => []
  | c :: l => stk l ++ pcL c
theorem stk_length : ∀ l : List Pc, (stk l).length = l.length * 10
  | [] => rfl
  | c :: l => by simp [stk, stk_length l, pcL, pcR]; omega
theorem pcR_one (x : Ro) (k : Nat) : ∀ u ∈ pcR x k, u.oneCell' = true := by
  intro u hu
  simp [pcR] at hu
  rcases hu with rfl | rfl | rfl | rfl | rfl | rfl | rfl | rfl | rfl | rfl <;> rfl
/-- The lines of all that wait. -/
def rest : List Pc → List Pt
  | [] => []
  | c :: l => flatI c.2 c.1 ++ rest l
/-- How many rounds are to come. -/
def todo : List Pc → Nat
  | [] => 0
  | c :: l => (2 ^ (c.2 + 1) - 1) + todo l
theorem todo_pop (l : List Pt) (st : List Pc) (k : Nat) (h : todo ((l, 0) :: st) ≤ k) : todo st + 1 ≤ k := by
  simp [todo] at h; omega
theorem todo_part (l a b : List Pt) (m : Nat) (st : List Pc) (k : Nat) (h : todo ((l, m + 1) :: st) ≤ k) : todo ((a, m) :: (b, m) :: st) + 1 ≤ k := by
  have hp : 0 < 2 ^ m := Nat.pos_of_ne_zero (by simp)
  simp only [todo, Nat.pow_succ] at h ⊢
  omega
theorem rest_few : ∀ st : List Pc, st.length ≤ (rest st).length
  | [] => Nat.le_refl _
  | c :: l => by
    have := rest_few l
    have hp : 0 < 2 ^ c.2 := Nat.pos_of_ne_zero (by simp)
    simp [rest, flatI_length]
    omega
theorem own_cells {w : World} {base g cap m : Nat} {t : TypeId} {c : Pc} {st : List Pc} (h : w.ownsRow base t 10 (.slice (some ⟨g, 0, none⟩) (m + 1) cap) (m + 1) (stk (c :: st))) (hm : st.length = m) : ∀ j u, (pcL c)[j]? = some u → w.cell? ⟨g, m * 10 + j, none⟩ = some u := fun j u hj => by
  have := h.cells (g := g) rfl (m * 10 + j) u (by
    rw [stk, List.getElem?_append_right (by rw [stk_length, hm]; omega), stk_length, hm, Nat.add_sub_cancel_left]
    exact hj)
  rw [Addr.add_lit, Nat.zero_add] at this
  exact this
theorem own_pop {w : World} {base g cap m : Nat} {t : TypeId} {c : Pc} {st : List Pc} (h : w.ownsRow base t 10 (.slice (some ⟨g, 0, none⟩) (m + 1) cap) (m + 1) (stk (c :: st))) (hm : st.length = m) : w.ownsRow base t 10 (.slice (some ⟨g, 0, none⟩) m cap) m (stk st) := by
  obtain ⟨_, ⟨hv, _⟩ | ⟨g', cap', cur, hv, hb, hg, hc, hmx, hs, ht⟩⟩ := h
  · cases hv
  · simp only [Value.slice.injEq, Option.some.injEq, Addr.mk.injEq, and_true, true_and] at hv
    obtain ⟨rfl, rfl⟩ := hv
    refine ⟨by rw [stk_length, hm], .inr ⟨g, cap, cur, rfl, hb, hg, by omega, hmx, hs, ?_⟩⟩
    have e : cur.toList.take (m * 10) = (cur.toList.take ((m + 1) * 10)).take (m * 10) := by
      rw [List.take_take, Nat.min_eq_left (by omega)]
    rw [e, ht, stk, List.take_append_of_le_length (by rw [stk_length, hm]; omega), List.take_of_length_le (by rw [stk_length, hm]; omega)]
theorem own_some {w : World} {base n : Nat} {t : TypeId} {v : Value} {xs : List Value} (h : w.ownsRow base t 10 v (n + 1) xs) : ∃ g cap, v = .slice (some ⟨g, 0, none⟩) (n + 1) cap ∧ base ≤ g ∧ g < w.heap.size ∧ n + 1 ≤ cap := by
  obtain ⟨_, ⟨_, hv⟩ | ⟨g, cap, cur, hv, hb, hg, hc, _⟩⟩ := h
  · cases hv
  · exact ⟨g, cap, hv, hb, (Array.getElem?_eq_some_iff.1 hg).1, hc⟩
theorem own_take {w : World} {base : Nat} {t : TypeId} {v : Value} {xs : List Value} {c : Pc} {st : List Pc} (h : w.ownsRow base t 10 v (c :: st).length xs) : ∃ g cap M m, v = .slice (some ⟨g, 0, none⟩) M cap ∧ st.length = m ∧ M = m + 1 ∧ base ≤ g ∧ g < w.heap.size ∧ M ≤ cap ∧ w.ownsRow base t 10 (.slice (some ⟨g, 0, none⟩) (m + 1) cap) (m + 1) xs := by
  obtain ⟨g, cap, rfl, h1, h2, h3⟩ := own_some h
  exact ⟨g, cap, _, _, rfl, rfl, rfl, h1, h2, h3, h⟩
theorem own_shape {w : World} {base n : Nat} {t : TypeId} {v : Value} {xs : List Value} (h : w.ownsRow base t 10 v n xs) : ∃ a c, v = .slice a n c := by
  obtain ⟨_, ⟨rfl, rfl⟩ | ⟨g, cap, cur, hv, _⟩⟩ := h
  · exact ⟨_, _, rfl⟩
  · exact ⟨_, _, hv⟩
theorem infoPc : (Tryd.prog.info? 115).map (fun i => (i.zero, i.size, i.bytes)) = some (some (.agg #[.int .i64 0, .int .i64 0, .int .i64 0, .int .i64 0, .int .i64 0, .int .i64 0, .int .i64 0, .int .i64 0, .int .i64 0, .int .i64 0]), 10, 80) := by kernel_rfl
theorem make_cap (W : World) (c : Nat) (hc : c ≤ 64) : (Instr.makeSlice 37 (.int .i64 0) (.int .i64 (c : Int))).run Tryd.prog W = .ok (.slice (some ⟨W.heap.size, 0, none⟩) 0 c) (W.alloc (.cells (madeCells #[.int .i64 0, .int .i64 0] (c * 2)) 44)) := by
  obtain ⟨i, hi, hz0, hz1, hz2⟩ := info_parts infoP
  have h := run_make (P := Tryd.prog) W 37 44 i _ Tryd.underlying37 hi hz0 .i64 .i64 0 c (by omega) (by omega) (by rw [hz2]; omega) (by omega)
  rw [hz1] at h
  exact h
/-- What the loop keeps. -/
structure FlatR (n ge cap : Nat) (w : World) (full : List Pt) (k : Nat) (e7 s7 : Value) (wr : World) (E : List Pt) (st : List Pc) : Prop where
  ends : wr.ownsRow n 44 2 e7 E.length (flatL E)
  shape : e7 = .slice (some ⟨ge, 0, none⟩) E.length cap
  wait : wr.ownsRow (ge + 1) 115 10 s7 st.length (stk st)
  all : E ++ rest st = full
  curves : ∀ c ∈ st, curveB c.1 = true
  few : todo st ≤ k
  below : Below n w wr
  low : n ≤ ge
  big : ge < wr.heap.size
end Go.Proofs.YtffgpikhahpomaaDoor

