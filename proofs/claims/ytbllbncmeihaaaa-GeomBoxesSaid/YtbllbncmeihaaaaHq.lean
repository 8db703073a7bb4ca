/- Boxes: what the law asks; the statements' own 'has' and 'none'. -/
import Derived.Test.YtbllbncmeihaaaaHf
namespace Go.Proofs.Ytbllbncmeihaaaa
open Go.RowKit
theorem none_c (b : Bx) (w : World) : Calls Try.prog 22 #[.agg #[.int .i64 b.x0, .int .i64 b.y0, .int .i64 b.x1, .int .i64 b.y1]] w fun e w' => e = .returned (.bool (emptyI b)) ∧ Below w.heap.size w w' := by
  obtain ⟨x0, y0, x1, y1⟩ := b
  unfold emptyI
  by_cases h : x0 ≥ x1
  · go_enter Try.func22, Try.ntmps22
    go_wp2_with fail
    go_ret
    exact ⟨by simp [h], by go_grown⟩
  · go_enter Try.func22, Try.ntmps22
    go_wp2_with fail
    go_ret
    exact ⟨by simp; omega, by go_grown⟩
theorem meet_comm (a b : Bx) : meetI b a = meetI a b := by
  have e : meet0 b a = meet0 a b := by unfold meet0; rw [Int.max_comm b.x0, Int.max_comm b.y0, Int.min_comm b.x1, Int.min_comm b.y1]
  unfold meetI; rw [e]
theorem join_comm (a b : Bx) : joinI b a = joinI a b := by
  unfold joinI
  cases ha : emptyI a <;> cases hb : emptyI b <;> simp
  · unfold join0; rw [Int.min_comm b.x0, Int.min_comm b.y0, Int.max_comm b.x1, Int.max_comm b.y1]
theorem meet_has (a b : Bx) (x y : Int) : hasI (meetI a b) x y = (hasI a x y && hasI b x y) := by
  unfold meetI
  split
  · rename_i h
    unfold emptyI meet0 at h
    unfold hasI
    rw [Bool.eq_iff_iff]
    simp only [Bool.and_eq_true, decide_eq_true_eq, Bool.or_eq_true] at *
    omega
  · unfold hasI meet0
    rw [Bool.eq_iff_iff]
    simp only [Bool.and_eq_true, decide_eq_true_eq]
    omega
theorem join_has (a b : Bx) (x y : Int) (h : hasI a x y = true ∨ hasI b x y = true) : hasI (joinI a b) x y = true := by
  unfold joinI
  cases ha : emptyI a <;> cases hb : emptyI b <;> simp
  all_goals (unfold emptyI at ha hb; unfold hasI at *; simp only [Bool.and_eq_true, decide_eq_true_eq, Bool.or_eq_false_iff, Bool.or_eq_true, decide_eq_false_iff_not] at *)
  · simp only [join0]; omega
  · omega
  · omega
  · omega
theorem meet_none (a b : Bx) (h : emptyI (meetI a b) = true) : meetI a b = ⟨0, 0, 0, 0⟩ := by
  unfold meetI at *
  split
  · rfl
  · rename_i h'
    rw [if_neg h'] at h
    exact absurd h h'
end Go.Proofs.Ytbllbncmeihaaaa
