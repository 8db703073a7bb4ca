/- Layer 8: windows, the code's and the document's. -/
import Derived.Test.YtopngjpgikpmaaaCa
namespace Go.Proofs.Ytopngjpgikpmaaa
open Go.RowKit
def winB (w : Bx) : Bool := !emptyI w && !anyB farB w && decide (w.x1 - w.x0 ≤ 256) && decide (w.y1 - w.y0 ≤ 256)
theorem winB_iff (w : Bx) : winB w = true ↔ w.x0 < w.x1 ∧ w.y0 < w.y1 ∧ -4194304 ≤ w.x0 ∧ w.x1 ≤ 4194304 ∧ -4194304 ≤ w.y0 ∧ w.y1 ≤ 4194304 ∧ w.x1 - w.x0 ≤ 256 ∧ w.y1 - w.y0 ≤ 256 := by
  unfold winB emptyI anyB farB; simp; omega
set_option maxHeartbeats 2000000 in
set_option maxRecDepth 100000 in
theorem isWindow_c (b : Bx) (w : World) : Calls Try.prog 26 #[.agg #[.int .i64 b.x0, .int .i64 b.y0, .int .i64 b.x1, .int .i64 b.y1]] w fun e w' => e = .returned (.bool (winB b)) ∧ Below w.heap.size w w' := by
  have HE := Lib.hid (empty_c b)
  have HY := Lib.hid (any_far b)
  have hf : anyB farB b = false → -4194304 ≤ b.x0 ∧ b.x0 ≤ 4194304 ∧ -4194304 ≤ b.y0 ∧ b.y0 ≤ 4194304 ∧ -4194304 ≤ b.x1 ∧ b.x1 ≤ 4194304 ∧ -4194304 ≤ b.y1 ∧ b.y1 ≤ 4194304 := by
    unfold anyB farB; simp; omega
  unfold winB
  obtain ⟨x0, y0, x1, y1⟩ := b
  generalize emptyI _ = r1 at *
  generalize anyB farB _ = r2 at *
  simp only at *
  cases r1
  · cases r2
    · obtain ⟨h1, h2, h3, h4, h5, h6, h7, h8⟩ := hf rfl
      clear hf
      go_enter Try.func26, Try.ntmps26
      go_wp2_with fail
      refine (HE.out _).mono ?_
      rintro e w1 ⟨rfl, hb⟩
      have K0 : Hid (Blk (w.alloc (.cells #[.int .i64 x0, .int .i64 y0, .int .i64 x1, .int .i64 y1] 24)) w.heap.size 24 (four ⟨x0, y0, x1, y1⟩)) := Blk.new _ _ _
      have B1 : Hid (Below w.heap.size w w1) := ((Below.refl _ _).alloc (Nat.le_refl _) _).trans (hb.mono (by simp))
      have K1 := Lib.hid (K0.out.grow hb)
      have c0 := K1.out.b0
      have c1 := K1.out.b1
      have c2 := K1.out.b2
      have c3 := K1.out.b3
      clear hb
      go_wp2_with fail
      refine (HY.out _).mono ?_
      rintro e w2 ⟨rfl, hb⟩
      have B2 : Hid (Below w.heap.size w w2) := B1.out.trans (hb.mono B1.out.size)
      have K2 := Lib.hid (K1.out.grow hb)
      have d0 := K2.out.b0
      have d1 := K2.out.b1
      have d2 := K2.out.b2
      have d3 := K2.out.b3
      clear hb c0 c1 c2 c3
      go_wp2
      all_goals go_ret
      all_goals exact ⟨retB (by rw [Bool.eq_iff_iff]; simp_all; try omega), B2.out⟩
    · clear hf
      go_enter Try.func26, Try.ntmps26
      go_wp2_with fail
      refine (HE.out _).mono ?_
      rintro e w1 ⟨rfl, hb⟩
      have K0 : Hid (Blk (w.alloc (.cells #[.int .i64 x0, .int .i64 y0, .int .i64 x1, .int .i64 y1] 24)) w.heap.size 24 (four ⟨x0, y0, x1, y1⟩)) := Blk.new _ _ _
      have B1 : Hid (Below w.heap.size w w1) := ((Below.refl _ _).alloc (Nat.le_refl _) _).trans (hb.mono (by simp))
      have K1 := Lib.hid (K0.out.grow hb)
      have c0 := K1.out.b0
      have c1 := K1.out.b1
      have c2 := K1.out.b2
      have c3 := K1.out.b3
      clear hb
      go_wp2_with fail
      refine (HY.out _).mono ?_
      rintro e w2 ⟨rfl, hb⟩
      have B2 : Hid (Below w.heap.size w w2) := B1.out.trans (hb.mono B1.out.size)
      clear hb c0 c1 c2 c3
      go_wp2_with fail
      go_ret
      exact ⟨rfl, B2.out⟩
  · clear hf
    go_enter Try.func26, Try.ntmps26
    go_wp2_with fail
    refine (HE.out _).mono ?_
    rintro e w1 ⟨rfl, hb⟩
    have B1 : Hid (Below w.heap.size w w1) := ((Below.refl _ _).alloc (Nat.le_refl _) _).trans (hb.mono (by simp))
    clear hb
    go_wp2_with fail
    go_ret
    exact ⟨rfl, B1.out⟩
set_option maxHeartbeats 4000000 in
set_option maxRecDepth 100000 in
theorem window_c (x0 y0 x1 y1 : Int) (w : World) : Calls Try.prog 13 #[.int .i64 x0, .int .i64 y0, .int .i64 x1, .int .i64 y1] w fun e w' => e = .returned (.bool (winB ⟨x0, y0, x1, y1⟩)) ∧ w = w' := by
  have HW := Lib.hid (winB_iff ⟨x0, y0, x1, y1⟩)
  go_enter Try.func13, Try.ntmps13
  go_wp2
  all_goals go_ret
  all_goals exact ⟨retB (by rw [Bool.eq_iff_iff, HW.out]; simp only [decide_eq_true_eq, Bool.false_eq_true, false_iff]; omega), rfl⟩
end Go.Proofs.Ytopngjpgikpmaaa
