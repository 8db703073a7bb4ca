/- limnerlaw03's ref and at; geom.counts. -/
import Derived.Test.YtbllbncmeihaaaaGe
namespace Go.Proofs.Ytbllbncmeihaaaa
open Go.RowKit
theorem ref_c (x y : Int) (w : World) : Calls Try.prog 14 #[.agg #[.int .i64 x, .int .i64 y]] w fun e w' => e = .returned (.agg #[.int .i64 x, .int .i64 y]) ∧ Below w.heap.size w w' := by
  go_enter Try.func14, Try.ntmps14
  go_wp2_with fail
  go_returns
  exact ⟨rfl, by go_grown⟩
theorem at_c (x y : Int) (w : World) : Calls Try.prog 28 #[.int .i64 x, .int .i64 y] w fun e w' => e = .returned (.agg #[.int .i64 x, .int .i64 y]) ∧ Below w.heap.size w w' := by
  go_enter Try.func28, Try.ntmps28
  go_wp2_with fail
  go_returns
  exact ⟨rfl, by go_grown⟩
/-- What an edge counts. -/
def cnt (px py qx qy sx sy : Int) : Int :=
  if py ≤ sy ∧ sy < qy ∧ 0 < sideI px py qx qy sx sy then 1 else if qy ≤ sy ∧ sy < py ∧ sideI px py qx qy sx sy < 0 then -1 else 0
set_option maxHeartbeats 400000 in
set_option maxRecDepth 100000 in
theorem counts_walk (px py qx qy sx sy sd r : Int) (w : World) (HR : Hid (r = (if py ≤ sy ∧ sy < qy ∧ 0 < sd then 1 else if qy ≤ sy ∧ sy < py ∧ sd < 0 then -1 else 0)))
    (HS : Hid (∀ w, Calls Try.prog 12 #[.agg #[.int .i64 px, .int .i64 py], .agg #[.int .i64 qx, .int .i64 qy], .agg #[.int .i64 sx, .int .i64 sy]] w fun e w' => e = .returned (.int .i64 sd) ∧ Below w.heap.size w w')) :
    Calls Try.prog 32 #[.agg #[.int .i64 px, .int .i64 py], .agg #[.int .i64 qx, .int .i64 qy], .agg #[.int .i64 sx, .int .i64 sy]] w fun e w' => e = .returned (.int .i64 r) ∧ Below w.heap.size w w' := by
  obtain ⟨W, hW⟩ : ∃ W, ((w.alloc (.cells #[.int .i64 px, .int .i64 py] 23)).alloc (.cells #[.int .i64 qx, .int .i64 qy] 23)).alloc (.cells #[.int .i64 sx, .int .i64 sy] 23) = W := ⟨_, rfl⟩
  obtain ⟨p1, p2, p3, hB, hs⟩ := three_pts w px py qx qy sx sy W hW
  have HF : Hid (∀ w', Below W.heap.size W w' → w'.cell? ⟨w.heap.size, 1, none⟩ = some (.int .i64 py) ∧ w'.cell? ⟨w.heap.size + 1, 1, none⟩ = some (.int .i64 qy) ∧ w'.cell? ⟨w.heap.size + 2, 1, none⟩ = some (.int .i64 sy)) := fun w' hw' =>
    ⟨(p1.on hw' (by omega)).c1, (p2.on hw' (by omega)).c1, (p3.on hw' (by omega)).c1⟩
  have HB := Lib.hid hB
  have HZ : Hid (w.heap.size ≤ W.heap.size) := by unfold Hid; omega
  have HW := Lib.hid hW
  clear p1 p2 p3 hB hs hW
  by_cases h1 : py ≤ sy ∧ sy < qy
  · obtain ⟨h1, h2⟩ := h1
    go_enter Try.func32, Try.ntmps32
    go_wp2_with fail
    refine (HS.out _).mono ?_
    rintro e w1 ⟨rfl, hb⟩
    rw [HW.out] at hb
    obtain ⟨c1, c2, c3⟩ := HF.out w1 hb
    have B1 : Hid (Below w.heap.size w w1) := HB.out.trans (hb.mono HZ.out)
    clear hb
    by_cases h3 : 0 < sd
    · go_wp2_with fail
      go_ret
      exact ⟨retI (by rw [HR.out]; (repeat' split) <;> omega), B1.out⟩
    · go_wp2_with fail
      go_ret
      exact ⟨retI (by rw [HR.out]; (repeat' split) <;> omega), B1.out⟩
  · by_cases h2 : qy ≤ sy ∧ sy < py
    · obtain ⟨h2, h3⟩ := h2
      have h4 : ¬ py ≤ sy := by omega
      go_enter Try.func32, Try.ntmps32
      go_wp2_with fail
      refine (HS.out _).mono ?_
      rintro e w1 ⟨rfl, hb⟩
      rw [HW.out] at hb
      have B1 : Hid (Below w.heap.size w w1) := HB.out.trans (hb.mono HZ.out)
      clear hb
      by_cases h5 : sd < 0
      · go_wp2_with fail
        go_ret
        exact ⟨retI (by rw [HR.out]; (repeat' split) <;> omega), B1.out⟩
      · go_wp2_with fail
        go_ret
        exact ⟨retI (by rw [HR.out]; (repeat' split) <;> omega), B1.out⟩
    · by_cases k1 : py ≤ sy <;> by_cases k2 : sy < qy <;> by_cases k3 : qy ≤ sy <;> by_cases k4 : sy < py <;> first | (exfalso; omega) | skip
      all_goals (clear h1 h2; go_enter Try.func32, Try.ntmps32; go_wp2_with fail; go_ret; exact ⟨retI (by rw [HR.out]; (repeat' split) <;> omega), by go_grown⟩)
theorem counts_c (px py qx qy sx sy : Int) (w : World) (h : room px = true ∧ room py = true ∧ room qx = true ∧ room qy = true ∧ room sx = true ∧ room sy = true) :
    Calls Try.prog 32 #[.agg #[.int .i64 px, .int .i64 py], .agg #[.int .i64 qx, .int .i64 qy], .agg #[.int .i64 sx, .int .i64 sy]] w fun e w' => e = .returned (.int .i64 (cnt px py qx qy sx sy)) ∧ Below w.heap.size w w' :=
  counts_walk px py qx qy sx sy _ _ w (Lib.hid rfl) (Lib.hid fun w => side_c _ _ _ _ _ _ w h)
end Go.Proofs.Ytbllbncmeihaaaa
