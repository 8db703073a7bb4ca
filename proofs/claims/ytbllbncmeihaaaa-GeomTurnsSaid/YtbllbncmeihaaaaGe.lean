/- limnerref03.Side. -/
import Derived.Test.YtbllbncmeihaaaaGd
namespace Go.Proofs.Ytbllbncmeihaaaa
open Go.RowKit
set_option maxHeartbeats 1000000 in
set_option maxRecDepth 100000 in
theorem refSide_walk (ax ay bx bY cx cy s m n t p q : Int) (w : World)
    (e1 : wrap64 (bx - ax) = bx - ax) (e2 : wrap64 (cy - ay) = cy - ay) (e3 : wrap64 (bY - ay) = bY - ay) (e4 : wrap64 (cx - ax) = cx - ax) (hs : -1 ≤ s ∧ s ≤ 1)
    (HM1 : Hid (∀ w, Calls Try.prog 31 #[.int .i64 (bx - ax), .int .i64 (cy - ay)] w fun e w' => e = .returned (.tuple #[.int .i64 s, .int .i64 m, .int .i64 n]) ∧ w = w'))
    (HM2 : Hid (∀ w, Calls Try.prog 31 #[.int .i64 (bY - ay), .int .i64 (cx - ax)] w fun e w' => e = .returned (.tuple #[.int .i64 t, .int .i64 p, .int .i64 q]) ∧ w = w')) :
    Calls Try.prog 13 #[.agg #[.int .i64 ax, .int .i64 ay], .agg #[.int .i64 bx, .int .i64 bY], .agg #[.int .i64 cx, .int .i64 cy]] w fun e w' => e = .returned (.int .i64 (sideR s m n t p q)) ∧ Below w.heap.size w w' := by
  go_enter Try.func13, Try.ntmps13
  go_wp2_with fail
  refine (HM1.out _).mono ?_
  rintro e w' ⟨rfl, rfl⟩
  go_wp2_with fail
  refine (HM2.out _).mono ?_
  rintro e w' ⟨rfl, rfl⟩
  go_wp2_with fail
  all_goals go_ret
  all_goals refine ⟨retI ?_, by go_grown⟩
  all_goals (simp only [bne_iff_ne, ne_eq, bne_eq_false_iff_eq, beq_iff_eq, beq_eq_false_iff_ne] at *; clear HM1 HM2)
  all_goals (unfold sideR; repeat' split)
  all_goals omega

theorem refSide_c (ax ay bx bY cx cy : Int) (w : World) (h : room ax = true ∧ room ay = true ∧ room bx = true ∧ room bY = true ∧ room cx = true ∧ room cy = true) :
    Calls Try.prog 13 #[.agg #[.int .i64 ax, .int .i64 ay], .agg #[.int .i64 bx, .int .i64 bY], .agg #[.int .i64 cx, .int .i64 cy]] w fun e w' => e = .returned (.int .i64 (sideI ax ay bx bY cx cy)) ∧ Below w.heap.size w w' := by
  simp only [room_iff] at h
  obtain ⟨s, m, n, r1, k1⟩ := product_c (bx - ax) (cy - ay) (by omega) (by omega) (by omega) (by omega)
  obtain ⟨t, p, q, r2, k2⟩ := product_c (bY - ay) (cx - ax) (by omega) (by omega) (by omega) (by omega)
  have hs : -1 ≤ s ∧ s ≤ 1 := by unfold Rep at r1; omega
  unfold sideI
  rw [← sideR_eq r1 r2]
  refine refSide_walk ax ay bx bY cx cy s m n t p q w ?_ ?_ ?_ ?_ hs (Lib.hid k1) (Lib.hid k2)
  all_goals (unfold wrap64; omega)
end Go.Proofs.Ytbllbncmeihaaaa
