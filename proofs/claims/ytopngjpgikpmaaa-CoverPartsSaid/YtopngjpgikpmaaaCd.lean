/- Layer 8: how many samples are below; where an edge crosses a row; the field of a part. -/
import Derived.Test.YtopngjpgikpmaaaCa
import Derived.Test.YtopngjpgikpmaaaWe
import Derived.Test.YtopngjpgikpmaaaL
namespace Go.Proofs.Ytopngjpgikpmaaa
open Go.RowKit
set_option maxHeartbeats 1000000 in
theorem samples_c (n first : Int) (many : Nat) (w : World) (h1 : -1099511627776 ≤ n) (h2 : n ≤ 1099511627776) (h3 : -1099511627776 ≤ first) (h4 : first ≤ 1099511627776) :
    Calls Try.prog 57 #[.int .i64 n, .int .i64 first, .int .i64 (many : Int)] w fun e w' => e = .returned (.int .i64 (belowI n first many : Nat)) ∧ w = w' := by
  have HC := Lib.hid (fun w => ceil_any ((n - first) * 4) w (by omega) (by omega))
  have HV : Hid (((belowI n first many : Nat) : Int) = min (max (cei ((n - first) * 4)) 0) many) := by unfold Hid belowI; omega
  rw [HV.out]
  clear HV
  generalize cei ((n - first) * 4) = z at *
  go_enter Try.func57, Try.ntmps57
  go_wp2_with fail
  refine (HC.out _).mono ?_
  rintro e w' ⟨rfl, rfl⟩
  go_wp2_with fail
  go_ret
  exact ⟨rfl, rfl⟩
set_option maxHeartbeats 2000000 in
set_option maxRecDepth 100000 in
theorem crossing_walk (ax ay bx bY y z : Int) (ft : Bool) (w : World) (h1 : -2147483648 ≤ ax ∧ ax ≤ 2147483648) (h2 : -2147483648 ≤ bx ∧ bx ≤ 2147483648) (h3 : -2147483648 ≤ ay ∧ ay ≤ 2147483648) (h4 : -2147483648 ≤ bY ∧ bY ≤ 2147483648) (h5 : -2147483648 ≤ y ∧ y ≤ 2147483648)
    (hz : -9223372036854775808 ≤ ax - z ∧ ax - z ≤ 9223372036854775807)
    (HM : Hid (∀ w, Calls Try.prog 63 #[.int .i64 (ax - bx), .int .i64 (y - ay), .int .i64 (bY - ay)] w fun e w' => e = .returned (.tuple #[.int .i64 z, .bool ft, .int .i64 0]) ∧ Below w.heap.size w w')) :
    Calls Try.prog 58 #[.agg #[.int .i64 ax, .int .i64 ay], .agg #[.int .i64 bx, .int .i64 bY], .int .i64 y] w fun e w' => e = .returned (.int .i64 (ax - z)) ∧ Below w.heap.size w w' := by
  obtain ⟨h1a, h1b⟩ := h1
  obtain ⟨h2a, h2b⟩ := h2
  obtain ⟨h3a, h3b⟩ := h3
  obtain ⟨h4a, h4b⟩ := h4
  obtain ⟨h5a, h5b⟩ := h5
  obtain ⟨hza, hzb⟩ := hz
  go_enter Try.func58, Try.ntmps58
  go_wp2_with fail
  refine (HM.out _).mono ?_
  rintro e w1 ⟨rfl, hb⟩
  have K0 : Hid (Blk ((w.alloc (.cells #[.int .i64 ax, .int .i64 ay] 39)).alloc (.cells #[.int .i64 bx, .int .i64 bY] 39)) w.heap.size 39 (two (ax, ay))) := (Blk.new _ _ _).alloc _
  have B1 : Hid (Below w.heap.size w w1) := (((Below.refl _ _).alloc (Nat.le_refl _) _).alloc (by simp) _).trans (hb.mono (by simp; omega))
  have K1 := Lib.hid (K0.out.grow hb)
  have c0 : w1.cell? ⟨w.heap.size, 0, none⟩ = some (.int .i64 ax) := K1.out.cell 0
  clear hb
  go_wp2_with fail
  go_ret
  exact ⟨rfl, B1.out⟩
theorem crossing_c (a b : Pt) (y : Int) (w : World) (ha : roomP a = true) (hb : roomP b = true) (h1 : a.2 ≤ y) (h2 : y < b.2) :
    Calls Try.prog 58 #[.agg #[.int .i64 a.1, .int .i64 a.2], .agg #[.int .i64 b.1, .int .i64 b.2], .int .i64 y] w fun e w' => e = .returned (.int .i64 (crossI a b y)) ∧ Below w.heap.size w w' := by
  simp only [roomP, Bool.and_eq_true, room_iff] at ha hb
  have hc := cross_room a b y h1 h2
  unfold crossI at hc ⊢
  refine crossing_walk a.1 a.2 b.1 b.2 y _ (decide (((a.1 - b.1) * (y - a.2)).fmod (b.2 - a.2) = 0)) w ha.1 hb.1 ha.2 hb.2 (by omega) (by omega) (Lib.hid fun w => (muldiv_c _ _ _ w (by unfold I64; omega) (by unfold I64; omega) (by unfold I64; omega)).mono ?_)
  rintro e w' ⟨rfl, hb⟩
  refine ⟨?_, hb⟩
  unfold divOf
  rw [if_neg (by omega), if_pos]
  unfold fits
  simp
  omega
end Go.Proofs.Ytopngjpgikpmaaa
