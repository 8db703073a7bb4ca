/- The fixed answers of layer 4. -/
import Derived.Test.YticoklfgmflidaaDoorAi
namespace Go.Proofs.YticoklfgmflidaaDoor
open Go.RowKit

set_option maxHeartbeats 1000000 in
set_option maxRecDepth 100000 in
theorem awake4_c (w : World) (hr : Rd w) : Calls Tryd.prog 15 #[] w fun e w' => e = .returned (.bool true) ∧ Below w.heap.size w w' := by
  have HS : Hid (∀ w, Calls Tryd.prog 22 #[.int .i64 131072, .int .i64 65536] w fun e w' => e = .returned (.agg #[.int .i64 131072, .int .i64 0, .int .i64 0, .int .i64 65536, .int .i64 0, .int .i64 0]) ∧ Below w.heap.size w w') := fun w => scale_c 131072 65536 w
  have HA : Hid (∀ w, Calls Tryd.prog 9 #[.agg #[.int .i64 131072, .int .i64 0, .int .i64 0, .int .i64 65536, .int .i64 0, .int .i64 0], .agg #[.int .i64 3, .int .i64 5]] w fun e w' => e = .returned (.tuple #[.agg #[.int .i64 6, .int .i64 5], .int .i64 0]) ∧ Below w.heap.size w w') := fun w => apply_c ⟨131072, 0, 0, 65536, 0, 0⟩ 3 5 w
  have HQ : Hid (∀ w, Rd w → Calls Tryd.prog 21 #[.int .i64 1] w fun e w' => e = .returned (.agg #[.int .i64 0, .int .i64 65536, .int .i64 (-65536), .int .i64 0, .int .i64 0, .int .i64 0]) ∧ Below w.heap.size w w') := fun w h => quarter_c 1 w h
  have HB : Hid (∀ w, Calls Tryd.prog 9 #[.agg #[.int .i64 0, .int .i64 65536, .int .i64 (-65536), .int .i64 0, .int .i64 0, .int .i64 0], .agg #[.int .i64 3, .int .i64 5]] w fun e w' => e = .returned (.tuple #[.agg #[.int .i64 (-5), .int .i64 3], .int .i64 0]) ∧ Below w.heap.size w w') := fun w => apply_c q1 3 5 w
  have HR := Lib.hid hr
  clear hr
  go_enter Tryd.func15, Tryd.ntmps15
  go_wp2_with fail
  refine (HS.out _).mono ?_
  rintro e w1 ⟨rfl, hb1⟩
  go_wp2_with fail
  refine (HA.out _).mono ?_
  rintro e w2 ⟨rfl, hb2⟩
  have B2 : Hid (Below w.heap.size w w2) := below_next hb1 hb2
  clear hb1 hb2
  go_wp2_with fail
  have B2' : Hid (Below w.heap.size w (w2.alloc (.cells #[.int .i64 6, .int .i64 5] 25))) := B2.out.alloc B2.out.size _
  refine (HQ.out _ (HR.out.on B2'.out)).mono ?_
  rintro e w3 ⟨rfl, hb3⟩
  have k3 := Blk.grow (Blk.newAt w2 25 (two (6, 5)) rfl) hb3
  have B3 : Hid (Below w.heap.size w w3) := below_next B2'.out hb3
  have K3 := Lib.hid k3
  clear hb3 k3
  go_wp2_with fail
  refine (HB.out _).mono ?_
  rintro e w4 ⟨rfl, hb4⟩
  have B4 : Hid (Below w.heap.size w w4) := below_next B3.out hb4
  have k4 := Blk.grow K3.out hb4
  have l4 := k4.lt
  have c0 := k4.p0
  have c1 := k4.p1
  clear hb4 k4
  go_wp2_with fail
  go_ret
  exact ⟨rfl, B4.out.alloc B4.out.size _⟩
end Go.Proofs.YticoklfgmflidaaDoor
