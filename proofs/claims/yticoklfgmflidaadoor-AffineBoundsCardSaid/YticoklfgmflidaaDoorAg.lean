/- The document's Apply of layer 4. -/
import Derived.Test.YticoklfgmflidaaDoorAf
namespace Go.Proofs.YticoklfgmflidaaDoor
open Go.RowKit

set_option maxHeartbeats 1000000 in
theorem refApply_walk (m : Mx) (x y X Y : Int) (w : World)
    (e1 : wrap64 (m.a * x) = m.a * x) (e2 : wrap64 (m.c * y) = m.c * y) (e3 : wrap64 (m.b * x) = m.b * x) (e4 : wrap64 (m.d * y) = m.d * y)
    (e5 : wrap64 (m.a * x + m.c * y) = m.a * x + m.c * y) (e6 : wrap64 (m.b * x + m.d * y) = m.b * x + m.d * y)
    (e7 : wrap64 (X + m.e) = X + m.e) (e8 : wrap64 (Y + m.f) = Y + m.f)
    (HN : Hid (∀ w, Calls Tryd.prog 35 #[.int .i64 (m.a * x + m.c * y), .int .i64 65536] w fun e w' => e = .returned (.int .i64 X) ∧ w' = w))
    (HM : Hid (∀ w, Calls Tryd.prog 35 #[.int .i64 (m.b * x + m.d * y), .int .i64 65536] w fun e w' => e = .returned (.int .i64 Y) ∧ w' = w)) :
    Calls Tryd.prog 14 #[.agg (six m), .int .i64 x, .int .i64 y] w fun r w' => r = .returned (.tuple #[.int .i64 (X + m.e), .int .i64 (Y + m.f), .bool (room (X + m.e) && room (Y + m.f))]) ∧ Below w.heap.size w w' := by
  go_enter Tryd.func14, Tryd.ntmps14
  go_wp2_with fail
  go_quiet (exact Calls.quiet_of_same (HN.out _))
  have hk : Blk ((w.alloc (.cells (six m) 31)).drewN nq) w.heap.size 31 (six m) ∧ Below w.heap.size w ((w.alloc (.cells (six m) 31)).drewN nq) := ⟨Blk.newAt _ _ _ rfl, below_drewN ((Below.refl _ _).alloc (Nat.le_refl _) _) _⟩
  generalize World.drewN _ _ = W at hk ⊢
  have HK := Lib.hid hk
  clear hk e1 e2 e5
  have c1 := HK.out.1.m1
  have c3 := HK.out.1.m3
  have c5 := HK.out.1.m5
  go_wp2_with fail
  go_quiet (exact Calls.quiet_of_same (HM.out _))
  go_wp2_with (go_at_call 23; refine (refIn_c _ _).mono ?_; rintro e w' ⟨rfl, rfl⟩)
  all_goals go_ret3
  all_goals exact ⟨by simp [*], below_drewN HK.out.2 _⟩
theorem refApply_c (m : Mx) (x y : Int) (w : World) (hr : rightI m = true) (hx : -2147483648 ≤ x ∧ x ≤ 2147483648) (hy : -2147483648 ≤ y ∧ y ≤ 2147483648) :
    Calls Tryd.prog 14 #[.agg (six m), .int .i64 x, .int .i64 y] w fun r w' => r = .returned (.tuple #[.int .i64 (apX m x y), .int .i64 (apY m x y), .bool (room (apX m x y) && room (apY m x y))]) ∧ Below w.heap.size w w' := by
  obtain ⟨ha, hb, hc, hd, he, hf⟩ := right_iff.1 hr
  have h1 := turnX_in m x y ha hc hx hy
  have h2 := turnY_in m x y hb hd hx hy
  have p1 := prod_in _ _ 16777216 2147483648 ha hx
  have p2 := prod_in _ _ 16777216 2147483648 hc hy
  have p3 := prod_in _ _ 16777216 2147483648 hb hx
  have p4 := prod_in _ _ 16777216 2147483648 hd hy
  refine refApply_walk m x y (turnX m x y) (turnY m x y) w (wrap64_in _ (by omega) (by omega)) (wrap64_in _ (by omega) (by omega)) (wrap64_in _ (by omega) (by omega)) (wrap64_in _ (by omega) (by omega)) (wrap64_in _ (by omega) (by omega)) (wrap64_in _ (by omega) (by omega)) (wrap64_in _ (by omega) (by omega)) (wrap64_in _ (by omega) (by omega)) (Lib.hid fun w => ?_) (Lib.hid fun w => ?_)
  · exact (round_c _ (by omega) (by omega) w).mono fun _ _ ⟨a, b⟩ => ⟨a, b.symm⟩
  · exact (round_c _ (by omega) (by omega) w).mono fun _ _ ⟨a, b⟩ => ⟨a, b.symm⟩
end Go.Proofs.YticoklfgmflidaaDoor
