/- The fixed answers of layer 2. -/
import Derived.Test.YtgkgdkdendmfnaaW
namespace Go.Proofs.Ytgkgdkdendmfnaa
open Go.RowKit
set_option maxHeartbeats 400000 in
theorem awake_any (K : WideOk) (w : World) : Calls Try.prog 17 #[] w fun e w' => e = .returned (.bool true) ∧ Below w.heap.size w w' := by
  have HM : Hid (divOf (-7) 1 2 = .returned (.tuple #[.int .i64 (-4), .bool false, .int .i64 0])) := by unfold Hid; rfl
  have HP : Hid (hiOf (ofI 1099511627776 * ofI 1099511627776) = 65536 ∧ loOf (ofI 1099511627776 * ofI 1099511627776) = 0) := by unfold Hid; constructor <;> decide
  have HR : Hid (isRoot 15 3) := by unfold Hid isRoot; omega
  go_enter Try.func17, Try.ntmps17
  go_wp2_with (first | (go_at_call 28; refine (K.muldiv_w _ _ _ _ (by unfold I64; omega) (by unfold I64; omega) (by unfold I64; omega)).mono ?_; rintro e w1 ⟨he, hb⟩; rw [HM.out] at he; subst he; have Hb1 := Lib.hid hb; clear hb) | (go_at_call 18; refine (K.mul_w _ _ _ (by unfold I64; omega) (by unfold I64; omega)).mono ?_; rintro e w2 ⟨rfl, hb⟩; rw [HP.out.1, HP.out.2]; have Hb2 := Lib.hid hb; clear hb) | (go_at_call 29; refine (K.sqrt_w _ 3 _ (by unfold I64; omega) HR.out).mono ?_; rintro e w3 ⟨rfl, hb⟩; have Hb3 := Lib.hid hb; clear hb))
  go_ret
  exact ⟨rfl, below_next (below_next Hb1.out Hb2.out) Hb3.out⟩
end Go.Proofs.Ytgkgdkdendmfnaa
