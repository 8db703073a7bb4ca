/- Layer 10: package paint answers of colours what the laws ask. -/
import Derived.Test.YtoppmlfibllhlaaQe
namespace Go.Proofs.Ytoppmlfibllhlaa
open Go.RowKit
theorem pBlend_any (c d : Col) (m : Int) (w : World) (hc : OkC c) (hd : OkC d) : Calls Try.prog 42 #[.agg #[.int .u8 (c 0), .int .u8 (c 1), .int .u8 (c 2), .int .u8 (c 3)], .agg #[.int .u8 (d 0), .int .u8 (d 1), .int .u8 (d 2), .int .u8 (d 3)], .int .i64 m] w fun e w' => e = .returned (.tuple #[.agg #[.int .u8 (blendP c d m 0), .int .u8 (blendP c d m 1), .int .u8 (blendP c d m 2), .int .u8 (blendP c d m 3)], .int .i64 (blendE c d m)]) ∧ Below w.heap.size w w' := by
  by_cases hm : 0 ≤ m ∧ m ≤ 4
  · cases hrc : rightC c with
    | false =>
      rw [show blendP c d m = zeroC by unfold blendP; rw [if_pos hm, hrc]; rfl, show blendE c d m = 30 by unfold blendE; rw [if_pos hm, hrc]; rfl]
      exact pBlend_c c d m hm hrc w
    | true =>
      cases hrd : rightC d with
      | false =>
        rw [show blendP c d m = zeroC by unfold blendP; rw [if_pos hm, hrc, hrd]; rfl, show blendE c d m = 30 by unfold blendE; rw [if_pos hm, hrc, hrd]; rfl]
        exact pBlend_d c d m hm hrc hrd w
      | true =>
        rw [show blendP c d m = blendC c d m by unfold blendP; rw [if_pos hm, hrc, hrd]; rfl, show blendE c d m = 0 by unfold blendE; rw [if_pos hm, hrc, hrd]; rfl]
        obtain ⟨h0, h4⟩ := hm
        rcases (show m = 0 ∨ m = 1 ∨ m = 2 ∨ m = 3 ∨ m = 4 by omega) with rfl | rfl | rfl | rfl | rfl
        · rw [blend_0]; exact pBlend_0 c d hc hd hrc hrd w
        · exact pBlend_1 c d hc hd hrc hrd w
        · exact pBlend_2 c d hc hd hrc hrd w
        · exact pBlend_3 c d hc hd hrc hrd w
        · exact pBlend_4 c d hc hd hrc hrd w
  · rw [show blendP c d m = zeroC by unfold blendP; rw [if_neg hm], show blendE c d m = 33 by unfold blendE; rw [if_neg hm]]
    by_cases h : m < 0
    · exact pBlend_low c d m h w
    · exact pBlend_high c d m (by omega) w
end Go.Proofs.Ytoppmlfibllhlaa

