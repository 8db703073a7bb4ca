/- Layer 10: package paint's Fade, Part, Straight, Over, Mix. -/
import Derived.Test.YtoppmlfibllhlaaQb
namespace Go.Proofs.Ytoppmlfibllhlaa
open Go.RowKit
set_option maxHeartbeats 2000000 in
set_option maxRecDepth 100000 in
theorem pFade_c (c : Col) (b : Int) (w : World) (hc : OkC c) (hb : byteI b) : Calls Try.prog 41 #[.agg #[.int .u8 (c 0), .int .u8 (c 1), .int .u8 (c 2), .int .u8 (c 3)], .int .u8 b] w fun e w' => e = .returned (.agg #[.int .u8 (fadeC c b 0), .int .u8 (fadeC c b 1), .int .u8 (fadeC c b 2), .int .u8 (fadeC c b 3)]) ∧ Below w.heap.size w w' := by
  have HC := Lib.hid hc
  have HB := Lib.hid hb
  clear hc hb
  go_enter Try.func41, Try.ntmps41
  go_wp2_with fail
  obtain ⟨w1, hw1⟩ : ∃ WW, ((w.alloc (.cells #[.int .u8 (c 0), .int .u8 (c 1), .int .u8 (c 2), .int .u8 (c 3)] 28)).alloc (.cells #[.int .u8 b] 5)).alloc (.cells #[.int .u8 0, .int .u8 0, .int .u8 0, .int .u8 0] 28) = WW := ⟨_, rfl⟩
  have S1 : Hid (Below w.heap.size w w1 ∧ Blk w1 (w.heap.size + 1) 5 #[.int .u8 b] ∧ Blk w1 (w.heap.size + 1 + 1) 28 (four fun _ => .int .u8 0)) := by
    rw [← hw1]
    exact ⟨(((Below.refl _ _).alloc (Nat.le_refl _) _).alloc (by simp) _).alloc (by simp; omega) _, (Blk.newAt _ _ _ (by simp)).alloc _, Blk.newAt _ _ _ (by simp)⟩
  rw [hw1]
  clear hw1
  refine (each_fade c (fadeC c b) _ w1 HC.out (fade_ok HC.out HB.out) (fun k W hk hW => fade1_c (c k) b _ _ (HC.out k hk) HB.out rfl W ((S1.out.2.1.grow hW).cell 0))).mono ?_
  rintro e w2 ⟨rfl, hb2⟩
  have B2 : Hid (Below w.heap.size w w2) := S1.out.1.trans (hb2.mono S1.out.1.size)
  have K2 := Lib.hid (S1.out.2.2.grow hb2)
  clear hb2
  obtain ⟨c0, c1, c2, c3⟩ := K2.out.c0
  have f0 := K2.out.free 0
  have f1 := K2.out.free 1
  have f2 := K2.out.free 2
  have f3 := K2.out.free 3
  have lg := K2.out.lt
  go_wp2_with fail
  exact bodyPost_ret (results_col (f := fun i => .int .u8 (fadeC c b i)) (.inr rfl) 4 rfl rfl (K2.out.set4 fun i => .int .u8 (fadeC c b i))) rfl ⟨rfl, below_four4 B2.out (by omega) _ _ _ _⟩
theorem clamp_in (n hi : Int) (h : 0 ≤ hi) : 0 ≤ clampI n hi ∧ clampI n hi ≤ hi := by unfold clampI; omega
set_option maxHeartbeats 2000000 in
set_option maxRecDepth 100000 in
theorem pOver_c (c d : Col) (w : World) (hc : OkC c) (hd : OkC d) : Calls Try.prog 58 #[.agg #[.int .u8 (c 0), .int .u8 (c 1), .int .u8 (c 2), .int .u8 (c 3)], .agg #[.int .u8 (d 0), .int .u8 (d 1), .int .u8 (d 2), .int .u8 (d 3)]] w fun e w' => e = .returned (.agg #[.int .u8 (overC c d 0), .int .u8 (overC c d 1), .int .u8 (overC c d 2), .int .u8 (overC c d 3)]) ∧ Below w.heap.size w w' := by
  have HC := Lib.hid hc
  have HD := Lib.hid hd
  obtain ⟨z, hz⟩ : ∃ z, 255 - c 3 = z := ⟨_, rfl⟩
  have HZ : Hid (byteI z) := by have := hc 3 (by decide); unfold byteI Hid; omega
  have e0 := u8_i64 (hc 3 (by decide)).1 (hc 3 (by decide)).2
  have e1 : wrap64 (255 - c 3) = z := by rw [hz]; exact wrapR _ (by have := HZ.out.1; omega) (by have := HZ.out.2; omega)
  have HV : Hid (∀ k, min (c k + ofI z (d k)) 255 = overC c d k) := fun k => by rw [← hz]; rfl
  clear hc hd hz
  go_enter Try.func58, Try.ntmps58
  go_wp2_with fail
  obtain ⟨w1, hw1⟩ : ∃ WW, (((w.alloc (.cells #[.int .u8 (c 0), .int .u8 (c 1), .int .u8 (c 2), .int .u8 (c 3)] 28)).alloc (.cells #[.int .u8 (d 0), .int .u8 (d 1), .int .u8 (d 2), .int .u8 (d 3)] 28)).alloc (.cells #[.int .u8 0, .int .u8 0, .int .u8 0, .int .u8 0] 28)).alloc (.cells #[.int .i64 z] 3) = WW := ⟨_, rfl⟩
  have S1 : Hid (Below w.heap.size w w1 ∧ Blk w1 (w.heap.size + 1 + 1 + 1) 3 #[.int .i64 z] ∧ Blk w1 (w.heap.size + 1 + 1) 28 (four fun _ => .int .u8 0)) := by
    rw [← hw1]
    exact ⟨((((Below.refl _ _).alloc (Nat.le_refl _) _).alloc (by simp) _).alloc (by simp; omega) _).alloc (by simp; omega) _, Blk.newAt _ _ _ (by simp), (Blk.newAt _ _ _ (by simp)).alloc _⟩
  rw [hw1]
  clear hw1
  refine (join_over c d (overC c d) _ w1 HC.out HD.out (over_ok HC.out HD.out) (fun k W hk hW => over1_c (c k) (d k) z _ _ (HC.out k hk) (HD.out k hk) HZ.out (HV.out k) W ((S1.out.2.1.grow hW).cell 0))).mono ?_
  rintro e w2 ⟨rfl, hb2⟩
  have B2 : Hid (Below w.heap.size w w2) := S1.out.1.trans (hb2.mono S1.out.1.size)
  have K2 := Lib.hid (S1.out.2.2.grow hb2)
  clear hb2
  obtain ⟨c0, c1, c2, c3⟩ := K2.out.c0
  have f0 := K2.out.free 0
  have f1 := K2.out.free 1
  have f2 := K2.out.free 2
  have f3 := K2.out.free 3
  have lg := K2.out.lt
  go_wp2_with fail
  exact bodyPost_ret (results_col (f := fun i => .int .u8 (overC c d i)) (.inr rfl) 4 rfl rfl (K2.out.set4 fun i => .int .u8 (overC c d i))) rfl ⟨rfl, below_four4 B2.out (by omega) _ _ _ _⟩
end Go.Proofs.Ytoppmlfibllhlaa

