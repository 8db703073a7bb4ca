/- Layer 10: the law PaintBlends. -/
import Derived.Test.YtcbldamlfjkppaaLo
import Derived.BigQuiet
namespace Go.Proofs.Ytcbldamlfjkppaa
open Go.RowKit
theorem blend_right {c d : Col} {m : Int} (hc : OkC c) (h : rightC c = true) (k : rightC d = true) : rightC (blendC c d m) = true := by
  by_cases hm : m = 0
  · rw [hm, blend_0]; exact over_right hc h k
  · have key : ∀ i, i < 3 → blendC c d m i ≤ blendC c d m 3 := fun i hi => by rw [blend_lt hm hi, blend_3]; omega
    exact rightC_iff.2 ⟨key 0 (by decide), key 1 (by decide), key 2 (by decide)⟩
theorem index8_3 (a b c d : Int) (w : World) : (Instr.index 26 (.agg #[.int .u8 a, .int .u8 b, .int .u8 c, .int .u8 d]) (.int .i64 3)).run Try.prog w = .ok (.int .u8 d) w := by
  simp [Instr.index, run_underlying Try.underlying26, asIntOf, go_sem]
theorem equal_zero (w : World) : (Op.equalIn 10000 26 (.agg #[.int .u8 0, .int .u8 0, .int .u8 0, .int .u8 0]) (.agg #[.int .u8 0, .int .u8 0, .int .u8 0, .int .u8 0])).run Try.prog w = .ok true w := equal_c8 zeroC w
set_option maxHeartbeats 2000000 in
set_option maxRecDepth 100000 in
theorem paintBlends_low (P : PaintOk) (c d : Col) (m : Int) (hc : OkC c) (hd : OkC d) (w : World) (hm : m < 0) : Calls Try.prog 6 #[.agg #[.int .u8 (c 0), .int .u8 (c 1), .int .u8 (c 2), .int .u8 (c 3)], .agg #[.int .u8 (d 0), .int .u8 (d 1), .int .u8 (d 2), .int .u8 (d 3)], .int .i64 m] w fun e w' => e = .returned (.bool true) ∧ Below w.heap.size w w' := by
  have HAW := Lib.hid (law_awake_c P)
  have HBL : Hid (∀ w, Calls Try.prog 24 #[.agg #[.int .u8 (c 0), .int .u8 (c 1), .int .u8 (c 2), .int .u8 (c 3)], .agg #[.int .u8 (d 0), .int .u8 (d 1), .int .u8 (d 2), .int .u8 (d 3)], .int .i64 m] w fun e w' => e = .returned (.tuple #[.agg #[.int .u8 0, .int .u8 0, .int .u8 0, .int .u8 0], .int .i64 33]) ∧ Below w.heap.size w w') := fun w => by
    have h := P.blend c d m w hc hd
    unfold blendP blendE at h
    rw [if_neg (by omega), if_neg (by omega)] at h
    exact h
  have EZ := equal_zero
  have hd0 : decide (m < 0) = true := by simp; omega
  clear hm
  clear hc hd
  go_enter Try.func6, Try.ntmps6
  go_wp2_with fail
  obtain ⟨w1, hw1⟩ : ∃ W, (w.alloc (.cells #[.int .u8 (c 0), .int .u8 (c 1), .int .u8 (c 2), .int .u8 (c 3)] 26)).alloc (.cells #[.int .u8 (d 0), .int .u8 (d 1), .int .u8 (d 2), .int .u8 (d 3)] 26) = W := ⟨_, rfl⟩
  have BW1 : Hid (Below w.heap.size w w1) := by
    rw [← hw1]
    exact ((Below.refl _ _).alloc (Nat.le_refl _) _).alloc (by simp) _
  have HB1 : Hid (∀ A, Below w1.heap.size w1 A → Blk A w.heap.size 26 (c8 c) ∧ Blk A (w.heap.size + 1) 26 (c8 d)) := fun A hA => by
      rw [← hw1] at hA
      exact ⟨((Blk.new _ _ _).alloc _).grow hA, (Blk.newAt _ _ _ (by simp)).grow hA⟩
  rw [hw1]
  clear hw1
  obtain ⟨c00, c01, c02, c03⟩ := (HB1.out w1 (Below.refl _ _)).1.c0
  obtain ⟨c10, c11, c12, c13⟩ := (HB1.out w1 (Below.refl _ _)).2.c0
  refine (HBL.out _).mono ?_
  rintro e w2 ⟨rfl, hb⟩
  have HB2 : Hid (∀ A, Below w2.heap.size w2 A → Blk A w.heap.size 26 (c8 c) ∧ Blk A (w.heap.size + 1) 26 (c8 d)) := fun A hA => HB1.out A (hb.trans (hA.mono hb.size))
  have BW2 : Hid (Below w.heap.size w w2) := BW1.out.trans (hb.mono BW1.out.size)
  clear hb c00 c01 c02 c03 c10 c11 c12 c13
  go_upto_if 21 with fail
  obtain ⟨w3, hw⟩ : ∃ W, w2.alloc (.cells #[.int .u8 0, .int .u8 0, .int .u8 0, .int .u8 0] 26) = W := ⟨_, rfl⟩
  have HB3 : Hid (∀ A, Below w3.heap.size w3 A → Blk A w.heap.size 26 (c8 c) ∧ Blk A (w.heap.size + 1) 26 (c8 d) ∧ Blk A w2.heap.size 26 (c8 zeroC)) := fun A hA => by
      rw [← hw] at hA
      exact ⟨((HB2.out w2 (Below.refl _ _)).1.alloc _).grow hA, ((HB2.out w2 (Below.refl _ _)).2.alloc _).grow hA, (Blk.new _ _ _).grow hA⟩
  have BW3 : Hid (Below w.heap.size w w3) := by
    rw [← hw]
    exact BW2.out.alloc BW2.out.size _
  rw [hw]
  clear hw
  generalize w2.heap.size = g7 at *
  obtain ⟨z0, z1, z2, z3⟩ := (HB3.out w3 (Below.refl _ _)).2.2.c0
  simp only [zeroC] at z0 z1 z2 z3
  go_wp2_with fail
  refine (HAW.out _).mono ?_
  rintro e w4 ⟨rfl, hb⟩
  have HB4 : Hid (∀ A, Below w4.heap.size w4 A → Blk A w.heap.size 26 (c8 c) ∧ Blk A (w.heap.size + 1) 26 (c8 d) ∧ Blk A g7 26 (c8 zeroC)) := fun A hA => HB3.out A (hb.trans (hA.mono hb.size))
  have BW4 : Hid (Below w.heap.size w w4) := BW3.out.trans (hb.mono BW3.out.size)
  clear hb z0 z1 z2 z3
  go_wp2_with fail
  go_ret
  exact ⟨rfl, BW4.out⟩
set_option maxHeartbeats 2000000 in
set_option maxRecDepth 100000 in
theorem paintBlends_high (P : PaintOk) (c d : Col) (m : Int) (hc : OkC c) (hd : OkC d) (w : World) (hm : 4 < m) : Calls Try.prog 6 #[.agg #[.int .u8 (c 0), .int .u8 (c 1), .int .u8 (c 2), .int .u8 (c 3)], .agg #[.int .u8 (d 0), .int .u8 (d 1), .int .u8 (d 2), .int .u8 (d 3)], .int .i64 m] w fun e w' => e = .returned (.bool true) ∧ Below w.heap.size w w' := by
  have HAW := Lib.hid (law_awake_c P)
  have HBL : Hid (∀ w, Calls Try.prog 24 #[.agg #[.int .u8 (c 0), .int .u8 (c 1), .int .u8 (c 2), .int .u8 (c 3)], .agg #[.int .u8 (d 0), .int .u8 (d 1), .int .u8 (d 2), .int .u8 (d 3)], .int .i64 m] w fun e w' => e = .returned (.tuple #[.agg #[.int .u8 0, .int .u8 0, .int .u8 0, .int .u8 0], .int .i64 33]) ∧ Below w.heap.size w w') := fun w => by
    have h := P.blend c d m w hc hd
    unfold blendP blendE at h
    rw [if_neg (by omega), if_neg (by omega)] at h
    exact h
  have EZ := equal_zero
  have hd0 : decide (m < 0) = false := by simp; omega
  have hd4 : decide (m > 4) = true := by simp; omega
  clear hm
  clear hc hd
  go_enter Try.func6, Try.ntmps6
  go_wp2_with fail
  obtain ⟨w1, hw1⟩ : ∃ W, (w.alloc (.cells #[.int .u8 (c 0), .int .u8 (c 1), .int .u8 (c 2), .int .u8 (c 3)] 26)).alloc (.cells #[.int .u8 (d 0), .int .u8 (d 1), .int .u8 (d 2), .int .u8 (d 3)] 26) = W := ⟨_, rfl⟩
  have BW1 : Hid (Below w.heap.size w w1) := by
    rw [← hw1]
    exact ((Below.refl _ _).alloc (Nat.le_refl _) _).alloc (by simp) _
  have HB1 : Hid (∀ A, Below w1.heap.size w1 A → Blk A w.heap.size 26 (c8 c) ∧ Blk A (w.heap.size + 1) 26 (c8 d)) := fun A hA => by
      rw [← hw1] at hA
      exact ⟨((Blk.new _ _ _).alloc _).grow hA, (Blk.newAt _ _ _ (by simp)).grow hA⟩
  rw [hw1]
  clear hw1
  obtain ⟨c00, c01, c02, c03⟩ := (HB1.out w1 (Below.refl _ _)).1.c0
  obtain ⟨c10, c11, c12, c13⟩ := (HB1.out w1 (Below.refl _ _)).2.c0
  refine (HBL.out _).mono ?_
  rintro e w2 ⟨rfl, hb⟩
  have HB2 : Hid (∀ A, Below w2.heap.size w2 A → Blk A w.heap.size 26 (c8 c) ∧ Blk A (w.heap.size + 1) 26 (c8 d)) := fun A hA => HB1.out A (hb.trans (hA.mono hb.size))
  have BW2 : Hid (Below w.heap.size w w2) := BW1.out.trans (hb.mono BW1.out.size)
  clear hb c00 c01 c02 c03 c10 c11 c12 c13
  go_upto_if 21 with fail
  obtain ⟨w3, hw⟩ : ∃ W, w2.alloc (.cells #[.int .u8 0, .int .u8 0, .int .u8 0, .int .u8 0] 26) = W := ⟨_, rfl⟩
  have HB3 : Hid (∀ A, Below w3.heap.size w3 A → Blk A w.heap.size 26 (c8 c) ∧ Blk A (w.heap.size + 1) 26 (c8 d) ∧ Blk A w2.heap.size 26 (c8 zeroC)) := fun A hA => by
      rw [← hw] at hA
      exact ⟨((HB2.out w2 (Below.refl _ _)).1.alloc _).grow hA, ((HB2.out w2 (Below.refl _ _)).2.alloc _).grow hA, (Blk.new _ _ _).grow hA⟩
  have BW3 : Hid (Below w.heap.size w w3) := by
    rw [← hw]
    exact BW2.out.alloc BW2.out.size _
  rw [hw]
  clear hw
  generalize w2.heap.size = g7 at *
  obtain ⟨z0, z1, z2, z3⟩ := (HB3.out w3 (Below.refl _ _)).2.2.c0
  simp only [zeroC] at z0 z1 z2 z3
  go_wp2_with fail
  refine (HAW.out _).mono ?_
  rintro e w4 ⟨rfl, hb⟩
  have HB4 : Hid (∀ A, Below w4.heap.size w4 A → Blk A w.heap.size 26 (c8 c) ∧ Blk A (w.heap.size + 1) 26 (c8 d) ∧ Blk A g7 26 (c8 zeroC)) := fun A hA => HB3.out A (hb.trans (hA.mono hb.size))
  have BW4 : Hid (Below w.heap.size w w4) := BW3.out.trans (hb.mono BW3.out.size)
  clear hb z0 z1 z2 z3
  go_wp2_with fail
  go_ret
  exact ⟨rfl, BW4.out⟩
set_option maxHeartbeats 2000000 in
set_option maxRecDepth 100000 in
theorem paintBlends_wrongc (P : PaintOk) (c d : Col) (m : Int) (hc : OkC c) (hd : OkC d) (w : World) (hm : 0 ≤ m ∧ m ≤ 4) (hrc : rightC c = false) : Calls Try.prog 6 #[.agg #[.int .u8 (c 0), .int .u8 (c 1), .int .u8 (c 2), .int .u8 (c 3)], .agg #[.int .u8 (d 0), .int .u8 (d 1), .int .u8 (d 2), .int .u8 (d 3)], .int .i64 m] w fun e w' => e = .returned (.bool true) ∧ Below w.heap.size w w' := by
  have HAW := Lib.hid (law_awake_c P)
  have HBL : Hid (∀ w, Calls Try.prog 24 #[.agg #[.int .u8 (c 0), .int .u8 (c 1), .int .u8 (c 2), .int .u8 (c 3)], .agg #[.int .u8 (d 0), .int .u8 (d 1), .int .u8 (d 2), .int .u8 (d 3)], .int .i64 m] w fun e w' => e = .returned (.tuple #[.agg #[.int .u8 0, .int .u8 0, .int .u8 0, .int .u8 0], .int .i64 30]) ∧ Below w.heap.size w w') := fun w => by
    have h := P.blend c d m w hc hd
    unfold blendP blendE at h
    rw [if_pos hm, if_pos hm, hrc] at h
    exact h
  have EZ := equal_zero
  have HRI := Lib.hid (fun w => P.right c w hc)
  rw [hrc] at HRI
  have hd0 : decide (m < 0) = false := by simp; omega
  have hd4 : decide (m > 4) = false := by simp; omega
  clear hm hrc
  clear hc hd
  go_enter Try.func6, Try.ntmps6
  go_wp2_with fail
  obtain ⟨w1, hw1⟩ : ∃ W, (w.alloc (.cells #[.int .u8 (c 0), .int .u8 (c 1), .int .u8 (c 2), .int .u8 (c 3)] 26)).alloc (.cells #[.int .u8 (d 0), .int .u8 (d 1), .int .u8 (d 2), .int .u8 (d 3)] 26) = W := ⟨_, rfl⟩
  have BW1 : Hid (Below w.heap.size w w1) := by
    rw [← hw1]
    exact ((Below.refl _ _).alloc (Nat.le_refl _) _).alloc (by simp) _
  have HB1 : Hid (∀ A, Below w1.heap.size w1 A → Blk A w.heap.size 26 (c8 c) ∧ Blk A (w.heap.size + 1) 26 (c8 d)) := fun A hA => by
      rw [← hw1] at hA
      exact ⟨((Blk.new _ _ _).alloc _).grow hA, (Blk.newAt _ _ _ (by simp)).grow hA⟩
  rw [hw1]
  clear hw1
  obtain ⟨c00, c01, c02, c03⟩ := (HB1.out w1 (Below.refl _ _)).1.c0
  obtain ⟨c10, c11, c12, c13⟩ := (HB1.out w1 (Below.refl _ _)).2.c0
  refine (HBL.out _).mono ?_
  rintro e w2 ⟨rfl, hb⟩
  have HB2 : Hid (∀ A, Below w2.heap.size w2 A → Blk A w.heap.size 26 (c8 c) ∧ Blk A (w.heap.size + 1) 26 (c8 d)) := fun A hA => HB1.out A (hb.trans (hA.mono hb.size))
  have BW2 : Hid (Below w.heap.size w w2) := BW1.out.trans (hb.mono BW1.out.size)
  clear hb c00 c01 c02 c03 c10 c11 c12 c13
  go_upto_if 21 with fail
  obtain ⟨w3, hw⟩ : ∃ W, w2.alloc (.cells #[.int .u8 0, .int .u8 0, .int .u8 0, .int .u8 0] 26) = W := ⟨_, rfl⟩
  have HB3 : Hid (∀ A, Below w3.heap.size w3 A → Blk A w.heap.size 26 (c8 c) ∧ Blk A (w.heap.size + 1) 26 (c8 d) ∧ Blk A w2.heap.size 26 (c8 zeroC)) := fun A hA => by
      rw [← hw] at hA
      exact ⟨((HB2.out w2 (Below.refl _ _)).1.alloc _).grow hA, ((HB2.out w2 (Below.refl _ _)).2.alloc _).grow hA, (Blk.new _ _ _).grow hA⟩
  have BW3 : Hid (Below w.heap.size w w3) := by
    rw [← hw]
    exact BW2.out.alloc BW2.out.size _
  rw [hw]
  clear hw
  generalize w2.heap.size = g7 at *
  obtain ⟨c00, c01, c02, c03⟩ := (HB3.out w3 (Below.refl _ _)).1.c0
  go_wp2_with fail
  refine (HRI.out _).mono ?_
  rintro e w4 ⟨rfl, hb⟩
  have HB4 : Hid (∀ A, Below w4.heap.size w4 A → Blk A w.heap.size 26 (c8 c) ∧ Blk A (w.heap.size + 1) 26 (c8 d) ∧ Blk A g7 26 (c8 zeroC)) := fun A hA => HB3.out A (hb.trans (hA.mono hb.size))
  have BW4 : Hid (Below w.heap.size w w4) := BW3.out.trans (hb.mono BW3.out.size)
  clear hb c00 c01 c02 c03
  obtain ⟨z0, z1, z2, z3⟩ := (HB4.out w4 (Below.refl _ _)).2.2.c0
  simp only [zeroC] at z0 z1 z2 z3
  go_wp2_with fail
  refine (HAW.out _).mono ?_
  rintro e w5 ⟨rfl, hb⟩
  have HB5 : Hid (∀ A, Below w5.heap.size w5 A → Blk A w.heap.size 26 (c8 c) ∧ Blk A (w.heap.size + 1) 26 (c8 d) ∧ Blk A g7 26 (c8 zeroC)) := fun A hA => HB4.out A (hb.trans (hA.mono hb.size))
  have BW5 : Hid (Below w.heap.size w w5) := BW4.out.trans (hb.mono BW4.out.size)
  clear hb z0 z1 z2 z3
  go_wp2_with fail
  go_ret
  exact ⟨rfl, BW5.out⟩
set_option maxHeartbeats 2000000 in
set_option maxRecDepth 100000 in
theorem paintBlends_wrongd (P : PaintOk) (c d : Col) (m : Int) (hc : OkC c) (hd : OkC d) (w : World) (hm : 0 ≤ m ∧ m ≤ 4) (hrc : rightC c = true) (hrd : rightC d = false) : Calls Try.prog 6 #[.agg #[.int .u8 (c 0), .int .u8 (c 1), .int .u8 (c 2), .int .u8 (c 3)], .agg #[.int .u8 (d 0), .int .u8 (d 1), .int .u8 (d 2), .int .u8 (d 3)], .int .i64 m] w fun e w' => e = .returned (.bool true) ∧ Below w.heap.size w w' := by
  have HAW := Lib.hid (law_awake_c P)
  have HBL : Hid (∀ w, Calls Try.prog 24 #[.agg #[.int .u8 (c 0), .int .u8 (c 1), .int .u8 (c 2), .int .u8 (c 3)], .agg #[.int .u8 (d 0), .int .u8 (d 1), .int .u8 (d 2), .int .u8 (d 3)], .int .i64 m] w fun e w' => e = .returned (.tuple #[.agg #[.int .u8 0, .int .u8 0, .int .u8 0, .int .u8 0], .int .i64 30]) ∧ Below w.heap.size w w') := fun w => by
    have h := P.blend c d m w hc hd
    unfold blendP blendE at h
    rw [if_pos hm, if_pos hm, hrc, hrd] at h
    exact h
  have EZ := equal_zero
  have HRI := Lib.hid (fun w => P.right c w hc)
  have HRJ := Lib.hid (fun w => P.right d w hd)
  rw [hrc] at HRI
  rw [hrd] at HRJ
  have hd0 : decide (m < 0) = false := by simp; omega
  have hd4 : decide (m > 4) = false := by simp; omega
  clear hm hrc hrd
  clear hc hd
  go_enter Try.func6, Try.ntmps6
  go_wp2_with fail
  obtain ⟨w1, hw1⟩ : ∃ W, (w.alloc (.cells #[.int .u8 (c 0), .int .u8 (c 1), .int .u8 (c 2), .int .u8 (c 3)] 26)).alloc (.cells #[.int .u8 (d 0), .int .u8 (d 1), .int .u8 (d 2), .int .u8 (d 3)] 26) = W := ⟨_, rfl⟩
  have BW1 : Hid (Below w.heap.size w w1) := by
    rw [← hw1]
    exact ((Below.refl _ _).alloc (Nat.le_refl _) _).alloc (by simp) _
  have HB1 : Hid (∀ A, Below w1.heap.size w1 A → Blk A w.heap.size 26 (c8 c) ∧ Blk A (w.heap.size + 1) 26 (c8 d)) := fun A hA => by
      rw [← hw1] at hA
      exact ⟨((Blk.new _ _ _).alloc _).grow hA, (Blk.newAt _ _ _ (by simp)).grow hA⟩
  rw [hw1]
  clear hw1
  obtain ⟨c00, c01, c02, c03⟩ := (HB1.out w1 (Below.refl _ _)).1.c0
  obtain ⟨c10, c11, c12, c13⟩ := (HB1.out w1 (Below.refl _ _)).2.c0
  refine (HBL.out _).mono ?_
  rintro e w2 ⟨rfl, hb⟩
  have HB2 : Hid (∀ A, Below w2.heap.size w2 A → Blk A w.heap.size 26 (c8 c) ∧ Blk A (w.heap.size + 1) 26 (c8 d)) := fun A hA => HB1.out A (hb.trans (hA.mono hb.size))
  have BW2 : Hid (Below w.heap.size w w2) := BW1.out.trans (hb.mono BW1.out.size)
  clear hb c00 c01 c02 c03 c10 c11 c12 c13
  go_upto_if 21 with fail
  obtain ⟨w3, hw⟩ : ∃ W, w2.alloc (.cells #[.int .u8 0, .int .u8 0, .int .u8 0, .int .u8 0] 26) = W := ⟨_, rfl⟩
  have HB3 : Hid (∀ A, Below w3.heap.size w3 A → Blk A w.heap.size 26 (c8 c) ∧ Blk A (w.heap.size + 1) 26 (c8 d) ∧ Blk A w2.heap.size 26 (c8 zeroC)) := fun A hA => by
      rw [← hw] at hA
      exact ⟨((HB2.out w2 (Below.refl _ _)).1.alloc _).grow hA, ((HB2.out w2 (Below.refl _ _)).2.alloc _).grow hA, (Blk.new _ _ _).grow hA⟩
  have BW3 : Hid (Below w.heap.size w w3) := by
    rw [← hw]
    exact BW2.out.alloc BW2.out.size _
  rw [hw]
  clear hw
  generalize w2.heap.size = g7 at *
  obtain ⟨c00, c01, c02, c03⟩ := (HB3.out w3 (Below.refl _ _)).1.c0
  go_wp2_with fail
  refine (HRI.out _).mono ?_
  rintro e w4 ⟨rfl, hb⟩
  have HB4 : Hid (∀ A, Below w4.heap.size w4 A → Blk A w.heap.size 26 (c8 c) ∧ Blk A (w.heap.size + 1) 26 (c8 d) ∧ Blk A g7 26 (c8 zeroC)) := fun A hA => HB3.out A (hb.trans (hA.mono hb.size))
  have BW4 : Hid (Below w.heap.size w w4) := BW3.out.trans (hb.mono BW3.out.size)
  clear hb c00 c01 c02 c03
  obtain ⟨c00, c01, c02, c03⟩ := (HB4.out w4 (Below.refl _ _)).2.1.c0
  go_wp2_with fail
  refine (HRJ.out _).mono ?_
  rintro e w5 ⟨rfl, hb⟩
  have HB5 : Hid (∀ A, Below w5.heap.size w5 A → Blk A w.heap.size 26 (c8 c) ∧ Blk A (w.heap.size + 1) 26 (c8 d) ∧ Blk A g7 26 (c8 zeroC)) := fun A hA => HB4.out A (hb.trans (hA.mono hb.size))
  have BW5 : Hid (Below w.heap.size w w5) := BW4.out.trans (hb.mono BW4.out.size)
  clear hb c00 c01 c02 c03
  obtain ⟨z0, z1, z2, z3⟩ := (HB5.out w5 (Below.refl _ _)).2.2.c0
  simp only [zeroC] at z0 z1 z2 z3
  go_wp2_with fail
  refine (HAW.out _).mono ?_
  rintro e w6 ⟨rfl, hb⟩
  have HB6 : Hid (∀ A, Below w6.heap.size w6 A → Blk A w.heap.size 26 (c8 c) ∧ Blk A (w.heap.size + 1) 26 (c8 d) ∧ Blk A g7 26 (c8 zeroC)) := fun A hA => HB5.out A (hb.trans (hA.mono hb.size))
  have BW6 : Hid (Below w.heap.size w w6) := BW5.out.trans (hb.mono BW5.out.size)
  clear hb z0 z1 z2 z3
  go_wp2_with fail
  go_ret
  exact ⟨rfl, BW6.out⟩
set_option maxHeartbeats 4000000 in
set_option maxRecDepth 100000 in
theorem paintBlends_good (P : PaintOk) (c d : Col) (m : Int) (hc : OkC c) (hd : OkC d) (w : World) (hm : 0 ≤ m ∧ m ≤ 4) (hrc : rightC c = true) (hrd : rightC d = true) : Calls Try.prog 6 #[.agg #[.int .u8 (c 0), .int .u8 (c 1), .int .u8 (c 2), .int .u8 (c 3)], .agg #[.int .u8 (d 0), .int .u8 (d 1), .int .u8 (d 2), .int .u8 (d 3)], .int .i64 m] w fun e w' => e = .returned (.bool true) ∧ Below w.heap.size w w' := by
  have HAW := Lib.hid (law_awake_c P)
  have HBL : Hid (∀ w, Calls Try.prog 24 #[.agg #[.int .u8 (c 0), .int .u8 (c 1), .int .u8 (c 2), .int .u8 (c 3)], .agg #[.int .u8 (d 0), .int .u8 (d 1), .int .u8 (d 2), .int .u8 (d 3)], .int .i64 m] w fun e w' => e = .returned (.tuple #[.agg #[.int .u8 (blendC c d m 0), .int .u8 (blendC c d m 1), .int .u8 (blendC c d m 2), .int .u8 (blendC c d m 3)], .int .i64 0]) ∧ Below w.heap.size w w') := fun w => by
    have h := P.blend c d m w hc hd
    unfold blendP blendE at h
    rw [if_pos hm, if_pos hm, hrc, hrd] at h
    exact h
  have HRC := Lib.hid (law_ref_c c hc)
  have HRD := Lib.hid (law_ref_c d hd)
  have HOV := Lib.hid (fun w => P.over c d w hc hd)
  have HRBL := Lib.hid (refBlend_c c d m hc hd hm)
  have HRI := Lib.hid (fun w => P.right c w hc)
  have HRJ := Lib.hid (fun w => P.right d w hd)
  rw [hrc] at HRI
  rw [hrd] at HRJ
  have okB := blend_ok (m := m) hc hd
  have HRB := Lib.hid (fun w => P.right _ w okB)
  rw [blend_right hc hrc hrd] at HRB
  have HIS := Lib.hid (law_is_c _ okB)
  have HBE := Lib.hid (blend_3 c d m)
  generalize blendC c d m = Bn at *
  have IX := index8_3
  have hd0 : decide (m < 0) = false := by simp; omega
  have hd4 : decide (m > 4) = false := by simp; omega
  clear hm hrc hrd okB hc hd
  go_enter Try.func6, Try.ntmps6
  go_wp2_with fail
  obtain ⟨w1, hw1⟩ : ∃ W, (w.alloc (.cells #[.int .u8 (c 0), .int .u8 (c 1), .int .u8 (c 2), .int .u8 (c 3)] 26)).alloc (.cells #[.int .u8 (d 0), .int .u8 (d 1), .int .u8 (d 2), .int .u8 (d 3)] 26) = W := ⟨_, rfl⟩
  have BW1 : Hid (Below w.heap.size w w1) := by
    rw [← hw1]
    exact ((Below.refl _ _).alloc (Nat.le_refl _) _).alloc (by simp) _
  have HB1 : Hid (∀ A, Below w1.heap.size w1 A → Blk A w.heap.size 26 (c8 c) ∧ Blk A (w.heap.size + 1) 26 (c8 d)) := fun A hA => by
      rw [← hw1] at hA
      exact ⟨((Blk.new _ _ _).alloc _).grow hA, (Blk.newAt _ _ _ (by simp)).grow hA⟩
  rw [hw1]
  clear hw1
  obtain ⟨c00, c01, c02, c03⟩ := (HB1.out w1 (Below.refl _ _)).1.c0
  obtain ⟨c10, c11, c12, c13⟩ := (HB1.out w1 (Below.refl _ _)).2.c0
  refine (HBL.out _).mono ?_
  rintro e w2 ⟨rfl, hb⟩
  have HB2 : Hid (∀ A, Below w2.heap.size w2 A → Blk A w.heap.size 26 (c8 c) ∧ Blk A (w.heap.size + 1) 26 (c8 d)) := fun A hA => HB1.out A (hb.trans (hA.mono hb.size))
  have BW2 : Hid (Below w.heap.size w w2) := BW1.out.trans (hb.mono BW1.out.size)
  clear hb c00 c01 c02 c03 c10 c11 c12 c13
  go_upto_if 21 with fail
  obtain ⟨w3, hw⟩ : ∃ W, w2.alloc (.cells #[.int .u8 (Bn 0), .int .u8 (Bn 1), .int .u8 (Bn 2), .int .u8 (Bn 3)] 26) = W := ⟨_, rfl⟩
  have HB3 : Hid (∀ A, Below w3.heap.size w3 A → Blk A w.heap.size 26 (c8 c) ∧ Blk A (w.heap.size + 1) 26 (c8 d) ∧ Blk A w2.heap.size 26 (c8 Bn)) := fun A hA => by
      rw [← hw] at hA
      exact ⟨((HB2.out w2 (Below.refl _ _)).1.alloc _).grow hA, ((HB2.out w2 (Below.refl _ _)).2.alloc _).grow hA, (Blk.new _ _ _).grow hA⟩
  have BW3 : Hid (Below w.heap.size w w3) := by
    rw [← hw]
    exact BW2.out.alloc BW2.out.size _
  rw [hw]
  clear hw
  generalize w2.heap.size = g7 at *
  obtain ⟨c00, c01, c02, c03⟩ := (HB3.out w3 (Below.refl _ _)).1.c0
  go_wp2_with fail
  refine (HRI.out _).mono ?_
  rintro e w4 ⟨rfl, hb⟩
  have HB4 : Hid (∀ A, Below w4.heap.size w4 A → Blk A w.heap.size 26 (c8 c) ∧ Blk A (w.heap.size + 1) 26 (c8 d) ∧ Blk A g7 26 (c8 Bn)) := fun A hA => HB3.out A (hb.trans (hA.mono hb.size))
  have BW4 : Hid (Below w.heap.size w w4) := BW3.out.trans (hb.mono BW3.out.size)
  clear hb c00 c01 c02 c03
  obtain ⟨c00, c01, c02, c03⟩ := (HB4.out w4 (Below.refl _ _)).2.1.c0
  go_wp2_with fail
  refine (HRJ.out _).mono ?_
  rintro e w5 ⟨rfl, hb⟩
  have HB5 : Hid (∀ A, Below w5.heap.size w5 A → Blk A w.heap.size 26 (c8 c) ∧ Blk A (w.heap.size + 1) 26 (c8 d) ∧ Blk A g7 26 (c8 Bn)) := fun A hA => HB4.out A (hb.trans (hA.mono hb.size))
  have BW5 : Hid (Below w.heap.size w w5) := BW4.out.trans (hb.mono BW4.out.size)
  clear hb c00 c01 c02 c03
  go_wp2_with fail
  refine wp_region_quiet (C := Out w5) (by kernel_rfl) (by kernel_rfl) ⟨rfl, rfl, rfl, Nat.le_refl _, fun _ _ => rfl⟩ ?_
  refine BigFrame.wpQuiet_want rfl (fun K hK => ?_)
  refine quiet_val (.int .i64 0) (fun w' hw' => by go_simp) (hK _ ?_)
  clear hK K
  simp only [Act.put, List.setIfInBounds_toArray, List.set_cons_zero, List.set_cons_succ]
  refine BigFrame.wpQuiet_want rfl (fun K hK => ?_)
  refine quiet_val (.bool true) (fun w' hw' => by go_simp) (hK _ ?_)
  clear hK K
  simp only [Act.put, List.setIfInBounds_toArray, List.set_cons_zero, List.set_cons_succ]
  refine BigFrame.wpQuiet_want rfl (fun K hK => ?_)
  refine quiet_val (.bool true) (fun w' hw' => by go_simp) (hK _ ?_)
  clear hK K
  simp only [Act.put, List.setIfInBounds_toArray, List.set_cons_zero, List.set_cons_succ]
  refine BigFrame.wpQuiet_want rfl (fun K hK => ?_)
  refine quiet_val (.agg #[.int .u8 (Bn 0), .int .u8 (Bn 1), .int .u8 (Bn 2), .int .u8 (Bn 3)]) (fun w' hw' => by obtain ⟨c0, c1, c2, c3⟩ := (HB5.out w' hw').2.2.c0; go_simp) (hK _ ?_)
  clear hK K
  simp only [Act.put, List.setIfInBounds_toArray, List.set_cons_zero, List.set_cons_succ]
  refine BigFrame.wpQuiet_want rfl (fun K hK => ?_)
  refine quiet_val (.agg #[.int .u8 (c 0), .int .u8 (c 1), .int .u8 (c 2), .int .u8 (c 3)]) (fun w' hw' => by obtain ⟨c0, c1, c2, c3⟩ := (HB5.out w' hw').1.c0; go_simp) (hK _ ?_)
  clear hK K
  simp only [Act.put, List.setIfInBounds_toArray, List.set_cons_zero, List.set_cons_succ]
  refine BigFrame.wpQuiet_want rfl (fun K hK => ?_)
  refine quiet_call 17 #[.agg #[.int .u8 (c 0), .int .u8 (c 1), .int .u8 (c 2), .int .u8 (c 3)]] (.agg #[.int .i64 (c 0), .int .i64 (c 1), .int .i64 (c 2), .int .i64 (c 3)]) (fun w' _ => by go_simp) (fun w' hw' => Calls.out hw' (HRC.out w')) (hK _ ?_)
  clear hK K
  simp only [Act.put, List.setIfInBounds_toArray, List.set_cons_zero, List.set_cons_succ]
  refine BigFrame.wpQuiet_want rfl (fun K hK => ?_)
  refine quiet_val (.agg #[.int .u8 (d 0), .int .u8 (d 1), .int .u8 (d 2), .int .u8 (d 3)]) (fun w' hw' => by obtain ⟨c0, c1, c2, c3⟩ := (HB5.out w' hw').2.1.c0; go_simp) (hK _ ?_)
  clear hK K
  simp only [Act.put, List.setIfInBounds_toArray, List.set_cons_zero, List.set_cons_succ]
  refine BigFrame.wpQuiet_want rfl (fun K hK => ?_)
  refine quiet_call 17 #[.agg #[.int .u8 (d 0), .int .u8 (d 1), .int .u8 (d 2), .int .u8 (d 3)]] (.agg #[.int .i64 (d 0), .int .i64 (d 1), .int .i64 (d 2), .int .i64 (d 3)]) (fun w' _ => by go_simp) (fun w' hw' => Calls.out hw' (HRD.out w')) (hK _ ?_)
  clear hK K
  simp only [Act.put, List.setIfInBounds_toArray, List.set_cons_zero, List.set_cons_succ]
  refine BigFrame.wpQuiet_want rfl (fun K hK => ?_)
  refine quiet_val (.int .i64 m) (fun w' hw' => by go_simp) (hK _ ?_)
  clear hK K
  simp only [Act.put, List.setIfInBounds_toArray, List.set_cons_zero, List.set_cons_succ]
  refine BigFrame.wpQuiet_want rfl (fun K hK => ?_)
  refine quiet_call 25 #[.agg #[.int .i64 (c 0), .int .i64 (c 1), .int .i64 (c 2), .int .i64 (c 3)], .agg #[.int .i64 (d 0), .int .i64 (d 1), .int .i64 (d 2), .int .i64 (d 3)], .int .i64 m] (.agg #[.int .i64 (Bn 0), .int .i64 (Bn 1), .int .i64 (Bn 2), .int .i64 (Bn 3)]) (fun w' _ => by go_simp) (fun w' hw' => Calls.out hw' (HRBL.out w')) (hK _ ?_)
  clear hK K
  simp only [Act.put, List.setIfInBounds_toArray, List.set_cons_zero, List.set_cons_succ]
  refine BigFrame.wpQuiet_want rfl (fun K hK => ?_)
  refine quiet_call 15 #[.agg #[.int .u8 (Bn 0), .int .u8 (Bn 1), .int .u8 (Bn 2), .int .u8 (Bn 3)], .agg #[.int .i64 (Bn 0), .int .i64 (Bn 1), .int .i64 (Bn 2), .int .i64 (Bn 3)]] (.bool true) (fun w' _ => by go_simp) (fun w' hw' => Calls.out hw' (HIS.out w')) (hK _ ?_)
  clear hK K
  simp only [Act.put, List.setIfInBounds_toArray, List.set_cons_zero, List.set_cons_succ]
  refine BigFrame.wpQuiet_want rfl (fun K hK => ?_)
  refine quiet_val (.bool true) (fun w' hw' => by go_simp) (hK _ ?_)
  clear hK K
  simp only [Act.put, List.setIfInBounds_toArray, List.set_cons_zero, List.set_cons_succ]
  refine BigFrame.wpQuiet_want rfl (fun K hK => ?_)
  refine quiet_val (.bool true) (fun w' hw' => by go_simp) (hK _ ?_)
  clear hK K
  simp only [Act.put, List.setIfInBounds_toArray, List.set_cons_zero, List.set_cons_succ]
  refine BigFrame.wpQuiet_want rfl (fun K hK => ?_)
  refine quiet_val (.agg #[.int .u8 (Bn 0), .int .u8 (Bn 1), .int .u8 (Bn 2), .int .u8 (Bn 3)]) (fun w' hw' => by obtain ⟨c0, c1, c2, c3⟩ := (HB5.out w' hw').2.2.c0; go_simp) (hK _ ?_)
  clear hK K
  simp only [Act.put, List.setIfInBounds_toArray, List.set_cons_zero, List.set_cons_succ]
  refine BigFrame.wpQuiet_want rfl (fun K hK => ?_)
  refine quiet_call 19 #[.agg #[.int .u8 (Bn 0), .int .u8 (Bn 1), .int .u8 (Bn 2), .int .u8 (Bn 3)]] (.bool true) (fun w' _ => by go_simp) (fun w' hw' => Calls.out hw' (HRB.out w')) (hK _ ?_)
  clear hK K
  simp only [Act.put, List.setIfInBounds_toArray, List.set_cons_zero, List.set_cons_succ]
  refine BigFrame.wpQuiet_want rfl (fun K hK => ?_)
  refine quiet_val (.bool true) (fun w' hw' => by go_simp) (hK _ ?_)
  clear hK K
  simp only [Act.put, List.setIfInBounds_toArray, List.set_cons_zero, List.set_cons_succ]
  refine BigFrame.wpQuiet_want rfl (fun K hK => ?_)
  refine quiet_val (.bool true) (fun w' hw' => by go_simp) (hK _ ?_)
  clear hK K
  simp only [Act.put, List.setIfInBounds_toArray, List.set_cons_zero, List.set_cons_succ]
  refine BigFrame.wpQuiet_want rfl (fun K hK => ?_)
  refine quiet_val (.pointer (some ⟨g7, 3, none⟩)) (fun w' hw' => by go_simp) (hK _ ?_)
  clear hK K
  simp only [Act.put, List.setIfInBounds_toArray, List.set_cons_zero, List.set_cons_succ]
  refine BigFrame.wpQuiet_want rfl (fun K hK => ?_)
  refine quiet_val (.int .u8 (overC c d 3)) (fun w' hw' => by have c3 := (HB5.out w' hw').2.2.c0.2.2.2; have e := HBE.out; rw [e] at c3; go_simp) (hK _ ?_)
  clear hK K
  simp only [Act.put, List.setIfInBounds_toArray, List.set_cons_zero, List.set_cons_succ]
  refine BigFrame.wpQuiet_want rfl (fun K hK => ?_)
  refine quiet_val (.agg #[.int .u8 (c 0), .int .u8 (c 1), .int .u8 (c 2), .int .u8 (c 3)]) (fun w' hw' => by obtain ⟨c0, c1, c2, c3⟩ := (HB5.out w' hw').1.c0; go_simp) (hK _ ?_)
  clear hK K
  simp only [Act.put, List.setIfInBounds_toArray, List.set_cons_zero, List.set_cons_succ]
  refine BigFrame.wpQuiet_want rfl (fun K hK => ?_)
  refine quiet_val (.agg #[.int .u8 (d 0), .int .u8 (d 1), .int .u8 (d 2), .int .u8 (d 3)]) (fun w' hw' => by obtain ⟨c0, c1, c2, c3⟩ := (HB5.out w' hw').2.1.c0; go_simp) (hK _ ?_)
  clear hK K
  simp only [Act.put, List.setIfInBounds_toArray, List.set_cons_zero, List.set_cons_succ]
  refine BigFrame.wpQuiet_want rfl (fun K hK => ?_)
  refine quiet_call 22 #[.agg #[.int .u8 (c 0), .int .u8 (c 1), .int .u8 (c 2), .int .u8 (c 3)], .agg #[.int .u8 (d 0), .int .u8 (d 1), .int .u8 (d 2), .int .u8 (d 3)]] (.agg #[.int .u8 (overC c d 0), .int .u8 (overC c d 1), .int .u8 (overC c d 2), .int .u8 (overC c d 3)]) (fun w' _ => by go_simp) (fun w' hw' => Calls.out hw' (HOV.out w')) (hK _ ?_)
  clear hK K
  simp only [Act.put, List.setIfInBounds_toArray, List.set_cons_zero, List.set_cons_succ]
  refine BigFrame.wpQuiet_want rfl (fun K hK => ?_)
  refine quiet_val (.int .u8 (overC c d 3)) (fun w' hw' => by go_simp) (hK _ ?_)
  clear hK K
  simp only [Act.put, List.setIfInBounds_toArray, List.set_cons_zero, List.set_cons_succ]
  refine BigFrame.wpQuiet_want rfl (fun K hK => ?_)
  refine quiet_val (.bool true) (fun w' hw' => by go_simp) (hK _ ?_)
  clear hK K
  simp only [Act.put, List.setIfInBounds_toArray, List.set_cons_zero, List.set_cons_succ]
  refine BigFrame.wpQuiet_want rfl (fun K hK => ?_)
  refine quiet_val (.bool true) (fun w' hw' => by go_simp) (hK _ ?_)
  clear hK K
  simp only [Act.put, List.setIfInBounds_toArray, List.set_cons_zero, List.set_cons_succ]
  refine BigFrame.wpQuiet_want rfl (fun K hK => ?_)
  refine quiet_val (.bool true) (fun w' hw' => by go_simp) (hK _ ?_)
  clear hK K
  simp only [Act.put, List.setIfInBounds_toArray, List.set_cons_zero, List.set_cons_succ]
  refine BigFrame.wpQuiet_want rfl (fun K hK => ?_)
  refine quiet_call 11 #[] (.bool true) (fun w' _ => by go_simp) (fun w' hw' => Calls.out hw' (HAW.out w')) (hK _ ?_)
  clear hK K
  simp only [Act.put, List.setIfInBounds_toArray, List.set_cons_zero, List.set_cons_succ]
  refine BigFrame.wpQuiet_want rfl (fun K hK => ?_)
  refine quiet_val (.bool true) (fun w' hw' => by go_simp) (hK _ ?_)
  clear hK K
  simp only [Act.put, List.setIfInBounds_toArray, List.set_cons_zero, List.set_cons_succ]
  refine BigFrame.wpQuiet_want rfl (fun K hK => ?_)
  refine quiet_val (.bool true) (fun w' hw' => by go_simp) (hK _ ?_)
  clear hK K
  simp only [Act.put, List.setIfInBounds_toArray, List.set_cons_zero, List.set_cons_succ]
  refine wpQuiet_nil ?_
  intro w6 hb
  have HB6 : Hid (∀ A, Below w6.heap.size w6 A → Blk A w.heap.size 26 (c8 c) ∧ Blk A (w.heap.size + 1) 26 (c8 d) ∧ Blk A g7 26 (c8 Bn)) := fun A hA => HB5.out A (hb.trans (hA.mono hb.size))
  have BW6 : Hid (Below w.heap.size w w6) := BW5.out.trans (hb.mono BW5.out.size)
  clear hb
  go_wp2_with fail
  go_ret
  exact ⟨rfl, BW6.out⟩
theorem paintBlends_law (P : PaintOk) (c d : Col) (m : Int) (hc : OkC c) (hd : OkC d) (w : World) : Calls Try.prog 6 #[.agg #[.int .u8 (c 0), .int .u8 (c 1), .int .u8 (c 2), .int .u8 (c 3)], .agg #[.int .u8 (d 0), .int .u8 (d 1), .int .u8 (d 2), .int .u8 (d 3)], .int .i64 m] w fun e w' => e = .returned (.bool true) ∧ Below w.heap.size w w' := by
  rcases Int.lt_or_le m 0 with h | h
  · exact paintBlends_low P c d m hc hd w h
  rcases Int.lt_or_le 4 m with h4 | h4
  · exact paintBlends_high P c d m hc hd w h4
  cases hrc : rightC c
  case false => exact paintBlends_wrongc P c d m hc hd w ⟨h, h4⟩ hrc
  cases hrd : rightC d
  case false => exact paintBlends_wrongd P c d m hc hd w ⟨h, h4⟩ hrc hrd
  exact paintBlends_good P c d m hc hd w ⟨h, h4⟩ hrc hrd
end Go.Proofs.Ytcbldamlfjkppaa
