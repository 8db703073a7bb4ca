/- Layer 11: package image's New. -/
import Derived.Test.YtoppmlfibllhlaaRd
import Derived.Test.YtoppmlfibllhlaaKc
namespace Go.Proofs.Ytoppmlfibllhlaa
open Go.RowKit
theorem boxOk : BoxOk := fun W H s _ w _ _ _ _ => imBox_c W H s w
set_option maxHeartbeats 2000000 in
set_option maxRecDepth 100000 in
theorem newOk : NewOk := by
  intro w
  have HW := Lib.hid (isSide_c 3 true rfl)
  have HH := Lib.hid (isSide_c 2 true rfl)
  have hmk : ∀ W : World, (Instr.makeSlice 22 (.int .i64 6) (.int .i64 6)).run Try.prog W = .ok (.slice (some ⟨W.heap.size, 0, none⟩) 6 6) (W.alloc (.cells (madeCells (Value.agg #[.int .u8 0, .int .u8 0, .int .u8 0, .int .u8 0]).cells (6 * 4)) 28)) := fun W => by
    obtain ⟨i, hi, hz0, hz1, hz2⟩ := info_parts infoC8
    have h := run_make (P := Try.prog) W 22 28 i _ Try.underlying22 hi hz0 .i64 .i64 6 6 (by decide) (by decide) (by rw [hz2]; decide) (by decide)
    rw [hz1] at h
    exact h
  obtain ⟨mc, hmc⟩ : ∃ mc, madeCells (Value.agg #[.int .u8 0, .int .u8 0, .int .u8 0, .int .u8 0]).cells (6 * 4) = mc := ⟨_, rfl⟩
  have HMC := Lib.hid hmc
  rw [hmc] at hmk
  clear hmc
  go_enter Try.func32, Try.ntmps32
  go_wp2_with fail
  refine (HW.out _).mono ?_
  rintro e w' ⟨rfl, rfl⟩
  go_wp2_with fail
  refine (HH.out _).mono ?_
  rintro e w' ⟨rfl, rfl⟩
  go_upto_region 3 with fail
  obtain ⟨w1, hw1⟩ : ∃ WW, w.alloc (.cells #[.int .i64 0, .int .i64 0, .slice none 0 0] 24) = WW := ⟨_, rfl⟩
  have P1 : Hid (Below w.heap.size w w1 ∧ Blk w1 w.heap.size 24 #[.int .i64 0, .int .i64 0, .slice none 0 0]) := by
    rw [← hw1]; exact ⟨(Below.refl _ _).alloc (Nat.le_refl _) _, Blk.new _ _ _⟩
  rw [hw1]
  clear hw1
  have hmk1 := hmk w1
  obtain ⟨w2, hw2⟩ : ∃ WW, w1.alloc (.cells mc 28) = WW := ⟨_, rfl⟩
  rw [hw2] at hmk1
  have P2 : Hid (Below w.heap.size w w2 ∧ Blk w2 w.heap.size 24 #[.int .i64 0, .int .i64 0, .slice none 0 0] ∧ Blk w2 w1.heap.size 28 mc ∧ w.heap.size < w1.heap.size) := by
    rw [← hw2]; exact ⟨P1.out.1.alloc P1.out.1.size _, P1.out.2.alloc _, Blk.new _ _ _, P1.out.2.lt⟩
  obtain ⟨G, hG⟩ : ∃ G, w1.heap.size = G := ⟨_, rfl⟩
  rw [hG] at hmk1 P2
  have z0 : w2.cell? ⟨w.heap.size, 0, none⟩ = some (.int .i64 0) := P2.out.2.1.cell 0
  have z1 : w2.cell? ⟨w.heap.size, 1, none⟩ = some (.int .i64 0) := P2.out.2.1.cell 1
  have z2 : w2.cell? ⟨w.heap.size, 2, none⟩ = some (.slice none 0 0) := P2.out.2.1.cell 2
  have f0 := P2.out.2.1.free 0
  have f1 := P2.out.2.1.free 1
  have f2 := P2.out.2.1.free 2
  have lg := P2.out.2.1.lt
  clear hmk hw2 hG P1
  go_wp2_with fail
  refine bodyPost_ret (results_imG rfl rfl rfl (P2.out.2.1.set3 _ _ _)) rfl ⟨_, rfl, .inr (.inr ⟨G, 0, 6, rfl, by have := P2.out.2.2.1.lt; simp [World.setCell]; omega, fun i p hp => ?_⟩), below_three P2.out.1 (Nat.le_refl _) _ _ _⟩
  have hb2 : Blk (((w2.setCell ⟨w.heap.size, 0, none⟩ (.int .i64 3)).setCell ⟨w.heap.size, 1, none⟩ (.int .i64 2)).setCell ⟨w.heap.size, 2, none⟩ (.slice (some ⟨G, 0, none⟩) 6 6)) G 28 mc := P2.out.2.2.1.other3 (by have := P2.out.2.2.2; omega) _ _ _
  have hi : i < 6 := by have := (List.getElem?_eq_some_iff.1 hp).1; simpa using this
  obtain rfl : zeroK = p := by
    rw [List.getElem?_replicate, if_pos hi] at hp; exact Option.some.inj hp
  unfold ColAt
  rw [hb2.cell, hb2.cell, hb2.cell, hb2.cell, ← HMC.out]
  match i, hi with
  | 0, _ => refine ⟨?_, ?_, ?_, ?_⟩ <;> simp [madeCells, Value.cells, zeroK]
  | 1, _ => refine ⟨?_, ?_, ?_, ?_⟩ <;> simp [madeCells, Value.cells, zeroK]
  | 2, _ => refine ⟨?_, ?_, ?_, ?_⟩ <;> simp [madeCells, Value.cells, zeroK]
  | 3, _ => refine ⟨?_, ?_, ?_, ?_⟩ <;> simp [madeCells, Value.cells, zeroK]
  | 4, _ => refine ⟨?_, ?_, ?_, ?_⟩ <;> simp [madeCells, Value.cells, zeroK]
  | 5, _ => refine ⟨?_, ?_, ?_, ?_⟩ <;> simp [madeCells, Value.cells, zeroK]
end Go.Proofs.Ytoppmlfibllhlaa
