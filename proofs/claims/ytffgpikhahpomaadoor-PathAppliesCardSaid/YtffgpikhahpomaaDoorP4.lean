/- Layer 5: parted. -/
import Derived.Test.YtffgpikhahpomaaDoorP3
namespace Go.Proofs.YtffgpikhahpomaaDoor
open Go.RowKit
set_option maxHeartbeats 4000000 in
set_option maxRecDepth 100000 in
theorem parted_four_walk (p q r s a b c d h f : Pt) (w : World)
    (HR0 : Hid (∀ w, Calls Tryd.prog 69 #[.agg (nine p q r s 4)] w fun e w' => e = .returned (.agg (nine a b c zP 3)) ∧ Below w.heap.size w w'))
    (HR1 : Hid (∀ w, Calls Tryd.prog 69 #[.agg (nine a b c zP 3)] w fun e w' => e = .returned (.agg (nine d h zP zP 2)) ∧ Below w.heap.size w w'))
    (HR2 : Hid (∀ w, Calls Tryd.prog 69 #[.agg (nine d h zP zP 2)] w fun e w' => e = .returned (.agg (nine f zP zP zP 1)) ∧ Below w.heap.size w w'))
    (HR3 : Hid (∀ w, Calls Tryd.prog 69 #[.agg (nine f zP zP zP 1)] w fun e w' => e = .returned (.agg (nine zP zP zP zP 0)) ∧ Below w.heap.size w w')) :
    Calls Tryd.prog 66 #[.agg (nine p q r s 4)] w fun e w' => e = .returned (.tuple #[.agg (nine p a d f 4), .agg (nine f h c s 4)]) ∧ Below w.heap.size w w' := by
  have S1 : Hid (Mem w (((w.alloc (.cells (nine p q r s 4) 112)).alloc (.cells (Ro.mk zP zP zP zP 4).cells 112)).alloc (.cells (Ro.mk zP zP zP zP 4).cells 112)).drew [(w.heap.size + 2, 112, (Ro.mk zP zP zP zP 4).cells), (w.heap.size + 1, 112, (Ro.mk zP zP zP zP 4).cells), (w.heap.size, 112, (Ro.mk p q r s 4).cells)]) := Lib.hid ((((Mem.refl w).add 112 (Ro.mk p q r s 4).cells).addAt 112 (Ro.mk zP zP zP zP 4).cells (w.heap.size + 1) (by simp)).addAt 112 (Ro.mk zP zP zP zP 4).cells (w.heap.size + 2) (by simp)).drew
  obtain ⟨N, hN⟩ : ∃ n, w.heap.size = n := ⟨_, rfl⟩
  have HNN := Lib.hid hN
  rw [hN] at S1 ⊢
  go_enter Tryd.func66, Tryd.ntmps66
  go_wp2_with fail
  go_region
  go_wp2_with fail
  go_loopw [] (fun wr => ∃ k : Nat, k ≤ 4 ∧ ((k = 0 ∧ Hid (Mem w wr [(N + 2, 112, (Ro.mk zP zP zP zP 4).cells), (N + 1, 112, (Ro.mk zP zP zP zP 4).cells), (N, 112, (Ro.mk p q r s 4).cells)])) ∨ (k = 1 ∧ Hid (Mem w wr [(N + 2, 112, (Ro.mk zP zP zP s 4).cells), (N + 1, 112, (Ro.mk p zP zP zP 4).cells), (N, 112, (Ro.mk a b c zP 3).cells)])) ∨ (k = 2 ∧ Hid (Mem w wr [(N + 2, 112, (Ro.mk zP zP c s 4).cells), (N + 1, 112, (Ro.mk p a zP zP 4).cells), (N, 112, (Ro.mk d h zP zP 2).cells)])) ∨ (k = 3 ∧ Hid (Mem w wr [(N + 2, 112, (Ro.mk zP h c s 4).cells), (N + 1, 112, (Ro.mk p a d zP 4).cells), (N, 112, (Ro.mk f zP zP zP 1).cells)])) ∨ (k = 4 ∧ Hid (Mem w wr [(N + 2, 112, (Ro.mk f h c s 4).cells), (N + 1, 112, (Ro.mk p a d f 4).cells), (N, 112, (Ro.mk zP zP zP zP 0).cells)])))) (fun wr => (intOf ((wr.cell? ⟨N, 8, none⟩).getD undef)).toNat)
  case atStart => exact ⟨0, by omega, .inl (⟨rfl, S1⟩)⟩
  case round =>
    obtain ⟨k, hk, hrel⟩ := hrel
    rcases hrel with ⟨rfl, hw⟩ | ⟨rfl, hw⟩ | ⟨rfl, hw⟩ | ⟨rfl, hw⟩ | ⟨rfl, hw⟩
    · have m0 := hw.out.lays.2.2.1.r0
      have m1 := hw.out.lays.2.2.1.r1
      have m2 := hw.out.lays.2.2.1.r2
      have m3 := hw.out.lays.2.2.1.r3
      have m4 := hw.out.lays.2.2.1.r4
      have m5 := hw.out.lays.2.2.1.r5
      have m6 := hw.out.lays.2.2.1.r6
      have m7 := hw.out.lays.2.2.1.r7
      have m8 := hw.out.lays.2.2.1.r8
      have x0 := hw.out.lays.2.1.r0
      have x1 := hw.out.lays.2.1.r1
      have x8 := hw.out.lays.2.1.r8
      have y6 := hw.out.lays.1.r6
      have y7 := hw.out.lays.1.r7
      have f0 := hw.out.lays.2.1.free 0
      have f1 := hw.out.lays.2.1.free 1
      have g6 := hw.out.lays.1.free 6
      have g7 := hw.out.lays.1.free 7
      simp only at m0 m1 m2 m3 m4 m5 m6 m7 m8 x0 x1 x8 y6 y7
      have l0 := hw.out.lays.1.lt
      have l1 := hw.out.lays.2.1.lt
      have l2 := hw.out.lays.2.2.1.lt
      have SW : Hid (Mem w ((((wr.setCell ⟨N + 1, 0, none⟩ (.int .i64 p.1)).setCell ⟨N + 1, 1, none⟩ (.int .i64 p.2)).setCell ⟨N + 2, 6, none⟩ (.int .i64 s.1)).setCell ⟨N + 2, 7, none⟩ (.int .i64 s.2)) [(N + 2, 112, (Ro.mk zP zP zP s 4).cells), (N + 1, 112, (Ro.mk p zP zP zP 4).cells), (N, 112, (Ro.mk p q r s 4).cells)]) := ⟨HNN.out.symm ▸ below_cell2 (g := N + 2) (below_cell2 (g := N + 1) (HNN.out ▸ hw.out.below) (by omega) _ _ _ _) (by omega) _ _ _ _, ((hw.out.lays.1.other2 (g' := N + 1) (by dsimp only; omega) _ _ _ _).put 6 _ (Ro.mk zP zP zP (s.1, zP.2) 4).cells rfl).put 7 _ _ rfl, (((hw.out.lays.2.1.put 0 _ (Ro.mk (p.1, zP.2) zP zP zP 4).cells rfl).put 1 _ (Ro.mk p zP zP zP 4).cells rfl).other2 (g' := N + 2) (by dsimp only; omega) _ _ _ _), (hw.out.lays.2.2.1.other2 (g' := N + 1) (by dsimp only; omega) _ _ _ _).other2 (g' := N + 2) (by dsimp only; omega) _ _ _ _, trivial⟩
      go_wp2_with fail
      refine (HR0.out _).mono ?_
      rintro e w1 ⟨rfl, hb⟩
      have S2 := Lib.hid (SW.out.next hb)
      clear hb SW l0 l1 l2 m0 m1 m2 m3 m4 m5 m6 m7 m8 x0 x1 x8 y6 y7 f0 f1 g6 g7
      have m0 := S2.out.lays.2.2.1.r0
      have m1 := S2.out.lays.2.2.1.r1
      have m2 := S2.out.lays.2.2.1.r2
      have m3 := S2.out.lays.2.2.1.r3
      have m4 := S2.out.lays.2.2.1.r4
      have m5 := S2.out.lays.2.2.1.r5
      have m6 := S2.out.lays.2.2.1.r6
      have m7 := S2.out.lays.2.2.1.r7
      have m8 := S2.out.lays.2.2.1.r8
      have f0 := S2.out.lays.2.2.1.free 0
      have f1 := S2.out.lays.2.2.1.free 1
      have f2 := S2.out.lays.2.2.1.free 2
      have f3 := S2.out.lays.2.2.1.free 3
      have f4 := S2.out.lays.2.2.1.free 4
      have f5 := S2.out.lays.2.2.1.free 5
      have f6 := S2.out.lays.2.2.1.free 6
      have f7 := S2.out.lays.2.2.1.free 7
      have f8 := S2.out.lays.2.2.1.free 8
      simp only at m0 m1 m2 m3 m4 m5 m6 m7 m8
      have l2 := S2.out.lays.2.2.1.lt
      have S3 : Hid (Mem w (((((((((w1.setCell ⟨N, 0, none⟩ (.int .i64 a.1)).setCell ⟨N, 1, none⟩ (.int .i64 a.2)).setCell ⟨N, 2, none⟩ (.int .i64 b.1)).setCell ⟨N, 3, none⟩ (.int .i64 b.2)).setCell ⟨N, 4, none⟩ (.int .i64 c.1)).setCell ⟨N, 5, none⟩ (.int .i64 c.2)).setCell ⟨N, 6, none⟩ (.int .i64 zP.1)).setCell ⟨N, 7, none⟩ (.int .i64 zP.2)).setCell ⟨N, 8, none⟩ (.int .i64 3)) [(N + 2, 112, (Ro.mk zP zP zP s 4).cells), (N + 1, 112, (Ro.mk p zP zP zP 4).cells), (N, 112, (Ro.mk a b c zP 3).cells)]) := ⟨HNN.out.symm ▸ below_nine (g := N) (HNN.out ▸ S2.out.below) (Nat.le_refl _) _ _ _ _ _ _ _ _ _, S2.out.lays.1.other9 (by dsimp only; omega) _ _ _ _ _ _ _ _ _, S2.out.lays.2.1.other9 (by dsimp only; omega) _ _ _ _ _ _ _ _ _, S2.out.lays.2.2.1.set9 (Ro.mk a b c zP 3), trivial⟩
      have e1 := hw.out.lays.2.2.1.r8
      have e2 := S3.out.lays.2.2.1.r8
      have E1 := Lib.hid e1; have E2 := Lib.hid e2
      clear e1 e2
      go_wp2_with fail
      exact ⟨⟨1, by omega, .inr (.inl (⟨rfl, S3⟩))⟩, by have e1 := E1.out; have e2 := E2.out; simp only [e1, e2, Option.getD_some, intOf]; decide⟩
    · have m0 := hw.out.lays.2.2.1.r0
      have m1 := hw.out.lays.2.2.1.r1
      have m2 := hw.out.lays.2.2.1.r2
      have m3 := hw.out.lays.2.2.1.r3
      have m4 := hw.out.lays.2.2.1.r4
      have m5 := hw.out.lays.2.2.1.r5
      have m6 := hw.out.lays.2.2.1.r6
      have m7 := hw.out.lays.2.2.1.r7
      have m8 := hw.out.lays.2.2.1.r8
      have x2 := hw.out.lays.2.1.r2
      have x3 := hw.out.lays.2.1.r3
      have x8 := hw.out.lays.2.1.r8
      have y4 := hw.out.lays.1.r4
      have y5 := hw.out.lays.1.r5
      have f2 := hw.out.lays.2.1.free 2
      have f3 := hw.out.lays.2.1.free 3
      have g4 := hw.out.lays.1.free 4
      have g5 := hw.out.lays.1.free 5
      simp only at m0 m1 m2 m3 m4 m5 m6 m7 m8 x2 x3 x8 y4 y5
      have l0 := hw.out.lays.1.lt
      have l1 := hw.out.lays.2.1.lt
      have l2 := hw.out.lays.2.2.1.lt
      have SW : Hid (Mem w ((((wr.setCell ⟨N + 1, 2, none⟩ (.int .i64 a.1)).setCell ⟨N + 1, 3, none⟩ (.int .i64 a.2)).setCell ⟨N + 2, 4, none⟩ (.int .i64 c.1)).setCell ⟨N + 2, 5, none⟩ (.int .i64 c.2)) [(N + 2, 112, (Ro.mk zP zP c s 4).cells), (N + 1, 112, (Ro.mk p a zP zP 4).cells), (N, 112, (Ro.mk a b c zP 3).cells)]) := ⟨HNN.out.symm ▸ below_cell2 (g := N + 2) (below_cell2 (g := N + 1) (HNN.out ▸ hw.out.below) (by omega) _ _ _ _) (by omega) _ _ _ _, ((hw.out.lays.1.other2 (g' := N + 1) (by dsimp only; omega) _ _ _ _).put 4 _ (Ro.mk zP zP (c.1, zP.2) s 4).cells rfl).put 5 _ _ rfl, (((hw.out.lays.2.1.put 2 _ (Ro.mk p (a.1, zP.2) zP zP 4).cells rfl).put 3 _ (Ro.mk p a zP zP 4).cells rfl).other2 (g' := N + 2) (by dsimp only; omega) _ _ _ _), (hw.out.lays.2.2.1.other2 (g' := N + 1) (by dsimp only; omega) _ _ _ _).other2 (g' := N + 2) (by dsimp only; omega) _ _ _ _, trivial⟩
      go_wp2_with fail
      refine (HR1.out _).mono ?_
      rintro e w1 ⟨rfl, hb⟩
      have S2 := Lib.hid (SW.out.next hb)
      clear hb SW l0 l1 l2 m0 m1 m2 m3 m4 m5 m6 m7 m8 x2 x3 x8 y4 y5 f2 f3 g4 g5
      have m0 := S2.out.lays.2.2.1.r0
      have m1 := S2.out.lays.2.2.1.r1
      have m2 := S2.out.lays.2.2.1.r2
      have m3 := S2.out.lays.2.2.1.r3
      have m4 := S2.out.lays.2.2.1.r4
      have m5 := S2.out.lays.2.2.1.r5
      have m6 := S2.out.lays.2.2.1.r6
      have m7 := S2.out.lays.2.2.1.r7
      have m8 := S2.out.lays.2.2.1.r8
      have f0 := S2.out.lays.2.2.1.free 0
      have f1 := S2.out.lays.2.2.1.free 1
      have f2 := S2.out.lays.2.2.1.free 2
      have f3 := S2.out.lays.2.2.1.free 3
      have f4 := S2.out.lays.2.2.1.free 4
      have f5 := S2.out.lays.2.2.1.free 5
      have f6 := S2.out.lays.2.2.1.free 6
      have f7 := S2.out.lays.2.2.1.free 7
      have f8 := S2.out.lays.2.2.1.free 8
      simp only at m0 m1 m2 m3 m4 m5 m6 m7 m8
      have l2 := S2.out.lays.2.2.1.lt
      have S3 : Hid (Mem w (((((((((w1.setCell ⟨N, 0, none⟩ (.int .i64 d.1)).setCell ⟨N, 1, none⟩ (.int .i64 d.2)).setCell ⟨N, 2, none⟩ (.int .i64 h.1)).setCell ⟨N, 3, none⟩ (.int .i64 h.2)).setCell ⟨N, 4, none⟩ (.int .i64 zP.1)).setCell ⟨N, 5, none⟩ (.int .i64 zP.2)).setCell ⟨N, 6, none⟩ (.int .i64 zP.1)).setCell ⟨N, 7, none⟩ (.int .i64 zP.2)).setCell ⟨N, 8, none⟩ (.int .i64 2)) [(N + 2, 112, (Ro.mk zP zP c s 4).cells), (N + 1, 112, (Ro.mk p a zP zP 4).cells), (N, 112, (Ro.mk d h zP zP 2).cells)]) := ⟨HNN.out.symm ▸ below_nine (g := N) (HNN.out ▸ S2.out.below) (Nat.le_refl _) _ _ _ _ _ _ _ _ _, S2.out.lays.1.other9 (by dsimp only; omega) _ _ _ _ _ _ _ _ _, S2.out.lays.2.1.other9 (by dsimp only; omega) _ _ _ _ _ _ _ _ _, S2.out.lays.2.2.1.set9 (Ro.mk d h zP zP 2), trivial⟩
      have e1 := hw.out.lays.2.2.1.r8
      have e2 := S3.out.lays.2.2.1.r8
      have E1 := Lib.hid e1; have E2 := Lib.hid e2
      clear e1 e2
      go_wp2_with fail
      exact ⟨⟨2, by omega, .inr (.inr (.inl (⟨rfl, S3⟩)))⟩, by have e1 := E1.out; have e2 := E2.out; simp only [e1, e2, Option.getD_some, intOf]; decide⟩
    · have m0 := hw.out.lays.2.2.1.r0
      have m1 := hw.out.lays.2.2.1.r1
      have m2 := hw.out.lays.2.2.1.r2
      have m3 := hw.out.lays.2.2.1.r3
      have m4 := hw.out.lays.2.2.1.r4
      have m5 := hw.out.lays.2.2.1.r5
      have m6 := hw.out.lays.2.2.1.r6
      have m7 := hw.out.lays.2.2.1.r7
      have m8 := hw.out.lays.2.2.1.r8
      have x4 := hw.out.lays.2.1.r4
      have x5 := hw.out.lays.2.1.r5
      have x8 := hw.out.lays.2.1.r8
      have y2 := hw.out.lays.1.r2
      have y3 := hw.out.lays.1.r3
      have f4 := hw.out.lays.2.1.free 4
      have f5 := hw.out.lays.2.1.free 5
      have g2 := hw.out.lays.1.free 2
      have g3 := hw.out.lays.1.free 3
      simp only at m0 m1 m2 m3 m4 m5 m6 m7 m8 x4 x5 x8 y2 y3
      have l0 := hw.out.lays.1.lt
      have l1 := hw.out.lays.2.1.lt
      have l2 := hw.out.lays.2.2.1.lt
      have SW : Hid (Mem w ((((wr.setCell ⟨N + 1, 4, none⟩ (.int .i64 d.1)).setCell ⟨N + 1, 5, none⟩ (.int .i64 d.2)).setCell ⟨N + 2, 2, none⟩ (.int .i64 h.1)).setCell ⟨N + 2, 3, none⟩ (.int .i64 h.2)) [(N + 2, 112, (Ro.mk zP h c s 4).cells), (N + 1, 112, (Ro.mk p a d zP 4).cells), (N, 112, (Ro.mk d h zP zP 2).cells)]) := ⟨HNN.out.symm ▸ below_cell2 (g := N + 2) (below_cell2 (g := N + 1) (HNN.out ▸ hw.out.below) (by omega) _ _ _ _) (by omega) _ _ _ _, ((hw.out.lays.1.other2 (g' := N + 1) (by dsimp only; omega) _ _ _ _).put 2 _ (Ro.mk zP (h.1, zP.2) c s 4).cells rfl).put 3 _ _ rfl, (((hw.out.lays.2.1.put 4 _ (Ro.mk p a (d.1, zP.2) zP 4).cells rfl).put 5 _ (Ro.mk p a d zP 4).cells rfl).other2 (g' := N + 2) (by dsimp only; omega) _ _ _ _), (hw.out.lays.2.2.1.other2 (g' := N + 1) (by dsimp only; omega) _ _ _ _).other2 (g' := N + 2) (by dsimp only; omega) _ _ _ _, trivial⟩
      go_wp2_with fail
      refine (HR2.out _).mono ?_
      rintro e w1 ⟨rfl, hb⟩
      have S2 := Lib.hid (SW.out.next hb)
      clear hb SW l0 l1 l2 m0 m1 m2 m3 m4 m5 m6 m7 m8 x4 x5 x8 y2 y3 f4 f5 g2 g3
      have m0 := S2.out.lays.2.2.1.r0
      have m1 := S2.out.lays.2.2.1.r1
      have m2 := S2.out.lays.2.2.1.r2
      have m3 := S2.out.lays.2.2.1.r3
      have m4 := S2.out.lays.2.2.1.r4
      have m5 := S2.out.lays.2.2.1.r5
      have m6 := S2.out.lays.2.2.1.r6
      have m7 := S2.out.lays.2.2.1.r7
      have m8 := S2.out.lays.2.2.1.r8
      have f0 := S2.out.lays.2.2.1.free 0
      have f1 := S2.out.lays.2.2.1.free 1
      have f2 := S2.out.lays.2.2.1.free 2
      have f3 := S2.out.lays.2.2.1.free 3
      have f4 := S2.out.lays.2.2.1.free 4
      have f5 := S2.out.lays.2.2.1.free 5
      have f6 := S2.out.lays.2.2.1.free 6
      have f7 := S2.out.lays.2.2.1.free 7
      have f8 := S2.out.lays.2.2.1.free 8
      simp only at m0 m1 m2 m3 m4 m5 m6 m7 m8
      have l2 := S2.out.lays.2.2.1.lt
      have S3 : Hid (Mem w (((((((((w1.setCell ⟨N, 0, none⟩ (.int .i64 f.1)).setCell ⟨N, 1, none⟩ (.int .i64 f.2)).setCell ⟨N, 2, none⟩ (.int .i64 zP.1)).setCell ⟨N, 3, none⟩ (.int .i64 zP.2)).setCell ⟨N, 4, none⟩ (.int .i64 zP.1)).setCell ⟨N, 5, none⟩ (.int .i64 zP.2)).setCell ⟨N, 6, none⟩ (.int .i64 zP.1)).setCell ⟨N, 7, none⟩ (.int .i64 zP.2)).setCell ⟨N, 8, none⟩ (.int .i64 1)) [(N + 2, 112, (Ro.mk zP h c s 4).cells), (N + 1, 112, (Ro.mk p a d zP 4).cells), (N, 112, (Ro.mk f zP zP zP 1).cells)]) := ⟨HNN.out.symm ▸ below_nine (g := N) (HNN.out ▸ S2.out.below) (Nat.le_refl _) _ _ _ _ _ _ _ _ _, S2.out.lays.1.other9 (by dsimp only; omega) _ _ _ _ _ _ _ _ _, S2.out.lays.2.1.other9 (by dsimp only; omega) _ _ _ _ _ _ _ _ _, S2.out.lays.2.2.1.set9 (Ro.mk f zP zP zP 1), trivial⟩
      have e1 := hw.out.lays.2.2.1.r8
      have e2 := S3.out.lays.2.2.1.r8
      have E1 := Lib.hid e1; have E2 := Lib.hid e2
      clear e1 e2
      go_wp2_with fail
      exact ⟨⟨3, by omega, .inr (.inr (.inr (.inl (⟨rfl, S3⟩))))⟩, by have e1 := E1.out; have e2 := E2.out; simp only [e1, e2, Option.getD_some, intOf]; decide⟩
    · have m0 := hw.out.lays.2.2.1.r0
      have m1 := hw.out.lays.2.2.1.r1
      have m2 := hw.out.lays.2.2.1.r2
      have m3 := hw.out.lays.2.2.1.r3
      have m4 := hw.out.lays.2.2.1.r4
      have m5 := hw.out.lays.2.2.1.r5
      have m6 := hw.out.lays.2.2.1.r6
      have m7 := hw.out.lays.2.2.1.r7
      have m8 := hw.out.lays.2.2.1.r8
      have x6 := hw.out.lays.2.1.r6
      have x7 := hw.out.lays.2.1.r7
      have x8 := hw.out.lays.2.1.r8
      have y0 := hw.out.lays.1.r0
      have y1 := hw.out.lays.1.r1
      have f6 := hw.out.lays.2.1.free 6
      have f7 := hw.out.lays.2.1.free 7
      have g0 := hw.out.lays.1.free 0
      have g1 := hw.out.lays.1.free 1
      simp only at m0 m1 m2 m3 m4 m5 m6 m7 m8 x6 x7 x8 y0 y1
      have l0 := hw.out.lays.1.lt
      have l1 := hw.out.lays.2.1.lt
      have l2 := hw.out.lays.2.2.1.lt
      have SW : Hid (Mem w ((((wr.setCell ⟨N + 1, 6, none⟩ (.int .i64 f.1)).setCell ⟨N + 1, 7, none⟩ (.int .i64 f.2)).setCell ⟨N + 2, 0, none⟩ (.int .i64 f.1)).setCell ⟨N + 2, 1, none⟩ (.int .i64 f.2)) [(N + 2, 112, (Ro.mk f h c s 4).cells), (N + 1, 112, (Ro.mk p a d f 4).cells), (N, 112, (Ro.mk f zP zP zP 1).cells)]) := ⟨HNN.out.symm ▸ below_cell2 (g := N + 2) (below_cell2 (g := N + 1) (HNN.out ▸ hw.out.below) (by omega) _ _ _ _) (by omega) _ _ _ _, ((hw.out.lays.1.other2 (g' := N + 1) (by dsimp only; omega) _ _ _ _).put 0 _ (Ro.mk (f.1, zP.2) h c s 4).cells rfl).put 1 _ _ rfl, (((hw.out.lays.2.1.put 6 _ (Ro.mk p a d (f.1, zP.2) 4).cells rfl).put 7 _ (Ro.mk p a d f 4).cells rfl).other2 (g' := N + 2) (by dsimp only; omega) _ _ _ _), (hw.out.lays.2.2.1.other2 (g' := N + 1) (by dsimp only; omega) _ _ _ _).other2 (g' := N + 2) (by dsimp only; omega) _ _ _ _, trivial⟩
      go_wp2_with fail
      refine (HR3.out _).mono ?_
      rintro e w1 ⟨rfl, hb⟩
      have S2 := Lib.hid (SW.out.next hb)
      clear hb SW l0 l1 l2 m0 m1 m2 m3 m4 m5 m6 m7 m8 x6 x7 x8 y0 y1 f6 f7 g0 g1
      have m0 := S2.out.lays.2.2.1.r0
      have m1 := S2.out.lays.2.2.1.r1
      have m2 := S2.out.lays.2.2.1.r2
      have m3 := S2.out.lays.2.2.1.r3
      have m4 := S2.out.lays.2.2.1.r4
      have m5 := S2.out.lays.2.2.1.r5
      have m6 := S2.out.lays.2.2.1.r6
      have m7 := S2.out.lays.2.2.1.r7
      have m8 := S2.out.lays.2.2.1.r8
      have f0 := S2.out.lays.2.2.1.free 0
      have f1 := S2.out.lays.2.2.1.free 1
      have f2 := S2.out.lays.2.2.1.free 2
      have f3 := S2.out.lays.2.2.1.free 3
      have f4 := S2.out.lays.2.2.1.free 4
      have f5 := S2.out.lays.2.2.1.free 5
      have f6 := S2.out.lays.2.2.1.free 6
      have f7 := S2.out.lays.2.2.1.free 7
      have f8 := S2.out.lays.2.2.1.free 8
      simp only at m0 m1 m2 m3 m4 m5 m6 m7 m8
      have l2 := S2.out.lays.2.2.1.lt
      have S3 : Hid (Mem w (((((((((w1.setCell ⟨N, 0, none⟩ (.int .i64 zP.1)).setCell ⟨N, 1, none⟩ (.int .i64 zP.2)).setCell ⟨N, 2, none⟩ (.int .i64 zP.1)).setCell ⟨N, 3, none⟩ (.int .i64 zP.2)).setCell ⟨N, 4, none⟩ (.int .i64 zP.1)).setCell ⟨N, 5, none⟩ (.int .i64 zP.2)).setCell ⟨N, 6, none⟩ (.int .i64 zP.1)).setCell ⟨N, 7, none⟩ (.int .i64 zP.2)).setCell ⟨N, 8, none⟩ (.int .i64 0)) [(N + 2, 112, (Ro.mk f h c s 4).cells), (N + 1, 112, (Ro.mk p a d f 4).cells), (N, 112, (Ro.mk zP zP zP zP 0).cells)]) := ⟨HNN.out.symm ▸ below_nine (g := N) (HNN.out ▸ S2.out.below) (Nat.le_refl _) _ _ _ _ _ _ _ _ _, S2.out.lays.1.other9 (by dsimp only; omega) _ _ _ _ _ _ _ _ _, S2.out.lays.2.1.other9 (by dsimp only; omega) _ _ _ _ _ _ _ _ _, S2.out.lays.2.2.1.set9 (Ro.mk zP zP zP zP 0), trivial⟩
      have e1 := hw.out.lays.2.2.1.r8
      have e2 := S3.out.lays.2.2.1.r8
      have E1 := Lib.hid e1; have E2 := Lib.hid e2
      clear e1 e2
      go_wp2_with fail
      exact ⟨⟨4, by omega, .inr (.inr (.inr (.inr (⟨rfl, S3⟩))))⟩, by have e1 := E1.out; have e2 := E2.out; simp only [e1, e2, Option.getD_some, intOf]; decide⟩
    · have m8 := hw.out.lays.2.2.1.r8
      simp only at m8
      have x0 := hw.out.lays.2.1.r0
      have x1 := hw.out.lays.2.1.r1
      have x2 := hw.out.lays.2.1.r2
      have x3 := hw.out.lays.2.1.r3
      have x4 := hw.out.lays.2.1.r4
      have x5 := hw.out.lays.2.1.r5
      have x6 := hw.out.lays.2.1.r6
      have x7 := hw.out.lays.2.1.r7
      have x8 := hw.out.lays.2.1.r8
      have y0 := hw.out.lays.1.r0
      have y1 := hw.out.lays.1.r1
      have y2 := hw.out.lays.1.r2
      have y3 := hw.out.lays.1.r3
      have y4 := hw.out.lays.1.r4
      have y5 := hw.out.lays.1.r5
      have y6 := hw.out.lays.1.r6
      have y7 := hw.out.lays.1.r7
      have y8 := hw.out.lays.1.r8
      have f0 := hw.out.lays.2.1.free 0
      have f1 := hw.out.lays.2.1.free 1
      have f2 := hw.out.lays.2.1.free 2
      have f3 := hw.out.lays.2.1.free 3
      have f4 := hw.out.lays.2.1.free 4
      have f5 := hw.out.lays.2.1.free 5
      have f6 := hw.out.lays.2.1.free 6
      have f7 := hw.out.lays.2.1.free 7
      have f8 := hw.out.lays.2.1.free 8
      have g0 := hw.out.lays.1.free 0
      have g1 := hw.out.lays.1.free 1
      have g2 := hw.out.lays.1.free 2
      have g3 := hw.out.lays.1.free 3
      have g4 := hw.out.lays.1.free 4
      have g5 := hw.out.lays.1.free 5
      have g6 := hw.out.lays.1.free 6
      have g7 := hw.out.lays.1.free 7
      have g8 := hw.out.lays.1.free 8
      simp only at x0 x1 x2 x3 x4 x5 x6 x7 x8 y0 y1 y2 y3 y4 y5 y6 y7 y8
      have l0 := hw.out.lays.1.lt
      have l1 := hw.out.lays.2.1.lt
      go_wp2_with fail
      go_region
      go_wp2_with fail
      refine bodyPost_ret (results_row2 (g := N + 1) (k := N + 1 + 1) (x := Ro.mk p a d f 4) (y := Ro.mk f h c s 4) 2 3 rfl rfl rfl (Blk.drew ?_) (Blk.drew ?_)) rfl ⟨rfl, below_drewN (w := _) ?_ 1⟩
      · exact (hw.out.lays.2.1.set9 (Ro.mk p a d f 4)).other9 (g' := N + 1 + 1) (by dsimp only; omega) _ _ _ _ _ _ _ _ _
      · exact (hw.out.lays.1.other9 (g' := N + 1) (by dsimp only; omega) _ _ _ _ _ _ _ _ _).set9 (Ro.mk f h c s 4)
      · exact below_nine (g := N + 1 + 1) (below_nine (g := N + 1) (HNN.out ▸ hw.out.below) (by omega) _ _ _ _ _ _ _ _ _) (by omega) _ _ _ _ _ _ _ _ _
end Go.Proofs.YtffgpikhahpomaaDoor

