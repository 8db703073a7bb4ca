/- Layer 5: parted. -/
import Derived.Test.YtffgpikhahpomaaDoorL3
import Derived.Test.YtffgpikhahpomaaDoorL4
namespace Go.Proofs.YtffgpikhahpomaaDoor
open Go.RowKit
theorem Blk.drew {w : World} {g : Nat} {t : TypeId} {cs : Array Value} (h : Blk w g t cs) : Blk w.drew g t cs := h
theorem results_row2 {fn : Func} {tmps : Array Value} {w : World} {g k : Nat} {x y : Ro} (t u : Nat) (hres : fn.results = #[.cell t 112, .cell u 112]) (ht : tmps[t]? = some (.pointer (some ⟨g, 0, none⟩))) (hu : tmps[u]? = some (.pointer (some ⟨k, 0, none⟩))) (h : Blk w g 112 x.cells) (h' : Blk w k 112 y.cells) :
    (results fn tmps).run Tryd.prog w = .ok (.tuple #[.agg x.cells, .agg y.cells]) w := by
  have h0 := h.r0
  have h1 := h.r1
  have h2 := h.r2
  have h3 := h.r3
  have h4 := h.r4
  have h5 := h.r5
  have h6 := h.r6
  have h7 := h.r7
  have h8 := h.r8
  have k0 := h'.r0
  have k1 := h'.r1
  have k2 := h'.r2
  have k3 := h'.r3
  have k4 := h'.r4
  have k5 := h'.r5
  have k6 := h'.r6
  have k7 := h'.r7
  have k8 := h'.r8
  simp [results, hres, ht, hu, go_sem, h0, h1, h2, h3, h4, h5, h6, h7, h8, k0, k1, k2, k3, k4, k5, k6, k7, k8, Ro.cells]
set_option maxHeartbeats 4000000 in
set_option maxRecDepth 100000 in
theorem parted_three_walk (p q r a b d : Pt) (w : World)
    (HR0 : Hid (∀ w, Calls Tryd.prog 69 #[.agg (nine p q r zP 3)] w fun e w' => e = .returned (.agg (nine a b zP zP 2)) ∧ Below w.heap.size w w'))
    (HR1 : Hid (∀ w, Calls Tryd.prog 69 #[.agg (nine a b zP zP 2)] w fun e w' => e = .returned (.agg (nine d zP zP zP 1)) ∧ Below w.heap.size w w'))
    (HR2 : Hid (∀ w, Calls Tryd.prog 69 #[.agg (nine d zP zP zP 1)] w fun e w' => e = .returned (.agg (nine zP zP zP zP 0)) ∧ Below w.heap.size w w')) :
    Calls Tryd.prog 66 #[.agg (nine p q r zP 3)] w fun e w' => e = .returned (.tuple #[.agg (nine p a d zP 3), .agg (nine d b r zP 3)]) ∧ Below w.heap.size w w' := by
  have S1 : Hid (Mem w (((w.alloc (.cells (nine p q r zP 3) 112)).alloc (.cells (Ro.mk zP zP zP zP 3).cells 112)).alloc (.cells (Ro.mk zP zP zP zP 3).cells 112)).drew [(w.heap.size + 2, 112, (Ro.mk zP zP zP zP 3).cells), (w.heap.size + 1, 112, (Ro.mk zP zP zP zP 3).cells), (w.heap.size, 112, (Ro.mk p q r zP 3).cells)]) := Lib.hid ((((Mem.refl w).add 112 (Ro.mk p q r zP 3).cells).addAt 112 (Ro.mk zP zP zP zP 3).cells (w.heap.size + 1) (by simp)).addAt 112 (Ro.mk zP zP zP zP 3).cells (w.heap.size + 2) (by simp)).drew
  obtain ⟨N, hN⟩ : ∃ n, w.heap.size = n := ⟨_, rfl⟩
  have HNN := Lib.hid hN
  rw [hN] at S1 ⊢
  go_enter Tryd.func66, Tryd.ntmps66
  go_wp2_with fail
  go_region
  go_wp2_with fail
  go_loopw [] (fun wr => ∃ k : Nat, k ≤ 3 ∧ ((k = 0 ∧ Hid (Mem w wr [(N + 2, 112, (Ro.mk zP zP zP zP 3).cells), (N + 1, 112, (Ro.mk zP zP zP zP 3).cells), (N, 112, (Ro.mk p q r zP 3).cells)])) ∨ (k = 1 ∧ Hid (Mem w wr [(N + 2, 112, (Ro.mk zP zP r zP 3).cells), (N + 1, 112, (Ro.mk p zP zP zP 3).cells), (N, 112, (Ro.mk a b zP zP 2).cells)])) ∨ (k = 2 ∧ Hid (Mem w wr [(N + 2, 112, (Ro.mk zP b r zP 3).cells), (N + 1, 112, (Ro.mk p a zP zP 3).cells), (N, 112, (Ro.mk d zP zP zP 1).cells)])) ∨ (k = 3 ∧ Hid (Mem w wr [(N + 2, 112, (Ro.mk d b r zP 3).cells), (N + 1, 112, (Ro.mk p a d zP 3).cells), (N, 112, (Ro.mk zP zP zP zP 0).cells)])))) (fun wr => (intOf ((wr.cell? ⟨N, 8, none⟩).getD undef)).toNat)
  case atStart => exact ⟨0, by omega, .inl (⟨rfl, S1⟩)⟩
  case round =>
    obtain ⟨k, hk, hrel⟩ := hrel
    rcases hrel with ⟨rfl, hw⟩ | ⟨rfl, hw⟩ | ⟨rfl, hw⟩ | ⟨rfl, hw⟩
    · have m0 := hw.out.lays.2.2.1.r0
      have m1 := hw.out.lays.2.2.1.r1
      have m2 := hw.out.lays.2.2.1.r2
      have m3 := hw.out.lays.2.2.1.r3
      have m4 := hw.out.lays.2.2.1.r4
      have m5 := hw.out.lays.2.2.1.r5
      have m6 := hw.out.lays.2.2.1.r6
      have m7 := hw.out.lays.2.2.1.r7
      have m8 := hw.out.lays.2.2.1.r8
      have x0 := hw.out.lays.2.1.r0
      have x1 := hw.out.lays.2.1.r1
      have x8 := hw.out.lays.2.1.r8
      have y4 := hw.out.lays.1.r4
      have y5 := hw.out.lays.1.r5
      have f0 := hw.out.lays.2.1.free 0
      have f1 := hw.out.lays.2.1.free 1
      have g4 := hw.out.lays.1.free 4
      have g5 := hw.out.lays.1.free 5
      simp only at m0 m1 m2 m3 m4 m5 m6 m7 m8 x0 x1 x8 y4 y5
      have l0 := hw.out.lays.1.lt
      have l1 := hw.out.lays.2.1.lt
      have l2 := hw.out.lays.2.2.1.lt
      have SW : Hid (Mem w ((((wr.setCell ⟨N + 1, 0, none⟩ (.int .i64 p.1)).setCell ⟨N + 1, 1, none⟩ (.int .i64 p.2)).setCell ⟨N + 2, 4, none⟩ (.int .i64 r.1)).setCell ⟨N + 2, 5, none⟩ (.int .i64 r.2)) [(N + 2, 112, (Ro.mk zP zP r zP 3).cells), (N + 1, 112, (Ro.mk p zP zP zP 3).cells), (N, 112, (Ro.mk p q r zP 3).cells)]) := ⟨HNN.out.symm ▸ below_cell2 (g := N + 2) (below_cell2 (g := N + 1) (HNN.out ▸ hw.out.below) (by omega) _ _ _ _) (by omega) _ _ _ _, ((hw.out.lays.1.other2 (g' := N + 1) (by dsimp only; omega) _ _ _ _).put 4 _ (Ro.mk zP zP (r.1, zP.2) zP 3).cells rfl).put 5 _ _ rfl, (((hw.out.lays.2.1.put 0 _ (Ro.mk (p.1, zP.2) zP zP zP 3).cells rfl).put 1 _ (Ro.mk p zP zP zP 3).cells rfl).other2 (g' := N + 2) (by dsimp only; omega) _ _ _ _), (hw.out.lays.2.2.1.other2 (g' := N + 1) (by dsimp only; omega) _ _ _ _).other2 (g' := N + 2) (by dsimp only; omega) _ _ _ _, trivial⟩
      go_wp2_with fail
      refine (HR0.out _).mono ?_
      rintro e w1 ⟨rfl, hb⟩
      have S2 := Lib.hid (SW.out.next hb)
      clear hb SW l0 l1 l2 m0 m1 m2 m3 m4 m5 m6 m7 m8 x0 x1 x8 y4 y5 f0 f1 g4 g5
      have m0 := S2.out.lays.2.2.1.r0
      have m1 := S2.out.lays.2.2.1.r1
      have m2 := S2.out.lays.2.2.1.r2
      have m3 := S2.out.lays.2.2.1.r3
      have m4 := S2.out.lays.2.2.1.r4
      have m5 := S2.out.lays.2.2.1.r5
      have m6 := S2.out.lays.2.2.1.r6
      have m7 := S2.out.lays.2.2.1.r7
      have m8 := S2.out.lays.2.2.1.r8
      have f0 := S2.out.lays.2.2.1.free 0
      have f1 := S2.out.lays.2.2.1.free 1
      have f2 := S2.out.lays.2.2.1.free 2
      have f3 := S2.out.lays.2.2.1.free 3
      have f4 := S2.out.lays.2.2.1.free 4
      have f5 := S2.out.lays.2.2.1.free 5
      have f6 := S2.out.lays.2.2.1.free 6
      have f7 := S2.out.lays.2.2.1.free 7
      have f8 := S2.out.lays.2.2.1.free 8
      simp only at m0 m1 m2 m3 m4 m5 m6 m7 m8
      have l2 := S2.out.lays.2.2.1.lt
      have S3 : Hid (Mem w (((((((((w1.setCell ⟨N, 0, none⟩ (.int .i64 a.1)).setCell ⟨N, 1, none⟩ (.int .i64 a.2)).setCell ⟨N, 2, none⟩ (.int .i64 b.1)).setCell ⟨N, 3, none⟩ (.int .i64 b.2)).setCell ⟨N, 4, none⟩ (.int .i64 zP.1)).setCell ⟨N, 5, none⟩ (.int .i64 zP.2)).setCell ⟨N, 6, none⟩ (.int .i64 zP.1)).setCell ⟨N, 7, none⟩ (.int .i64 zP.2)).setCell ⟨N, 8, none⟩ (.int .i64 2)) [(N + 2, 112, (Ro.mk zP zP r zP 3).cells), (N + 1, 112, (Ro.mk p zP zP zP 3).cells), (N, 112, (Ro.mk a b zP zP 2).cells)]) := ⟨HNN.out.symm ▸ below_nine (g := N) (HNN.out ▸ S2.out.below) (Nat.le_refl _) _ _ _ _ _ _ _ _ _, S2.out.lays.1.other9 (by dsimp only; omega) _ _ _ _ _ _ _ _ _, S2.out.lays.2.1.other9 (by dsimp only; omega) _ _ _ _ _ _ _ _ _, S2.out.lays.2.2.1.set9 (Ro.mk a b zP zP 2), trivial⟩
      have e1 := hw.out.lays.2.2.1.r8
      have e2 := S3.out.lays.2.2.1.r8
      have E1 := Lib.hid e1; have E2 := Lib.hid e2
      clear e1 e2
      go_wp2_with fail
      exact ⟨⟨1, by omega, .inr (.inl (⟨rfl, S3⟩))⟩, by have e1 := E1.out; have e2 := E2.out; simp only [e1, e2, Option.getD_some, intOf]; decide⟩
    · have m0 := hw.out.lays.2.2.1.r0
      have m1 := hw.out.lays.2.2.1.r1
      have m2 := hw.out.lays.2.2.1.r2
      have m3 := hw.out.lays.2.2.1.r3
      have m4 := hw.out.lays.2.2.1.r4
      have m5 := hw.out.lays.2.2.1.r5
      have m6 := hw.out.lays.2.2.1.r6
      have m7 := hw.out.lays.2.2.1.r7
      have m8 := hw.out.lays.2.2.1.r8
      have x2 := hw.out.lays.2.1.r2
      have x3 := hw.out.lays.2.1.r3
      have x8 := hw.out.lays.2.1.r8
      have y2 := hw.out.lays.1.r2
      have y3 := hw.out.lays.1.r3
      have f2 := hw.out.lays.2.1.free 2
      have f3 := hw.out.lays.2.1.free 3
      have g2 := hw.out.lays.1.free 2
      have g3 := hw.out.lays.1.free 3
      simp only at m0 m1 m2 m3 m4 m5 m6 m7 m8 x2 x3 x8 y2 y3
      have l0 := hw.out.lays.1.lt
      have l1 := hw.out.lays.2.1.lt
      have l2 := hw.out.lays.2.2.1.lt
      have SW : Hid (Mem w ((((wr.setCell ⟨N + 1, 2, none⟩ (.int .i64 a.1)).setCell ⟨N + 1, 3, none⟩ (.int .i64 a.2)).setCell ⟨N + 2, 2, none⟩ (.int .i64 b.1)).setCell ⟨N + 2, 3, none⟩ (.int .i64 b.2)) [(N + 2, 112, (Ro.mk zP b r zP 3).cells), (N + 1, 112, (Ro.mk p a zP zP 3).cells), (N, 112, (Ro.mk a b zP zP 2).cells)]) := ⟨HNN.out.symm ▸ below_cell2 (g := N + 2) (below_cell2 (g := N + 1) (HNN.out ▸ hw.out.below) (by omega) _ _ _ _) (by omega) _ _ _ _, ((hw.out.lays.1.other2 (g' := N + 1) (by dsimp only; omega) _ _ _ _).put 2 _ (Ro.mk zP (b.1, zP.2) r zP 3).cells rfl).put 3 _ _ rfl, (((hw.out.lays.2.1.put 2 _ (Ro.mk p (a.1, zP.2) zP zP 3).cells rfl).put 3 _ (Ro.mk p a zP zP 3).cells rfl).other2 (g' := N + 2) (by dsimp only; omega) _ _ _ _), (hw.out.lays.2.2.1.other2 (g' := N + 1) (by dsimp only; omega) _ _ _ _).other2 (g' := N + 2) (by dsimp only; omega) _ _ _ _, trivial⟩
      go_wp2_with fail
      refine (HR1.out _).mono ?_
      rintro e w1 ⟨rfl, hb⟩
      have S2 := Lib.hid (SW.out.next hb)
      clear hb SW l0 l1 l2 m0 m1 m2 m3 m4 m5 m6 m7 m8 x2 x3 x8 y2 y3 f2 f3 g2 g3
      have m0 := S2.out.lays.2.2.1.r0
      have m1 := S2.out.lays.2.2.1.r1
      have m2 := S2.out.lays.2.2.1.r2
      have m3 := S2.out.lays.2.2.1.r3
      have m4 := S2.out.lays.2.2.1.r4
      have m5 := S2.out.lays.2.2.1.r5
      have m6 := S2.out.lays.2.2.1.r6
      have m7 := S2.out.lays.2.2.1.r7
      have m8 := S2.out.lays.2.2.1.r8
      have f0 := S2.out.lays.2.2.1.free 0
      have f1 := S2.out.lays.2.2.1.free 1
      have f2 := S2.out.lays.2.2.1.free 2
      have f3 := S2.out.lays.2.2.1.free 3
      have f4 := S2.out.lays.2.2.1.free 4
      have f5 := S2.out.lays.2.2.1.free 5
      have f6 := S2.out.lays.2.2.1.free 6
      have f7 := S2.out.lays.2.2.1.free 7
      have f8 := S2.out.lays.2.2.1.free 8
      simp only at m0 m1 m2 m3 m4 m5 m6 m7 m8
      have l2 := S2.out.lays.2.2.1.lt
      have S3 : Hid (Mem w (((((((((w1.setCell ⟨N, 0, none⟩ (.int .i64 d.1)).setCell ⟨N, 1, none⟩ (.int .i64 d.2)).setCell ⟨N, 2, none⟩ (.int .i64 zP.1)).setCell ⟨N, 3, none⟩ (.int .i64 zP.2)).setCell ⟨N, 4, none⟩ (.int .i64 zP.1)).setCell ⟨N, 5, none⟩ (.int .i64 zP.2)).setCell ⟨N, 6, none⟩ (.int .i64 zP.1)).setCell ⟨N, 7, none⟩ (.int .i64 zP.2)).setCell ⟨N, 8, none⟩ (.int .i64 1)) [(N + 2, 112, (Ro.mk zP b r zP 3).cells), (N + 1, 112, (Ro.mk p a zP zP 3).cells), (N, 112, (Ro.mk d zP zP zP 1).cells)]) := ⟨HNN.out.symm ▸ below_nine (g := N) (HNN.out ▸ S2.out.below) (Nat.le_refl _) _ _ _ _ _ _ _ _ _, S2.out.lays.1.other9 (by dsimp only; omega) _ _ _ _ _ _ _ _ _, S2.out.lays.2.1.other9 (by dsimp only; omega) _ _ _ _ _ _ _ _ _, S2.out.lays.2.2.1.set9 (Ro.mk d zP zP zP 1), trivial⟩
      have e1 := hw.out.lays.2.2.1.r8
      have e2 := S3.out.lays.2.2.1.r8
      have E1 := Lib.hid e1; have E2 := Lib.hid e2
      clear e1 e2
      go_wp2_with fail
      exact ⟨⟨2, by omega, .inr (.inr (.inl (⟨rfl, S3⟩)))⟩, by have e1 := E1.out; have e2 := E2.out; simp only [e1, e2, Option.getD_some, intOf]; decide⟩
    · have m0 := hw.out.lays.2.2.1.r0
      have m1 := hw.out.lays.2.2.1.r1
      have m2 := hw.out.lays.2.2.1.r2
      have m3 := hw.out.lays.2.2.1.r3
      have m4 := hw.out.lays.2.2.1.r4
      have m5 := hw.out.lays.2.2.1.r5
      have m6 := hw.out.lays.2.2.1.r6
      have m7 := hw.out.lays.2.2.1.r7
      have m8 := hw.out.lays.2.2.1.r8
      have x4 := hw.out.lays.2.1.r4
      have x5 := hw.out.lays.2.1.r5
      have x8 := hw.out.lays.2.1.r8
      have y0 := hw.out.lays.1.r0
      have y1 := hw.out.lays.1.r1
      have f4 := hw.out.lays.2.1.free 4
      have f5 := hw.out.lays.2.1.free 5
      have g0 := hw.out.lays.1.free 0
      have g1 := hw.out.lays.1.free 1
      simp only at m0 m1 m2 m3 m4 m5 m6 m7 m8 x4 x5 x8 y0 y1
      have l0 := hw.out.lays.1.lt
      have l1 := hw.out.lays.2.1.lt
      have l2 := hw.out.lays.2.2.1.lt
      have SW : Hid (Mem w ((((wr.setCell ⟨N + 1, 4, none⟩ (.int .i64 d.1)).setCell ⟨N + 1, 5, none⟩ (.int .i64 d.2)).setCell ⟨N + 2, 0, none⟩ (.int .i64 d.1)).setCell ⟨N + 2, 1, none⟩ (.int .i64 d.2)) [(N + 2, 112, (Ro.mk d b r zP 3).cells), (N + 1, 112, (Ro.mk p a d zP 3).cells), (N, 112, (Ro.mk d zP zP zP 1).cells)]) := ⟨HNN.out.symm ▸ below_cell2 (g := N + 2) (below_cell2 (g := N + 1) (HNN.out ▸ hw.out.below) (by omega) _ _ _ _) (by omega) _ _ _ _, ((hw.out.lays.1.other2 (g' := N + 1) (by dsimp only; omega) _ _ _ _).put 0 _ (Ro.mk (d.1, zP.2) b r zP 3).cells rfl).put 1 _ _ rfl, (((hw.out.lays.2.1.put 4 _ (Ro.mk p a (d.1, zP.2) zP 3).cells rfl).put 5 _ (Ro.mk p a d zP 3).cells rfl).other2 (g' := N + 2) (by dsimp only; omega) _ _ _ _), (hw.out.lays.2.2.1.other2 (g' := N + 1) (by dsimp only; omega) _ _ _ _).other2 (g' := N + 2) (by dsimp only; omega) _ _ _ _, trivial⟩
      go_wp2_with fail
      refine (HR2.out _).mono ?_
      rintro e w1 ⟨rfl, hb⟩
      have S2 := Lib.hid (SW.out.next hb)
      clear hb SW l0 l1 l2 m0 m1 m2 m3 m4 m5 m6 m7 m8 x4 x5 x8 y0 y1 f4 f5 g0 g1
      have m0 := S2.out.lays.2.2.1.r0
      have m1 := S2.out.lays.2.2.1.r1
      have m2 := S2.out.lays.2.2.1.r2
      have m3 := S2.out.lays.2.2.1.r3
      have m4 := S2.out.lays.2.2.1.r4
      have m5 := S2.out.lays.2.2.1.r5
      have m6 := S2.out.lays.2.2.1.r6
      have m7 := S2.out.lays.2.2.1.r7
      have m8 := S2.out.lays.2.2.1.r8
      have f0 := S2.out.lays.2.2.1.free 0
      have f1 := S2.out.lays.2.2.1.free 1
      have f2 := S2.out.lays.2.2.1.free 2
      have f3 := S2.out.lays.2.2.1.free 3
      have f4 := S2.out.lays.2.2.1.free 4
      have f5 := S2.out.lays.2.2.1.free 5
      have f6 := S2.out.lays.2.2.1.free 6
      have f7 := S2.out.lays.2.2.1.free 7
      have f8 := S2.out.lays.2.2.1.free 8
      simp only at m0 m1 m2 m3 m4 m5 m6 m7 m8
      have l2 := S2.out.lays.2.2.1.lt
      have S3 : Hid (Mem w (((((((((w1.setCell ⟨N, 0, none⟩ (.int .i64 zP.1)).setCell ⟨N, 1, none⟩ (.int .i64 zP.2)).setCell ⟨N, 2, none⟩ (.int .i64 zP.1)).setCell ⟨N, 3, none⟩ (.int .i64 zP.2)).setCell ⟨N, 4, none⟩ (.int .i64 zP.1)).setCell ⟨N, 5, none⟩ (.int .i64 zP.2)).setCell ⟨N, 6, none⟩ (.int .i64 zP.1)).setCell ⟨N, 7, none⟩ (.int .i64 zP.2)).setCell ⟨N, 8, none⟩ (.int .i64 0)) [(N + 2, 112, (Ro.mk d b r zP 3).cells), (N + 1, 112, (Ro.mk p a d zP 3).cells), (N, 112, (Ro.mk zP zP zP zP 0).cells)]) := ⟨HNN.out.symm ▸ below_nine (g := N) (HNN.out ▸ S2.out.below) (Nat.le_refl _) _ _ _ _ _ _ _ _ _, S2.out.lays.1.other9 (by dsimp only; omega) _ _ _ _ _ _ _ _ _, S2.out.lays.2.1.other9 (by dsimp only; omega) _ _ _ _ _ _ _ _ _, S2.out.lays.2.2.1.set9 (Ro.mk zP zP zP zP 0), trivial⟩
      have e1 := hw.out.lays.2.2.1.r8
      have e2 := S3.out.lays.2.2.1.r8
      have E1 := Lib.hid e1; have E2 := Lib.hid e2
      clear e1 e2
      go_wp2_with fail
      exact ⟨⟨3, by omega, .inr (.inr (.inr (⟨rfl, S3⟩)))⟩, by have e1 := E1.out; have e2 := E2.out; simp only [e1, e2, Option.getD_some, intOf]; decide⟩
    · have m8 := hw.out.lays.2.2.1.r8
      simp only at m8
      have x0 := hw.out.lays.2.1.r0
      have x1 := hw.out.lays.2.1.r1
      have x2 := hw.out.lays.2.1.r2
      have x3 := hw.out.lays.2.1.r3
      have x4 := hw.out.lays.2.1.r4
      have x5 := hw.out.lays.2.1.r5
      have x6 := hw.out.lays.2.1.r6
      have x7 := hw.out.lays.2.1.r7
      have x8 := hw.out.lays.2.1.r8
      have y0 := hw.out.lays.1.r0
      have y1 := hw.out.lays.1.r1
      have y2 := hw.out.lays.1.r2
      have y3 := hw.out.lays.1.r3
      have y4 := hw.out.lays.1.r4
      have y5 := hw.out.lays.1.r5
      have y6 := hw.out.lays.1.r6
      have y7 := hw.out.lays.1.r7
      have y8 := hw.out.lays.1.r8
      have f0 := hw.out.lays.2.1.free 0
      have f1 := hw.out.lays.2.1.free 1
      have f2 := hw.out.lays.2.1.free 2
      have f3 := hw.out.lays.2.1.free 3
      have f4 := hw.out.lays.2.1.free 4
      have f5 := hw.out.lays.2.1.free 5
      have f6 := hw.out.lays.2.1.free 6
      have f7 := hw.out.lays.2.1.free 7
      have f8 := hw.out.lays.2.1.free 8
      have g0 := hw.out.lays.1.free 0
      have g1 := hw.out.lays.1.free 1
      have g2 := hw.out.lays.1.free 2
      have g3 := hw.out.lays.1.free 3
      have g4 := hw.out.lays.1.free 4
      have g5 := hw.out.lays.1.free 5
      have g6 := hw.out.lays.1.free 6
      have g7 := hw.out.lays.1.free 7
      have g8 := hw.out.lays.1.free 8
      simp only at x0 x1 x2 x3 x4 x5 x6 x7 x8 y0 y1 y2 y3 y4 y5 y6 y7 y8
      have l0 := hw.out.lays.1.lt
      have l1 := hw.out.lays.2.1.lt
      go_wp2_with fail
      go_region
      go_wp2_with fail
      refine bodyPost_ret (results_row2 (g := N + 1) (k := N + 1 + 1) (x := Ro.mk p a d zP 3) (y := Ro.mk d b r zP 3) 2 3 rfl rfl rfl (Blk.drew ?_) (Blk.drew ?_)) rfl ⟨rfl, below_drewN (w := _) ?_ 1⟩
      · exact (hw.out.lays.2.1.set9 (Ro.mk p a d zP 3)).other9 (g' := N + 1 + 1) (by dsimp only; omega) _ _ _ _ _ _ _ _ _
      · exact (hw.out.lays.1.other9 (g' := N + 1) (by dsimp only; omega) _ _ _ _ _ _ _ _ _).set9 (Ro.mk d b r zP 3)
      · exact below_nine (g := N + 1 + 1) (below_nine (g := N + 1) (HNN.out ▸ hw.out.below) (by omega) _ _ _ _ _ _ _ _ _) (by omega) _ _ _ _ _ _ _ _ _
end Go.Proofs.YtffgpikhahpomaaDoor

