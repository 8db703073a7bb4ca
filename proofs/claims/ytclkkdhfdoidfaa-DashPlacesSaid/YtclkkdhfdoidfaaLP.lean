/- Layer 9: the law DashPlaces. -/
import Derived.Test.YtclkkdhfdoidfaaDl
namespace Go.Proofs.Ytclkkdhfdoidfaa
open Go.RowKit
structure PlM (w : World) (a b : Pt) (A : World) : Prop where
  below : Below w.heap.size w A
  size : w.heap.size + 2 ≤ A.heap.size
  ba : Blk A w.heap.size 32 (two a)
  bb : Blk A (w.heap.size + 1) 32 (two b)
theorem PlM.grow {w A B : World} {a b : Pt} (h : PlM w a b A) (hb : Below A.heap.size A B) : PlM w a b B := ⟨h.below.trans (hb.mono h.below.size), Nat.le_trans h.size hb.size, h.ba.grow hb, h.bb.grow hb⟩
theorem PlM.start (w : World) (a b : Pt) : PlM w a b ((w.alloc (.cells #[.int .i64 a.1, .int .i64 a.2] 32)).alloc (.cells #[.int .i64 b.1, .int .i64 b.2] 32)) :=
  ⟨((Below.refl _ _).alloc (Nat.le_refl _) _).alloc (by simp) _, by simp, (Blk.new _ _ _).alloc _, Blk.newAt _ _ _ (by simp)⟩
set_option maxHeartbeats 4000000 in
set_option maxRecDepth 100000 in
theorem places_out (ax ay bx bY t n z f : Int) (ra rb : Bool) (w : World) (hab : (ra && rb) = false) (hn : n = 0) (hz : z = 30) (hf : f = 30)
    (HLEN : Hid (∀ w, Calls Try.prog 13 #[.agg #[.int .i64 ax, .int .i64 ay], .agg #[.int .i64 bx, .int .i64 bY]] w fun e w' => e = .returned (.tuple #[.int .i64 n, .int .i64 z]) ∧ Below w.heap.size w w'))
    (HPL : Hid (∀ w, Calls Try.prog 14 #[.agg #[.int .i64 ax, .int .i64 ay], .agg #[.int .i64 bx, .int .i64 bY], .int .i64 t] w fun e w' => e = .returned (.tuple #[.agg #[.int .i64 0, .int .i64 0], .int .i64 f]) ∧ Below w.heap.size w w'))
    (HIA : Hid (∀ w, Calls Try.prog 15 #[.agg #[.int .i64 ax, .int .i64 ay]] w fun e w' => e = .returned (.bool ra) ∧ Below w.heap.size w w'))
    (HIB : Hid (∀ w, Calls Try.prog 15 #[.agg #[.int .i64 bx, .int .i64 bY]] w fun e w' => e = .returned (.bool rb) ∧ Below w.heap.size w w')) :
    Calls Try.prog 4 #[.agg #[.int .i64 ax, .int .i64 ay], .agg #[.int .i64 bx, .int .i64 bY], .int .i64 t] w fun e w' => e = .returned (.bool true) ∧ Below w.heap.size w w' := by
  subst hn hz hf
  have HAW := Lib.hid awake_c
  have HRF := Lib.hid (fun x y W => ref1_c x y W)
  have M0 := Lib.hid (PlM.start w (ax, ay) (bx, bY))
  obtain ⟨w0, hw0⟩ : ∃ X, (w.alloc (.cells #[.int .i64 ax, .int .i64 ay] 32)).alloc (.cells #[.int .i64 bx, .int .i64 bY] 32) = X := ⟨_, rfl⟩
  have HW0 := Lib.hid hw0
  rw [show (w.alloc (.cells #[.int .i64 (ax, ay).1, .int .i64 (ax, ay).2] 32)).alloc (.cells #[.int .i64 (bx, bY).1, .int .i64 (bx, bY).2] 32) = w0 from hw0] at M0
  clear hw0
  have a0 := M0.out.ba.p0
  have a1 := M0.out.ba.p1
  have b0 := M0.out.bb.p0
  have b1 := M0.out.bb.p1
  go_enter Try.func4, Try.ntmps4
  go_wp2_with fail
  rw [HW0.out]
  refine (HLEN.out _).mono ?_
  rintro e w1 ⟨rfl, hb⟩
  have M1 := Lib.hid (M0.out.grow hb)
  clear hb a0 a1 b0 b1
  have a0 := M1.out.ba.p0
  have a1 := M1.out.ba.p1
  have b0 := M1.out.bb.p0
  have b1 := M1.out.bb.p1
  go_wp2_with fail
  refine (HPL.out _).mono ?_
  rintro e w2 ⟨rfl, hb⟩
  have M2 := Lib.hid (M1.out.grow hb)
  clear hb a0 a1 b0 b1
  obtain ⟨w3, hw3⟩ : ∃ X, w2.alloc (.cells #[.int .i64 0, .int .i64 0] 32) = X := ⟨_, rfl⟩
  have hb3 : Below w2.heap.size w2 w3 := by rw [← hw3]; exact (Below.refl _ _).alloc (Nat.le_refl _) _
  have M3 : Hid (PlM w (ax, ay) (bx, bY) w3 ∧ Blk w3 w2.heap.size 32 (two (0, 0))) := ⟨M2.out.grow hb3, by rw [← hw3]; exact Blk.new _ _ _⟩
  have HW3 := Lib.hid hw3
  clear hb3 hw3
  have a0 : w3.cell? ⟨w.heap.size, 0, none⟩ = some (.int .i64 ax) := M3.out.1.ba.p0
  have a1 : w3.cell? ⟨w.heap.size, 1, none⟩ = some (.int .i64 ay) := M3.out.1.ba.p1
  have A0 := Lib.hid a0; have A1 := Lib.hid a1
  rw [← HW3.out] at a0 a1
  go_wp2_with fail
  rw [HW3.out]
  clear a0 a1
  refine (HIA.out _).mono ?_
  rintro e w4 ⟨rfl, hb⟩
  have M4 : Hid (PlM w (ax, ay) (bx, bY) w4 ∧ Blk w4 w2.heap.size 32 (two (0, 0))) := ⟨M3.out.1.grow hb, M3.out.2.grow hb⟩
  clear hb
  have b0 := M4.out.1.bb.p0
  have b1 := M4.out.1.bb.p1
  have p0 := M4.out.2.p0
  have p1 := M4.out.2.p1
  cases ra
  · clear b0 b1
    go_wp2_with fail
    refine (HAW.out _).mono ?_
    rintro e wz ⟨rfl, hb⟩
    have BZ : Hid (Below w.heap.size w wz) := M4.out.1.below.trans (hb.mono M4.out.1.below.size)
    clear hb
    go_wp2_with fail
    go_ret
    exact ⟨rfl, BZ.out⟩
  · obtain rfl : rb = false := by simpa using hab
    go_wp2_with fail
    refine (HIB.out _).mono ?_
    rintro e w5 ⟨rfl, hb⟩
    have M5 : Hid (PlM w (ax, ay) (bx, bY) w5 ∧ Blk w5 w2.heap.size 32 (two (0, 0))) := ⟨M4.out.1.grow hb, M4.out.2.grow hb⟩
    clear hb b0 b1 p0 p1
    have p0 := M5.out.2.p0
    have p1 := M5.out.2.p1
    go_wp2_with fail
    refine (HAW.out _).mono ?_
    rintro e wz ⟨rfl, hb⟩
    have BZ : Hid (Below w.heap.size w wz) := M5.out.1.below.trans (hb.mono M5.out.1.below.size)
    clear hb
    go_wp2_with fail
    go_ret
    exact ⟨rfl, BZ.out⟩
set_option maxHeartbeats 4000000 in
set_option maxRecDepth 100000 in
theorem places_long (ax ay bx bY t n z f : Int) (ra rb : Bool) (w : World) (ha : ra = true) (hb : rb = true) (hn : n = 0) (hz : z = 10) (hf : f = 10)
    (HLEN : Hid (∀ w, Calls Try.prog 13 #[.agg #[.int .i64 ax, .int .i64 ay], .agg #[.int .i64 bx, .int .i64 bY]] w fun e w' => e = .returned (.tuple #[.int .i64 n, .int .i64 z]) ∧ Below w.heap.size w w'))
    (HPL : Hid (∀ w, Calls Try.prog 14 #[.agg #[.int .i64 ax, .int .i64 ay], .agg #[.int .i64 bx, .int .i64 bY], .int .i64 t] w fun e w' => e = .returned (.tuple #[.agg #[.int .i64 0, .int .i64 0], .int .i64 f]) ∧ Below w.heap.size w w'))
    (HIA : Hid (∀ w, Calls Try.prog 15 #[.agg #[.int .i64 ax, .int .i64 ay]] w fun e w' => e = .returned (.bool ra) ∧ Below w.heap.size w w'))
    (HIB : Hid (∀ w, Calls Try.prog 15 #[.agg #[.int .i64 bx, .int .i64 bY]] w fun e w' => e = .returned (.bool rb) ∧ Below w.heap.size w w'))
    (HLG : Hid (∀ w, Calls Try.prog 16 #[.agg #[.int .i64 ax, .int .i64 ay], .agg #[.int .i64 bx, .int .i64 bY]] w fun e w' => e = .returned (.bool true) ∧ Below w.heap.size w w')) :
    Calls Try.prog 4 #[.agg #[.int .i64 ax, .int .i64 ay], .agg #[.int .i64 bx, .int .i64 bY], .int .i64 t] w fun e w' => e = .returned (.bool true) ∧ Below w.heap.size w w' := by
  subst hn hz hf ha hb
  have HAW := Lib.hid awake_c
  have HRF := Lib.hid (fun x y W => ref1_c x y W)
  have M0 := Lib.hid (PlM.start w (ax, ay) (bx, bY))
  obtain ⟨w0, hw0⟩ : ∃ X, (w.alloc (.cells #[.int .i64 ax, .int .i64 ay] 32)).alloc (.cells #[.int .i64 bx, .int .i64 bY] 32) = X := ⟨_, rfl⟩
  have HW0 := Lib.hid hw0
  rw [show (w.alloc (.cells #[.int .i64 (ax, ay).1, .int .i64 (ax, ay).2] 32)).alloc (.cells #[.int .i64 (bx, bY).1, .int .i64 (bx, bY).2] 32) = w0 from hw0] at M0
  clear hw0
  have a0 := M0.out.ba.p0
  have a1 := M0.out.ba.p1
  have b0 := M0.out.bb.p0
  have b1 := M0.out.bb.p1
  go_enter Try.func4, Try.ntmps4
  go_wp2_with fail
  rw [HW0.out]
  refine (HLEN.out _).mono ?_
  rintro e w1 ⟨rfl, hb⟩
  have M1 := Lib.hid (M0.out.grow hb)
  clear hb a0 a1 b0 b1
  have a0 := M1.out.ba.p0
  have a1 := M1.out.ba.p1
  have b0 := M1.out.bb.p0
  have b1 := M1.out.bb.p1
  go_wp2_with fail
  refine (HPL.out _).mono ?_
  rintro e w2 ⟨rfl, hb⟩
  have M2 := Lib.hid (M1.out.grow hb)
  clear hb a0 a1 b0 b1
  obtain ⟨w3, hw3⟩ : ∃ X, w2.alloc (.cells #[.int .i64 0, .int .i64 0] 32) = X := ⟨_, rfl⟩
  have hb3 : Below w2.heap.size w2 w3 := by rw [← hw3]; exact (Below.refl _ _).alloc (Nat.le_refl _) _
  have M3 : Hid (PlM w (ax, ay) (bx, bY) w3 ∧ Blk w3 w2.heap.size 32 (two (0, 0))) := ⟨M2.out.grow hb3, by rw [← hw3]; exact Blk.new _ _ _⟩
  have HW3 := Lib.hid hw3
  clear hb3 hw3
  have a0 : w3.cell? ⟨w.heap.size, 0, none⟩ = some (.int .i64 ax) := M3.out.1.ba.p0
  have a1 : w3.cell? ⟨w.heap.size, 1, none⟩ = some (.int .i64 ay) := M3.out.1.ba.p1
  have A0 := Lib.hid a0; have A1 := Lib.hid a1
  rw [← HW3.out] at a0 a1
  go_wp2_with fail
  rw [HW3.out]
  clear a0 a1
  refine (HIA.out _).mono ?_
  rintro e w4 ⟨rfl, hb⟩
  have M4 : Hid (PlM w (ax, ay) (bx, bY) w4 ∧ Blk w4 w2.heap.size 32 (two (0, 0))) := ⟨M3.out.1.grow hb, M3.out.2.grow hb⟩
  clear hb
  have b0 := M4.out.1.bb.p0
  have b1 := M4.out.1.bb.p1
  have p0 := M4.out.2.p0
  have p1 := M4.out.2.p1
  go_wp2_with fail
  refine (HIB.out _).mono ?_
  rintro e w5 ⟨rfl, hb⟩
  have M5 : Hid (PlM w (ax, ay) (bx, bY) w5 ∧ Blk w5 w2.heap.size 32 (two (0, 0))) := ⟨M4.out.1.grow hb, M4.out.2.grow hb⟩
  clear hb b0 b1 p0 p1
  have p0 := M5.out.2.p0
  have p1 := M5.out.2.p1
  clear p0 p1
  go_wp2_with fail
  refine wp_region_quiet (C := Out w5) (by kernel_rfl) (by kernel_rfl) ⟨rfl, rfl, rfl, Nat.le_refl _, fun _ _ => rfl⟩ ?_
  refine BigFrame.wpQuiet_want rfl (fun K hK => ?_)
  refine quiet_val (.agg #[.int .i64 ax, .int .i64 ay]) (fun w' hw' => by have kk := M5.out.1.ba.grow hw'; have x0 := kk.p0; have x1 := kk.p1; clear kk; go_simp) (hK _ ?_)
  clear hK K
  simp only [Act.put, List.setIfInBounds_toArray, List.set_cons_zero, List.set_cons_succ]
  refine BigFrame.wpQuiet_want rfl (fun K hK => ?_)
  refine quiet_call 17 #[.agg #[.int .i64 ax, .int .i64 ay]] (.agg #[.int .i64 ax, .int .i64 ay]) (fun w' _ => by go_simp) (fun w' hw' => Calls.out hw' (HRF.out ax ay w')) (hK _ ?_)
  clear hK K
  simp only [Act.put, List.setIfInBounds_toArray, List.set_cons_zero, List.set_cons_succ]
  refine BigFrame.wpQuiet_want rfl (fun K hK => ?_)
  refine quiet_val (.agg #[.int .i64 bx, .int .i64 bY]) (fun w' hw' => by have kk := M5.out.1.bb.grow hw'; have x0 := kk.p0; have x1 := kk.p1; clear kk; go_simp) (hK _ ?_)
  clear hK K
  simp only [Act.put, List.setIfInBounds_toArray, List.set_cons_zero, List.set_cons_succ]
  refine BigFrame.wpQuiet_want rfl (fun K hK => ?_)
  refine quiet_call 17 #[.agg #[.int .i64 bx, .int .i64 bY]] (.agg #[.int .i64 bx, .int .i64 bY]) (fun w' _ => by go_simp) (fun w' hw' => Calls.out hw' (HRF.out bx bY w')) (hK _ ?_)
  clear hK K
  simp only [Act.put, List.setIfInBounds_toArray, List.set_cons_zero, List.set_cons_succ]
  refine BigFrame.wpQuiet_want rfl (fun K hK => ?_)
  refine quiet_call 16 #[.agg #[.int .i64 ax, .int .i64 ay], .agg #[.int .i64 bx, .int .i64 bY]] (.bool true) (fun w' _ => by go_simp) (fun w' hw' => Calls.out hw' (HLG.out w')) (hK _ ?_)
  clear hK K
  simp only [Act.put, List.setIfInBounds_toArray, List.set_cons_zero, List.set_cons_succ]
  refine BigFrame.wpQuiet_want rfl (fun K hK => ?_)
  refine quiet_val (.bool true) (fun w' hw' => by go_simp) (hK _ ?_)
  clear hK K
  simp only [Act.put, List.setIfInBounds_toArray, List.set_cons_zero, List.set_cons_succ]
  refine wpQuiet_nil ?_
  intro w6 hb
  have M6 : Hid (PlM w (ax, ay) (bx, bY) w6 ∧ Blk w6 w2.heap.size 32 (two (0, 0))) := ⟨M5.out.1.grow hb, M5.out.2.grow hb⟩
  clear hb
  have p0 := M6.out.2.p0
  have p1 := M6.out.2.p1
  go_wp2_with fail
  refine (HAW.out _).mono ?_
  rintro e wz ⟨rfl, hb⟩
  have BZ : Hid (Below w.heap.size w wz) := M6.out.1.below.trans (hb.mono M6.out.1.below.size)
  clear hb
  go_wp2_with fail
  go_ret
  exact ⟨rfl, BZ.out⟩
set_option maxHeartbeats 4000000 in
set_option maxRecDepth 100000 in
theorem places_off (ax ay bx bY t n z f : Int) (ra rb : Bool) (w : World) (ha : ra = true) (hb : rb = true) (hz : z = 0) (hf : f = 30) (ht : n = 0 ∨ t < 0 ∨ n < t)
    (HLEN : Hid (∀ w, Calls Try.prog 13 #[.agg #[.int .i64 ax, .int .i64 ay], .agg #[.int .i64 bx, .int .i64 bY]] w fun e w' => e = .returned (.tuple #[.int .i64 n, .int .i64 z]) ∧ Below w.heap.size w w'))
    (HPL : Hid (∀ w, Calls Try.prog 14 #[.agg #[.int .i64 ax, .int .i64 ay], .agg #[.int .i64 bx, .int .i64 bY], .int .i64 t] w fun e w' => e = .returned (.tuple #[.agg #[.int .i64 0, .int .i64 0], .int .i64 f]) ∧ Below w.heap.size w w'))
    (HIA : Hid (∀ w, Calls Try.prog 15 #[.agg #[.int .i64 ax, .int .i64 ay]] w fun e w' => e = .returned (.bool ra) ∧ Below w.heap.size w w'))
    (HIB : Hid (∀ w, Calls Try.prog 15 #[.agg #[.int .i64 bx, .int .i64 bY]] w fun e w' => e = .returned (.bool rb) ∧ Below w.heap.size w w'))
    (HLG : Hid (∀ w, Calls Try.prog 16 #[.agg #[.int .i64 ax, .int .i64 ay], .agg #[.int .i64 bx, .int .i64 bY]] w fun e w' => e = .returned (.bool false) ∧ Below w.heap.size w w'))
    (HRL : Hid (∀ w, Calls Try.prog 18 #[.agg #[.int .i64 ax, .int .i64 ay], .agg #[.int .i64 bx, .int .i64 bY]] w fun e w' => e = .returned (.int .i64 n) ∧ Below w.heap.size w w')) :
    Calls Try.prog 4 #[.agg #[.int .i64 ax, .int .i64 ay], .agg #[.int .i64 bx, .int .i64 bY], .int .i64 t] w fun e w' => e = .returned (.bool true) ∧ Below w.heap.size w w' := by
  subst hz hf ha hb
  have HAW := Lib.hid awake_c
  have HRF := Lib.hid (fun x y W => ref1_c x y W)
  have M0 := Lib.hid (PlM.start w (ax, ay) (bx, bY))
  obtain ⟨w0, hw0⟩ : ∃ X, (w.alloc (.cells #[.int .i64 ax, .int .i64 ay] 32)).alloc (.cells #[.int .i64 bx, .int .i64 bY] 32) = X := ⟨_, rfl⟩
  have HW0 := Lib.hid hw0
  rw [show (w.alloc (.cells #[.int .i64 (ax, ay).1, .int .i64 (ax, ay).2] 32)).alloc (.cells #[.int .i64 (bx, bY).1, .int .i64 (bx, bY).2] 32) = w0 from hw0] at M0
  clear hw0
  have a0 := M0.out.ba.p0
  have a1 := M0.out.ba.p1
  have b0 := M0.out.bb.p0
  have b1 := M0.out.bb.p1
  go_enter Try.func4, Try.ntmps4
  go_wp2_with fail
  rw [HW0.out]
  refine (HLEN.out _).mono ?_
  rintro e w1 ⟨rfl, hb⟩
  have M1 := Lib.hid (M0.out.grow hb)
  clear hb a0 a1 b0 b1
  have a0 := M1.out.ba.p0
  have a1 := M1.out.ba.p1
  have b0 := M1.out.bb.p0
  have b1 := M1.out.bb.p1
  go_wp2_with fail
  refine (HPL.out _).mono ?_
  rintro e w2 ⟨rfl, hb⟩
  have M2 := Lib.hid (M1.out.grow hb)
  clear hb a0 a1 b0 b1
  obtain ⟨w3, hw3⟩ : ∃ X, w2.alloc (.cells #[.int .i64 0, .int .i64 0] 32) = X := ⟨_, rfl⟩
  have hb3 : Below w2.heap.size w2 w3 := by rw [← hw3]; exact (Below.refl _ _).alloc (Nat.le_refl _) _
  have M3 : Hid (PlM w (ax, ay) (bx, bY) w3 ∧ Blk w3 w2.heap.size 32 (two (0, 0))) := ⟨M2.out.grow hb3, by rw [← hw3]; exact Blk.new _ _ _⟩
  have HW3 := Lib.hid hw3
  clear hb3 hw3
  have a0 : w3.cell? ⟨w.heap.size, 0, none⟩ = some (.int .i64 ax) := M3.out.1.ba.p0
  have a1 : w3.cell? ⟨w.heap.size, 1, none⟩ = some (.int .i64 ay) := M3.out.1.ba.p1
  have A0 := Lib.hid a0; have A1 := Lib.hid a1
  rw [← HW3.out] at a0 a1
  go_wp2_with fail
  rw [HW3.out]
  clear a0 a1
  refine (HIA.out _).mono ?_
  rintro e w4 ⟨rfl, hb⟩
  have M4 : Hid (PlM w (ax, ay) (bx, bY) w4 ∧ Blk w4 w2.heap.size 32 (two (0, 0))) := ⟨M3.out.1.grow hb, M3.out.2.grow hb⟩
  clear hb
  have b0 := M4.out.1.bb.p0
  have b1 := M4.out.1.bb.p1
  have p0 := M4.out.2.p0
  have p1 := M4.out.2.p1
  go_wp2_with fail
  refine (HIB.out _).mono ?_
  rintro e w5 ⟨rfl, hb⟩
  have M5 : Hid (PlM w (ax, ay) (bx, bY) w5 ∧ Blk w5 w2.heap.size 32 (two (0, 0))) := ⟨M4.out.1.grow hb, M4.out.2.grow hb⟩
  clear hb b0 b1 p0 p1
  have p0 := M5.out.2.p0
  have p1 := M5.out.2.p1
  clear p0 p1
  go_wp2_with fail
  refine wp_region_quiet (C := Out w5) (by kernel_rfl) (by kernel_rfl) ⟨rfl, rfl, rfl, Nat.le_refl _, fun _ _ => rfl⟩ ?_
  refine BigFrame.wpQuiet_want rfl (fun K hK => ?_)
  refine quiet_val (.agg #[.int .i64 ax, .int .i64 ay]) (fun w' hw' => by have kk := M5.out.1.ba.grow hw'; have x0 := kk.p0; have x1 := kk.p1; clear kk; go_simp) (hK _ ?_)
  clear hK K
  simp only [Act.put, List.setIfInBounds_toArray, List.set_cons_zero, List.set_cons_succ]
  refine BigFrame.wpQuiet_want rfl (fun K hK => ?_)
  refine quiet_call 17 #[.agg #[.int .i64 ax, .int .i64 ay]] (.agg #[.int .i64 ax, .int .i64 ay]) (fun w' _ => by go_simp) (fun w' hw' => Calls.out hw' (HRF.out ax ay w')) (hK _ ?_)
  clear hK K
  simp only [Act.put, List.setIfInBounds_toArray, List.set_cons_zero, List.set_cons_succ]
  refine BigFrame.wpQuiet_want rfl (fun K hK => ?_)
  refine quiet_val (.agg #[.int .i64 bx, .int .i64 bY]) (fun w' hw' => by have kk := M5.out.1.bb.grow hw'; have x0 := kk.p0; have x1 := kk.p1; clear kk; go_simp) (hK _ ?_)
  clear hK K
  simp only [Act.put, List.setIfInBounds_toArray, List.set_cons_zero, List.set_cons_succ]
  refine BigFrame.wpQuiet_want rfl (fun K hK => ?_)
  refine quiet_call 17 #[.agg #[.int .i64 bx, .int .i64 bY]] (.agg #[.int .i64 bx, .int .i64 bY]) (fun w' _ => by go_simp) (fun w' hw' => Calls.out hw' (HRF.out bx bY w')) (hK _ ?_)
  clear hK K
  simp only [Act.put, List.setIfInBounds_toArray, List.set_cons_zero, List.set_cons_succ]
  refine BigFrame.wpQuiet_want rfl (fun K hK => ?_)
  refine quiet_call 16 #[.agg #[.int .i64 ax, .int .i64 ay], .agg #[.int .i64 bx, .int .i64 bY]] (.bool false) (fun w' _ => by go_simp) (fun w' hw' => Calls.out hw' (HLG.out w')) (hK _ ?_)
  clear hK K
  simp only [Act.put, List.setIfInBounds_toArray, List.set_cons_zero, List.set_cons_succ]
  refine BigFrame.wpQuiet_want rfl (fun K hK => ?_)
  refine quiet_val (.bool false) (fun w' hw' => by go_simp) (hK _ ?_)
  clear hK K
  simp only [Act.put, List.setIfInBounds_toArray, List.set_cons_zero, List.set_cons_succ]
  refine wpQuiet_nil ?_
  intro w6 hb
  have M6 : Hid (PlM w (ax, ay) (bx, bY) w6 ∧ Blk w6 w2.heap.size 32 (two (0, 0))) := ⟨M5.out.1.grow hb, M5.out.2.grow hb⟩
  clear hb
  have p0 := M6.out.2.p0
  have p1 := M6.out.2.p1
  clear p0 p1
  go_wp2_with fail
  refine wp_region_quiet (C := Out w6) (by kernel_rfl) (by kernel_rfl) ⟨rfl, rfl, rfl, Nat.le_refl _, fun _ _ => rfl⟩ ?_
  refine BigFrame.wpQuiet_want rfl (fun K hK => ?_)
  refine quiet_val (.int .i64 0) (fun w' hw' => by go_simp) (hK _ ?_)
  clear hK K
  simp only [Act.put, List.setIfInBounds_toArray, List.set_cons_zero, List.set_cons_succ]
  refine BigFrame.wpQuiet_want rfl (fun K hK => ?_)
  refine quiet_val (.bool false) (fun w' hw' => by go_simp) (hK _ ?_)
  clear hK K
  simp only [Act.put, List.setIfInBounds_toArray, List.set_cons_zero, List.set_cons_succ]
  refine BigFrame.wpQuiet_want rfl (fun K hK => ?_)
  refine quiet_val (.bool false) (fun w' hw' => by go_simp) (hK _ ?_)
  clear hK K
  simp only [Act.put, List.setIfInBounds_toArray, List.set_cons_zero, List.set_cons_succ]
  refine BigFrame.wpQuiet_want rfl (fun K hK => ?_)
  refine quiet_val (.int .i64 n) (fun w' hw' => by go_simp) (hK _ ?_)
  clear hK K
  simp only [Act.put, List.setIfInBounds_toArray, List.set_cons_zero, List.set_cons_succ]
  refine BigFrame.wpQuiet_want rfl (fun K hK => ?_)
  refine quiet_val (.agg #[.int .i64 ax, .int .i64 ay]) (fun w' hw' => by have kk := M6.out.1.ba.grow hw'; have x0 := kk.p0; have x1 := kk.p1; clear kk; go_simp) (hK _ ?_)
  clear hK K
  simp only [Act.put, List.setIfInBounds_toArray, List.set_cons_zero, List.set_cons_succ]
  refine BigFrame.wpQuiet_want rfl (fun K hK => ?_)
  refine quiet_call 17 #[.agg #[.int .i64 ax, .int .i64 ay]] (.agg #[.int .i64 ax, .int .i64 ay]) (fun w' _ => by go_simp) (fun w' hw' => Calls.out hw' (HRF.out ax ay w')) (hK _ ?_)
  clear hK K
  simp only [Act.put, List.setIfInBounds_toArray, List.set_cons_zero, List.set_cons_succ]
  refine BigFrame.wpQuiet_want rfl (fun K hK => ?_)
  refine quiet_val (.agg #[.int .i64 bx, .int .i64 bY]) (fun w' hw' => by have kk := M6.out.1.bb.grow hw'; have x0 := kk.p0; have x1 := kk.p1; clear kk; go_simp) (hK _ ?_)
  clear hK K
  simp only [Act.put, List.setIfInBounds_toArray, List.set_cons_zero, List.set_cons_succ]
  refine BigFrame.wpQuiet_want rfl (fun K hK => ?_)
  refine quiet_call 17 #[.agg #[.int .i64 bx, .int .i64 bY]] (.agg #[.int .i64 bx, .int .i64 bY]) (fun w' _ => by go_simp) (fun w' hw' => Calls.out hw' (HRF.out bx bY w')) (hK _ ?_)
  clear hK K
  simp only [Act.put, List.setIfInBounds_toArray, List.set_cons_zero, List.set_cons_succ]
  refine BigFrame.wpQuiet_want rfl (fun K hK => ?_)
  refine quiet_call 18 #[.agg #[.int .i64 ax, .int .i64 ay], .agg #[.int .i64 bx, .int .i64 bY]] (.int .i64 n) (fun w' _ => by go_simp) (fun w' hw' => Calls.out hw' (HRL.out w')) (hK _ ?_)
  clear hK K
  simp only [Act.put, List.setIfInBounds_toArray, List.set_cons_zero, List.set_cons_succ]
  refine BigFrame.wpQuiet_want rfl (fun K hK => ?_)
  refine quiet_val (.bool false) (fun w' hw' => by go_simp) (hK _ ?_)
  clear hK K
  simp only [Act.put, List.setIfInBounds_toArray, List.set_cons_zero, List.set_cons_succ]
  refine BigFrame.wpQuiet_want rfl (fun K hK => ?_)
  refine quiet_val (.bool false) (fun w' hw' => by go_simp) (hK _ ?_)
  clear hK K
  simp only [Act.put, List.setIfInBounds_toArray, List.set_cons_zero, List.set_cons_succ]
  refine BigFrame.wpQuiet_want rfl (fun K hK => ?_)
  refine quiet_val (.bool false) (fun w' hw' => by go_simp) (hK _ ?_)
  clear hK K
  simp only [Act.put, List.setIfInBounds_toArray, List.set_cons_zero, List.set_cons_succ]
  refine wpQuiet_nil ?_
  intro w7 hb
  have M7 : Hid (PlM w (ax, ay) (bx, bY) w7 ∧ Blk w7 w2.heap.size 32 (two (0, 0))) := ⟨M6.out.1.grow hb, M6.out.2.grow hb⟩
  clear hb
  have p0 := M7.out.2.p0
  have p1 := M7.out.2.p1
  by_cases h0 : n = 0
  · subst h0
    go_wp2_with fail
    refine (HAW.out _).mono ?_
    rintro e wz ⟨rfl, hb⟩
    have BZ : Hid (Below w.heap.size w wz) := M7.out.1.below.trans (hb.mono M7.out.1.below.size)
    clear hb
    go_wp2_with fail
    go_ret
    exact ⟨rfl, BZ.out⟩
  · have d0 : (n == 0) = false := by simpa using h0
    have d1 : decide (n = 0) = false := by simpa using h0
    by_cases h1 : t < 0
    · have d2 : decide (t < 0) = true := by simpa using h1
      go_wp2_with fail
      refine (HAW.out _).mono ?_
      rintro e wz ⟨rfl, hb⟩
      have BZ : Hid (Below w.heap.size w wz) := M7.out.1.below.trans (hb.mono M7.out.1.below.size)
      clear hb
      go_wp2_with fail
      go_ret
      exact ⟨rfl, BZ.out⟩
    · have d2 : decide (t < 0) = false := by simpa using h1
      have d3 : decide (t > n) = true := by simp; omega
      go_wp2_with fail
      refine (HAW.out _).mono ?_
      rintro e wz ⟨rfl, hb⟩
      have BZ : Hid (Below w.heap.size w wz) := M7.out.1.below.trans (hb.mono M7.out.1.below.size)
      clear hb
      go_wp2_with fail
      go_ret
      exact ⟨rfl, BZ.out⟩
set_option maxHeartbeats 4000000 in
set_option maxRecDepth 100000 in
theorem places_ok (ax ay bx bY t n z px py f : Int) (ra rb : Bool) (w : World) (ha : ra = true) (hb : rb = true) (hz : z = 0) (hf : f = 0) (h0 : 1 ≤ n) (h1 : 0 ≤ t) (h2 : t ≤ n)
    (HLEN : Hid (∀ w, Calls Try.prog 13 #[.agg #[.int .i64 ax, .int .i64 ay], .agg #[.int .i64 bx, .int .i64 bY]] w fun e w' => e = .returned (.tuple #[.int .i64 n, .int .i64 z]) ∧ Below w.heap.size w w'))
    (HPL : Hid (∀ w, Calls Try.prog 14 #[.agg #[.int .i64 ax, .int .i64 ay], .agg #[.int .i64 bx, .int .i64 bY], .int .i64 t] w fun e w' => e = .returned (.tuple #[.agg #[.int .i64 px, .int .i64 py], .int .i64 f]) ∧ Below w.heap.size w w'))
    (HIA : Hid (∀ w, Calls Try.prog 15 #[.agg #[.int .i64 ax, .int .i64 ay]] w fun e w' => e = .returned (.bool ra) ∧ Below w.heap.size w w'))
    (HIB : Hid (∀ w, Calls Try.prog 15 #[.agg #[.int .i64 bx, .int .i64 bY]] w fun e w' => e = .returned (.bool rb) ∧ Below w.heap.size w w'))
    (HLG : Hid (∀ w, Calls Try.prog 16 #[.agg #[.int .i64 ax, .int .i64 ay], .agg #[.int .i64 bx, .int .i64 bY]] w fun e w' => e = .returned (.bool false) ∧ Below w.heap.size w w'))
    (HRL : Hid (∀ w, Calls Try.prog 18 #[.agg #[.int .i64 ax, .int .i64 ay], .agg #[.int .i64 bx, .int .i64 bY]] w fun e w' => e = .returned (.int .i64 n) ∧ Below w.heap.size w w'))
    (HRP : Hid (∀ w, Calls Try.prog 19 #[.agg #[.int .i64 ax, .int .i64 ay], .agg #[.int .i64 bx, .int .i64 bY], .int .i64 t, .int .i64 n] w fun e w' => e = .returned (.agg #[.int .i64 px, .int .i64 py]) ∧ Below w.heap.size w w'))
    (HP0 : Hid (∀ w, Calls Try.prog 14 #[.agg #[.int .i64 ax, .int .i64 ay], .agg #[.int .i64 bx, .int .i64 bY], .int .i64 0] w fun e w' => e = .returned (.tuple #[.agg #[.int .i64 ax, .int .i64 ay], .int .i64 0]) ∧ Below w.heap.size w w')) :
    Calls Try.prog 4 #[.agg #[.int .i64 ax, .int .i64 ay], .agg #[.int .i64 bx, .int .i64 bY], .int .i64 t] w fun e w' => e = .returned (.bool true) ∧ Below w.heap.size w w' := by
  subst hz hf ha hb
  have HAW := Lib.hid awake_c
  have HRF := Lib.hid (fun x y W => ref1_c x y W)
  have M0 := Lib.hid (PlM.start w (ax, ay) (bx, bY))
  obtain ⟨w0, hw0⟩ : ∃ X, (w.alloc (.cells #[.int .i64 ax, .int .i64 ay] 32)).alloc (.cells #[.int .i64 bx, .int .i64 bY] 32) = X := ⟨_, rfl⟩
  have HW0 := Lib.hid hw0
  rw [show (w.alloc (.cells #[.int .i64 (ax, ay).1, .int .i64 (ax, ay).2] 32)).alloc (.cells #[.int .i64 (bx, bY).1, .int .i64 (bx, bY).2] 32) = w0 from hw0] at M0
  clear hw0
  have a0 := M0.out.ba.p0
  have a1 := M0.out.ba.p1
  have b0 := M0.out.bb.p0
  have b1 := M0.out.bb.p1
  go_enter Try.func4, Try.ntmps4
  go_wp2_with fail
  rw [HW0.out]
  refine (HLEN.out _).mono ?_
  rintro e w1 ⟨rfl, hb⟩
  have M1 := Lib.hid (M0.out.grow hb)
  clear hb a0 a1 b0 b1
  have a0 := M1.out.ba.p0
  have a1 := M1.out.ba.p1
  have b0 := M1.out.bb.p0
  have b1 := M1.out.bb.p1
  go_wp2_with fail
  refine (HPL.out _).mono ?_
  rintro e w2 ⟨rfl, hb⟩
  have M2 := Lib.hid (M1.out.grow hb)
  clear hb a0 a1 b0 b1
  obtain ⟨w3, hw3⟩ : ∃ X, w2.alloc (.cells #[.int .i64 px, .int .i64 py] 32) = X := ⟨_, rfl⟩
  have hb3 : Below w2.heap.size w2 w3 := by rw [← hw3]; exact (Below.refl _ _).alloc (Nat.le_refl _) _
  have M3 : Hid (PlM w (ax, ay) (bx, bY) w3 ∧ Blk w3 w2.heap.size 32 (two (px, py))) := ⟨M2.out.grow hb3, by rw [← hw3]; exact Blk.new _ _ _⟩
  have HW3 := Lib.hid hw3
  clear hb3 hw3
  have a0 : w3.cell? ⟨w.heap.size, 0, none⟩ = some (.int .i64 ax) := M3.out.1.ba.p0
  have a1 : w3.cell? ⟨w.heap.size, 1, none⟩ = some (.int .i64 ay) := M3.out.1.ba.p1
  have A0 := Lib.hid a0; have A1 := Lib.hid a1
  rw [← HW3.out] at a0 a1
  go_wp2_with fail
  rw [HW3.out]
  clear a0 a1
  refine (HIA.out _).mono ?_
  rintro e w4 ⟨rfl, hb⟩
  have M4 : Hid (PlM w (ax, ay) (bx, bY) w4 ∧ Blk w4 w2.heap.size 32 (two (px, py))) := ⟨M3.out.1.grow hb, M3.out.2.grow hb⟩
  clear hb
  have b0 := M4.out.1.bb.p0
  have b1 := M4.out.1.bb.p1
  have p0 := M4.out.2.p0
  have p1 := M4.out.2.p1
  go_wp2_with fail
  refine (HIB.out _).mono ?_
  rintro e w5 ⟨rfl, hb⟩
  have M5 : Hid (PlM w (ax, ay) (bx, bY) w5 ∧ Blk w5 w2.heap.size 32 (two (px, py))) := ⟨M4.out.1.grow hb, M4.out.2.grow hb⟩
  clear hb b0 b1 p0 p1
  have p0 := M5.out.2.p0
  have p1 := M5.out.2.p1
  clear p0 p1
  go_wp2_with fail
  refine wp_region_quiet (C := Out w5) (by kernel_rfl) (by kernel_rfl) ⟨rfl, rfl, rfl, Nat.le_refl _, fun _ _ => rfl⟩ ?_
  refine BigFrame.wpQuiet_want rfl (fun K hK => ?_)
  refine quiet_val (.agg #[.int .i64 ax, .int .i64 ay]) (fun w' hw' => by have kk := M5.out.1.ba.grow hw'; have x0 := kk.p0; have x1 := kk.p1; clear kk; go_simp) (hK _ ?_)
  clear hK K
  simp only [Act.put, List.setIfInBounds_toArray, List.set_cons_zero, List.set_cons_succ]
  refine BigFrame.wpQuiet_want rfl (fun K hK => ?_)
  refine quiet_call 17 #[.agg #[.int .i64 ax, .int .i64 ay]] (.agg #[.int .i64 ax, .int .i64 ay]) (fun w' _ => by go_simp) (fun w' hw' => Calls.out hw' (HRF.out ax ay w')) (hK _ ?_)
  clear hK K
  simp only [Act.put, List.setIfInBounds_toArray, List.set_cons_zero, List.set_cons_succ]
  refine BigFrame.wpQuiet_want rfl (fun K hK => ?_)
  refine quiet_val (.agg #[.int .i64 bx, .int .i64 bY]) (fun w' hw' => by have kk := M5.out.1.bb.grow hw'; have x0 := kk.p0; have x1 := kk.p1; clear kk; go_simp) (hK _ ?_)
  clear hK K
  simp only [Act.put, List.setIfInBounds_toArray, List.set_cons_zero, List.set_cons_succ]
  refine BigFrame.wpQuiet_want rfl (fun K hK => ?_)
  refine quiet_call 17 #[.agg #[.int .i64 bx, .int .i64 bY]] (.agg #[.int .i64 bx, .int .i64 bY]) (fun w' _ => by go_simp) (fun w' hw' => Calls.out hw' (HRF.out bx bY w')) (hK _ ?_)
  clear hK K
  simp only [Act.put, List.setIfInBounds_toArray, List.set_cons_zero, List.set_cons_succ]
  refine BigFrame.wpQuiet_want rfl (fun K hK => ?_)
  refine quiet_call 16 #[.agg #[.int .i64 ax, .int .i64 ay], .agg #[.int .i64 bx, .int .i64 bY]] (.bool false) (fun w' _ => by go_simp) (fun w' hw' => Calls.out hw' (HLG.out w')) (hK _ ?_)
  clear hK K
  simp only [Act.put, List.setIfInBounds_toArray, List.set_cons_zero, List.set_cons_succ]
  refine BigFrame.wpQuiet_want rfl (fun K hK => ?_)
  refine quiet_val (.bool false) (fun w' hw' => by go_simp) (hK _ ?_)
  clear hK K
  simp only [Act.put, List.setIfInBounds_toArray, List.set_cons_zero, List.set_cons_succ]
  refine wpQuiet_nil ?_
  intro w6 hb
  have M6 : Hid (PlM w (ax, ay) (bx, bY) w6 ∧ Blk w6 w2.heap.size 32 (two (px, py))) := ⟨M5.out.1.grow hb, M5.out.2.grow hb⟩
  clear hb
  have p0 := M6.out.2.p0
  have p1 := M6.out.2.p1
  clear p0 p1
  go_wp2_with fail
  refine wp_region_quiet (C := Out w6) (by kernel_rfl) (by kernel_rfl) ⟨rfl, rfl, rfl, Nat.le_refl _, fun _ _ => rfl⟩ ?_
  refine BigFrame.wpQuiet_want rfl (fun K hK => ?_)
  refine quiet_val (.int .i64 0) (fun w' hw' => by go_simp) (hK _ ?_)
  clear hK K
  simp only [Act.put, List.setIfInBounds_toArray, List.set_cons_zero, List.set_cons_succ]
  refine BigFrame.wpQuiet_want rfl (fun K hK => ?_)
  refine quiet_val (.bool false) (fun w' hw' => by go_simp) (hK _ ?_)
  clear hK K
  simp only [Act.put, List.setIfInBounds_toArray, List.set_cons_zero, List.set_cons_succ]
  refine BigFrame.wpQuiet_want rfl (fun K hK => ?_)
  refine quiet_val (.bool false) (fun w' hw' => by go_simp) (hK _ ?_)
  clear hK K
  simp only [Act.put, List.setIfInBounds_toArray, List.set_cons_zero, List.set_cons_succ]
  refine BigFrame.wpQuiet_want rfl (fun K hK => ?_)
  refine quiet_val (.int .i64 n) (fun w' hw' => by go_simp) (hK _ ?_)
  clear hK K
  simp only [Act.put, List.setIfInBounds_toArray, List.set_cons_zero, List.set_cons_succ]
  refine BigFrame.wpQuiet_want rfl (fun K hK => ?_)
  refine quiet_val (.agg #[.int .i64 ax, .int .i64 ay]) (fun w' hw' => by have kk := M6.out.1.ba.grow hw'; have x0 := kk.p0; have x1 := kk.p1; clear kk; go_simp) (hK _ ?_)
  clear hK K
  simp only [Act.put, List.setIfInBounds_toArray, List.set_cons_zero, List.set_cons_succ]
  refine BigFrame.wpQuiet_want rfl (fun K hK => ?_)
  refine quiet_call 17 #[.agg #[.int .i64 ax, .int .i64 ay]] (.agg #[.int .i64 ax, .int .i64 ay]) (fun w' _ => by go_simp) (fun w' hw' => Calls.out hw' (HRF.out ax ay w')) (hK _ ?_)
  clear hK K
  simp only [Act.put, List.setIfInBounds_toArray, List.set_cons_zero, List.set_cons_succ]
  refine BigFrame.wpQuiet_want rfl (fun K hK => ?_)
  refine quiet_val (.agg #[.int .i64 bx, .int .i64 bY]) (fun w' hw' => by have kk := M6.out.1.bb.grow hw'; have x0 := kk.p0; have x1 := kk.p1; clear kk; go_simp) (hK _ ?_)
  clear hK K
  simp only [Act.put, List.setIfInBounds_toArray, List.set_cons_zero, List.set_cons_succ]
  refine BigFrame.wpQuiet_want rfl (fun K hK => ?_)
  refine quiet_call 17 #[.agg #[.int .i64 bx, .int .i64 bY]] (.agg #[.int .i64 bx, .int .i64 bY]) (fun w' _ => by go_simp) (fun w' hw' => Calls.out hw' (HRF.out bx bY w')) (hK _ ?_)
  clear hK K
  simp only [Act.put, List.setIfInBounds_toArray, List.set_cons_zero, List.set_cons_succ]
  refine BigFrame.wpQuiet_want rfl (fun K hK => ?_)
  refine quiet_call 18 #[.agg #[.int .i64 ax, .int .i64 ay], .agg #[.int .i64 bx, .int .i64 bY]] (.int .i64 n) (fun w' _ => by go_simp) (fun w' hw' => Calls.out hw' (HRL.out w')) (hK _ ?_)
  clear hK K
  simp only [Act.put, List.setIfInBounds_toArray, List.set_cons_zero, List.set_cons_succ]
  refine BigFrame.wpQuiet_want rfl (fun K hK => ?_)
  refine quiet_val (.bool false) (fun w' hw' => by go_simp) (hK _ ?_)
  clear hK K
  simp only [Act.put, List.setIfInBounds_toArray, List.set_cons_zero, List.set_cons_succ]
  refine BigFrame.wpQuiet_want rfl (fun K hK => ?_)
  refine quiet_val (.bool false) (fun w' hw' => by go_simp) (hK _ ?_)
  clear hK K
  simp only [Act.put, List.setIfInBounds_toArray, List.set_cons_zero, List.set_cons_succ]
  refine BigFrame.wpQuiet_want rfl (fun K hK => ?_)
  refine quiet_val (.bool false) (fun w' hw' => by go_simp) (hK _ ?_)
  clear hK K
  simp only [Act.put, List.setIfInBounds_toArray, List.set_cons_zero, List.set_cons_succ]
  refine wpQuiet_nil ?_
  intro w7 hb
  have M7 : Hid (PlM w (ax, ay) (bx, bY) w7 ∧ Blk w7 w2.heap.size 32 (two (px, py))) := ⟨M6.out.1.grow hb, M6.out.2.grow hb⟩
  clear hb
  have p0 := M7.out.2.p0
  have p1 := M7.out.2.p1
  have d0 : (n == 0) = false := by simp; omega
  have d1 : decide (n = 0) = false := by simp; omega
  have d2 : decide (t < 0) = false := by simp; omega
  have d3 : decide (t > n) = false := by simp; omega
  have d4 : ¬ n = 0 := by omega
  clear p0 p1
  go_wp2_with fail
  refine wp_region_put2 (by kernel_rfl) (by kernel_rfl) (by kernel_rfl) (fun b' vs w' => (b' 0 = true → vs 0 = .agg #[.int .i64 ax, .int .i64 ay]) ∧ (b' 1 = true → vs 1 = .agg #[.int .i64 ax, .int .i64 ay]) ∧ (b' 2 = true → vs 2 = .agg #[.int .i64 bx, .int .i64 bY]) ∧ (b' 3 = true → vs 3 = .agg #[.int .i64 bx, .int .i64 bY]) ∧ (b' 4 = true → vs 4 = .int .i64 t) ∧ (b' 5 = true → vs 5 = .int .i64 n) ∧ (b' 6 = true → vs 6 = .agg #[.int .i64 px, .int .i64 py]) ∧ (b' 7 = true → Hid (∃ g, vs 7 = .pointer (some ⟨g, 0, none⟩) ∧ w7.heap.size ≤ g ∧ (b' 8 = false → Blk w' g 39 (two (0, 0))) ∧ (b' 8 = true → Blk w' g 39 (two (px, py))))) ∧ (b' 8 = true → b' 7 = true) ∧ Hid ((PlM w (ax, ay) (bx, bY) w' ∧ Blk w' w2.heap.size 32 (two (px, py))) ∧ Below w7.heap.size w7 w')) ?_ ?_ ?_
  · intro vs hvs
    exact ⟨fun h => Bool.noConfusion h, fun h => Bool.noConfusion h, fun h => Bool.noConfusion h, fun h => Bool.noConfusion h, fun h => Bool.noConfusion h, fun h => Bool.noConfusion h, fun h => Bool.noConfusion h, fun h => Bool.noConfusion h, fun h => Bool.noConfusion h, Lib.hid ⟨⟨M7.out.1.grow (below_drewN (Below.refl _ _) 1), M7.out.2.grow (below_drewN (Below.refl _ _) 1)⟩, below_drewN (Below.refl _ _) 1⟩⟩
  · rintro b' vs w' i op hi hun hall ⟨h0, h1, h2, h3, h4, h5, h6, y7, hE, hM⟩
    have hil : i < 9 := (List.getElem?_eq_some_iff.1 hi).1
    rcases i with _ | _ | _ | _ | _ | _ | _ | _ | _ | i
    · obtain rfl := Option.some.inj hi
      have x0 := hM.out.1.1.ba.p0
      have x1 := hM.out.1.1.ba.p1
      refine wpOp_step rfl (fun K hK => ?_)
      have HKK := Lib.hid hK; clear hK
      simp only [putAll, Act.put, List.setIfInBounds_toArray, List.set_cons_zero, List.set_cons_succ]
      go_simp
      exact HKK.out _ _ ⟨_, by simp only [putAll, Act.put, List.setIfInBounds_toArray, List.set_cons_zero, List.set_cons_succ] <;> rfl, fun _ => rfl, h1, h2, h3, h4, h5, h6, y7, hE, hM⟩
    · obtain rfl := Option.some.inj hi
      have d0 := h0 (hall ⟨0, .data⟩ (by simp) rfl)
      refine wpOp_step rfl (fun K hK2 => ?_)
      have HKK := Lib.hid hK2; clear hK2
      simp only [putAll, Act.put, List.setIfInBounds_toArray, List.set_cons_zero, List.set_cons_succ, d0]
      go_simp
      refine (HRF.out ax ay w').mono ?_
      rintro e w8 ⟨rfl, hb8⟩
      exact HKK.out _ _ ⟨_, by simp only [putAll, Act.put, List.setIfInBounds_toArray, List.set_cons_zero, List.set_cons_succ, d0] <;> rfl, h0, fun _ => rfl, h2, h3, h4, h5, h6, fun h => Lib.hid (by obtain ⟨g, e1, e2, e3, e4⟩ := (y7 h).out; exact ⟨g, e1, e2, fun hx => (e3 hx).grow hb8, fun hx => (e4 hx).grow hb8⟩), hE, Lib.hid ⟨⟨hM.out.1.1.grow hb8, hM.out.1.2.grow hb8⟩, hM.out.2.trans (hb8.mono hM.out.2.size)⟩⟩
    · obtain rfl := Option.some.inj hi
      have x0 := hM.out.1.1.bb.p0
      have x1 := hM.out.1.1.bb.p1
      refine wpOp_step rfl (fun K hK => ?_)
      have HKK := Lib.hid hK; clear hK
      simp only [putAll, Act.put, List.setIfInBounds_toArray, List.set_cons_zero, List.set_cons_succ]
      go_simp
      exact HKK.out _ _ ⟨_, by simp only [putAll, Act.put, List.setIfInBounds_toArray, List.set_cons_zero, List.set_cons_succ] <;> rfl, h0, h1, fun _ => rfl, h3, h4, h5, h6, y7, hE, hM⟩
    · obtain rfl := Option.some.inj hi
      have d2 := h2 (hall ⟨2, .data⟩ (by simp) rfl)
      refine wpOp_step rfl (fun K hK2 => ?_)
      have HKK := Lib.hid hK2; clear hK2
      simp only [putAll, Act.put, List.setIfInBounds_toArray, List.set_cons_zero, List.set_cons_succ, d2]
      go_simp
      refine (HRF.out bx bY w').mono ?_
      rintro e w8 ⟨rfl, hb8⟩
      exact HKK.out _ _ ⟨_, by simp only [putAll, Act.put, List.setIfInBounds_toArray, List.set_cons_zero, List.set_cons_succ, d2] <;> rfl, h0, h1, h2, fun _ => rfl, h4, h5, h6, fun h => Lib.hid (by obtain ⟨g, e1, e2, e3, e4⟩ := (y7 h).out; exact ⟨g, e1, e2, fun hx => (e3 hx).grow hb8, fun hx => (e4 hx).grow hb8⟩), hE, Lib.hid ⟨⟨hM.out.1.1.grow hb8, hM.out.1.2.grow hb8⟩, hM.out.2.trans (hb8.mono hM.out.2.size)⟩⟩
    · obtain rfl := Option.some.inj hi
      refine wpOp_step rfl (fun K hK => ?_)
      have HKK := Lib.hid hK; clear hK
      simp only [putAll, Act.put, List.setIfInBounds_toArray, List.set_cons_zero, List.set_cons_succ]
      go_simp
      exact HKK.out _ _ ⟨_, by simp only [putAll, Act.put, List.setIfInBounds_toArray, List.set_cons_zero, List.set_cons_succ] <;> rfl, h0, h1, h2, h3, fun _ => rfl, h5, h6, y7, hE, hM⟩
    · obtain rfl := Option.some.inj hi
      refine wpOp_step rfl (fun K hK => ?_)
      have HKK := Lib.hid hK; clear hK
      simp only [putAll, Act.put, List.setIfInBounds_toArray, List.set_cons_zero, List.set_cons_succ]
      go_simp
      exact HKK.out _ _ ⟨_, by simp only [putAll, Act.put, List.setIfInBounds_toArray, List.set_cons_zero, List.set_cons_succ] <;> rfl, h0, h1, h2, h3, h4, fun _ => rfl, h6, y7, hE, hM⟩
    · obtain rfl := Option.some.inj hi
      have d1 := h1 (hall ⟨1, .data⟩ (by simp) rfl)
      have d3 := h3 (hall ⟨3, .data⟩ (by simp) rfl)
      have d4 := h4 (hall ⟨4, .data⟩ (by simp) rfl)
      have d5 := h5 (hall ⟨5, .data⟩ (by simp) rfl)
      refine wpOp_step rfl (fun K hK2 => ?_)
      have HKK := Lib.hid hK2; clear hK2
      simp only [putAll, Act.put, List.setIfInBounds_toArray, List.set_cons_zero, List.set_cons_succ, d1, d3, d4, d5]
      go_simp
      refine (HRP.out w').mono ?_
      rintro e w8 ⟨rfl, hb8⟩
      exact HKK.out _ _ ⟨_, by simp only [putAll, Act.put, List.setIfInBounds_toArray, List.set_cons_zero, List.set_cons_succ, d1, d3, d4, d5] <;> rfl, h0, h1, h2, h3, h4, h5, fun _ => rfl, fun h => Lib.hid (by obtain ⟨g, e1, e2, e3, e4⟩ := (y7 h).out; exact ⟨g, e1, e2, fun hx => (e3 hx).grow hb8, fun hx => (e4 hx).grow hb8⟩), hE, Lib.hid ⟨⟨hM.out.1.1.grow hb8, hM.out.1.2.grow hb8⟩, hM.out.2.trans (hb8.mono hM.out.2.size)⟩⟩
    · obtain rfl := Option.some.inj hi
      have n8 : Hid (b' 8 = false) := Bool.eq_false_iff.2 (fun hz => absurd (hE hz) (by rw [hun]; decide))
      refine wpOp_step rfl (fun K hK2 => ?_)
      have HKK := Lib.hid hK2; clear hK2
      simp only [putAll, Act.put, List.setIfInBounds_toArray, List.set_cons_zero, List.set_cons_succ]
      go_simp
      have hb8 : Below w'.heap.size w' (w'.alloc (.cells (two (0, 0)) 39)) := (Below.refl _ _).alloc (Nat.le_refl _) _
      exact HKK.out _ _ ⟨_, by simp only [putAll, Act.put, List.setIfInBounds_toArray, List.set_cons_zero, List.set_cons_succ] <;> rfl, h0, h1, h2, h3, h4, h5, h6, fun _ => Lib.hid ⟨w'.heap.size, rfl, hM.out.2.size, fun _ => Blk.new _ _ _, fun hx => absurd (show b' 8 = true from hx) (by rw [n8.out]; decide)⟩, fun _ => rfl, Lib.hid ⟨⟨hM.out.1.1.grow hb8, hM.out.1.2.grow hb8⟩, hM.out.2.trans (hb8.mono hM.out.2.size)⟩⟩
    · obtain rfl := Option.some.inj hi
      have d6 := h6 (hall ⟨6, .data⟩ (by simp) rfl)
      have g7 := hall ⟨7, .data⟩ (by simp) rfl
      obtain ⟨g, e1, e2, e3, e4⟩ := (y7 g7).out
      have k8 := e3 hun
      have x0 := k8.p0
      have x1 := k8.p1
      have f0 := k8.free 0
      have f1 := k8.free 1
      have lg := k8.lt
      have K8 := Lib.hid k8
      have E2 := Lib.hid e2
      clear k8 e3 e4 e2
      refine wpOp_step rfl (fun K hK2 => ?_)
      have HKK := Lib.hid hK2; clear hK2
      simp only [putAll, Act.put, List.setIfInBounds_toArray, List.set_cons_zero, List.set_cons_succ, d6, e1]
      go_simp
      have hz := M7.out.1.size
      have hl2 := M7.out.2.lt
      have he2 := E2.out
      exact HKK.out _ _ ⟨undef, by simp only [putAll, Act.put, List.setIfInBounds_toArray, List.set_cons_zero, List.set_cons_succ, d6, e1] <;> rfl, h0, h1, h2, h3, h4, h5, h6, fun _ => Lib.hid ⟨g, e1, E2.out, fun h => Bool.noConfusion h, fun _ => K8.out.setP px py⟩, fun _ => g7, Lib.hid ⟨⟨⟨below_two hM.out.1.1.below (by omega) _ _, by have := hM.out.1.1.size; simp [World.setCell]; exact this, hM.out.1.1.ba.otherP (by omega) _ _, hM.out.1.1.bb.otherP (by omega) _ _⟩, hM.out.1.2.otherP (by omega) _ _⟩, below_two hM.out.2 E2.out _ _⟩⟩
    · exact absurd hil (by omega)
  · rintro b' vs w' hb ⟨h0, h1, h2, h3, h4, h5, h6, y7, hE, hM⟩
    have d0 := h0 (hb 0 (by decide))
    have d1 := h1 (hb 1 (by decide))
    have d2 := h2 (hb 2 (by decide))
    have d3 := h3 (hb 3 (by decide))
    have d4 := h4 (hb 4 (by decide))
    have d5 := h5 (hb 5 (by decide))
    have d6 := h6 (hb 6 (by decide))
    obtain ⟨g, d7, e2, e3, e4⟩ := (y7 (hb 7 (by decide))).out
    have k8 := e4 (hb 8 (by decide))
    simp only [putAll, Act.put, List.setIfInBounds_toArray, List.set_cons_zero, List.set_cons_succ, Nat.zero_add, Nat.reduceAdd, d0, d1, d2, d3, d4, d5, d6, d7]
    have M8 : Hid (PlM w (ax, ay) (bx, bY) w' ∧ Blk w' w2.heap.size 32 (two (px, py)) ∧ Blk w' g 39 (two (px, py))) := ⟨hM.out.1.1, hM.out.1.2, k8⟩
    obtain ⟨w8, rfl⟩ : ∃ x, x = w' := ⟨_, rfl⟩
    clear hb h0 d0 h1 d1 h2 d2 h3 d3 h4 d4 h5 d5 h6 d6 y7 hE hM e2 e3 e4 k8 d7
    have a0 := M8.out.1.ba.p0
    have a1 := M8.out.1.ba.p1
    have b0 := M8.out.1.bb.p0
    have b1 := M8.out.1.bb.p1
    go_wp2_with fail
    refine (HP0.out _).mono ?_
    rintro e w9 ⟨rfl, hb⟩
    obtain ⟨wA, hwA⟩ : ∃ X, w9.alloc (.cells #[.int .i64 ax, .int .i64 ay] 32) = X := ⟨_, rfl⟩
    have hbA : Below w9.heap.size w9 wA := by rw [← hwA]; exact (Below.refl _ _).alloc (Nat.le_refl _) _
    have MA : Hid (PlM w (ax, ay) (bx, bY) wA ∧ Blk wA w2.heap.size 32 (two (px, py)) ∧ Blk wA g 39 (two (px, py)) ∧ Blk wA w9.heap.size 32 (two (ax, ay))) := ⟨(M8.out.1.grow hb).grow hbA, (M8.out.2.1.grow hb).grow hbA, (M8.out.2.2.grow hb).grow hbA, by rw [← hwA]; exact Blk.new _ _ _⟩
    have HWA := Lib.hid hwA
    clear hb hbA hwA a0 a1 b0 b1
    have a0 := MA.out.1.ba.p0
    have a1 := MA.out.1.ba.p1
    have p0 := MA.out.2.1.p0
    have p1 := MA.out.2.1.p1
    have q0 := MA.out.2.2.1.p0
    have q1 := MA.out.2.2.1.p1
    have r0 := MA.out.2.2.2.p0
    have r1 := MA.out.2.2.2.p1
    rw [← HWA.out] at a0 a1 p0 p1 q0 q1 r0 r1
    go_wp2_with fail
    rw [HWA.out]
    refine (HAW.out _).mono ?_
    rintro e wz ⟨rfl, hb⟩
    have BZ : Hid (Below w.heap.size w wz) := MA.out.1.below.trans (hb.mono MA.out.1.below.size)
    clear hb
    go_wp2_with fail
    go_ret
    exact ⟨rfl, BZ.out⟩
theorem dashPlaces_law (ax ay bx bY t : Int) (w : World) :
    Calls Try.prog 4 #[.agg #[.int .i64 ax, .int .i64 ay], .agg #[.int .i64 bx, .int .i64 bY], .int .i64 t] w fun e w' => e = .returned (.bool true) ∧ Below w.heap.size w w' := by
  have HLEN := Lib.hid (fun w => length_c (ax, ay) (bx, bY) w)
  have HPL := Lib.hid (fun w => place_c (ax, ay) (bx, bY) t w)
  have HIA := Lib.hid (fun w => lawIn_c ax ay w)
  have HIB := Lib.hid (fun w => lawIn_c bx bY w)
  cases hab : (roomP (ax, ay) && roomP (bx, bY)) with
  | false =>
    have e1 := notRoom_len hab
    have e2 : placeO (ax, ay) (bx, bY) t = ((0, 0), 30) := by unfold placeO; rw [e1]; rfl
    rw [e1] at HLEN
    rw [e2] at HPL
    exact places_out ax ay bx bY t 0 30 30 _ _ w hab rfl rfl rfl HLEN HPL HIA HIB
  | true =>
    rw [Bool.and_eq_true] at hab
    have HLG := Lib.hid (fun w => long_c (ax, ay) (bx, bY) hab.1 hab.2 w)
    cases hl : lenB (subP (bx, bY) (ax, ay)) with
    | false =>
      have e1 : lengthO (ax, ay) (bx, bY) = (0, 10) := by unfold lengthO; rw [hab.1, hab.2, hl]; rfl
      have e2 : placeO (ax, ay) (bx, bY) t = ((0, 0), 10) := by unfold placeO; rw [e1]; rfl
      rw [e1] at HLEN
      rw [e2] at HPL
      rw [hl] at HLG
      exact places_long ax ay bx bY t 0 10 10 _ _ w hab.1 hab.2 rfl rfl rfl HLEN HPL HIA HIB HLG
    | true =>
      have hlo := lenB_iff.1 hl
      have hlb := len_bounds hlo
      have e1 : lengthO (ax, ay) (bx, bY) = (lenI (subP (bx, bY) (ax, ay)), 0) := by unfold lengthO; rw [hab.1, hab.2, hl]; rfl
      have HRL := Lib.hid (fun w => refLength_c (ax, ay) (bx, bY) hab.1 hab.2 hl w)
      rw [hl] at HLG
      rw [e1] at HLEN
      by_cases ht : t < 0 ∨ lenI (subP (bx, bY) (ax, ay)) < t ∨ lenI (subP (bx, bY) (ax, ay)) = 0
      · have e2 : placeO (ax, ay) (bx, bY) t = ((0, 0), 30) := by unfold placeO; rw [e1, if_pos rfl, if_pos ht]
        rw [e2] at HPL
        exact places_off ax ay bx bY t _ 0 30 _ _ w hab.1 hab.2 rfl rfl (by omega) HLEN HPL HIA HIB HLG HRL
      · have e2 : placeO (ax, ay) (bx, bY) t = (onP (ax, ay) (bx, bY) t (lenI (subP (bx, bY) (ax, ay))), 0) := by unfold placeO; rw [e1, if_pos rfl, if_neg ht]
        rw [e2] at HPL
        have HP0 := Lib.hid (fun w => place_c (ax, ay) (bx, bY) 0 w)
        have e3 : placeO (ax, ay) (bx, bY) 0 = ((ax, ay), 0) := by
          unfold placeO; rw [e1, if_pos rfl, if_neg (by omega), onP_zero _ _ (by omega)]
        rw [e3] at HP0
        exact places_ok ax ay bx bY t _ 0 _ _ 0 _ _ w hab.1 hab.2 rfl rfl (by omega) (by omega) (by omega) HLEN HPL HIA HIB HLG HRL (Lib.hid fun w => refPlace_c (ax, ay) (bx, bY) t _ hab.1 hab.2 hlo (by omega) (by omega) (by omega) (by omega) w) HP0
end Go.Proofs.Ytclkkdhfdoidfaa
