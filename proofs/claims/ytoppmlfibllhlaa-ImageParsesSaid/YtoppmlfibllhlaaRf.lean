/- Layer 11: package image's Fill. -/
import Derived.Test.YtoppmlfibllhlaaRd
import Derived.BigQuiet
namespace Go.Proofs.Ytoppmlfibllhlaa
open Go.RowKit
set_option maxHeartbeats 4000000 in
set_option maxRecDepth 100000 in
theorem fill_n (W H x0 y0 x1 y1 : Int) (s : Value) (l : List Col) (c : Col) (w : World) (row : RowK .u8 w s l) (hok : ∀ c ∈ l, OkC c) (hl : l.length ≤ 70000) (hr : rightIm W H l = false) : Calls Try.prog 12 #[.agg #[.int .i64 W, .int .i64 H, s], .agg #[.int .i64 x0, .int .i64 y0, .int .i64 x1, .int .i64 y1], .agg #[.int .u8 (c 0), .int .u8 (c 1), .int .u8 (c 2), .int .u8 (c 3)]] w fun e w' => ToldIm w 0 0 [] 30 e w' := by
  have HCK : Hid (∀ A, Below w.heap.size w A → Calls Try.prog 15 #[.agg #[.int .i64 W, .int .i64 H, s]] A fun e w' => e = .returned (.int .i64 30) ∧ Below A.heap.size A w') := fun A hA => by
    have h := checkOk W H s l A (row.on hA) hok hl
    rw [hr] at h
    exact h
  obtain ⟨ao, cp, rfl⟩ := row.shape
  clear row hok hl hr
  go_enter Try.func12, Try.ntmps12
  go_wp2_with fail
  obtain ⟨w1, hw1⟩ : ∃ WW, (((w.alloc (.cells #[.int .i64 W, .int .i64 H, .slice ao l.length cp] 24)).alloc (.cells #[.int .i64 x0, .int .i64 y0, .int .i64 x1, .int .i64 y1] 26)).alloc (.cells #[.int .u8 (c 0), .int .u8 (c 1), .int .u8 (c 2), .int .u8 (c 3)] 28)).alloc (.cells #[.int .i64 0, .int .i64 0, .slice none 0 0] 24) = WW := ⟨_, rfl⟩
  have P1 : Hid (Below w.heap.size w w1 ∧ Blk w1 w.heap.size 24 #[.int .i64 W, .int .i64 H, .slice ao l.length cp] ∧ Blk w1 (w.heap.size + 1) 26 (fourB ⟨x0, y0, x1, y1⟩) ∧ Blk w1 (w.heap.size + 2) 28 (four fun i => .int .u8 (c i)) ∧ Blk w1 (w.heap.size + 3) 24 #[.int .i64 0, .int .i64 0, .slice none 0 0]) := by
    rw [← hw1]
    exact ⟨(((((Below.refl _ _).alloc (Nat.le_refl _) _).alloc (by simp) _).alloc (by simp; omega) _).alloc (by simp; omega) _), (((Blk.new _ _ _).alloc _).alloc _).alloc _, ((Blk.newAt _ _ _ (by simp)).alloc _).alloc _, (Blk.newAt _ _ _ (by simp)).alloc _, Blk.newAt _ _ _ (by simp)⟩
  rw [hw1]
  clear hw1
  refine (HCK.out w1 P1.out.1).mono ?_
  rintro e w2 ⟨rfl, hb⟩
  have P2 : Hid (Below w.heap.size w w2 ∧ Blk w2 w.heap.size 24 #[.int .i64 W, .int .i64 H, .slice ao l.length cp] ∧ Blk w2 (w.heap.size + 1) 26 (fourB ⟨x0, y0, x1, y1⟩) ∧ Blk w2 (w.heap.size + 2) 28 (four fun i => .int .u8 (c i)) ∧ Blk w2 (w.heap.size + 3) 24 #[.int .i64 0, .int .i64 0, .slice none 0 0]) := ⟨P1.out.1.trans (hb.mono P1.out.1.size), P1.out.2.1.grow hb, P1.out.2.2.1.grow hb, P1.out.2.2.2.1.grow hb, P1.out.2.2.2.2.grow hb⟩
  clear hb P1
  have z0 : w2.cell? ⟨w.heap.size + 3, 0, none⟩ = some (.int .i64 0) := P2.out.2.2.2.2.cell 0
  have z1 : w2.cell? ⟨w.heap.size + 3, 1, none⟩ = some (.int .i64 0) := P2.out.2.2.2.2.cell 1
  have z2 : w2.cell? ⟨w.heap.size + 3, 2, none⟩ = some (.slice none 0 0) := P2.out.2.2.2.2.cell 2
  have f0 := P2.out.2.2.2.2.free 0
  have f1 := P2.out.2.2.2.2.free 1
  have f2 := P2.out.2.2.2.2.free 2
  have lg := P2.out.2.2.2.2.lt
  go_wp2_with fail
  exact bodyPost_ret (results_imG rfl rfl rfl (P2.out.2.2.2.2.set3 _ _ _)) rfl ⟨_, rfl, .inl ⟨rfl, rfl⟩, below_three P2.out.1 (by omega) _ _ _⟩
set_option maxHeartbeats 4000000 in
set_option maxRecDepth 100000 in
theorem fill_c (W H x0 y0 x1 y1 : Int) (s : Value) (l : List Col) (c : Col) (w : World) (row : RowK .u8 w s l) (hok : ∀ c ∈ l, OkC c) (hl : l.length ≤ 70000) (hr : rightIm W H l = true) (hrc : rightC c = false) : Calls Try.prog 12 #[.agg #[.int .i64 W, .int .i64 H, s], .agg #[.int .i64 x0, .int .i64 y0, .int .i64 x1, .int .i64 y1], .agg #[.int .u8 (c 0), .int .u8 (c 1), .int .u8 (c 2), .int .u8 (c 3)]] w fun e w' => ToldIm w 0 0 [] 30 e w' := by
  have HCK : Hid (∀ A, Below w.heap.size w A → Calls Try.prog 15 #[.agg #[.int .i64 W, .int .i64 H, s]] A fun e w' => e = .returned (.int .i64 0) ∧ Below A.heap.size A w') := fun A hA => by
    have h := checkOk W H s l A (row.on hA) hok hl
    rw [hr] at h
    exact h
  have HWR : Hid (∀ A, Calls Try.prog 33 #[.agg #[.int .u8 (c 0), .int .u8 (c 1), .int .u8 (c 2), .int .u8 (c 3)]] A fun e w' => e = .returned (.bool true) ∧ Below A.heap.size A w') := fun A => by
    have h := isWrong_c c A
    rw [hrc] at h
    exact h
  obtain ⟨ao, cp, rfl⟩ := row.shape
  clear row hok hl hr hrc
  go_enter Try.func12, Try.ntmps12
  go_wp2_with fail
  obtain ⟨w1, hw1⟩ : ∃ WW, (((w.alloc (.cells #[.int .i64 W, .int .i64 H, .slice ao l.length cp] 24)).alloc (.cells #[.int .i64 x0, .int .i64 y0, .int .i64 x1, .int .i64 y1] 26)).alloc (.cells #[.int .u8 (c 0), .int .u8 (c 1), .int .u8 (c 2), .int .u8 (c 3)] 28)).alloc (.cells #[.int .i64 0, .int .i64 0, .slice none 0 0] 24) = WW := ⟨_, rfl⟩
  have P1 : Hid (Below w.heap.size w w1 ∧ Blk w1 w.heap.size 24 #[.int .i64 W, .int .i64 H, .slice ao l.length cp] ∧ Blk w1 (w.heap.size + 1) 26 (fourB ⟨x0, y0, x1, y1⟩) ∧ Blk w1 (w.heap.size + 2) 28 (four fun i => .int .u8 (c i)) ∧ Blk w1 (w.heap.size + 3) 24 #[.int .i64 0, .int .i64 0, .slice none 0 0]) := by
    rw [← hw1]
    exact ⟨(((((Below.refl _ _).alloc (Nat.le_refl _) _).alloc (by simp) _).alloc (by simp; omega) _).alloc (by simp; omega) _), (((Blk.new _ _ _).alloc _).alloc _).alloc _, ((Blk.newAt _ _ _ (by simp)).alloc _).alloc _, (Blk.newAt _ _ _ (by simp)).alloc _, Blk.newAt _ _ _ (by simp)⟩
  rw [hw1]
  clear hw1
  refine (HCK.out w1 P1.out.1).mono ?_
  rintro e w2 ⟨rfl, hb⟩
  have P2 : Hid (Below w.heap.size w w2 ∧ Blk w2 w.heap.size 24 #[.int .i64 W, .int .i64 H, .slice ao l.length cp] ∧ Blk w2 (w.heap.size + 1) 26 (fourB ⟨x0, y0, x1, y1⟩) ∧ Blk w2 (w.heap.size + 2) 28 (four fun i => .int .u8 (c i)) ∧ Blk w2 (w.heap.size + 3) 24 #[.int .i64 0, .int .i64 0, .slice none 0 0]) := ⟨P1.out.1.trans (hb.mono P1.out.1.size), P1.out.2.1.grow hb, P1.out.2.2.1.grow hb, P1.out.2.2.2.1.grow hb, P1.out.2.2.2.2.grow hb⟩
  clear hb P1
  obtain ⟨k0, k1, k2, k3⟩ := P2.out.2.2.2.1.c0
  go_wp2_with fail
  refine (HWR.out w2).mono ?_
  rintro e w3 ⟨rfl, hb⟩
  have P3 : Hid (Below w.heap.size w w3 ∧ Blk w3 w.heap.size 24 #[.int .i64 W, .int .i64 H, .slice ao l.length cp] ∧ Blk w3 (w.heap.size + 1) 26 (fourB ⟨x0, y0, x1, y1⟩) ∧ Blk w3 (w.heap.size + 2) 28 (four fun i => .int .u8 (c i)) ∧ Blk w3 (w.heap.size + 3) 24 #[.int .i64 0, .int .i64 0, .slice none 0 0]) := ⟨P2.out.1.trans (hb.mono P2.out.1.size), P2.out.2.1.grow hb, P2.out.2.2.1.grow hb, P2.out.2.2.2.1.grow hb, P2.out.2.2.2.2.grow hb⟩
  clear hb P2 k0 k1 k2 k3
  have z0 : w3.cell? ⟨w.heap.size + 3, 0, none⟩ = some (.int .i64 0) := P3.out.2.2.2.2.cell 0
  have z1 : w3.cell? ⟨w.heap.size + 3, 1, none⟩ = some (.int .i64 0) := P3.out.2.2.2.2.cell 1
  have z2 : w3.cell? ⟨w.heap.size + 3, 2, none⟩ = some (.slice none 0 0) := P3.out.2.2.2.2.cell 2
  have f0 := P3.out.2.2.2.2.free 0
  have f1 := P3.out.2.2.2.2.free 1
  have f2 := P3.out.2.2.2.2.free 2
  have lg := P3.out.2.2.2.2.lt
  go_wp2_with fail
  exact bodyPost_ret (results_imG rfl rfl rfl (P3.out.2.2.2.2.set3 _ _ _)) rfl ⟨_, rfl, .inl ⟨rfl, rfl⟩, below_three P3.out.1 (by omega) _ _ _⟩
theorem fill_is {W H x0 y0 x1 y1 : Int} {c : Col} {l : List Col} {m : Bx} (hW : 1 ≤ W) (_hH : 1 ≤ H) (hn : (l.length : Int) = W * H) (hm : MeetIn W H x0 y0 x1 y1 m) : mixL (fun _ => c) (cAt l) (doneQ W m m.y1 0) l.length = fillL W x0 y0 x1 y1 c l l.length := by
  refine mixL_all fun k hk => ?_
  rw [doneQ_last]
  unfold fillPx
  have h1 : 0 ≤ (k : Int) % W ∧ (k : Int) % W < W := ⟨Int.emod_nonneg _ (by omega), Int.emod_lt_of_pos _ (by omega)⟩
  have h2 : 0 ≤ (k : Int) / W ∧ (k : Int) / W < H := ⟨Int.ediv_nonneg (by omega) (by omega), Int.ediv_lt_of_lt_mul (by omega) (by rw [Int.mul_comm, ← hn]; omega)⟩
  have h3 := hm.is _ _ h1.1 h1.2 h2.1 h2.2
  have e : inM W m k = inBx W x0 y0 x1 y1 k := by
    unfold inM inBx
    rw [Bool.eq_iff_iff, decide_eq_true_eq, h3]
    simp [and_assoc]
  rw [e]
set_option maxHeartbeats 4000000 in
set_option maxRecDepth 100000 in
theorem fill_y (W H x0 y0 x1 y1 : Int) (s : Value) (l : List Col) (c : Col) (w : World) (row : RowK .u8 w s l) (hok : ∀ c ∈ l, OkC c) (hl : l.length ≤ 70000) (hr : rightIm W H l = true) (hrc : rightC c = true) : Calls Try.prog 12 #[.agg #[.int .i64 W, .int .i64 H, s], .agg #[.int .i64 x0, .int .i64 y0, .int .i64 x1, .int .i64 y1], .agg #[.int .u8 (c 0), .int .u8 (c 1), .int .u8 (c 2), .int .u8 (c 3)]] w fun e w' => ToldIm w W H (fillL W x0 y0 x1 y1 c l l.length) 0 e w' := by
  have HCK : Hid (∀ A, Below w.heap.size w A → Calls Try.prog 15 #[.agg #[.int .i64 W, .int .i64 H, s]] A fun e w' => e = .returned (.int .i64 0) ∧ Below A.heap.size A w') := fun A hA => by
    have h := checkOk W H s l A (row.on hA) hok hl
    rw [hr] at h
    exact h
  have HWR : Hid (∀ A, Calls Try.prog 33 #[.agg #[.int .u8 (c 0), .int .u8 (c 1), .int .u8 (c 2), .int .u8 (c 3)]] A fun e w' => e = .returned (.bool false) ∧ Below A.heap.size A w') := fun A => by
    have h := isWrong_c c A
    rw [hrc] at h
    exact h
  have hri := rightIm_iff.1 hr
  have hs := mul_sides hri.1 hri.2.1 hri.2.2.1 hri.2.2.2.1
  have h0 : 0 < l.length := by have := hri.2.2.2.2.1; omega
  have HCL := Lib.hid (fun A (hA : Below w.heap.size w A) => clone8_c s l A (row.on hA) hl h0)
  obtain ⟨m, hm⟩ : ∃ m, meetI ⟨x0, y0, x1, y1⟩ ⟨0, 0, W, H⟩ = m := ⟨_, rfl⟩
  have HMI : Hid (MeetIn W H x0 y0 x1 y1 m) := by rw [← hm]; exact meet_in hri.1 hri.2.2.1
  have HMT : Hid (∀ A, Calls Try.prog 35 #[.agg #[.int .i64 x0, .int .i64 y0, .int .i64 x1, .int .i64 y1], .agg #[.int .i64 0, .int .i64 0, .int .i64 W, .int .i64 H]] A fun e w' => e = .returned (.agg #[.int .i64 m.x0, .int .i64 m.y0, .int .i64 m.x1, .int .i64 m.y1]) ∧ Below A.heap.size A w') := fun A => by
    have h := meet_c ⟨x0, y0, x1, y1⟩ ⟨0, 0, W, H⟩ A
    rw [hm] at h
    exact h
  have HFI : Hid (mixL (fun _ => c) (cAt l) (doneQ W m m.y1 0) l.length = fillL W x0 y0 x1 y1 c l l.length) := fill_is hri.1 hri.2.2.1 hri.2.2.2.2.1 HMI.out
  have HNO : Hid (mixL (fun _ => c) (cAt l) (doneQ W m m.y0 0) l.length = l) := mixL_none fun k _ => doneQ_first W m k
  have HSD : Hid ((1 ≤ W ∧ W ≤ 256 ∧ 1 ≤ H ∧ H ≤ 256) ∧ (l.length : Int) = W * H ∧ W * H ≤ 65536) := ⟨⟨hri.1, hri.2.1, hri.2.2.1, hri.2.2.2.1⟩, hri.2.2.2.2.1, hs.2⟩
  obtain ⟨ao, cp, rfl⟩ := row.shape
  generalize fillL W x0 y0 x1 y1 c l l.length = FL at *
  obtain ⟨n, hn⟩ : ∃ n, l.length = n := ⟨_, rfl⟩
  have HN := Lib.hid hn
  rw [hn] at HCK HCL HFI HNO HSD ⊢
  clear row hok hl hr hrc hri hs h0 hm hn
  go_enter Try.func12, Try.ntmps12
  go_wp2_with fail
  obtain ⟨w1, hw1⟩ : ∃ WW, (((w.alloc (.cells #[.int .i64 W, .int .i64 H, .slice ao n cp] 24)).alloc (.cells #[.int .i64 x0, .int .i64 y0, .int .i64 x1, .int .i64 y1] 26)).alloc (.cells #[.int .u8 (c 0), .int .u8 (c 1), .int .u8 (c 2), .int .u8 (c 3)] 28)).alloc (.cells #[.int .i64 0, .int .i64 0, .slice none 0 0] 24) = WW := ⟨_, rfl⟩
  have P1 : Hid (Below w.heap.size w w1 ∧ Blk w1 w.heap.size 24 #[.int .i64 W, .int .i64 H, .slice ao n cp] ∧ Blk w1 (w.heap.size + 1) 26 (fourB ⟨x0, y0, x1, y1⟩) ∧ Blk w1 (w.heap.size + 2) 28 (four fun i => .int .u8 (c i)) ∧ Blk w1 (w.heap.size + 3) 24 #[.int .i64 0, .int .i64 0, .slice none 0 0]) := by
    rw [← hw1]
    exact ⟨(((((Below.refl _ _).alloc (Nat.le_refl _) _).alloc (by simp) _).alloc (by simp; omega) _).alloc (by simp; omega) _), (((Blk.new _ _ _).alloc _).alloc _).alloc _, ((Blk.newAt _ _ _ (by simp)).alloc _).alloc _, (Blk.newAt _ _ _ (by simp)).alloc _, Blk.newAt _ _ _ (by simp)⟩
  rw [hw1]
  clear hw1
  refine (HCK.out w1 P1.out.1).mono ?_
  rintro e w2 ⟨rfl, hb⟩
  have P2 : Hid (Below w.heap.size w w2 ∧ Blk w2 w.heap.size 24 #[.int .i64 W, .int .i64 H, .slice ao n cp] ∧ Blk w2 (w.heap.size + 1) 26 (fourB ⟨x0, y0, x1, y1⟩) ∧ Blk w2 (w.heap.size + 2) 28 (four fun i => .int .u8 (c i)) ∧ Blk w2 (w.heap.size + 3) 24 #[.int .i64 0, .int .i64 0, .slice none 0 0]) := ⟨P1.out.1.trans (hb.mono P1.out.1.size), P1.out.2.1.grow hb, P1.out.2.2.1.grow hb, P1.out.2.2.2.1.grow hb, P1.out.2.2.2.2.grow hb⟩
  clear hb P1
  obtain ⟨k0, k1, k2, k3⟩ := P2.out.2.2.2.1.c0
  go_wp2_with fail
  refine (HWR.out w2).mono ?_
  rintro e w3 ⟨rfl, hb⟩
  have P3 : Hid (Below w.heap.size w w3 ∧ Blk w3 w.heap.size 24 #[.int .i64 W, .int .i64 H, .slice ao n cp] ∧ Blk w3 (w.heap.size + 1) 26 (fourB ⟨x0, y0, x1, y1⟩) ∧ Blk w3 (w.heap.size + 2) 28 (four fun i => .int .u8 (c i)) ∧ Blk w3 (w.heap.size + 3) 24 #[.int .i64 0, .int .i64 0, .slice none 0 0]) := ⟨P2.out.1.trans (hb.mono P2.out.1.size), P2.out.2.1.grow hb, P2.out.2.2.1.grow hb, P2.out.2.2.2.1.grow hb, P2.out.2.2.2.2.grow hb⟩
  clear hb P2 k0 k1 k2 k3
  have k2 : w3.cell? ⟨w.heap.size, 2, none⟩ = some (.slice ao n cp) := P3.out.2.1.cell 2
  go_wp2_with fail
  refine (HCL.out w3 P3.out.1).mono ?_
  rintro e w4 ⟨gq, cap, rfl, hq1, hq2, hown, hb⟩
  have P4 : Hid (Below w.heap.size w w4 ∧ Blk w4 w.heap.size 24 #[.int .i64 W, .int .i64 H, .slice ao n cp] ∧ Blk w4 (w.heap.size + 1) 26 (fourB ⟨x0, y0, x1, y1⟩) ∧ Blk w4 (w.heap.size + 2) 28 (four fun i => .int .u8 (c i)) ∧ Blk w4 (w.heap.size + 3) 24 #[.int .i64 0, .int .i64 0, .slice none 0 0]) := ⟨P3.out.1.trans (hb.mono P3.out.1.size), P3.out.2.1.grow hb, P3.out.2.2.1.grow hb, P3.out.2.2.2.1.grow hb, P3.out.2.2.2.2.grow hb⟩
  have HQ : Hid (w.heap.size + 3 < gq ∧ n ≤ cap) := ⟨by have := P3.out.2.2.2.2.lt; omega, hq2⟩
  have HOW : Hid (OwnK .u8 w4 w.heap.size 28 (.slice (some ⟨gq, 0, none⟩) n cap) l) := hown.base P3.out.1.size
  clear hb P3 k2 hq1 hq2 hown
  have k2 : w4.cell? ⟨w.heap.size, 2, none⟩ = some (.slice ao n cp) := P4.out.2.1.cell 2
  have f2 := P4.out.2.1.free 2
  have lg := P4.out.2.1.lt
  go_wp2_with fail
  obtain ⟨w5, hw5⟩ : ∃ WW, w4.setCell ⟨w.heap.size, 2, none⟩ (.slice (some ⟨gq, 0, none⟩) n cap) = WW := ⟨_, rfl⟩
  have P5 : Hid (Below w.heap.size w w5 ∧ Blk w5 w.heap.size 24 #[.int .i64 W, .int .i64 H, .slice (some ⟨gq, 0, none⟩) n cap] ∧ Blk w5 (w.heap.size + 1) 26 (fourB ⟨x0, y0, x1, y1⟩) ∧ Blk w5 (w.heap.size + 2) 28 (four fun i => .int .u8 (c i)) ∧ Blk w5 (w.heap.size + 3) 24 #[.int .i64 0, .int .i64 0, .slice none 0 0] ∧ OwnK .u8 w5 w.heap.size 28 (.slice (some ⟨gq, 0, none⟩) n cap) l ∧ w.heap.size + 3 < gq ∧ n ≤ cap) := by
    rw [← hw5]
    exact ⟨P4.out.1.setCell (Nat.le_refl _) _, P4.out.2.1.put 2 _ _ rfl, P4.out.2.2.1.other _ _ (by simp), P4.out.2.2.2.1.other _ _ (by simp), P4.out.2.2.2.2.other _ _ (by simp),
      HOW.out.keep (S := fun k => k ≠ w.heap.size) (Keep.setCell _ _ _ (fun e => e rfl)) (fun k hk => by cases hk; have := HQ.out.1; simp only; omega), HQ.out.1, HQ.out.2⟩
  rw [hw5]
  clear hw5 P4 HOW k2 f2 lg HCK HWR HCL
  refine wp_region_put2 (by kernel_rfl) (by kernel_rfl) (by kernel_rfl) (fun b' vs w' => (b' 0 = true → vs 0 = .agg #[.int .i64 x0, .int .i64 y0, .int .i64 x1, .int .i64 y1]) ∧ (b' 1 = true → vs 1 = .agg #[.int .i64 W, .int .i64 H, .slice (some ⟨gq, 0, none⟩) n cap]) ∧ (b' 2 = true → vs 2 = .agg #[.int .i64 0, .int .i64 0, .int .i64 W, .int .i64 H]) ∧ (b' 3 = true → vs 3 = .agg #[.int .i64 m.x0, .int .i64 m.y0, .int .i64 m.x1, .int .i64 m.y1]) ∧ Hid (LayG w5 [⟨4, 5, 26, (fourB ⟨0, 0, 0, 0⟩), (fourB m)⟩] b' vs w')) ?_ ?_ ?_
  · intro vs hvs
    exact ⟨fun h => Bool.noConfusion h, fun h => Bool.noConfusion h, fun h => Bool.noConfusion h, fun h => Bool.noConfusion h, LayG.start vs⟩
  · rintro b' vs w' i op hi hun hall ⟨h0, h1, h2, h3, hM⟩
    have hil : i < 6 := (List.getElem?_eq_some_iff.1 hi).1
    rcases i with _ | _ | _ | _ | _ | _ | i
    · obtain rfl := Option.some.inj hi
      have kb := P5.out.2.2.1.grow (LayG.below hM.out)
      have c0 := kb.b0
      have c1 := kb.b1
      have c2 := kb.b2
      have c3 := kb.b3
      simp only at c0 c1 c2 c3
      refine wpOp_step rfl (fun K hK => ?_)
      have HKK := Lib.hid hK; clear hK
      simp only [putAll, Act.put, List.setIfInBounds_toArray, List.set_cons_zero, List.set_cons_succ]
      go_simp
      exact HKK.out _ _ ⟨_, by simp only [putAll, Act.put, List.setIfInBounds_toArray, List.set_cons_zero, List.set_cons_succ] <;> rfl, fun _ => rfl, h1, h2, h3, LayG.other hM.out 0 _ rfl⟩
    · obtain rfl := Option.some.inj hi
      have kb := P5.out.2.1.grow (LayG.below hM.out)
      have c0 : w'.cell? ⟨w.heap.size, 0, none⟩ = some (.int .i64 W) := kb.cell 0
      have c1 : w'.cell? ⟨w.heap.size, 1, none⟩ = some (.int .i64 H) := kb.cell 1
      have c2 : w'.cell? ⟨w.heap.size, 2, none⟩ = some (.slice (some ⟨gq, 0, none⟩) n cap) := kb.cell 2
      refine wpOp_step rfl (fun K hK => ?_)
      have HKK := Lib.hid hK; clear hK
      simp only [putAll, Act.put, List.setIfInBounds_toArray, List.set_cons_zero, List.set_cons_succ]
      go_simp
      exact HKK.out _ _ ⟨_, by simp only [putAll, Act.put, List.setIfInBounds_toArray, List.set_cons_zero, List.set_cons_succ] <;> rfl, h0, fun _ => rfl, h2, h3, LayG.other hM.out 1 _ rfl⟩
    · obtain rfl := Option.some.inj hi
      have d1 := h1 (hall ⟨1, .data⟩ (by simp) rfl)
      refine wpOp_step rfl (fun K hK => ?_)
      have HKK := Lib.hid hK; clear hK
      simp only [putAll, Act.put, List.setIfInBounds_toArray, List.set_cons_zero, List.set_cons_succ, d1]
      go_simp
      refine (imBox_c W H (.slice (some ⟨gq, 0, none⟩) n cap) w').mono ?_
      rintro e w'' ⟨rfl, hb2⟩
      exact HKK.out _ _ ⟨_, by simp only [putAll, Act.put, List.setIfInBounds_toArray, List.set_cons_zero, List.set_cons_succ, d1] <;> rfl, h0, h1, fun _ => rfl, h3, Lib.hid ((LayG.grow hM.out hb2).other 2 _ rfl)⟩
    · obtain rfl := Option.some.inj hi
      have d0 := h0 (hall ⟨0, .data⟩ (by simp) rfl)
      have d2 := h2 (hall ⟨2, .data⟩ (by simp) rfl)
      refine wpOp_step rfl (fun K hK => ?_)
      have HKK := Lib.hid hK; clear hK
      simp only [putAll, Act.put, List.setIfInBounds_toArray, List.set_cons_zero, List.set_cons_succ, d0, d2]
      go_simp
      refine (HMT.out w').mono ?_
      rintro e w'' ⟨rfl, hb2⟩
      exact HKK.out _ _ ⟨_, by simp only [putAll, Act.put, List.setIfInBounds_toArray, List.set_cons_zero, List.set_cons_succ, d0, d2] <;> rfl, h0, h1, h2, fun _ => rfl, Lib.hid ((LayG.grow hM.out hb2).other 3 _ rfl)⟩
    · obtain rfl := Option.some.inj hi
      refine wpOp_step rfl (fun K hK => ?_)
      have HKK := Lib.hid hK; clear hK
      simp only [putAll, Act.put, List.setIfInBounds_toArray, List.set_cons_zero, List.set_cons_succ]
      go_simp
      exact HKK.out _ _ ⟨_, by simp only [putAll, Act.put, List.setIfInBounds_toArray, List.set_cons_zero, List.set_cons_succ] <;> rfl, h0, h1, h2, h3, LayG.made hM.out rfl ⟨4, 5, 26, (fourB ⟨0, 0, 0, 0⟩), (fourB m)⟩ (by simp) hun⟩
    · obtain rfl := Option.some.inj hi
      have d3 := h3 (hall ⟨3, .data⟩ (by simp) rfl)
      have dal := hall ⟨4, .data⟩ (by simp) rfl
      obtain ⟨g, eg, lg, kg⟩ := LayG.at hM.out ⟨4, 5, 26, (fourB ⟨0, 0, 0, 0⟩), (fourB m)⟩ (by simp) dal hun
      have kz : Blk w' g 26 (fourB ⟨0, 0, 0, 0⟩) := kg
      have c0 := kz.b0
      have c1 := kz.b1
      have c2 := kz.b2
      have c3 := kz.b3
      have f0 := kg.free 0
      have f1 := kg.free 1
      have f2 := kg.free 2
      have f3 := kg.free 3
      have lgw := kg.lt
      refine wpOp_step rfl (fun K hK => ?_)
      have HKK := Lib.hid hK; clear hK
      simp only [putAll, Act.put, List.setIfInBounds_toArray, List.set_cons_zero, List.set_cons_succ, d3, eg]
      go_simp
      exact HKK.out _ _ ⟨undef, by simp only [putAll, Act.put, List.setIfInBounds_toArray, List.set_cons_zero, List.set_cons_succ, d3, eg] <;> rfl, h0, h1, h2, h3, LayG.stored hM.out rfl ⟨4, 5, 26, (fourB ⟨0, 0, 0, 0⟩), (fourB m)⟩ (by simp) undef dal eg (below_four (LayG.below hM.out) lg _ _ _ _) (kz.setB m) (fun _ _ _ hne k => k.otherB hne _ _ _ _)⟩
    · exact absurd hil (by omega)
  · rintro b' vs w' hb ⟨h0, h1, h2, h3, hM⟩
    obtain ⟨gp, e4, lp, kp⟩ := LayG.done hM.out ⟨4, 5, 26, (fourB ⟨0, 0, 0, 0⟩), (fourB m)⟩ (by simp) (hb 4 (by decide)) (hb 5 (by decide))
    have hbw := LayG.below hM.out
    have v0 := h0 (hb 0 (by decide))
    have v1 := h1 (hb 1 (by decide))
    have v2 := h2 (hb 2 (by decide))
    have v3 := h3 (hb 3 (by decide))
    simp only [putAll, Act.put, List.setIfInBounds_toArray, List.set_cons_zero, List.set_cons_succ, e4, v0, v1, v2, v3]
    clear h0 h1 h2 h3 hM hb e4 v0 v1 v2 v3
    obtain ⟨w6, hw6⟩ : ∃ WW, w' = WW := ⟨_, rfl⟩
    rw [hw6] at kp hbw ⊢
    clear hw6
    have P6 : Hid (Below w.heap.size w w6 ∧ Blk w6 w.heap.size 24 #[.int .i64 W, .int .i64 H, .slice (some ⟨gq, 0, none⟩) n cap] ∧ Blk w6 (w.heap.size + 1) 26 (fourB ⟨x0, y0, x1, y1⟩) ∧ Blk w6 (w.heap.size + 2) 28 (four fun i => .int .u8 (c i)) ∧ Blk w6 (w.heap.size + 3) 24 #[.int .i64 0, .int .i64 0, .slice none 0 0] ∧ OwnK .u8 w6 w.heap.size 28 (.slice (some ⟨gq, 0, none⟩) n cap) l ∧ w.heap.size + 3 < gq ∧ n ≤ cap) := ⟨P5.out.1.trans (hbw.mono P5.out.1.size), P5.out.2.1.grow hbw, P5.out.2.2.1.grow hbw, P5.out.2.2.2.1.grow hbw, P5.out.2.2.2.2.1.grow hbw, P5.out.2.2.2.2.2.1.grow hbw, P5.out.2.2.2.2.2.2.1, P5.out.2.2.2.2.2.2.2⟩
    have KP := Lib.hid kp
    have HGP : Hid (gp ≠ gq) := fun e => by
      have h1 := P5.out.2.2.2.2.2.1.lt.2.1
      omega
    have b1 := kp.b1
    clear hbw lp kp P5 HMT HQ
    go_wp2_with fail
    clear b1
    go_loopw [9] (fun y wr => ∃ yy : Int, y = .int .i64 yy ∧ m.y0 ≤ yy ∧ yy ≤ m.y1 ∧ Hid (PixSt w6 wr w.heap.size gq n cap (mixL (fun _ => c) (cAt l) (doneQ W m yy 0) n))) (fun y _ => (m.y1 - intOf y).toNat)
    case atStart => exact ⟨m.y0, rfl, Int.le_refl _, HMI.out.ys.2.1, by unfold Hid; rw [HNO.out]; exact PixSt.start P6.out.2.2.2.2.2.1⟩
    case round =>
      obtain ⟨yy, rfl, hy0, hy1, hst⟩ := hrel
      have HY := Lib.hid (And.intro hy0 hy1)
      clear hy0 hy1
      have b3 := (hst.out.blk KP.out HGP.out).b3
      by_cases hlt : yy < m.y1
      · have hd : decide (yy < m.y1) = true := by simpa using hlt
        have HLT := Lib.hid hlt
        clear hlt
        obtain ⟨k0, k1, k2⟩ := (hst.out.blk P6.out.2.1 (by have := P6.out.2.2.2.2.2.2.1; omega)).im3r
        have b0 := (hst.out.blk KP.out HGP.out).b0
        have b1 := (hst.out.blk KP.out HGP.out).b1
        have b2 := (hst.out.blk KP.out HGP.out).b2
        obtain ⟨f, t, hft⟩ : ∃ f t : Nat, Hid (yy * W + m.x0 = f ∧ yy * W + m.x1 = t ∧ f < t ∧ t ≤ n ∧ n ≤ 65536 ∧ (0 ≤ yy * W ∧ yy * W ≤ 65536)) := by
          have h1 := HSD.out
          have h2 := HMI.out.xs
          have h3 := HMI.out.ys
          have h4 := HMI.out.both (by have := HY.out; have := HLT.out; omega)
          have h5 := HY.out
          have h6 := HLT.out
          have h7 : 0 ≤ yy * W := Int.mul_nonneg (by omega) (by omega)
          have h8 : (yy + 1) * W ≤ H * W := Int.mul_le_mul_of_nonneg_right (by omega) (by omega)
          rw [Int.add_mul, Int.mul_comm H W] at h8
          generalize yy * W = p at *
          generalize W * H = q at *
          exact ⟨(p + m.x0).toNat, (p + m.x1).toNat, by unfold Hid; omega⟩
        have HRW : Hid (∀ A, Calls Try.prog 36 #[.agg #[.int .i64 W, .int .i64 H, .slice (some ⟨gq, 0, none⟩) n cap], .agg #[.int .i64 m.x0, .int .i64 m.y0, .int .i64 m.x1, .int .i64 m.y1], .int .i64 yy] A fun e w' => e = .returned (.slice (some ⟨gq, f * 4, none⟩) (t - f) (t - f)) ∧ Below A.heap.size A w') := fun A => by
          have h := row_c W H yy (yy * W) m gq 0 n cap f t rfl (by have := hft.out; omega) hft.out.1 hft.out.2.1 hft.out.2.2.1 (by have := hft.out; have := P6.out.2.2.2.2.2.2.2; omega) (by have := hft.out; omega) A
          rw [Nat.zero_add] at h
          exact h
        obtain ⟨w7, hw7⟩ : ∃ x, x = wr := ⟨_, rfl⟩
        rw [← hw7] at hst k0 k1 k2 b0 b1 b2 b3 ⊢
        clear hw7
        go_wp2_with fail
        refine (HRW.out w7).mono ?_
        rintro e w8 ⟨rfl, hb⟩
        have hs8 : Hid (PixSt w6 w8 w.heap.size gq n cap (mixL (fun _ => c) (cAt l) (doneQ W m yy 0) n)) := hst.out.step hb
        clear hb hst k0 k1 k2 b0 b1 b2 b3
        obtain ⟨d, hd2⟩ : ∃ d, t - f = d := ⟨_, rfl⟩
        have HD := Lib.hid hd2
        rw [hd2]
        clear hd2
        go_wp2_with fail
        go_loopw [42] (fun i wr => ∃ k : Nat, i = .int .i64 k ∧ k ≤ d ∧ Hid (PixSt w6 wr w.heap.size gq n cap (mixL (fun _ => c) (cAt l) (doneQ W m yy k) n))) (fun i _ => d - (intOf i).toNat)
        case atStart => exact ⟨0, rfl, by omega, hs8.out⟩
        case round =>
          obtain ⟨k, rfl, hk, hsk⟩ := hrel
          by_cases hlt : k < d
          · have hd3 : decide ((k : Int) < (d : Int)) = true := by simp; omega
            have hfk : Hid (f + k < n) := by unfold Hid; have := hft.out; have := HD.out; omega
            obtain ⟨old, hold⟩ : ∃ old, (mixL (fun _ => c) (cAt l) (doneQ W m yy k) n)[f + k]? = some old := ⟨_, mixL_at hfk.out⟩
            obtain ⟨⟨c0, c1, c2, c3⟩, hfz, lg⟩ := hsk.out.col hold (o := f * 4 + k * 4) (by omega)
            have f0 := hfz (f * 4 + k * 4)
            have f1 := hfz (f * 4 + k * 4 + 1)
            have f2 := hfz (f * 4 + k * 4 + 2)
            have f3 := hfz (f * 4 + k * 4 + 3)
            obtain ⟨q0, q1, q2, q3⟩ := (hsk.out.blk P6.out.2.2.2.1 (by have := P6.out.2.2.2.2.2.2.1; omega)).c0
            have hkd : (k : Int) < (d : Int) := by omega
            have hkn : (0 : Int) ≤ (k : Int) := by omega
            have HK := Lib.hid hlt
            have hdb : Hid (d ≤ 65536) := by unfold Hid; have := hft.out; have := HD.out; omega
            have hdb' := hdb.out
            clear hold hfz
            go_wp2_with fail
            refine ⟨⟨k + 1, by go_num, by have := HK.out; omega, ?_⟩, by simp [intOf]; omega⟩
            refine Lib.hid ((hsk.out.store (k := f + k) (mixL_len _ _ _ _) hfk.out c (by omega)).cong ?_)
            have h := HMI.out
            have h2 := hft.out
            have h3 := HD.out
            have h4 := HY.out
            have h5 := HLT.out
            exact mixL_set (g := fun _ => c) hfk.out fun j _ => (doneQ_set (k0 := f + k) (i := (k : Int)) (y := yy) (by have := HSD.out; omega) h.xs.1 (by omega) (by omega) h.xs.2.2 ⟨h4.1, h5⟩ (by omega) j)
          · have hd3 : decide ((k : Int) < (d : Int)) = false := by simp; omega
            have hkd : Hid (k = d) := by unfold Hid; omega
            have hyb : Hid (0 ≤ yy ∧ yy < 256) := by unfold Hid; have := HY.out; have := HLT.out; have := HMI.out.ys; have := HSD.out; omega
            have e1 : wrap64 (yy + 1) = yy + 1 := by have := hyb.out; exact wrapR _ (by omega) (by omega)
            go_wp2_with fail
            refine ⟨⟨yy + 1, by rw [e1], by have := HY.out; omega, by have := HLT.out; omega, Lib.hid (hsk.out.cong (mixL_congr fun j _ => doneQ_next W m yy k ?_ j))⟩, by simp [intOf]; have := HLT.out; omega⟩
            have := hft.out
            have := HD.out
            have := hkd.out
            omega
      · have hd : decide (yy < m.y1) = false := by simpa using hlt
        have HEND : Hid (yy = m.y1) := by unfold Hid; have := HY.out; omega
        clear hlt
        obtain ⟨k0, k1, k2⟩ := (hst.out.blk P6.out.2.1 (by have := P6.out.2.2.2.2.2.2.1; omega)).im3r
        have kz := (hst.out.blk P6.out.2.2.2.2.1 (by have := P6.out.2.2.2.2.2.2.1; omega))
        obtain ⟨z0, z1, z2⟩ := kz.im3r
        have f0 := kz.free 0
        have f1 := kz.free 1
        have f2 := kz.free 2
        have lg := kz.lt
        have KZ := Lib.hid kz
        clear kz
        go_wp2_with fail
        refine bodyPost_ret (results_imG rfl rfl rfl (KZ.out.set3 _ _ _)) rfl ⟨_, rfl, ?_, below_three (hst.out.bel P6.out.1) (by omega) _ _ _⟩
        have h := hst.out.2
        rw [HEND.out, HFI.out] at h
        exact (h.keep (S := fun k => k ≠ w.heap.size + 3) (Keep.set3 _ _ _ _ _ (fun e => e rfl)) (fun k hk => by cases hk; have := P6.out.2.2.2.2.2.2.1; simp only; omega)).row
theorem fillOk : FillOk := by
  intro W H x0 y0 x1 y1 s l c w row hok hc hl
  unfold fillW
  cases hr : rightIm W H l with
  | false => exact (fill_n W H x0 y0 x1 y1 s l c w row hok hl hr).mono fun e w' h => ⟨fun h2 => (by cases h2), fun _ => h⟩
  | true =>
    cases hrc : rightC c with
    | false => exact (fill_c W H x0 y0 x1 y1 s l c w row hok hl hr hrc).mono fun e w' h => ⟨fun h2 => (by cases h2), fun _ => h⟩
    | true => exact (fill_y W H x0 y0 x1 y1 s l c w row hok hl hr hrc).mono fun e w' h => ⟨fun _ => h, fun h2 => (by cases h2)⟩
end Go.Proofs.Ytoppmlfibllhlaa
