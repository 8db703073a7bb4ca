/- Layer 7: the law StrokeBars. -/
import Derived.Test.YtdidbejinfkhbaaSg
import Derived.Test.YtdidbejinfkhbaaSh
namespace Go.Proofs.Ytdidbejinfkhbaa
open Go.RowKit
set_option maxHeartbeats 4000000 in
set_option maxRecDepth 100000 in
theorem bars_low (a b : Pt) (h : Int) (w : World) (HAW : Hid (∀ w, Calls Try.prog 6 #[] w fun e w' => e = .returned (.bool true) ∧ Below w.heap.size w w')) (h1 : h < 1) (HB : Hid (∀ w, Calls Try.prog 4 #[.agg #[.int .i64 a.1, .int .i64 a.2], .agg #[.int .i64 b.1, .int .i64 b.2], .int .i64 h] w (ToldP w (30, [])))) :
    Calls Try.prog 3 #[.agg #[.int .i64 a.1, .int .i64 a.2], .agg #[.int .i64 b.1, .int .i64 b.2], .int .i64 h] w fun e w' => e = .returned (.bool true) ∧ Below w.heap.size w w' := by
  go_enter Try.func3, Try.ntmps3
  go_wp2_with fail
  refine (HB.out _).mono ?_
  rintro e w1 ⟨v, rfl, ho, hb⟩
  have S0 : Hid (Below w.heap.size w w1 ∧ w.heap.size ≤ w1.heap.size ∧ Blk w1 w.heap.size 23 (two a) ∧ Blk w1 (w.heap.size + 1) 23 (two b) ∧ ∃ n, Own w1 n 23 v []) := ⟨(((Below.refl _ _).alloc (Nat.le_refl _) _).alloc (by simp) _).trans (hb.mono (by simp; omega)), by have := hb.size; simp at this; omega, ((Blk.new _ _ (two a)).alloc _).grow hb, (Blk.newAt _ _ (two b) (by simp)).grow hb, _, ho⟩
  obtain ⟨ao, c, hv⟩ := ho.row.shape
  have HV := Lib.hid hv
  rw [hv]
  clear hb ho hv
  simp only [List.length_nil]
  go_wp2_with fail
  refine (HAW.out _).mono ?_
  rintro e w2 ⟨rfl, hb⟩
  have S1 : Hid (Below w.heap.size w w2 ∧ w.heap.size ≤ w2.heap.size ∧ Blk w2 w.heap.size 23 (two a) ∧ Blk w2 (w.heap.size + 1) 23 (two b) ∧ ∃ n, Own w2 n 23 v []) := ⟨S0.out.1.trans (hb.mono S0.out.2.1), Nat.le_trans S0.out.2.1 hb.size, S0.out.2.2.1.grow hb, S0.out.2.2.2.1.grow hb, by obtain ⟨n, hn⟩ := S0.out.2.2.2.2; exact ⟨n, hn.grow hb⟩⟩
  clear hb S0
  go_wp2_with fail
  go_ret
  exact ⟨rfl, S1.out.1⟩
set_option maxHeartbeats 4000000 in
set_option maxRecDepth 100000 in
theorem bars_high (a b : Pt) (h : Int) (w : World) (HAW : Hid (∀ w, Calls Try.prog 6 #[] w fun e w' => e = .returned (.bool true) ∧ Below w.heap.size w w')) (h1 : ¬ h < 1) (h2 : h > 32768) (HB : Hid (∀ w, Calls Try.prog 4 #[.agg #[.int .i64 a.1, .int .i64 a.2], .agg #[.int .i64 b.1, .int .i64 b.2], .int .i64 h] w (ToldP w (30, [])))) :
    Calls Try.prog 3 #[.agg #[.int .i64 a.1, .int .i64 a.2], .agg #[.int .i64 b.1, .int .i64 b.2], .int .i64 h] w fun e w' => e = .returned (.bool true) ∧ Below w.heap.size w w' := by
  go_enter Try.func3, Try.ntmps3
  go_wp2_with fail
  refine (HB.out _).mono ?_
  rintro e w1 ⟨v, rfl, ho, hb⟩
  have S0 : Hid (Below w.heap.size w w1 ∧ w.heap.size ≤ w1.heap.size ∧ Blk w1 w.heap.size 23 (two a) ∧ Blk w1 (w.heap.size + 1) 23 (two b) ∧ ∃ n, Own w1 n 23 v []) := ⟨(((Below.refl _ _).alloc (Nat.le_refl _) _).alloc (by simp) _).trans (hb.mono (by simp; omega)), by have := hb.size; simp at this; omega, ((Blk.new _ _ (two a)).alloc _).grow hb, (Blk.newAt _ _ (two b) (by simp)).grow hb, _, ho⟩
  obtain ⟨ao, c, hv⟩ := ho.row.shape
  have HV := Lib.hid hv
  rw [hv]
  clear hb ho hv
  simp only [List.length_nil]
  go_wp2_with fail
  refine (HAW.out _).mono ?_
  rintro e w2 ⟨rfl, hb⟩
  have S1 : Hid (Below w.heap.size w w2 ∧ w.heap.size ≤ w2.heap.size ∧ Blk w2 w.heap.size 23 (two a) ∧ Blk w2 (w.heap.size + 1) 23 (two b) ∧ ∃ n, Own w2 n 23 v []) := ⟨S0.out.1.trans (hb.mono S0.out.2.1), Nat.le_trans S0.out.2.1 hb.size, S0.out.2.2.1.grow hb, S0.out.2.2.2.1.grow hb, by obtain ⟨n, hn⟩ := S0.out.2.2.2.2; exact ⟨n, hn.grow hb⟩⟩
  clear hb S0
  go_wp2_with fail
  go_ret
  exact ⟨rfl, S1.out.1⟩
set_option maxHeartbeats 4000000 in
set_option maxRecDepth 100000 in
theorem bars_a (a b : Pt) (h : Int) (w : World) (HAW : Hid (∀ w, Calls Try.prog 6 #[] w fun e w' => e = .returned (.bool true) ∧ Below w.heap.size w w')) (h1 : ¬ h < 1) (h2 : ¬ h > 32768) (HIA : Hid (∀ w, Calls Try.prog 5 #[.agg #[.int .i64 a.1, .int .i64 a.2]] w fun e w' => e = .returned (.bool false) ∧ Below w.heap.size w w')) (HB : Hid (∀ w, Calls Try.prog 4 #[.agg #[.int .i64 a.1, .int .i64 a.2], .agg #[.int .i64 b.1, .int .i64 b.2], .int .i64 h] w (ToldP w (30, [])))) :
    Calls Try.prog 3 #[.agg #[.int .i64 a.1, .int .i64 a.2], .agg #[.int .i64 b.1, .int .i64 b.2], .int .i64 h] w fun e w' => e = .returned (.bool true) ∧ Below w.heap.size w w' := by
  go_enter Try.func3, Try.ntmps3
  go_wp2_with fail
  refine (HB.out _).mono ?_
  rintro e w1 ⟨v, rfl, ho, hb⟩
  have S0 : Hid (Below w.heap.size w w1 ∧ w.heap.size ≤ w1.heap.size ∧ Blk w1 w.heap.size 23 (two a) ∧ Blk w1 (w.heap.size + 1) 23 (two b) ∧ ∃ n, Own w1 n 23 v []) := ⟨(((Below.refl _ _).alloc (Nat.le_refl _) _).alloc (by simp) _).trans (hb.mono (by simp; omega)), by have := hb.size; simp at this; omega, ((Blk.new _ _ (two a)).alloc _).grow hb, (Blk.newAt _ _ (two b) (by simp)).grow hb, _, ho⟩
  obtain ⟨ao, c, hv⟩ := ho.row.shape
  have HV := Lib.hid hv
  rw [hv]
  clear hb ho hv
  simp only [List.length_nil]
  have kk := S0.out.2.2.1
  have a0 := kk.p0
  have a1 := kk.p1
  clear kk
  go_wp2_with fail
  refine (HIA.out _).mono ?_
  rintro e w2 ⟨rfl, hb⟩
  have S1 : Hid (Below w.heap.size w w2 ∧ w.heap.size ≤ w2.heap.size ∧ Blk w2 w.heap.size 23 (two a) ∧ Blk w2 (w.heap.size + 1) 23 (two b) ∧ ∃ n, Own w2 n 23 v []) := ⟨S0.out.1.trans (hb.mono S0.out.2.1), Nat.le_trans S0.out.2.1 hb.size, S0.out.2.2.1.grow hb, S0.out.2.2.2.1.grow hb, by obtain ⟨n, hn⟩ := S0.out.2.2.2.2; exact ⟨n, hn.grow hb⟩⟩
  clear hb S0
  clear a0 a1
  go_wp2_with fail
  refine (HAW.out _).mono ?_
  rintro e w3 ⟨rfl, hb⟩
  have S2 : Hid (Below w.heap.size w w3 ∧ w.heap.size ≤ w3.heap.size ∧ Blk w3 w.heap.size 23 (two a) ∧ Blk w3 (w.heap.size + 1) 23 (two b) ∧ ∃ n, Own w3 n 23 v []) := ⟨S1.out.1.trans (hb.mono S1.out.2.1), Nat.le_trans S1.out.2.1 hb.size, S1.out.2.2.1.grow hb, S1.out.2.2.2.1.grow hb, by obtain ⟨n, hn⟩ := S1.out.2.2.2.2; exact ⟨n, hn.grow hb⟩⟩
  clear hb S1
  go_wp2_with fail
  go_ret
  exact ⟨rfl, S2.out.1⟩
set_option maxHeartbeats 4000000 in
set_option maxRecDepth 100000 in
theorem bars_b (a b : Pt) (h : Int) (w : World) (HAW : Hid (∀ w, Calls Try.prog 6 #[] w fun e w' => e = .returned (.bool true) ∧ Below w.heap.size w w')) (h1 : ¬ h < 1) (h2 : ¬ h > 32768) (HIA : Hid (∀ w, Calls Try.prog 5 #[.agg #[.int .i64 a.1, .int .i64 a.2]] w fun e w' => e = .returned (.bool true) ∧ Below w.heap.size w w')) (HIB : Hid (∀ w, Calls Try.prog 5 #[.agg #[.int .i64 b.1, .int .i64 b.2]] w fun e w' => e = .returned (.bool false) ∧ Below w.heap.size w w')) (HB : Hid (∀ w, Calls Try.prog 4 #[.agg #[.int .i64 a.1, .int .i64 a.2], .agg #[.int .i64 b.1, .int .i64 b.2], .int .i64 h] w (ToldP w (30, [])))) :
    Calls Try.prog 3 #[.agg #[.int .i64 a.1, .int .i64 a.2], .agg #[.int .i64 b.1, .int .i64 b.2], .int .i64 h] w fun e w' => e = .returned (.bool true) ∧ Below w.heap.size w w' := by
  go_enter Try.func3, Try.ntmps3
  go_wp2_with fail
  refine (HB.out _).mono ?_
  rintro e w1 ⟨v, rfl, ho, hb⟩
  have S0 : Hid (Below w.heap.size w w1 ∧ w.heap.size ≤ w1.heap.size ∧ Blk w1 w.heap.size 23 (two a) ∧ Blk w1 (w.heap.size + 1) 23 (two b) ∧ ∃ n, Own w1 n 23 v []) := ⟨(((Below.refl _ _).alloc (Nat.le_refl _) _).alloc (by simp) _).trans (hb.mono (by simp; omega)), by have := hb.size; simp at this; omega, ((Blk.new _ _ (two a)).alloc _).grow hb, (Blk.newAt _ _ (two b) (by simp)).grow hb, _, ho⟩
  obtain ⟨ao, c, hv⟩ := ho.row.shape
  have HV := Lib.hid hv
  rw [hv]
  clear hb ho hv
  simp only [List.length_nil]
  have kk := S0.out.2.2.1
  have a0 := kk.p0
  have a1 := kk.p1
  clear kk
  go_wp2_with fail
  refine (HIA.out _).mono ?_
  rintro e w2 ⟨rfl, hb⟩
  have S1 : Hid (Below w.heap.size w w2 ∧ w.heap.size ≤ w2.heap.size ∧ Blk w2 w.heap.size 23 (two a) ∧ Blk w2 (w.heap.size + 1) 23 (two b) ∧ ∃ n, Own w2 n 23 v []) := ⟨S0.out.1.trans (hb.mono S0.out.2.1), Nat.le_trans S0.out.2.1 hb.size, S0.out.2.2.1.grow hb, S0.out.2.2.2.1.grow hb, by obtain ⟨n, hn⟩ := S0.out.2.2.2.2; exact ⟨n, hn.grow hb⟩⟩
  clear hb S0
  clear a0 a1
  have kk := S1.out.2.2.2.1
  have b0 := kk.p0
  have b1 := kk.p1
  clear kk
  go_wp2_with fail
  refine (HIB.out _).mono ?_
  rintro e w3 ⟨rfl, hb⟩
  have S2 : Hid (Below w.heap.size w w3 ∧ w.heap.size ≤ w3.heap.size ∧ Blk w3 w.heap.size 23 (two a) ∧ Blk w3 (w.heap.size + 1) 23 (two b) ∧ ∃ n, Own w3 n 23 v []) := ⟨S1.out.1.trans (hb.mono S1.out.2.1), Nat.le_trans S1.out.2.1 hb.size, S1.out.2.2.1.grow hb, S1.out.2.2.2.1.grow hb, by obtain ⟨n, hn⟩ := S1.out.2.2.2.2; exact ⟨n, hn.grow hb⟩⟩
  clear hb S1
  clear b0 b1
  go_wp2_with fail
  refine (HAW.out _).mono ?_
  rintro e w4 ⟨rfl, hb⟩
  have S3 : Hid (Below w.heap.size w w4 ∧ w.heap.size ≤ w4.heap.size ∧ Blk w4 w.heap.size 23 (two a) ∧ Blk w4 (w.heap.size + 1) 23 (two b) ∧ ∃ n, Own w4 n 23 v []) := ⟨S2.out.1.trans (hb.mono S2.out.2.1), Nat.le_trans S2.out.2.1 hb.size, S2.out.2.2.1.grow hb, S2.out.2.2.2.1.grow hb, by obtain ⟨n, hn⟩ := S2.out.2.2.2.2; exact ⟨n, hn.grow hb⟩⟩
  clear hb S2
  go_wp2_with fail
  go_ret
  exact ⟨rfl, S3.out.1⟩
set_option maxHeartbeats 4000000 in
set_option maxRecDepth 100000 in
theorem bars_same (a b : Pt) (h : Int) (w : World) (HAW : Hid (∀ w, Calls Try.prog 6 #[] w fun e w' => e = .returned (.bool true) ∧ Below w.heap.size w w')) (h1 : ¬ h < 1) (h2 : ¬ h > 32768) (HIA : Hid (∀ w, Calls Try.prog 5 #[.agg #[.int .i64 a.1, .int .i64 a.2]] w fun e w' => e = .returned (.bool true) ∧ Below w.heap.size w w')) (HIB : Hid (∀ w, Calls Try.prog 5 #[.agg #[.int .i64 b.1, .int .i64 b.2]] w fun e w' => e = .returned (.bool true) ∧ Below w.heap.size w w')) (_hx : a.1 = b.1 ↔ True) (_hy : a.2 = b.2 ↔ True) (HB : Hid (∀ w, Calls Try.prog 4 #[.agg #[.int .i64 a.1, .int .i64 a.2], .agg #[.int .i64 b.1, .int .i64 b.2], .int .i64 h] w (ToldP w (30, [])))) :
    Calls Try.prog 3 #[.agg #[.int .i64 a.1, .int .i64 a.2], .agg #[.int .i64 b.1, .int .i64 b.2], .int .i64 h] w fun e w' => e = .returned (.bool true) ∧ Below w.heap.size w w' := by
  go_enter Try.func3, Try.ntmps3
  go_wp2_with fail
  refine (HB.out _).mono ?_
  rintro e w1 ⟨v, rfl, ho, hb⟩
  have S0 : Hid (Below w.heap.size w w1 ∧ w.heap.size ≤ w1.heap.size ∧ Blk w1 w.heap.size 23 (two a) ∧ Blk w1 (w.heap.size + 1) 23 (two b) ∧ ∃ n, Own w1 n 23 v []) := ⟨(((Below.refl _ _).alloc (Nat.le_refl _) _).alloc (by simp) _).trans (hb.mono (by simp; omega)), by have := hb.size; simp at this; omega, ((Blk.new _ _ (two a)).alloc _).grow hb, (Blk.newAt _ _ (two b) (by simp)).grow hb, _, ho⟩
  obtain ⟨ao, c, hv⟩ := ho.row.shape
  have HV := Lib.hid hv
  rw [hv]
  clear hb ho hv
  simp only [List.length_nil]
  have kk := S0.out.2.2.1
  have a0 := kk.p0
  have a1 := kk.p1
  clear kk
  go_wp2_with fail
  refine (HIA.out _).mono ?_
  rintro e w2 ⟨rfl, hb⟩
  have S1 : Hid (Below w.heap.size w w2 ∧ w.heap.size ≤ w2.heap.size ∧ Blk w2 w.heap.size 23 (two a) ∧ Blk w2 (w.heap.size + 1) 23 (two b) ∧ ∃ n, Own w2 n 23 v []) := ⟨S0.out.1.trans (hb.mono S0.out.2.1), Nat.le_trans S0.out.2.1 hb.size, S0.out.2.2.1.grow hb, S0.out.2.2.2.1.grow hb, by obtain ⟨n, hn⟩ := S0.out.2.2.2.2; exact ⟨n, hn.grow hb⟩⟩
  clear hb S0
  clear a0 a1
  have kk := S1.out.2.2.2.1
  have b0 := kk.p0
  have b1 := kk.p1
  clear kk
  go_wp2_with fail
  refine (HIB.out _).mono ?_
  rintro e w3 ⟨rfl, hb⟩
  have S2 : Hid (Below w.heap.size w w3 ∧ w.heap.size ≤ w3.heap.size ∧ Blk w3 w.heap.size 23 (two a) ∧ Blk w3 (w.heap.size + 1) 23 (two b) ∧ ∃ n, Own w3 n 23 v []) := ⟨S1.out.1.trans (hb.mono S1.out.2.1), Nat.le_trans S1.out.2.1 hb.size, S1.out.2.2.1.grow hb, S1.out.2.2.2.1.grow hb, by obtain ⟨n, hn⟩ := S1.out.2.2.2.2; exact ⟨n, hn.grow hb⟩⟩
  clear hb S1
  clear b0 b1
  have kk := S2.out.2.2.1
  have a0 := kk.p0
  have a1 := kk.p1
  clear kk
  have kk := S2.out.2.2.2.1
  have b0 := kk.p0
  have b1 := kk.p1
  clear kk
  go_wp2_with fail
  refine (HAW.out _).mono ?_
  rintro e w4 ⟨rfl, hb⟩
  have S3 : Hid (Below w.heap.size w w4 ∧ w.heap.size ≤ w4.heap.size ∧ Blk w4 w.heap.size 23 (two a) ∧ Blk w4 (w.heap.size + 1) 23 (two b) ∧ ∃ n, Own w4 n 23 v []) := ⟨S2.out.1.trans (hb.mono S2.out.2.1), Nat.le_trans S2.out.2.1 hb.size, S2.out.2.2.1.grow hb, S2.out.2.2.2.1.grow hb, by obtain ⟨n, hn⟩ := S2.out.2.2.2.2; exact ⟨n, hn.grow hb⟩⟩
  clear hb S2
  go_wp2_with fail
  go_ret
  exact ⟨rfl, S3.out.1⟩
set_option maxHeartbeats 4000000 in
set_option maxRecDepth 100000 in
theorem bars_long1 (a b : Pt) (h : Int) (w : World) (HAW : Hid (∀ w, Calls Try.prog 6 #[] w fun e w' => e = .returned (.bool true) ∧ Below w.heap.size w w')) (h1 : ¬ h < 1) (h2 : ¬ h > 32768) (HIA : Hid (∀ w, Calls Try.prog 5 #[.agg #[.int .i64 a.1, .int .i64 a.2]] w fun e w' => e = .returned (.bool true) ∧ Below w.heap.size w w')) (HIB : Hid (∀ w, Calls Try.prog 5 #[.agg #[.int .i64 b.1, .int .i64 b.2]] w fun e w' => e = .returned (.bool true) ∧ Below w.heap.size w w')) (hx : ¬ a.1 = b.1) (HLONG : Hid (∀ w, Calls Try.prog 7 #[.agg #[.int .i64 a.1, .int .i64 a.2], .agg #[.int .i64 b.1, .int .i64 b.2]] w fun e w' => e = .returned (.bool true) ∧ Below w.heap.size w w')) (HB : Hid (∀ w, Calls Try.prog 4 #[.agg #[.int .i64 a.1, .int .i64 a.2], .agg #[.int .i64 b.1, .int .i64 b.2], .int .i64 h] w (ToldP w (10, [])))) :
    Calls Try.prog 3 #[.agg #[.int .i64 a.1, .int .i64 a.2], .agg #[.int .i64 b.1, .int .i64 b.2], .int .i64 h] w fun e w' => e = .returned (.bool true) ∧ Below w.heap.size w w' := by
  go_enter Try.func3, Try.ntmps3
  go_wp2_with fail
  refine (HB.out _).mono ?_
  rintro e w1 ⟨v, rfl, ho, hb⟩
  have S0 : Hid (Below w.heap.size w w1 ∧ w.heap.size ≤ w1.heap.size ∧ Blk w1 w.heap.size 23 (two a) ∧ Blk w1 (w.heap.size + 1) 23 (two b) ∧ ∃ n, Own w1 n 23 v []) := ⟨(((Below.refl _ _).alloc (Nat.le_refl _) _).alloc (by simp) _).trans (hb.mono (by simp; omega)), by have := hb.size; simp at this; omega, ((Blk.new _ _ (two a)).alloc _).grow hb, (Blk.newAt _ _ (two b) (by simp)).grow hb, _, ho⟩
  obtain ⟨ao, c, hv⟩ := ho.row.shape
  have HV := Lib.hid hv
  rw [hv]
  clear hb ho hv
  simp only [List.length_nil]
  have kk := S0.out.2.2.1
  have a0 := kk.p0
  have a1 := kk.p1
  clear kk
  go_wp2_with fail
  refine (HIA.out _).mono ?_
  rintro e w2 ⟨rfl, hb⟩
  have S1 : Hid (Below w.heap.size w w2 ∧ w.heap.size ≤ w2.heap.size ∧ Blk w2 w.heap.size 23 (two a) ∧ Blk w2 (w.heap.size + 1) 23 (two b) ∧ ∃ n, Own w2 n 23 v []) := ⟨S0.out.1.trans (hb.mono S0.out.2.1), Nat.le_trans S0.out.2.1 hb.size, S0.out.2.2.1.grow hb, S0.out.2.2.2.1.grow hb, by obtain ⟨n, hn⟩ := S0.out.2.2.2.2; exact ⟨n, hn.grow hb⟩⟩
  clear hb S0
  clear a0 a1
  have kk := S1.out.2.2.2.1
  have b0 := kk.p0
  have b1 := kk.p1
  clear kk
  go_wp2_with fail
  refine (HIB.out _).mono ?_
  rintro e w3 ⟨rfl, hb⟩
  have S2 : Hid (Below w.heap.size w w3 ∧ w.heap.size ≤ w3.heap.size ∧ Blk w3 w.heap.size 23 (two a) ∧ Blk w3 (w.heap.size + 1) 23 (two b) ∧ ∃ n, Own w3 n 23 v []) := ⟨S1.out.1.trans (hb.mono S1.out.2.1), Nat.le_trans S1.out.2.1 hb.size, S1.out.2.2.1.grow hb, S1.out.2.2.2.1.grow hb, by obtain ⟨n, hn⟩ := S1.out.2.2.2.2; exact ⟨n, hn.grow hb⟩⟩
  clear hb S1
  clear b0 b1
  have kk := S2.out.2.2.1
  have a0 := kk.p0
  have a1 := kk.p1
  clear kk
  have kk := S2.out.2.2.2.1
  have b0 := kk.p0
  have b1 := kk.p1
  clear kk
  go_wp2_with fail
  clear a0 a1 b0 b1
  refine wp_region_quiet (C := Out w3) (by kernel_rfl) (by kernel_rfl) ⟨rfl, rfl, rfl, Nat.le_refl _, fun _ _ => rfl⟩ ?_
  refine BigFrame.wpQuiet_want rfl (fun K hK => ?_)
  refine quiet_val (.agg #[.int .i64 a.1, .int .i64 a.2]) (fun w' hw' => by have kk := S2.out.2.2.1.on hw' (S2.out.2.2.1.lt); have x0 := kk.p0; have x1 := kk.p1; clear kk; go_simp) (hK _ ?_)
  clear hK K
  simp only [Act.put, List.setIfInBounds_toArray, List.set_cons_zero, List.set_cons_succ]
  refine BigFrame.wpQuiet_want rfl (fun K hK => ?_)
  refine quiet_call 8 #[.agg #[.int .i64 a.1, .int .i64 a.2]] (.agg #[.int .i64 a.1, .int .i64 a.2]) (fun w' _ => by go_simp) (fun w' hw' => Calls.out hw' (ref1_c _ _ _)) (hK _ ?_)
  clear hK K
  simp only [Act.put, List.setIfInBounds_toArray, List.set_cons_zero, List.set_cons_succ]
  refine BigFrame.wpQuiet_want rfl (fun K hK => ?_)
  refine quiet_val (.agg #[.int .i64 b.1, .int .i64 b.2]) (fun w' hw' => by have kk := S2.out.2.2.2.1.on hw' (S2.out.2.2.2.1.lt); have x0 := kk.p0; have x1 := kk.p1; clear kk; go_simp) (hK _ ?_)
  clear hK K
  simp only [Act.put, List.setIfInBounds_toArray, List.set_cons_zero, List.set_cons_succ]
  refine BigFrame.wpQuiet_want rfl (fun K hK => ?_)
  refine quiet_call 8 #[.agg #[.int .i64 b.1, .int .i64 b.2]] (.agg #[.int .i64 b.1, .int .i64 b.2]) (fun w' _ => by go_simp) (fun w' hw' => Calls.out hw' (ref1_c _ _ _)) (hK _ ?_)
  clear hK K
  simp only [Act.put, List.setIfInBounds_toArray, List.set_cons_zero, List.set_cons_succ]
  refine BigFrame.wpQuiet_want rfl (fun K hK => ?_)
  refine quiet_call 7 #[.agg #[.int .i64 a.1, .int .i64 a.2], .agg #[.int .i64 b.1, .int .i64 b.2]] (.bool true) (fun w' _ => by go_simp) (fun w' hw' => Calls.out hw' (HLONG.out _)) (hK _ ?_)
  clear hK K
  simp only [Act.put, List.setIfInBounds_toArray, List.set_cons_zero, List.set_cons_succ]
  refine BigFrame.wpQuiet_want rfl (fun K hK => ?_)
  refine quiet_val (.bool true) (fun w' hw' => by go_simp) (hK _ ?_)
  clear hK K
  simp only [Act.put, List.setIfInBounds_toArray, List.set_cons_zero, List.set_cons_succ]
  refine wpQuiet_nil ?_
  intro w4 hb
  have S3 : Hid (Below w.heap.size w w4 ∧ w.heap.size ≤ w4.heap.size ∧ Blk w4 w.heap.size 23 (two a) ∧ Blk w4 (w.heap.size + 1) 23 (two b) ∧ ∃ n, Own w4 n 23 v []) := ⟨S2.out.1.trans (hb.mono S2.out.2.1), Nat.le_trans S2.out.2.1 hb.size, S2.out.2.2.1.grow hb, S2.out.2.2.2.1.grow hb, by obtain ⟨n, hn⟩ := S2.out.2.2.2.2; exact ⟨n, hn.grow hb⟩⟩
  clear hb S2
  go_wp2_with fail
  refine (HAW.out _).mono ?_
  rintro e w5 ⟨rfl, hb⟩
  have S4 : Hid (Below w.heap.size w w5 ∧ w.heap.size ≤ w5.heap.size ∧ Blk w5 w.heap.size 23 (two a) ∧ Blk w5 (w.heap.size + 1) 23 (two b) ∧ ∃ n, Own w5 n 23 v []) := ⟨S3.out.1.trans (hb.mono S3.out.2.1), Nat.le_trans S3.out.2.1 hb.size, S3.out.2.2.1.grow hb, S3.out.2.2.2.1.grow hb, by obtain ⟨n, hn⟩ := S3.out.2.2.2.2; exact ⟨n, hn.grow hb⟩⟩
  clear hb S3
  go_wp2_with fail
  go_ret
  exact ⟨rfl, S4.out.1⟩
set_option maxHeartbeats 4000000 in
set_option maxRecDepth 100000 in
theorem bars_long2 (a b : Pt) (h : Int) (w : World) (HAW : Hid (∀ w, Calls Try.prog 6 #[] w fun e w' => e = .returned (.bool true) ∧ Below w.heap.size w w')) (h1 : ¬ h < 1) (h2 : ¬ h > 32768) (HIA : Hid (∀ w, Calls Try.prog 5 #[.agg #[.int .i64 a.1, .int .i64 a.2]] w fun e w' => e = .returned (.bool true) ∧ Below w.heap.size w w')) (HIB : Hid (∀ w, Calls Try.prog 5 #[.agg #[.int .i64 b.1, .int .i64 b.2]] w fun e w' => e = .returned (.bool true) ∧ Below w.heap.size w w')) (_hx : a.1 = b.1 ↔ True) (hy : ¬ a.2 = b.2) (HLONG : Hid (∀ w, Calls Try.prog 7 #[.agg #[.int .i64 a.1, .int .i64 a.2], .agg #[.int .i64 b.1, .int .i64 b.2]] w fun e w' => e = .returned (.bool true) ∧ Below w.heap.size w w')) (HB : Hid (∀ w, Calls Try.prog 4 #[.agg #[.int .i64 a.1, .int .i64 a.2], .agg #[.int .i64 b.1, .int .i64 b.2], .int .i64 h] w (ToldP w (10, [])))) :
    Calls Try.prog 3 #[.agg #[.int .i64 a.1, .int .i64 a.2], .agg #[.int .i64 b.1, .int .i64 b.2], .int .i64 h] w fun e w' => e = .returned (.bool true) ∧ Below w.heap.size w w' := by
  go_enter Try.func3, Try.ntmps3
  go_wp2_with fail
  refine (HB.out _).mono ?_
  rintro e w1 ⟨v, rfl, ho, hb⟩
  have S0 : Hid (Below w.heap.size w w1 ∧ w.heap.size ≤ w1.heap.size ∧ Blk w1 w.heap.size 23 (two a) ∧ Blk w1 (w.heap.size + 1) 23 (two b) ∧ ∃ n, Own w1 n 23 v []) := ⟨(((Below.refl _ _).alloc (Nat.le_refl _) _).alloc (by simp) _).trans (hb.mono (by simp; omega)), by have := hb.size; simp at this; omega, ((Blk.new _ _ (two a)).alloc _).grow hb, (Blk.newAt _ _ (two b) (by simp)).grow hb, _, ho⟩
  obtain ⟨ao, c, hv⟩ := ho.row.shape
  have HV := Lib.hid hv
  rw [hv]
  clear hb ho hv
  simp only [List.length_nil]
  have kk := S0.out.2.2.1
  have a0 := kk.p0
  have a1 := kk.p1
  clear kk
  go_wp2_with fail
  refine (HIA.out _).mono ?_
  rintro e w2 ⟨rfl, hb⟩
  have S1 : Hid (Below w.heap.size w w2 ∧ w.heap.size ≤ w2.heap.size ∧ Blk w2 w.heap.size 23 (two a) ∧ Blk w2 (w.heap.size + 1) 23 (two b) ∧ ∃ n, Own w2 n 23 v []) := ⟨S0.out.1.trans (hb.mono S0.out.2.1), Nat.le_trans S0.out.2.1 hb.size, S0.out.2.2.1.grow hb, S0.out.2.2.2.1.grow hb, by obtain ⟨n, hn⟩ := S0.out.2.2.2.2; exact ⟨n, hn.grow hb⟩⟩
  clear hb S0
  clear a0 a1
  have kk := S1.out.2.2.2.1
  have b0 := kk.p0
  have b1 := kk.p1
  clear kk
  go_wp2_with fail
  refine (HIB.out _).mono ?_
  rintro e w3 ⟨rfl, hb⟩
  have S2 : Hid (Below w.heap.size w w3 ∧ w.heap.size ≤ w3.heap.size ∧ Blk w3 w.heap.size 23 (two a) ∧ Blk w3 (w.heap.size + 1) 23 (two b) ∧ ∃ n, Own w3 n 23 v []) := ⟨S1.out.1.trans (hb.mono S1.out.2.1), Nat.le_trans S1.out.2.1 hb.size, S1.out.2.2.1.grow hb, S1.out.2.2.2.1.grow hb, by obtain ⟨n, hn⟩ := S1.out.2.2.2.2; exact ⟨n, hn.grow hb⟩⟩
  clear hb S1
  clear b0 b1
  have kk := S2.out.2.2.1
  have a0 := kk.p0
  have a1 := kk.p1
  clear kk
  have kk := S2.out.2.2.2.1
  have b0 := kk.p0
  have b1 := kk.p1
  clear kk
  go_wp2_with fail
  clear a0 a1 b0 b1
  refine wp_region_quiet (C := Out w3) (by kernel_rfl) (by kernel_rfl) ⟨rfl, rfl, rfl, Nat.le_refl _, fun _ _ => rfl⟩ ?_
  refine BigFrame.wpQuiet_want rfl (fun K hK => ?_)
  refine quiet_val (.agg #[.int .i64 a.1, .int .i64 a.2]) (fun w' hw' => by have kk := S2.out.2.2.1.on hw' (S2.out.2.2.1.lt); have x0 := kk.p0; have x1 := kk.p1; clear kk; go_simp) (hK _ ?_)
  clear hK K
  simp only [Act.put, List.setIfInBounds_toArray, List.set_cons_zero, List.set_cons_succ]
  refine BigFrame.wpQuiet_want rfl (fun K hK => ?_)
  refine quiet_call 8 #[.agg #[.int .i64 a.1, .int .i64 a.2]] (.agg #[.int .i64 a.1, .int .i64 a.2]) (fun w' _ => by go_simp) (fun w' hw' => Calls.out hw' (ref1_c _ _ _)) (hK _ ?_)
  clear hK K
  simp only [Act.put, List.setIfInBounds_toArray, List.set_cons_zero, List.set_cons_succ]
  refine BigFrame.wpQuiet_want rfl (fun K hK => ?_)
  refine quiet_val (.agg #[.int .i64 b.1, .int .i64 b.2]) (fun w' hw' => by have kk := S2.out.2.2.2.1.on hw' (S2.out.2.2.2.1.lt); have x0 := kk.p0; have x1 := kk.p1; clear kk; go_simp) (hK _ ?_)
  clear hK K
  simp only [Act.put, List.setIfInBounds_toArray, List.set_cons_zero, List.set_cons_succ]
  refine BigFrame.wpQuiet_want rfl (fun K hK => ?_)
  refine quiet_call 8 #[.agg #[.int .i64 b.1, .int .i64 b.2]] (.agg #[.int .i64 b.1, .int .i64 b.2]) (fun w' _ => by go_simp) (fun w' hw' => Calls.out hw' (ref1_c _ _ _)) (hK _ ?_)
  clear hK K
  simp only [Act.put, List.setIfInBounds_toArray, List.set_cons_zero, List.set_cons_succ]
  refine BigFrame.wpQuiet_want rfl (fun K hK => ?_)
  refine quiet_call 7 #[.agg #[.int .i64 a.1, .int .i64 a.2], .agg #[.int .i64 b.1, .int .i64 b.2]] (.bool true) (fun w' _ => by go_simp) (fun w' hw' => Calls.out hw' (HLONG.out _)) (hK _ ?_)
  clear hK K
  simp only [Act.put, List.setIfInBounds_toArray, List.set_cons_zero, List.set_cons_succ]
  refine BigFrame.wpQuiet_want rfl (fun K hK => ?_)
  refine quiet_val (.bool true) (fun w' hw' => by go_simp) (hK _ ?_)
  clear hK K
  simp only [Act.put, List.setIfInBounds_toArray, List.set_cons_zero, List.set_cons_succ]
  refine wpQuiet_nil ?_
  intro w4 hb
  have S3 : Hid (Below w.heap.size w w4 ∧ w.heap.size ≤ w4.heap.size ∧ Blk w4 w.heap.size 23 (two a) ∧ Blk w4 (w.heap.size + 1) 23 (two b) ∧ ∃ n, Own w4 n 23 v []) := ⟨S2.out.1.trans (hb.mono S2.out.2.1), Nat.le_trans S2.out.2.1 hb.size, S2.out.2.2.1.grow hb, S2.out.2.2.2.1.grow hb, by obtain ⟨n, hn⟩ := S2.out.2.2.2.2; exact ⟨n, hn.grow hb⟩⟩
  clear hb S2
  go_wp2_with fail
  refine (HAW.out _).mono ?_
  rintro e w5 ⟨rfl, hb⟩
  have S4 : Hid (Below w.heap.size w w5 ∧ w.heap.size ≤ w5.heap.size ∧ Blk w5 w.heap.size 23 (two a) ∧ Blk w5 (w.heap.size + 1) 23 (two b) ∧ ∃ n, Own w5 n 23 v []) := ⟨S3.out.1.trans (hb.mono S3.out.2.1), Nat.le_trans S3.out.2.1 hb.size, S3.out.2.2.1.grow hb, S3.out.2.2.2.1.grow hb, by obtain ⟨n, hn⟩ := S3.out.2.2.2.2; exact ⟨n, hn.grow hb⟩⟩
  clear hb S3
  go_wp2_with fail
  go_ret
  exact ⟨rfl, S4.out.1⟩
set_option maxHeartbeats 4000000 in
set_option maxRecDepth 100000 in
theorem bars_out1 (a b : Pt) (h : Int) (w : World) (HAW : Hid (∀ w, Calls Try.prog 6 #[] w fun e w' => e = .returned (.bool true) ∧ Below w.heap.size w w')) (h1 : ¬ h < 1) (h2 : ¬ h > 32768) (HIA : Hid (∀ w, Calls Try.prog 5 #[.agg #[.int .i64 a.1, .int .i64 a.2]] w fun e w' => e = .returned (.bool true) ∧ Below w.heap.size w w')) (HIB : Hid (∀ w, Calls Try.prog 5 #[.agg #[.int .i64 b.1, .int .i64 b.2]] w fun e w' => e = .returned (.bool true) ∧ Below w.heap.size w w')) (hx : ¬ a.1 = b.1) (HLONG : Hid (∀ w, Calls Try.prog 7 #[.agg #[.int .i64 a.1, .int .i64 a.2], .agg #[.int .i64 b.1, .int .i64 b.2]] w fun e w' => e = .returned (.bool false) ∧ Below w.heap.size w w')) (L : List Pt) (HRB : Hid (∀ w, Calls Try.prog 9 #[.agg #[.int .i64 a.1, .int .i64 a.2], .agg #[.int .i64 b.1, .int .i64 b.2], .int .i64 h] w fun e w' => ∃ v, e = .returned v ∧ Own w' w.heap.size 31 v L ∧ Below w.heap.size w w')) (HLEN : Hid (L.length ≤ 100000)) (HALL : Hid (L.all roomP = false)) (HB : Hid (∀ w, Calls Try.prog 4 #[.agg #[.int .i64 a.1, .int .i64 a.2], .agg #[.int .i64 b.1, .int .i64 b.2], .int .i64 h] w (ToldP w (10, [])))) :
    Calls Try.prog 3 #[.agg #[.int .i64 a.1, .int .i64 a.2], .agg #[.int .i64 b.1, .int .i64 b.2], .int .i64 h] w fun e w' => e = .returned (.bool true) ∧ Below w.heap.size w w' := by
  go_enter Try.func3, Try.ntmps3
  go_wp2_with fail
  refine (HB.out _).mono ?_
  rintro e w1 ⟨v, rfl, ho, hb⟩
  have S0 : Hid (Below w.heap.size w w1 ∧ w.heap.size ≤ w1.heap.size ∧ Blk w1 w.heap.size 23 (two a) ∧ Blk w1 (w.heap.size + 1) 23 (two b) ∧ ∃ n, Own w1 n 23 v []) := ⟨(((Below.refl _ _).alloc (Nat.le_refl _) _).alloc (by simp) _).trans (hb.mono (by simp; omega)), by have := hb.size; simp at this; omega, ((Blk.new _ _ (two a)).alloc _).grow hb, (Blk.newAt _ _ (two b) (by simp)).grow hb, _, ho⟩
  obtain ⟨ao, c, hv⟩ := ho.row.shape
  have HV := Lib.hid hv
  rw [hv]
  clear hb ho hv
  simp only [List.length_nil]
  have kk := S0.out.2.2.1
  have a0 := kk.p0
  have a1 := kk.p1
  clear kk
  go_wp2_with fail
  refine (HIA.out _).mono ?_
  rintro e w2 ⟨rfl, hb⟩
  have S1 : Hid (Below w.heap.size w w2 ∧ w.heap.size ≤ w2.heap.size ∧ Blk w2 w.heap.size 23 (two a) ∧ Blk w2 (w.heap.size + 1) 23 (two b) ∧ ∃ n, Own w2 n 23 v []) := ⟨S0.out.1.trans (hb.mono S0.out.2.1), Nat.le_trans S0.out.2.1 hb.size, S0.out.2.2.1.grow hb, S0.out.2.2.2.1.grow hb, by obtain ⟨n, hn⟩ := S0.out.2.2.2.2; exact ⟨n, hn.grow hb⟩⟩
  clear hb S0
  clear a0 a1
  have kk := S1.out.2.2.2.1
  have b0 := kk.p0
  have b1 := kk.p1
  clear kk
  go_wp2_with fail
  refine (HIB.out _).mono ?_
  rintro e w3 ⟨rfl, hb⟩
  have S2 : Hid (Below w.heap.size w w3 ∧ w.heap.size ≤ w3.heap.size ∧ Blk w3 w.heap.size 23 (two a) ∧ Blk w3 (w.heap.size + 1) 23 (two b) ∧ ∃ n, Own w3 n 23 v []) := ⟨S1.out.1.trans (hb.mono S1.out.2.1), Nat.le_trans S1.out.2.1 hb.size, S1.out.2.2.1.grow hb, S1.out.2.2.2.1.grow hb, by obtain ⟨n, hn⟩ := S1.out.2.2.2.2; exact ⟨n, hn.grow hb⟩⟩
  clear hb S1
  clear b0 b1
  have kk := S2.out.2.2.1
  have a0 := kk.p0
  have a1 := kk.p1
  clear kk
  have kk := S2.out.2.2.2.1
  have b0 := kk.p0
  have b1 := kk.p1
  clear kk
  go_wp2_with fail
  clear a0 a1 b0 b1
  refine wp_region_quiet (C := Out w3) (by kernel_rfl) (by kernel_rfl) ⟨rfl, rfl, rfl, Nat.le_refl _, fun _ _ => rfl⟩ ?_
  refine BigFrame.wpQuiet_want rfl (fun K hK => ?_)
  refine quiet_val (.agg #[.int .i64 a.1, .int .i64 a.2]) (fun w' hw' => by have kk := S2.out.2.2.1.on hw' (S2.out.2.2.1.lt); have x0 := kk.p0; have x1 := kk.p1; clear kk; go_simp) (hK _ ?_)
  clear hK K
  simp only [Act.put, List.setIfInBounds_toArray, List.set_cons_zero, List.set_cons_succ]
  refine BigFrame.wpQuiet_want rfl (fun K hK => ?_)
  refine quiet_call 8 #[.agg #[.int .i64 a.1, .int .i64 a.2]] (.agg #[.int .i64 a.1, .int .i64 a.2]) (fun w' _ => by go_simp) (fun w' hw' => Calls.out hw' (ref1_c _ _ _)) (hK _ ?_)
  clear hK K
  simp only [Act.put, List.setIfInBounds_toArray, List.set_cons_zero, List.set_cons_succ]
  refine BigFrame.wpQuiet_want rfl (fun K hK => ?_)
  refine quiet_val (.agg #[.int .i64 b.1, .int .i64 b.2]) (fun w' hw' => by have kk := S2.out.2.2.2.1.on hw' (S2.out.2.2.2.1.lt); have x0 := kk.p0; have x1 := kk.p1; clear kk; go_simp) (hK _ ?_)
  clear hK K
  simp only [Act.put, List.setIfInBounds_toArray, List.set_cons_zero, List.set_cons_succ]
  refine BigFrame.wpQuiet_want rfl (fun K hK => ?_)
  refine quiet_call 8 #[.agg #[.int .i64 b.1, .int .i64 b.2]] (.agg #[.int .i64 b.1, .int .i64 b.2]) (fun w' _ => by go_simp) (fun w' hw' => Calls.out hw' (ref1_c _ _ _)) (hK _ ?_)
  clear hK K
  simp only [Act.put, List.setIfInBounds_toArray, List.set_cons_zero, List.set_cons_succ]
  refine BigFrame.wpQuiet_want rfl (fun K hK => ?_)
  refine quiet_call 7 #[.agg #[.int .i64 a.1, .int .i64 a.2], .agg #[.int .i64 b.1, .int .i64 b.2]] (.bool false) (fun w' _ => by go_simp) (fun w' hw' => Calls.out hw' (HLONG.out _)) (hK _ ?_)
  clear hK K
  simp only [Act.put, List.setIfInBounds_toArray, List.set_cons_zero, List.set_cons_succ]
  refine BigFrame.wpQuiet_want rfl (fun K hK => ?_)
  refine quiet_val (.bool false) (fun w' hw' => by go_simp) (hK _ ?_)
  clear hK K
  simp only [Act.put, List.setIfInBounds_toArray, List.set_cons_zero, List.set_cons_succ]
  refine wpQuiet_nil ?_
  intro w4 hb
  have S3 : Hid (Below w.heap.size w w4 ∧ w.heap.size ≤ w4.heap.size ∧ Blk w4 w.heap.size 23 (two a) ∧ Blk w4 (w.heap.size + 1) 23 (two b) ∧ ∃ n, Own w4 n 23 v []) := ⟨S2.out.1.trans (hb.mono S2.out.2.1), Nat.le_trans S2.out.2.1 hb.size, S2.out.2.2.1.grow hb, S2.out.2.2.2.1.grow hb, by obtain ⟨n, hn⟩ := S2.out.2.2.2.2; exact ⟨n, hn.grow hb⟩⟩
  clear hb S2
  go_wp2_with fail
  refine wp_region_put (by kernel_rfl) (by kernel_rfl) (by kernel_rfl) (fun b' vs w' => (b' 0 = true → vs 0 = .agg #[.int .i64 a.1, .int .i64 a.2]) ∧ (b' 1 = true → vs 1 = .agg #[.int .i64 a.1, .int .i64 a.2]) ∧ (b' 2 = true → vs 2 = .agg #[.int .i64 b.1, .int .i64 b.2]) ∧ (b' 3 = true → vs 3 = .agg #[.int .i64 b.1, .int .i64 b.2]) ∧ (b' 4 = true → vs 4 = .int .i64 h) ∧ (b' 5 = true → Hid (Own w' w.heap.size 31 (vs 5) L)) ∧ (b' 6 = true → Hid (Own w' w.heap.size 31 (vs 6) L)) ∧ (Hid (Below w.heap.size w w' ∧ w.heap.size ≤ w'.heap.size)) ∧ (Hid (Blk w' w.heap.size 23 (two a) ∧ Blk w' (w.heap.size + 1) 23 (two b) ∧ ∃ n, Own w' n 23 v []))) ?_ ?_ ?_
  · intro vs
    exact ⟨fun h => Bool.noConfusion h, fun h => Bool.noConfusion h, fun h => Bool.noConfusion h, fun h => Bool.noConfusion h, fun h => Bool.noConfusion h, fun h => Bool.noConfusion h, fun h => Bool.noConfusion h, Lib.hid ⟨below_drewN S3.out.1 1, S3.out.2.1⟩, Lib.hid ⟨S3.out.2.2.1.grow ⟨rfl, rfl, rfl, Nat.le_refl _, fun _ _ => rfl⟩, S3.out.2.2.2.1.grow ⟨rfl, rfl, rfl, Nat.le_refl _, fun _ _ => rfl⟩, by obtain ⟨n, hn⟩ := S3.out.2.2.2.2; exact ⟨n, hn.grow ⟨rfl, rfl, rfl, Nat.le_refl _, fun _ _ => rfl⟩⟩⟩⟩
  · rintro b' vs w' i op hi hun hall ⟨h0, h1, h2, h3, h4, y5, y6, hB, hF⟩
    have hil : i < 7 := (List.getElem?_eq_some_iff.1 hi).1
    rcases i with _ | _ | _ | _ | _ | _ | _ | i
    · obtain rfl := Option.some.inj hi
      clear hi hil
      have kk := hF.out.1
      have x0 := kk.p0
      have x1 := kk.p1
      clear kk
      refine wpOp_step rfl (fun K hK => ?_)
      have HKK := Lib.hid hK; clear hK
      simp only [putAll, Act.put, List.setIfInBounds_toArray, List.set_cons_zero, List.set_cons_succ]
      go_simp
      exact HKK.out _ _ ⟨_, by simp only [putAll, Act.put, List.setIfInBounds_toArray, List.set_cons_zero, List.set_cons_succ] <;> rfl, fun _ => rfl, h1, h2, h3, h4, y5, y6, hB, hF⟩
    · obtain rfl := Option.some.inj hi
      clear hi hil
      have d0 := h0 (hall ⟨0, .data⟩ (by simp) rfl)
      refine wpOp_step rfl (fun K hK => ?_)
      have HKK := Lib.hid hK; clear hK
      simp only [putAll, Act.put, List.setIfInBounds_toArray, List.set_cons_zero, List.set_cons_succ]
      go_simp
      refine (ref1_c _ _ _).mono ?_
      rintro e w2 ⟨rfl, hb2⟩
      exact HKK.out _ _ ⟨_, by simp only [putAll, Act.put, List.setIfInBounds_toArray, List.set_cons_zero, List.set_cons_succ, d0] <;> rfl, h0, fun _ => rfl, h2, h3, h4, fun h => Lib.hid (Own.grow (y5 h).out hb2), fun h => Lib.hid (Own.grow (y6 h).out hb2), Lib.hid ⟨(hB).out.1.trans (hb2.mono (hB).out.2), Nat.le_trans (hB).out.2 hb2.size⟩, Lib.hid (⟨(hF).out.1.grow hb2, (hF).out.2.1.grow hb2, by obtain ⟨n, hn⟩ := (hF).out.2.2; exact ⟨n, hn.grow hb2⟩⟩)⟩
    · obtain rfl := Option.some.inj hi
      clear hi hil
      have kk := hF.out.2.1
      have x0 := kk.p0
      have x1 := kk.p1
      clear kk
      refine wpOp_step rfl (fun K hK => ?_)
      have HKK := Lib.hid hK; clear hK
      simp only [putAll, Act.put, List.setIfInBounds_toArray, List.set_cons_zero, List.set_cons_succ]
      go_simp
      exact HKK.out _ _ ⟨_, by simp only [putAll, Act.put, List.setIfInBounds_toArray, List.set_cons_zero, List.set_cons_succ] <;> rfl, h0, h1, fun _ => rfl, h3, h4, y5, y6, hB, hF⟩
    · obtain rfl := Option.some.inj hi
      clear hi hil
      have d2 := h2 (hall ⟨2, .data⟩ (by simp) rfl)
      refine wpOp_step rfl (fun K hK => ?_)
      have HKK := Lib.hid hK; clear hK
      simp only [putAll, Act.put, List.setIfInBounds_toArray, List.set_cons_zero, List.set_cons_succ]
      go_simp
      refine (ref1_c _ _ _).mono ?_
      rintro e w2 ⟨rfl, hb2⟩
      exact HKK.out _ _ ⟨_, by simp only [putAll, Act.put, List.setIfInBounds_toArray, List.set_cons_zero, List.set_cons_succ, d2] <;> rfl, h0, h1, h2, fun _ => rfl, h4, fun h => Lib.hid (Own.grow (y5 h).out hb2), fun h => Lib.hid (Own.grow (y6 h).out hb2), Lib.hid ⟨(hB).out.1.trans (hb2.mono (hB).out.2), Nat.le_trans (hB).out.2 hb2.size⟩, Lib.hid (⟨(hF).out.1.grow hb2, (hF).out.2.1.grow hb2, by obtain ⟨n, hn⟩ := (hF).out.2.2; exact ⟨n, hn.grow hb2⟩⟩)⟩
    · obtain rfl := Option.some.inj hi
      clear hi hil
      refine wpOp_step rfl (fun K hK => ?_)
      have HKK := Lib.hid hK; clear hK
      simp only [putAll, Act.put, List.setIfInBounds_toArray, List.set_cons_zero, List.set_cons_succ]
      go_simp
      exact HKK.out _ _ ⟨_, by simp only [putAll, Act.put, List.setIfInBounds_toArray, List.set_cons_zero, List.set_cons_succ] <;> rfl, h0, h1, h2, h3, fun _ => rfl, y5, y6, hB, hF⟩
    · obtain rfl := Option.some.inj hi
      clear hi hil
      have d1 := h1 (hall ⟨1, .data⟩ (by simp) rfl)
      have d3 := h3 (hall ⟨3, .data⟩ (by simp) rfl)
      have d4 := h4 (hall ⟨4, .data⟩ (by simp) rfl)
      refine wpOp_step rfl (fun K hK => ?_)
      have HKK := Lib.hid hK; clear hK
      simp only [putAll, Act.put, List.setIfInBounds_toArray, List.set_cons_zero, List.set_cons_succ]
      go_simp
      refine (HRB.out w').mono ?_
      rintro e w2 ⟨v2, rfl, ho2, hb2⟩
      exact HKK.out _ _ ⟨_, by simp only [putAll, Act.put, List.setIfInBounds_toArray, List.set_cons_zero, List.set_cons_succ, d1, d3, d4] <;> rfl, h0, h1, h2, h3, h4, fun _ => Lib.hid (ho2.base hB.out.2), fun h => Lib.hid (Own.grow (y6 h).out hb2), Lib.hid ⟨(hB).out.1.trans (hb2.mono (hB).out.2), Nat.le_trans (hB).out.2 hb2.size⟩, Lib.hid (⟨(hF).out.1.grow hb2, (hF).out.2.1.grow hb2, by obtain ⟨n, hn⟩ := (hF).out.2.2; exact ⟨n, hn.grow hb2⟩⟩)⟩
    · obtain rfl := Option.some.inj hi
      clear hi hil
      have o5 := y5 (hall ⟨5, .data⟩ (by simp) rfl)
      refine wpOp_step rfl (fun K hK => ?_)
      have HKK := Lib.hid hK; clear hK
      simp only [putAll, Act.put, List.setIfInBounds_toArray, List.set_cons_zero, List.set_cons_succ]
      go_simp
      exact HKK.out _ _ ⟨_, by simp only [putAll, Act.put, List.setIfInBounds_toArray, List.set_cons_zero, List.set_cons_succ] <;> rfl, h0, h1, h2, h3, h4, y5, fun _ => Lib.hid (o5.out), hB, hF⟩
    · omega
  · rintro b' vs w2 hall ⟨h0, h1, h2, h3, h4, y5, y6, hB, hF⟩
    have d0 := h0 (hall 0 (by simp))
    have d1 := h1 (hall 1 (by simp))
    have d2 := h2 (hall 2 (by simp))
    have d3 := h3 (hall 3 (by simp))
    have d4 := h4 (hall 4 (by simp))
    have o5 := y5 (hall 5 (by simp))
    have o6 := y6 (hall 6 (by simp))
    have BB := hB
    have FF := hF
    simp only [putAll, Act.put, List.setIfInBounds_toArray, List.set_cons_zero, List.set_cons_succ, d0, d1, d2, d3, d4]
    clear hall h0 d0 h1 d1 h2 d2 h3 d3 h4 d4 y5 y6 hB hF
    have SA : Hid (Below w.heap.size w w2 ∧ w.heap.size ≤ w2.heap.size ∧ Own w2 w.heap.size 31 (vs 6) L ∧ ∃ n, Own w2 n 23 v []) := ⟨BB.out.1, BB.out.2, o6.out, FF.out.2.2⟩
    clear FF BB o5 o6
    generalize vs 6 = rv at *
    generalize vs 5 = rv5 at *
    clear vs
    obtain ⟨ro, rc, hrv⟩ := SA.out.2.2.1.row.shape
    have HRV := Lib.hid hrv
    rw [hrv]
    clear hrv
    go_wp2_with fail
    refine (refIn7_c _ L _ HLEN.out (HRV.out ▸ SA.out.2.2.1.row)).mono ?_
    rw [HALL.out]
    rintro e w12 ⟨rfl, hb⟩
    have SB : Hid (Below w.heap.size w w12 ∧ w.heap.size ≤ w12.heap.size ∧ Own w12 w.heap.size 31 rv L ∧ ∃ n, Own w12 n 23 v []) := ⟨SA.out.1.trans (hb.mono SA.out.2.1), Nat.le_trans SA.out.2.1 hb.size, SA.out.2.2.1.grow hb, by obtain ⟨n, hn⟩ := SA.out.2.2.2; exact ⟨n, hn.grow hb⟩⟩
    clear hb SA
    go_wp2_with fail
    refine (HAW.out _).mono ?_
    rintro e w14 ⟨rfl, hb⟩
    have SD : Hid (Below w.heap.size w w14) := SB.out.1.trans (hb.mono SB.out.2.1)
    clear hb
    go_wp2_with fail
    go_ret
    exact ⟨rfl, SD.out⟩
set_option maxHeartbeats 4000000 in
set_option maxRecDepth 100000 in
theorem bars_ok1 (a b : Pt) (h : Int) (w : World) (HAW : Hid (∀ w, Calls Try.prog 6 #[] w fun e w' => e = .returned (.bool true) ∧ Below w.heap.size w w')) (h1 : ¬ h < 1) (h2 : ¬ h > 32768) (HIA : Hid (∀ w, Calls Try.prog 5 #[.agg #[.int .i64 a.1, .int .i64 a.2]] w fun e w' => e = .returned (.bool true) ∧ Below w.heap.size w w')) (HIB : Hid (∀ w, Calls Try.prog 5 #[.agg #[.int .i64 b.1, .int .i64 b.2]] w fun e w' => e = .returned (.bool true) ∧ Below w.heap.size w w')) (hx : ¬ a.1 = b.1) (HLONG : Hid (∀ w, Calls Try.prog 7 #[.agg #[.int .i64 a.1, .int .i64 a.2], .agg #[.int .i64 b.1, .int .i64 b.2]] w fun e w' => e = .returned (.bool false) ∧ Below w.heap.size w w')) (L : List Pt) (HRB : Hid (∀ w, Calls Try.prog 9 #[.agg #[.int .i64 a.1, .int .i64 a.2], .agg #[.int .i64 b.1, .int .i64 b.2], .int .i64 h] w fun e w' => ∃ v, e = .returned v ∧ Own w' w.heap.size 31 v L ∧ Below w.heap.size w w')) (HLEN : Hid (L.length ≤ 100000)) (HLEN2 : Hid (L.length ≤ 1000)) (HALL : Hid (L.all roomP = true)) (HB : Hid (∀ w, Calls Try.prog 4 #[.agg #[.int .i64 a.1, .int .i64 a.2], .agg #[.int .i64 b.1, .int .i64 b.2], .int .i64 h] w (ToldP w (0, L)))) :
    Calls Try.prog 3 #[.agg #[.int .i64 a.1, .int .i64 a.2], .agg #[.int .i64 b.1, .int .i64 b.2], .int .i64 h] w fun e w' => e = .returned (.bool true) ∧ Below w.heap.size w w' := by
  go_enter Try.func3, Try.ntmps3
  go_wp2_with fail
  refine (HB.out _).mono ?_
  rintro e w1 ⟨v, rfl, ho, hb⟩
  have S0 : Hid (Below w.heap.size w w1 ∧ w.heap.size ≤ w1.heap.size ∧ Blk w1 w.heap.size 23 (two a) ∧ Blk w1 (w.heap.size + 1) 23 (two b) ∧ ∃ n, Own w1 n 23 v L) := ⟨(((Below.refl _ _).alloc (Nat.le_refl _) _).alloc (by simp) _).trans (hb.mono (by simp; omega)), by have := hb.size; simp at this; omega, ((Blk.new _ _ (two a)).alloc _).grow hb, (Blk.newAt _ _ (two b) (by simp)).grow hb, _, ho⟩
  obtain ⟨ao, c, hv⟩ := ho.row.shape
  have HV := Lib.hid hv
  rw [hv]
  clear hb ho hv
  have kk := S0.out.2.2.1
  have a0 := kk.p0
  have a1 := kk.p1
  clear kk
  go_wp2_with fail
  refine (HIA.out _).mono ?_
  rintro e w2 ⟨rfl, hb⟩
  have S1 : Hid (Below w.heap.size w w2 ∧ w.heap.size ≤ w2.heap.size ∧ Blk w2 w.heap.size 23 (two a) ∧ Blk w2 (w.heap.size + 1) 23 (two b) ∧ ∃ n, Own w2 n 23 v L) := ⟨S0.out.1.trans (hb.mono S0.out.2.1), Nat.le_trans S0.out.2.1 hb.size, S0.out.2.2.1.grow hb, S0.out.2.2.2.1.grow hb, by obtain ⟨n, hn⟩ := S0.out.2.2.2.2; exact ⟨n, hn.grow hb⟩⟩
  clear hb S0
  clear a0 a1
  have kk := S1.out.2.2.2.1
  have b0 := kk.p0
  have b1 := kk.p1
  clear kk
  go_wp2_with fail
  refine (HIB.out _).mono ?_
  rintro e w3 ⟨rfl, hb⟩
  have S2 : Hid (Below w.heap.size w w3 ∧ w.heap.size ≤ w3.heap.size ∧ Blk w3 w.heap.size 23 (two a) ∧ Blk w3 (w.heap.size + 1) 23 (two b) ∧ ∃ n, Own w3 n 23 v L) := ⟨S1.out.1.trans (hb.mono S1.out.2.1), Nat.le_trans S1.out.2.1 hb.size, S1.out.2.2.1.grow hb, S1.out.2.2.2.1.grow hb, by obtain ⟨n, hn⟩ := S1.out.2.2.2.2; exact ⟨n, hn.grow hb⟩⟩
  clear hb S1
  clear b0 b1
  have kk := S2.out.2.2.1
  have a0 := kk.p0
  have a1 := kk.p1
  clear kk
  have kk := S2.out.2.2.2.1
  have b0 := kk.p0
  have b1 := kk.p1
  clear kk
  go_wp2_with fail
  clear a0 a1 b0 b1
  refine wp_region_quiet (C := Out w3) (by kernel_rfl) (by kernel_rfl) ⟨rfl, rfl, rfl, Nat.le_refl _, fun _ _ => rfl⟩ ?_
  refine BigFrame.wpQuiet_want rfl (fun K hK => ?_)
  refine quiet_val (.agg #[.int .i64 a.1, .int .i64 a.2]) (fun w' hw' => by have kk := S2.out.2.2.1.on hw' (S2.out.2.2.1.lt); have x0 := kk.p0; have x1 := kk.p1; clear kk; go_simp) (hK _ ?_)
  clear hK K
  simp only [Act.put, List.setIfInBounds_toArray, List.set_cons_zero, List.set_cons_succ]
  refine BigFrame.wpQuiet_want rfl (fun K hK => ?_)
  refine quiet_call 8 #[.agg #[.int .i64 a.1, .int .i64 a.2]] (.agg #[.int .i64 a.1, .int .i64 a.2]) (fun w' _ => by go_simp) (fun w' hw' => Calls.out hw' (ref1_c _ _ _)) (hK _ ?_)
  clear hK K
  simp only [Act.put, List.setIfInBounds_toArray, List.set_cons_zero, List.set_cons_succ]
  refine BigFrame.wpQuiet_want rfl (fun K hK => ?_)
  refine quiet_val (.agg #[.int .i64 b.1, .int .i64 b.2]) (fun w' hw' => by have kk := S2.out.2.2.2.1.on hw' (S2.out.2.2.2.1.lt); have x0 := kk.p0; have x1 := kk.p1; clear kk; go_simp) (hK _ ?_)
  clear hK K
  simp only [Act.put, List.setIfInBounds_toArray, List.set_cons_zero, List.set_cons_succ]
  refine BigFrame.wpQuiet_want rfl (fun K hK => ?_)
  refine quiet_call 8 #[.agg #[.int .i64 b.1, .int .i64 b.2]] (.agg #[.int .i64 b.1, .int .i64 b.2]) (fun w' _ => by go_simp) (fun w' hw' => Calls.out hw' (ref1_c _ _ _)) (hK _ ?_)
  clear hK K
  simp only [Act.put, List.setIfInBounds_toArray, List.set_cons_zero, List.set_cons_succ]
  refine BigFrame.wpQuiet_want rfl (fun K hK => ?_)
  refine quiet_call 7 #[.agg #[.int .i64 a.1, .int .i64 a.2], .agg #[.int .i64 b.1, .int .i64 b.2]] (.bool false) (fun w' _ => by go_simp) (fun w' hw' => Calls.out hw' (HLONG.out _)) (hK _ ?_)
  clear hK K
  simp only [Act.put, List.setIfInBounds_toArray, List.set_cons_zero, List.set_cons_succ]
  refine BigFrame.wpQuiet_want rfl (fun K hK => ?_)
  refine quiet_val (.bool false) (fun w' hw' => by go_simp) (hK _ ?_)
  clear hK K
  simp only [Act.put, List.setIfInBounds_toArray, List.set_cons_zero, List.set_cons_succ]
  refine wpQuiet_nil ?_
  intro w4 hb
  have S3 : Hid (Below w.heap.size w w4 ∧ w.heap.size ≤ w4.heap.size ∧ Blk w4 w.heap.size 23 (two a) ∧ Blk w4 (w.heap.size + 1) 23 (two b) ∧ ∃ n, Own w4 n 23 v L) := ⟨S2.out.1.trans (hb.mono S2.out.2.1), Nat.le_trans S2.out.2.1 hb.size, S2.out.2.2.1.grow hb, S2.out.2.2.2.1.grow hb, by obtain ⟨n, hn⟩ := S2.out.2.2.2.2; exact ⟨n, hn.grow hb⟩⟩
  clear hb S2
  go_wp2_with fail
  refine wp_region_put (by kernel_rfl) (by kernel_rfl) (by kernel_rfl) (fun b' vs w' => (b' 0 = true → vs 0 = .agg #[.int .i64 a.1, .int .i64 a.2]) ∧ (b' 1 = true → vs 1 = .agg #[.int .i64 a.1, .int .i64 a.2]) ∧ (b' 2 = true → vs 2 = .agg #[.int .i64 b.1, .int .i64 b.2]) ∧ (b' 3 = true → vs 3 = .agg #[.int .i64 b.1, .int .i64 b.2]) ∧ (b' 4 = true → vs 4 = .int .i64 h) ∧ (b' 5 = true → Hid (Own w' w.heap.size 31 (vs 5) L)) ∧ (b' 6 = true → Hid (Own w' w.heap.size 31 (vs 6) L)) ∧ (Hid (Below w.heap.size w w' ∧ w.heap.size ≤ w'.heap.size)) ∧ (Hid (Blk w' w.heap.size 23 (two a) ∧ Blk w' (w.heap.size + 1) 23 (two b) ∧ ∃ n, Own w' n 23 v L))) ?_ ?_ ?_
  · intro vs
    exact ⟨fun h => Bool.noConfusion h, fun h => Bool.noConfusion h, fun h => Bool.noConfusion h, fun h => Bool.noConfusion h, fun h => Bool.noConfusion h, fun h => Bool.noConfusion h, fun h => Bool.noConfusion h, Lib.hid ⟨below_drewN S3.out.1 1, S3.out.2.1⟩, Lib.hid ⟨S3.out.2.2.1.grow ⟨rfl, rfl, rfl, Nat.le_refl _, fun _ _ => rfl⟩, S3.out.2.2.2.1.grow ⟨rfl, rfl, rfl, Nat.le_refl _, fun _ _ => rfl⟩, by obtain ⟨n, hn⟩ := S3.out.2.2.2.2; exact ⟨n, hn.grow ⟨rfl, rfl, rfl, Nat.le_refl _, fun _ _ => rfl⟩⟩⟩⟩
  · rintro b' vs w' i op hi hun hall ⟨h0, h1, h2, h3, h4, y5, y6, hB, hF⟩
    have hil : i < 7 := (List.getElem?_eq_some_iff.1 hi).1
    rcases i with _ | _ | _ | _ | _ | _ | _ | i
    · obtain rfl := Option.some.inj hi
      clear hi hil
      have kk := hF.out.1
      have x0 := kk.p0
      have x1 := kk.p1
      clear kk
      refine wpOp_step rfl (fun K hK => ?_)
      have HKK := Lib.hid hK; clear hK
      simp only [putAll, Act.put, List.setIfInBounds_toArray, List.set_cons_zero, List.set_cons_succ]
      go_simp
      exact HKK.out _ _ ⟨_, by simp only [putAll, Act.put, List.setIfInBounds_toArray, List.set_cons_zero, List.set_cons_succ] <;> rfl, fun _ => rfl, h1, h2, h3, h4, y5, y6, hB, hF⟩
    · obtain rfl := Option.some.inj hi
      clear hi hil
      have d0 := h0 (hall ⟨0, .data⟩ (by simp) rfl)
      refine wpOp_step rfl (fun K hK => ?_)
      have HKK := Lib.hid hK; clear hK
      simp only [putAll, Act.put, List.setIfInBounds_toArray, List.set_cons_zero, List.set_cons_succ]
      go_simp
      refine (ref1_c _ _ _).mono ?_
      rintro e w2 ⟨rfl, hb2⟩
      exact HKK.out _ _ ⟨_, by simp only [putAll, Act.put, List.setIfInBounds_toArray, List.set_cons_zero, List.set_cons_succ, d0] <;> rfl, h0, fun _ => rfl, h2, h3, h4, fun h => Lib.hid (Own.grow (y5 h).out hb2), fun h => Lib.hid (Own.grow (y6 h).out hb2), Lib.hid ⟨(hB).out.1.trans (hb2.mono (hB).out.2), Nat.le_trans (hB).out.2 hb2.size⟩, Lib.hid (⟨(hF).out.1.grow hb2, (hF).out.2.1.grow hb2, by obtain ⟨n, hn⟩ := (hF).out.2.2; exact ⟨n, hn.grow hb2⟩⟩)⟩
    · obtain rfl := Option.some.inj hi
      clear hi hil
      have kk := hF.out.2.1
      have x0 := kk.p0
      have x1 := kk.p1
      clear kk
      refine wpOp_step rfl (fun K hK => ?_)
      have HKK := Lib.hid hK; clear hK
      simp only [putAll, Act.put, List.setIfInBounds_toArray, List.set_cons_zero, List.set_cons_succ]
      go_simp
      exact HKK.out _ _ ⟨_, by simp only [putAll, Act.put, List.setIfInBounds_toArray, List.set_cons_zero, List.set_cons_succ] <;> rfl, h0, h1, fun _ => rfl, h3, h4, y5, y6, hB, hF⟩
    · obtain rfl := Option.some.inj hi
      clear hi hil
      have d2 := h2 (hall ⟨2, .data⟩ (by simp) rfl)
      refine wpOp_step rfl (fun K hK => ?_)
      have HKK := Lib.hid hK; clear hK
      simp only [putAll, Act.put, List.setIfInBounds_toArray, List.set_cons_zero, List.set_cons_succ]
      go_simp
      refine (ref1_c _ _ _).mono ?_
      rintro e w2 ⟨rfl, hb2⟩
      exact HKK.out _ _ ⟨_, by simp only [putAll, Act.put, List.setIfInBounds_toArray, List.set_cons_zero, List.set_cons_succ, d2] <;> rfl, h0, h1, h2, fun _ => rfl, h4, fun h => Lib.hid (Own.grow (y5 h).out hb2), fun h => Lib.hid (Own.grow (y6 h).out hb2), Lib.hid ⟨(hB).out.1.trans (hb2.mono (hB).out.2), Nat.le_trans (hB).out.2 hb2.size⟩, Lib.hid (⟨(hF).out.1.grow hb2, (hF).out.2.1.grow hb2, by obtain ⟨n, hn⟩ := (hF).out.2.2; exact ⟨n, hn.grow hb2⟩⟩)⟩
    · obtain rfl := Option.some.inj hi
      clear hi hil
      refine wpOp_step rfl (fun K hK => ?_)
      have HKK := Lib.hid hK; clear hK
      simp only [putAll, Act.put, List.setIfInBounds_toArray, List.set_cons_zero, List.set_cons_succ]
      go_simp
      exact HKK.out _ _ ⟨_, by simp only [putAll, Act.put, List.setIfInBounds_toArray, List.set_cons_zero, List.set_cons_succ] <;> rfl, h0, h1, h2, h3, fun _ => rfl, y5, y6, hB, hF⟩
    · obtain rfl := Option.some.inj hi
      clear hi hil
      have d1 := h1 (hall ⟨1, .data⟩ (by simp) rfl)
      have d3 := h3 (hall ⟨3, .data⟩ (by simp) rfl)
      have d4 := h4 (hall ⟨4, .data⟩ (by simp) rfl)
      refine wpOp_step rfl (fun K hK => ?_)
      have HKK := Lib.hid hK; clear hK
      simp only [putAll, Act.put, List.setIfInBounds_toArray, List.set_cons_zero, List.set_cons_succ]
      go_simp
      refine (HRB.out w').mono ?_
      rintro e w2 ⟨v2, rfl, ho2, hb2⟩
      exact HKK.out _ _ ⟨_, by simp only [putAll, Act.put, List.setIfInBounds_toArray, List.set_cons_zero, List.set_cons_succ, d1, d3, d4] <;> rfl, h0, h1, h2, h3, h4, fun _ => Lib.hid (ho2.base hB.out.2), fun h => Lib.hid (Own.grow (y6 h).out hb2), Lib.hid ⟨(hB).out.1.trans (hb2.mono (hB).out.2), Nat.le_trans (hB).out.2 hb2.size⟩, Lib.hid (⟨(hF).out.1.grow hb2, (hF).out.2.1.grow hb2, by obtain ⟨n, hn⟩ := (hF).out.2.2; exact ⟨n, hn.grow hb2⟩⟩)⟩
    · obtain rfl := Option.some.inj hi
      clear hi hil
      have o5 := y5 (hall ⟨5, .data⟩ (by simp) rfl)
      refine wpOp_step rfl (fun K hK => ?_)
      have HKK := Lib.hid hK; clear hK
      simp only [putAll, Act.put, List.setIfInBounds_toArray, List.set_cons_zero, List.set_cons_succ]
      go_simp
      exact HKK.out _ _ ⟨_, by simp only [putAll, Act.put, List.setIfInBounds_toArray, List.set_cons_zero, List.set_cons_succ] <;> rfl, h0, h1, h2, h3, h4, y5, fun _ => Lib.hid (o5.out), hB, hF⟩
    · omega
  · rintro b' vs w2 hall ⟨h0, h1, h2, h3, h4, y5, y6, hB, hF⟩
    have d0 := h0 (hall 0 (by simp))
    have d1 := h1 (hall 1 (by simp))
    have d2 := h2 (hall 2 (by simp))
    have d3 := h3 (hall 3 (by simp))
    have d4 := h4 (hall 4 (by simp))
    have o5 := y5 (hall 5 (by simp))
    have o6 := y6 (hall 6 (by simp))
    have BB := hB
    have FF := hF
    simp only [putAll, Act.put, List.setIfInBounds_toArray, List.set_cons_zero, List.set_cons_succ, d0, d1, d2, d3, d4]
    clear hall h0 d0 h1 d1 h2 d2 h3 d3 h4 d4 y5 y6 hB hF
    have SA : Hid (Below w.heap.size w w2 ∧ w.heap.size ≤ w2.heap.size ∧ Own w2 w.heap.size 31 (vs 6) L ∧ ∃ n, Own w2 n 23 v L) := ⟨BB.out.1, BB.out.2, o6.out, FF.out.2.2⟩
    clear FF BB o5 o6
    generalize vs 6 = rv at *
    generalize vs 5 = rv5 at *
    clear vs
    obtain ⟨ro, rc, hrv⟩ := SA.out.2.2.1.row.shape
    have HRV := Lib.hid hrv
    rw [hrv]
    clear hrv
    go_wp2_with fail
    refine (refIn7_c _ L _ HLEN.out (HRV.out ▸ SA.out.2.2.1.row)).mono ?_
    rw [HALL.out]
    rintro e w12 ⟨rfl, hb⟩
    have SB : Hid (Below w.heap.size w w12 ∧ w.heap.size ≤ w12.heap.size ∧ Own w12 w.heap.size 31 rv L ∧ ∃ n, Own w12 n 23 v L) := ⟨SA.out.1.trans (hb.mono SA.out.2.1), Nat.le_trans SA.out.2.1 hb.size, SA.out.2.2.1.grow hb, by obtain ⟨n, hn⟩ := SA.out.2.2.2; exact ⟨n, hn.grow hb⟩⟩
    clear hb SA
    go_wp2_with fail
    obtain ⟨nn, hnn⟩ := SB.out.2.2.2
    have HS := Lib.hid (same_c _ _ _ _ (by have := HLEN2.out; omega) (HV.out ▸ hnn.row) (HRV.out ▸ SB.out.2.2.1.row))
    clear hnn
    refine HS.out.mono ?_
    rintro e w13 ⟨rfl, hb⟩
    have SC : Hid (Below w.heap.size w w13 ∧ w.heap.size ≤ w13.heap.size) := ⟨SB.out.1.trans (hb.mono SB.out.2.1), Nat.le_trans SB.out.2.1 hb.size⟩
    clear hb HS
    go_wp2_with fail
    refine (HAW.out _).mono ?_
    rintro e w14 ⟨rfl, hb⟩
    have SD : Hid (Below w.heap.size w w14) := SC.out.1.trans (hb.mono SC.out.2)
    clear hb
    go_wp2_with fail
    go_ret
    exact ⟨rfl, SD.out⟩
set_option maxHeartbeats 4000000 in
set_option maxRecDepth 100000 in
theorem bars_out2 (a b : Pt) (h : Int) (w : World) (HAW : Hid (∀ w, Calls Try.prog 6 #[] w fun e w' => e = .returned (.bool true) ∧ Below w.heap.size w w')) (h1 : ¬ h < 1) (h2 : ¬ h > 32768) (HIA : Hid (∀ w, Calls Try.prog 5 #[.agg #[.int .i64 a.1, .int .i64 a.2]] w fun e w' => e = .returned (.bool true) ∧ Below w.heap.size w w')) (HIB : Hid (∀ w, Calls Try.prog 5 #[.agg #[.int .i64 b.1, .int .i64 b.2]] w fun e w' => e = .returned (.bool true) ∧ Below w.heap.size w w')) (_hx : a.1 = b.1 ↔ True) (hy : ¬ a.2 = b.2) (HLONG : Hid (∀ w, Calls Try.prog 7 #[.agg #[.int .i64 a.1, .int .i64 a.2], .agg #[.int .i64 b.1, .int .i64 b.2]] w fun e w' => e = .returned (.bool false) ∧ Below w.heap.size w w')) (L : List Pt) (HRB : Hid (∀ w, Calls Try.prog 9 #[.agg #[.int .i64 a.1, .int .i64 a.2], .agg #[.int .i64 b.1, .int .i64 b.2], .int .i64 h] w fun e w' => ∃ v, e = .returned v ∧ Own w' w.heap.size 31 v L ∧ Below w.heap.size w w')) (HLEN : Hid (L.length ≤ 100000)) (HALL : Hid (L.all roomP = false)) (HB : Hid (∀ w, Calls Try.prog 4 #[.agg #[.int .i64 a.1, .int .i64 a.2], .agg #[.int .i64 b.1, .int .i64 b.2], .int .i64 h] w (ToldP w (10, [])))) :
    Calls Try.prog 3 #[.agg #[.int .i64 a.1, .int .i64 a.2], .agg #[.int .i64 b.1, .int .i64 b.2], .int .i64 h] w fun e w' => e = .returned (.bool true) ∧ Below w.heap.size w w' := by
  go_enter Try.func3, Try.ntmps3
  go_wp2_with fail
  refine (HB.out _).mono ?_
  rintro e w1 ⟨v, rfl, ho, hb⟩
  have S0 : Hid (Below w.heap.size w w1 ∧ w.heap.size ≤ w1.heap.size ∧ Blk w1 w.heap.size 23 (two a) ∧ Blk w1 (w.heap.size + 1) 23 (two b) ∧ ∃ n, Own w1 n 23 v []) := ⟨(((Below.refl _ _).alloc (Nat.le_refl _) _).alloc (by simp) _).trans (hb.mono (by simp; omega)), by have := hb.size; simp at this; omega, ((Blk.new _ _ (two a)).alloc _).grow hb, (Blk.newAt _ _ (two b) (by simp)).grow hb, _, ho⟩
  obtain ⟨ao, c, hv⟩ := ho.row.shape
  have HV := Lib.hid hv
  rw [hv]
  clear hb ho hv
  simp only [List.length_nil]
  have kk := S0.out.2.2.1
  have a0 := kk.p0
  have a1 := kk.p1
  clear kk
  go_wp2_with fail
  refine (HIA.out _).mono ?_
  rintro e w2 ⟨rfl, hb⟩
  have S1 : Hid (Below w.heap.size w w2 ∧ w.heap.size ≤ w2.heap.size ∧ Blk w2 w.heap.size 23 (two a) ∧ Blk w2 (w.heap.size + 1) 23 (two b) ∧ ∃ n, Own w2 n 23 v []) := ⟨S0.out.1.trans (hb.mono S0.out.2.1), Nat.le_trans S0.out.2.1 hb.size, S0.out.2.2.1.grow hb, S0.out.2.2.2.1.grow hb, by obtain ⟨n, hn⟩ := S0.out.2.2.2.2; exact ⟨n, hn.grow hb⟩⟩
  clear hb S0
  clear a0 a1
  have kk := S1.out.2.2.2.1
  have b0 := kk.p0
  have b1 := kk.p1
  clear kk
  go_wp2_with fail
  refine (HIB.out _).mono ?_
  rintro e w3 ⟨rfl, hb⟩
  have S2 : Hid (Below w.heap.size w w3 ∧ w.heap.size ≤ w3.heap.size ∧ Blk w3 w.heap.size 23 (two a) ∧ Blk w3 (w.heap.size + 1) 23 (two b) ∧ ∃ n, Own w3 n 23 v []) := ⟨S1.out.1.trans (hb.mono S1.out.2.1), Nat.le_trans S1.out.2.1 hb.size, S1.out.2.2.1.grow hb, S1.out.2.2.2.1.grow hb, by obtain ⟨n, hn⟩ := S1.out.2.2.2.2; exact ⟨n, hn.grow hb⟩⟩
  clear hb S1
  clear b0 b1
  have kk := S2.out.2.2.1
  have a0 := kk.p0
  have a1 := kk.p1
  clear kk
  have kk := S2.out.2.2.2.1
  have b0 := kk.p0
  have b1 := kk.p1
  clear kk
  go_wp2_with fail
  clear a0 a1 b0 b1
  refine wp_region_quiet (C := Out w3) (by kernel_rfl) (by kernel_rfl) ⟨rfl, rfl, rfl, Nat.le_refl _, fun _ _ => rfl⟩ ?_
  refine BigFrame.wpQuiet_want rfl (fun K hK => ?_)
  refine quiet_val (.agg #[.int .i64 a.1, .int .i64 a.2]) (fun w' hw' => by have kk := S2.out.2.2.1.on hw' (S2.out.2.2.1.lt); have x0 := kk.p0; have x1 := kk.p1; clear kk; go_simp) (hK _ ?_)
  clear hK K
  simp only [Act.put, List.setIfInBounds_toArray, List.set_cons_zero, List.set_cons_succ]
  refine BigFrame.wpQuiet_want rfl (fun K hK => ?_)
  refine quiet_call 8 #[.agg #[.int .i64 a.1, .int .i64 a.2]] (.agg #[.int .i64 a.1, .int .i64 a.2]) (fun w' _ => by go_simp) (fun w' hw' => Calls.out hw' (ref1_c _ _ _)) (hK _ ?_)
  clear hK K
  simp only [Act.put, List.setIfInBounds_toArray, List.set_cons_zero, List.set_cons_succ]
  refine BigFrame.wpQuiet_want rfl (fun K hK => ?_)
  refine quiet_val (.agg #[.int .i64 b.1, .int .i64 b.2]) (fun w' hw' => by have kk := S2.out.2.2.2.1.on hw' (S2.out.2.2.2.1.lt); have x0 := kk.p0; have x1 := kk.p1; clear kk; go_simp) (hK _ ?_)
  clear hK K
  simp only [Act.put, List.setIfInBounds_toArray, List.set_cons_zero, List.set_cons_succ]
  refine BigFrame.wpQuiet_want rfl (fun K hK => ?_)
  refine quiet_call 8 #[.agg #[.int .i64 b.1, .int .i64 b.2]] (.agg #[.int .i64 b.1, .int .i64 b.2]) (fun w' _ => by go_simp) (fun w' hw' => Calls.out hw' (ref1_c _ _ _)) (hK _ ?_)
  clear hK K
  simp only [Act.put, List.setIfInBounds_toArray, List.set_cons_zero, List.set_cons_succ]
  refine BigFrame.wpQuiet_want rfl (fun K hK => ?_)
  refine quiet_call 7 #[.agg #[.int .i64 a.1, .int .i64 a.2], .agg #[.int .i64 b.1, .int .i64 b.2]] (.bool false) (fun w' _ => by go_simp) (fun w' hw' => Calls.out hw' (HLONG.out _)) (hK _ ?_)
  clear hK K
  simp only [Act.put, List.setIfInBounds_toArray, List.set_cons_zero, List.set_cons_succ]
  refine BigFrame.wpQuiet_want rfl (fun K hK => ?_)
  refine quiet_val (.bool false) (fun w' hw' => by go_simp) (hK _ ?_)
  clear hK K
  simp only [Act.put, List.setIfInBounds_toArray, List.set_cons_zero, List.set_cons_succ]
  refine wpQuiet_nil ?_
  intro w4 hb
  have S3 : Hid (Below w.heap.size w w4 ∧ w.heap.size ≤ w4.heap.size ∧ Blk w4 w.heap.size 23 (two a) ∧ Blk w4 (w.heap.size + 1) 23 (two b) ∧ ∃ n, Own w4 n 23 v []) := ⟨S2.out.1.trans (hb.mono S2.out.2.1), Nat.le_trans S2.out.2.1 hb.size, S2.out.2.2.1.grow hb, S2.out.2.2.2.1.grow hb, by obtain ⟨n, hn⟩ := S2.out.2.2.2.2; exact ⟨n, hn.grow hb⟩⟩
  clear hb S2
  go_wp2_with fail
  refine wp_region_put (by kernel_rfl) (by kernel_rfl) (by kernel_rfl) (fun b' vs w' => (b' 0 = true → vs 0 = .agg #[.int .i64 a.1, .int .i64 a.2]) ∧ (b' 1 = true → vs 1 = .agg #[.int .i64 a.1, .int .i64 a.2]) ∧ (b' 2 = true → vs 2 = .agg #[.int .i64 b.1, .int .i64 b.2]) ∧ (b' 3 = true → vs 3 = .agg #[.int .i64 b.1, .int .i64 b.2]) ∧ (b' 4 = true → vs 4 = .int .i64 h) ∧ (b' 5 = true → Hid (Own w' w.heap.size 31 (vs 5) L)) ∧ (b' 6 = true → Hid (Own w' w.heap.size 31 (vs 6) L)) ∧ (Hid (Below w.heap.size w w' ∧ w.heap.size ≤ w'.heap.size)) ∧ (Hid (Blk w' w.heap.size 23 (two a) ∧ Blk w' (w.heap.size + 1) 23 (two b) ∧ ∃ n, Own w' n 23 v []))) ?_ ?_ ?_
  · intro vs
    exact ⟨fun h => Bool.noConfusion h, fun h => Bool.noConfusion h, fun h => Bool.noConfusion h, fun h => Bool.noConfusion h, fun h => Bool.noConfusion h, fun h => Bool.noConfusion h, fun h => Bool.noConfusion h, Lib.hid ⟨below_drewN S3.out.1 1, S3.out.2.1⟩, Lib.hid ⟨S3.out.2.2.1.grow ⟨rfl, rfl, rfl, Nat.le_refl _, fun _ _ => rfl⟩, S3.out.2.2.2.1.grow ⟨rfl, rfl, rfl, Nat.le_refl _, fun _ _ => rfl⟩, by obtain ⟨n, hn⟩ := S3.out.2.2.2.2; exact ⟨n, hn.grow ⟨rfl, rfl, rfl, Nat.le_refl _, fun _ _ => rfl⟩⟩⟩⟩
  · rintro b' vs w' i op hi hun hall ⟨h0, h1, h2, h3, h4, y5, y6, hB, hF⟩
    have hil : i < 7 := (List.getElem?_eq_some_iff.1 hi).1
    rcases i with _ | _ | _ | _ | _ | _ | _ | i
    · obtain rfl := Option.some.inj hi
      clear hi hil
      have kk := hF.out.1
      have x0 := kk.p0
      have x1 := kk.p1
      clear kk
      refine wpOp_step rfl (fun K hK => ?_)
      have HKK := Lib.hid hK; clear hK
      simp only [putAll, Act.put, List.setIfInBounds_toArray, List.set_cons_zero, List.set_cons_succ]
      go_simp
      exact HKK.out _ _ ⟨_, by simp only [putAll, Act.put, List.setIfInBounds_toArray, List.set_cons_zero, List.set_cons_succ] <;> rfl, fun _ => rfl, h1, h2, h3, h4, y5, y6, hB, hF⟩
    · obtain rfl := Option.some.inj hi
      clear hi hil
      have d0 := h0 (hall ⟨0, .data⟩ (by simp) rfl)
      refine wpOp_step rfl (fun K hK => ?_)
      have HKK := Lib.hid hK; clear hK
      simp only [putAll, Act.put, List.setIfInBounds_toArray, List.set_cons_zero, List.set_cons_succ]
      go_simp
      refine (ref1_c _ _ _).mono ?_
      rintro e w2 ⟨rfl, hb2⟩
      exact HKK.out _ _ ⟨_, by simp only [putAll, Act.put, List.setIfInBounds_toArray, List.set_cons_zero, List.set_cons_succ, d0] <;> rfl, h0, fun _ => rfl, h2, h3, h4, fun h => Lib.hid (Own.grow (y5 h).out hb2), fun h => Lib.hid (Own.grow (y6 h).out hb2), Lib.hid ⟨(hB).out.1.trans (hb2.mono (hB).out.2), Nat.le_trans (hB).out.2 hb2.size⟩, Lib.hid (⟨(hF).out.1.grow hb2, (hF).out.2.1.grow hb2, by obtain ⟨n, hn⟩ := (hF).out.2.2; exact ⟨n, hn.grow hb2⟩⟩)⟩
    · obtain rfl := Option.some.inj hi
      clear hi hil
      have kk := hF.out.2.1
      have x0 := kk.p0
      have x1 := kk.p1
      clear kk
      refine wpOp_step rfl (fun K hK => ?_)
      have HKK := Lib.hid hK; clear hK
      simp only [putAll, Act.put, List.setIfInBounds_toArray, List.set_cons_zero, List.set_cons_succ]
      go_simp
      exact HKK.out _ _ ⟨_, by simp only [putAll, Act.put, List.setIfInBounds_toArray, List.set_cons_zero, List.set_cons_succ] <;> rfl, h0, h1, fun _ => rfl, h3, h4, y5, y6, hB, hF⟩
    · obtain rfl := Option.some.inj hi
      clear hi hil
      have d2 := h2 (hall ⟨2, .data⟩ (by simp) rfl)
      refine wpOp_step rfl (fun K hK => ?_)
      have HKK := Lib.hid hK; clear hK
      simp only [putAll, Act.put, List.setIfInBounds_toArray, List.set_cons_zero, List.set_cons_succ]
      go_simp
      refine (ref1_c _ _ _).mono ?_
      rintro e w2 ⟨rfl, hb2⟩
      exact HKK.out _ _ ⟨_, by simp only [putAll, Act.put, List.setIfInBounds_toArray, List.set_cons_zero, List.set_cons_succ, d2] <;> rfl, h0, h1, h2, fun _ => rfl, h4, fun h => Lib.hid (Own.grow (y5 h).out hb2), fun h => Lib.hid (Own.grow (y6 h).out hb2), Lib.hid ⟨(hB).out.1.trans (hb2.mono (hB).out.2), Nat.le_trans (hB).out.2 hb2.size⟩, Lib.hid (⟨(hF).out.1.grow hb2, (hF).out.2.1.grow hb2, by obtain ⟨n, hn⟩ := (hF).out.2.2; exact ⟨n, hn.grow hb2⟩⟩)⟩
    · obtain rfl := Option.some.inj hi
      clear hi hil
      refine wpOp_step rfl (fun K hK => ?_)
      have HKK := Lib.hid hK; clear hK
      simp only [putAll, Act.put, List.setIfInBounds_toArray, List.set_cons_zero, List.set_cons_succ]
      go_simp
      exact HKK.out _ _ ⟨_, by simp only [putAll, Act.put, List.setIfInBounds_toArray, List.set_cons_zero, List.set_cons_succ] <;> rfl, h0, h1, h2, h3, fun _ => rfl, y5, y6, hB, hF⟩
    · obtain rfl := Option.some.inj hi
      clear hi hil
      have d1 := h1 (hall ⟨1, .data⟩ (by simp) rfl)
      have d3 := h3 (hall ⟨3, .data⟩ (by simp) rfl)
      have d4 := h4 (hall ⟨4, .data⟩ (by simp) rfl)
      refine wpOp_step rfl (fun K hK => ?_)
      have HKK := Lib.hid hK; clear hK
      simp only [putAll, Act.put, List.setIfInBounds_toArray, List.set_cons_zero, List.set_cons_succ]
      go_simp
      refine (HRB.out w').mono ?_
      rintro e w2 ⟨v2, rfl, ho2, hb2⟩
      exact HKK.out _ _ ⟨_, by simp only [putAll, Act.put, List.setIfInBounds_toArray, List.set_cons_zero, List.set_cons_succ, d1, d3, d4] <;> rfl, h0, h1, h2, h3, h4, fun _ => Lib.hid (ho2.base hB.out.2), fun h => Lib.hid (Own.grow (y6 h).out hb2), Lib.hid ⟨(hB).out.1.trans (hb2.mono (hB).out.2), Nat.le_trans (hB).out.2 hb2.size⟩, Lib.hid (⟨(hF).out.1.grow hb2, (hF).out.2.1.grow hb2, by obtain ⟨n, hn⟩ := (hF).out.2.2; exact ⟨n, hn.grow hb2⟩⟩)⟩
    · obtain rfl := Option.some.inj hi
      clear hi hil
      have o5 := y5 (hall ⟨5, .data⟩ (by simp) rfl)
      refine wpOp_step rfl (fun K hK => ?_)
      have HKK := Lib.hid hK; clear hK
      simp only [putAll, Act.put, List.setIfInBounds_toArray, List.set_cons_zero, List.set_cons_succ]
      go_simp
      exact HKK.out _ _ ⟨_, by simp only [putAll, Act.put, List.setIfInBounds_toArray, List.set_cons_zero, List.set_cons_succ] <;> rfl, h0, h1, h2, h3, h4, y5, fun _ => Lib.hid (o5.out), hB, hF⟩
    · omega
  · rintro b' vs w2 hall ⟨h0, h1, h2, h3, h4, y5, y6, hB, hF⟩
    have d0 := h0 (hall 0 (by simp))
    have d1 := h1 (hall 1 (by simp))
    have d2 := h2 (hall 2 (by simp))
    have d3 := h3 (hall 3 (by simp))
    have d4 := h4 (hall 4 (by simp))
    have o5 := y5 (hall 5 (by simp))
    have o6 := y6 (hall 6 (by simp))
    have BB := hB
    have FF := hF
    simp only [putAll, Act.put, List.setIfInBounds_toArray, List.set_cons_zero, List.set_cons_succ, d0, d1, d2, d3, d4]
    clear hall h0 d0 h1 d1 h2 d2 h3 d3 h4 d4 y5 y6 hB hF
    have SA : Hid (Below w.heap.size w w2 ∧ w.heap.size ≤ w2.heap.size ∧ Own w2 w.heap.size 31 (vs 6) L ∧ ∃ n, Own w2 n 23 v []) := ⟨BB.out.1, BB.out.2, o6.out, FF.out.2.2⟩
    clear FF BB o5 o6
    generalize vs 6 = rv at *
    generalize vs 5 = rv5 at *
    clear vs
    obtain ⟨ro, rc, hrv⟩ := SA.out.2.2.1.row.shape
    have HRV := Lib.hid hrv
    rw [hrv]
    clear hrv
    go_wp2_with fail
    refine (refIn7_c _ L _ HLEN.out (HRV.out ▸ SA.out.2.2.1.row)).mono ?_
    rw [HALL.out]
    rintro e w12 ⟨rfl, hb⟩
    have SB : Hid (Below w.heap.size w w12 ∧ w.heap.size ≤ w12.heap.size ∧ Own w12 w.heap.size 31 rv L ∧ ∃ n, Own w12 n 23 v []) := ⟨SA.out.1.trans (hb.mono SA.out.2.1), Nat.le_trans SA.out.2.1 hb.size, SA.out.2.2.1.grow hb, by obtain ⟨n, hn⟩ := SA.out.2.2.2; exact ⟨n, hn.grow hb⟩⟩
    clear hb SA
    go_wp2_with fail
    refine (HAW.out _).mono ?_
    rintro e w14 ⟨rfl, hb⟩
    have SD : Hid (Below w.heap.size w w14) := SB.out.1.trans (hb.mono SB.out.2.1)
    clear hb
    go_wp2_with fail
    go_ret
    exact ⟨rfl, SD.out⟩
set_option maxHeartbeats 4000000 in
set_option maxRecDepth 100000 in
theorem bars_ok2 (a b : Pt) (h : Int) (w : World) (HAW : Hid (∀ w, Calls Try.prog 6 #[] w fun e w' => e = .returned (.bool true) ∧ Below w.heap.size w w')) (h1 : ¬ h < 1) (h2 : ¬ h > 32768) (HIA : Hid (∀ w, Calls Try.prog 5 #[.agg #[.int .i64 a.1, .int .i64 a.2]] w fun e w' => e = .returned (.bool true) ∧ Below w.heap.size w w')) (HIB : Hid (∀ w, Calls Try.prog 5 #[.agg #[.int .i64 b.1, .int .i64 b.2]] w fun e w' => e = .returned (.bool true) ∧ Below w.heap.size w w')) (_hx : a.1 = b.1 ↔ True) (hy : ¬ a.2 = b.2) (HLONG : Hid (∀ w, Calls Try.prog 7 #[.agg #[.int .i64 a.1, .int .i64 a.2], .agg #[.int .i64 b.1, .int .i64 b.2]] w fun e w' => e = .returned (.bool false) ∧ Below w.heap.size w w')) (L : List Pt) (HRB : Hid (∀ w, Calls Try.prog 9 #[.agg #[.int .i64 a.1, .int .i64 a.2], .agg #[.int .i64 b.1, .int .i64 b.2], .int .i64 h] w fun e w' => ∃ v, e = .returned v ∧ Own w' w.heap.size 31 v L ∧ Below w.heap.size w w')) (HLEN : Hid (L.length ≤ 100000)) (HLEN2 : Hid (L.length ≤ 1000)) (HALL : Hid (L.all roomP = true)) (HB : Hid (∀ w, Calls Try.prog 4 #[.agg #[.int .i64 a.1, .int .i64 a.2], .agg #[.int .i64 b.1, .int .i64 b.2], .int .i64 h] w (ToldP w (0, L)))) :
    Calls Try.prog 3 #[.agg #[.int .i64 a.1, .int .i64 a.2], .agg #[.int .i64 b.1, .int .i64 b.2], .int .i64 h] w fun e w' => e = .returned (.bool true) ∧ Below w.heap.size w w' := by
  go_enter Try.func3, Try.ntmps3
  go_wp2_with fail
  refine (HB.out _).mono ?_
  rintro e w1 ⟨v, rfl, ho, hb⟩
  have S0 : Hid (Below w.heap.size w w1 ∧ w.heap.size ≤ w1.heap.size ∧ Blk w1 w.heap.size 23 (two a) ∧ Blk w1 (w.heap.size + 1) 23 (two b) ∧ ∃ n, Own w1 n 23 v L) := ⟨(((Below.refl _ _).alloc (Nat.le_refl _) _).alloc (by simp) _).trans (hb.mono (by simp; omega)), by have := hb.size; simp at this; omega, ((Blk.new _ _ (two a)).alloc _).grow hb, (Blk.newAt _ _ (two b) (by simp)).grow hb, _, ho⟩
  obtain ⟨ao, c, hv⟩ := ho.row.shape
  have HV := Lib.hid hv
  rw [hv]
  clear hb ho hv
  have kk := S0.out.2.2.1
  have a0 := kk.p0
  have a1 := kk.p1
  clear kk
  go_wp2_with fail
  refine (HIA.out _).mono ?_
  rintro e w2 ⟨rfl, hb⟩
  have S1 : Hid (Below w.heap.size w w2 ∧ w.heap.size ≤ w2.heap.size ∧ Blk w2 w.heap.size 23 (two a) ∧ Blk w2 (w.heap.size + 1) 23 (two b) ∧ ∃ n, Own w2 n 23 v L) := ⟨S0.out.1.trans (hb.mono S0.out.2.1), Nat.le_trans S0.out.2.1 hb.size, S0.out.2.2.1.grow hb, S0.out.2.2.2.1.grow hb, by obtain ⟨n, hn⟩ := S0.out.2.2.2.2; exact ⟨n, hn.grow hb⟩⟩
  clear hb S0
  clear a0 a1
  have kk := S1.out.2.2.2.1
  have b0 := kk.p0
  have b1 := kk.p1
  clear kk
  go_wp2_with fail
  refine (HIB.out _).mono ?_
  rintro e w3 ⟨rfl, hb⟩
  have S2 : Hid (Below w.heap.size w w3 ∧ w.heap.size ≤ w3.heap.size ∧ Blk w3 w.heap.size 23 (two a) ∧ Blk w3 (w.heap.size + 1) 23 (two b) ∧ ∃ n, Own w3 n 23 v L) := ⟨S1.out.1.trans (hb.mono S1.out.2.1), Nat.le_trans S1.out.2.1 hb.size, S1.out.2.2.1.grow hb, S1.out.2.2.2.1.grow hb, by obtain ⟨n, hn⟩ := S1.out.2.2.2.2; exact ⟨n, hn.grow hb⟩⟩
  clear hb S1
  clear b0 b1
  have kk := S2.out.2.2.1
  have a0 := kk.p0
  have a1 := kk.p1
  clear kk
  have kk := S2.out.2.2.2.1
  have b0 := kk.p0
  have b1 := kk.p1
  clear kk
  go_wp2_with fail
  clear a0 a1 b0 b1
  refine wp_region_quiet (C := Out w3) (by kernel_rfl) (by kernel_rfl) ⟨rfl, rfl, rfl, Nat.le_refl _, fun _ _ => rfl⟩ ?_
  refine BigFrame.wpQuiet_want rfl (fun K hK => ?_)
  refine quiet_val (.agg #[.int .i64 a.1, .int .i64 a.2]) (fun w' hw' => by have kk := S2.out.2.2.1.on hw' (S2.out.2.2.1.lt); have x0 := kk.p0; have x1 := kk.p1; clear kk; go_simp) (hK _ ?_)
  clear hK K
  simp only [Act.put, List.setIfInBounds_toArray, List.set_cons_zero, List.set_cons_succ]
  refine BigFrame.wpQuiet_want rfl (fun K hK => ?_)
  refine quiet_call 8 #[.agg #[.int .i64 a.1, .int .i64 a.2]] (.agg #[.int .i64 a.1, .int .i64 a.2]) (fun w' _ => by go_simp) (fun w' hw' => Calls.out hw' (ref1_c _ _ _)) (hK _ ?_)
  clear hK K
  simp only [Act.put, List.setIfInBounds_toArray, List.set_cons_zero, List.set_cons_succ]
  refine BigFrame.wpQuiet_want rfl (fun K hK => ?_)
  refine quiet_val (.agg #[.int .i64 b.1, .int .i64 b.2]) (fun w' hw' => by have kk := S2.out.2.2.2.1.on hw' (S2.out.2.2.2.1.lt); have x0 := kk.p0; have x1 := kk.p1; clear kk; go_simp) (hK _ ?_)
  clear hK K
  simp only [Act.put, List.setIfInBounds_toArray, List.set_cons_zero, List.set_cons_succ]
  refine BigFrame.wpQuiet_want rfl (fun K hK => ?_)
  refine quiet_call 8 #[.agg #[.int .i64 b.1, .int .i64 b.2]] (.agg #[.int .i64 b.1, .int .i64 b.2]) (fun w' _ => by go_simp) (fun w' hw' => Calls.out hw' (ref1_c _ _ _)) (hK _ ?_)
  clear hK K
  simp only [Act.put, List.setIfInBounds_toArray, List.set_cons_zero, List.set_cons_succ]
  refine BigFrame.wpQuiet_want rfl (fun K hK => ?_)
  refine quiet_call 7 #[.agg #[.int .i64 a.1, .int .i64 a.2], .agg #[.int .i64 b.1, .int .i64 b.2]] (.bool false) (fun w' _ => by go_simp) (fun w' hw' => Calls.out hw' (HLONG.out _)) (hK _ ?_)
  clear hK K
  simp only [Act.put, List.setIfInBounds_toArray, List.set_cons_zero, List.set_cons_succ]
  refine BigFrame.wpQuiet_want rfl (fun K hK => ?_)
  refine quiet_val (.bool false) (fun w' hw' => by go_simp) (hK _ ?_)
  clear hK K
  simp only [Act.put, List.setIfInBounds_toArray, List.set_cons_zero, List.set_cons_succ]
  refine wpQuiet_nil ?_
  intro w4 hb
  have S3 : Hid (Below w.heap.size w w4 ∧ w.heap.size ≤ w4.heap.size ∧ Blk w4 w.heap.size 23 (two a) ∧ Blk w4 (w.heap.size + 1) 23 (two b) ∧ ∃ n, Own w4 n 23 v L) := ⟨S2.out.1.trans (hb.mono S2.out.2.1), Nat.le_trans S2.out.2.1 hb.size, S2.out.2.2.1.grow hb, S2.out.2.2.2.1.grow hb, by obtain ⟨n, hn⟩ := S2.out.2.2.2.2; exact ⟨n, hn.grow hb⟩⟩
  clear hb S2
  go_wp2_with fail
  refine wp_region_put (by kernel_rfl) (by kernel_rfl) (by kernel_rfl) (fun b' vs w' => (b' 0 = true → vs 0 = .agg #[.int .i64 a.1, .int .i64 a.2]) ∧ (b' 1 = true → vs 1 = .agg #[.int .i64 a.1, .int .i64 a.2]) ∧ (b' 2 = true → vs 2 = .agg #[.int .i64 b.1, .int .i64 b.2]) ∧ (b' 3 = true → vs 3 = .agg #[.int .i64 b.1, .int .i64 b.2]) ∧ (b' 4 = true → vs 4 = .int .i64 h) ∧ (b' 5 = true → Hid (Own w' w.heap.size 31 (vs 5) L)) ∧ (b' 6 = true → Hid (Own w' w.heap.size 31 (vs 6) L)) ∧ (Hid (Below w.heap.size w w' ∧ w.heap.size ≤ w'.heap.size)) ∧ (Hid (Blk w' w.heap.size 23 (two a) ∧ Blk w' (w.heap.size + 1) 23 (two b) ∧ ∃ n, Own w' n 23 v L))) ?_ ?_ ?_
  · intro vs
    exact ⟨fun h => Bool.noConfusion h, fun h => Bool.noConfusion h, fun h => Bool.noConfusion h, fun h => Bool.noConfusion h, fun h => Bool.noConfusion h, fun h => Bool.noConfusion h, fun h => Bool.noConfusion h, Lib.hid ⟨below_drewN S3.out.1 1, S3.out.2.1⟩, Lib.hid ⟨S3.out.2.2.1.grow ⟨rfl, rfl, rfl, Nat.le_refl _, fun _ _ => rfl⟩, S3.out.2.2.2.1.grow ⟨rfl, rfl, rfl, Nat.le_refl _, fun _ _ => rfl⟩, by obtain ⟨n, hn⟩ := S3.out.2.2.2.2; exact ⟨n, hn.grow ⟨rfl, rfl, rfl, Nat.le_refl _, fun _ _ => rfl⟩⟩⟩⟩
  · rintro b' vs w' i op hi hun hall ⟨h0, h1, h2, h3, h4, y5, y6, hB, hF⟩
    have hil : i < 7 := (List.getElem?_eq_some_iff.1 hi).1
    rcases i with _ | _ | _ | _ | _ | _ | _ | i
    · obtain rfl := Option.some.inj hi
      clear hi hil
      have kk := hF.out.1
      have x0 := kk.p0
      have x1 := kk.p1
      clear kk
      refine wpOp_step rfl (fun K hK => ?_)
      have HKK := Lib.hid hK; clear hK
      simp only [putAll, Act.put, List.setIfInBounds_toArray, List.set_cons_zero, List.set_cons_succ]
      go_simp
      exact HKK.out _ _ ⟨_, by simp only [putAll, Act.put, List.setIfInBounds_toArray, List.set_cons_zero, List.set_cons_succ] <;> rfl, fun _ => rfl, h1, h2, h3, h4, y5, y6, hB, hF⟩
    · obtain rfl := Option.some.inj hi
      clear hi hil
      have d0 := h0 (hall ⟨0, .data⟩ (by simp) rfl)
      refine wpOp_step rfl (fun K hK => ?_)
      have HKK := Lib.hid hK; clear hK
      simp only [putAll, Act.put, List.setIfInBounds_toArray, List.set_cons_zero, List.set_cons_succ]
      go_simp
      refine (ref1_c _ _ _).mono ?_
      rintro e w2 ⟨rfl, hb2⟩
      exact HKK.out _ _ ⟨_, by simp only [putAll, Act.put, List.setIfInBounds_toArray, List.set_cons_zero, List.set_cons_succ, d0] <;> rfl, h0, fun _ => rfl, h2, h3, h4, fun h => Lib.hid (Own.grow (y5 h).out hb2), fun h => Lib.hid (Own.grow (y6 h).out hb2), Lib.hid ⟨(hB).out.1.trans (hb2.mono (hB).out.2), Nat.le_trans (hB).out.2 hb2.size⟩, Lib.hid (⟨(hF).out.1.grow hb2, (hF).out.2.1.grow hb2, by obtain ⟨n, hn⟩ := (hF).out.2.2; exact ⟨n, hn.grow hb2⟩⟩)⟩
    · obtain rfl := Option.some.inj hi
      clear hi hil
      have kk := hF.out.2.1
      have x0 := kk.p0
      have x1 := kk.p1
      clear kk
      refine wpOp_step rfl (fun K hK => ?_)
      have HKK := Lib.hid hK; clear hK
      simp only [putAll, Act.put, List.setIfInBounds_toArray, List.set_cons_zero, List.set_cons_succ]
      go_simp
      exact HKK.out _ _ ⟨_, by simp only [putAll, Act.put, List.setIfInBounds_toArray, List.set_cons_zero, List.set_cons_succ] <;> rfl, h0, h1, fun _ => rfl, h3, h4, y5, y6, hB, hF⟩
    · obtain rfl := Option.some.inj hi
      clear hi hil
      have d2 := h2 (hall ⟨2, .data⟩ (by simp) rfl)
      refine wpOp_step rfl (fun K hK => ?_)
      have HKK := Lib.hid hK; clear hK
      simp only [putAll, Act.put, List.setIfInBounds_toArray, List.set_cons_zero, List.set_cons_succ]
      go_simp
      refine (ref1_c _ _ _).mono ?_
      rintro e w2 ⟨rfl, hb2⟩
      exact HKK.out _ _ ⟨_, by simp only [putAll, Act.put, List.setIfInBounds_toArray, List.set_cons_zero, List.set_cons_succ, d2] <;> rfl, h0, h1, h2, fun _ => rfl, h4, fun h => Lib.hid (Own.grow (y5 h).out hb2), fun h => Lib.hid (Own.grow (y6 h).out hb2), Lib.hid ⟨(hB).out.1.trans (hb2.mono (hB).out.2), Nat.le_trans (hB).out.2 hb2.size⟩, Lib.hid (⟨(hF).out.1.grow hb2, (hF).out.2.1.grow hb2, by obtain ⟨n, hn⟩ := (hF).out.2.2; exact ⟨n, hn.grow hb2⟩⟩)⟩
    · obtain rfl := Option.some.inj hi
      clear hi hil
      refine wpOp_step rfl (fun K hK => ?_)
      have HKK := Lib.hid hK; clear hK
      simp only [putAll, Act.put, List.setIfInBounds_toArray, List.set_cons_zero, List.set_cons_succ]
      go_simp
      exact HKK.out _ _ ⟨_, by simp only [putAll, Act.put, List.setIfInBounds_toArray, List.set_cons_zero, List.set_cons_succ] <;> rfl, h0, h1, h2, h3, fun _ => rfl, y5, y6, hB, hF⟩
    · obtain rfl := Option.some.inj hi
      clear hi hil
      have d1 := h1 (hall ⟨1, .data⟩ (by simp) rfl)
      have d3 := h3 (hall ⟨3, .data⟩ (by simp) rfl)
      have d4 := h4 (hall ⟨4, .data⟩ (by simp) rfl)
      refine wpOp_step rfl (fun K hK => ?_)
      have HKK := Lib.hid hK; clear hK
      simp only [putAll, Act.put, List.setIfInBounds_toArray, List.set_cons_zero, List.set_cons_succ]
      go_simp
      refine (HRB.out w').mono ?_
      rintro e w2 ⟨v2, rfl, ho2, hb2⟩
      exact HKK.out _ _ ⟨_, by simp only [putAll, Act.put, List.setIfInBounds_toArray, List.set_cons_zero, List.set_cons_succ, d1, d3, d4] <;> rfl, h0, h1, h2, h3, h4, fun _ => Lib.hid (ho2.base hB.out.2), fun h => Lib.hid (Own.grow (y6 h).out hb2), Lib.hid ⟨(hB).out.1.trans (hb2.mono (hB).out.2), Nat.le_trans (hB).out.2 hb2.size⟩, Lib.hid (⟨(hF).out.1.grow hb2, (hF).out.2.1.grow hb2, by obtain ⟨n, hn⟩ := (hF).out.2.2; exact ⟨n, hn.grow hb2⟩⟩)⟩
    · obtain rfl := Option.some.inj hi
      clear hi hil
      have o5 := y5 (hall ⟨5, .data⟩ (by simp) rfl)
      refine wpOp_step rfl (fun K hK => ?_)
      have HKK := Lib.hid hK; clear hK
      simp only [putAll, Act.put, List.setIfInBounds_toArray, List.set_cons_zero, List.set_cons_succ]
      go_simp
      exact HKK.out _ _ ⟨_, by simp only [putAll, Act.put, List.setIfInBounds_toArray, List.set_cons_zero, List.set_cons_succ] <;> rfl, h0, h1, h2, h3, h4, y5, fun _ => Lib.hid (o5.out), hB, hF⟩
    · omega
  · rintro b' vs w2 hall ⟨h0, h1, h2, h3, h4, y5, y6, hB, hF⟩
    have d0 := h0 (hall 0 (by simp))
    have d1 := h1 (hall 1 (by simp))
    have d2 := h2 (hall 2 (by simp))
    have d3 := h3 (hall 3 (by simp))
    have d4 := h4 (hall 4 (by simp))
    have o5 := y5 (hall 5 (by simp))
    have o6 := y6 (hall 6 (by simp))
    have BB := hB
    have FF := hF
    simp only [putAll, Act.put, List.setIfInBounds_toArray, List.set_cons_zero, List.set_cons_succ, d0, d1, d2, d3, d4]
    clear hall h0 d0 h1 d1 h2 d2 h3 d3 h4 d4 y5 y6 hB hF
    have SA : Hid (Below w.heap.size w w2 ∧ w.heap.size ≤ w2.heap.size ∧ Own w2 w.heap.size 31 (vs 6) L ∧ ∃ n, Own w2 n 23 v L) := ⟨BB.out.1, BB.out.2, o6.out, FF.out.2.2⟩
    clear FF BB o5 o6
    generalize vs 6 = rv at *
    generalize vs 5 = rv5 at *
    clear vs
    obtain ⟨ro, rc, hrv⟩ := SA.out.2.2.1.row.shape
    have HRV := Lib.hid hrv
    rw [hrv]
    clear hrv
    go_wp2_with fail
    refine (refIn7_c _ L _ HLEN.out (HRV.out ▸ SA.out.2.2.1.row)).mono ?_
    rw [HALL.out]
    rintro e w12 ⟨rfl, hb⟩
    have SB : Hid (Below w.heap.size w w12 ∧ w.heap.size ≤ w12.heap.size ∧ Own w12 w.heap.size 31 rv L ∧ ∃ n, Own w12 n 23 v L) := ⟨SA.out.1.trans (hb.mono SA.out.2.1), Nat.le_trans SA.out.2.1 hb.size, SA.out.2.2.1.grow hb, by obtain ⟨n, hn⟩ := SA.out.2.2.2; exact ⟨n, hn.grow hb⟩⟩
    clear hb SA
    go_wp2_with fail
    obtain ⟨nn, hnn⟩ := SB.out.2.2.2
    have HS := Lib.hid (same_c _ _ _ _ (by have := HLEN2.out; omega) (HV.out ▸ hnn.row) (HRV.out ▸ SB.out.2.2.1.row))
    clear hnn
    refine HS.out.mono ?_
    rintro e w13 ⟨rfl, hb⟩
    have SC : Hid (Below w.heap.size w w13 ∧ w.heap.size ≤ w13.heap.size) := ⟨SB.out.1.trans (hb.mono SB.out.2.1), Nat.le_trans SB.out.2.1 hb.size⟩
    clear hb HS
    go_wp2_with fail
    refine (HAW.out _).mono ?_
    rintro e w14 ⟨rfl, hb⟩
    have SD : Hid (Below w.heap.size w w14) := SC.out.1.trans (hb.mono SC.out.2)
    clear hb
    go_wp2_with fail
    go_ret
    exact ⟨rfl, SD.out⟩
theorem strokeBars_c (ax ay bx bY h : Int) (_hh : I64 h) (w : World) : Calls Try.prog 3 #[.agg #[.int .i64 ax, .int .i64 ay], .agg #[.int .i64 bx, .int .i64 bY], .int .i64 h] w fun e w' => e = .returned (.bool true) ∧ Below w.heap.size w w' := by
  obtain ⟨a, ha'⟩ : ∃ a : Pt, a = (ax, ay) := ⟨_, rfl⟩
  obtain ⟨b, hb'⟩ : ∃ b : Pt, b = (bx, bY) := ⟨_, rfl⟩
  rw [show ax = a.1 by rw [ha'], show ay = a.2 by rw [ha'], show bx = b.1 by rw [hb'], show bY = b.2 by rw [hb']]
  clear ha' hb'
  have HAW := Lib.hid awake_c
  have HB := Lib.hid (fun w => bar_c a b h w)
  have HIA := Lib.hid (lawIn_c a.1 a.2)
  have HIB := Lib.hid (lawIn_c b.1 b.2)
  rw [show roomP (a.1, a.2) = roomP a from rfl] at HIA
  rw [show roomP (b.1, b.2) = roomP b from rfl] at HIB
  have pno : penB h = false → barOut a b h = (30, []) := fun e => by unfold barOut; rw [e]; rfl
  by_cases h1 : h < 1
  · rw [pno (by cases e : penB h with
      | false => rfl
      | true => have := penB_iff.1 e; omega)] at HB
    exact bars_low a b h w HAW h1 HB
  by_cases h2 : h > 32768
  · rw [pno (by cases e : penB h with
      | false => rfl
      | true => have := penB_iff.1 e; omega)] at HB
    exact bars_high a b h w HAW h1 h2 HB
  have hk : 1 ≤ h ∧ h ≤ 32768 := by omega
  have hp : penB h = true := penB_iff.2 hk
  unfold barOut at HB
  rw [hp] at HB
  cases ha : roomP a
  · rw [ha] at HIA HB
    exact bars_a a b h w HAW h1 h2 HIA HB
  rw [ha] at HIA HB
  cases hb : roomP b
  · rw [hb] at HIB HB
    exact bars_b a b h w HAW h1 h2 HIA HIB HB
  rw [hb] at HIB HB
  by_cases hab : a = b
  · rw [decide_eq_true hab] at HB
    exact bars_same a b h w HAW h1 h2 HIA HIB ⟨fun _ => trivial, fun _ => by rw [hab]⟩ ⟨fun _ => trivial, fun _ => by rw [hab]⟩ HB
  rw [decide_eq_false hab] at HB
  rw [show (if (true && true && true && !false) = true then barIn a b h else (30, [])) = barIn a b h from rfl] at HB
  have hc : ¬ a.1 = b.1 ∨ (a.1 = b.1 ∧ ¬ a.2 = b.2) := by
    by_cases h1 : a.1 = b.1
    · right; exact ⟨h1, fun h2 => hab (Prod.ext h1 h2)⟩
    · left; exact h1
  have HL := Lib.hid (long_c a b ha hb)
  unfold barIn at HB
  cases hl : lenB (subP b a)
  · rw [hl] at HL HB
    rcases hc with q1 | ⟨q1, q2⟩
    · exact bars_long1 a b h w HAW h1 h2 HIA HIB q1 HL HB
    · exact bars_long2 a b h w HAW h1 h2 HIA HIB ⟨fun _ => trivial, fun _ => q1⟩ q2 HL HB
  rw [hl] at HL HB
  have HRB := Lib.hid (rbar_c a b h ha hb (lenB_iff.1 hl) (ne_sub hab) hk)
  have hlen : (barI a b h).length = 4 := rfl
  rw [if_pos rfl] at HB
  unfold roomOut at HB
  cases hall : (barI a b h).all roomP
  · rw [hall] at HB
    rcases hc with q1 | ⟨q1, q2⟩
    · exact bars_out1 a b h w HAW h1 h2 HIA HIB q1 HL _ HRB (Lib.hid (by omega)) hall HB
    · exact bars_out2 a b h w HAW h1 h2 HIA HIB ⟨fun _ => trivial, fun _ => q1⟩ q2 HL _ HRB (Lib.hid (by omega)) hall HB
  · rw [hall] at HB
    rcases hc with q1 | ⟨q1, q2⟩
    · exact bars_ok1 a b h w HAW h1 h2 HIA HIB q1 HL _ HRB (Lib.hid (by omega)) (Lib.hid (by omega)) hall HB
    · exact bars_ok2 a b h w HAW h1 h2 HIA HIB ⟨fun _ => trivial, fun _ => q1⟩ q2 HL _ HRB (Lib.hid (by omega)) (Lib.hid (by omega)) hall HB
end Go.Proofs.Ytdidbejinfkhbaa
