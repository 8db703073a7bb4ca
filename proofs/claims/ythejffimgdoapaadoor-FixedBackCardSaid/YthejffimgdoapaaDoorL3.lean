/- The laws of P1.1, the rest, as contracts: each returns true, for every input. -/
import Derived.Test.YthejffimgdoapaaDoorL2
namespace Go.Proofs.YthejffimgdoapaaDoor
open Go.RowKit
set_option maxHeartbeats 2000000 in
theorem products_pos (a b : Int) (w : World) (ht : Rd w) (ha : inB a = true) (hb : inB b = true) (h : 1 ≤ b) :
    Calls Tryd.prog 4 #[.int .i64 a, .int .i64 b] w fun e w' => e = .returned (.bool true) ∧ Below w.heap.size w w' := by
  have Ht := Lib.hid ht; clear ht
  have ba := inB_iff.1 ha; have bb := inB_iff.1 hb
  have bp := mul_room ba bb
  obtain ⟨a0, a1⟩ := ba; obtain ⟨b0, b1⟩ := bb; obtain ⟨p0, p1⟩ := bp
  have hd := ediv_abs (a * 256) b (by omega) 549755813888 (by omega) (by omega) (by omega)
  obtain ⟨d0, d1⟩ := hd
  have hz : (b == 0) = false := by simp; omega
  have Ha := Lib.hid ha; have Hb := Lib.hid hb; clear ha hb
  have HN : Hid (-a * 256 = -(a * 256)) := by unfold Hid; omega
  go_enter Tryd.func4, Tryd.ntmps4
  go_wp2_with (first | (go_at_call 15; refine (mul_in _ _ _ Ha.out Hb.out).mono ?_; rintro e w' ⟨rfl, rfl⟩; unfold two) | (go_at_call 16; refine (div_pos _ _ _ Ha.out Hb.out h).mono ?_; rintro e w' ⟨rfl, k, rfl⟩; unfold two) | (go_at_call 11; refine (refIn_any _ _).mono ?_; rintro e w' ⟨rfl, rfl⟩; first | rw [Ha.out] | rw [Hb.out]) | (go_at_call 17; (first | rw [HN.out] | skip); refine (round_any _ _ _ (by omega) (by omega) (by omega) (by omega) (by omega) (by omega)).mono ?_; rintro e w' ⟨rfl, rfl⟩) | (go_at_call 14; refine (is_any _ _).mono ?_; rintro e w' ⟨rfl, rfl⟩) | (go_at_call 12; refine (awake_any _ (Ht.out.on (below_drewN _ _))).mono ?_; rintro e w' ⟨rfl, hw⟩; have Hw := Lib.hid hw; clear hw))
  go_ret
  exact ⟨rfl, below_next (below_drewN _ _) Hw.out⟩
set_option maxHeartbeats 2000000 in
theorem products_neg (a b : Int) (w : World) (ht : Rd w) (ha : inB a = true) (hb : inB b = true) (h : b ≤ -1) :
    Calls Tryd.prog 4 #[.int .i64 a, .int .i64 b] w fun e w' => e = .returned (.bool true) ∧ Below w.heap.size w w' := by
  have Ht := Lib.hid ht; clear ht
  have ba := inB_iff.1 ha; have bb := inB_iff.1 hb
  have bp := mul_room ba bb
  obtain ⟨a0, a1⟩ := ba; obtain ⟨b0, b1⟩ := bb; obtain ⟨p0, p1⟩ := bp
  have hd := ediv_abs (-(a * 256)) (-b) (by omega) 549755813888 (by omega) (by omega) (by omega)
  obtain ⟨d0, d1⟩ := hd
  have hz : (b == 0) = false := by simp; omega
  have Ha := Lib.hid ha; have Hb := Lib.hid hb; clear ha hb
  have HN : Hid (-a * 256 = -(a * 256)) := by unfold Hid; omega
  go_enter Tryd.func4, Tryd.ntmps4
  go_wp2_with (first | (go_at_call 15; refine (mul_in _ _ _ Ha.out Hb.out).mono ?_; rintro e w' ⟨rfl, rfl⟩; unfold two) | (go_at_call 16; refine (div_neg _ _ _ Ha.out Hb.out h).mono ?_; rintro e w' ⟨rfl, k, rfl⟩; unfold two) | (go_at_call 11; refine (refIn_any _ _).mono ?_; rintro e w' ⟨rfl, rfl⟩; first | rw [Ha.out] | rw [Hb.out]) | (go_at_call 17; (first | rw [HN.out] | skip); refine (round_any _ _ _ (by omega) (by omega) (by omega) (by omega) (by omega) (by omega)).mono ?_; rintro e w' ⟨rfl, rfl⟩) | (go_at_call 14; refine (is_any _ _).mono ?_; rintro e w' ⟨rfl, rfl⟩) | (go_at_call 12; refine (awake_any _ (Ht.out.on (below_drewN _ _))).mono ?_; rintro e w' ⟨rfl, hw⟩; have Hw := Lib.hid hw; clear hw))
  go_ret
  exact ⟨rfl, below_next (below_drewN _ _) Hw.out⟩
theorem products_law (a : Int) (_h0 : -9223372036854775808 ≤ a) (_h1 : a ≤ 9223372036854775807) (b : Int) (_k0 : -9223372036854775808 ≤ b) (_k1 : b ≤ 9223372036854775807) (w : World) (ht : Rd w) :
    Calls Tryd.prog 4 #[.int .i64 a, .int .i64 b] w fun e w' => e = .returned (.bool true) ∧ Below w.heap.size w w' := by
  cases h : (inB a && inB b)
  · exact products_out a b w ht h
  · have ha : inB a = true := by rw [Bool.and_eq_true] at h; exact h.1
    have hb : inB b = true := by rw [Bool.and_eq_true] at h; exact h.2
    rcases (by omega : b = 0 ∨ 1 ≤ b ∨ b ≤ -1) with rfl | hb' | hb'
    · exact products_zero a w ht ha
    · exact products_pos a b w ht ha hb hb'
    · exact products_neg a b w ht ha hb hb'

/-! Back. -/
theorem rnd_mul (a b : Int) (hb : 0 < b) : rnd (a * b) b = a := by
  unfold rnd
  rw [Int.mul_emod_left, Int.mul_ediv_cancel _ (by omega), if_neg (by omega)]
theorem res_two {n : Int} (h : inB n = true) : two (resN n) (resE n) = two n 0 := by rw [(res_in h).1, (res_in h).2]
theorem res_none {n : Int} (h : inB n = false) : two (resN n) (resE n) = two 0 10 := by rw [(res_out h).1, (res_out h).2]
/-- The product with a whole number is exact. -/
theorem whole_mul (a b : Int) (h : b % 256 = 0) : rnd (a * b) 256 * 256 = a * b := by
  obtain ⟨c, rfl⟩ : ∃ c, b = c * 256 := ⟨b / 256, by omega⟩
  rw [← Int.mul_assoc, rnd_mul _ _ (by omega)]
set_option maxHeartbeats 4000000 in
theorem back_out (a b : Int) (w : World) (ht : Rd w) (h : (inB a && inB b) = false) :
    Calls Tryd.prog 8 #[.int .i64 a, .int .i64 b] w fun e w' => e = .returned (.bool true) ∧ Below w.heap.size w w' := by
  have Ht := Lib.hid ht; clear ht
  have Hab := Lib.hid h; clear h
  go_enter Tryd.func8, Tryd.ntmps8
  go_wp2_with (first | (go_at_call 9; refine (add_out _ _ _ Hab.out).mono ?_; rintro e w' ⟨rfl, rfl⟩; unfold two) | (go_at_call 15; refine (mul_out _ _ _ Hab.out).mono ?_; rintro e w' ⟨rfl, rfl⟩; unfold two) | (go_at_call 12; refine (awake_any _ Ht.out).mono ?_; rintro e w' ⟨rfl, hw⟩; have Hw := Lib.hid hw; clear hw))
  all_goals go_ret
  all_goals exact ⟨rfl, Hw.out⟩
set_option maxHeartbeats 4000000 in
theorem back_snone (a b : Int) (w : World) (ht : Rd w) (ha : inB a = true) (hb : inB b = true) (hs : inB (a + b) = true) (hm : b % 256 ≠ 0 ∨ b = 0) :
    Calls Tryd.prog 8 #[.int .i64 a, .int .i64 b] w fun e w' => e = .returned (.bool true) ∧ Below w.heap.size w w' := by
  have Ht := Lib.hid ht; clear ht
  have ba := inB_iff.1 ha; have bb := inB_iff.1 hb
  obtain ⟨a0, a1⟩ := ba; obtain ⟨b0, b1⟩ := bb
  have HS : Hid (two (resN (a + b)) (resE (a + b)) = two (a + b) 0) := res_two hs
  have HS2 : Hid (two (resN (a + b - b)) (resE (a + b - b)) = two a 0) := by rw [show a + b - b = a by omega]; exact res_two ha
  have Hs := Lib.hid hs; clear hs
  have hB : (bits .and .i64 b 255 == 0) = false ∨ (b != 0) = false := by rw [and_255]; simpa using hm
  clear hm
  have Ha := Lib.hid ha; have Hb := Lib.hid hb; clear ha hb
  rcases hB with hB | hB
  all_goals
    go_enter Tryd.func8, Tryd.ntmps8
    go_wp2_with (first | (go_at_call 9; refine (add_in _ _ _ Ha.out Hb.out).mono ?_; rintro e w' ⟨rfl, rfl⟩; rw [HS.out]; unfold two) | (go_at_call 10; refine (sub_in _ _ _ Hs.out Hb.out).mono ?_; rintro e w' ⟨rfl, rfl⟩; rw [HS2.out]; unfold two) | (go_at_call 12; refine (awake_any _ Ht.out).mono ?_; rintro e w' ⟨rfl, hw⟩; have Hw := Lib.hid hw; clear hw))
    all_goals go_ret
    all_goals exact ⟨rfl, Hw.out⟩
set_option maxHeartbeats 4000000 in
theorem back_soutp (a b : Int) (w : World) (ht : Rd w) (ha : inB a = true) (hb : inB b = true) (hs : inB (a + b) = true) (hm : b % 256 = 0) (hz : b ≠ 0) (hp : inB (rnd (a * b) 256) = false) :
    Calls Tryd.prog 8 #[.int .i64 a, .int .i64 b] w fun e w' => e = .returned (.bool true) ∧ Below w.heap.size w w' := by
  have Ht := Lib.hid ht; clear ht
  have ba := inB_iff.1 ha; have bb := inB_iff.1 hb
  obtain ⟨a0, a1⟩ := ba; obtain ⟨b0, b1⟩ := bb
  have HS : Hid (two (resN (a + b)) (resE (a + b)) = two (a + b) 0) := res_two hs
  have HS2 : Hid (two (resN (a + b - b)) (resE (a + b - b)) = two a 0) := by rw [show a + b - b = a by omega]; exact res_two ha
  have Hs := Lib.hid hs; clear hs
  have hB : (bits .and .i64 b 255 == 0) = true := by rw [and_255, hm]; rfl
  have hB2 : (b != 0) = true := by simp; omega
  have HM : Hid (two (resN (rnd (a * b) 256)) (resE (rnd (a * b) 256)) = two 0 10) := res_none hp
  clear hp hm hz
  have Ha := Lib.hid ha; have Hb := Lib.hid hb; clear ha hb
  go_enter Tryd.func8, Tryd.ntmps8
  go_wp2_with (first | (go_at_call 9; refine (add_in _ _ _ Ha.out Hb.out).mono ?_; rintro e w' ⟨rfl, rfl⟩; rw [HS.out]; unfold two) | (go_at_call 10; refine (sub_in _ _ _ Hs.out Hb.out).mono ?_; rintro e w' ⟨rfl, rfl⟩; rw [HS2.out]; unfold two) | (go_at_call 15; refine (mul_in _ _ _ Ha.out Hb.out).mono ?_; rintro e w' ⟨rfl, rfl⟩; rw [HM.out]; unfold two) | (go_at_call 12; refine (awake_any _ Ht.out).mono ?_; rintro e w' ⟨rfl, hw⟩; have Hw := Lib.hid hw; clear hw))
  go_ret
  exact ⟨rfl, Hw.out⟩
set_option maxHeartbeats 4000000 in
theorem back_spos (a b : Int) (w : World) (ht : Rd w) (ha : inB a = true) (hb : inB b = true) (hs : inB (a + b) = true) (hm : b % 256 = 0) (hz : 1 ≤ b) (hp : inB (rnd (a * b) 256) = true) :
    Calls Tryd.prog 8 #[.int .i64 a, .int .i64 b] w fun e w' => e = .returned (.bool true) ∧ Below w.heap.size w w' := by
  have Ht := Lib.hid ht; clear ht
  have ba := inB_iff.1 ha; have bb := inB_iff.1 hb
  obtain ⟨a0, a1⟩ := ba; obtain ⟨b0, b1⟩ := bb
  have HS : Hid (two (resN (a + b)) (resE (a + b)) = two (a + b) 0) := res_two hs
  have HS2 : Hid (two (resN (a + b - b)) (resE (a + b - b)) = two a 0) := by rw [show a + b - b = a by omega]; exact res_two ha
  have Hs := Lib.hid hs; clear hs
  have hB : (bits .and .i64 b 255 == 0) = true := by rw [and_255, hm]; rfl
  have hB2 : (b != 0) = true := by simp; omega
  have HM : Hid (two (resN (rnd (a * b) 256)) (resE (rnd (a * b) 256)) = two (rnd (a * b) 256) 0) := res_two hp
  have hw := whole_mul a b hm
  have HD : Hid (two (resN (rnd (rnd (a * b) 256 * 256) b)) (resE (rnd (rnd (a * b) 256 * 256) b)) = two a 0) := by rw [hw, rnd_mul _ _ (by omega)]; exact res_two ha
  have Hp := Lib.hid hp
  clear hp hm hw
  have Ha := Lib.hid ha; have Hb := Lib.hid hb; clear ha hb
  go_enter Tryd.func8, Tryd.ntmps8
  go_wp2_with (first | (go_at_call 9; refine (add_in _ _ _ Ha.out Hb.out).mono ?_; rintro e w' ⟨rfl, rfl⟩; rw [HS.out]; unfold two) | (go_at_call 10; refine (sub_in _ _ _ Hs.out Hb.out).mono ?_; rintro e w' ⟨rfl, rfl⟩; rw [HS2.out]; unfold two) | (go_at_call 15; refine (mul_in _ _ _ Ha.out Hb.out).mono ?_; rintro e w' ⟨rfl, rfl⟩; rw [HM.out]; unfold two) | (go_at_call 16; refine (div_pos _ _ _ Hp.out Hb.out hz).mono ?_; rintro e w' ⟨rfl, k, rfl⟩; rw [HD.out]; unfold two) | (go_at_call 12; refine (awake_any _ (Ht.out.on (below_drewN _ _))).mono ?_; rintro e w' ⟨rfl, hw⟩; have Hw := Lib.hid hw; clear hw))
  go_ret
  exact ⟨rfl, below_next (below_drewN _ _) Hw.out⟩
set_option maxHeartbeats 4000000 in
theorem back_sneg (a b : Int) (w : World) (ht : Rd w) (ha : inB a = true) (hb : inB b = true) (hs : inB (a + b) = true) (hm : b % 256 = 0) (hz : b ≤ -1) (hp : inB (rnd (a * b) 256) = true) :
    Calls Tryd.prog 8 #[.int .i64 a, .int .i64 b] w fun e w' => e = .returned (.bool true) ∧ Below w.heap.size w w' := by
  have Ht := Lib.hid ht; clear ht
  have ba := inB_iff.1 ha; have bb := inB_iff.1 hb
  obtain ⟨a0, a1⟩ := ba; obtain ⟨b0, b1⟩ := bb
  have HS : Hid (two (resN (a + b)) (resE (a + b)) = two (a + b) 0) := res_two hs
  have HS2 : Hid (two (resN (a + b - b)) (resE (a + b - b)) = two a 0) := by rw [show a + b - b = a by omega]; exact res_two ha
  have Hs := Lib.hid hs; clear hs
  have hB : (bits .and .i64 b 255 == 0) = true := by rw [and_255, hm]; rfl
  have hB2 : (b != 0) = true := by simp; omega
  have HM : Hid (two (resN (rnd (a * b) 256)) (resE (rnd (a * b) 256)) = two (rnd (a * b) 256) 0) := res_two hp
  have hw := whole_mul a b hm
  have HD : Hid (two (resN (rnd (-(rnd (a * b) 256 * 256)) (-b))) (resE (rnd (-(rnd (a * b) 256 * 256)) (-b))) = two a 0) := by rw [hw, show -(a * b) = a * (-b) from (Int.mul_neg a b).symm, rnd_mul _ _ (by omega)]; exact res_two ha
  have Hp := Lib.hid hp
  clear hp hm hw
  have Ha := Lib.hid ha; have Hb := Lib.hid hb; clear ha hb
  go_enter Tryd.func8, Tryd.ntmps8
  go_wp2_with (first | (go_at_call 9; refine (add_in _ _ _ Ha.out Hb.out).mono ?_; rintro e w' ⟨rfl, rfl⟩; rw [HS.out]; unfold two) | (go_at_call 10; refine (sub_in _ _ _ Hs.out Hb.out).mono ?_; rintro e w' ⟨rfl, rfl⟩; rw [HS2.out]; unfold two) | (go_at_call 15; refine (mul_in _ _ _ Ha.out Hb.out).mono ?_; rintro e w' ⟨rfl, rfl⟩; rw [HM.out]; unfold two) | (go_at_call 16; refine (div_neg _ _ _ Hp.out Hb.out hz).mono ?_; rintro e w' ⟨rfl, k, rfl⟩; rw [HD.out]; unfold two) | (go_at_call 12; refine (awake_any _ (Ht.out.on (below_drewN _ _))).mono ?_; rintro e w' ⟨rfl, hw⟩; have Hw := Lib.hid hw; clear hw))
  go_ret
  exact ⟨rfl, below_next (below_drewN _ _) Hw.out⟩
set_option maxHeartbeats 4000000 in
theorem back_nnone (a b : Int) (w : World) (ht : Rd w) (ha : inB a = true) (hb : inB b = true) (hs : inB (a + b) = false) (hm : b % 256 ≠ 0 ∨ b = 0) :
    Calls Tryd.prog 8 #[.int .i64 a, .int .i64 b] w fun e w' => e = .returned (.bool true) ∧ Below w.heap.size w w' := by
  have Ht := Lib.hid ht; clear ht
  have ba := inB_iff.1 ha; have bb := inB_iff.1 hb
  obtain ⟨a0, a1⟩ := ba; obtain ⟨b0, b1⟩ := bb
  have HS : Hid (two (resN (a + b)) (resE (a + b)) = two 0 10) := res_none hs
  clear hs
  have hB : (bits .and .i64 b 255 == 0) = false ∨ (b != 0) = false := by rw [and_255]; simpa using hm
  clear hm
  have Ha := Lib.hid ha; have Hb := Lib.hid hb; clear ha hb
  rcases hB with hB | hB
  all_goals
    go_enter Tryd.func8, Tryd.ntmps8
    go_wp2_with (first | (go_at_call 9; refine (add_in _ _ _ Ha.out Hb.out).mono ?_; rintro e w' ⟨rfl, rfl⟩; rw [HS.out]; unfold two) | (go_at_call 12; refine (awake_any _ Ht.out).mono ?_; rintro e w' ⟨rfl, hw⟩; have Hw := Lib.hid hw; clear hw))
    all_goals go_ret
    all_goals exact ⟨rfl, Hw.out⟩
set_option maxHeartbeats 4000000 in
theorem back_noutp (a b : Int) (w : World) (ht : Rd w) (ha : inB a = true) (hb : inB b = true) (hs : inB (a + b) = false) (hm : b % 256 = 0) (hz : b ≠ 0) (hp : inB (rnd (a * b) 256) = false) :
    Calls Tryd.prog 8 #[.int .i64 a, .int .i64 b] w fun e w' => e = .returned (.bool true) ∧ Below w.heap.size w w' := by
  have Ht := Lib.hid ht; clear ht
  have ba := inB_iff.1 ha; have bb := inB_iff.1 hb
  obtain ⟨a0, a1⟩ := ba; obtain ⟨b0, b1⟩ := bb
  have HS : Hid (two (resN (a + b)) (resE (a + b)) = two 0 10) := res_none hs
  clear hs
  have hB : (bits .and .i64 b 255 == 0) = true := by rw [and_255, hm]; rfl
  have hB2 : (b != 0) = true := by simp; omega
  have HM : Hid (two (resN (rnd (a * b) 256)) (resE (rnd (a * b) 256)) = two 0 10) := res_none hp
  clear hp hm hz
  have Ha := Lib.hid ha; have Hb := Lib.hid hb; clear ha hb
  go_enter Tryd.func8, Tryd.ntmps8
  go_wp2_with (first | (go_at_call 9; refine (add_in _ _ _ Ha.out Hb.out).mono ?_; rintro e w' ⟨rfl, rfl⟩; rw [HS.out]; unfold two) | (go_at_call 15; refine (mul_in _ _ _ Ha.out Hb.out).mono ?_; rintro e w' ⟨rfl, rfl⟩; rw [HM.out]; unfold two) | (go_at_call 12; refine (awake_any _ Ht.out).mono ?_; rintro e w' ⟨rfl, hw⟩; have Hw := Lib.hid hw; clear hw))
  go_ret
  exact ⟨rfl, Hw.out⟩
set_option maxHeartbeats 4000000 in
theorem back_npos (a b : Int) (w : World) (ht : Rd w) (ha : inB a = true) (hb : inB b = true) (hs : inB (a + b) = false) (hm : b % 256 = 0) (hz : 1 ≤ b) (hp : inB (rnd (a * b) 256) = true) :
    Calls Tryd.prog 8 #[.int .i64 a, .int .i64 b] w fun e w' => e = .returned (.bool true) ∧ Below w.heap.size w w' := by
  have Ht := Lib.hid ht; clear ht
  have ba := inB_iff.1 ha; have bb := inB_iff.1 hb
  obtain ⟨a0, a1⟩ := ba; obtain ⟨b0, b1⟩ := bb
  have HS : Hid (two (resN (a + b)) (resE (a + b)) = two 0 10) := res_none hs
  clear hs
  have hB : (bits .and .i64 b 255 == 0) = true := by rw [and_255, hm]; rfl
  have hB2 : (b != 0) = true := by simp; omega
  have HM : Hid (two (resN (rnd (a * b) 256)) (resE (rnd (a * b) 256)) = two (rnd (a * b) 256) 0) := res_two hp
  have hw := whole_mul a b hm
  have HD : Hid (two (resN (rnd (rnd (a * b) 256 * 256) b)) (resE (rnd (rnd (a * b) 256 * 256) b)) = two a 0) := by rw [hw, rnd_mul _ _ (by omega)]; exact res_two ha
  have Hp := Lib.hid hp
  clear hp hm hw
  have Ha := Lib.hid ha; have Hb := Lib.hid hb; clear ha hb
  go_enter Tryd.func8, Tryd.ntmps8
  go_wp2_with (first | (go_at_call 9; refine (add_in _ _ _ Ha.out Hb.out).mono ?_; rintro e w' ⟨rfl, rfl⟩; rw [HS.out]; unfold two) | (go_at_call 15; refine (mul_in _ _ _ Ha.out Hb.out).mono ?_; rintro e w' ⟨rfl, rfl⟩; rw [HM.out]; unfold two) | (go_at_call 16; refine (div_pos _ _ _ Hp.out Hb.out hz).mono ?_; rintro e w' ⟨rfl, k, rfl⟩; rw [HD.out]; unfold two) | (go_at_call 12; refine (awake_any _ (Ht.out.on (below_drewN _ _))).mono ?_; rintro e w' ⟨rfl, hw⟩; have Hw := Lib.hid hw; clear hw))
  go_ret
  exact ⟨rfl, below_next (below_drewN _ _) Hw.out⟩
set_option maxHeartbeats 4000000 in
theorem back_nneg (a b : Int) (w : World) (ht : Rd w) (ha : inB a = true) (hb : inB b = true) (hs : inB (a + b) = false) (hm : b % 256 = 0) (hz : b ≤ -1) (hp : inB (rnd (a * b) 256) = true) :
    Calls Tryd.prog 8 #[.int .i64 a, .int .i64 b] w fun e w' => e = .returned (.bool true) ∧ Below w.heap.size w w' := by
  have Ht := Lib.hid ht; clear ht
  have ba := inB_iff.1 ha; have bb := inB_iff.1 hb
  obtain ⟨a0, a1⟩ := ba; obtain ⟨b0, b1⟩ := bb
  have HS : Hid (two (resN (a + b)) (resE (a + b)) = two 0 10) := res_none hs
  clear hs
  have hB : (bits .and .i64 b 255 == 0) = true := by rw [and_255, hm]; rfl
  have hB2 : (b != 0) = true := by simp; omega
  have HM : Hid (two (resN (rnd (a * b) 256)) (resE (rnd (a * b) 256)) = two (rnd (a * b) 256) 0) := res_two hp
  have hw := whole_mul a b hm
  have HD : Hid (two (resN (rnd (-(rnd (a * b) 256 * 256)) (-b))) (resE (rnd (-(rnd (a * b) 256 * 256)) (-b))) = two a 0) := by rw [hw, show -(a * b) = a * (-b) from (Int.mul_neg a b).symm, rnd_mul _ _ (by omega)]; exact res_two ha
  have Hp := Lib.hid hp
  clear hp hm hw
  have Ha := Lib.hid ha; have Hb := Lib.hid hb; clear ha hb
  go_enter Tryd.func8, Tryd.ntmps8
  go_wp2_with (first | (go_at_call 9; refine (add_in _ _ _ Ha.out Hb.out).mono ?_; rintro e w' ⟨rfl, rfl⟩; rw [HS.out]; unfold two) | (go_at_call 15; refine (mul_in _ _ _ Ha.out Hb.out).mono ?_; rintro e w' ⟨rfl, rfl⟩; rw [HM.out]; unfold two) | (go_at_call 16; refine (div_neg _ _ _ Hp.out Hb.out hz).mono ?_; rintro e w' ⟨rfl, k, rfl⟩; rw [HD.out]; unfold two) | (go_at_call 12; refine (awake_any _ (Ht.out.on (below_drewN _ _))).mono ?_; rintro e w' ⟨rfl, hw⟩; have Hw := Lib.hid hw; clear hw))
  go_ret
  exact ⟨rfl, below_next (below_drewN _ _) Hw.out⟩
theorem back_law (a : Int) (_h0 : -9223372036854775808 ≤ a) (_h1 : a ≤ 9223372036854775807) (b : Int) (_k0 : -9223372036854775808 ≤ b) (_k1 : b ≤ 9223372036854775807) (w : World) (ht : Rd w) :
    Calls Tryd.prog 8 #[.int .i64 a, .int .i64 b] w fun e w' => e = .returned (.bool true) ∧ Below w.heap.size w w' := by
  cases h : (inB a && inB b)
  · exact back_out a b w ht h
  · have ha : inB a = true := by rw [Bool.and_eq_true] at h; exact h.1
    have hb : inB b = true := by rw [Bool.and_eq_true] at h; exact h.2
    by_cases hm : b % 256 ≠ 0 ∨ b = 0
    · cases hs : inB (a + b)
      · exact back_nnone a b w ht ha hb hs hm
      · exact back_snone a b w ht ha hb hs hm
    · have hm1 : b % 256 = 0 := by omega
      have hm2 : b ≠ 0 := by omega
      cases hp : inB (rnd (a * b) 256)
      · cases hs : inB (a + b)
        · exact back_noutp a b w ht ha hb hs hm1 hm2 hp
        · exact back_soutp a b w ht ha hb hs hm1 hm2 hp
      · rcases (by omega : 1 ≤ b ∨ b ≤ -1) with hz | hz
        · cases hs : inB (a + b)
          · exact back_npos a b w ht ha hb hs hm1 hz hp
          · exact back_spos a b w ht ha hb hs hm1 hz hp
        · cases hs : inB (a + b)
          · exact back_nneg a b w ht ha hb hs hm1 hz hp
          · exact back_sneg a b w ht ha hb hs hm1 hz hp
end Go.Proofs.YthejffimgdoapaaDoor
