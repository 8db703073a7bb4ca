/- Contracts of the four operations of layer 1 (fixed), and of the document's rounding. -/
import Derived.Test.YthejffimgdoapaaDoorA
namespace Go.Proofs.YthejffimgdoapaaDoor
open Go.RowKit

/-- What comes out, if it is in room; else nothing, and ErrOverflow. -/
def resN (n : Int) : Int := if inB n then n else 0
def resE (n : Int) : Int := if inB n then 0 else 10
theorem res_in {n : Int} (h : inB n = true) : resN n = n ∧ resE n = 0 := by simp [resN, resE, h]
theorem res_out {n : Int} (h : inB n = false) : resN n = 0 ∧ resE n = 10 := by simp [resN, resE, h]
def two (a b : Int) : Ending := .returned (.tuple #[.int .i64 a, .int .i64 b])

set_option maxHeartbeats 400000 in
theorem inRoom_any (n : Int) (w : World) :
    Calls Tryd.prog 26 #[.int .i64 n] w fun e w' => e = two (resN n) (resE n) ∧ w = w' := by
  cases h : inB n
  · obtain ⟨e1, e2⟩ := res_out h
    have H1 := Lib.hid e1; have H2 := Lib.hid e2; have Hh := Lib.hid h; clear e1 e2 h
    go_enter Tryd.func26, Tryd.ntmps26
    go_wp2_with (go_at_call 13; refine (in_any _ _).mono ?_; rintro e w' ⟨rfl, rfl⟩; rw [Hh.out])
    go_ret2
    exact ⟨by rw [H1.out, H2.out]; rfl, rfl⟩
  · obtain ⟨e1, e2⟩ := res_in h
    have H1 := Lib.hid e1; have H2 := Lib.hid e2; have Hh := Lib.hid h; clear e1 e2 h
    go_enter Tryd.func26, Tryd.ntmps26
    go_wp2_with (go_at_call 13; refine (in_any _ _).mono ?_; rintro e w' ⟨rfl, rfl⟩; rw [Hh.out])
    go_ret2
    exact ⟨by rw [H1.out, H2.out]; rfl, rfl⟩

set_option maxHeartbeats 400000 in
/-- What inRoom tells is what the statement asks. -/
theorem is_any (n : Int) (w : World) :
    Calls Tryd.prog 14 #[.int .i64 (resN n), .int .i64 (resE n), .int .i64 n] w fun e w' => e = .returned (.bool true) ∧ w = w' := by
  cases h : inB n
  · obtain ⟨e1, e2⟩ := res_out h
    rw [e1, e2]
    have Hh := Lib.hid h; clear e1 e2 h
    go_enter Tryd.func14, Tryd.ntmps14
    go_wp2_with (go_at_call 11; refine (refIn_any _ _).mono ?_; rintro e w' ⟨rfl, rfl⟩; rw [Hh.out])
    go_ret
    exact ⟨rfl, rfl⟩
  · obtain ⟨e1, e2⟩ := res_in h
    rw [e1, e2]
    have Hh := Lib.hid h; clear e1 e2 h
    go_enter Tryd.func14, Tryd.ntmps14
    go_wp2_with (go_at_call 11; refine (refIn_any _ _).mono ?_; rintro e w' ⟨rfl, rfl⟩; rw [Hh.out])
    go_ret
    exact ⟨ret_bool (by simp), rfl⟩

set_option maxHeartbeats 400000 in
theorem add_in (a b : Int) (w : World) (ha : inB a = true) (hb : inB b = true) :
    Calls Tryd.prog 9 #[.int .i64 a, .int .i64 b] w fun e w' => e = two (resN (a + b)) (resE (a + b)) ∧ w = w' := by
  have ba := inB_iff.1 ha; have bb := inB_iff.1 hb
  obtain ⟨a0, a1⟩ := ba; obtain ⟨b0, b1⟩ := bb
  have Hh : Hid ((inB a && inB b) = true) := by rw [ha, hb]; rfl
  clear ha hb
  go_enter Tryd.func9, Tryd.ntmps9
  go_wp2_with (first | (go_at_call 25; refine (bothIn_any _ _ _).mono ?_; rintro e w' ⟨rfl, rfl⟩; rw [Hh.out]) | (go_at_call 26; refine (inRoom_any _ _).mono ?_; rintro e w' ⟨rfl, rfl⟩; unfold two))
  go_ret2
  exact ⟨rfl, rfl⟩
set_option maxHeartbeats 400000 in
theorem add_out (a b : Int) (w : World) (h : (inB a && inB b) = false) :
    Calls Tryd.prog 9 #[.int .i64 a, .int .i64 b] w fun e w' => e = two 0 10 ∧ w = w' := by
  have Hh := Lib.hid h; clear h
  go_enter Tryd.func9, Tryd.ntmps9
  go_wp2_with (go_at_call 25; refine (bothIn_any _ _ _).mono ?_; rintro e w' ⟨rfl, rfl⟩; rw [Hh.out])
  go_ret2
  exact ⟨rfl, rfl⟩
set_option maxHeartbeats 400000 in
theorem sub_in (a b : Int) (w : World) (ha : inB a = true) (hb : inB b = true) :
    Calls Tryd.prog 10 #[.int .i64 a, .int .i64 b] w fun e w' => e = two (resN (a - b)) (resE (a - b)) ∧ w = w' := by
  have ba := inB_iff.1 ha; have bb := inB_iff.1 hb
  obtain ⟨a0, a1⟩ := ba; obtain ⟨b0, b1⟩ := bb
  have Hh : Hid ((inB a && inB b) = true) := by rw [ha, hb]; rfl
  clear ha hb
  go_enter Tryd.func10, Tryd.ntmps10
  go_wp2_with (first | (go_at_call 25; refine (bothIn_any _ _ _).mono ?_; rintro e w' ⟨rfl, rfl⟩; rw [Hh.out]) | (go_at_call 26; refine (inRoom_any _ _).mono ?_; rintro e w' ⟨rfl, rfl⟩; unfold two))
  go_ret2
  exact ⟨rfl, rfl⟩
set_option maxHeartbeats 400000 in
theorem sub_out (a b : Int) (w : World) (h : (inB a && inB b) = false) :
    Calls Tryd.prog 10 #[.int .i64 a, .int .i64 b] w fun e w' => e = two 0 10 ∧ w = w' := by
  have Hh := Lib.hid h; clear h
  go_enter Tryd.func10, Tryd.ntmps10
  go_wp2_with (go_at_call 25; refine (bothIn_any _ _ _).mono ?_; rintro e w' ⟨rfl, rfl⟩; rw [Hh.out])
  go_ret2
  exact ⟨rfl, rfl⟩
set_option maxHeartbeats 400000 in
theorem mul_in (a b : Int) (w : World) (ha : inB a = true) (hb : inB b = true) :
    Calls Tryd.prog 15 #[.int .i64 a, .int .i64 b] w fun e w' => e = two (resN (rnd (a * b) 256)) (resE (rnd (a * b) 256)) ∧ w = w' := by
  have bp := mul_room (inB_iff.1 ha) (inB_iff.1 hb)
  obtain ⟨p0, p1⟩ := bp
  have Hh : Hid ((inB a && inB b) = true) := by rw [ha, hb]; rfl
  clear ha hb
  go_enter Tryd.func15, Tryd.ntmps15
  go_wp2_with (first | (go_at_call 25; refine (bothIn_any _ _ _).mono ?_; rintro e w' ⟨rfl, rfl⟩; rw [Hh.out]) | (go_at_call 27; refine (nearest_any _ _ (by omega) (by omega)).mono ?_; rintro e w' ⟨rfl, rfl⟩) | (go_at_call 26; refine (inRoom_any _ _).mono ?_; rintro e w' ⟨rfl, rfl⟩; unfold two))
  go_ret2
  exact ⟨rfl, rfl⟩
set_option maxHeartbeats 400000 in
theorem mul_out (a b : Int) (w : World) (h : (inB a && inB b) = false) :
    Calls Tryd.prog 15 #[.int .i64 a, .int .i64 b] w fun e w' => e = two 0 10 ∧ w = w' := by
  have Hh := Lib.hid h; clear h
  go_enter Tryd.func15, Tryd.ntmps15
  go_wp2_with (go_at_call 25; refine (bothIn_any _ _ _).mono ?_; rintro e w' ⟨rfl, rfl⟩; rw [Hh.out])
  go_ret2
  exact ⟨rfl, rfl⟩
set_option maxHeartbeats 400000 in
theorem round_any (a b : Int) (w : World) (h0 : -9223372036854775808 ≤ a) (h1 : a ≤ 9223372036854775807) (hb : 1 ≤ b) (hb2 : b ≤ 2147483648) (d0 : -4611686018427387904 ≤ a / b) (d1 : a / b ≤ 4611686018427387904) :
    Calls Tryd.prog 17 #[.int .i64 a, .int .i64 b] w fun e w' => e = .returned (.int .i64 (rnd a b)) ∧ w = w' := by
  have hm := mul_div_le a b
  have hr0 := Int.emod_nonneg a (show b ≠ 0 by omega)
  have hr1 := Int.emod_lt_of_pos a (show 0 < b by omega)
  have eR : rnd a b = if b - a % b ≤ a % b then a / b + 1 else a / b := rfl
  generalize rnd a b = R at eR ⊢
  generalize hq : a / b = q at *
  generalize hr : a % b = r at *
  generalize hx : q * b = x at hm
  have Hm : Hid (wrap64 (a - wrap64 x) = r ∧ wrap64 (b - r) = b - r) := by
    unfold wrap64
    exact ⟨by omega, by omega⟩
  have Hq : Hid (a / b = q) := hq
  have Hx : Hid (q * b = x) := hx
  have HR := Lib.hid eR
  clear eR hq hr hm hx
  go_enter Tryd.func17, Tryd.ntmps17
  go_wp2_with (go_at_call 21; refine (below_any _ _ _ (by omega) (by omega) hb).mono ?_; rintro e w' ⟨rfl, rfl⟩; rw [Hq.out])
  · have h : wrap64 (b - wrap64 (a - wrap64 (q * b))) ≤ wrap64 (a - wrap64 (q * b)) := by assumption
    rw [Hx.out, Hm.out.1, Hm.out.2] at h
    go_ret
    exact ⟨ret_int (by rw [HR.out, if_pos h]), rfl⟩
  · have h : wrap64 (a - wrap64 (q * b)) < wrap64 (b - wrap64 (a - wrap64 (q * b))) := by assumption
    rw [Hx.out, Hm.out.1, Hm.out.2] at h
    go_ret
    exact ⟨ret_int (by rw [HR.out, if_neg (by omega)]), rfl⟩
set_option maxHeartbeats 400000 in
/-- The quotient, rounded: d above 0. -/
theorem quot_pos (n d : Int) (w : World) (h0 : -549755813888 ≤ n) (h1 : n ≤ 549755813888) (hb : 1 ≤ d) (hb2 : d ≤ 2147483648) :
    Calls Tryd.prog 28 #[.int .i64 n, .int .i64 d] w fun e w' => e = .returned (.int .i64 (rnd n d)) ∧ ∃ k, w' = w.drewN k := by
  have hd := ediv_abs n d (by omega) 549755813888 (by omega) (by omega) (by omega)
  obtain ⟨d0, d1⟩ := hd
  have hr0 := Int.emod_nonneg n (show d ≠ 0 by omega)
  have hr1 := Int.emod_lt_of_pos n (show 0 < d by omega)
  have eR : rnd n d = if d - n % d ≤ n % d then n / d + 1 else n / d := rfl
  have hc := tdiv_cases n d (by omega)
  have hd0 : (d == 0) = false := by simp; omega
  have hd1 : decide (d < 0) = false := by simp; omega
  generalize rnd n d = R at eR ⊢
  generalize n / d = q at *
  generalize n % d = r at *
  have HR := Lib.hid eR; have Hc := Lib.hid hc
  clear eR hc
  go_enter Tryd.func28, Tryd.ntmps28
  go_wp2
  go_quiet (fail)
  all_goals go_wp2
  all_goals
    go_ret
    refine ⟨ret_int ?_, nq, rfl⟩
    have hc := Hc.out
    have hR := HR.out
    unfold wrap64 at *
    split at hR <;> omega
set_option maxHeartbeats 400000 in
/-- The quotient, rounded: d below 0: both are turned. -/
theorem quot_neg (n d : Int) (w : World) (h0 : -549755813888 ≤ n) (h1 : n ≤ 549755813888) (hb : d ≤ -1) (hb2 : -2147483648 ≤ d) :
    Calls Tryd.prog 28 #[.int .i64 n, .int .i64 d] w fun e w' => e = .returned (.int .i64 (rnd (-n) (-d))) ∧ ∃ k, w' = w.drewN k := by
  have hd := ediv_abs (-n) (-d) (by omega) 549755813888 (by omega) (by omega) (by omega)
  obtain ⟨d0, d1⟩ := hd
  have hr0 := Int.emod_nonneg (-n) (show (-d) ≠ 0 by omega)
  have hr1 := Int.emod_lt_of_pos (-n) (show 0 < (-d) by omega)
  have eR : rnd (-n) (-d) = if (-d) - (-n) % (-d) ≤ (-n) % (-d) then (-n) / (-d) + 1 else (-n) / (-d) := rfl
  have hc := tdiv_cases (-n) (-d) (by omega)
  simp only [Int.neg_tdiv, Int.tdiv_neg, Int.neg_neg, Int.neg_tmod, Int.tmod_neg] at hc
  have hd0 : ((-d) == 0) = false := by simp; omega
  have hd1 : decide (d < 0) = true := by simp; omega
  generalize rnd (-n) (-d) = R at eR ⊢
  generalize (-n) / (-d) = q at *
  generalize (-n) % (-d) = r at *
  have HR := Lib.hid eR; have Hc := Lib.hid hc
  clear eR hc
  go_enter Tryd.func28, Tryd.ntmps28
  go_wp2
  go_quiet (fail)
  all_goals go_wp2
  all_goals
    go_ret
    refine ⟨ret_int ?_, nq, rfl⟩
    have hc := Hc.out
    have hR := HR.out
    unfold wrap64 at *
    split at hR <;> omega

set_option maxHeartbeats 400000 in
theorem div_pos (a b : Int) (w : World) (ha : inB a = true) (hb : inB b = true) (h : 1 ≤ b) :
    Calls Tryd.prog 16 #[.int .i64 a, .int .i64 b] w fun e w' => e = two (resN (rnd (a * 256) b)) (resE (rnd (a * 256) b)) ∧ ∃ k, w' = w.drewN k := by
  have ba := inB_iff.1 ha; have bb := inB_iff.1 hb
  obtain ⟨a0, a1⟩ := ba; obtain ⟨b0, b1⟩ := bb
  have Hh : Hid ((inB a && inB b) = true) := by rw [ha, hb]; rfl
  have hz : (b == 0) = false := by simp; omega
  clear ha hb
  go_enter Tryd.func16, Tryd.ntmps16
  go_wp2_with (first | (go_at_call 25; refine (bothIn_any _ _ _).mono ?_; rintro e w' ⟨rfl, rfl⟩; rw [Hh.out]) | (go_at_call 28; refine (quot_pos _ _ _ (by omega) (by omega) h (by omega)).mono ?_; rintro e w' ⟨rfl, k, rfl⟩) | (go_at_call 26; refine (inRoom_any _ _).mono ?_; rintro e w' ⟨rfl, rfl⟩; unfold two))
  go_ret2
  exact ⟨rfl, _, rfl⟩
set_option maxHeartbeats 400000 in
theorem div_neg (a b : Int) (w : World) (ha : inB a = true) (hb : inB b = true) (h : b ≤ -1) :
    Calls Tryd.prog 16 #[.int .i64 a, .int .i64 b] w fun e w' => e = two (resN (rnd (-(a * 256)) (-b))) (resE (rnd (-(a * 256)) (-b))) ∧ ∃ k, w' = w.drewN k := by
  have ba := inB_iff.1 ha; have bb := inB_iff.1 hb
  obtain ⟨a0, a1⟩ := ba; obtain ⟨b0, b1⟩ := bb
  have Hh : Hid ((inB a && inB b) = true) := by rw [ha, hb]; rfl
  have hz : (b == 0) = false := by simp; omega
  clear ha hb
  go_enter Tryd.func16, Tryd.ntmps16
  go_wp2_with (first | (go_at_call 25; refine (bothIn_any _ _ _).mono ?_; rintro e w' ⟨rfl, rfl⟩; rw [Hh.out]) | (go_at_call 28; refine (quot_neg _ _ _ (by omega) (by omega) h (by omega)).mono ?_; rintro e w' ⟨rfl, k, rfl⟩) | (go_at_call 26; refine (inRoom_any _ _).mono ?_; rintro e w' ⟨rfl, rfl⟩; unfold two))
  go_ret2
  exact ⟨rfl, _, rfl⟩
set_option maxHeartbeats 400000 in
theorem div_zero (a : Int) (w : World) (ha : inB a = true) :
    Calls Tryd.prog 16 #[.int .i64 a, .int .i64 0] w fun e w' => e = two 0 11 ∧ w = w' := by
  have Hh : Hid ((inB a && inB 0) = true) := by rw [ha]; rfl
  clear ha
  go_enter Tryd.func16, Tryd.ntmps16
  go_wp2_with (go_at_call 25; refine (bothIn_any _ _ _).mono ?_; rintro e w' ⟨rfl, rfl⟩; rw [Hh.out])
  go_ret2
  exact ⟨rfl, rfl⟩
set_option maxHeartbeats 400000 in
theorem div_out (a b : Int) (w : World) (h : (inB a && inB b) = false) :
    Calls Tryd.prog 16 #[.int .i64 a, .int .i64 b] w fun e w' => e = two 0 10 ∧ w = w' := by
  have Hh := Lib.hid h; clear h
  go_enter Tryd.func16, Tryd.ntmps16
  go_wp2_with (go_at_call 25; refine (bothIn_any _ _ _).mono ?_; rintro e w' ⟨rfl, rfl⟩; rw [Hh.out])
  go_ret2
  exact ⟨rfl, rfl⟩
end Go.Proofs.YthejffimgdoapaaDoor
