/- limnerref03: the product in parts, and the side. -/
import Derived.Test.YtbllbncmeihaaaaGc
namespace Go.Proofs.Ytbllbncmeihaaaa
open Go.RowKit

theorem part_facts (a b : Int) (h1 : 0 < a) (h2 : a ≤ 8589934592) (h3 : 0 < b) (h4 : b ≤ 8589934592) :
    (0 ≤ a % 65536 * b ∧ a % 65536 * b ≤ 562949953421312) ∧ (0 ≤ a / 65536 * b ∧ a / 65536 * b ≤ 1125899906842624) ∧ (a / 65536 * b + a % 65536 * b / 65536) * 65536 + a % 65536 * b % 65536 = a * b := by
  obtain ⟨A, rfl⟩ := Int.eq_ofNat_of_zero_le (show 0 ≤ a by omega)
  obtain ⟨B, rfl⟩ := Int.eq_ofNat_of_zero_le (show 0 ≤ b by omega)
  have k1 := Nat.mul_le_mul (show A % 65536 ≤ 65535 by omega) (show B ≤ 8589934592 by omega)
  have k2 := Nat.mul_le_mul (show A / 65536 ≤ 131072 by omega) (show B ≤ 8589934592 by omega)
  have e1 : ((A % 65536 * B : Nat) : Int) = (A : Int) % 65536 * B := by simp
  have e2 : ((A / 65536 * B : Nat) : Int) = (A : Int) / 65536 * B := by simp
  have e3 : (A : Int) / 65536 * B * 65536 + (A : Int) % 65536 * B = A * B := by
    have := Int.mul_ediv_add_emod (A : Int) 65536
    rw [Int.mul_right_comm, ← Int.add_mul, Int.mul_comm _ 65536, this]
  rw [← e1, ← e2] at *
  generalize A % 65536 * B = p at *
  generalize A / 65536 * B = q at *
  generalize (A : Int) * B = z at *
  omega
set_option maxHeartbeats 400000 in
set_option maxRecDepth 100000 in
theorem product_pp (a b : Int) (h1 : 0 < a) (h2 : a ≤ 8589934592) (h3 : 0 < b) (h4 : b ≤ 8589934592) (w : World) :
    Calls Try.prog 31 #[.int .i64 (a), .int .i64 (b)] w fun e w' => e = .returned (.tuple #[.int .i64 1, .int .i64 (a / 65536 * b + a % 65536 * b / 65536), .int .i64 (a % 65536 * b % 65536)]) ∧ w = w' := by
  obtain ⟨⟨p1, p2⟩, ⟨p3, p4⟩, _⟩ := part_facts a b h1 h2 h3 h4
  have z1 : (a == 0) = false := by simp; omega
  have z2 : (b == 0) = false := by simp; omega
  go_enter Try.func31, Try.ntmps31
  go_wp2_with fail
  go_returns
  exact ⟨rfl, rfl⟩
set_option maxHeartbeats 400000 in
set_option maxRecDepth 100000 in
theorem product_np (a b : Int) (h1 : 0 < a) (h2 : a ≤ 8589934592) (h3 : 0 < b) (h4 : b ≤ 8589934592) (w : World) :
    Calls Try.prog 31 #[.int .i64 (-a), .int .i64 (b)] w fun e w' => e = .returned (.tuple #[.int .i64 (-1), .int .i64 (a / 65536 * b + a % 65536 * b / 65536), .int .i64 (a % 65536 * b % 65536)]) ∧ w = w' := by
  obtain ⟨⟨p1, p2⟩, ⟨p3, p4⟩, _⟩ := part_facts a b h1 h2 h3 h4
  have z1 : (a == 0) = false := by simp; omega
  have z2 : (b == 0) = false := by simp; omega
  go_enter Try.func31, Try.ntmps31
  go_wp2_with fail
  go_returns
  exact ⟨rfl, rfl⟩
set_option maxHeartbeats 400000 in
set_option maxRecDepth 100000 in
theorem product_pn (a b : Int) (h1 : 0 < a) (h2 : a ≤ 8589934592) (h3 : 0 < b) (h4 : b ≤ 8589934592) (w : World) :
    Calls Try.prog 31 #[.int .i64 (a), .int .i64 (-b)] w fun e w' => e = .returned (.tuple #[.int .i64 (-1), .int .i64 (a / 65536 * b + a % 65536 * b / 65536), .int .i64 (a % 65536 * b % 65536)]) ∧ w = w' := by
  obtain ⟨⟨p1, p2⟩, ⟨p3, p4⟩, _⟩ := part_facts a b h1 h2 h3 h4
  have z1 : (a == 0) = false := by simp; omega
  have z2 : (b == 0) = false := by simp; omega
  go_enter Try.func31, Try.ntmps31
  go_wp2_with fail
  go_returns
  exact ⟨rfl, rfl⟩
set_option maxHeartbeats 400000 in
set_option maxRecDepth 100000 in
theorem product_nn (a b : Int) (h1 : 0 < a) (h2 : a ≤ 8589934592) (h3 : 0 < b) (h4 : b ≤ 8589934592) (w : World) :
    Calls Try.prog 31 #[.int .i64 (-a), .int .i64 (-b)] w fun e w' => e = .returned (.tuple #[.int .i64 1, .int .i64 (a / 65536 * b + a % 65536 * b / 65536), .int .i64 (a % 65536 * b % 65536)]) ∧ w = w' := by
  obtain ⟨⟨p1, p2⟩, ⟨p3, p4⟩, _⟩ := part_facts a b h1 h2 h3 h4
  have z1 : (a == 0) = false := by simp; omega
  have z2 : (b == 0) = false := by simp; omega
  go_enter Try.func31, Try.ntmps31
  go_wp2_with fail
  go_returns
  exact ⟨rfl, rfl⟩
set_option maxHeartbeats 400000 in
set_option maxRecDepth 100000 in
theorem product_z1 (b : Int) (h3 : -8589934592 ≤ b) (h4 : b ≤ 8589934592) (w : World) :
    Calls Try.prog 31 #[.int .i64 0, .int .i64 b] w fun e w' => e = .returned (.tuple #[.int .i64 0, .int .i64 0, .int .i64 0]) ∧ w = w' := by
  by_cases hn : b < 0
  · go_enter Try.func31, Try.ntmps31
    go_wp2_with fail
    all_goals (go_returns; exact ⟨rfl, rfl⟩)
  · go_enter Try.func31, Try.ntmps31
    go_wp2_with fail
    all_goals (go_returns; exact ⟨rfl, rfl⟩)
set_option maxHeartbeats 400000 in
set_option maxRecDepth 100000 in
theorem product_z2 (a : Int) (h1 : -8589934592 ≤ a) (h2 : a ≤ 8589934592) (w : World) :
    Calls Try.prog 31 #[.int .i64 a, .int .i64 0] w fun e w' => e = .returned (.tuple #[.int .i64 0, .int .i64 0, .int .i64 0]) ∧ w = w' := by
  by_cases hn : a < 0
  · go_enter Try.func31, Try.ntmps31
    go_wp2_with fail
    all_goals (go_returns; exact ⟨rfl, rfl⟩)
  · go_enter Try.func31, Try.ntmps31
    go_wp2_with fail
    all_goals (go_returns; exact ⟨rfl, rfl⟩)
/-- Three numbers that tell a number: its sign, and its size in two parts. -/
def Rep (x s m n : Int) : Prop := 0 ≤ m ∧ 0 ≤ n ∧ n < 65536 ∧ (s = 0 ∧ m = 0 ∧ n = 0 ∧ x = 0 ∨ s = 1 ∧ x = m * 65536 + n ∧ 0 < x ∨ s = -1 ∧ x = -(m * 65536 + n) ∧ x < 0)
theorem product_c (a b : Int) (h1 : -8589934592 ≤ a) (h2 : a ≤ 8589934592) (h3 : -8589934592 ≤ b) (h4 : b ≤ 8589934592) :
    ∃ s m n : Int, Rep (a * b) s m n ∧ ∀ w, Calls Try.prog 31 #[.int .i64 a, .int .i64 b] w fun e w' => e = .returned (.tuple #[.int .i64 s, .int .i64 m, .int .i64 n]) ∧ w = w' := by
  rcases Int.lt_trichotomy a 0 with ha | rfl | ha
  · rcases Int.lt_trichotomy b 0 with hb | rfl | hb
    · obtain ⟨A, rfl⟩ : ∃ A, a = -A := ⟨-a, by omega⟩
      obtain ⟨B, rfl⟩ : ∃ B, b = -B := ⟨-b, by omega⟩
      have hp : 0 < A * B := Int.mul_pos (by omega) (by omega)
      have k := part_facts A B (by omega) (by omega) (by omega) (by omega)
      refine ⟨_, _, _, ?_, fun w => product_nn A B (by omega) (by omega) (by omega) (by omega) w⟩
      rw [Int.neg_mul_neg]
      generalize A * B = z at *; generalize A % 65536 * B = p at *; generalize A / 65536 * B = q at *
      unfold Rep; omega
    · exact ⟨0, 0, 0, by simp [Rep], fun w => product_z2 a (by omega) (by omega) w⟩
    · obtain ⟨A, rfl⟩ : ∃ A, a = -A := ⟨-a, by omega⟩
      have hp : 0 < A * b := Int.mul_pos (by omega) (by omega)
      have k := part_facts A b (by omega) (by omega) (by omega) (by omega)
      refine ⟨_, _, _, ?_, fun w => product_np A b (by omega) (by omega) (by omega) (by omega) w⟩
      rw [Int.neg_mul]
      generalize A * b = z at *; generalize A % 65536 * b = p at *; generalize A / 65536 * b = q at *
      unfold Rep; omega
  · exact ⟨0, 0, 0, by simp [Rep], fun w => product_z1 b (by omega) (by omega) w⟩
  · rcases Int.lt_trichotomy b 0 with hb | rfl | hb
    · obtain ⟨B, rfl⟩ : ∃ B, b = -B := ⟨-b, by omega⟩
      have hp : 0 < a * B := Int.mul_pos (by omega) (by omega)
      have k := part_facts a B (by omega) (by omega) (by omega) (by omega)
      refine ⟨_, _, _, ?_, fun w => product_pn a B (by omega) (by omega) (by omega) (by omega) w⟩
      rw [Int.mul_neg]
      generalize a * B = z at *; generalize a % 65536 * B = p at *; generalize a / 65536 * B = q at *
      unfold Rep; omega
    · exact ⟨0, 0, 0, by simp [Rep], fun w => product_z2 a (by omega) (by omega) w⟩
    · have hp : 0 < a * b := Int.mul_pos (by omega) (by omega)
      have k := part_facts a b (by omega) (by omega) (by omega) (by omega)
      refine ⟨_, _, _, ?_, fun w => product_pp a b (by omega) (by omega) (by omega) (by omega) w⟩
      generalize a * b = z at *; generalize a % 65536 * b = p at *; generalize a / 65536 * b = q at *
      unfold Rep; omega
def sideR (s m n t p q : Int) : Int := if s = t then if m = p ∧ n = q then 0 else if p < m ∨ m = p ∧ q < n then s else -s else if t < s then 1 else -1
theorem sideR_eq {x y s m n t p q : Int} (h1 : Rep x s m n) (h2 : Rep y t p q) : sideR s m n t p q = cmpI x y := by
  unfold Rep at h1 h2
  unfold sideR cmpI
  repeat' split
  all_goals omega
end Go.Proofs.Ytbllbncmeihaaaa
