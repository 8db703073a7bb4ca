/- Contracts of package wide: Sqrt. -/
import Derived.Test.YtgkgdkdendmfnaaYa
namespace Go.Proofs.Ytgkgdkdendmfnaa
open Go.RowKit
theorem sqrt_neg_c (n : Int) (h : n < 0) (w : World) : Calls Try.prog 29 #[.int .i64 n] w fun e w' => e = .returned (.int .i64 0) ∧ Below w.heap.size w w' := by
  have hd : decide (n < 0) = true := by simpa using h
  go_enter Try.func29, Try.ntmps29
  go_wp2_with fail
  go_ret
  exact ⟨rfl, Below.refl _ _⟩
/-- What is not above the root: what has a square not above the number. -/
theorem root_iff (n r x : Nat) (h1 : r * r ≤ n) (h2 : n < (r + 1) * (r + 1)) : x * x ≤ n ↔ x ≤ r := by
  constructor
  · intro h
    rcases Nat.lt_or_ge r x with hx | hx
    · have := Nat.mul_le_mul (show r + 1 ≤ x from hx) (show r + 1 ≤ x from hx)
      omega
    · exact hx
  · intro h
    exact Nat.le_trans (Nat.mul_le_mul h h) h1
/-- One bit more of the root. -/
theorem root_step (r k : Nat) : (r / 2 ^ (k + 1) * 2 ^ (k + 1) + 2 ^ k ≤ r ∧ r / 2 ^ k * 2 ^ k = r / 2 ^ (k + 1) * 2 ^ (k + 1) + 2 ^ k) ∨ (r < r / 2 ^ (k + 1) * 2 ^ (k + 1) + 2 ^ k ∧ r / 2 ^ k * 2 ^ k = r / 2 ^ (k + 1) * 2 ^ (k + 1)) := by
  rw [Nat.pow_succ, ← Nat.div_div_eq_div_mul]
  have hp : 0 < 2 ^ k := Nat.pow_pos (by decide)
  generalize 2 ^ k = P at *
  have h1 := Nat.div_add_mod r P
  have h2 := Nat.mod_lt r hp
  generalize r / P = a at *
  have h3 : a / 2 * (P * 2) = (a - a % 2) * P := by
    rw [show a - a % 2 = a / 2 * 2 by omega, Nat.mul_assoc, Nat.mul_comm 2 P]
  rw [h3, Nat.sub_mul, Nat.mul_comm a P]
  have h4 : a % 2 ≤ a := Nat.mod_le _ _
  have h5 := Nat.mul_le_mul_right P h4
  rw [Nat.mul_comm a P] at h5
  rcases Nat.mod_two_eq_zero_or_one a with h | h
  · rw [h] at h5 ⊢; right; omega
  · rw [h] at h5 ⊢; left; omega
theorem or_add (q k : Nat) : (q * 2 ^ (k + 1)) ||| 2 ^ k = q * 2 ^ (k + 1) + 2 ^ k := by
  rw [← Nat.shiftLeft_eq, Nat.shiftLeft_add_eq_or_of_lt (Nat.pow_lt_pow_right (by decide) (by omega))]
theorem sqrt_c (n r : Int) (hn : I64 n) (hr : isRoot n r) (w : World) : Calls Try.prog 29 #[.int .i64 n] w fun e w' => e = .returned (.int .i64 r) ∧ Below w.heap.size w w' := by
  have h0 : 0 ≤ n := by
    have := hr.2.2.1
    have h2 := Int.mul_nonneg hr.1 hr.1
    omega
  have hd : decide (n < 0) = false := by simpa using h0
  obtain ⟨N, rfl⟩ := Int.eq_ofNat_of_zero_le h0
  obtain ⟨m, rfl⟩ := Int.eq_ofNat_of_zero_le hr.1
  obtain ⟨_, hr1, hr2, hr3⟩ := hr
  have q1 : m * m ≤ N := by exact_mod_cast hr2
  have q2 : N < (m + 1) * (m + 1) := by exact_mod_cast hr3
  have q0 : m < 4294967296 := by omega
  have Q := Lib.hid (fun x => root_iff N m x q1 q2)
  unfold I64 at hn
  clear hr1 hr2 hr3 q1 q2
  go_enter Try.func29, Try.ntmps29
  go_wp2_with fail
  go_loop [3, 4] (fun root bit => ∃ k R b : Nat, root = .int .u64 (R : Int) ∧ bit = .int .u64 (b : Int) ∧ k ≤ 32 ∧ Hid (b = 2 ^ k / 2 ∧ R = m / 2 ^ k * 2 ^ k)) (fun _ bit => (intOf bit).toNat)
  case atStart =>
    exact ⟨32, 0, 2147483648, rfl, rfl, by omega, by decide, by rw [Nat.div_eq_of_lt (by omega), Nat.zero_mul]⟩
  case round =>
    obtain ⟨k, R, b, rfl, rfl, hk, H⟩ := hrel
    cases k with
    | zero =>
      obtain rfl : b = 0 := H.out.1
      obtain rfl : R = m := by have := H.out.2; simpa using this
      go_wp2_with fail
      go_ret
      exact ⟨rfl, Below.refl _ _⟩
    | succ j =>
      have hb0 : 0 < (b : Int) := by
        have := H.out.1
        rw [Nat.pow_succ, Nat.mul_div_cancel _ (by decide)] at this
        have := Nat.pow_pos (n := j) (show 0 < 2 by decide)
        omega
      have hX : ∃ X : Nat, bits .or .u64 (R : Int) (b : Int) = (X : Int) ∧ X = R + b ∧ IntKind.u64.wrap ((X : Int) * (X : Int)) = ((X * X : Nat) : Int) ∧ b = 2 ^ j ∧ b / 2 = 2 ^ j / 2 ∧ (X ≤ m ∧ m / 2 ^ j * 2 ^ j = X ∨ m < X ∧ m / 2 ^ j * 2 ^ j = R) := by
        obtain ⟨e1, e2⟩ := H.out
        rw [Nat.pow_succ, Nat.mul_div_cancel _ (by decide)] at e1
        have hj : 2 ^ j ≤ 2 ^ 31 := Nat.pow_le_pow_right (by decide) (by omega)
        have hR : R ≤ m := by rw [e2]; exact Nat.div_mul_le_self _ _
        have hs := root_step m j
        rw [← e2, ← e1] at hs
        have ho := or_add (m / 2 ^ (j + 1)) j
        rw [← e2, ← e1] at ho
        have hl : R ||| b < 2 ^ 32 := Nat.or_lt_two_pow (by omega) (by omega)
        rw [ho] at hl
        have hm := Nat.mul_lt_mul'' hl hl
        refine ⟨R + b, ?_, rfl, ?_, e1, by rw [e1], ?_⟩
        · rw [bits_or_u64_nat R b (by omega) (by omega), ho]
        · rw [IntKind.wrap_u64, ← Int.natCast_mul]
          omega
        · rw [← e1]
          omega
      obtain ⟨X, x1, x2, x3, x4, x5, x6⟩ := hX
      have X3 := Lib.hid x3
      have X6 := Lib.hid x6
      have X1 := Lib.hid x1
      clear x1 x2 x3 x4 x6
      go_wp2_with fail
      all_goals have hq := (Q.out X)
      · have h : IntKind.u64.wrap (bits .or .u64 (R : Int) (b : Int) * bits .or .u64 (R : Int) (b : Int)) ≤ (N : Int) := by assumption
        rw [X1.out, X3.out] at h
        have h2 : X ≤ m := hq.1 (by exact_mod_cast h)
        refine ⟨⟨j, X, b / 2, by rw [X1.out], by rw [Int.natCast_ediv]; rfl, by omega, x5, ?_⟩, by simp [intOf]; omega⟩
        have := X6.out
        omega
      · have h : (N : Int) < IntKind.u64.wrap (bits .or .u64 (R : Int) (b : Int) * bits .or .u64 (R : Int) (b : Int)) := by assumption
        rw [X1.out, X3.out] at h
        have h2 : ¬ X ≤ m := fun hh => by
          have := hq.2 hh
          have h3 : N < X * X := by exact_mod_cast h
          omega
        refine ⟨⟨j, R, b / 2, rfl, by rw [Int.natCast_ediv]; rfl, by omega, x5, ?_⟩, by simp [intOf]; omega⟩
        have := X6.out
        omega
end Go.Proofs.Ytgkgdkdendmfnaa
