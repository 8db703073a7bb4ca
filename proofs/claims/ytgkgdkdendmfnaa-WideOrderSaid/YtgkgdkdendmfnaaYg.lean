/- The arithmetic of a division of 128 bits by 64, a digit of 32 bits at a time. -/
import Derived.Test.YtgkgdkdendmfnaaYf
namespace Go.Proofs.Ytgkgdkdendmfnaa

/-- A guess at a digit: what is kept while it is mended. -/
def Trial (Y1 Y0 n u q r : Nat) : Prop := q * Y1 + r = n ∧ r < 4294967296 ∧ q ≤ 4294967297 ∧ n * 4294967296 + u < (q + 1) * (Y1 * 4294967296 + Y0)
/-- The rooms. -/
structure Base (Y1 Y0 n u : Nat) : Prop where
  low : 2147483648 ≤ Y1
  high : Y1 < 4294967296
  y0 : Y0 < 4294967296
  u : u < 4294967296
  n : n < Y1 * 4294967296 + Y0

theorem split1 (q Y1 Y0 : Nat) : q * (Y1 * 4294967296 + Y0) = q * Y1 * 4294967296 + q * Y0 := by rw [Nat.mul_add, ← Nat.mul_assoc]
theorem Trial.start {Y1 Y0 n u : Nat} (b : Base Y1 Y0 n u) : Trial Y1 Y0 n u (n / Y1) (n % Y1) := by
  obtain ⟨b1, b2, b3, b4, b5⟩ := b
  have h1 := Nat.div_add_mod' n Y1
  have h2 := Nat.mod_lt n (show 0 < Y1 by omega)
  refine ⟨h1, by omega, ?_, ?_⟩
  · have : n / Y1 < 4294967298 := by
      rw [Nat.div_lt_iff_lt_mul (by omega)]
      omega
    omega
  · rw [Nat.add_mul, split1]
    generalize n / Y1 * Y1 = a at *
    generalize n / Y1 * Y0 = c at *
    omega
theorem Trial.stop {Y1 Y0 n u q r : Nat} (t : Trial Y1 Y0 n u q r) (h : q * Y0 ≤ 4294967296 * r + u) : (n * 4294967296 + u) / (Y1 * 4294967296 + Y0) = q := by
  obtain ⟨t1, t2, t3, t4⟩ := t
  refine Nat.div_eq_of_lt_le ?_ t4
  rw [split1]
  generalize q * Y1 = a at *
  generalize q * Y0 = c at *
  omega
theorem Trial.step {Y1 Y0 n u q r : Nat} (b : Base Y1 Y0 n u) (t : Trial Y1 Y0 n u q r) (h : 4294967296 ≤ q ∨ 4294967296 * r + u < q * Y0) :
    ∃ p, q = p + 1 ∧ (r + Y1 < 4294967296 → Trial Y1 Y0 n u p (r + Y1)) ∧ (4294967296 ≤ r + Y1 → (n * 4294967296 + u) / (Y1 * 4294967296 + Y0) = p) := by
  obtain ⟨b1, b2, b3, b4, b5⟩ := b
  obtain ⟨t1, t2, t3, t4⟩ := t
  have hlt : n * 4294967296 + u < q * (Y1 * 4294967296 + Y0) := by
    rcases h with h | h
    · have := Nat.mul_le_mul_right (Y1 * 4294967296 + Y0) h
      omega
    · rw [split1]
      generalize q * Y1 = a at *
      generalize q * Y0 = c at *
      omega
  cases q with
  | zero => simp at hlt
  | succ p =>
    refine ⟨p, rfl, fun h2 => ?_, fun h2 => ?_⟩
    · refine ⟨?_, h2, by omega, hlt⟩
      rw [Nat.add_mul] at t1
      omega
    · refine Nat.div_eq_of_lt_le ?_ hlt
      rw [Nat.add_mul] at t1
      rw [split1]
      have h3 := Nat.mul_le_mul (show p ≤ 4294967296 by omega) (show Y0 ≤ 4294967295 by omega)
      generalize p * Y1 = a at *
      generalize p * Y0 = c at *
      omega
/-- No step wraps. -/
theorem Trial.room {Y1 Y0 n u q r : Nat} (b : Base Y1 Y0 n u) (t : Trial Y1 Y0 n u q r) : q * Y0 < 18446744073709551616 ∧ 4294967296 * r < 18446744073709551616 ∧ 4294967296 * r + u < 18446744073709551616 := by
  obtain ⟨b1, b2, b3, b4, b5⟩ := b
  obtain ⟨t1, t2, t3, t4⟩ := t
  have h3 := Nat.mul_le_mul t3 (show Y0 ≤ 4294967295 by omega)
  omega
/-- The digit is one. -/
theorem digit_lt {Y1 Y0 n u : Nat} (b : Base Y1 Y0 n u) : (n * 4294967296 + u) / (Y1 * 4294967296 + Y0) < 4294967296 := by
  obtain ⟨b1, b2, b3, b4, b5⟩ := b
  rw [Nat.div_lt_iff_lt_mul (by omega)]
  omega
theorem shifted_back (U Q y P R : Nat) (hp : 0 < P) (h4 : R < y * P) (e4 : U * P = Q * y * P + R) : Q = U / y ∧ R / P = U % y := by
  have hy : 0 < y := by
    rcases Nat.eq_zero_or_pos y with h | h
    · rw [h, Nat.zero_mul] at h4; omega
    · exact h
  have hle : Q * y ≤ U := by
    refine Nat.le_of_mul_le_mul_right ?_ hp
    omega
  obtain ⟨r, rfl⟩ := Nat.exists_eq_add_of_le hle
  have e5 : R = r * P := by rw [Nat.add_mul] at e4; omega
  have e6 : r < y := by
    rw [e5] at h4
    exact Nat.lt_of_mul_lt_mul_right h4
  refine ⟨?_, ?_⟩
  · rw [Nat.mul_comm Q y, Nat.mul_add_div hy, Nat.div_eq_of_lt e6]; rfl
  · rw [e5, Nat.mul_div_cancel _ hp, Nat.mul_comm Q y, Nat.mul_add_mod, Nat.mod_eq_of_lt e6]
theorem atoms (p q r s t u0 b R0 : Nat) (h : p + q + r = s + t) (k : t + u0 = b + R0) : p + (q + (r + u0)) = s + b + R0 := by omega
theorem put_together (A D E a b H L u1 u0 R1 R0 : Nat) (k0 : L = u1 * 4294967296 + u0) (k1 : H = A + E) (k2 : E * 18446744073709551616 + L = D) (k3 : H * 4294967296 + u1 = a + R1) (k4 : R1 * 4294967296 + u0 = b + R0) :
    A * 18446744073709551616 + D = a * 4294967296 + b + R0 := by
  subst k1
  subst k0
  subst k2
  have h := congrArg (· * 4294967296) k3
  simp only [Nat.add_mul, Nat.mul_assoc] at h
  exact atoms _ _ _ _ _ _ _ _ h k4
/-- The whole: two digits, and the rest shifted back. -/
theorem two_digits (hi lo y s H L Y u1 u0 Q1 R1 Q0 R0 : Nat) (hs : s ≤ 63) (hY : Y = y * 2 ^ s) (hH : H = hi * 2 ^ s + lo / 2 ^ (64 - s)) (hL : L = lo * 2 ^ s % 18446744073709551616)
    (h1 : L = u1 * 4294967296 + u0) (h2 : H * 4294967296 + u1 = Q1 * Y + R1) (h3 : R1 * 4294967296 + u0 = Q0 * Y + R0) (h4 : R0 < Y) :
    Q1 * 4294967296 + Q0 = (hi * 18446744073709551616 + lo) / y ∧ R0 / 2 ^ s = (hi * 18446744073709551616 + lo) % y := by
  have hp : 0 < 2 ^ s := Nat.pow_pos (by decide)
  have hm : 2 ^ s * 2 ^ (64 - s) = 18446744073709551616 := by rw [← Nat.pow_add, show s + (64 - s) = 64 by omega]
  have e1 : lo * 2 ^ s / 18446744073709551616 = lo / 2 ^ (64 - s) := by
    rw [← hm, Nat.mul_comm (2 ^ s) (2 ^ (64 - s)), Nat.mul_div_mul_right _ _ hp]
  have e2 := Nat.div_add_mod' (lo * 2 ^ s) 18446744073709551616
  rw [e1, ← hL] at e2
  refine shifted_back _ _ _ _ _ hp (by rw [← hY]; exact h4) ?_
  have e3 : (hi * 18446744073709551616 + lo) * 2 ^ s = hi * 2 ^ s * 18446744073709551616 + lo * 2 ^ s := by
    rw [Nat.add_mul, Nat.mul_right_comm]
  have e4 : (Q1 * 4294967296 + Q0) * y * 2 ^ s = Q1 * Y * 4294967296 + Q0 * Y := by
    rw [Nat.mul_assoc, ← hY, Nat.add_mul, Nat.mul_right_comm]
  rw [e3, e4]
  clear e3 e4 hm hp hL hY e1 hs h4
  exact put_together _ _ _ _ _ _ _ _ _ _ _ h1 hH e2 h2 h3
end Go.Proofs.Ytgkgdkdendmfnaa
