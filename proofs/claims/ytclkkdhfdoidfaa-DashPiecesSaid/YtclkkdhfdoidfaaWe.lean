/- Package wide: Sqrt, Div64, MulDiv. -/
import Derived.Test.YtclkkdhfdoidfaaWa
import Derived.Lib.BitFns
import Derived.Deep.CutBlock
import Derived.Deep.DeepCutAuto
namespace Go.Proofs.Ytclkkdhfdoidfaa
open Go.RowKit

theorem sqrt_neg_c (n : Int) (h : n < 0) (w : World) : Calls Try.prog 36 #[.int .i64 n] w fun e w' => e = .returned (.int .i64 0) ∧ Below w.heap.size w w' := by
  have hd : decide (n < 0) = true := by simpa using h
  go_enter Try.func36, Try.ntmps36
  go_wp2_with fail
  go_ret
  exact ⟨rfl, Below.refl _ _⟩
/-- What is not above the root: what has a square not above the number. -/
theorem root_iff (n r x : Nat) (h1 : r * r ≤ n) (h2 : n < (r + 1) * (r + 1)) : x * x ≤ n ↔ x ≤ r := by
  constructor
  · intro h
    rcases Nat.lt_or_ge r x with hx | hx
    · have := Nat.mul_le_mul (show r + 1 ≤ x from hx) (show r + 1 ≤ x from hx)
      omega
    · exact hx
  · intro h
    exact Nat.le_trans (Nat.mul_le_mul h h) h1
/-- One bit more of the root. -/
theorem root_step (r k : Nat) : (r / 2 ^ (k + 1) * 2 ^ (k + 1) + 2 ^ k ≤ r ∧ r / 2 ^ k * 2 ^ k = r / 2 ^ (k + 1) * 2 ^ (k + 1) + 2 ^ k) ∨ (r < r / 2 ^ (k + 1) * 2 ^ (k + 1) + 2 ^ k ∧ r / 2 ^ k * 2 ^ k = r / 2 ^ (k + 1) * 2 ^ (k + 1)) := by
  rw [Nat.pow_succ, ← Nat.div_div_eq_div_mul]
  have hp : 0 < 2 ^ k := Nat.pow_pos (by decide)
  generalize 2 ^ k = P at *
  have h1 := Nat.div_add_mod r P
  have h2 := Nat.mod_lt r hp
  generalize r / P = a at *
  have h3 : a / 2 * (P * 2) = (a - a % 2) * P := by
    rw [show a - a % 2 = a / 2 * 2 by omega, Nat.mul_assoc, Nat.mul_comm 2 P]
  rw [h3, Nat.sub_mul, Nat.mul_comm a P]
  have h4 : a % 2 ≤ a := Nat.mod_le _ _
  have h5 := Nat.mul_le_mul_right P h4
  rw [Nat.mul_comm a P] at h5
  rcases Nat.mod_two_eq_zero_or_one a with h | h
  · rw [h] at h5 ⊢; right; omega
  · rw [h] at h5 ⊢; left; omega
theorem or_add (q k : Nat) : (q * 2 ^ (k + 1)) ||| 2 ^ k = q * 2 ^ (k + 1) + 2 ^ k := by
  rw [← Nat.shiftLeft_eq, Nat.shiftLeft_add_eq_or_of_lt (Nat.pow_lt_pow_right (by decide) (by omega))]
theorem sqrt_c (n r : Int) (hn : I64 n) (hr : isRoot n r) (w : World) : Calls Try.prog 36 #[.int .i64 n] w fun e w' => e = .returned (.int .i64 r) ∧ Below w.heap.size w w' := by
  have h0 : 0 ≤ n := by
    have := hr.2.2.1
    have h2 := Int.mul_nonneg hr.1 hr.1
    omega
  have hd : decide (n < 0) = false := by simpa using h0
  obtain ⟨N, rfl⟩ := Int.eq_ofNat_of_zero_le h0
  obtain ⟨m, rfl⟩ := Int.eq_ofNat_of_zero_le hr.1
  obtain ⟨_, hr1, hr2, hr3⟩ := hr
  have q1 : m * m ≤ N := by exact_mod_cast hr2
  have q2 : N < (m + 1) * (m + 1) := by exact_mod_cast hr3
  have q0 : m < 4294967296 := by omega
  have Q := Lib.hid (fun x => root_iff N m x q1 q2)
  unfold I64 at hn
  clear hr1 hr2 hr3 q1 q2
  go_enter Try.func36, Try.ntmps36
  go_wp2_with fail
  go_loop [3, 4] (fun root bit => ∃ k R b : Nat, root = .int .u64 (R : Int) ∧ bit = .int .u64 (b : Int) ∧ k ≤ 32 ∧ Hid (b = 2 ^ k / 2 ∧ R = m / 2 ^ k * 2 ^ k)) (fun _ bit => (intOf bit).toNat)
  case atStart =>
    exact ⟨32, 0, 2147483648, rfl, rfl, by omega, by decide, by rw [Nat.div_eq_of_lt (by omega), Nat.zero_mul]⟩
  case round =>
    obtain ⟨k, R, b, rfl, rfl, hk, H⟩ := hrel
    cases k with
    | zero =>
      obtain rfl : b = 0 := H.out.1
      obtain rfl : R = m := by have := H.out.2; simpa using this
      go_wp2_with fail
      go_ret
      exact ⟨rfl, Below.refl _ _⟩
    | succ j =>
      have hb0 : 0 < (b : Int) := by
        have := H.out.1
        rw [Nat.pow_succ, Nat.mul_div_cancel _ (by decide)] at this
        have := Nat.pow_pos (n := j) (show 0 < 2 by decide)
        omega
      have hX : ∃ X : Nat, bits .or .u64 (R : Int) (b : Int) = (X : Int) ∧ X = R + b ∧ IntKind.u64.wrap ((X : Int) * (X : Int)) = ((X * X : Nat) : Int) ∧ b = 2 ^ j ∧ b / 2 = 2 ^ j / 2 ∧ (X ≤ m ∧ m / 2 ^ j * 2 ^ j = X ∨ m < X ∧ m / 2 ^ j * 2 ^ j = R) := by
        obtain ⟨e1, e2⟩ := H.out
        rw [Nat.pow_succ, Nat.mul_div_cancel _ (by decide)] at e1
        have hj : 2 ^ j ≤ 2 ^ 31 := Nat.pow_le_pow_right (by decide) (by omega)
        have hR : R ≤ m := by rw [e2]; exact Nat.div_mul_le_self _ _
        have hs := root_step m j
        rw [← e2, ← e1] at hs
        have ho := or_add (m / 2 ^ (j + 1)) j
        rw [← e2, ← e1] at ho
        have hl : R ||| b < 2 ^ 32 := Nat.or_lt_two_pow (by omega) (by omega)
        rw [ho] at hl
        have hm := Nat.mul_lt_mul'' hl hl
        refine ⟨R + b, ?_, rfl, ?_, e1, by rw [e1], ?_⟩
        · rw [bits_or_u64_nat R b (by omega) (by omega), ho]
        · rw [IntKind.wrap_u64, ← Int.natCast_mul]
          omega
        · rw [← e1]
          omega
      obtain ⟨X, x1, x2, x3, x4, x5, x6⟩ := hX
      have X3 := Lib.hid x3
      have X6 := Lib.hid x6
      have X1 := Lib.hid x1
      clear x1 x2 x3 x4 x6
      go_wp2_with fail
      all_goals have hq := (Q.out X)
      · have h : IntKind.u64.wrap (bits .or .u64 (R : Int) (b : Int) * bits .or .u64 (R : Int) (b : Int)) ≤ (N : Int) := by assumption
        rw [X1.out, X3.out] at h
        have h2 : X ≤ m := hq.1 (by exact_mod_cast h)
        refine ⟨⟨j, X, b / 2, by rw [X1.out], by rw [Int.natCast_ediv]; rfl, by omega, x5, ?_⟩, by simp [intOf]; omega⟩
        have := X6.out
        omega
      · have h : (N : Int) < IntKind.u64.wrap (bits .or .u64 (R : Int) (b : Int) * bits .or .u64 (R : Int) (b : Int)) := by assumption
        rw [X1.out, X3.out] at h
        have h2 : ¬ X ≤ m := fun hh => by
          have := hq.2 hh
          have h3 : N < X * X := by exact_mod_cast h
          omega
        refine ⟨⟨j, R, b / 2, rfl, by rw [Int.natCast_ediv]; rfl, by omega, x5, ?_⟩, by simp [intOf]; omega⟩
        have := X6.out
        omega
theorem tab_byte (y : Int) (h : y.toNat < Lib.len8tab.size) (y0 : 0 ≤ y) : ((Lib.len8tab[y.toNat]'h).toNat : Int) = (Lib.bitLen y.toNat : Int) ∧ Lib.bitLen y.toNat ≤ 8 := by
  have hs := Lib.len8tab_size
  have b := Lib.len8_of y y0 (by omega)
  refine ⟨?_, Lib.bitLen_le8' y y0 (by omega)⟩
  rw [← b, Lib.len8, getElem?_pos Lib.len8tab y.toNat h]
  rfl
theorem leaf (x y : Int) (k : Nat) (h : y.toNat < Lib.len8tab.size) (hk : k ≤ 56) (y0 : 0 ≤ y) (e : y.toNat = x.toNat / 2 ^ k) (hl : 2 ^ k ≤ x.toNat) (h1 : x.toNat < 2 ^ 64) :
    wrap64 (k + wrap64 ((Lib.len8tab[y.toNat]'h).toNat : Int)) = (Lib.bitLen x.toNat : Int) := by
  have key : ∀ n : Nat, n ≤ 8 → wrap64 ((k : Int) + wrap64 (n : Int)) = ((k + n : Nat) : Int) := fun n hn => by
    unfold wrap64; omega
  obtain ⟨t1, t2⟩ := tab_byte y h y0
  have t3 := Lib.bitLen_shift k x.toNat hl h1
  rw [← e] at t3
  rw [t1, t3]
  exact key _ t2
set_option maxHeartbeats 4000000 in
set_option maxRecDepth 100000 in
theorem len64_c (x : Int) (h0 : 0 ≤ x) (h1 : x ≤ 18446744073709551615) (w : World) : Calls Try.prog 74 #[.int .u64 x] w fun e w' => e = .returned (.int .i64 (Lib.bitLen x.toNat)) ∧ w = w' := by
  go_enter Try.func74, Try.ntmps74
  go_wp2
  all_goals first | (go_ret; refine ⟨retI ?_, rfl⟩) | (exfalso; have hs := Lib.len8tab_size; omega)
  · exact leaf x _ 56 _ (by decide) (by omega) (by omega) (by omega) (by omega)
  · exact leaf x _ 48 _ (by decide) (by omega) (by omega) (by omega) (by omega)
  · exact leaf x _ 40 _ (by decide) (by omega) (by omega) (by omega) (by omega)
  · exact leaf x _ 32 _ (by decide) (by omega) (by omega) (by omega) (by omega)
  · exact leaf x _ 24 _ (by decide) (by omega) (by omega) (by omega) (by omega)
  · exact leaf x _ 16 _ (by decide) (by omega) (by omega) (by omega) (by omega)
  · exact leaf x _ 8 _ (by decide) (by omega) (by omega) (by omega) (by omega)
  · have key : ∀ n : Nat, n ≤ 8 → wrap64 (wrap64 (n : Int)) = (n : Int) := fun n hn => by
      unfold wrap64; omega
    have hx : x.toNat < Lib.len8tab.size := by omega
    rw [(tab_byte x hx h0).1]
    exact key _ (tab_byte x hx h0).2
theorem bitLen_upper : ∀ (f x : Nat), x < 2 ^ f → f ≤ 64 → x < 2 ^ Lib.bitLen x
  | 0, x, h, _ => by
    have : x = 0 := by simpa using h
    subst this
    decide
  | f + 1, x, h, hf => by
    by_cases h0 : x = 0
    · subst h0; decide
    · have h2 : 2 ^ (f + 1) ≤ 2 ^ 64 := Nat.pow_le_pow_right (by decide) hf
      rw [Lib.bitLen_half x h0 (by omega)]
      rw [Nat.pow_succ] at h
      have := bitLen_upper f (x / 2) (by omega) (by omega)
      rw [Nat.add_comm, Nat.pow_succ]
      omega
theorem bitLen_lower : ∀ (f x : Nat), x < 2 ^ f → f ≤ 64 → x ≠ 0 → 0 < Lib.bitLen x ∧ 2 ^ (Lib.bitLen x - 1) ≤ x
  | 0, x, h, _, h0 => absurd (by simpa using h) h0
  | f + 1, x, h, hf, h0 => by
    have h2 : 2 ^ (f + 1) ≤ 2 ^ 64 := Nat.pow_le_pow_right (by decide) hf
    rw [Lib.bitLen_half x h0 (by omega)]
    refine ⟨by omega, ?_⟩
    rw [Nat.pow_succ] at h
    by_cases h1 : x / 2 = 0
    · rw [h1, show 1 + Lib.bitLen 0 - 1 = 0 by decide]
      omega
    · have := bitLen_lower f (x / 2) (by omega) (by omega) h1
      rw [show 1 + Lib.bitLen (x / 2) - 1 = (Lib.bitLen (x / 2) - 1) + 1 by omega, Nat.pow_succ]
      omega
theorem lead_c (x : Int) (h0 : 0 ≤ x) (h1 : x ≤ 18446744073709551615) (w : World) : Calls Try.prog 70 #[.int .u64 x] w fun e w' => e = .returned (.int .i64 (64 - (Lib.bitLen x.toNat : Int))) ∧ w = w' := by
  have hl := Lib.bitLen_le x.toNat 64 (by decide) (by omega)
  go_enter Try.func70, Try.ntmps70
  go_wp2_with (go_at_call 74; refine (len64_c _ h0 h1 _).mono ?_; rintro e w' ⟨rfl, rfl⟩)
  go_ret
  exact ⟨rfl, rfl⟩
/-- How far a number can be shifted up. -/
theorem lead_fact (y : Nat) (h0 : 0 < y) (h1 : y < 18446744073709551616) : ∃ s : Nat, (64 - (Lib.bitLen y : Int)) = (s : Int) ∧ s ≤ 63 ∧ 9223372036854775808 ≤ y * 2 ^ s ∧ y * 2 ^ s < 18446744073709551616 := by
  have a := bitLen_upper 64 y (by omega) (by omega)
  obtain ⟨b1, b2⟩ := bitLen_lower 64 y (by omega) (by omega) (by omega)
  have c := Lib.bitLen_le y 64 (by decide) (by omega)
  generalize Lib.bitLen y = n at *
  refine ⟨64 - n, by omega, by omega, ?_, ?_⟩
  · have h := Nat.mul_le_mul_right (2 ^ (64 - n)) b2
    rw [← Nat.pow_add, show n - 1 + (64 - n) = 63 by omega] at h
    exact h
  · have h := Nat.mul_lt_mul_of_pos_right a (show 0 < 2 ^ (64 - n) from Nat.pow_pos (by decide))
    rw [← Nat.pow_add, show n + (64 - n) = 64 by omega] at h
    exact h
/-- A guess at a digit: what is kept while it is mended. -/
def Trial (Y1 Y0 n u q r : Nat) : Prop := q * Y1 + r = n ∧ r < 4294967296 ∧ q ≤ 4294967297 ∧ n * 4294967296 + u < (q + 1) * (Y1 * 4294967296 + Y0)
/-- The rooms. -/
structure Base (Y1 Y0 n u : Nat) : Prop where
  low : 2147483648 ≤ Y1
  high : Y1 < 4294967296
  y0 : Y0 < 4294967296
  u : u < 4294967296
  n : n < Y1 * 4294967296 + Y0
theorem split1 (q Y1 Y0 : Nat) : q * (Y1 * 4294967296 + Y0) = q * Y1 * 4294967296 + q * Y0 := by rw [Nat.mul_add, ← Nat.mul_assoc]
theorem Trial.start {Y1 Y0 n u : Nat} (b : Base Y1 Y0 n u) : Trial Y1 Y0 n u (n / Y1) (n % Y1) := by
  obtain ⟨b1, b2, b3, b4, b5⟩ := b
  have h1 := Nat.div_add_mod' n Y1
  have h2 := Nat.mod_lt n (show 0 < Y1 by omega)
  refine ⟨h1, by omega, ?_, ?_⟩
  · have : n / Y1 < 4294967298 := by
      rw [Nat.div_lt_iff_lt_mul (by omega)]
      omega
    omega
  · rw [Nat.add_mul, split1]
    generalize n / Y1 * Y1 = a at *
    generalize n / Y1 * Y0 = c at *
    omega
theorem Trial.stop {Y1 Y0 n u q r : Nat} (t : Trial Y1 Y0 n u q r) (h : q * Y0 ≤ 4294967296 * r + u) : (n * 4294967296 + u) / (Y1 * 4294967296 + Y0) = q := by
  obtain ⟨t1, t2, t3, t4⟩ := t
  refine Nat.div_eq_of_lt_le ?_ t4
  rw [split1]
  generalize q * Y1 = a at *
  generalize q * Y0 = c at *
  omega
theorem Trial.step {Y1 Y0 n u q r : Nat} (b : Base Y1 Y0 n u) (t : Trial Y1 Y0 n u q r) (h : 4294967296 ≤ q ∨ 4294967296 * r + u < q * Y0) :
    ∃ p, q = p + 1 ∧ (r + Y1 < 4294967296 → Trial Y1 Y0 n u p (r + Y1)) ∧ (4294967296 ≤ r + Y1 → (n * 4294967296 + u) / (Y1 * 4294967296 + Y0) = p) := by
  obtain ⟨b1, b2, b3, b4, b5⟩ := b
  obtain ⟨t1, t2, t3, t4⟩ := t
  have hlt : n * 4294967296 + u < q * (Y1 * 4294967296 + Y0) := by
    rcases h with h | h
    · have := Nat.mul_le_mul_right (Y1 * 4294967296 + Y0) h
      omega
    · rw [split1]
      generalize q * Y1 = a at *
      generalize q * Y0 = c at *
      omega
  cases q with
  | zero => simp at hlt
  | succ p =>
    refine ⟨p, rfl, fun h2 => ?_, fun h2 => ?_⟩
    · refine ⟨?_, h2, by omega, hlt⟩
      rw [Nat.add_mul] at t1
      omega
    · refine Nat.div_eq_of_lt_le ?_ hlt
      rw [Nat.add_mul] at t1
      rw [split1]
      have h3 := Nat.mul_le_mul (show p ≤ 4294967296 by omega) (show Y0 ≤ 4294967295 by omega)
      generalize p * Y1 = a at *
      generalize p * Y0 = c at *
      omega
/-- No step wraps. -/
theorem Trial.room {Y1 Y0 n u q r : Nat} (b : Base Y1 Y0 n u) (t : Trial Y1 Y0 n u q r) : q * Y0 < 18446744073709551616 ∧ 4294967296 * r < 18446744073709551616 ∧ 4294967296 * r + u < 18446744073709551616 := by
  obtain ⟨b1, b2, b3, b4, b5⟩ := b
  obtain ⟨t1, t2, t3, t4⟩ := t
  have h3 := Nat.mul_le_mul t3 (show Y0 ≤ 4294967295 by omega)
  omega
/-- The digit is one. -/
theorem digit_lt {Y1 Y0 n u : Nat} (b : Base Y1 Y0 n u) : (n * 4294967296 + u) / (Y1 * 4294967296 + Y0) < 4294967296 := by
  obtain ⟨b1, b2, b3, b4, b5⟩ := b
  rw [Nat.div_lt_iff_lt_mul (by omega)]
  omega
theorem shifted_back (U Q y P R : Nat) (hp : 0 < P) (h4 : R < y * P) (e4 : U * P = Q * y * P + R) : Q = U / y ∧ R / P = U % y := by
  have hy : 0 < y := by
    rcases Nat.eq_zero_or_pos y with h | h
    · rw [h, Nat.zero_mul] at h4; omega
    · exact h
  have hle : Q * y ≤ U := by
    refine Nat.le_of_mul_le_mul_right ?_ hp
    omega
  obtain ⟨r, rfl⟩ := Nat.exists_eq_add_of_le hle
  have e5 : R = r * P := by rw [Nat.add_mul] at e4; omega
  have e6 : r < y := by
    rw [e5] at h4
    exact Nat.lt_of_mul_lt_mul_right h4
  refine ⟨?_, ?_⟩
  · rw [Nat.mul_comm Q y, Nat.mul_add_div hy, Nat.div_eq_of_lt e6]; rfl
  · rw [e5, Nat.mul_div_cancel _ hp, Nat.mul_comm Q y, Nat.mul_add_mod, Nat.mod_eq_of_lt e6]
theorem atoms (p q r s t u0 b R0 : Nat) (h : p + q + r = s + t) (k : t + u0 = b + R0) : p + (q + (r + u0)) = s + b + R0 := by omega
theorem put_together (A D E a b H L u1 u0 R1 R0 : Nat) (k0 : L = u1 * 4294967296 + u0) (k1 : H = A + E) (k2 : E * 18446744073709551616 + L = D) (k3 : H * 4294967296 + u1 = a + R1) (k4 : R1 * 4294967296 + u0 = b + R0) :
    A * 18446744073709551616 + D = a * 4294967296 + b + R0 := by
  subst k1
  subst k0
  subst k2
  have h := congrArg (· * 4294967296) k3
  simp only [Nat.add_mul, Nat.mul_assoc] at h
  exact atoms _ _ _ _ _ _ _ _ h k4
/-- The whole: two digits, and the rest shifted back. -/
theorem two_digits (hi lo y s H L Y u1 u0 Q1 R1 Q0 R0 : Nat) (hs : s ≤ 63) (hY : Y = y * 2 ^ s) (hH : H = hi * 2 ^ s + lo / 2 ^ (64 - s)) (hL : L = lo * 2 ^ s % 18446744073709551616)
    (h1 : L = u1 * 4294967296 + u0) (h2 : H * 4294967296 + u1 = Q1 * Y + R1) (h3 : R1 * 4294967296 + u0 = Q0 * Y + R0) (h4 : R0 < Y) :
    Q1 * 4294967296 + Q0 = (hi * 18446744073709551616 + lo) / y ∧ R0 / 2 ^ s = (hi * 18446744073709551616 + lo) % y := by
  have hp : 0 < 2 ^ s := Nat.pow_pos (by decide)
  have hm : 2 ^ s * 2 ^ (64 - s) = 18446744073709551616 := by rw [← Nat.pow_add, show s + (64 - s) = 64 by omega]
  have e1 : lo * 2 ^ s / 18446744073709551616 = lo / 2 ^ (64 - s) := by
    rw [← hm, Nat.mul_comm (2 ^ s) (2 ^ (64 - s)), Nat.mul_div_mul_right _ _ hp]
  have e2 := Nat.div_add_mod' (lo * 2 ^ s) 18446744073709551616
  rw [e1, ← hL] at e2
  refine shifted_back _ _ _ _ _ hp (by rw [← hY]; exact h4) ?_
  have e3 : (hi * 18446744073709551616 + lo) * 2 ^ s = hi * 2 ^ s * 18446744073709551616 + lo * 2 ^ s := by
    rw [Nat.add_mul, Nat.mul_right_comm]
  have e4 : (Q1 * 4294967296 + Q0) * y * 2 ^ s = Q1 * Y * 4294967296 + Q0 * Y := by
    rw [Nat.mul_assoc, ← hY, Nat.add_mul, Nat.mul_right_comm]
  rw [e3, e4]
  clear e3 e4 hm hp hL hY e1 hs h4
  exact put_together _ _ _ _ _ _ _ _ _ _ _ h1 hH e2 h2 h3
set_option maxHeartbeats 1000000 in
theorem div64_walk (hi lo y s Y Y1 Y0 H L u1 u0 q0 r0 Q1 R1 q1 r1 Q0 R0 Z : Nat) (h1 : hi < y) (hp : 0 < hi) (hs : s ≤ 63)
    (E1 : IntKind.u64.wrap ((y : Int) * 2 ^ s) = (Y : Int)) (E2 : (Y : Int) / 4294967296 = (Y1 : Int)) (E3 : bits .and .u64 (Y : Int) 4294967295 = (Y0 : Int))
    (E4 : bits .or .u64 (IntKind.u64.wrap ((hi : Int) * 2 ^ s)) ((lo : Int) / 2 ^ (64 - s)) = (H : Int)) (E5 : IntKind.u64.wrap ((lo : Int) * 2 ^ s) = (L : Int))
    (E6 : (L : Int) / 4294967296 = (u1 : Int)) (E7 : bits .and .u64 (L : Int) 4294967295 = (u0 : Int)) (E8 : IntKind.u64.wrap ((H : Int) / (Y1 : Int)) = (q0 : Int))
    (E9 : IntKind.u64.wrap ((H : Int) - IntKind.u64.wrap ((q0 : Int) * (Y1 : Int))) = (r0 : Int)) (Ez2 : (Y1 : Int) ≠ 0)
    (HL : Hid (∀ w, Calls Try.prog 70 #[.int .u64 y] w fun e w' => e = .returned (.int .i64 s) ∧ w = w')) (w : World)
    (HB : Hid (Base Y1 Y0 H u1 ∧ Trial Y1 Y0 H u1 q0 r0)) (HQ1 : Hid ((H * 4294967296 + u1) / (Y1 * 4294967296 + Y0) = Q1))
    (H10 : Hid (IntKind.u64.wrap (IntKind.u64.wrap (IntKind.u64.wrap ((H : Int) * 4294967296) + (u1 : Int)) - IntKind.u64.wrap ((Q1 : Int) * (Y : Int))) = (R1 : Int)))
    (H11 : Hid (IntKind.u64.wrap ((R1 : Int) / (Y1 : Int)) = (q1 : Int))) (H12 : Hid (IntKind.u64.wrap ((R1 : Int) - IntKind.u64.wrap ((q1 : Int) * (Y1 : Int))) = (r1 : Int)))
    (HC : Hid (Base Y1 Y0 R1 u0 ∧ Trial Y1 Y0 R1 u0 q1 r1)) (HQ0 : Hid ((R1 * 4294967296 + u0) / (Y1 * 4294967296 + Y0) = Q0))
    (H13 : Hid (IntKind.u64.wrap (IntKind.u64.wrap ((Q1 : Int) * 4294967296) + (Q0 : Int)) = (Z : Int)))
    (H14 : Hid (IntKind.u64.wrap (IntKind.u64.wrap (IntKind.u64.wrap ((R1 : Int) * 4294967296) + (u0 : Int)) - IntKind.u64.wrap ((Q0 : Int) * (Y : Int))) = (R0 : Int))) :
    Calls Try.prog 66 #[.int .u64 hi, .int .u64 lo, .int .u64 y] w fun e w' => e = .returned (.tuple #[.int .u64 (Z : Int), .int .u64 ((R0 : Int) / 2 ^ s)]) ∧ w = w' := by
  have hd : ((y : Int) == 0) = false := by simp; omega
  have hd2 : ((hi : Int) == 0) = false := by simp; omega
  go_enter Try.func66, Try.ntmps66
  go_wp2_with fail
  refine (HL.out _).mono ?_
  rintro e w' ⟨rfl, rfl⟩
  go_upto_block 0 with fail
  go_cut [15] from 67 to 85 (fun q wx => q = .int .u64 (Q1 : Int) ∧ wx = w)
  case first =>
    go_wp2_with fail
    go_loop [15, 16] (fun q r => ∃ a b : Nat, q = .int .u64 (a : Int) ∧ r = .int .u64 (b : Int) ∧ Hid (Trial Y1 Y0 H u1 a b)) (fun q _ => (intOf q).toNat)
    case atStart => exact ⟨q0, r0, rfl, rfl, HB.out.2⟩
    case round =>
      obtain ⟨a, b, rfl, rfl, T⟩ := hrel
      clear E1 E2 E3 E4 E5 E6 E7 E8 E9 Ez2 hd hd2 h1 hp hs
      have hroom := T.out.room HB.out.1
      have hb2 := T.out.2.1
      have ha2 := T.out.2.2.1
      have hy1 := HB.out.1.high
      obtain ⟨p1, ep1⟩ : ∃ c : Nat, a * Y0 = c := ⟨_, rfl⟩
      have EA : IntKind.u64.wrap ((a : Int) * (Y0 : Int)) = (p1 : Int) := by rw [IntKind.wrap_u64, ← Int.natCast_mul, ep1]; omega
      obtain ⟨p2, ep2⟩ : ∃ c : Nat, 4294967296 * b + u1 = c := ⟨_, rfl⟩
      have EC : IntKind.u64.wrap (IntKind.u64.wrap (4294967296 * (b : Int)) + (u1 : Int)) = (p2 : Int) := by rw [IntKind.wrap_u64, IntKind.wrap_u64]; omega
      have hstep := fun h => T.out.step HB.out.1 h
      have hstop := fun h => T.out.stop h
      rw [ep1, ep2] at hstep hstop
      obtain ⟨p3, ep3⟩ : ∃ c : Nat, b + Y1 = c := ⟨_, rfl⟩
      have ED : IntKind.u64.wrap ((b : Int) + (Y1 : Int)) = (p3 : Int) := by rw [IntKind.wrap_u64]; omega
      rw [ep3] at hstep
      have Hstep := Lib.hid hstep
      have Hstop := Lib.hid hstop
      have Hb2 := Lib.hid hb2
      have Ha2 := Lib.hid ha2
      clear hstep hstop ep1 ep2 ep3 hroom hb2 ha2 hy1
      by_cases hgo : 4294967296 ≤ a ∨ p2 < p1
      · obtain ⟨p, ep, st1, st2⟩ := Hstep.out hgo
        have EP : IntKind.u64.wrap ((a : Int) - 1) = (p : Int) := by have := Ha2.out; rw [IntKind.wrap_u64]; omega
        have ST1 := Lib.hid st1
        have ST2 := Lib.hid st2
        have Hpa : Hid (p < a) := by unfold Hid; omega
        clear st1 st2 ep
        rcases Nat.lt_or_ge p3 4294967296 with h3 | h3
        · have d3 : decide ((4294967296 : Int) ≤ (p3 : Int)) = false := by simp; omega
          have i3 : (p3 : Int) < 4294967296 := by omega
          have T2 := Lib.hid (ST1.out h3)
          rcases Nat.lt_or_ge a 4294967296 with h4 | h4
          · have d4 : decide ((4294967296 : Int) ≤ (a : Int)) = false := by simp; omega
            have i4 : (a : Int) < 4294967296 := by omega
            have d5 : decide ((p2 : Int) < (p1 : Int)) = true := by simp; omega
            have d6 : decide (p2 < p1) = true := by simp; omega
            have i5 : (p2 : Int) < (p1 : Int) := by omega
            go_wp2_with fail
            exact ⟨⟨p, p3, rfl, rfl, T2⟩, by have := Hpa.out; simp [intOf]; omega⟩
          · have d4 : decide ((4294967296 : Int) ≤ (a : Int)) = true := by simp; omega
            have i4 : (4294967296 : Int) ≤ (a : Int) := by omega
            go_wp2_with fail
            exact ⟨⟨p, p3, rfl, rfl, T2⟩, by have := Hpa.out; simp [intOf]; omega⟩
        · have d3 : decide ((4294967296 : Int) ≤ (p3 : Int)) = true := by simp; omega
          have i3 : (4294967296 : Int) ≤ (p3 : Int) := by omega
          have hq := ST2.out h3
          rw [HQ1.out] at hq
          subst hq
          rcases Nat.lt_or_ge a 4294967296 with h4 | h4
          · have d4 : decide ((4294967296 : Int) ≤ (a : Int)) = false := by simp; omega
            have i4 : (a : Int) < 4294967296 := by omega
            have d5 : decide ((p2 : Int) < (p1 : Int)) = true := by simp; omega
            have d6 : decide (p2 < p1) = true := by simp; omega
            have i5 : (p2 : Int) < (p1 : Int) := by omega
            go_wp2_with fail
            go_meet
            exact ⟨rfl, rfl⟩
          · have d4 : decide ((4294967296 : Int) ≤ (a : Int)) = true := by simp; omega
            have i4 : (4294967296 : Int) ≤ (a : Int) := by omega
            go_wp2_with fail
            go_meet
            exact ⟨rfl, rfl⟩
      · have d4 : decide ((4294967296 : Int) ≤ (a : Int)) = false := by simp; omega
        have i4 : (a : Int) < 4294967296 := by omega
        have d5 : decide ((p2 : Int) < (p1 : Int)) = false := by simp; omega
        have d6 : decide (p2 < p1) = false := by simp; omega
        have i5 : (p1 : Int) ≤ (p2 : Int) := by omega
        have hq := Hstop.out (by omega)
        clear hgo
        rw [HQ1.out] at hq
        subst hq
        go_wp2_with fail
        go_meet
        exact ⟨rfl, rfl⟩
  obtain ⟨rfl, rfl⟩ := hcut
  clear HQ1 HB
  have E10 := H10.out
  have E11 := H11.out
  have E12 := H12.out
  go_upto_block 2 with fail
  go_cut [18] from 102 to 120 (fun q wx => q = .int .u64 (Q0 : Int) ∧ wx = wc)
  case first =>
    go_wp2_with fail
    go_loop [18, 16] (fun q r => ∃ a b : Nat, q = .int .u64 (a : Int) ∧ r = .int .u64 (b : Int) ∧ Hid (Trial Y1 Y0 R1 u0 a b)) (fun q _ => (intOf q).toNat)
    case atStart => exact ⟨q1, r1, rfl, rfl, HC.out.2⟩
    case round =>
      obtain ⟨a, b, rfl, rfl, T⟩ := hrel
      clear E1 E2 E3 E4 E5 E6 E7 E8 E9 Ez2 hd hd2 h1 hp hs E10 E11 E12
      have hroom := T.out.room HC.out.1
      have hb2 := T.out.2.1
      have ha2 := T.out.2.2.1
      have hy1 := HC.out.1.high
      obtain ⟨p1, ep1⟩ : ∃ c : Nat, a * Y0 = c := ⟨_, rfl⟩
      have EA : IntKind.u64.wrap ((a : Int) * (Y0 : Int)) = (p1 : Int) := by rw [IntKind.wrap_u64, ← Int.natCast_mul, ep1]; omega
      obtain ⟨p2, ep2⟩ : ∃ c : Nat, 4294967296 * b + u0 = c := ⟨_, rfl⟩
      have EC : IntKind.u64.wrap (IntKind.u64.wrap (4294967296 * (b : Int)) + (u0 : Int)) = (p2 : Int) := by rw [IntKind.wrap_u64, IntKind.wrap_u64]; omega
      have hstep := fun h => T.out.step HC.out.1 h
      have hstop := fun h => T.out.stop h
      rw [ep1, ep2] at hstep hstop
      obtain ⟨p3, ep3⟩ : ∃ c : Nat, b + Y1 = c := ⟨_, rfl⟩
      have ED : IntKind.u64.wrap ((b : Int) + (Y1 : Int)) = (p3 : Int) := by rw [IntKind.wrap_u64]; omega
      rw [ep3] at hstep
      have Hstep := Lib.hid hstep
      have Hstop := Lib.hid hstop
      have Hb2 := Lib.hid hb2
      have Ha2 := Lib.hid ha2
      clear hstep hstop ep1 ep2 ep3 hroom hb2 ha2 hy1
      by_cases hgo : 4294967296 ≤ a ∨ p2 < p1
      · obtain ⟨p, ep, st1, st2⟩ := Hstep.out hgo
        have EP : IntKind.u64.wrap ((a : Int) - 1) = (p : Int) := by have := Ha2.out; rw [IntKind.wrap_u64]; omega
        have ST1 := Lib.hid st1
        have ST2 := Lib.hid st2
        have Hpa : Hid (p < a) := by unfold Hid; omega
        clear st1 st2 ep
        rcases Nat.lt_or_ge p3 4294967296 with h3 | h3
        · have d3 : decide ((4294967296 : Int) ≤ (p3 : Int)) = false := by simp; omega
          have i3 : (p3 : Int) < 4294967296 := by omega
          have T2 := Lib.hid (ST1.out h3)
          rcases Nat.lt_or_ge a 4294967296 with h4 | h4
          · have d4 : decide ((4294967296 : Int) ≤ (a : Int)) = false := by simp; omega
            have i4 : (a : Int) < 4294967296 := by omega
            have d5 : decide ((p2 : Int) < (p1 : Int)) = true := by simp; omega
            have d6 : decide (p2 < p1) = true := by simp; omega
            have i5 : (p2 : Int) < (p1 : Int) := by omega
            go_wp2_with fail
            exact ⟨⟨p, p3, rfl, rfl, T2⟩, by have := Hpa.out; simp [intOf]; omega⟩
          · have d4 : decide ((4294967296 : Int) ≤ (a : Int)) = true := by simp; omega
            have i4 : (4294967296 : Int) ≤ (a : Int) := by omega
            go_wp2_with fail
            exact ⟨⟨p, p3, rfl, rfl, T2⟩, by have := Hpa.out; simp [intOf]; omega⟩
        · have d3 : decide ((4294967296 : Int) ≤ (p3 : Int)) = true := by simp; omega
          have i3 : (4294967296 : Int) ≤ (p3 : Int) := by omega
          have hq := ST2.out h3
          rw [HQ0.out] at hq
          subst hq
          rcases Nat.lt_or_ge a 4294967296 with h4 | h4
          · have d4 : decide ((4294967296 : Int) ≤ (a : Int)) = false := by simp; omega
            have i4 : (a : Int) < 4294967296 := by omega
            have d5 : decide ((p2 : Int) < (p1 : Int)) = true := by simp; omega
            have d6 : decide (p2 < p1) = true := by simp; omega
            have i5 : (p2 : Int) < (p1 : Int) := by omega
            go_wp2_with fail
            go_meet
            exact ⟨rfl, rfl⟩
          · have d4 : decide ((4294967296 : Int) ≤ (a : Int)) = true := by simp; omega
            have i4 : (4294967296 : Int) ≤ (a : Int) := by omega
            go_wp2_with fail
            go_meet
            exact ⟨rfl, rfl⟩
      · have d4 : decide ((4294967296 : Int) ≤ (a : Int)) = false := by simp; omega
        have i4 : (a : Int) < 4294967296 := by omega
        have d5 : decide ((p2 : Int) < (p1 : Int)) = false := by simp; omega
        have d6 : decide (p2 < p1) = false := by simp; omega
        have i5 : (p1 : Int) ≤ (p2 : Int) := by omega
        have hq := Hstop.out (by omega)
        clear hgo
        rw [HQ0.out] at hq
        subst hq
        go_wp2_with fail
        go_meet
        exact ⟨rfl, rfl⟩
  obtain ⟨rfl, rfl⟩ := hcut
  clear HQ0 HC
  have E13 := H13.out
  have E14 := H14.out
  go_wp2_with fail
  go_ret2
  exact ⟨rfl, rfl⟩
theorem wrap_room (a : Nat) (h : a < 18446744073709551616) : IntKind.u64.wrap (a : Int) = (a : Int) := by rw [IntKind.wrap_u64]; omega
theorem wrap_rest (a b : Nat) (h : a < 18446744073709551616) : IntKind.u64.wrap ((a : Int) - IntKind.u64.wrap (((a / b : Nat) : Int) * (b : Int))) = ((a % b : Nat) : Int) := by
  have h1 := Nat.div_add_mod' a b
  rw [← Int.natCast_mul, IntKind.wrap_u64, IntKind.wrap_u64]
  generalize a / b * b = c at *
  generalize a % b = d at *
  omega
theorem wrap_quot (a b : Nat) (h : a < 18446744073709551616) : IntKind.u64.wrap ((a : Int) / (b : Int)) = ((a / b : Nat) : Int) := by
  have := Nat.div_le_self a b
  rw [← Int.natCast_ediv]
  generalize a / b = c at *
  rw [IntKind.wrap_u64]; omega
theorem wrap_next (a u q r Y : Nat) (h : q * Y + r = a * 4294967296 + u) (hr : r < 18446744073709551616) :
    IntKind.u64.wrap (IntKind.u64.wrap (IntKind.u64.wrap ((a : Int) * 4294967296) + (u : Int)) - IntKind.u64.wrap ((q : Int) * (Y : Int))) = (r : Int) := by
  rw [← Int.natCast_mul, IntKind.wrap_u64, IntKind.wrap_u64, IntKind.wrap_u64, IntKind.wrap_u64]
  generalize q * Y = c at *
  omega
theorem wrap_two (a b : Nat) (ha : a < 4294967296) (hb : b < 4294967296) : IntKind.u64.wrap (IntKind.u64.wrap ((a : Int) * 4294967296) + (b : Int)) = ((a * 4294967296 + b : Nat) : Int) := by
  rw [IntKind.wrap_u64, IntKind.wrap_u64]; omega
set_option maxHeartbeats 1000000 in
theorem div64_small (lo y : Nat) (hl : lo < 18446744073709551616) (h0 : 0 < y) (hy : y < 18446744073709551616) (w : World) :
    Calls Try.prog 66 #[.int .u64 0, .int .u64 lo, .int .u64 y] w fun e w' => e = .returned (.tuple #[.int .u64 ((lo / y : Nat) : Int), .int .u64 ((lo % y : Nat) : Int)]) ∧ Below w.heap.size w w' := by
  have hd : ((y : Int) == 0) = false := by simp; omega
  have hz : (y : Int) ≠ 0 := by omega
  have e1 := wrap_quot lo y hl
  have e2 : (lo : Int) % (y : Int) = ((lo % y : Nat) : Int) := (Int.natCast_emod lo y).symm
  generalize lo / y = Q at *
  generalize lo % y = R at *
  go_enter Try.func66, Try.ntmps66
  go_wp2_with fail
  go_region
  all_goals go_wp2_with fail
  go_ret2
  exact ⟨by rw [← e2]; rfl, (Below.refl _ _).drew⟩
theorem div64_great (hi lo y : Nat) (hl : lo < 18446744073709551616) (h0 : 0 < hi) (h1 : hi < y) (hy : y < 18446744073709551616) (w : World) :
    Calls Try.prog 66 #[.int .u64 hi, .int .u64 lo, .int .u64 y] w fun e w' => e = .returned (.tuple #[.int .u64 (((hi * 18446744073709551616 + lo) / y : Nat) : Int), .int .u64 (((hi * 18446744073709551616 + lo) % y : Nat) : Int)]) ∧ w = w' := by
  obtain ⟨s, es, hs, hY0, hY1⟩ := lead_fact y (by omega) hy
  have HL := Lib.hid (lead_c y (by omega) (by omega))
  rw [Int.toNat_natCast, es] at HL
  have hp : 0 < 2 ^ s := Nat.pow_pos (by decide)
  have hm : 2 ^ s * 2 ^ (64 - s) = 18446744073709551616 := by rw [← Nat.pow_add, show s + (64 - s) = 64 by omega]
  have hlo : lo / 2 ^ (64 - s) < 2 ^ s := by rw [Nat.div_lt_iff_lt_mul (Nat.pow_pos (by decide)), hm]; exact hl
  have hhi : hi * 2 ^ s + 2 ^ s ≤ y * 2 ^ s := by
    have := Nat.mul_le_mul_right (2 ^ s) (show hi + 1 ≤ y by omega)
    rw [Nat.add_mul, Nat.one_mul] at this
    exact this
  have hor : ∀ a b : Nat, b < 2 ^ s → (a * 2 ^ s) ||| b = a * 2 ^ s + b := fun a b h => by
    rw [← Nat.shiftLeft_eq, Nat.shiftLeft_add_eq_or_of_lt h]
  obtain ⟨Y, eY⟩ : ∃ Y, Y = y * 2 ^ s := ⟨_, rfl⟩
  obtain ⟨H, eH⟩ : ∃ H, H = hi * 2 ^ s + lo / 2 ^ (64 - s) := ⟨_, rfl⟩
  obtain ⟨L, eL⟩ : ∃ L, L = lo * 2 ^ s % 18446744073709551616 := ⟨_, rfl⟩
  have hL : L < 18446744073709551616 := by rw [eL]; exact Nat.mod_lt _ (by decide)
  have hH : H < Y := by omega
  have hYa : 9223372036854775808 ≤ Y := by omega
  have hYb : Y < 18446744073709551616 := by omega
  have hYs : Y / 4294967296 * 4294967296 + Y % 4294967296 = Y := by omega
  have b1 : Base (Y / 4294967296) (Y % 4294967296) H (L / 4294967296) := ⟨by omega, by omega, by omega, by omega, by omega⟩
  have t1 := Trial.start b1
  have d1 := digit_lt b1
  rw [hYs] at d1
  have hR1 : (H * 4294967296 + L / 4294967296) % Y < Y := Nat.mod_lt _ (by omega)
  have m1 := Nat.div_add_mod' (H * 4294967296 + L / 4294967296) Y
  obtain ⟨Q1, eQ1⟩ : ∃ Q1, (H * 4294967296 + L / 4294967296) / Y = Q1 := ⟨_, rfl⟩
  obtain ⟨R1, eR1⟩ : ∃ R1, (H * 4294967296 + L / 4294967296) % Y = R1 := ⟨_, rfl⟩
  rw [eQ1] at d1
  rw [eQ1, eR1] at m1
  rw [eR1] at hR1
  have b2 : Base (Y / 4294967296) (Y % 4294967296) R1 (L % 4294967296) := ⟨by omega, by omega, by omega, by omega, by omega⟩
  have t2 := Trial.start b2
  have d2 := digit_lt b2
  rw [hYs] at d2
  have hR0 : (R1 * 4294967296 + L % 4294967296) % Y < Y := Nat.mod_lt _ (by omega)
  have m2 := Nat.div_add_mod' (R1 * 4294967296 + L % 4294967296) Y
  obtain ⟨Q0, eQ0⟩ : ∃ Q0, (R1 * 4294967296 + L % 4294967296) / Y = Q0 := ⟨_, rfl⟩
  obtain ⟨R0, eR0⟩ : ∃ R0, (R1 * 4294967296 + L % 4294967296) % Y = R0 := ⟨_, rfl⟩
  rw [eQ0] at d2
  rw [eQ0, eR0] at m2
  rw [eR0] at hR0
  have fin := two_digits hi lo y s H L Y (L / 4294967296) (L % 4294967296) Q1 R1 Q0 R0 hs eY eH eL (by omega) m1.symm m2.symm hR0
  have hyz : 0 < Y / 4294967296 := by omega
  have cast2 : ∀ a : Nat, (a : Int) * 2 ^ s = ((a * 2 ^ s : Nat) : Int) := fun a => by norm_cast
  have key := div64_walk hi lo y s Y (Y / 4294967296) (Y % 4294967296) H L (L / 4294967296) (L % 4294967296) (H / (Y / 4294967296)) (H % (Y / 4294967296)) Q1 R1 (R1 / (Y / 4294967296)) (R1 % (Y / 4294967296)) Q0 R0 (Q1 * 4294967296 + Q0) h1 h0 hs
    (by rw [cast2, ← eY]; exact wrap_room _ hYb) (by omega) (low32 Y hYb)
    (by
      rw [cast2, wrap_room _ (by omega), show ((lo : Int) / 2 ^ (64 - s)) = ((lo / 2 ^ (64 - s) : Nat) : Int) by norm_cast, bits_or_u64_nat _ _ (by omega) (by omega), hor _ _ hlo, ← eH])
    (by rw [cast2, IntKind.wrap_u64, eL]; rfl) (by omega) (low32 L hL) (wrap_quot _ _ (by omega)) (wrap_rest _ _ (by omega)) (by omega) HL w
    (Lib.hid ⟨b1, t1⟩) (Lib.hid (by rw [hYs]; exact eQ1)) (Lib.hid (wrap_next _ _ _ _ _ m1 (by omega))) (Lib.hid (wrap_quot _ _ (by omega))) (Lib.hid (wrap_rest _ _ (by omega)))
    (Lib.hid ⟨b2, t2⟩) (Lib.hid (by rw [hYs]; exact eQ0)) (Lib.hid (wrap_two _ _ d1 d2)) (Lib.hid (wrap_next _ _ _ _ _ m2 (by omega)))
  refine key.mono ?_
  rintro e w' ⟨rfl, rfl⟩
  rw [← fin.1, ← fin.2]
  exact ⟨by norm_cast, rfl⟩
theorem of_nat (q : Nat) (h : q < 18446744073709551616) : (0 : Int) = hiOf (BitVec.ofInt 128 (q : Int)) ∧ (q : Int) = (loOf (BitVec.ofInt 128 (q : Int)) : Int) := by
  refine halves _ 0 q (by decide) (by decide) (by omega) (by omega) ?_
  rw [BitVec.toInt_ofInt]
  rw [Int.zero_mul, Int.zero_add]
  exact (Int.bmod_emod).symm
theorem NumAt.other {w : World} {g : Nat} {hi lo : Int} (h : NumAt w g hi lo) (a : Addr) (v : Value) (hne : g ≠ a.block) : NumAt (w.setCell a v) g hi lo := by
  unfold NumAt; rw [Below.heap_setCell _ _ _ _ hne]; exact h
set_option maxRecDepth 100000 in
set_option maxHeartbeats 400000 in
theorem below_c (q r : Nat) (h : q < 18446744073709551616) (w : World) : Calls Try.prog 68 #[.int .u64 q, .int .u64 r] w fun e w' =>
    e = .returned (.agg #[.int .i64 (hiOf (if r = 0 then -BitVec.ofInt 128 (q : Int) else -BitVec.ofInt 128 (q : Int) - ofI 1)), .int .u64 (loOf (if r = 0 then -BitVec.ofInt 128 (q : Int) else -BitVec.ofInt 128 (q : Int) - ofI 1))]) ∧ Below w.heap.size w w' := by
  have hq := of_nat q h
  have HN := Lib.hid (neg_c (BitVec.ofInt 128 (q : Int)))
  have HO := Lib.hid fun w => of_c 1 w (by unfold I64; omega)
  have HS := Lib.hid (sub_c (-BitVec.ofInt 128 (q : Int)) (ofI 1))
  rw [← hq.1, ← hq.2] at HN
  clear hq
  generalize BitVec.ofInt 128 (q : Int) = u at *
  generalize -u = v at *
  by_cases hr : r = 0
  · rw [if_pos hr]
    have hd : ((r : Int) == 0) = true := by simp; omega
    have hd2 : decide (r = 0) = true := by simpa using hr
    clear hr
    generalize hiOf v = vh at *
    generalize (loOf v : Int) = vl at *
    go_enter Try.func68, Try.ntmps68
    go_wp2_with fail
    refine (HN.out _).mono ?_
    rintro e w1 ⟨rfl, hb⟩
    have m1 : NumAt w1 w.heap.size 0 0 := NumAt.on (B := w.heap.size + 1) (heap_alloc_last w _) (by simpa using hb) (by omega)
    have hs1 : w.heap.size + 1 ≤ w1.heap.size := by have := hb.size; simpa using this
    have B1 : Hid (Below w.heap.size w w1) := below_next ((Below.refl _ _).alloc (Nat.le_refl _) _) hb
    have c0 := m1.c0
    have c1 := m1.c1
    have f0 := m1.free 0
    have f1 := m1.free 1
    have M1 := Lib.hid m1
    have hlt : w.heap.size < w1.heap.size := by omega
    clear hb m1
    go_wp2_with fail
    have m3 := M1.out.stored vh vl
    have hs3 : ((w1.setCell ⟨w.heap.size, 0, none⟩ (.int .i64 vh)).setCell ⟨w.heap.size, 1, none⟩ (.int .u64 vl)).heap.size = w1.heap.size := by simp
    have b3 : Below w.heap.size w ((w1.setCell ⟨w.heap.size, 0, none⟩ (.int .i64 vh)).setCell ⟨w.heap.size, 1, none⟩ (.int .u64 vl)) := (B1.out.setCell (Nat.le_refl _) _).setCell (Nat.le_refl _) _
    have m4 : NumAt (((w1.setCell ⟨w.heap.size, 0, none⟩ (.int .i64 vh)).setCell ⟨w.heap.size, 1, none⟩ (.int .u64 vl)).alloc (.cells #[.int .i64 vh, .int .u64 vl] 101)) w.heap.size vh vl := by
      unfold NumAt; rw [heap_alloc_old _ _ (by omega)]; exact m3
    exact bodyPost_ret (results_num 4 rfl rfl m4.c0 m4.c1) rfl ⟨rfl, b3.alloc (by omega) _⟩
  · rw [if_neg hr]
    have hd : ((r : Int) == 0) = false := by simp; omega
    have hd2 : decide (r = 0) = false := by simpa using hr
    clear hr
    generalize hiOf (v - ofI 1) = zh at *
    generalize (loOf (v - ofI 1) : Int) = zl at *
    generalize hiOf v = vh at *
    generalize (loOf v : Int) = vl at *
    go_enter Try.func68, Try.ntmps68
    go_wp2_with fail
    refine (HN.out _).mono ?_
    rintro e w1 ⟨rfl, hb⟩
    have m1 : NumAt w1 w.heap.size 0 0 := NumAt.on (B := w.heap.size + 1) (heap_alloc_last w _) (by simpa using hb) (by omega)
    have hs1 : w.heap.size + 1 ≤ w1.heap.size := by have := hb.size; simpa using this
    have B1 : Hid (Below w.heap.size w w1) := below_next ((Below.refl _ _).alloc (Nat.le_refl _) _) hb
    clear hb
    go_wp2_with fail
    have m2 : NumAt (w1.alloc (.cells #[.int .i64 vh, .int .u64 vl] 101)) w.heap.size 0 0 := by
      unfold NumAt; rw [heap_alloc_old _ _ (by omega)]; exact m1
    have mx : NumAt (w1.alloc (.cells #[.int .i64 vh, .int .u64 vl] 101)) w1.heap.size vh vl := heap_alloc_last _ _
    have B2 : Below w.heap.size w (w1.alloc (.cells #[.int .i64 vh, .int .u64 vl] 101)) := B1.out.alloc (by omega) _
    have hsz : (w1.alloc (.cells #[.int .i64 vh, .int .u64 vl] 101)).heap.size = w1.heap.size + 1 := by simp
    have hlt : w.heap.size < w1.heap.size := by omega
    generalize w1.alloc (.cells #[.int .i64 vh, .int .u64 vl] 101) = W at *
    generalize w1.heap.size = g at *
    clear B1 m1
    refine wp_region_noPanic ?_
    refine wp_region_held_drew (S := fun w' => NumAt w' g vh vl) (by kernel_rfl) mx (fun hS => ?_)
    refine wpAnyH_take (i := 0) (v := .agg #[.int .i64 vh, .int .u64 vl]) rfl (by kernel_rfl) (by kernel_rfl) (by kernel_rfl) (fun _ _ _ h => h.elim) (.inl ⟨rfl, fun w' hw' => run_numI _ _ _ g _ _ w' rfl rfl hw'⟩) hS ?_
    simp only [Act.put, List.getElem_toArray, List.getElem_cons_zero, List.setIfInBounds_toArray, List.set_cons_zero, List.set_cons_succ]
    refine wpAnyH_ready (rs := [1]) (by kernel_rfl) (by simp) (AllReadyH.cons rfl (fun K hK => ?_) AllReadyH.nil)
    simp only [List.getElem_toArray, List.getElem_cons_succ, List.getElem_cons_zero]
    go_simp
    refine (HO.out _).mono ?_
    rintro e w2 ⟨rfl, hb2⟩
    have r1 : NumAt w2 w.heap.size 0 0 := NumAt.on (show NumAt W.drew w.heap.size 0 0 from m2) hb2 (by show _ < W.heap.size; omega)
    have x1 : NumAt w2 g vh vl := NumAt.on (show NumAt W.drew g vh vl from mx) hb2 (by show _ < W.heap.size; omega)
    have b1 : Below w.heap.size w w2 := below_next (show Below w.heap.size w W.drew from B2.drew) hb2
    have s1 : g + 1 ≤ w2.heap.size := by have h : W.heap.size ≤ w2.heap.size := hb2.size; omega
    refine hK.out _ _ x1 (fun hS => ?_)
    refine wpAnyH_ready (rs := [2]) (by kernel_rfl) (by simp) (AllReadyH.cons rfl (fun K hK => ?_) AllReadyH.nil)
    simp only [List.getElem_toArray, List.getElem_cons_succ, List.getElem_cons_zero]
    clear hb2
    go_simp
    refine (HS.out _).mono ?_
    rintro e w3 ⟨rfl, hb3⟩
    have r2 : NumAt w3 w.heap.size 0 0 := NumAt.on r1 hb3 (by omega)
    have x2 : NumAt w3 g vh vl := NumAt.on x1 hb3 (by omega)
    have b2 : Below w.heap.size w w3 := below_next b1 hb3
    refine hK.out _ _ x2 (fun hS => ?_)
    refine wpAnyH_ready (rs := [3]) (by kernel_rfl) (by simp) (AllReadyH.cons rfl (fun K hK => ?_) AllReadyH.nil)
    simp only [List.getElem_toArray, List.getElem_cons_succ, List.getElem_cons_zero]
    clear hb3 hS
    have c0 := r2.c0
    have c1 := r2.c1
    have f0 := r2.free 0
    have f1 := r2.free 1
    have M2 := Lib.hid r2
    have HK := Lib.hid hK
    have X2 := Lib.hid x2
    have B3 := Lib.hid b2
    clear hK x2 b2 r2 x1 r1 b1 mx m2 B2
    go_simp
    refine HK.out _ _ ((X2.out.other _ _ (by dsimp only; omega)).other _ _ (by dsimp only; omega)) (fun hS => ?_)
    have m3 := M2.out.stored zh zl
    refine wpAnyH_done (by kernel_rfl) ?_ _
    refine NoPanic.normal ?_
    go_wp2_with fail
    exact bodyPost_ret (results_num 4 rfl rfl m3.c0 m3.c1) rfl ⟨rfl, (B3.out.setCell (Nat.le_refl _) _).setCell (Nat.le_refl _) _⟩
/-- A quotient rounded down, of two numbers of whatever signs, by their sizes. -/
theorem floor_pos (P D : Nat) : (P : Int).fdiv (D : Int) = ((P / D : Nat) : Int) := by
  rw [Int.fdiv_eq_ediv_of_nonneg _ (by omega)]; exact (Int.natCast_ediv P D).symm
theorem floor_neg (P D : Nat) (hD : 0 < D) : (-(P : Int)).fdiv (D : Int) = if P % D = 0 then -((P / D : Nat) : Int) else -((P / D : Nat) : Int) - 1 := by
  have h1 := Nat.div_add_mod' P D
  have h2 := Nat.mod_lt P hD
  rw [Int.fdiv_eq_ediv_of_nonneg _ (by omega)]
  have e : (P : Int) = ((P / D : Nat) : Int) * (D : Int) + ((P % D : Nat) : Int) := by
    rw [← Int.natCast_mul, ← Int.natCast_add, h1]
  generalize P / D = q at *
  generalize P % D = r at *
  by_cases hr : r = 0
  · rw [if_pos hr, e, hr, show -((q : Int) * (D : Int) + ((0 : Nat) : Int)) = -(q : Int) * (D : Int) by rw [Int.neg_mul]; omega]
    exact Int.mul_ediv_cancel _ (by omega)
  · rw [if_neg hr]
    apply Int.le_antisymm
    · have : -(P : Int) / (D : Int) < -(q : Int) := by
        rw [Int.ediv_lt_iff_lt_mul (by omega), Int.neg_mul]
        omega
      omega
    · rw [Int.le_ediv_iff_mul_le (by omega), Int.sub_mul, Int.neg_mul, Int.one_mul]
      omega
theorem exact_any (x d : Int) (P D : Nat) (hx : x = P ∨ x = -(P : Int)) (hd : d = D ∨ d = -(D : Int)) : decide (x.fmod d = 0) = decide (P % D = 0) := by
  have h1 : x.fmod d = 0 ↔ d ∣ x := ⟨Int.dvd_of_fmod_eq_zero, Int.fmod_eq_zero_of_dvd⟩
  have h2 : d ∣ x ↔ (D : Int) ∣ (P : Int) := by
    rcases hx with rfl | rfl <;> rcases hd with rfl | rfl <;> simp [Int.dvd_neg, Int.neg_dvd]
  rw [Bool.eq_iff_iff, decide_eq_true_eq, decide_eq_true_eq, h1, h2, Int.natCast_dvd_natCast]
  exact Nat.dvd_iff_mod_eq_zero
/-- All that MulDiv's answer wants. -/
theorem floor_any (a b d : Int) (A B D : Nat) (ha : a = A ∧ 0 ≤ a ∨ a = -(A : Int) ∧ a < 0) (hb : b = B ∧ 0 ≤ b ∨ b = -(B : Int) ∧ b < 0) (hd : d = D ∧ 0 ≤ d ∨ d = -(D : Int) ∧ d < 0) (h0 : d ≠ 0) :
    decide ((a * b).fmod d = 0) = decide (A * B % D = 0) ∧
    (((decide (a < 0) != decide (b < 0)) != decide (d < 0)) = false ∧ (a * b).fdiv d = ((A * B / D : Nat) : Int) ∨
     ((decide (a < 0) != decide (b < 0)) != decide (d < 0)) = true ∧ (a * b).fdiv d = if A * B % D = 0 then -((A * B / D : Nat) : Int) else -((A * B / D : Nat) : Int) - 1) := by
  have hD : 0 < D := by omega
  have hp := sz_prod a b A B ha hb
  refine ⟨exact_any _ _ _ _ (by rcases hp with h | h; exact .inr h.2; exact .inl h.2) (by rcases hd with h | h; exact .inl h.1; exact .inr h.1), ?_⟩
  generalize (decide (a < 0) != decide (b < 0)) = s at *
  generalize A * B = P at *
  rcases hp with ⟨rfl, h2⟩ | ⟨rfl, h2⟩ <;> rcases hd with ⟨h3, h4⟩ | ⟨h3, h4⟩
  · right; rw [h2, h3]; exact ⟨by rw [decide_eq_false (by omega)]; rfl, floor_neg P D hD⟩
  · left; rw [h2, h3, Int.neg_fdiv_neg]; exact ⟨by rw [decide_eq_true (by omega)]; rfl, floor_pos P D⟩
  · left; rw [h2, h3]; exact ⟨by rw [decide_eq_false (by omega)]; rfl, floor_pos P D⟩
  · right; rw [h2, h3, ← Int.neg_neg (P : Int), Int.neg_fdiv_neg]; exact ⟨by rw [decide_eq_true (by omega)]; rfl, floor_neg P D hD⟩
theorem toInt_of (u : BitVec 128) (F : Int) (h0 : -36893488147419103232 ≤ F) (h1 : F ≤ 36893488147419103232) (hc : u.toInt % 340282366920938463463374607431768211456 = F % 340282366920938463463374607431768211456) : u.toInt = F := by
  have := toInt_bounds u
  omega
theorem toInt_ofInt_mod (F : Int) : (BitVec.ofInt 128 F).toInt % 340282366920938463463374607431768211456 = F % 340282366920938463463374607431768211456 := by
  rw [BitVec.toInt_ofInt]; exact Int.bmod_emod
theorem down_pos (q : Nat) (h : q < 18446744073709551616) : (BitVec.ofInt 128 (q : Int)).toInt = (q : Int) := toInt_of _ _ (by omega) (by omega) (toInt_ofInt_mod _)
theorem down_neg (q r : Nat) (h : q < 18446744073709551616) : (if r = 0 then -BitVec.ofInt 128 (q : Int) else -BitVec.ofInt 128 (q : Int) - ofI 1).toInt = if r = 0 then -(q : Int) else -(q : Int) - 1 := by
  have e := toInt_ofInt_mod (q : Int)
  by_cases hr : r = 0
  · rw [if_pos hr, if_pos hr]
    refine toInt_of _ _ (by omega) (by omega) ?_
    rw [toInt_neg_mod]
    omega
  · rw [if_neg hr, if_neg hr]
    refine toInt_of _ _ (by omega) (by omega) ?_
    have e2 := toInt_neg_mod (BitVec.ofInt 128 (q : Int))
    rw [toInt_sub_mod, ofI_toInt 1 (by unfold I64; omega)]
    omega
theorem muldiv_zero (a b : Int) (w : World) : Calls Try.prog 61 #[.int .i64 a, .int .i64 b, .int .i64 0] w fun e w' => e = .returned (.tuple #[.int .i64 0, .bool false, .int .i64 11]) ∧ Below w.heap.size w w' := by
  go_enter Try.func61, Try.ntmps61
  go_wp2_with fail
  go_returns
  exact ⟨rfl, Below.refl _ _⟩
set_option maxRecDepth 100000 in
set_option maxHeartbeats 400000 in
theorem muldiv_over (a b d : Int) (A B D hi lo : Nat) (hd : (d == 0) = false)
    (HA : Hid (∀ w, Calls Try.prog 65 #[.int .i64 a] w fun e w' => e = .returned (.int .u64 (A : Int)) ∧ w = w'))
    (HB : Hid (∀ w, Calls Try.prog 65 #[.int .i64 b] w fun e w' => e = .returned (.int .u64 (B : Int)) ∧ w = w'))
    (HD : Hid (∀ w, Calls Try.prog 65 #[.int .i64 d] w fun e w' => e = .returned (.int .u64 (D : Int)) ∧ w = w'))
    (HM : Hid (∀ w, Calls Try.prog 64 #[.int .u64 A, .int .u64 B] w fun e w' => e = .returned (.tuple #[.int .u64 (hi : Int), .int .u64 (lo : Int)]) ∧ w = w'))
    (hge : (D : Int) ≤ (hi : Int)) (w : World) :
    Calls Try.prog 61 #[.int .i64 a, .int .i64 b, .int .i64 d] w fun e w' => e = .returned (.tuple #[.int .i64 0, .bool false, .int .i64 10]) ∧ Below w.heap.size w w' := by
  have hge2 : decide ((D : Int) ≤ (hi : Int)) = true := by simpa using hge
  go_enter Try.func61, Try.ntmps61
  go_wp2_with fail
  refine (HA.out _).mono ?_
  rintro e w' ⟨rfl, rfl⟩
  go_wp2_with fail
  refine (HB.out _).mono ?_
  rintro e w' ⟨rfl, rfl⟩
  go_wp2_with fail
  refine (HM.out _).mono ?_
  rintro e w' ⟨rfl, rfl⟩
  go_wp2_with fail
  refine (HD.out _).mono ?_
  rintro e w' ⟨rfl, rfl⟩
  go_wp2_with fail
  go_returns
  exact ⟨rfl, Below.refl _ _⟩
set_option maxRecDepth 100000 in
set_option maxHeartbeats 400000 in
theorem muldiv_pos (a b d : Int) (A B D hi lo q r : Nat) (s : Bool) (z : Int) (ft : Bool) (hd : (d == 0) = false)
    (HA : Hid (∀ w, Calls Try.prog 65 #[.int .i64 a] w fun e w' => e = .returned (.int .u64 (A : Int)) ∧ w = w'))
    (HB : Hid (∀ w, Calls Try.prog 65 #[.int .i64 b] w fun e w' => e = .returned (.int .u64 (B : Int)) ∧ w = w'))
    (HD : Hid (∀ w, Calls Try.prog 65 #[.int .i64 d] w fun e w' => e = .returned (.int .u64 (D : Int)) ∧ w = w'))
    (HM : Hid (∀ w, Calls Try.prog 64 #[.int .u64 A, .int .u64 B] w fun e w' => e = .returned (.tuple #[.int .u64 (hi : Int), .int .u64 (lo : Int)]) ∧ w = w'))
    (hge : (hi : Int) < (D : Int))
    (HV : Hid (∀ w, Calls Try.prog 66 #[.int .u64 hi, .int .u64 lo, .int .u64 D] w fun e w' => e = .returned (.tuple #[.int .u64 (q : Int), .int .u64 (r : Int)]) ∧ Below w.heap.size w w'))
    (HF : Hid (∀ w, Calls Try.prog 67 #[.int .i64 a, .int .i64 b] w fun e w' => e = .returned (.bool s) ∧ w = w'))
    (hs : decide (d < 0) = s)
    (HI : Hid (∀ w, Calls Try.prog 69 #[.agg #[.int .i64 0, .int .u64 (q : Int)]] w fun e w' => e = .returned (.tuple #[.int .i64 z, .bool ft]) ∧ Below w.heap.size w w')) (w : World) :
    Calls Try.prog 61 #[.int .i64 a, .int .i64 b, .int .i64 d] w fun e w' => e = (if ft then .returned (.tuple #[.int .i64 z, .bool ((r : Int) == 0), .int .i64 0]) else .returned (.tuple #[.int .i64 0, .bool false, .int .i64 10])) ∧ Below w.heap.size w w' := by
  have hge2 : decide ((D : Int) ≤ (hi : Int)) = false := by simpa using hge
  cases s
  · have hs2 : 0 ≤ d := by simpa using hs
    go_enter Try.func61, Try.ntmps61
    go_wp2_with fail
    refine (HA.out _).mono ?_
    rintro e w' ⟨rfl, rfl⟩
    go_wp2_with fail
    refine (HB.out _).mono ?_
    rintro e w' ⟨rfl, rfl⟩
    go_wp2_with fail
    refine (HM.out _).mono ?_
    rintro e w' ⟨rfl, rfl⟩
    go_wp2_with fail
    refine (HD.out _).mono ?_
    rintro e w' ⟨rfl, rfl⟩
    go_wp2_with fail
    refine (HV.out _).mono ?_
    rintro e w1 ⟨rfl, hb1⟩
    go_wp2_with fail
    refine (HF.out _).mono ?_
    rintro e w' ⟨rfl, rfl⟩
    go_wp2_with fail
    refine (HI.out _).mono ?_
    rintro e w2 ⟨rfl, hb2⟩
    have B2 : Hid (Below w.heap.size w w2) := below_next (below_next hb1 ((Below.refl _ _).alloc (Nat.le_refl _) _)) hb2
    clear hb1 hb2
    cases ft
    · go_wp2_with fail
      go_returns
      exact ⟨rfl, B2.out⟩
    · go_wp2_with fail
      go_returns
      exact ⟨rfl, B2.out⟩
  · have hs2 : d < 0 := by simpa using hs
    go_enter Try.func61, Try.ntmps61
    go_wp2_with fail
    refine (HA.out _).mono ?_
    rintro e w' ⟨rfl, rfl⟩
    go_wp2_with fail
    refine (HB.out _).mono ?_
    rintro e w' ⟨rfl, rfl⟩
    go_wp2_with fail
    refine (HM.out _).mono ?_
    rintro e w' ⟨rfl, rfl⟩
    go_wp2_with fail
    refine (HD.out _).mono ?_
    rintro e w' ⟨rfl, rfl⟩
    go_wp2_with fail
    refine (HV.out _).mono ?_
    rintro e w1 ⟨rfl, hb1⟩
    go_wp2_with fail
    refine (HF.out _).mono ?_
    rintro e w' ⟨rfl, rfl⟩
    go_wp2_with fail
    refine (HI.out _).mono ?_
    rintro e w2 ⟨rfl, hb2⟩
    have B2 : Hid (Below w.heap.size w w2) := below_next (below_next hb1 ((Below.refl _ _).alloc (Nat.le_refl _) _)) hb2
    clear hb1 hb2
    cases ft
    · go_wp2_with fail
      go_returns
      exact ⟨rfl, B2.out⟩
    · go_wp2_with fail
      go_returns
      exact ⟨rfl, B2.out⟩
set_option maxRecDepth 100000 in
set_option maxHeartbeats 400000 in
theorem muldiv_neg (a b d : Int) (A B D hi lo q r : Nat) (s : Bool) (z : Int) (ft : Bool) (hd : (d == 0) = false)
    (HA : Hid (∀ w, Calls Try.prog 65 #[.int .i64 a] w fun e w' => e = .returned (.int .u64 (A : Int)) ∧ w = w'))
    (HB : Hid (∀ w, Calls Try.prog 65 #[.int .i64 b] w fun e w' => e = .returned (.int .u64 (B : Int)) ∧ w = w'))
    (HD : Hid (∀ w, Calls Try.prog 65 #[.int .i64 d] w fun e w' => e = .returned (.int .u64 (D : Int)) ∧ w = w'))
    (HM : Hid (∀ w, Calls Try.prog 64 #[.int .u64 A, .int .u64 B] w fun e w' => e = .returned (.tuple #[.int .u64 (hi : Int), .int .u64 (lo : Int)]) ∧ w = w'))
    (hge : (hi : Int) < (D : Int))
    (HV : Hid (∀ w, Calls Try.prog 66 #[.int .u64 hi, .int .u64 lo, .int .u64 D] w fun e w' => e = .returned (.tuple #[.int .u64 (q : Int), .int .u64 (r : Int)]) ∧ Below w.heap.size w w'))
    (HF : Hid (∀ w, Calls Try.prog 67 #[.int .i64 a, .int .i64 b] w fun e w' => e = .returned (.bool s) ∧ w = w'))
    (hs : decide (d < 0) = !s)
    (vh vl : Int) (HW : Hid (∀ w, Calls Try.prog 68 #[.int .u64 q, .int .u64 r] w fun e w' => e = .returned (.agg #[.int .i64 vh, .int .u64 vl]) ∧ Below w.heap.size w w'))
    (HI : Hid (∀ w, Calls Try.prog 69 #[.agg #[.int .i64 vh, .int .u64 vl]] w fun e w' => e = .returned (.tuple #[.int .i64 z, .bool ft]) ∧ Below w.heap.size w w')) (w : World) :
    Calls Try.prog 61 #[.int .i64 a, .int .i64 b, .int .i64 d] w fun e w' => e = (if ft then .returned (.tuple #[.int .i64 z, .bool ((r : Int) == 0), .int .i64 0]) else .returned (.tuple #[.int .i64 0, .bool false, .int .i64 10])) ∧ Below w.heap.size w w' := by
  have hge2 : decide ((D : Int) ≤ (hi : Int)) = false := by simpa using hge
  cases s
  · have hs2 : d < 0 := by simpa using hs
    go_enter Try.func61, Try.ntmps61
    go_wp2_with fail
    refine (HA.out _).mono ?_
    rintro e w' ⟨rfl, rfl⟩
    go_wp2_with fail
    refine (HB.out _).mono ?_
    rintro e w' ⟨rfl, rfl⟩
    go_wp2_with fail
    refine (HM.out _).mono ?_
    rintro e w' ⟨rfl, rfl⟩
    go_wp2_with fail
    refine (HD.out _).mono ?_
    rintro e w' ⟨rfl, rfl⟩
    go_wp2_with fail
    refine (HV.out _).mono ?_
    rintro e w1 ⟨rfl, hb1⟩
    go_wp2_with fail
    refine (HF.out _).mono ?_
    rintro e w' ⟨rfl, rfl⟩
    go_wp2_with fail
    refine (HW.out _).mono ?_
    rintro e w2 ⟨rfl, hb2⟩
    have m1 : NumAt w2 w1.heap.size 0 (q : Int) := NumAt.on (B := w1.heap.size + 1) (heap_alloc_last w1 _) (by simpa using hb2) (by omega)
    have B1 : Below w.heap.size w w2 := below_next (below_next hb1 ((Below.refl _ _).alloc (Nat.le_refl _) _)) hb2
    have hle : w.heap.size ≤ w1.heap.size := hb1.size
    have B2 : Hid (Below w.heap.size w ((w2.setCell ⟨w1.heap.size, 0, none⟩ (.int .i64 vh)).setCell ⟨w1.heap.size, 1, none⟩ (.int .u64 vl))) := (B1.setCell hle _).setCell hle _
    have c0 := m1.c0
    have c1 := m1.c1
    have f0 := m1.free 0
    have f1 := m1.free 1
    clear hb1 hb2 m1 B1 hle
    go_wp2_with fail
    refine (HI.out _).mono ?_
    rintro e w3 ⟨rfl, hb3⟩
    have B3 : Hid (Below w.heap.size w w3) := below_next B2.out hb3
    clear hb3 B2 c0 c1 f0 f1
    cases ft
    · go_wp2_with fail
      go_returns
      exact ⟨rfl, B3.out⟩
    · go_wp2_with fail
      go_returns
      exact ⟨rfl, B3.out⟩
  · have hs2 : 0 ≤ d := by simpa using hs
    go_enter Try.func61, Try.ntmps61
    go_wp2_with fail
    refine (HA.out _).mono ?_
    rintro e w' ⟨rfl, rfl⟩
    go_wp2_with fail
    refine (HB.out _).mono ?_
    rintro e w' ⟨rfl, rfl⟩
    go_wp2_with fail
    refine (HM.out _).mono ?_
    rintro e w' ⟨rfl, rfl⟩
    go_wp2_with fail
    refine (HD.out _).mono ?_
    rintro e w' ⟨rfl, rfl⟩
    go_wp2_with fail
    refine (HV.out _).mono ?_
    rintro e w1 ⟨rfl, hb1⟩
    go_wp2_with fail
    refine (HF.out _).mono ?_
    rintro e w' ⟨rfl, rfl⟩
    go_wp2_with fail
    refine (HW.out _).mono ?_
    rintro e w2 ⟨rfl, hb2⟩
    have m1 : NumAt w2 w1.heap.size 0 (q : Int) := NumAt.on (B := w1.heap.size + 1) (heap_alloc_last w1 _) (by simpa using hb2) (by omega)
    have B1 : Below w.heap.size w w2 := below_next (below_next hb1 ((Below.refl _ _).alloc (Nat.le_refl _) _)) hb2
    have hle : w.heap.size ≤ w1.heap.size := hb1.size
    have B2 : Hid (Below w.heap.size w ((w2.setCell ⟨w1.heap.size, 0, none⟩ (.int .i64 vh)).setCell ⟨w1.heap.size, 1, none⟩ (.int .u64 vl))) := (B1.setCell hle _).setCell hle _
    have c0 := m1.c0
    have c1 := m1.c1
    have f0 := m1.free 0
    have f1 := m1.free 1
    clear hb1 hb2 m1 B1 hle
    go_wp2_with fail
    refine (HI.out _).mono ?_
    rintro e w3 ⟨rfl, hb3⟩
    have B3 : Hid (Below w.heap.size w w3) := below_next B2.out hb3
    clear hb3 B2 c0 c1 f0 f1
    cases ft
    · go_wp2_with fail
      go_returns
      exact ⟨rfl, B3.out⟩
    · go_wp2_with fail
      go_returns
      exact ⟨rfl, B3.out⟩
theorem size_n (n : Int) (N : Nat) (h : I64 n) (e : sz n = (N : Int)) (w : World) : Calls Try.prog 65 #[.int .i64 n] w fun e w' => e = .returned (.int .u64 (N : Int)) ∧ w = w' := by
  have := size_c n h w; rw [e] at this; exact this
theorem mul64_n (A B : Nat) (ha : A < 18446744073709551616) (hb : B < 18446744073709551616) (w : World) : Calls Try.prog 64 #[.int .u64 A, .int .u64 B] w fun e w' => e = .returned (.tuple #[.int .u64 ((A * B / 18446744073709551616 : Nat) : Int), .int .u64 ((A * B % 18446744073709551616 : Nat) : Int)]) ∧ w = w' :=
  (mul64_any A B ha hb w).mono fun _ _ ⟨h1, h2⟩ => ⟨h1, h2.symm⟩
theorem div64_c (hi lo y : Nat) (hl : lo < 18446744073709551616) (h1 : hi < y) (hy : y < 18446744073709551616) (w : World) :
    Calls Try.prog 66 #[.int .u64 hi, .int .u64 lo, .int .u64 y] w fun e w' => e = .returned (.tuple #[.int .u64 (((hi * 18446744073709551616 + lo) / y : Nat) : Int), .int .u64 (((hi * 18446744073709551616 + lo) % y : Nat) : Int)]) ∧ Below w.heap.size w w' := by
  rcases Nat.eq_zero_or_pos hi with h | h
  · subst h
    have := div64_small lo y hl (by omega) hy w
    rw [Nat.zero_mul, Nat.zero_add]
    exact this
  · exact (div64_great hi lo y hl h h1 hy w).mono fun _ _ ⟨e, hw⟩ => ⟨e, hw ▸ Below.refl _ _⟩
theorem fits_false {x : Int} (h : x < -9223372036854775808 ∨ 9223372036854775807 < x) : fits x = false := by
  cases hf : fits x
  · rfl
  · rw [fits_iff] at hf; omega
theorem eqz (r : Nat) : ((r : Int) == 0) = decide (r = 0) := by
  rw [Bool.eq_iff_iff]; simp
theorem muldiv_c (a b d : Int) (w : World) (ha : I64 a) (hb : I64 b) (hd : I64 d) : Calls Try.prog 61 #[.int .i64 a, .int .i64 b, .int .i64 d] w fun e w' => e = divOf a b d ∧ Below w.heap.size w w' := by
  unfold divOf
  by_cases h0 : d = 0
  · subst h0
    rw [if_pos rfl]
    exact muldiv_zero a b w
  rw [if_neg h0]
  obtain ⟨A, eA, lA, sA⟩ := sz_nat a ha
  obtain ⟨B, eB, lB, sB⟩ := sz_nat b hb
  obtain ⟨D, eD, lD, sD⟩ := sz_nat d hd
  obtain ⟨f1, f2⟩ := floor_any a b d A B D sA sB sD h0
  have HM := mul64_n A B (by omega) (by omega)
  have HF := differ_c a b
  have hD : 0 < D := by omega
  have hz : (d == 0) = false := by simpa using h0
  have hP := prod_lt lA lB
  have hs := Nat.div_add_mod' (A * B) 18446744073709551616
  have hl : A * B % 18446744073709551616 < 18446744073709551616 := Nat.mod_lt _ (by decide)
  generalize A * B = P at *
  generalize (decide (a < 0) != decide (b < 0)) = s at *
  rcases Nat.lt_or_ge (P / 18446744073709551616) D with h1 | h1
  · have HV := div64_c (P / 18446744073709551616) (P % 18446744073709551616) D hl h1 (by omega)
    rw [hs] at HV
    have hq : P / D < 18446744073709551616 := by
      rw [Nat.div_lt_iff_lt_mul hD]
      have := Nat.mul_le_mul_right 18446744073709551616 h1
      rw [Nat.succ_mul] at this
      rw [Nat.mul_comm]
      omega
    have hoe := of_nat (P / D) hq
    rcases f2 with ⟨g1, g2⟩ | ⟨g1, g2⟩
    · have HI := int_c (BitVec.ofInt 128 ((P / D : Nat) : Int))
      rw [down_pos _ hq, ← hoe.1, ← hoe.2] at HI
      have key := muldiv_pos a b d A B D (P / 18446744073709551616) (P % 18446744073709551616) (P / D) (P % D) s _ _ hz (Lib.hid (size_n a A ha eA)) (Lib.hid (size_n b B hb eB)) (Lib.hid (size_n d D hd eD)) (Lib.hid HM) (by omega) (Lib.hid HV) (Lib.hid HF) (by revert g1; cases s <;> simp) (Lib.hid HI) w
      rw [eqz, ← f1, ← g2] at key
      refine key.mono ?_
      rintro e w' ⟨rfl, hw⟩
      refine ⟨?_, hw⟩
      cases fits ((a * b).fdiv d) <;> rfl
    · have HI := int_c (if P % D = 0 then -BitVec.ofInt 128 ((P / D : Nat) : Int) else -BitVec.ofInt 128 ((P / D : Nat) : Int) - ofI 1)
      rw [down_neg _ _ hq] at HI
      have key := muldiv_neg a b d A B D (P / 18446744073709551616) (P % 18446744073709551616) (P / D) (P % D) s _ _ hz (Lib.hid (size_n a A ha eA)) (Lib.hid (size_n b B hb eB)) (Lib.hid (size_n d D hd eD)) (Lib.hid HM) (by omega) (Lib.hid HV) (Lib.hid HF) (by revert g1; cases s <;> simp) _ _ (Lib.hid (below_c (P / D) (P % D) hq)) (Lib.hid HI) w
      rw [eqz, ← f1, ← g2] at key
      refine key.mono ?_
      rintro e w' ⟨rfl, hw⟩
      refine ⟨?_, hw⟩
      cases fits ((a * b).fdiv d) <;> rfl
  · have hq : 18446744073709551616 ≤ P / D := by
      rw [Nat.le_div_iff_mul_le hD]
      have := Nat.mul_le_mul_left 18446744073709551616 h1
      omega
    have hf : fits ((a * b).fdiv d) = false := by
      generalize P / D = q at *
      rcases f2 with ⟨_, g2⟩ | ⟨_, g2⟩
      · exact fits_false (by rw [g2]; omega)
      · exact fits_false (by rw [g2]; split <;> omega)
    rw [hf]
    exact muldiv_over a b d A B D _ _ hz (Lib.hid (size_n a A ha eA)) (Lib.hid (size_n b B hb eB)) (Lib.hid (size_n d D hd eD)) (Lib.hid HM) (by omega) w
end Go.Proofs.Ytclkkdhfdoidfaa

