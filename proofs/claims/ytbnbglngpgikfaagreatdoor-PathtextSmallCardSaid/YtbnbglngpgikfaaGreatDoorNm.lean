/- Plain numbers for layer 1 (fixed): rounding, quotients. Nothing of the program. -/
import Derived.WalkKit
namespace Go.Proofs.YtbnbglngpgikfaaGreatDoor
open Go.RowKit

/-- In room. -/
def inB (a : Int) : Bool := decide (-2147483648 ≤ a ∧ a ≤ 2147483648)
theorem inB_iff {a : Int} : inB a = true ↔ -2147483648 ≤ a ∧ a ≤ 2147483648 := by simp [inB]
theorem inB_false {a : Int} : inB a = false ↔ ¬ (-2147483648 ≤ a ∧ a ≤ 2147483648) := by rw [inB, decide_eq_false_iff_not]

/-- To the nearest, of twoE the greater (b above 0). -/
def rnd (a b : Int) : Int := if b - a % b ≤ a % b then a / b + 1 else a / b
theorem rnd_256 (a : Int) : rnd a 256 = (a + 128) / 256 := by unfold rnd; split <;> omega

/-- The least whole number not below. -/
def cei (a : Int) : Int := -((-a) / 256)

theorem wrap64_in (n : Int) (h0 : -9223372036854775808 ≤ n) (h1 : n ≤ 9223372036854775807) : wrap64 n = n := by unfold wrap64; omega

theorem and_mask (n m : Int) (k : Nat) (hm : (BitVec.ofInt 64 m).toNat = 2 ^ k - 1) (hk : k ≤ 62) : bits .and .i64 n m = n % ((2 ^ k : Nat) : Int) := by
  have key : (BitVec.ofInt 64 n &&& BitVec.ofInt 64 m).toNat = (n % ((2 ^ 64 : Nat) : Int)).toNat % 2 ^ k := by
    rw [BitVec.toNat_and, BitVec.toNat_ofInt, hm, Nat.and_two_pow_sub_one_eq_mod]
  show IntKind.i64.wrap ((BitVec.ofInt 64 n &&& BitVec.ofInt 64 m).toNat : Nat) = _
  rw [key, IntKind.wrap_i64]
  have e1 : (((n % ((2 ^ 64 : Nat) : Int)).toNat % 2 ^ k : Nat) : Int) = n % ((2 ^ k : Nat) : Int) := by
    rw [Int.natCast_emod, Int.toNat_of_nonneg (Int.emod_nonneg _ (by decide))]
    exact Int.emod_emod_of_dvd _ (Int.natCast_dvd_natCast.2 (Nat.pow_dvd_pow 2 (by omega)))
  have e2 : 2 ^ k ≤ 2 ^ 62 := Nat.pow_le_pow_right (by decide) hk
  have e3 : 0 < 2 ^ k := Nat.pow_pos (by decide)
  have h0 := Int.emod_nonneg n (show ((2 ^ k : Nat) : Int) ≠ 0 by omega)
  have h1 := Int.emod_lt_of_pos n (show 0 < ((2 ^ k : Nat) : Int) by omega)
  rw [e1]
  omega
theorem and_1 (n : Int) : bits .and .i64 n 1 = n % 2 := and_mask n 1 1 (by decide) (by decide)
theorem and_255 (n : Int) : bits .and .i64 n 255 = n % 256 := and_mask n 255 8 (by decide) (by decide)

/-! Go's quotient goes toward 0. -/
theorem tdiv_pos (a b : Int) (ha : 0 ≤ a) : a.tdiv b = a / b ∧ a.tmod b = a % b :=
  ⟨Int.tdiv_eq_ediv_of_nonneg ha, Int.tmod_eq_emod_of_nonneg ha⟩
/-- The quotient toward 0 and the one downward: the same, where nothing is left or a is not below 0; else one apart. -/
theorem tdiv_cases (a b : Int) (hb : 0 < b) : (a.tdiv b = a / b ∧ a.tmod b = a % b) ∨ (a.tdiv b = a / b + 1 ∧ a.tmod b = a % b - b ∧ 0 < a % b ∧ a < 0) := by
  rcases Int.lt_or_le a 0 with ha | ha
  · have h1 := Int.tdiv_eq_ediv (a := a) (b := b)
    have h2 := Int.tmod_eq_emod (a := a) (b := b)
    have hs : b.sign = 1 := Int.sign_eq_one_of_pos hb
    have hn : b.natAbs = b := by omega
    have h0 := Int.emod_nonneg a (show b ≠ 0 by omega)
    by_cases hd : b ∣ a
    · left
      simp [hd] at h1 h2
      exact ⟨h1, h2⟩
    · right
      have hne : a % b ≠ 0 := fun h => hd (Int.dvd_of_emod_eq_zero h)
      have hna : ¬ 0 ≤ a := by omega
      simp [hd, hs, hna] at h1 h2
      refine ⟨by omega, ?_, by omega, ha⟩
      omega
  · exact Or.inl (tdiv_pos a b ha)
theorem ediv_abs (a b : Int) (hb : 0 < b) (B : Int) (h0 : -B ≤ a) (h1 : a ≤ B) (hB : 0 ≤ B) : -B ≤ a / b ∧ a / b ≤ B := by
  constructor
  · rcases Int.lt_or_le a 0 with ha | ha
    · have : a ≤ a / b := by
        rw [Int.le_ediv_iff_mul_le hb]
        have := Int.mul_le_mul_of_nonpos_left (show a ≤ 0 by omega) (show (1 : Int) ≤ b by omega)
        omega
      omega
    · have := Int.ediv_nonneg ha (show 0 ≤ b by omega); omega
  · rcases Int.lt_or_le a 0 with ha | ha
    · have := Int.ediv_neg_of_neg_of_pos ha hb; omega
    · have := Int.ediv_le_self b ha; omega
theorem mul_div_le (a b : Int) : a / b * b = a - a % b := by
  have := Int.emod_add_mul_ediv a b
  rw [Int.mul_comm]; omega
/-- Go's quotient times the divisor: between 0 and a. -/
theorem tdiv_mul (a b : Int) (hb : 0 < b) : (0 ≤ a → 0 ≤ a.tdiv b * b ∧ a.tdiv b * b ≤ a) ∧ (a < 0 → a ≤ a.tdiv b * b ∧ a.tdiv b * b ≤ 0) := by
  have hm := mul_div_le a b
  have hr0 := Int.emod_nonneg a (show b ≠ 0 by omega)
  have hr1 := Int.emod_lt_of_pos a hb
  rcases Int.lt_or_le a 0 with ha | ha
  · refine ⟨fun h => by omega, fun _ => ?_⟩
    have hn := Int.ediv_neg_of_neg_of_pos ha hb
    have h1 : (a / b + 1) * b ≤ 0 := Int.mul_nonpos_of_nonpos_of_nonneg (by omega) (by omega)
    rw [Int.add_mul, Int.one_mul] at h1
    rcases tdiv_cases a b hb with ⟨e1, e2⟩ | ⟨e1, e2, e3, e4⟩
    · rw [e1, hm]
      have h2 : a.tmod b ≤ 0 := by
        have := Int.tmod_nonneg (a := -a) b (by omega)
        rw [Int.neg_tmod] at this
        omega
      omega
    · rw [e1, Int.add_mul, Int.one_mul]
      omega
  · refine ⟨fun _ => ?_, fun h => by omega⟩
    rw [(tdiv_pos a b ha).1]
    have := Int.mul_nonneg (Int.ediv_nonneg ha (show 0 ≤ b by omega)) (show 0 ≤ b by omega)
    omega
/-- What Below reckons. -/
theorem below_key (a b : Int) (hb : 0 < b) (h0 : -9223372036854775808 ≤ a) (h1 : a ≤ 9223372036854775807) :
    wrap64 (a.tdiv b * b) = a.tdiv b * b ∧ (a.tdiv b * b ≤ a → a.tdiv b = a / b) ∧ (a < a.tdiv b * b → wrap64 (a.tdiv b - 1) = a / b) := by
  have hd := ediv_abs a b hb 9223372036854775808 (by omega) (by omega) (by omega)
  have hm := mul_div_le a b
  have hr1 := Int.emod_lt_of_pos a hb
  obtain ⟨k0, k1⟩ := tdiv_mul a b hb
  refine ⟨?_, ?_, ?_⟩
  · rcases Int.lt_or_le a 0 with ha | ha
    · have := k1 ha; exact wrap64_in _ (by omega) (by omega)
    · have := k0 ha; exact wrap64_in _ (by omega) (by omega)
  · intro h
    rcases tdiv_cases a b hb with ⟨e1, e2⟩ | ⟨e1, e2, e3, e4⟩
    · exact e1
    · rw [e1, Int.add_mul, Int.one_mul, hm] at h; omega
  · intro h
    rcases tdiv_cases a b hb with ⟨e1, e2⟩ | ⟨e1, e2, e3, e4⟩
    · have := Int.emod_nonneg a (show b ≠ 0 by omega)
      rw [e1, hm] at h; omega
    · have := Int.ediv_neg_of_neg_of_pos e4 hb
      rw [e1, show a / b + 1 - 1 = a / b by omega]; exact wrap64_in _ (by omega) (by omega)
theorem mul_abs (a b B C : Int) (h : -B ≤ a ∧ a ≤ B) (k : -C ≤ b ∧ b ≤ C) : -(B * C) ≤ a * b ∧ a * b ≤ B * C := by
  have h1 : a.natAbs ≤ B.natAbs := by omega
  have h2 : b.natAbs ≤ C.natAbs := by omega
  have h3 : (a * b).natAbs ≤ (B * C).natAbs := by rw [Int.natAbs_mul, Int.natAbs_mul]; exact Nat.mul_le_mul h1 h2
  have h4 : 0 ≤ B * C := Int.mul_nonneg (by omega) (by omega)
  omega
theorem mul_room {a b : Int} (h : -2147483648 ≤ a ∧ a ≤ 2147483648) (k : -2147483648 ≤ b ∧ b ≤ 2147483648) : -4611686018427387904 ≤ a * b ∧ a * b ≤ 4611686018427387904 :=
  mul_abs a b 2147483648 2147483648 h k
#print axioms below_key
end Go.Proofs.YtbnbglngpgikfaaGreatDoor

