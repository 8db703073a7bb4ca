/- Contracts of package wide: MulDiv. -/
import Derived.Test.YtgkgdkdendmfnaaYj
namespace Go.Proofs.Ytgkgdkdendmfnaa
open Go.RowKit
/-- A quotient rounded down, of two numbers of whatever signs, by their sizes. -/
theorem floor_pos (P D : Nat) : (P : Int).fdiv (D : Int) = ((P / D : Nat) : Int) := by
  rw [Int.fdiv_eq_ediv_of_nonneg _ (by omega)]; exact (Int.natCast_ediv P D).symm
theorem floor_neg (P D : Nat) (hD : 0 < D) : (-(P : Int)).fdiv (D : Int) = if P % D = 0 then -((P / D : Nat) : Int) else -((P / D : Nat) : Int) - 1 := by
  have h1 := Nat.div_add_mod' P D
  have h2 := Nat.mod_lt P hD
  rw [Int.fdiv_eq_ediv_of_nonneg _ (by omega)]
  have e : (P : Int) = ((P / D : Nat) : Int) * (D : Int) + ((P % D : Nat) : Int) := by
    rw [← Int.natCast_mul, ← Int.natCast_add, h1]
  generalize P / D = q at *
  generalize P % D = r at *
  by_cases hr : r = 0
  · rw [if_pos hr, e, hr, show -((q : Int) * (D : Int) + ((0 : Nat) : Int)) = -(q : Int) * (D : Int) by rw [Int.neg_mul]; omega]
    exact Int.mul_ediv_cancel _ (by omega)
  · rw [if_neg hr]
    apply Int.le_antisymm
    · have : -(P : Int) / (D : Int) < -(q : Int) := by
        rw [Int.ediv_lt_iff_lt_mul (by omega), Int.neg_mul]
        omega
      omega
    · rw [Int.le_ediv_iff_mul_le (by omega), Int.sub_mul, Int.neg_mul, Int.one_mul]
      omega
theorem exact_any (x d : Int) (P D : Nat) (hx : x = P ∨ x = -(P : Int)) (hd : d = D ∨ d = -(D : Int)) : decide (x.fmod d = 0) = decide (P % D = 0) := by
  have h1 : x.fmod d = 0 ↔ d ∣ x := ⟨Int.dvd_of_fmod_eq_zero, Int.fmod_eq_zero_of_dvd⟩
  have h2 : d ∣ x ↔ (D : Int) ∣ (P : Int) := by
    rcases hx with rfl | rfl <;> rcases hd with rfl | rfl <;> simp [Int.dvd_neg, Int.neg_dvd]
  rw [Bool.eq_iff_iff, decide_eq_true_eq, decide_eq_true_eq, h1, h2, Int.natCast_dvd_natCast]
  exact Nat.dvd_iff_mod_eq_zero
/-- All that MulDiv's answer wants. -/
theorem floor_any (a b d : Int) (A B D : Nat) (ha : a = A ∧ 0 ≤ a ∨ a = -(A : Int) ∧ a < 0) (hb : b = B ∧ 0 ≤ b ∨ b = -(B : Int) ∧ b < 0) (hd : d = D ∧ 0 ≤ d ∨ d = -(D : Int) ∧ d < 0) (h0 : d ≠ 0) :
    decide ((a * b).fmod d = 0) = decide (A * B % D = 0) ∧
    (((decide (a < 0) != decide (b < 0)) != decide (d < 0)) = false ∧ (a * b).fdiv d = ((A * B / D : Nat) : Int) ∨
     ((decide (a < 0) != decide (b < 0)) != decide (d < 0)) = true ∧ (a * b).fdiv d = if A * B % D = 0 then -((A * B / D : Nat) : Int) else -((A * B / D : Nat) : Int) - 1) := by
  have hD : 0 < D := by omega
  have hp := sz_prod a b A B ha hb
  refine ⟨exact_any _ _ _ _ (by rcases hp with h | h; exact .inr h.2; exact .inl h.2) (by rcases hd with h | h; exact .inl h.1; exact .inr h.1), ?_⟩
  generalize (decide (a < 0) != decide (b < 0)) = s at *
  generalize A * B = P at *
  rcases hp with ⟨rfl, h2⟩ | ⟨rfl, h2⟩ <;> rcases hd with ⟨h3, h4⟩ | ⟨h3, h4⟩
  · right; rw [h2, h3]; exact ⟨by rw [decide_eq_false (by omega)]; rfl, floor_neg P D hD⟩
  · left; rw [h2, h3, Int.neg_fdiv_neg]; exact ⟨by rw [decide_eq_true (by omega)]; rfl, floor_pos P D⟩
  · left; rw [h2, h3]; exact ⟨by rw [decide_eq_false (by omega)]; rfl, floor_pos P D⟩
  · right; rw [h2, h3, ← Int.neg_neg (P : Int), Int.neg_fdiv_neg]; exact ⟨by rw [decide_eq_true (by omega)]; rfl, floor_neg P D hD⟩
theorem toInt_of (u : BitVec 128) (F : Int) (h0 : -36893488147419103232 ≤ F) (h1 : F ≤ 36893488147419103232) (hc : u.toInt % 340282366920938463463374607431768211456 = F % 340282366920938463463374607431768211456) : u.toInt = F := by
  have := toInt_bounds u
  omega
theorem toInt_ofInt_mod (F : Int) : (BitVec.ofInt 128 F).toInt % 340282366920938463463374607431768211456 = F % 340282366920938463463374607431768211456 := by
  rw [BitVec.toInt_ofInt]; exact Int.bmod_emod
theorem down_pos (q : Nat) (h : q < 18446744073709551616) : (BitVec.ofInt 128 (q : Int)).toInt = (q : Int) := toInt_of _ _ (by omega) (by omega) (toInt_ofInt_mod _)
theorem down_neg (q r : Nat) (h : q < 18446744073709551616) : (if r = 0 then -BitVec.ofInt 128 (q : Int) else -BitVec.ofInt 128 (q : Int) - ofI 1).toInt = if r = 0 then -(q : Int) else -(q : Int) - 1 := by
  have e := toInt_ofInt_mod (q : Int)
  by_cases hr : r = 0
  · rw [if_pos hr, if_pos hr]
    refine toInt_of _ _ (by omega) (by omega) ?_
    rw [toInt_neg_mod]
    omega
  · rw [if_neg hr, if_neg hr]
    refine toInt_of _ _ (by omega) (by omega) ?_
    have e2 := toInt_neg_mod (BitVec.ofInt 128 (q : Int))
    rw [toInt_sub_mod, ofI_toInt 1 (by unfold I64; omega)]
    omega
end Go.Proofs.Ytgkgdkdendmfnaa
