/- All contracts of package wide, in one statement. -/
import Derived.Test.YtgkgdkdendmfnaaYl
import Derived.Test.YtgkgdkdendmfnaaYd
import Derived.Test.YtgkgdkdendmfnaaYe
namespace Go.Proofs.Ytgkgdkdendmfnaa
open Go.RowKit
theorem size_n (n : Int) (N : Nat) (h : I64 n) (e : sz n = (N : Int)) (w : World) : Calls Try.prog 35 #[.int .i64 n] w fun e w' => e = .returned (.int .u64 (N : Int)) ∧ w = w' := by
  have := size_c n h w; rw [e] at this; exact this
theorem mul64_n (A B : Nat) (ha : A < 18446744073709551616) (hb : B < 18446744073709551616) (w : World) : Calls Try.prog 34 #[.int .u64 A, .int .u64 B] w fun e w' => e = .returned (.tuple #[.int .u64 ((A * B / 18446744073709551616 : Nat) : Int), .int .u64 ((A * B % 18446744073709551616 : Nat) : Int)]) ∧ w = w' :=
  (mul64_any A B ha hb w).mono fun _ _ ⟨h1, h2⟩ => ⟨h1, h2.symm⟩
theorem div64_c (hi lo y : Nat) (hl : lo < 18446744073709551616) (h1 : hi < y) (hy : y < 18446744073709551616) (w : World) :
    Calls Try.prog 39 #[.int .u64 hi, .int .u64 lo, .int .u64 y] w fun e w' => e = .returned (.tuple #[.int .u64 (((hi * 18446744073709551616 + lo) / y : Nat) : Int), .int .u64 (((hi * 18446744073709551616 + lo) % y : Nat) : Int)]) ∧ Below w.heap.size w w' := by
  rcases Nat.eq_zero_or_pos hi with h | h
  · subst h
    have := div64_small lo y hl (by omega) hy w
    rw [Nat.zero_mul, Nat.zero_add]
    exact this
  · exact (div64_great hi lo y hl h h1 hy w).mono fun _ _ ⟨e, hw⟩ => ⟨e, hw ▸ Below.refl _ _⟩
theorem fits_false {x : Int} (h : x < -9223372036854775808 ∨ 9223372036854775807 < x) : fits x = false := by
  cases hf : fits x
  · rfl
  · rw [fits_iff] at hf; omega
theorem eqz (r : Nat) : ((r : Int) == 0) = decide (r = 0) := by
  rw [Bool.eq_iff_iff]; simp
theorem muldiv_c (a b d : Int) (w : World) (ha : I64 a) (hb : I64 b) (hd : I64 d) : Calls Try.prog 28 #[.int .i64 a, .int .i64 b, .int .i64 d] w fun e w' => e = divOf a b d ∧ Below w.heap.size w w' := by
  unfold divOf
  by_cases h0 : d = 0
  · subst h0
    rw [if_pos rfl]
    exact muldiv_zero a b w
  rw [if_neg h0]
  obtain ⟨A, eA, lA, sA⟩ := sz_nat a ha
  obtain ⟨B, eB, lB, sB⟩ := sz_nat b hb
  obtain ⟨D, eD, lD, sD⟩ := sz_nat d hd
  obtain ⟨f1, f2⟩ := floor_any a b d A B D sA sB sD h0
  have HM := mul64_n A B (by omega) (by omega)
  have HF := differ_c a b
  have hD : 0 < D := by omega
  have hz : (d == 0) = false := by simpa using h0
  have hP := prod_lt lA lB
  have hs := Nat.div_add_mod' (A * B) 18446744073709551616
  have hl : A * B % 18446744073709551616 < 18446744073709551616 := Nat.mod_lt _ (by decide)
  generalize A * B = P at *
  generalize (decide (a < 0) != decide (b < 0)) = s at *
  rcases Nat.lt_or_ge (P / 18446744073709551616) D with h1 | h1
  · have HV := div64_c (P / 18446744073709551616) (P % 18446744073709551616) D hl h1 (by omega)
    rw [hs] at HV
    have hq : P / D < 18446744073709551616 := by
      rw [Nat.div_lt_iff_lt_mul hD]
      have := Nat.mul_le_mul_right 18446744073709551616 h1
      rw [Nat.succ_mul] at this
      rw [Nat.mul_comm]
      omega
    have hoe := of_nat (P / D) hq
    rcases f2 with ⟨g1, g2⟩ | ⟨g1, g2⟩
    · have HI := int_c (BitVec.ofInt 128 ((P / D : Nat) : Int))
      rw [down_pos _ hq, ← hoe.1, ← hoe.2] at HI
      have key := muldiv_pos a b d A B D (P / 18446744073709551616) (P % 18446744073709551616) (P / D) (P % D) s _ _ hz (Lib.hid (size_n a A ha eA)) (Lib.hid (size_n b B hb eB)) (Lib.hid (size_n d D hd eD)) (Lib.hid HM) (by omega) (Lib.hid HV) (Lib.hid HF) (by revert g1; cases s <;> simp) (Lib.hid HI) w
      rw [eqz, ← f1, ← g2] at key
      refine key.mono ?_
      rintro e w' ⟨rfl, hw⟩
      refine ⟨?_, hw⟩
      cases fits ((a * b).fdiv d) <;> rfl
    · have HI := int_c (if P % D = 0 then -BitVec.ofInt 128 ((P / D : Nat) : Int) else -BitVec.ofInt 128 ((P / D : Nat) : Int) - ofI 1)
      rw [down_neg _ _ hq] at HI
      have key := muldiv_neg a b d A B D (P / 18446744073709551616) (P % 18446744073709551616) (P / D) (P % D) s _ _ hz (Lib.hid (size_n a A ha eA)) (Lib.hid (size_n b B hb eB)) (Lib.hid (size_n d D hd eD)) (Lib.hid HM) (by omega) (Lib.hid HV) (Lib.hid HF) (by revert g1; cases s <;> simp) _ _ (Lib.hid (below_c (P / D) (P % D) hq)) (Lib.hid HI) w
      rw [eqz, ← f1, ← g2] at key
      refine key.mono ?_
      rintro e w' ⟨rfl, hw⟩
      refine ⟨?_, hw⟩
      cases fits ((a * b).fdiv d) <;> rfl
  · have hq : 18446744073709551616 ≤ P / D := by
      rw [Nat.le_div_iff_mul_le hD]
      have := Nat.mul_le_mul_left 18446744073709551616 h1
      omega
    have hf : fits ((a * b).fdiv d) = false := by
      generalize P / D = q at *
      rcases f2 with ⟨_, g2⟩ | ⟨_, g2⟩
      · exact fits_false (by rw [g2]; omega)
      · exact fits_false (by rw [g2]; split <;> omega)
    rw [hf]
    exact muldiv_over a b d A B D _ _ hz (Lib.hid (size_n a A ha eA)) (Lib.hid (size_n b B hb eB)) (Lib.hid (size_n d D hd eD)) (Lib.hid HM) (by omega) w
theorem wideOk : WideOk where
  of_w := of_c
  mul_w := mul_c
  add_w := add_c
  sub_w := sub_c
  neg_w := neg_c
  cmp_w := cmp_c
  sign_w := sign_c
  int_w := int_c
  shr_w := fun u n w h => shr_c u n w h
  muldiv_w := muldiv_c
  sqrt_neg_w := fun n w _ h => sqrt_neg_c n h w
  sqrt_w := fun n r w h hr => sqrt_c n r h hr w
#print axioms wideOk
end Go.Proofs.Ytgkgdkdendmfnaa
