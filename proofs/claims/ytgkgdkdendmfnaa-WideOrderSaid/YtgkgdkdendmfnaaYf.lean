/- math/bits.Div64: quotient and rest of a number of 128 bits by one of 64. -/
import Derived.Test.YtgkgdkdendmfnaaYb
import Derived.Lib.BitFns
namespace Go.Proofs.Ytgkgdkdendmfnaa
open Go.RowKit

theorem tab_byte (y : Int) (h : y.toNat < Lib.len8tab.size) (y0 : 0 ≤ y) : ((Lib.len8tab[y.toNat]'h).toNat : Int) = (Lib.bitLen y.toNat : Int) ∧ Lib.bitLen y.toNat ≤ 8 := by
  have hs := Lib.len8tab_size
  have b := Lib.len8_of y y0 (by omega)
  refine ⟨?_, Lib.bitLen_le8' y y0 (by omega)⟩
  rw [← b, Lib.len8, getElem?_pos Lib.len8tab y.toNat h]
  rfl
theorem leaf (x y : Int) (k : Nat) (h : y.toNat < Lib.len8tab.size) (hk : k ≤ 56) (y0 : 0 ≤ y) (e : y.toNat = x.toNat / 2 ^ k) (hl : 2 ^ k ≤ x.toNat) (h1 : x.toNat < 2 ^ 64) :
    wrap64 (k + wrap64 ((Lib.len8tab[y.toNat]'h).toNat : Int)) = (Lib.bitLen x.toNat : Int) := by
  have key : ∀ n : Nat, n ≤ 8 → wrap64 ((k : Int) + wrap64 (n : Int)) = ((k + n : Nat) : Int) := fun n hn => by
    unfold wrap64; omega
  obtain ⟨t1, t2⟩ := tab_byte y h y0
  have t3 := Lib.bitLen_shift k x.toNat hl h1
  rw [← e] at t3
  rw [t1, t3]
  exact key _ t2
set_option maxHeartbeats 4000000 in
set_option maxRecDepth 100000 in
theorem len64_c (x : Int) (h0 : 0 ≤ x) (h1 : x ≤ 18446744073709551615) (w : World) : Calls Try.prog 44 #[.int .u64 x] w fun e w' => e = .returned (.int .i64 (Lib.bitLen x.toNat)) ∧ w = w' := by
  go_enter Try.func44, Try.ntmps44
  go_wp2
  all_goals first | (go_ret; refine ⟨retI ?_, rfl⟩) | (exfalso; have hs := Lib.len8tab_size; omega)
  · exact leaf x _ 56 _ (by decide) (by omega) (by omega) (by omega) (by omega)
  · exact leaf x _ 48 _ (by decide) (by omega) (by omega) (by omega) (by omega)
  · exact leaf x _ 40 _ (by decide) (by omega) (by omega) (by omega) (by omega)
  · exact leaf x _ 32 _ (by decide) (by omega) (by omega) (by omega) (by omega)
  · exact leaf x _ 24 _ (by decide) (by omega) (by omega) (by omega) (by omega)
  · exact leaf x _ 16 _ (by decide) (by omega) (by omega) (by omega) (by omega)
  · exact leaf x _ 8 _ (by decide) (by omega) (by omega) (by omega) (by omega)
  · have key : ∀ n : Nat, n ≤ 8 → wrap64 (wrap64 (n : Int)) = (n : Int) := fun n hn => by
      unfold wrap64; omega
    have hx : x.toNat < Lib.len8tab.size := by omega
    rw [(tab_byte x hx h0).1]
    exact key _ (tab_byte x hx h0).2
theorem bitLen_upper : ∀ (f x : Nat), x < 2 ^ f → f ≤ 64 → x < 2 ^ Lib.bitLen x
  | 0, x, h, _ => by
    have : x = 0 := by simpa using h
    subst this
    decide
  | f + 1, x, h, hf => by
    by_cases h0 : x = 0
    · subst h0; decide
    · have h2 : 2 ^ (f + 1) ≤ 2 ^ 64 := Nat.pow_le_pow_right (by decide) hf
      rw [Lib.bitLen_half x h0 (by omega)]
      rw [Nat.pow_succ] at h
      have := bitLen_upper f (x / 2) (by omega) (by omega)
      rw [Nat.add_comm, Nat.pow_succ]
      omega
theorem bitLen_lower : ∀ (f x : Nat), x < 2 ^ f → f ≤ 64 → x ≠ 0 → 0 < Lib.bitLen x ∧ 2 ^ (Lib.bitLen x - 1) ≤ x
  | 0, x, h, _, h0 => absurd (by simpa using h) h0
  | f + 1, x, h, hf, h0 => by
    have h2 : 2 ^ (f + 1) ≤ 2 ^ 64 := Nat.pow_le_pow_right (by decide) hf
    rw [Lib.bitLen_half x h0 (by omega)]
    refine ⟨by omega, ?_⟩
    rw [Nat.pow_succ] at h
    by_cases h1 : x / 2 = 0
    · rw [h1, show 1 + Lib.bitLen 0 - 1 = 0 by decide]
      omega
    · have := bitLen_lower f (x / 2) (by omega) (by omega) h1
      rw [show 1 + Lib.bitLen (x / 2) - 1 = (Lib.bitLen (x / 2) - 1) + 1 by omega, Nat.pow_succ]
      omega
theorem lead_c (x : Int) (h0 : 0 ≤ x) (h1 : x ≤ 18446744073709551615) (w : World) : Calls Try.prog 43 #[.int .u64 x] w fun e w' => e = .returned (.int .i64 (64 - (Lib.bitLen x.toNat : Int))) ∧ w = w' := by
  have hl := Lib.bitLen_le x.toNat 64 (by decide) (by omega)
  go_enter Try.func43, Try.ntmps43
  go_wp2_with (go_at_call 44; refine (len64_c _ h0 h1 _).mono ?_; rintro e w' ⟨rfl, rfl⟩)
  go_ret
  exact ⟨rfl, rfl⟩
/-- How far a number can be shifted up. -/
theorem lead_fact (y : Nat) (h0 : 0 < y) (h1 : y < 18446744073709551616) : ∃ s : Nat, (64 - (Lib.bitLen y : Int)) = (s : Int) ∧ s ≤ 63 ∧ 9223372036854775808 ≤ y * 2 ^ s ∧ y * 2 ^ s < 18446744073709551616 := by
  have a := bitLen_upper 64 y (by omega) (by omega)
  obtain ⟨b1, b2⟩ := bitLen_lower 64 y (by omega) (by omega) (by omega)
  have c := Lib.bitLen_le y 64 (by decide) (by omega)
  generalize Lib.bitLen y = n at *
  refine ⟨64 - n, by omega, by omega, ?_, ?_⟩
  · have h := Nat.mul_le_mul_right (2 ^ (64 - n)) b2
    rw [← Nat.pow_add, show n - 1 + (64 - n) = 63 by omega] at h
    exact h
  · have h := Nat.mul_lt_mul_of_pos_right a (show 0 < 2 ^ (64 - n) from Nat.pow_pos (by decide))
    rw [← Nat.pow_add, show n + (64 - n) = 64 by omega] at h
    exact h
end Go.Proofs.Ytgkgdkdendmfnaa
