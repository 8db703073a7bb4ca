/- math/bits.Div64: its contract; MulDiv. -/
import Derived.Test.YtgkgdkdendmfnaaYh
import Derived.Test.YtgkgdkdendmfnaaYc
namespace Go.Proofs.Ytgkgdkdendmfnaa
open Go.RowKit
theorem wrap_room (a : Nat) (h : a < 18446744073709551616) : IntKind.u64.wrap (a : Int) = (a : Int) := by rw [IntKind.wrap_u64]; omega
theorem wrap_rest (a b : Nat) (h : a < 18446744073709551616) : IntKind.u64.wrap ((a : Int) - IntKind.u64.wrap (((a / b : Nat) : Int) * (b : Int))) = ((a % b : Nat) : Int) := by
  have h1 := Nat.div_add_mod' a b
  rw [← Int.natCast_mul, IntKind.wrap_u64, IntKind.wrap_u64]
  generalize a / b * b = c at *
  generalize a % b = d at *
  omega
theorem wrap_quot (a b : Nat) (h : a < 18446744073709551616) : IntKind.u64.wrap ((a : Int) / (b : Int)) = ((a / b : Nat) : Int) := by
  have := Nat.div_le_self a b
  rw [← Int.natCast_ediv]
  generalize a / b = c at *
  rw [IntKind.wrap_u64]; omega
theorem wrap_next (a u q r Y : Nat) (h : q * Y + r = a * 4294967296 + u) (hr : r < 18446744073709551616) :
    IntKind.u64.wrap (IntKind.u64.wrap (IntKind.u64.wrap ((a : Int) * 4294967296) + (u : Int)) - IntKind.u64.wrap ((q : Int) * (Y : Int))) = (r : Int) := by
  rw [← Int.natCast_mul, IntKind.wrap_u64, IntKind.wrap_u64, IntKind.wrap_u64, IntKind.wrap_u64]
  generalize q * Y = c at *
  omega
theorem wrap_two (a b : Nat) (ha : a < 4294967296) (hb : b < 4294967296) : IntKind.u64.wrap (IntKind.u64.wrap ((a : Int) * 4294967296) + (b : Int)) = ((a * 4294967296 + b : Nat) : Int) := by
  rw [IntKind.wrap_u64, IntKind.wrap_u64]; omega
set_option maxHeartbeats 1000000 in
theorem div64_small (lo y : Nat) (hl : lo < 18446744073709551616) (h0 : 0 < y) (hy : y < 18446744073709551616) (w : World) :
    Calls Try.prog 39 #[.int .u64 0, .int .u64 lo, .int .u64 y] w fun e w' => e = .returned (.tuple #[.int .u64 ((lo / y : Nat) : Int), .int .u64 ((lo % y : Nat) : Int)]) ∧ Below w.heap.size w w' := by
  have hd : ((y : Int) == 0) = false := by simp; omega
  have hz : (y : Int) ≠ 0 := by omega
  have e1 := wrap_quot lo y hl
  have e2 : (lo : Int) % (y : Int) = ((lo % y : Nat) : Int) := (Int.natCast_emod lo y).symm
  generalize lo / y = Q at *
  generalize lo % y = R at *
  go_enter Try.func39, Try.ntmps39
  go_wp2_with fail
  go_region
  all_goals go_wp2_with fail
  go_ret2
  exact ⟨by rw [← e2]; rfl, (Below.refl _ _).drew⟩
theorem div64_great (hi lo y : Nat) (hl : lo < 18446744073709551616) (h0 : 0 < hi) (h1 : hi < y) (hy : y < 18446744073709551616) (w : World) :
    Calls Try.prog 39 #[.int .u64 hi, .int .u64 lo, .int .u64 y] w fun e w' => e = .returned (.tuple #[.int .u64 (((hi * 18446744073709551616 + lo) / y : Nat) : Int), .int .u64 (((hi * 18446744073709551616 + lo) % y : Nat) : Int)]) ∧ w = w' := by
  obtain ⟨s, es, hs, hY0, hY1⟩ := lead_fact y (by omega) hy
  have HL := Lib.hid (lead_c y (by omega) (by omega))
  rw [Int.toNat_natCast, es] at HL
  have hp : 0 < 2 ^ s := Nat.pow_pos (by decide)
  have hm : 2 ^ s * 2 ^ (64 - s) = 18446744073709551616 := by rw [← Nat.pow_add, show s + (64 - s) = 64 by omega]
  have hlo : lo / 2 ^ (64 - s) < 2 ^ s := by rw [Nat.div_lt_iff_lt_mul (Nat.pow_pos (by decide)), hm]; exact hl
  have hhi : hi * 2 ^ s + 2 ^ s ≤ y * 2 ^ s := by
    have := Nat.mul_le_mul_right (2 ^ s) (show hi + 1 ≤ y by omega)
    rw [Nat.add_mul, Nat.one_mul] at this
    exact this
  have hor : ∀ a b : Nat, b < 2 ^ s → (a * 2 ^ s) ||| b = a * 2 ^ s + b := fun a b h => by
    rw [← Nat.shiftLeft_eq, Nat.shiftLeft_add_eq_or_of_lt h]
  obtain ⟨Y, eY⟩ : ∃ Y, Y = y * 2 ^ s := ⟨_, rfl⟩
  obtain ⟨H, eH⟩ : ∃ H, H = hi * 2 ^ s + lo / 2 ^ (64 - s) := ⟨_, rfl⟩
  obtain ⟨L, eL⟩ : ∃ L, L = lo * 2 ^ s % 18446744073709551616 := ⟨_, rfl⟩
  have hL : L < 18446744073709551616 := by rw [eL]; exact Nat.mod_lt _ (by decide)
  have hH : H < Y := by omega
  have hYa : 9223372036854775808 ≤ Y := by omega
  have hYb : Y < 18446744073709551616 := by omega
  have hYs : Y / 4294967296 * 4294967296 + Y % 4294967296 = Y := by omega
  have b1 : Base (Y / 4294967296) (Y % 4294967296) H (L / 4294967296) := ⟨by omega, by omega, by omega, by omega, by omega⟩
  have t1 := Trial.start b1
  have d1 := digit_lt b1
  rw [hYs] at d1
  have hR1 : (H * 4294967296 + L / 4294967296) % Y < Y := Nat.mod_lt _ (by omega)
  have m1 := Nat.div_add_mod' (H * 4294967296 + L / 4294967296) Y
  obtain ⟨Q1, eQ1⟩ : ∃ Q1, (H * 4294967296 + L / 4294967296) / Y = Q1 := ⟨_, rfl⟩
  obtain ⟨R1, eR1⟩ : ∃ R1, (H * 4294967296 + L / 4294967296) % Y = R1 := ⟨_, rfl⟩
  rw [eQ1] at d1
  rw [eQ1, eR1] at m1
  rw [eR1] at hR1
  have b2 : Base (Y / 4294967296) (Y % 4294967296) R1 (L % 4294967296) := ⟨by omega, by omega, by omega, by omega, by omega⟩
  have t2 := Trial.start b2
  have d2 := digit_lt b2
  rw [hYs] at d2
  have hR0 : (R1 * 4294967296 + L % 4294967296) % Y < Y := Nat.mod_lt _ (by omega)
  have m2 := Nat.div_add_mod' (R1 * 4294967296 + L % 4294967296) Y
  obtain ⟨Q0, eQ0⟩ : ∃ Q0, (R1 * 4294967296 + L % 4294967296) / Y = Q0 := ⟨_, rfl⟩
  obtain ⟨R0, eR0⟩ : ∃ R0, (R1 * 4294967296 + L % 4294967296) % Y = R0 := ⟨_, rfl⟩
  rw [eQ0] at d2
  rw [eQ0, eR0] at m2
  rw [eR0] at hR0
  have fin := two_digits hi lo y s H L Y (L / 4294967296) (L % 4294967296) Q1 R1 Q0 R0 hs eY eH eL (by omega) m1.symm m2.symm hR0
  have hyz : 0 < Y / 4294967296 := by omega
  have cast2 : ∀ a : Nat, (a : Int) * 2 ^ s = ((a * 2 ^ s : Nat) : Int) := fun a => by norm_cast
  have key := div64_walk hi lo y s Y (Y / 4294967296) (Y % 4294967296) H L (L / 4294967296) (L % 4294967296) (H / (Y / 4294967296)) (H % (Y / 4294967296)) Q1 R1 (R1 / (Y / 4294967296)) (R1 % (Y / 4294967296)) Q0 R0 (Q1 * 4294967296 + Q0) h1 h0 hs
    (by rw [cast2, ← eY]; exact wrap_room _ hYb) (by omega) (low32 Y hYb)
    (by
      rw [cast2, wrap_room _ (by omega), show ((lo : Int) / 2 ^ (64 - s)) = ((lo / 2 ^ (64 - s) : Nat) : Int) by norm_cast, bits_or_u64_nat _ _ (by omega) (by omega), hor _ _ hlo, ← eH])
    (by rw [cast2, IntKind.wrap_u64, eL]; rfl) (by omega) (low32 L hL) (wrap_quot _ _ (by omega)) (wrap_rest _ _ (by omega)) (by omega) HL w
    (Lib.hid ⟨b1, t1⟩) (Lib.hid (by rw [hYs]; exact eQ1)) (Lib.hid (wrap_next _ _ _ _ _ m1 (by omega))) (Lib.hid (wrap_quot _ _ (by omega))) (Lib.hid (wrap_rest _ _ (by omega)))
    (Lib.hid ⟨b2, t2⟩) (Lib.hid (by rw [hYs]; exact eQ0)) (Lib.hid (wrap_two _ _ d1 d2)) (Lib.hid (wrap_next _ _ _ _ _ m2 (by omega)))
  refine key.mono ?_
  rintro e w' ⟨rfl, rfl⟩
  rw [← fin.1, ← fin.2]
  exact ⟨by norm_cast, rfl⟩
end Go.Proofs.Ytgkgdkdendmfnaa
