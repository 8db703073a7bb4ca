/- Layer 13: package frame: zig and zag. -/
import Derived.Test.YteobffggfcmghaaDoorUa
namespace Go.Proofs.YteobffggfcmghaaDoor
open Go.RowKit
theorem u64_bv {z : Int} (h : 0 ≤ z ∧ z ≤ 18446744073709551615) : (((BitVec.ofInt 64 z).toNat : Nat) : Int) = z := by
  rw [BitVec.toNat_ofInt]; omega
theorem xor_max64 {z : Int} (h : 0 ≤ z ∧ z ≤ 18446744073709551615) : bits .xor .u64 IntKind.u64.max z = 18446744073709551615 - z := by
  unfold bits
  simp only
  show IntKind.u64.wrap (((BitVec.ofInt 64 18446744073709551615) ^^^ (BitVec.ofInt 64 z)).toNat : Int) = _
  rw [show BitVec.ofInt 64 18446744073709551615 = BitVec.allOnes 64 by decide, BitVec.allOnes_xor, BitVec.toNat_not]
  have := u64_bv h
  rw [u64_wrap]
  omega
theorem xor_neg64 {z : Int} (h : 0 ≤ z ∧ z ≤ 9223372036854775807) : bits .xor .i64 (-1) z = -z - 1 := by
  unfold bits
  simp only
  show IntKind.i64.wrap (((BitVec.ofInt 64 (-1)) ^^^ (BitVec.ofInt 64 z)).toNat : Int) = _
  rw [show BitVec.ofInt 64 (-1) = BitVec.allOnes 64 by decide, BitVec.allOnes_xor, BitVec.toNat_not]
  have := u64_bv (z := z) ⟨h.1, by omega⟩
  rw [wrap_is]
  generalize (BitVec.ofInt 64 z).toNat = m at this
  subst this
  unfold wrap64
  omega
theorem and_1 {z : Int} (h : 0 ≤ z ∧ z ≤ 18446744073709551615) : bits .and .u64 z 1 = z % 2 := by
  unfold bits
  simp only
  show IntKind.u64.wrap (((BitVec.ofInt 64 z) &&& (BitVec.ofInt 64 1)).toNat : Int) = _
  have e : (BitVec.ofInt 64 1).toNat = 2 ^ 1 - 1 := by decide
  have := u64_bv h
  rw [BitVec.toNat_and, e, Nat.and_two_pow_sub_one_eq_mod, u64_wrap]
  omega
set_option maxHeartbeats 4000000 in
set_option maxRecDepth 100000 in
theorem zigzag_c (n : Int) (w : World) (h : rngN n) : Calls Tryd.prog 32 #[.int .i64 n] w fun e w' => e = .returned (.int .u64 (zigI n)) ∧ w = w' := by
  obtain ⟨g1, g2⟩ := h
  by_cases h0 : 0 ≤ n
  · have d1 : decide (n < 0) = false := by simp; omega
    have HZ : Hid (zigI n = n * 2) := by unfold zigI Hid; rw [if_pos h0]; omega
    rw [HZ.out]
    have r1 : IntKind.u64.wrap n = n := by rw [u64_wrap]; omega
    have r2 : IntKind.u64.wrap (n * 2) = n * 2 := by rw [u64_wrap]; omega
    go_enter Tryd.func32, Tryd.ntmps32
    go_wp2_with fail
    go_ret
    exact ⟨rfl, rfl⟩
  · have d1 : decide (n < 0) = true := by simp; omega
    have HZ : Hid (zigI n = -2 * n - 1) := by unfold zigI Hid; rw [if_neg h0]
    rw [HZ.out]
    have r1 : IntKind.u64.wrap n = n + 18446744073709551616 := by rw [u64_wrap]; omega
    have r2 : IntKind.u64.wrap ((n + 18446744073709551616) * 2) = 2 * n + 18446744073709551616 := by rw [u64_wrap]; omega
    have r3 : bits .xor .u64 IntKind.u64.max (2 * n + 18446744073709551616) = -2 * n - 1 := by rw [xor_max64 (z := 2 * n + 18446744073709551616) ⟨by omega, by omega⟩]; omega
    go_enter Tryd.func32, Tryd.ntmps32
    go_wp2_with fail
    go_ret
    exact ⟨rfl, rfl⟩
set_option maxHeartbeats 4000000 in
set_option maxRecDepth 100000 in
theorem unzigzag_c (z : Int) (w : World) (h : 0 ≤ z ∧ z ≤ 18446744073709551615) : Calls Tryd.prog 36 #[.int .u64 z] w fun e w' => e = .returned (.int .i64 (unzigI z)) ∧ w = w' := by
  have ha := and_1 h
  have HU : Hid (unzigI z = if z % 2 = 1 then -(z / 2) - 1 else z / 2) := rfl
  obtain ⟨q, hq⟩ : ∃ q, z / 2 = q := ⟨_, rfl⟩
  have r1 : wrap64 q = q := wrapR _ (by omega) (by omega)
  have r2 := xor_neg64 (z := q) ⟨by omega, by omega⟩
  rw [hq] at HU
  by_cases h1 : z % 2 = 1
  · have d1 : (z % 2 == 1) = true := by simp; omega
    rw [HU.out, if_pos h1]
    go_enter Tryd.func36, Tryd.ntmps36
    go_wp2_with fail
    go_ret
    exact ⟨rfl, rfl⟩
  · have d1 : (z % 2 == 1) = false := by simp; omega
    rw [HU.out, if_neg h1]
    go_enter Tryd.func36, Tryd.ntmps36
    go_wp2_with fail
    go_ret
    exact ⟨rfl, rfl⟩
end Go.Proofs.YteobffggfcmghaaDoor
