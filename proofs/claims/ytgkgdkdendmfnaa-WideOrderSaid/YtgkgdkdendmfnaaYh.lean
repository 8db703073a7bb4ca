/- math/bits.Div64: quotient and rest of a number of 128 bits by one of 64. -/
import Derived.Test.YtgkgdkdendmfnaaYg
import Derived.Deep.CutBlock
import Derived.Deep.DeepCutAuto
namespace Go.Proofs.Ytgkgdkdendmfnaa
open Go.RowKit
set_option maxHeartbeats 1000000 in
theorem div64_walk (hi lo y s Y Y1 Y0 H L u1 u0 q0 r0 Q1 R1 q1 r1 Q0 R0 Z : Nat) (h1 : hi < y) (hp : 0 < hi) (hs : s ≤ 63)
    (E1 : IntKind.u64.wrap ((y : Int) * 2 ^ s) = (Y : Int)) (E2 : (Y : Int) / 4294967296 = (Y1 : Int)) (E3 : bits .and .u64 (Y : Int) 4294967295 = (Y0 : Int))
    (E4 : bits .or .u64 (IntKind.u64.wrap ((hi : Int) * 2 ^ s)) ((lo : Int) / 2 ^ (64 - s)) = (H : Int)) (E5 : IntKind.u64.wrap ((lo : Int) * 2 ^ s) = (L : Int))
    (E6 : (L : Int) / 4294967296 = (u1 : Int)) (E7 : bits .and .u64 (L : Int) 4294967295 = (u0 : Int)) (E8 : IntKind.u64.wrap ((H : Int) / (Y1 : Int)) = (q0 : Int))
    (E9 : IntKind.u64.wrap ((H : Int) - IntKind.u64.wrap ((q0 : Int) * (Y1 : Int))) = (r0 : Int)) (Ez2 : (Y1 : Int) ≠ 0)
    (HL : Hid (∀ w, Calls Try.prog 43 #[.int .u64 y] w fun e w' => e = .returned (.int .i64 s) ∧ w = w')) (w : World)
    (HB : Hid (Base Y1 Y0 H u1 ∧ Trial Y1 Y0 H u1 q0 r0)) (HQ1 : Hid ((H * 4294967296 + u1) / (Y1 * 4294967296 + Y0) = Q1))
    (H10 : Hid (IntKind.u64.wrap (IntKind.u64.wrap (IntKind.u64.wrap ((H : Int) * 4294967296) + (u1 : Int)) - IntKind.u64.wrap ((Q1 : Int) * (Y : Int))) = (R1 : Int)))
    (H11 : Hid (IntKind.u64.wrap ((R1 : Int) / (Y1 : Int)) = (q1 : Int))) (H12 : Hid (IntKind.u64.wrap ((R1 : Int) - IntKind.u64.wrap ((q1 : Int) * (Y1 : Int))) = (r1 : Int)))
    (HC : Hid (Base Y1 Y0 R1 u0 ∧ Trial Y1 Y0 R1 u0 q1 r1)) (HQ0 : Hid ((R1 * 4294967296 + u0) / (Y1 * 4294967296 + Y0) = Q0))
    (H13 : Hid (IntKind.u64.wrap (IntKind.u64.wrap ((Q1 : Int) * 4294967296) + (Q0 : Int)) = (Z : Int)))
    (H14 : Hid (IntKind.u64.wrap (IntKind.u64.wrap (IntKind.u64.wrap ((R1 : Int) * 4294967296) + (u0 : Int)) - IntKind.u64.wrap ((Q0 : Int) * (Y : Int))) = (R0 : Int))) :
    Calls Try.prog 39 #[.int .u64 hi, .int .u64 lo, .int .u64 y] w fun e w' => e = .returned (.tuple #[.int .u64 (Z : Int), .int .u64 ((R0 : Int) / 2 ^ s)]) ∧ w = w' := by
  have hd : ((y : Int) == 0) = false := by simp; omega
  have hd2 : ((hi : Int) == 0) = false := by simp; omega
  go_enter Try.func39, Try.ntmps39
  go_wp2_with fail
  refine (HL.out _).mono ?_
  rintro e w' ⟨rfl, rfl⟩
  go_upto_block 0 with fail
  go_cut [15] from 67 to 85 (fun q wx => q = .int .u64 (Q1 : Int) ∧ wx = w)
  case first =>
    go_wp2_with fail
    go_loop [15, 16] (fun q r => ∃ a b : Nat, q = .int .u64 (a : Int) ∧ r = .int .u64 (b : Int) ∧ Hid (Trial Y1 Y0 H u1 a b)) (fun q _ => (intOf q).toNat)
    case atStart => exact ⟨q0, r0, rfl, rfl, HB.out.2⟩
    case round =>
      obtain ⟨a, b, rfl, rfl, T⟩ := hrel
      clear E1 E2 E3 E4 E5 E6 E7 E8 E9 Ez2 hd hd2 h1 hp hs
      have hroom := T.out.room HB.out.1
      have hb2 := T.out.2.1
      have ha2 := T.out.2.2.1
      have hy1 := HB.out.1.high
      obtain ⟨p1, ep1⟩ : ∃ c : Nat, a * Y0 = c := ⟨_, rfl⟩
      have EA : IntKind.u64.wrap ((a : Int) * (Y0 : Int)) = (p1 : Int) := by rw [IntKind.wrap_u64, ← Int.natCast_mul, ep1]; omega
      obtain ⟨p2, ep2⟩ : ∃ c : Nat, 4294967296 * b + u1 = c := ⟨_, rfl⟩
      have EC : IntKind.u64.wrap (IntKind.u64.wrap (4294967296 * (b : Int)) + (u1 : Int)) = (p2 : Int) := by rw [IntKind.wrap_u64, IntKind.wrap_u64]; omega
      have hstep := fun h => T.out.step HB.out.1 h
      have hstop := fun h => T.out.stop h
      rw [ep1, ep2] at hstep hstop
      obtain ⟨p3, ep3⟩ : ∃ c : Nat, b + Y1 = c := ⟨_, rfl⟩
      have ED : IntKind.u64.wrap ((b : Int) + (Y1 : Int)) = (p3 : Int) := by rw [IntKind.wrap_u64]; omega
      rw [ep3] at hstep
      have Hstep := Lib.hid hstep
      have Hstop := Lib.hid hstop
      have Hb2 := Lib.hid hb2
      have Ha2 := Lib.hid ha2
      clear hstep hstop ep1 ep2 ep3 hroom hb2 ha2 hy1
      by_cases hgo : 4294967296 ≤ a ∨ p2 < p1
      · obtain ⟨p, ep, st1, st2⟩ := Hstep.out hgo
        have EP : IntKind.u64.wrap ((a : Int) - 1) = (p : Int) := by have := Ha2.out; rw [IntKind.wrap_u64]; omega
        have ST1 := Lib.hid st1
        have ST2 := Lib.hid st2
        have Hpa : Hid (p < a) := by unfold Hid; omega
        clear st1 st2 ep
        rcases Nat.lt_or_ge p3 4294967296 with h3 | h3
        · have d3 : decide ((4294967296 : Int) ≤ (p3 : Int)) = false := by simp; omega
          have i3 : (p3 : Int) < 4294967296 := by omega
          have T2 := Lib.hid (ST1.out h3)
          rcases Nat.lt_or_ge a 4294967296 with h4 | h4
          · have d4 : decide ((4294967296 : Int) ≤ (a : Int)) = false := by simp; omega
            have i4 : (a : Int) < 4294967296 := by omega
            have d5 : decide ((p2 : Int) < (p1 : Int)) = true := by simp; omega
            have d6 : decide (p2 < p1) = true := by simp; omega
            have i5 : (p2 : Int) < (p1 : Int) := by omega
            go_wp2_with fail
            exact ⟨⟨p, p3, rfl, rfl, T2⟩, by have := Hpa.out; simp [intOf]; omega⟩
          · have d4 : decide ((4294967296 : Int) ≤ (a : Int)) = true := by simp; omega
            have i4 : (4294967296 : Int) ≤ (a : Int) := by omega
            go_wp2_with fail
            exact ⟨⟨p, p3, rfl, rfl, T2⟩, by have := Hpa.out; simp [intOf]; omega⟩
        · have d3 : decide ((4294967296 : Int) ≤ (p3 : Int)) = true := by simp; omega
          have i3 : (4294967296 : Int) ≤ (p3 : Int) := by omega
          have hq := ST2.out h3
          rw [HQ1.out] at hq
          subst hq
          rcases Nat.lt_or_ge a 4294967296 with h4 | h4
          · have d4 : decide ((4294967296 : Int) ≤ (a : Int)) = false := by simp; omega
            have i4 : (a : Int) < 4294967296 := by omega
            have d5 : decide ((p2 : Int) < (p1 : Int)) = true := by simp; omega
            have d6 : decide (p2 < p1) = true := by simp; omega
            have i5 : (p2 : Int) < (p1 : Int) := by omega
            go_wp2_with fail
            go_meet
            exact ⟨rfl, rfl⟩
          · have d4 : decide ((4294967296 : Int) ≤ (a : Int)) = true := by simp; omega
            have i4 : (4294967296 : Int) ≤ (a : Int) := by omega
            go_wp2_with fail
            go_meet
            exact ⟨rfl, rfl⟩
      · have d4 : decide ((4294967296 : Int) ≤ (a : Int)) = false := by simp; omega
        have i4 : (a : Int) < 4294967296 := by omega
        have d5 : decide ((p2 : Int) < (p1 : Int)) = false := by simp; omega
        have d6 : decide (p2 < p1) = false := by simp; omega
        have i5 : (p1 : Int) ≤ (p2 : Int) := by omega
        have hq := Hstop.out (by omega)
        clear hgo
        rw [HQ1.out] at hq
        subst hq
        go_wp2_with fail
        go_meet
        exact ⟨rfl, rfl⟩
  obtain ⟨rfl, rfl⟩ := hcut
  clear HQ1 HB
  have E10 := H10.out
  have E11 := H11.out
  have E12 := H12.out
  go_upto_block 2 with fail
  go_cut [18] from 102 to 120 (fun q wx => q = .int .u64 (Q0 : Int) ∧ wx = wc)
  case first =>
    go_wp2_with fail
    go_loop [18, 16] (fun q r => ∃ a b : Nat, q = .int .u64 (a : Int) ∧ r = .int .u64 (b : Int) ∧ Hid (Trial Y1 Y0 R1 u0 a b)) (fun q _ => (intOf q).toNat)
    case atStart => exact ⟨q1, r1, rfl, rfl, HC.out.2⟩
    case round =>
      obtain ⟨a, b, rfl, rfl, T⟩ := hrel
      clear E1 E2 E3 E4 E5 E6 E7 E8 E9 Ez2 hd hd2 h1 hp hs E10 E11 E12
      have hroom := T.out.room HC.out.1
      have hb2 := T.out.2.1
      have ha2 := T.out.2.2.1
      have hy1 := HC.out.1.high
      obtain ⟨p1, ep1⟩ : ∃ c : Nat, a * Y0 = c := ⟨_, rfl⟩
      have EA : IntKind.u64.wrap ((a : Int) * (Y0 : Int)) = (p1 : Int) := by rw [IntKind.wrap_u64, ← Int.natCast_mul, ep1]; omega
      obtain ⟨p2, ep2⟩ : ∃ c : Nat, 4294967296 * b + u0 = c := ⟨_, rfl⟩
      have EC : IntKind.u64.wrap (IntKind.u64.wrap (4294967296 * (b : Int)) + (u0 : Int)) = (p2 : Int) := by rw [IntKind.wrap_u64, IntKind.wrap_u64]; omega
      have hstep := fun h => T.out.step HC.out.1 h
      have hstop := fun h => T.out.stop h
      rw [ep1, ep2] at hstep hstop
      obtain ⟨p3, ep3⟩ : ∃ c : Nat, b + Y1 = c := ⟨_, rfl⟩
      have ED : IntKind.u64.wrap ((b : Int) + (Y1 : Int)) = (p3 : Int) := by rw [IntKind.wrap_u64]; omega
      rw [ep3] at hstep
      have Hstep := Lib.hid hstep
      have Hstop := Lib.hid hstop
      have Hb2 := Lib.hid hb2
      have Ha2 := Lib.hid ha2
      clear hstep hstop ep1 ep2 ep3 hroom hb2 ha2 hy1
      by_cases hgo : 4294967296 ≤ a ∨ p2 < p1
      · obtain ⟨p, ep, st1, st2⟩ := Hstep.out hgo
        have EP : IntKind.u64.wrap ((a : Int) - 1) = (p : Int) := by have := Ha2.out; rw [IntKind.wrap_u64]; omega
        have ST1 := Lib.hid st1
        have ST2 := Lib.hid st2
        have Hpa : Hid (p < a) := by unfold Hid; omega
        clear st1 st2 ep
        rcases Nat.lt_or_ge p3 4294967296 with h3 | h3
        · have d3 : decide ((4294967296 : Int) ≤ (p3 : Int)) = false := by simp; omega
          have i3 : (p3 : Int) < 4294967296 := by omega
          have T2 := Lib.hid (ST1.out h3)
          rcases Nat.lt_or_ge a 4294967296 with h4 | h4
          · have d4 : decide ((4294967296 : Int) ≤ (a : Int)) = false := by simp; omega
            have i4 : (a : Int) < 4294967296 := by omega
            have d5 : decide ((p2 : Int) < (p1 : Int)) = true := by simp; omega
            have d6 : decide (p2 < p1) = true := by simp; omega
            have i5 : (p2 : Int) < (p1 : Int) := by omega
            go_wp2_with fail
            exact ⟨⟨p, p3, rfl, rfl, T2⟩, by have := Hpa.out; simp [intOf]; omega⟩
          · have d4 : decide ((4294967296 : Int) ≤ (a : Int)) = true := by simp; omega
            have i4 : (4294967296 : Int) ≤ (a : Int) := by omega
            go_wp2_with fail
            exact ⟨⟨p, p3, rfl, rfl, T2⟩, by have := Hpa.out; simp [intOf]; omega⟩
        · have d3 : decide ((4294967296 : Int) ≤ (p3 : Int)) = true := by simp; omega
          have i3 : (4294967296 : Int) ≤ (p3 : Int) := by omega
          have hq := ST2.out h3
          rw [HQ0.out] at hq
          subst hq
          rcases Nat.lt_or_ge a 4294967296 with h4 | h4
          · have d4 : decide ((4294967296 : Int) ≤ (a : Int)) = false := by simp; omega
            have i4 : (a : Int) < 4294967296 := by omega
            have d5 : decide ((p2 : Int) < (p1 : Int)) = true := by simp; omega
            have d6 : decide (p2 < p1) = true := by simp; omega
            have i5 : (p2 : Int) < (p1 : Int) := by omega
            go_wp2_with fail
            go_meet
            exact ⟨rfl, rfl⟩
          · have d4 : decide ((4294967296 : Int) ≤ (a : Int)) = true := by simp; omega
            have i4 : (4294967296 : Int) ≤ (a : Int) := by omega
            go_wp2_with fail
            go_meet
            exact ⟨rfl, rfl⟩
      · have d4 : decide ((4294967296 : Int) ≤ (a : Int)) = false := by simp; omega
        have i4 : (a : Int) < 4294967296 := by omega
        have d5 : decide ((p2 : Int) < (p1 : Int)) = false := by simp; omega
        have d6 : decide (p2 < p1) = false := by simp; omega
        have i5 : (p1 : Int) ≤ (p2 : Int) := by omega
        have hq := Hstop.out (by omega)
        clear hgo
        rw [HQ0.out] at hq
        subst hq
        go_wp2_with fail
        go_meet
        exact ⟨rfl, rfl⟩
  obtain ⟨rfl, rfl⟩ := hcut
  clear HQ0 HC
  have E13 := H13.out
  have E14 := H14.out
  go_wp2_with fail
  go_ret2
  exact ⟨rfl, rfl⟩
end Go.Proofs.Ytgkgdkdendmfnaa
