/- The law of P2.4, as a contract: it returns true, for every input. -/
import Derived.Test.YtgkgdkdendmfnaaQ
namespace Go.Proofs.Ytgkgdkdendmfnaa
open Go.RowKit
theorem toI_ofI (n : Int) (h : I64 n) : (ofI n).toInt = n := by
  obtain ⟨h0, h1⟩ := h
  unfold ofI
  rw [BitVec.toInt_ofInt]
  apply Int.bmod_eq_of_le
  · show -(((340282366920938463463374607431768211456 : Nat) : Int) / 2) ≤ _
    omega
  · show _ < (((340282366920938463463374607431768211456 : Nat) : Int) + 1) / 2
    omega
theorem mul_room (a b : Int) (ha : I64 a) (hb : I64 b) : -85070591730234615865843651857942052864 ≤ a * b ∧ a * b ≤ 85070591730234615865843651857942052864 := by
  obtain ⟨a0, a1⟩ := ha
  obtain ⟨b0, b1⟩ := hb
  have h := Nat.mul_le_mul (show a.natAbs ≤ 9223372036854775808 by omega) (show b.natAbs ≤ 9223372036854775808 by omega)
  rw [← Int.natAbs_mul] at h
  omega
theorem toI_mul (a b : Int) (ha : I64 a) (hb : I64 b) : (ofI a * ofI b).toInt = a * b := by
  have h := mul_room a b ha hb
  rw [BitVec.toInt_mul, toI_ofI a ha, toI_ofI b hb]
  apply Int.bmod_eq_of_le
  · show -(((340282366920938463463374607431768211456 : Nat) : Int) / 2) ≤ _
    omega
  · show _ < (((340282366920938463463374607431768211456 : Nat) : Int) + 1) / 2
    omega
theorem cmpOf_int (u v : BitVec 128) : cmpOf u v = if u.toInt < v.toInt then -1 else if v.toInt < u.toInt then 1 else 0 := by
  unfold cmpOf
  simp only [BitVec.slt, decide_eq_true_eq]
theorem cmpOf_le {u v : BitVec 128} : cmpOf u v ≤ 0 ↔ u.toInt ≤ v.toInt := by
  rw [cmpOf_int]; repeat' split
  all_goals omega
theorem cmpOf_gt {u v : BitVec 128} : 0 < cmpOf u v ↔ v.toInt < u.toInt := by
  rw [cmpOf_int]; repeat' split
  all_goals omega
theorem cmpOf_lt {u v : BitVec 128} : cmpOf u v < 0 ↔ u.toInt < v.toInt := by
  rw [cmpOf_int]; repeat' split
  all_goals omega
theorem root_nat : ∀ n : Nat, ∃ r : Nat, r * r ≤ n ∧ n < (r + 1) * (r + 1)
  | 0 => ⟨0, by decide, by decide⟩
  | n + 1 => by
    obtain ⟨r, h1, h2⟩ := root_nat n
    by_cases h : n + 1 < (r + 1) * (r + 1)
    · exact ⟨r, by omega, h⟩
    · refine ⟨r + 1, by omega, ?_⟩
      have : (r + 1 + 1) * (r + 1 + 1) = (r + 1) * (r + 1) + (r + 1) + (r + 1) + 1 := by rw [Nat.mul_add, Nat.add_mul]; omega
      omega
theorem root_int (n : Int) (h0 : 0 ≤ n) (h1 : n ≤ 9223372036854775807) : ∃ r : Int, isRoot n r := by
  obtain ⟨r, hr1, hr2⟩ := root_nat n.toNat
  refine ⟨r, by omega, ?_, ?_, ?_⟩
  · rcases Nat.lt_or_ge r 4294967296 with h | h
    · omega
    · have := Nat.mul_le_mul h h
      omega
  · have : ((r * r : Nat) : Int) ≤ n := by omega
    simpa using this
  · have : n < (((r + 1) * (r + 1) : Nat) : Int) := by omega
    simpa using this
set_option maxHeartbeats 1000000 in
set_option maxRecDepth 100000 in
theorem roots_law (K : WideOk) (n : Int) (hn : I64 n) (w : World) :
    Calls Try.prog 8 #[.int .i64 n] w fun e w' => e = .returned (.bool true) ∧ Below w.heap.size w w' := by
  have B : Hid (Below w.heap.size w w) := Below.refl _ _
  by_cases h0 : n < 0
  · have hd : decide (n < 0) = true := by simpa using h0
    have HS := Lib.hid fun w => K.sqrt_neg_w n w hn h0
    go_enter Try.func8, Try.ntmps8
    go_wp2_with fail
    refine (HS.out _).mono ?_
    rintro e wn ⟨rfl, hbl⟩
    replace B := Lib.hid (below_next B.out hbl)
    clear hbl
    go_wp2_with fail
    refine (awake_any K _).mono ?_
    rintro e wn ⟨rfl, hbl⟩
    replace B := Lib.hid (below_next B.out hbl)
    clear hbl
    go_wp2_with fail
    go_ret
    exact ⟨rfl, B.out⟩
  · have hd : decide (n < 0) = false := by simp; omega
    obtain ⟨r, hr⟩ := root_int n (by omega) hn.2
    have hS := Lib.hid fun w => K.sqrt_w n r w hn hr
    obtain ⟨r0, r1, r2, r3⟩ := hr
    have i1 : I64 r := ⟨by omega, by omega⟩
    have i2 : I64 (r + 1) := ⟨by omega, by omega⟩
    have f1 : cmpOf (ofI r * ofI r) (ofI n) ≤ 0 := by rw [cmpOf_le, toI_mul r r i1 i1, toI_ofI n hn]; exact r2
    have f2 : 0 < cmpOf (ofI (r + 1) * ofI (r + 1)) (ofI n) := by rw [cmpOf_gt, toI_mul _ _ i2 i2, toI_ofI n hn]; exact r3
    have HM1 := Lib.hid fun w => K.mul_w r r w i1 i1
    have HM2 := Lib.hid fun w => K.mul_w (r + 1) (r + 1) w i2 i2
    have HO := Lib.hid fun w => K.of_w n w hn
    have HC1 := Lib.hid (K.cmp_w (ofI r * ofI r) (ofI n))
    have HC2 := Lib.hid (K.cmp_w (ofI (r + 1) * ofI (r + 1)) (ofI n))
    generalize ofI r * ofI r = p at *
    generalize ofI (r + 1) * ofI (r + 1) = q at *
    generalize ofI n = o at *
    generalize cmpOf p o = c1 at *
    generalize cmpOf q o = c2 at *
    have g1 : decide (0 ≤ r) = true := by simpa using r0
    have g2 : decide (r < 4294967296) = true := by simpa using r1
    have g3 : decide (c1 ≤ 0) = true := by simpa using f1
    have g4 : decide (0 < c2) = true := by simpa using f2
    clear r2 r3 i1 i2 f1 f2
    go_enter Try.func8, Try.ntmps8
    go_wp2_with fail
    refine (hS.out _).mono ?_
    rintro e wn ⟨rfl, hbl⟩
    replace B := Lib.hid (below_next B.out hbl)
    clear hbl
    go_wp2_with fail
    refine (HM1.out _).mono ?_
    rintro e wn ⟨rfl, hbl⟩
    replace B := Lib.hid (below_next B.out hbl)
    clear hbl
    go_wp2_with fail
    refine (HO.out _).mono ?_
    rintro e wn ⟨rfl, hbl⟩
    replace B := Lib.hid (below_next B.out hbl)
    clear hbl
    go_wp2_with fail
    refine (HC1.out _).mono ?_
    rintro e wn ⟨rfl, hbl⟩
    replace B := Lib.hid (below_next B.out hbl)
    clear hbl
    go_wp2_with fail
    refine (HM2.out _).mono ?_
    rintro e wn ⟨rfl, hbl⟩
    replace B := Lib.hid (below_next B.out hbl)
    clear hbl
    go_wp2_with fail
    refine (HO.out _).mono ?_
    rintro e wn ⟨rfl, hbl⟩
    replace B := Lib.hid (below_next B.out hbl)
    clear hbl
    go_wp2_with fail
    refine (HC2.out _).mono ?_
    rintro e wn ⟨rfl, hbl⟩
    replace B := Lib.hid (below_next B.out hbl)
    clear hbl
    go_wp2_with fail
    refine (awake_any K _).mono ?_
    rintro e wn ⟨rfl, hbl⟩
    replace B := Lib.hid (below_next B.out hbl)
    clear hbl
    go_wp2_with fail
    go_ret
    exact ⟨rfl, B.out⟩
end Go.Proofs.Ytgkgdkdendmfnaa
