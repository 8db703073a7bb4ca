/- Numbers of 128 bits as values: their two halves, the contracts of the document's own answers in these words, and what '==' of rows tells. -/
import Derived.Test.YtgkgdkdendmfnaaJ
import Derived.Test.YtgkgdkdendmfnaaH
import Derived.Test.YtgkgdkdendmfnaaI
namespace Go.Proofs.Ytgkgdkdendmfnaa
open Go.RowKit

/-- The upper half, with its sign. -/
def hiOf (u : BitVec 128) : Int := u.toInt / 18446744073709551616
/-- The lower half. -/
def loOf (u : BitVec 128) : Nat := u.toNat % 18446744073709551616
theorem loOf_lt (u : BitVec 128) : loOf u < 2 ^ 64 := Nat.mod_lt _ (by decide)
theorem toInt_split (u : BitVec 128) : hiOf u * 18446744073709551616 + (loOf u : Int) = u.toInt := by
  unfold hiOf loOf
  have h := BitVec.toInt_eq_toNat_cond u
  have e : ((u.toNat % 18446744073709551616 : Nat) : Int) = u.toInt % 18446744073709551616 := by
    rw [h]
    split
    · omega
    · rw [Int.natCast_emod, show (((2 : Nat) ^ 128 : Nat) : Int) = 18446744073709551616 * 18446744073709551616 by decide]
      omega
  rw [e]
  have := Int.mul_ediv_add_emod u.toInt 18446744073709551616
  omega
theorem num_of (u : BitVec 128) : num (hiOf u) (loOf u) = u := by
  unfold num
  rw [toInt_split, BitVec.ofInt_toInt]
theorem toInt_bounds (u : BitVec 128) : -170141183460469231731687303715884105728 ≤ u.toInt ∧ u.toInt ≤ 170141183460469231731687303715884105727 := by
  have h1 := BitVec.le_toInt u
  have h2 := BitVec.toInt_lt (x := u)
  simp only [show (128 - 1 : Nat) = 127 by decide] at h1 h2
  rw [show ((2 : Int) ^ 127) = 170141183460469231731687303715884105728 by decide] at h1 h2
  omega
theorem hiOf_bounds (u : BitVec 128) : -9223372036854775808 ≤ hiOf u ∧ hiOf u ≤ 9223372036854775807 := by
  have h := toInt_split u
  have hl := loOf_lt u
  have hb := toInt_bounds u
  omega
theorem num_toInt (hi : Int) (L : Nat) (h0 : -9223372036854775808 ≤ hi) (h1 : hi ≤ 9223372036854775807) (hL : L < 2 ^ 64) : (num hi L).toInt = hi * 18446744073709551616 + L := by
  unfold num
  rw [BitVec.toInt_ofInt]
  apply Int.bmod_eq_of_le
  · show -(((340282366920938463463374607431768211456 : Nat) : Int) / 2) ≤ _
    omega
  · show _ < (((340282366920938463463374607431768211456 : Nat) : Int) + 1) / 2
    omega
theorem hiOf_num (hi : Int) (L : Nat) (h0 : -9223372036854775808 ≤ hi) (h1 : hi ≤ 9223372036854775807) (hL : L < 2 ^ 64) : hiOf (num hi L) = hi := by
  unfold hiOf; rw [num_toInt hi L h0 h1 hL]; omega
theorem loOf_num (hi : Int) (L : Nat) (h0 : -9223372036854775808 ≤ hi) (h1 : hi ≤ 9223372036854775807) (hL : L < 2 ^ 64) : loOf (num hi L) = L := by
  have h := toInt_split (num hi L)
  rw [num_toInt hi L h0 h1 hL, hiOf_num hi L h0 h1 hL] at h
  omega
theorem num_same (u v : BitVec 128) : (hiOf u == hiOf v && (loOf u : Int) == (loOf v : Int)) = decide (u = v) := by
  rw [Bool.eq_iff_iff]
  simp only [Bool.and_eq_true, beq_iff_eq, decide_eq_true_eq]
  constructor
  · intro ⟨h1, h2⟩
    rw [← num_of u, ← num_of v, h1, show (loOf u : Int) = (loOf v : Int) from h2]
  · rintro rfl; exact ⟨rfl, rfl⟩
theorem row_inj {u v : BitVec 128} (h : row u = row v) : u = v := by
  apply BitVec.eq_of_getLsbD_eq
  intro i hi
  have h1 := row_at u i hi
  rw [h, row_at v i hi] at h1
  simpa using h1.symm

/-- The statements' own bits, in these words. -/
theorem bitsW (u : BitVec 128) (w : World) : Calls Try.prog 10 #[.agg #[.int .i64 (hiOf u), .int .u64 (loOf u)]] w fun e w' => e = .returned (.agg (row u)) ∧ Below w.heap.size w w' := by
  have := bitsOf_any (hiOf u) (loOf u) (loOf_lt u) w
  rw [num_of] at this
  exact this
theorem intW (n : Int) (h0 : -9223372036854775808 ≤ n) (h1 : n ≤ 9223372036854775807) (w : World) :
    Calls Try.prog 20 #[.int .i64 n] w fun e w' => e = .returned (.agg (row (BitVec.ofInt 128 n))) ∧ Below w.heap.size w w' := by
  have := int_any n (n % 18446744073709551616).toNat (by omega) (by rw [IntKind.wrap_u64]; omega) (if n < 0 then -1 else 0) rfl w
  rw [show num (if n < 0 then -1 else 0) ((n % 18446744073709551616).toNat : Nat) = BitVec.ofInt 128 n by
    unfold num
    congr 1
    split <;> omega] at this
  exact this
theorem sum3_sub (u v : BitVec 128) : sum3 u (~~~v) true = u - v := by
  unfold sum3
  rw [show BitVec.setWidth 128 (BitVec.ofBool true) = 1#128 by decide, BitVec.sub_eq_add_neg, BitVec.neg_eq_not_add, BitVec.add_assoc]
theorem sum3_neg (u : BitVec 128) : sum3 (~~~u) 0 true = -u := by
  unfold sum3
  rw [show BitVec.setWidth 128 (BitVec.ofBool true) = 1#128 by decide, BitVec.neg_eq_not_add, show (0 : BitVec 128) = 0#128 from rfl, BitVec.add_zero]
theorem addW (u v : BitVec 128) (w : World) : Calls Try.prog 12 #[.agg (row u), .agg (row v), .bool false] w fun e w' => e = .returned (.agg (row (u + v))) ∧ Below w.heap.size w w' := by
  have := add_any u v false w; rw [sum3_plain] at this; exact this
theorem subW (u v : BitVec 128) (w : World) : Calls Try.prog 14 #[.agg (row u), .agg (row v)] w fun e w' => e = .returned (.agg (row (u - v))) ∧ Below w.heap.size w w' := by
  have := sub_any u v w; rw [sum3_sub] at this; exact this
theorem negW (u : BitVec 128) (w : World) : Calls Try.prog 16 #[.agg (row u)] w fun e w' => e = .returned (.agg (row (-u))) ∧ Below w.heap.size w w' := by
  have := neg_any u w; rw [sum3_neg] at this; exact this

/-- '==' of two rows. -/
theorem all_same (u v : BitVec 128) : ((List.range' 0 128 1).all fun i => u.getLsbD i == v.getLsbD i) = decide (u = v) := by
  rw [Bool.eq_iff_iff]
  simp only [List.all_eq_true, beq_iff_eq, decide_eq_true_eq]
  constructor
  · intro h
    apply BitVec.eq_of_getLsbD_eq
    intro i hi
    exact h i (List.mem_range'_1.2 ⟨by omega, by omega⟩)
  · rintro rfl _ _; rfl
theorem run_equalIn_row (d : Nat) (u v : BitVec 128) (w : World) : (Op.equalIn (d + 2) 25 (.agg (row u)) (.agg (row v))).run Try.prog w = .ok (decide (u = v)) w := by
  have hsz : ∀ w, (sizeOf 4).run Try.prog w = .ok 1 w := fun w => by kernel_rfl
  rw [← all_same, Op.equalIn]
  simp only [Sem.run_bind, run_underlying Try.underlying25, Result.andThen_ok, hsz, Std.Legacy.Range.forIn_eq_forIn_range', Std.Legacy.Range.size, Nat.sub_zero, Nat.add_sub_cancel, Nat.div_one]
  have hl : ∀ i ∈ List.range' 0 128 1, i < 128 := fun i hi => by simpa using (List.mem_range'_1.1 hi).2
  generalize List.range' 0 128 1 = l at hl ⊢
  induction l with
  | nil => simp
  | cons i l ih =>
    have hi : i < 128 := hl i (by simp)
    have px : (part 4 (row u) (i * 1)).run Try.prog w = .ok (.bool (u.getLsbD i)) w := by
      simp [part, isAgg, run_underlying Try.underlying4, row_at u i hi]
    have py : (part 4 (row v) (i * 1)).run Try.prog w = .ok (.bool (v.getLsbD i)) w := by
      simp [part, isAgg, run_underlying Try.underlying4, row_at v i hi]
    have pe : (Op.equalIn (d + 1) 4 (.bool (u.getLsbD i)) (.bool (v.getLsbD i))).run Try.prog w = .ok (u.getLsbD i == v.getLsbD i) w := run_equalIn_bool w d _ _ _ Try.underlying4
    simp only [List.forIn_cons, Sem.run_bind, px, py, pe, Result.andThen_ok, List.all_cons]
    cases hb : (u.getLsbD i == v.getLsbD i)
    · simp
    · simp only [Bool.not_true, Bool.false_eq_true, if_false, Sem.run_pure, Result.andThen_ok, Bool.true_and]
      exact ih fun j hj => hl j (by simp [hj])
theorem equal_row (u v : BitVec 128) (w : World) : (Op.equalIn 10000 25 (.agg (row u)) (.agg (row v))).run Try.prog w = .ok (decide (u = v)) w := run_equalIn_row 9998 u v w
#print axioms bitsW
#print axioms num_same
end Go.Proofs.Ytgkgdkdendmfnaa
