/- Contracts of package wide: size, differ, Mul. -/
import Derived.Test.YticoklfgmflidaaDoorWb
namespace Go.Proofs.YticoklfgmflidaaDoor
open Go.RowKit

def sz (n : Int) : Int := if n < 0 then -n else n
theorem size_c (n : Int) (h : I64 n) (w : World) : Calls Tryd.prog 42 #[.int .i64 n] w fun e w' => e = .returned (.int .u64 (sz n)) ∧ w = w' := by
  unfold I64 at h
  by_cases hn : n < 0
  · go_enter Tryd.func42, Tryd.ntmps42
    go_wp2
    go_ret
    refine ⟨retI ?_, rfl⟩
    unfold sz
    rw [if_pos hn]
    simp only [IntKind.wrap_u64]
    omega
  · go_enter Tryd.func42, Tryd.ntmps42
    go_wp2
    go_ret
    refine ⟨retI ?_, rfl⟩
    unfold sz
    rw [if_neg (by omega)]
    try simp only [IntKind.wrap_u64]
    try omega
theorem differ_c (a b : Int) (w : World) : Calls Tryd.prog 43 #[.int .i64 a, .int .i64 b] w fun e w' => e = .returned (.bool (decide (a < 0) != decide (b < 0))) ∧ w = w' := by
  go_enter Tryd.func43, Tryd.ntmps43
  go_wp2
  go_ret
  exact ⟨rfl, rfl⟩
theorem sz_nat (n : Int) (h : I64 n) : ∃ N : Nat, sz n = (N : Int) ∧ N ≤ 9223372036854775808 ∧ (n = N ∧ 0 ≤ n ∨ n = -(N : Int) ∧ n < 0) := by
  unfold I64 at h
  unfold sz
  by_cases hn : n < 0
  · exact ⟨(-n).toNat, by rw [if_pos hn]; omega, by omega, by omega⟩
  · exact ⟨n.toNat, by rw [if_neg hn]; omega, by omega, by omega⟩
/-- The product of two sizes, and of what they are sizes of. -/
theorem sz_prod (a b : Int) (A B : Nat) (ha : a = A ∧ 0 ≤ a ∨ a = -(A : Int) ∧ a < 0) (hb : b = B ∧ 0 ≤ b ∨ b = -(B : Int) ∧ b < 0) :
    (decide (a < 0) != decide (b < 0)) = true ∧ a * b = -((A * B : Nat) : Int) ∨ (decide (a < 0) != decide (b < 0)) = false ∧ a * b = ((A * B : Nat) : Int) := by
  rcases ha with ⟨h1, h2⟩ | ⟨h1, h2⟩ <;> rcases hb with ⟨h3, h4⟩ | ⟨h3, h4⟩
  · right; refine ⟨by rw [decide_eq_false (by omega), decide_eq_false (by omega)]; rfl, by rw [h1, h3]; simp⟩
  · left; refine ⟨by rw [decide_eq_false (by omega), decide_eq_true (by omega)]; rfl, by rw [h1, h3]; simp [Int.mul_neg]⟩
  · left; refine ⟨by rw [decide_eq_true (by omega), decide_eq_false (by omega)]; rfl, by rw [h1, h3]; simp [Int.neg_mul]⟩
  · right; refine ⟨by rw [decide_eq_true (by omega), decide_eq_true (by omega)]; rfl, by rw [h1, h3, Int.neg_mul_neg]; simp⟩
theorem prod_lt {A B : Nat} (ha : A ≤ 9223372036854775808) (hb : B ≤ 9223372036854775808) : A * B ≤ 85070591730234615865843651857942052864 := Nat.mul_le_mul ha hb
theorem mul_mod (a b : Int) (ha : I64 a) (hb : I64 b) : (ofI a * ofI b).toInt % 340282366920938463463374607431768211456 = a * b % 340282366920938463463374607431768211456 := by
  rw [toInt_mul_mod, ofI_toInt a ha, ofI_toInt b hb]
set_option maxRecDepth 100000 in
set_option maxHeartbeats 400000 in
theorem mul_c (a b : Int) (w : World) (ha : I64 a) (hb : I64 b) : Calls Tryd.prog 30 #[.int .i64 a, .int .i64 b] w fun e w' => e = .returned (.agg #[.int .i64 (hiOf (ofI a * ofI b)), .int .u64 (loOf (ofI a * ofI b))]) ∧ Below w.heap.size w w' := by
  have HA := Lib.hid (size_c a ha)
  have HB := Lib.hid (size_c b hb)
  have HD := Lib.hid (differ_c a b)
  obtain ⟨A, eA, lA, sA⟩ := sz_nat a ha
  obtain ⟨B, eB, lB, sB⟩ := sz_nat b hb
  have hp := prod_lt lA lB
  have hq := sz_prod a b A B sA sB
  have hm := mul_mod a b ha hb
  rw [eA] at HA
  rw [eB] at HB
  have HM := Lib.hid (mul64_any A B (by omega) (by omega))
  clear ha hb eA eB lA lB sA sB
  generalize ofI a * ofI b = u at *
  generalize A * B = C at *
  have w1 : wrap64 ((C : Int) / 18446744073709551616) = (C : Int) / 18446744073709551616 := by unfold wrap64; omega
  rcases hq with ⟨q1, q2⟩ | ⟨q1, q2⟩
  · have HN := Lib.hid (neg_c (-u))
    have hC := halves (-u) ((C : Int) / 18446744073709551616) ((C : Int) % 18446744073709551616) (by omega) (by omega) (by omega) (by omega) (by rw [toInt_neg_mod]; omega)
    rw [BitVec.neg_neg, ← hC.1, ← hC.2] at HN
    rw [q1] at HD
    clear q1 q2 hm hC
    go_enter Tryd.func30, Tryd.ntmps30
    go_wp2_with fail
    refine (HA.out _).mono ?_
    rintro e w' ⟨rfl, rfl⟩
    go_wp2_with fail
    refine (HB.out _).mono ?_
    rintro e w' ⟨rfl, rfl⟩
    go_wp2_with fail
    refine (HM.out _).mono ?_
    rintro e w' ⟨rfl, rfl⟩
    go_wp2_with fail
    refine (HD.out _).mono ?_
    rintro e w' ⟨rfl, rfl⟩
    go_wp2_with fail
    refine (HN.out _).mono ?_
    rintro e w2 ⟨rfl, hb⟩
    have m1 : NumAt w2 w.heap.size 0 0 := NumAt.on (B := w.heap.size + 2) (heap_alloc2_old w _ _) (by simpa using hb) (by omega)
    have B1 : Hid (Below w.heap.size w w2) := below_next (((Below.refl _ _).alloc (Nat.le_refl _) _).alloc (by simp) _) hb
    have c0 := m1.c0
    have c1 := m1.c1
    have f0 := m1.free 0
    have f1 := m1.free 1
    have M1 := Lib.hid m1
    clear hb m1
    go_wp2_with fail
    have m2 := M1.out.stored (hiOf u) (loOf u)
    exact bodyPost_ret (results_num 4 rfl rfl m2.c0 m2.c1) rfl ⟨rfl, (B1.out.setCell (Nat.le_refl _) _).setCell (Nat.le_refl _) _⟩
  · have hC := halves u ((C : Int) / 18446744073709551616) ((C : Int) % 18446744073709551616) (by omega) (by omega) (by omega) (by omega) (by omega)
    rw [q1] at HD
    clear q1 q2 hm
    go_enter Tryd.func30, Tryd.ntmps30
    go_wp2_with fail
    refine (HA.out _).mono ?_
    rintro e w' ⟨rfl, rfl⟩
    go_wp2_with fail
    refine (HB.out _).mono ?_
    rintro e w' ⟨rfl, rfl⟩
    go_wp2_with fail
    refine (HM.out _).mono ?_
    rintro e w' ⟨rfl, rfl⟩
    go_wp2_with fail
    refine (HD.out _).mono ?_
    rintro e w' ⟨rfl, rfl⟩
    go_wp2_with fail
    go_returns
    exact ⟨rfl, by go_grown⟩
end Go.Proofs.YticoklfgmflidaaDoor

