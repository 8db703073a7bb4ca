/- The law of P2.3: arithmetic, and its first arms. -/
import Derived.Test.YtgkgdkdendmfnaaYn
namespace Go.Proofs.Ytgkgdkdendmfnaa
open Go.RowKit
/-- A quotient rounded down, and its rest. -/
theorem floor_facts (x d : Int) : x = x.fdiv d * d + x.fmod d ∧ (0 < d → 0 ≤ x.fmod d ∧ x.fmod d < d) ∧ (d < 0 → d < x.fmod d ∧ x.fmod d ≤ 0) := by
  have h1 := Int.fmod_add_mul_fdiv x d
  rw [Int.mul_comm] at h1
  refine ⟨by omega, fun hd => ⟨Int.fmod_nonneg_of_pos x hd, Int.fmod_lt_of_pos x hd⟩, fun hd => ?_⟩
  have h2 := Int.neg_fdiv_neg x d
  have h3 := Int.fmod_add_mul_fdiv (-x) (-d)
  have h4 := Int.fmod_nonneg_of_pos (-x) (show 0 < -d by omega)
  have h5 := Int.fmod_lt_of_pos (-x) (show 0 < -d by omega)
  rw [h2, Int.neg_mul, Int.mul_comm] at h3
  omega
theorem big_neg (x d : Int) (hd : d < 0) (h : fits (x.fdiv d) = false) : x ≤ 9223372036854775808 * d ∨ -9223372036854775808 * d < x := by
  obtain ⟨h1, h2, h3⟩ := floor_facts x d
  obtain ⟨h4, h5⟩ := h3 hd
  have hf : ¬ (-9223372036854775808 ≤ x.fdiv d ∧ x.fdiv d ≤ 9223372036854775807) := fun hh => by rw [fits_iff.2 hh] at h; cases h
  generalize x.fdiv d = F at *
  generalize x.fmod d = m at *
  rcases Int.lt_or_le F (-9223372036854775808) with hF | hF
  · right
    have := Int.mul_le_mul_of_nonpos_right (show F ≤ -9223372036854775809 by omega) (show d ≤ 0 by omega)
    omega
  · left
    have := Int.mul_le_mul_of_nonpos_right (show 9223372036854775808 ≤ F by omega) (show d ≤ 0 by omega)
    omega
theorem big_pos (x d : Int) (hd : 0 < d) (h : fits (x.fdiv d) = false) : 9223372036854775808 * d ≤ x ∨ x < -9223372036854775808 * d := by
  obtain ⟨h1, h2, h3⟩ := floor_facts x d
  obtain ⟨h4, h5⟩ := h2 hd
  have hf : ¬ (-9223372036854775808 ≤ x.fdiv d ∧ x.fdiv d ≤ 9223372036854775807) := fun hh => by rw [fits_iff.2 hh] at h; cases h
  generalize x.fdiv d = F at *
  generalize x.fmod d = m at *
  rcases Int.lt_or_le F (-9223372036854775808) with hF | hF
  · right
    have := Int.mul_le_mul_of_nonneg_right (show F ≤ -9223372036854775809 by omega) (show 0 ≤ d by omega)
    omega
  · left
    have := Int.mul_le_mul_of_nonneg_right (show 9223372036854775808 ≤ F by omega) (show 0 ≤ d by omega)
    omega
theorem NumAt.lt {w : World} {g : Nat} {hi lo : Int} (h : NumAt w g hi lo) : g < w.heap.size := by
  rcases Nat.lt_or_ge g w.heap.size with hl | hl
  · exact hl
  · unfold NumAt at h; rw [Array.getElem?_eq_none hl] at h; cases h
theorem NumAt.keep {w w' : World} {g : Nat} {hi lo : Int} (h : NumAt w g hi lo) (hb : Below w.heap.size w w') : NumAt w' g hi lo := h.on hb h.lt
theorem NumAt.alloc {w : World} {g : Nat} {hi lo : Int} (h : NumAt w g hi lo) (o : Obj) : NumAt (w.alloc o) g hi lo := by
  unfold NumAt; rw [heap_alloc_old _ _ h.lt]; exact h
theorem NumAt.new (w : World) (hi lo : Int) : NumAt (w.alloc (.cells #[.int .i64 hi, .int .u64 lo] 24)) w.heap.size hi lo := heap_alloc_last _ _
theorem awakeL (w : World) : Calls Try.prog 17 #[] w fun e w' => e = .returned (.bool true) ∧ Below w.heap.size w w' := awake_any wideOk w
set_option maxHeartbeats 1000000 in
theorem quot_zero (a b : Int) (w : World) (ha : I64 a) (hb : I64 b) :
    Calls Try.prog 7 #[.int .i64 a, .int .i64 b, .int .i64 0] w fun e w' => e = .returned (.bool true) ∧ Below w.heap.size w w' := by
  have HM := Lib.hid fun w => muldiv_c a b 0 w ha hb (by unfold I64; omega)
  rw [show divOf a b 0 = .returned (.tuple #[.int .i64 0, .bool false, .int .i64 11]) from rfl] at HM
  go_enter Try.func7, Try.ntmps7
  go_wp2_with fail
  refine (HM.out _).mono ?_
  rintro e w1 ⟨rfl, hb1⟩
  have B1 := Lib.hid hb1
  clear hb1
  go_wp2_with fail
  refine (awakeL _).mono ?_
  rintro e w2 ⟨rfl, hb2⟩
  have B2 := Lib.hid hb2
  clear hb2
  go_wp2_with fail
  go_ret
  exact ⟨rfl, below_next B1.out B2.out⟩
/-- The answers of the law's own calls where the quotient is no int. -/
theorem over_facts (a b d : Int) (ha : I64 a) (hb : I64 b) (hd : I64 d) : (ofI a * ofI b).toInt = a * b ∧ (ofI 9223372036854775807 * ofI d + ofI d).toInt = 9223372036854775808 * d ∧ (ofI (-9223372036854775808) * ofI d).toInt = -9223372036854775808 * d := by
  have h1 := mul_mod a b ha hb
  have h2 := mul_mod 9223372036854775807 d (by unfold I64; omega) hd
  have h3 := mul_mod (-9223372036854775808) d (by unfold I64; omega) hd
  have h4 := toInt_add_mod (ofI 9223372036854775807 * ofI d) (ofI d)
  rw [ofI_toInt d hd] at h4
  have b1 := toInt_bounds (ofI a * ofI b)
  have b2 := toInt_bounds (ofI 9223372036854775807 * ofI d + ofI d)
  have b3 := toInt_bounds (ofI (-9223372036854775808) * ofI d)
  obtain ⟨A, _, lA, sA⟩ := sz_nat a ha
  obtain ⟨B, _, lB, sB⟩ := sz_nat b hb
  have hp := prod_lt lA lB
  have hs := sz_prod a b A B sA sB
  unfold I64 at hd
  generalize a * b = x at *
  generalize A * B = y at *
  refine ⟨?_, ?_, ?_⟩
  · rcases hs with ⟨_, h⟩ | ⟨_, h⟩ <;> omega
  · omega
  · omega
end Go.Proofs.Ytgkgdkdendmfnaa
