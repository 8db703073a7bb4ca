/- Layer 7: small functions: points added and taken away, what a pen is, quotients; the statements' at, ref, in. -/
import Derived.Test.YtclkkdhfdoidfaaV
import Derived.Test.YtclkkdhfdoidfaaWe
import Derived.Test.YtclkkdhfdoidfaaM
namespace Go.Proofs.Ytclkkdhfdoidfaa
open Go.RowKit
def addP (p q : Pt) : Pt := (p.1 + q.1, p.2 + q.2)
def subP (p q : Pt) : Pt := (p.1 - q.1, p.2 - q.2)
/-- The rooms of differences and sums: far from the ends of an int. -/
def mid62 (p : Pt) : Prop := -2305843009213693952 ≤ p.1 ∧ p.1 ≤ 2305843009213693952 ∧ -2305843009213693952 ≤ p.2 ∧ p.2 ≤ 2305843009213693952
theorem at_c (x y : Int) (w : World) : Calls Try.prog 31 #[.int .i64 x, .int .i64 y] w fun e w' => e = .returned (.agg #[.int .i64 x, .int .i64 y]) ∧ Below w.heap.size w w' := by
  go_enter Try.func31, Try.ntmps31
  go_wp2
  go_returns
  exact ⟨rfl, by go_grown⟩
theorem ref1_c (x y : Int) (w : World) : Calls Try.prog 17 #[.agg #[.int .i64 x, .int .i64 y]] w fun e w' => e = .returned (.agg #[.int .i64 x, .int .i64 y]) ∧ Below w.heap.size w w' := by
  go_enter Try.func17, Try.ntmps17
  go_wp2
  go_returns
  exact ⟨rfl, by go_grown⟩
theorem lawIn_c (x y : Int) (w : World) : Calls Try.prog 15 #[.agg #[.int .i64 x, .int .i64 y]] w fun e w' => e = .returned (.bool (roomP (x, y))) ∧ Below w.heap.size w w' := by
  have HX := Lib.hid (refIn_c x)
  have HY := Lib.hid (refIn_c y)
  cases hx : room x
  · rw [hx] at HX
    go_enter Try.func15, Try.ntmps15
    go_wp2_with fail
    refine (HX.out _).mono ?_
    rintro e w' ⟨rfl, rfl⟩
    go_wp2_with fail
    go_ret
    exact ⟨retB (by unfold roomP; simp [hx]), by go_grown⟩
  · rw [hx] at HX
    go_enter Try.func15, Try.ntmps15
    go_wp2_with fail
    refine (HX.out _).mono ?_
    rintro e w' ⟨rfl, rfl⟩
    go_wp2_with fail
    refine (HY.out _).mono ?_
    rintro e w' ⟨rfl, rfl⟩
    go_wp2_with fail
    go_ret
    exact ⟨retB (by unfold roomP; simp [hx]), by go_grown⟩
def penB (h : Int) : Bool := decide (1 ≤ h) && decide (h ≤ 32768)
theorem penB_iff {h : Int} : penB h = true ↔ 1 ≤ h ∧ h ≤ 32768 := by simp [penB]
/-- A quotient, to the nearest whole number; of two the greater. -/
def qI (n d : Int) : Int := (2 * n + d) / (2 * d)
theorem rnd_qI (n d : Int) (hd : 0 < d) : rnd n d = qI n d := by
  unfold rnd qI
  obtain ⟨q, r, hq, hr, h1, h2⟩ : ∃ q r, n / d = q ∧ n % d = r ∧ 0 ≤ r ∧ r < d := ⟨_, _, rfl, rfl, Int.emod_nonneg _ (by omega), Int.emod_lt_of_pos _ hd⟩
  have hn : n = d * q + r := by have := Int.mul_ediv_add_emod n d; rw [hq, hr] at this; omega
  rw [hq, hr]
  have key : 2 * n + d = (2 * r + d) + (2 * d) * q := by rw [hn, Int.mul_add, ← Int.mul_assoc]; omega
  rw [key, Int.add_mul_ediv_left _ _ (by omega)]
  by_cases h : d - r ≤ r
  · rw [if_pos h]
    have : (2 * r + d) / (2 * d) = 1 := by
      apply Int.le_antisymm
      · exact Int.lt_add_one_iff.1 (Int.ediv_lt_of_lt_mul (by omega) (by omega))
      · exact (Int.le_ediv_iff_mul_le (by omega)).2 (by omega)
    omega
  · rw [if_neg h, Int.ediv_eq_zero_of_lt (by omega) (by omega)]; omega
set_option maxHeartbeats 1000000 in
theorem quotient_c (n d : Int) (h0 : -2305843009213693952 ≤ n) (h1 : n ≤ 2305843009213693952) (hd : 1 ≤ d) (hd2 : d ≤ 4294967296) (w : World) : Calls Try.prog 52 #[.int .i64 n, .int .i64 d] w fun e w' => e = .returned (.int .i64 (qI n d)) ∧ Below w.heap.size w w' := by
  have hq : -9223372036854775808 ≤ qI n d ∧ qI n d ≤ 9223372036854775807 := by
    have := ediv_abs (2 * n + d) (2 * d) (by omega) 9223372036854775807 (by omega) (by omega) (by omega)
    unfold qI; omega
  have e1 : wrap64 (2 * n) = 2 * n := wrapR _ (by omega) (by omega)
  have e2 : wrap64 (2 * n + d) = 2 * n + d := wrapR _ (by omega) (by omega)
  have e3 : wrap64 (2 * d) = 2 * d := wrapR _ (by omega) (by omega)
  have hM := muldiv_c (2 * n + d) 1 (2 * d) w
  have HM : Hid (∀ w, Calls Try.prog 61 #[.int .i64 (2 * n + d), .int .i64 1, .int .i64 (2 * d)] w fun e w' => e = .returned (.tuple #[.int .i64 (qI n d), .bool (decide ((2 * n + d).fmod (2 * d) = 0)), .int .i64 0]) ∧ Below w.heap.size w w') := fun w => by
    refine (muldiv_c (2 * n + d) 1 (2 * d) w ⟨by omega, by omega⟩ ⟨by omega, by omega⟩ ⟨by omega, by omega⟩).mono ?_
    rintro e w' ⟨rfl, hb⟩
    refine ⟨?_, hb⟩
    unfold divOf
    rw [if_neg (by omega), Int.mul_one, Int.fdiv_eq_ediv_of_nonneg _ (by omega), show (2 * n + d) / (2 * d) = qI n d from rfl, if_pos (fits_iff.2 hq)]
  clear hM hq h0 h1 hd hd2
  generalize decide ((2 * n + d).fmod (2 * d) = 0) = x at HM
  go_enter Try.func52, Try.ntmps52
  go_wp2_with fail
  rw [e1, e2, e3]
  refine (HM.out _).mono ?_
  rintro e w' ⟨rfl, hb⟩
  have HB := Lib.hid hb
  clear hb
  go_wp2_with fail
  go_ret
  exact ⟨rfl, HB.out⟩
end Go.Proofs.Ytclkkdhfdoidfaa

