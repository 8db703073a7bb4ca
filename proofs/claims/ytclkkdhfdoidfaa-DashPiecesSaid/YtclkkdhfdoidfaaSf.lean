/- Layer 7: the document's Root, Long, Steps. -/
import Derived.Test.YtclkkdhfdoidfaaSc
namespace Go.Proofs.Ytclkkdhfdoidfaa
open Go.RowKit
set_option maxHeartbeats 1000000 in
set_option maxRecDepth 100000 in
theorem refRoot_c (n r : Int) (hr : isRoot n r) (hn : n ≤ 1152921504606846976) (w : World) : Calls Try.prog 39 #[.int .i64 n] w fun e w' => e = .returned (.int .i64 r) ∧ w = w' := by
  have h0 : 0 ≤ n := by
    have := hr.2.2.1
    have h2 := Int.mul_nonneg hr.1 hr.1
    omega
  obtain ⟨N, rfl⟩ := Int.eq_ofNat_of_zero_le h0
  have HR := Lib.hid hr
  have HN : Hid (N ≤ 1152921504606846976) := by unfold Hid; omega
  clear hr hn h0
  go_enter Try.func39, Try.ntmps39
  go_wp2_with fail
  go_loopw [3, 4] (fun x y wr => ∃ lo hi : Nat, x = .int .i64 (lo : Int) ∧ y = .int .i64 (hi : Int) ∧ lo < hi ∧ hi ≤ 1073741825 ∧ Hid (lo * lo ≤ N ∧ N < hi * hi ∧ w = wr)) (fun x y _ => (intOf y).toNat - (intOf x).toNat)
  case atStart =>
    refine ⟨0, 1073741825, rfl, rfl, by decide, by decide, by omega, ?_, rfl⟩
    have := HN.out
    omega
  case round =>
    obtain ⟨lo, hi, rfl, rfl, hlt, hhi, hw⟩ := hrel
    obtain ⟨D, hD⟩ : ∃ D : Int, wrap64 ((hi : Int) - (lo : Int)) = D := ⟨_, rfl⟩
    have hD2 : D = (hi : Int) - (lo : Int) := by rw [← hD]; exact wrapR _ (by omega) (by omega)
    by_cases h1 : 1 < hi - lo
    · have hd : decide (D > 1) = true := by simp only [decide_eq_true_eq]; omega
      clear hD2
      obtain ⟨m, hm⟩ : ∃ m, (lo + hi) / 2 = m := ⟨_, rfl⟩
      have e1 : wrap64 ((wrap64 ((lo : Int) + (hi : Int))).tdiv 2) = (m : Int) := by
        rw [wrapR ((lo : Int) + (hi : Int)) (by omega) (by omega), Int.tdiv_eq_ediv_of_nonneg (by omega)]
        rw [wrapR _ (by omega) (by omega)]; omega
      have hmm : m * m ≤ 1073741825 * 1073741825 := Nat.mul_le_mul (by omega) (by omega)
      obtain ⟨M, hM⟩ : ∃ M : Int, ((m * m : Nat) : Int) = M := ⟨_, rfl⟩
      have e3 : wrap64 ((m : Int) * (m : Int)) = M := by
        rw [← Int.natCast_mul, ← hM]; exact wrapR _ (by omega) (by omega)
      have HM := Lib.hid hm
      have HH := Lib.hid (And.intro hlt (And.intro hhi h1))
      clear hm hmm hlt hhi h1
      by_cases hle : m * m ≤ N
      · have hd2 : decide (M ≤ (N : Int)) = true := by simp only [decide_eq_true_eq]; omega
        have HLE := Lib.hid hle
        clear hle hM
        go_wp2_with fail
        simp only [e1]
        refine ⟨⟨m, hi, rfl, rfl, by have := HM.out; have := HH.out; omega, by have := HH.out; omega, HLE.out, hw.out.2⟩, ?_⟩
        have := HM.out
        have := HH.out
        simp only [intOf, Int.toNat_natCast]; omega
      · have hd2 : decide (M ≤ (N : Int)) = false := by simp only [decide_eq_false_iff_not]; omega
        have HLE : Hid (N < m * m) := by unfold Hid; omega
        clear hle hM
        go_wp2_with fail
        simp only [e1]
        refine ⟨⟨lo, m, rfl, rfl, by have := HM.out; have := HH.out; omega, by have := HM.out; have := HH.out; omega, hw.out.1, HLE.out, hw.out.2.2⟩, ?_⟩
        have := HM.out
        have := HH.out
        simp only [intOf, Int.toNat_natCast]; omega
    · have hd : decide (D > 1) = false := by simp only [decide_eq_false_iff_not]; omega
      clear hD2
      have hh : Hid (hi = lo + 1) := by unfold Hid; omega
      clear hlt hhi h1
      go_wp2_with fail
      go_ret
      have e := hh.out
      rw [e] at hw
      have h2 := hw.out.1
      have h3 := HN.out
      have h4 : lo < 4294967296 := by
        rcases Nat.lt_or_ge lo 4294967296 with h | h
        · exact h
        · have := Nat.mul_le_mul h h
          omega
      have hr2 : isRoot (N : Int) (lo : Int) := ⟨by omega, by omega, by exact_mod_cast hw.out.1, by exact_mod_cast hw.out.2.1⟩
      exact ⟨by rw [root_unique HR.out hr2]; rfl, hw.out.2.2⟩
theorem round7_c (n d : Int) (h0 : -2305843009213693952 ≤ n) (h1 : n ≤ 2305843009213693952) (hd : 1 ≤ d) (hd2 : d ≤ 2147483648) (w : World) : Calls Try.prog 40 #[.int .i64 n, .int .i64 d] w fun e w' => e = .returned (.int .i64 (qI n d)) ∧ w = w' := by
  have hb := ediv_abs n d (by omega) 2305843009213693952 h0 h1 (by omega)
  rw [← rnd_qI n d (by omega)]
  exact round_any n d w (by omega) (by omega) hd hd2 (by omega) (by omega)
set_option maxHeartbeats 1000000 in
set_option maxRecDepth 100000 in
theorem long_c (a b : Pt) (ha : roomP a = true) (hb : roomP b = true) (w : World) : Calls Try.prog 16 #[.agg #[.int .i64 a.1, .int .i64 a.2], .agg #[.int .i64 b.1, .int .i64 b.2]] w fun e w' => e = .returned (.bool (!lenB (subP b a))) ∧ Below w.heap.size w w' := by
  rw [roomP_iff] at ha hb
  obtain ⟨ax, ay⟩ := a
  obtain ⟨bx, bY⟩ := b
  simp only at ha hb
  have hx : subP (bx, bY) (ax, ay) = (bx - ax, bY - ay) := rfl
  rw [hx]
  obtain ⟨x, h1⟩ : ∃ x, bx - ax = x := ⟨_, rfl⟩
  obtain ⟨y, h2⟩ : ∃ y, bY - ay = y := ⟨_, rfl⟩
  have e1 : wrap64 (bx - ax) = x := by rw [← h1]; exact wrapR _ (by omega) (by omega)
  have e2 : wrap64 (bY - ay) = y := by rw [← h2]; exact wrapR _ (by omega) (by omega)
  rw [h1, h2]
  clear ha hb hx h1 h2
  go_enter Try.func16, Try.ntmps16
  go_wp2_with fail
  go_quiet (fail)
  simp only [e1, e2]
  clear e1 e2
  by_cases h1 : x > 536870912
  · go_wp2_with fail
    go_ret
    exact ⟨retB (by unfold lenB; simp; omega), below_drewN (by go_grown) _⟩
  by_cases h2 : x < -536870912
  · go_wp2_with fail
    go_ret
    exact ⟨retB (by unfold lenB; simp; omega), below_drewN (by go_grown) _⟩
  by_cases h3 : y > 536870912
  · go_wp2_with fail
    go_ret
    exact ⟨retB (by unfold lenB; simp; omega), below_drewN (by go_grown) _⟩
  by_cases h4 : y < -536870912
  · go_wp2_with fail
    go_ret
    exact ⟨retB (by unfold lenB; simp; omega), below_drewN (by go_grown) _⟩
  · go_wp2_with fail
    go_ret
    exact ⟨retB (by unfold lenB; simp; omega), below_drewN (by go_grown) _⟩
end Go.Proofs.Ytclkkdhfdoidfaa

