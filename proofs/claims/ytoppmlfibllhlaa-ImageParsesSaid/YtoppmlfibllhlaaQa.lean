/- Layer 10: package paint's Of, nearest, Right; what the functions answer that it hands to each and join. -/
import Derived.Test.YtoppmlfibllhlaaPh
namespace Go.Proofs.Ytoppmlfibllhlaa
open Go.RowKit
set_option maxHeartbeats 400000 in
theorem isNumber_c (n : Int) (w : World) : Calls Try.prog 67 #[.int .i64 n] w fun e w' => e = .returned (.bool (decide (0 ≤ n) && decide (n ≤ 255))) ∧ w = w' := by
  go_enter Try.func67, Try.ntmps67
  go_wp2
  all_goals go_ret
  all_goals exact ⟨retB (by rw [Bool.eq_iff_iff]; (try simp_all); (try omega)), rfl⟩
theorem nearest_c (n d v : Int) (h0 : 0 ≤ n) (h1 : n ≤ 1099511627776) (d0 : 0 < d) (d1 : d ≤ 1048576) (hv : (2 * n + d) / (2 * d) = v) (w : World) : Calls Try.prog 68 #[.int .i64 n, .int .i64 d] w fun e w' => e = .returned (.int .i64 v) ∧ w = w' := by
  have e1 : wrap64 (2 * n) = 2 * n := wrapR _ (by omega) (by omega)
  have e2 : wrap64 (2 * n + d) = 2 * n + d := wrapR _ (by omega) (by omega)
  have e3 : wrap64 (2 * d) = 2 * d := wrapR _ (by omega) (by omega)
  have e4 : (2 * n + d).tdiv (2 * d) = v := by rw [(tdiv_pos _ _ (by omega)).1, hv]
  have hv0 : 0 ≤ v := by rw [← hv]; exact Int.ediv_nonneg (by omega) (by omega)
  have hv1 : v ≤ 2 * n + d := by rw [← hv]; exact Int.ediv_le_self _ (by omega)
  have e5 : wrap64 v = v := wrapR _ (by omega) (by omega)
  have hz : ¬ (2 * d = 0) := by omega
  have hz2 : ¬ (d = 0) := by omega
  clear hv hv0 hv1 h0 h1 d0 d1
  go_enter Try.func68, Try.ntmps68
  go_wp2
  go_ret
  exact ⟨by show Ending.returned (.int .i64 (wrap64 v)) = _; rw [e5], rfl⟩
theorem of_255 (a b : Int) : (2 * (a * b) + 255) / (2 * 255) = ofI a b := rfl
theorem pOf_c (a b v : Int) (hv : ofP a b = v) (w : World) : Calls Try.prog 57 #[.int .i64 a, .int .i64 b] w fun e w' => e = .returned (.int .i64 v) ∧ w = w' := by
  have HA := Lib.hid (isNumber_c a)
  have HB := Lib.hid (isNumber_c b)
  by_cases ha : 0 ≤ a ∧ a ≤ 255
  · have ea : (decide (0 ≤ a) && decide (a ≤ 255)) = true := by simp; omega
    rw [ea] at HA
    by_cases hb : 0 ≤ b ∧ b ≤ 255
    · have eb : (decide (0 ≤ b) && decide (b ≤ 255)) = true := by simp; omega
      rw [eb] at HB
      obtain ⟨p0, p1, p2, p3⟩ := prod_in ha.1 ha.2 hb.1 hb.2
      have e1 : wrap64 (a * b) = a * b := wrapR _ (by omega) (by omega)
      have hv' : ofI a b = v := by rw [← hv]; unfold ofP; rw [if_pos ⟨ha.1, ha.2, hb.1, hb.2⟩]
      have HN := Lib.hid (nearest_c (a * b) 255 v (by omega) (by omega) (by omega) (by omega) hv')
      clear p0 p1 p2 p3 ha hb ea eb hv hv'
      go_enter Try.func57, Try.ntmps57
      go_wp2_with fail
      refine (HA.out _).mono ?_
      rintro e w' ⟨rfl, rfl⟩
      go_wp2_with fail
      refine (HB.out _).mono ?_
      rintro e w' ⟨rfl, rfl⟩
      go_wp2_with fail
      refine (HN.out _).mono ?_
      rintro e w' ⟨rfl, rfl⟩
      go_wp2_with fail
      go_ret
      exact ⟨rfl, rfl⟩
    · have eb : (decide (0 ≤ b) && decide (b ≤ 255)) = false := by rw [Bool.eq_false_iff]; simp; omega
      rw [eb] at HB
      obtain rfl : 0 = v := by rw [← hv]; unfold ofP; rw [if_neg (by omega)]
      clear ha hb ea eb hv
      go_enter Try.func57, Try.ntmps57
      go_wp2_with fail
      refine (HA.out _).mono ?_
      rintro e w' ⟨rfl, rfl⟩
      go_wp2_with fail
      refine (HB.out _).mono ?_
      rintro e w' ⟨rfl, rfl⟩
      go_wp2_with fail
      go_ret
      exact ⟨rfl, rfl⟩
  · have ea : (decide (0 ≤ a) && decide (a ≤ 255)) = false := by rw [Bool.eq_false_iff]; simp; omega
    rw [ea] at HA
    obtain rfl : 0 = v := by rw [← hv]; unfold ofP; rw [if_neg (by omega)]
    clear ha ea hv
    go_enter Try.func57, Try.ntmps57
    go_wp2_with fail
    refine (HA.out _).mono ?_
    rintro e w' ⟨rfl, rfl⟩
    go_wp2_with fail
    go_ret
    exact ⟨rfl, rfl⟩
theorem pOfIn_c (a b v : Int) (ha : byteI a) (hb : byteI b) (hv : ofI a b = v) (w : World) : Calls Try.prog 57 #[.int .i64 a, .int .i64 b] w fun e w' => e = .returned (.int .i64 v) ∧ w = w' :=
  pOf_c a b v (by unfold ofP; rw [if_pos ⟨ha.1, ha.2, hb.1, hb.2⟩]; exact hv) w
set_option maxHeartbeats 1000000 in
theorem pRight_c (c : Col) (w : World) : Calls Try.prog 16 #[.agg #[.int .u8 (c 0), .int .u8 (c 1), .int .u8 (c 2), .int .u8 (c 3)]] w fun e w' => e = .returned (.bool (rightC c)) ∧ Below w.heap.size w w' := by
  have HM : Hid (rightC c = decide (max (max (c 0) (c 1)) (c 2) ≤ c 3)) := by
    unfold rightC Hid
    rw [Bool.eq_iff_iff]; simp; omega
  rw [HM.out]
  generalize c 0 = c0
  generalize c 1 = c1
  generalize c 2 = c2
  generalize c 3 = c3
  clear HM
  go_enter Try.func16, Try.ntmps16
  go_wp2
  all_goals go_ret
  all_goals exact ⟨retB (by rw [Bool.eq_iff_iff]; simp; omega), (Below.refl _ _).alloc (Nat.le_refl _) _⟩
/-- What Fade hands to each. -/
theorem fade1_c (n b v : Int) (g : Nat) (hn : byteI n) (hb : byteI b) (hv : ofI n b = v) (w : World) (hp : w.cell? ⟨g, 0, none⟩ = some (.int .u8 b)) : Calls Try.prog 56 #[.int .i64 n, .pointer (some ⟨g, 0, none⟩)] w fun e w' => e = .returned (.int .i64 v) ∧ w = w' := by
  have HO := Lib.hid (pOfIn_c b n v hb hn (by rw [ofI_comm]; exact hv))
  have e0 := u8_i64 hb.1 hb.2
  clear hn hb hv
  go_enter Try.func56, Try.ntmps56
  go_wp2_with fail
  refine (HO.out _).mono ?_
  rintro e w' ⟨rfl, rfl⟩
  go_wp2_with fail
  go_ret
  exact ⟨rfl, rfl⟩
theorem over1_c (s t r v : Int) (g : Nat) (hs : byteI s) (ht : byteI t) (hr : byteI r) (hv : min (s + ofI r t) 255 = v) (w : World) (hp : w.cell? ⟨g, 0, none⟩ = some (.int .i64 r)) : Calls Try.prog 69 #[.int .i64 s, .int .i64 t, .pointer (some ⟨g, 0, none⟩)] w fun e w' => e = .returned (.int .i64 v) ∧ w = w' := by
  obtain ⟨q0, q1, q2, q3⟩ := ofI_in hr.1 hr.2 ht.1 ht.2
  have HO := Lib.hid (pOfIn_c r t _ hr ht rfl)
  generalize ofI r t = z at *
  have hs0 := hs.1
  have hs1 := hs.2
  have e1 : wrap64 (s + z) = s + z := wrapR _ (by omega) (by omega)
  have HV := Lib.hid hv
  clear hs ht hr hv q0 q1 q2 q3 hs0 hs1
  go_enter Try.func69, Try.ntmps69
  go_wp2_with fail
  refine (HO.out _).mono ?_
  rintro e w' ⟨rfl, rfl⟩
  go_wp2_with fail
  all_goals go_ret
  all_goals exact ⟨by show Ending.returned (.int .i64 (min (s + z) 255)) = _; rw [HV.out], rfl⟩
end Go.Proofs.Ytoppmlfibllhlaa

