/- Layer 10: package paint's CheckStops. -/
import Derived.Test.YtcbldamlfjkppaaQg
namespace Go.Proofs.Ytcbldamlfjkppaa
open Go.RowKit
theorem chk_iff (l : List Stp) : ∀ n, chkS l n = true ↔ ∀ k, k < n → stopOk l k = true
  | 0 => by simp [chkS]
  | n + 1 => by
    unfold chkS
    rw [Bool.and_eq_true, chk_iff l n]
    constructor
    · rintro ⟨h1, h2⟩ k hk
      rcases Nat.lt_or_ge k n with h | h
      · exact h1 k h
      · rw [show k = n by omega]; exact h2
    · intro h
      exact ⟨fun k hk => h k (by omega), h n (by omega)⟩
theorem noS_false {p : Stp} : noS p = false ↔ 0 ≤ p.1 ∧ p.1 ≤ 65536 ∧ rightC p.2 = true := by
  unfold noS
  cases rightC p.2 <;> simp <;> omega
theorem okS_is {l : List Stp} {r : Bool} (h1 : 1 ≤ l.length) (h2 : l.length ≤ 16) (hr : r = true ↔ ∀ k, k + 1 < l.length → risesB l k = true) : okS l = (!anyN (fun k => noS (sAt l k)) l.length && r) := by
  unfold okS
  rw [show decide (1 ≤ l.length) = true by simpa using h1, show decide (l.length ≤ 16) = true by simpa using h2, Bool.true_and, Bool.true_and, Bool.eq_iff_iff, chk_iff, Bool.and_eq_true, Bool.not_eq_true', anyN_none, hr]
  constructor
  · intro h
    refine ⟨fun k hk => ?_, fun k hk => ?_⟩
    · obtain ⟨a, b, c, _⟩ := stopOk_iff.1 (h k hk)
      exact noS_false.2 ⟨a, b, c⟩
    · obtain ⟨_, _, _, d⟩ := stopOk_iff.1 (h (k + 1) hk)
      unfold risesB
      rcases d with d | d
      · omega
      · rw [Nat.add_sub_cancel] at d; simpa using d
  · rintro ⟨ha, hb⟩ k hk
    obtain ⟨a, b, c⟩ := noS_false.1 (ha k hk)
    refine stopOk_iff.2 ⟨a, b, c, ?_⟩
    rcases Nat.eq_zero_or_pos k with h | h
    · exact .inl h
    · obtain ⟨j, rfl⟩ : ∃ j, k = j + 1 := ⟨k - 1, by omega⟩
      have := hb j hk
      unfold risesB at this
      rw [Nat.add_sub_cancel]
      exact .inr (by simpa using this)
theorem errS_ok {l : List Stp} (h : okS l = true) : errS l = 0 := by unfold errS; rw [if_pos h]
theorem errS_bad {l : List Stp} (h : okS l = false) : errS l = 30 := by unfold errS; rw [if_neg (by rw [h]; decide)]
set_option maxHeartbeats 2000000 in
set_option maxRecDepth 100000 in
theorem checkStops_c (s : Value) (l : List Stp) (w : World) (row : RowS w s l) (hl : l.length ≤ 100) : Calls Try.prog 29 #[s] w fun e w' => e = .returned (.int .i64 (errS l)) ∧ Below w.heap.size w w' := by
  have HROW := Lib.hid row
  have HC := Lib.hid (fun W (hW : Below w.heap.size w W) => containsNo_c s W l (row.on hW) hl)
  have HSO := Lib.hid (fun W (hW : Below w.heap.size w W) => isSorted_c s W l (row.on hW) hl)
  obtain ⟨ao, c, rfl⟩ := row.shape
  obtain ⟨n, hn⟩ : ∃ n, l.length = n := ⟨_, rfl⟩
  have HN := Lib.hid hn
  by_cases h1 : n < 1
  · have d1 : decide ((n : Int) < 1) = true := by simp; omega
    have hok : okS l = false := by unfold okS; rw [hn, show decide (1 ≤ n) = false by simp; omega]; rfl
    rw [errS_bad hok, hn]
    clear row hl hn h1 hok HC HSO
    go_enter Try.func29, Try.ntmps29
    go_wp2_with fail
    go_ret
    exact ⟨rfl, Below.refl _ _⟩
  · have d1 : decide ((n : Int) < 1) = false := by simp; omega
    by_cases h2 : 16 < n
    · have d2 : decide ((n : Int) > 16) = true := by simp; omega
      have hok : okS l = false := by unfold okS; rw [hn, show decide (n ≤ 16) = false by simp; omega, Bool.and_false]; rfl
      rw [errS_bad hok, hn]
      clear row hl hn h1 h2 hok HC HSO
      go_enter Try.func29, Try.ntmps29
      go_wp2_with fail
      go_ret
      exact ⟨rfl, Below.refl _ _⟩
    · have d2 : decide ((n : Int) > 16) = false := by simp; omega
      have HI := Lib.hid (fun r hr => okS_is (l := l) (r := r) (by omega) (by omega) hr)
      have h0 : 0 < l.length := by omega
      have HS2 := Lib.hid (fun W hW => HSO.out W hW h0)
      rw [hn] at HC HS2 HI ⊢
      cases ha : anyN (fun k => noS (sAt l k)) n with
      | true =>
        rw [ha] at HC
        have hok : okS l = false := by
          obtain ⟨r, hr⟩ : ∃ r : Bool, r = true ↔ ∀ k, k + 1 < n → risesB l k = true := by
            by_cases h : ∀ k, k + 1 < n → risesB l k = true
            · exact ⟨true, fun _ => h, fun _ => rfl⟩
            · exact ⟨false, fun h' => (by cases h'), fun h' => absurd h' h⟩
          rw [HI.out r hr, ha]; rfl
        rw [errS_bad hok]
        clear row hl hn h1 h2 hok HSO HS2 h0 HI ha
        go_enter Try.func29, Try.ntmps29
        go_wp2_with fail
        refine (HC.out w (Below.refl _ _)).mono ?_
        rintro e w1 ⟨rfl, hb⟩
        have B1 := Lib.hid hb
        clear hb
        go_wp2_with fail
        go_ret
        exact ⟨rfl, B1.out⟩
      | false =>
        rw [ha] at HC
        have HX : Hid (∀ r : Bool, (r = true ↔ ∀ k, k + 1 < n → risesB l k = true) → errS l = if r then 0 else 30) := Lib.hid (fun r hr => by
          have := HI.out r hr
          rw [ha] at this
          cases r
          · rw [errS_bad this]; rfl
          · rw [errS_ok this]; rfl)
        clear row hl hn h1 h2 HSO h0 HI ha
        go_enter Try.func29, Try.ntmps29
        go_wp2_with fail
        refine (HC.out w (Below.refl _ _)).mono ?_
        rintro e w1 ⟨rfl, hb⟩
        have B1 := Lib.hid hb
        clear hb
        go_wp2_with fail
        refine (HS2.out w1 B1.out).mono ?_
        rintro e w2 ⟨r, rfl, hr, hb⟩
        have B2 : Hid (Below w.heap.size w w2) := B1.out.trans (hb.mono B1.out.size)
        have HE := Lib.hid (HX.out r hr)
        clear hb hr HX
        cases r
        · go_wp2_with fail
          go_ret
          exact ⟨by rw [HE.out]; rfl, B2.out⟩
        · go_wp2_with fail
          go_ret
          exact ⟨by rw [HE.out]; rfl, B2.out⟩
end Go.Proofs.Ytcbldamlfjkppaa
