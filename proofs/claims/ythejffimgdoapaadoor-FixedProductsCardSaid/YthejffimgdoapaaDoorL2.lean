/- The laws of P1.1, as contracts: each returns true, for every input. -/
import Derived.Test.YthejffimgdoapaaDoorC
namespace Go.Proofs.YthejffimgdoapaaDoor
open Go.RowKit
set_option maxHeartbeats 2000000 in
theorem sums_law (a : Int) (_h0 : -9223372036854775808 ≤ a) (_h1 : a ≤ 9223372036854775807) (b : Int) (_k0 : -9223372036854775808 ≤ b) (_k1 : b ≤ 9223372036854775807) (w : World) (ht : Rd w) :
    Calls Tryd.prog 3 #[.int .i64 a, .int .i64 b] w fun e w' => e = .returned (.bool true) ∧ Below w.heap.size w w' := by
  have Ht := Lib.hid ht; clear ht
  by_cases ha : inB a = true
  · by_cases hb : inB b = true
    · have ba := inB_iff.1 ha; have bb := inB_iff.1 hb
      obtain ⟨a0, a1⟩ := ba; obtain ⟨b0, b1⟩ := bb
      have Ha := Lib.hid ha; have Hb := Lib.hid hb; clear ha hb
      go_enter Tryd.func3, Tryd.ntmps3
      go_wp2_with (first | (go_at_call 9; refine (add_in _ _ _ Ha.out Hb.out).mono ?_; rintro e w' ⟨rfl, rfl⟩; unfold two) | (go_at_call 10; refine (sub_in _ _ _ Ha.out Hb.out).mono ?_; rintro e w' ⟨rfl, rfl⟩; unfold two) | (go_at_call 11; refine (refIn_any _ _).mono ?_; rintro e w' ⟨rfl, rfl⟩; first | rw [Ha.out] | rw [Hb.out]) | (go_at_call 13; refine (in_any _ _).mono ?_; rintro e w' ⟨rfl, rfl⟩; first | rw [Ha.out] | rw [Hb.out]) | (go_at_call 14; refine (is_any _ _).mono ?_; rintro e w' ⟨rfl, rfl⟩) | (go_at_call 12; refine (awake_any _ Ht.out).mono ?_; rintro e w' ⟨rfl, hw⟩; have Hw := Lib.hid hw; clear hw))
      go_ret
      exact ⟨rfl, Hw.out⟩
    · have hb' : inB b = false := by simpa using hb
      have hab : (inB a && inB b) = false := by rw [hb']; simp
      have Ha := Lib.hid ha; have Hb := Lib.hid hb'; have Hab := Lib.hid hab; clear ha hb hb' hab
      go_enter Tryd.func3, Tryd.ntmps3
      go_wp2_with (first | (go_at_call 9; refine (add_out _ _ _ Hab.out).mono ?_; rintro e w' ⟨rfl, rfl⟩; unfold two) | (go_at_call 10; refine (sub_out _ _ _ Hab.out).mono ?_; rintro e w' ⟨rfl, rfl⟩; unfold two) | (go_at_call 11; refine (refIn_any _ _).mono ?_; rintro e w' ⟨rfl, rfl⟩; first | rw [Ha.out] | rw [Hb.out]) | (go_at_call 12; refine (awake_any _ Ht.out).mono ?_; rintro e w' ⟨rfl, hw⟩; have Hw := Lib.hid hw; clear hw))
      go_ret
      exact ⟨rfl, Hw.out⟩
  · have ha' : inB a = false := by simpa using ha
    have hab : (inB a && inB b) = false := by rw [ha']; simp
    have Ha := Lib.hid ha'; have Hab := Lib.hid hab; clear ha ha' hab
    go_enter Tryd.func3, Tryd.ntmps3
    go_wp2_with (first | (go_at_call 9; refine (add_out _ _ _ Hab.out).mono ?_; rintro e w' ⟨rfl, rfl⟩; unfold two) | (go_at_call 10; refine (sub_out _ _ _ Hab.out).mono ?_; rintro e w' ⟨rfl, rfl⟩; unfold two) | (go_at_call 11; refine (refIn_any _ _).mono ?_; rintro e w' ⟨rfl, rfl⟩; rw [Ha.out]) | (go_at_call 12; refine (awake_any _ Ht.out).mono ?_; rintro e w' ⟨rfl, hw⟩; have Hw := Lib.hid hw; clear hw))
    go_ret
    exact ⟨rfl, Hw.out⟩

/-! Products. -/
theorem below_drewN (w : World) (k : Nat) : Below w.heap.size w (w.drewN k) := ⟨rfl, rfl, rfl, Nat.le_refl _, fun _ _ => rfl⟩
set_option maxHeartbeats 2000000 in
theorem products_out (a b : Int) (w : World) (ht : Rd w) (h : (inB a && inB b) = false) :
    Calls Tryd.prog 4 #[.int .i64 a, .int .i64 b] w fun e w' => e = .returned (.bool true) ∧ Below w.heap.size w w' := by
  have Ht := Lib.hid ht; clear ht
  cases ha : inB a
  · have Ha := Lib.hid ha; have Hab := Lib.hid h; clear ha h
    go_enter Tryd.func4, Tryd.ntmps4
    go_wp2_with (first | (go_at_call 15; refine (mul_out _ _ _ Hab.out).mono ?_; rintro e w' ⟨rfl, rfl⟩; unfold two) | (go_at_call 16; refine (div_out _ _ _ Hab.out).mono ?_; rintro e w' ⟨rfl, rfl⟩; unfold two) | (go_at_call 11; refine (refIn_any _ _).mono ?_; rintro e w' ⟨rfl, rfl⟩; rw [Ha.out]) | (go_at_call 12; refine (awake_any _ Ht.out).mono ?_; rintro e w' ⟨rfl, hw⟩; have Hw := Lib.hid hw; clear hw))
    go_ret
    exact ⟨rfl, Hw.out⟩
  · have hb : inB b = false := by simpa [ha] using h
    have Ha := Lib.hid ha; have Hb := Lib.hid hb; have Hab := Lib.hid h; clear ha hb h
    go_enter Tryd.func4, Tryd.ntmps4
    go_wp2_with (first | (go_at_call 15; refine (mul_out _ _ _ Hab.out).mono ?_; rintro e w' ⟨rfl, rfl⟩; unfold two) | (go_at_call 16; refine (div_out _ _ _ Hab.out).mono ?_; rintro e w' ⟨rfl, rfl⟩; unfold two) | (go_at_call 11; refine (refIn_any _ _).mono ?_; rintro e w' ⟨rfl, rfl⟩; first | rw [Ha.out] | rw [Hb.out]) | (go_at_call 12; refine (awake_any _ Ht.out).mono ?_; rintro e w' ⟨rfl, hw⟩; have Hw := Lib.hid hw; clear hw))
    go_ret
    exact ⟨rfl, Hw.out⟩
set_option maxHeartbeats 2000000 in
theorem products_zero (a : Int) (w : World) (ht : Rd w) (ha : inB a = true) :
    Calls Tryd.prog 4 #[.int .i64 a, .int .i64 0] w fun e w' => e = .returned (.bool true) ∧ Below w.heap.size w w' := by
  have Ht := Lib.hid ht; clear ht
  have ba := inB_iff.1 ha
  obtain ⟨a0, a1⟩ := ba
  have Ha := Lib.hid ha; clear ha
  have H0 : Hid (a * 0 = 0) := by unfold Hid; omega
  go_enter Tryd.func4, Tryd.ntmps4
  go_wp2_with (first | (go_at_call 15; refine (mul_in _ _ _ Ha.out rfl).mono ?_; rintro e w' ⟨rfl, rfl⟩; unfold two; rw [H0.out]) | (go_at_call 16; refine (div_zero _ _ Ha.out).mono ?_; rintro e w' ⟨rfl, rfl⟩; unfold two) | (go_at_call 11; refine (refIn_any _ _).mono ?_; rintro e w' ⟨rfl, rfl⟩; first | rw [Ha.out] | rw [show inB 0 = true from rfl]) | (go_at_call 17; refine (round_any _ _ _ (by omega) (by omega) (by omega) (by omega) (by omega) (by omega)).mono ?_; rintro e w' ⟨rfl, rfl⟩) | (go_at_call 14; refine (is_any _ _).mono ?_; rintro e w' ⟨rfl, rfl⟩) | (go_at_call 12; refine (awake_any _ Ht.out).mono ?_; rintro e w' ⟨rfl, hw⟩; have Hw := Lib.hid hw; clear hw))
  go_ret
  exact ⟨rfl, Hw.out⟩
end Go.Proofs.YthejffimgdoapaaDoor
