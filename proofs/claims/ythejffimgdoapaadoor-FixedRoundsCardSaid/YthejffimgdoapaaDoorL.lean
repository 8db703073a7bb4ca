/- The law of P1.2, as a contract: it returns true, for every input. -/
import Derived.Test.YthejffimgdoapaaDoorC
namespace Go.Proofs.YthejffimgdoapaaDoor
open Go.RowKit
set_option maxHeartbeats 1000000 in
theorem rounds_law (a : Int) (h0 : -9223372036854775808 ≤ a) (h1 : a ≤ 9223372036854775807) (w : World) (ht : Rd w) :
    Calls Tryd.prog 5 #[.int .i64 a] w fun e w' => e = .returned (.bool true) ∧ Below w.heap.size w w' := by
  have Ht := Lib.hid ht; clear ht
  have f0 : a / 256 ≤ rnd a 256 ∧ rnd a 256 ≤ cei a := by rw [rnd_256]; unfold cei; exact ⟨by omega, by omega⟩
  have f3 : a / 256 * 256 = a → cei a = a / 256 := by unfold cei; omega
  have f4 : ¬ a / 256 * 256 = a → cei a = a / 256 + 1 := by unfold cei; omega
  have d0 : -36028797018963968 ≤ a / 256 := by omega
  have d1 : a / 256 ≤ 36028797018963967 := by omega
  obtain ⟨q, hq⟩ : ∃ q, a / 256 = q := ⟨_, rfl⟩
  obtain ⟨R, hR⟩ : ∃ R, rnd a 256 = R := ⟨_, rfl⟩
  obtain ⟨C, hC⟩ : ∃ C, cei a = C := ⟨_, rfl⟩
  rw [hq, hR, hC] at f0
  rw [hq, hC] at f3 f4
  rw [hq] at d0 d1
  obtain ⟨f1, f2⟩ := f0
  have Hq := Lib.hid hq; have HR := Lib.hid hR; have HC := Lib.hid hC
  clear hq hR hC
  by_cases h : q * 256 = a
  · have e1 : (q * 256 != a) = false := by simp [h]
    have e2 : (C == q) = true := by simp [f3 h]
    clear f3 f4 h
    go_enter Tryd.func5, Tryd.ntmps5
    go_wp2_with (first | (go_at_call 18; refine (floor_any _ _).mono ?_; rintro e w' ⟨rfl, rfl⟩; rw [Hq.out]) | (go_at_call 19; refine (ceil_any _ _ h0 h1).mono ?_; rintro e w' ⟨rfl, rfl⟩; rw [HC.out]) | (go_at_call 20; refine (near_any _ _ h0 h1).mono ?_; rintro e w' ⟨rfl, rfl⟩; rw [HR.out]) | (go_at_call 21; refine (below_any _ _ _ h0 h1 (by omega)).mono ?_; rintro e w' ⟨rfl, rfl⟩; rw [Hq.out]) | (go_at_call 17; refine (round_any _ _ _ h0 h1 (by omega) (by omega) (by omega) (by omega)).mono ?_; rintro e w' ⟨rfl, rfl⟩; rw [HR.out]) | (go_at_call 12; refine (awake_any _ Ht.out).mono ?_; rintro e w' ⟨rfl, hb⟩; have Hb := Lib.hid hb; clear hb))
    go_ret
    exact ⟨rfl, Hb.out⟩
  · have e1 : (q * 256 != a) = true := by simp [h]
    have e2 : (C == q + 1) = true := by simp [f4 h]
    clear f3 f4 h
    go_enter Tryd.func5, Tryd.ntmps5
    go_wp2_with (first | (go_at_call 18; refine (floor_any _ _).mono ?_; rintro e w' ⟨rfl, rfl⟩; rw [Hq.out]) | (go_at_call 19; refine (ceil_any _ _ h0 h1).mono ?_; rintro e w' ⟨rfl, rfl⟩; rw [HC.out]) | (go_at_call 20; refine (near_any _ _ h0 h1).mono ?_; rintro e w' ⟨rfl, rfl⟩; rw [HR.out]) | (go_at_call 21; refine (below_any _ _ _ h0 h1 (by omega)).mono ?_; rintro e w' ⟨rfl, rfl⟩; rw [Hq.out]) | (go_at_call 17; refine (round_any _ _ _ h0 h1 (by omega) (by omega) (by omega) (by omega)).mono ?_; rintro e w' ⟨rfl, rfl⟩; rw [HR.out]) | (go_at_call 12; refine (awake_any _ Ht.out).mono ?_; rintro e w' ⟨rfl, hb⟩; have Hb := Lib.hid hb; clear hb))
    go_ret
    exact ⟨rfl, Hb.out⟩
end Go.Proofs.YthejffimgdoapaaDoor
