/- Layer 10: the law PaintOf. -/
import Derived.Test.YtcbldamlfjkppaaPh
namespace Go.Proofs.Ytcbldamlfjkppaa
open Go.RowKit
set_option maxHeartbeats 2000000 in
set_option maxRecDepth 100000 in
theorem paintOf_law (P : PaintOk) (a b : Int) (w : World) : Calls Try.prog 3 #[.int .i64 a, .int .i64 b] w fun e w' => e = .returned (.bool true) ∧ Below w.heap.size w w' := by
  have HAW := Lib.hid (law_awake_c P)
  by_cases hin : 0 ≤ a ∧ a ≤ 255 ∧ 0 ≤ b ∧ b ≤ 255
  · obtain ⟨v, hv⟩ : ∃ v, ofI a b = v := ⟨_, rfl⟩
    have hb := ofI_in hin.1 hin.2.1 hin.2.2.1 hin.2.2.2
    rw [hv] at hb
    have H1 : Hid (∀ w, Calls Try.prog 10 #[.int .i64 a, .int .i64 b] w fun e w' => e = .returned (.int .i64 v) ∧ Below w.heap.size w w') := fun w => by have h := P.of a b w; unfold ofP at h; rwa [if_pos hin, hv] at h
    have H2 : Hid (∀ w, Calls Try.prog 10 #[.int .i64 b, .int .i64 a] w fun e w' => e = .returned (.int .i64 v) ∧ Below w.heap.size w w') := fun w => by have h := P.of b a w; unfold ofP at h; rwa [if_pos ⟨hin.2.2.1, hin.2.2.2, hin.1, hin.2.1⟩, ofI_comm, hv] at h
    have H3 : Hid (∀ w, Calls Try.prog 10 #[.int .i64 a, .int .i64 255] w fun e w' => e = .returned (.int .i64 a) ∧ Below w.heap.size w w') := fun w => by have h := P.of a 255 w; unfold ofP at h; rwa [if_pos ⟨hin.1, hin.2.1, by decide, by decide⟩, ofI_255] at h
    have H4 : Hid (∀ w, Calls Try.prog 10 #[.int .i64 a, .int .i64 0] w fun e w' => e = .returned (.int .i64 0) ∧ Below w.heap.size w w') := fun w => by have h := P.of a 0 w; unfold ofP at h; rwa [if_pos ⟨hin.1, hin.2.1, by decide, by decide⟩, ofI_0] at h
    have HR : Hid (∀ w, Calls Try.prog 12 #[.int .i64 a, .int .i64 b] w fun e w' => e = .returned (.int .i64 v) ∧ Below w.heap.size w w') := refOfB_c a b v ⟨hin.1, hin.2.1⟩ hin.2.2 hv
    have d1 : decide (a < 0) = false := by simp; omega
    have d2 : decide (a > 255) = false := by simp; omega
    have d3 : decide (b < 0) = false := by simp; omega
    have d4 : decide (b > 255) = false := by simp; omega
    have d5 : decide (v ≤ min a b) = true := by simp; omega
    have q1 : (v == v) = true := by simp
    have q2 : (a == a) = true := by simp
    clear hb hv hin
    go_enter Try.func3, Try.ntmps3
    go_wp2_with fail
    refine (H1.out _).mono ?_
    rintro e w1 ⟨rfl, hb⟩
    have B1 : Hid (Below w.heap.size w w1) := hb
    clear hb
    go_wp2_with fail
    refine (HR.out _).mono ?_
    rintro e w2 ⟨rfl, hb⟩
    have B2 : Hid (Below w.heap.size w w2) := B1.out.trans (hb.mono B1.out.size)
    clear hb
    go_wp2_with fail
    refine (H2.out _).mono ?_
    rintro e w3 ⟨rfl, hb⟩
    have B3 : Hid (Below w.heap.size w w3) := B2.out.trans (hb.mono B2.out.size)
    clear hb
    go_wp2_with fail
    refine (H3.out _).mono ?_
    rintro e w4 ⟨rfl, hb⟩
    have B4 : Hid (Below w.heap.size w w4) := B3.out.trans (hb.mono B3.out.size)
    clear hb
    go_wp2_with fail
    refine (H4.out _).mono ?_
    rintro e w5 ⟨rfl, hb⟩
    have B5 : Hid (Below w.heap.size w w5) := B4.out.trans (hb.mono B4.out.size)
    clear hb
    go_wp2_with fail
    refine (HAW.out _).mono ?_
    rintro e w6 ⟨rfl, hb⟩
    have B6 : Hid (Below w.heap.size w w6) := B5.out.trans (hb.mono B5.out.size)
    clear hb
    go_wp2_with fail
    go_ret
    exact ⟨rfl, B6.out⟩
  · have H1 : Hid (∀ w, Calls Try.prog 10 #[.int .i64 a, .int .i64 b] w fun e w' => e = .returned (.int .i64 0) ∧ Below w.heap.size w w') := fun w => by have h := P.of a b w; unfold ofP at h; rwa [if_neg hin] at h
    have hin2 : a < 0 ∨ a > 255 ∨ b < 0 ∨ b > 255 := by omega
    by_cases y0 : a < 0
    · have d0 : decide (a < 0) = true := by simp; omega
      clear hin hin2 y0
      go_enter Try.func3, Try.ntmps3
      go_wp2_with fail
      refine (H1.out _).mono ?_
      rintro e w1 ⟨rfl, hb⟩
      have B1 : Hid (Below w.heap.size w w1) := hb
      clear hb
      go_wp2_with fail
      refine (HAW.out _).mono ?_
      rintro e w2 ⟨rfl, hb⟩
      have B2 : Hid (Below w.heap.size w w2) := B1.out.trans (hb.mono B1.out.size)
      clear hb
      go_wp2_with fail
      go_ret
      exact ⟨rfl, B2.out⟩
    · have n0 := y0
      clear y0
      by_cases y1 : a > 255
      · have d0 : decide (a < 0) = false := by simp; omega
        have d1 : decide (a > 255) = true := by simp; omega
        clear hin hin2 n0 y1
        go_enter Try.func3, Try.ntmps3
        go_wp2_with fail
        refine (H1.out _).mono ?_
        rintro e w1 ⟨rfl, hb⟩
        have B1 : Hid (Below w.heap.size w w1) := hb
        clear hb
        go_wp2_with fail
        refine (HAW.out _).mono ?_
        rintro e w2 ⟨rfl, hb⟩
        have B2 : Hid (Below w.heap.size w w2) := B1.out.trans (hb.mono B1.out.size)
        clear hb
        go_wp2_with fail
        go_ret
        exact ⟨rfl, B2.out⟩
      · have n1 := y1
        clear y1
        by_cases y2 : b < 0
        · have d0 : decide (a < 0) = false := by simp; omega
          have d1 : decide (a > 255) = false := by simp; omega
          have d2 : decide (b < 0) = true := by simp; omega
          clear hin hin2 n0 n1 y2
          go_enter Try.func3, Try.ntmps3
          go_wp2_with fail
          refine (H1.out _).mono ?_
          rintro e w1 ⟨rfl, hb⟩
          have B1 : Hid (Below w.heap.size w w1) := hb
          clear hb
          go_wp2_with fail
          refine (HAW.out _).mono ?_
          rintro e w2 ⟨rfl, hb⟩
          have B2 : Hid (Below w.heap.size w w2) := B1.out.trans (hb.mono B1.out.size)
          clear hb
          go_wp2_with fail
          go_ret
          exact ⟨rfl, B2.out⟩
        · have n2 := y2
          clear y2
          have d0 : decide (a < 0) = false := by simp; omega
          have d1 : decide (a > 255) = false := by simp; omega
          have d2 : decide (b < 0) = false := by simp; omega
          have d3 : decide (b > 255) = true := by simp; omega
          clear hin hin2 n0 n1 n2
          go_enter Try.func3, Try.ntmps3
          go_wp2_with fail
          refine (H1.out _).mono ?_
          rintro e w1 ⟨rfl, hb⟩
          have B1 : Hid (Below w.heap.size w w1) := hb
          clear hb
          go_wp2_with fail
          refine (HAW.out _).mono ?_
          rintro e w2 ⟨rfl, hb⟩
          have B2 : Hid (Below w.heap.size w w2) := B1.out.trans (hb.mono B1.out.size)
          clear hb
          go_wp2_with fail
          go_ret
          exact ⟨rfl, B2.out⟩
end Go.Proofs.Ytcbldamlfjkppaa
