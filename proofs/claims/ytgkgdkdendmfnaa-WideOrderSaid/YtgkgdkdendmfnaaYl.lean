/- Contracts of package wide: MulDiv. -/
import Derived.Test.YtgkgdkdendmfnaaYk
namespace Go.Proofs.Ytgkgdkdendmfnaa
open Go.RowKit
theorem muldiv_zero (a b : Int) (w : World) : Calls Try.prog 28 #[.int .i64 a, .int .i64 b, .int .i64 0] w fun e w' => e = .returned (.tuple #[.int .i64 0, .bool false, .int .i64 11]) ∧ Below w.heap.size w w' := by
  go_enter Try.func28, Try.ntmps28
  go_wp2_with fail
  go_returns
  exact ⟨rfl, Below.refl _ _⟩
set_option maxRecDepth 100000 in
set_option maxHeartbeats 400000 in
theorem muldiv_over (a b d : Int) (A B D hi lo : Nat) (hd : (d == 0) = false)
    (HA : Hid (∀ w, Calls Try.prog 35 #[.int .i64 a] w fun e w' => e = .returned (.int .u64 (A : Int)) ∧ w = w'))
    (HB : Hid (∀ w, Calls Try.prog 35 #[.int .i64 b] w fun e w' => e = .returned (.int .u64 (B : Int)) ∧ w = w'))
    (HD : Hid (∀ w, Calls Try.prog 35 #[.int .i64 d] w fun e w' => e = .returned (.int .u64 (D : Int)) ∧ w = w'))
    (HM : Hid (∀ w, Calls Try.prog 34 #[.int .u64 A, .int .u64 B] w fun e w' => e = .returned (.tuple #[.int .u64 (hi : Int), .int .u64 (lo : Int)]) ∧ w = w'))
    (hge : (D : Int) ≤ (hi : Int)) (w : World) :
    Calls Try.prog 28 #[.int .i64 a, .int .i64 b, .int .i64 d] w fun e w' => e = .returned (.tuple #[.int .i64 0, .bool false, .int .i64 10]) ∧ Below w.heap.size w w' := by
  have hge2 : decide ((D : Int) ≤ (hi : Int)) = true := by simpa using hge
  go_enter Try.func28, Try.ntmps28
  go_wp2_with fail
  refine (HA.out _).mono ?_
  rintro e w' ⟨rfl, rfl⟩
  go_wp2_with fail
  refine (HB.out _).mono ?_
  rintro e w' ⟨rfl, rfl⟩
  go_wp2_with fail
  refine (HM.out _).mono ?_
  rintro e w' ⟨rfl, rfl⟩
  go_wp2_with fail
  refine (HD.out _).mono ?_
  rintro e w' ⟨rfl, rfl⟩
  go_wp2_with fail
  go_returns
  exact ⟨rfl, Below.refl _ _⟩
set_option maxRecDepth 100000 in
set_option maxHeartbeats 400000 in
theorem muldiv_pos (a b d : Int) (A B D hi lo q r : Nat) (s : Bool) (z : Int) (ft : Bool) (hd : (d == 0) = false)
    (HA : Hid (∀ w, Calls Try.prog 35 #[.int .i64 a] w fun e w' => e = .returned (.int .u64 (A : Int)) ∧ w = w'))
    (HB : Hid (∀ w, Calls Try.prog 35 #[.int .i64 b] w fun e w' => e = .returned (.int .u64 (B : Int)) ∧ w = w'))
    (HD : Hid (∀ w, Calls Try.prog 35 #[.int .i64 d] w fun e w' => e = .returned (.int .u64 (D : Int)) ∧ w = w'))
    (HM : Hid (∀ w, Calls Try.prog 34 #[.int .u64 A, .int .u64 B] w fun e w' => e = .returned (.tuple #[.int .u64 (hi : Int), .int .u64 (lo : Int)]) ∧ w = w'))
    (hge : (hi : Int) < (D : Int))
    (HV : Hid (∀ w, Calls Try.prog 39 #[.int .u64 hi, .int .u64 lo, .int .u64 D] w fun e w' => e = .returned (.tuple #[.int .u64 (q : Int), .int .u64 (r : Int)]) ∧ Below w.heap.size w w'))
    (HF : Hid (∀ w, Calls Try.prog 36 #[.int .i64 a, .int .i64 b] w fun e w' => e = .returned (.bool s) ∧ w = w'))
    (hs : decide (d < 0) = s)
    (HI : Hid (∀ w, Calls Try.prog 23 #[.agg #[.int .i64 0, .int .u64 (q : Int)]] w fun e w' => e = .returned (.tuple #[.int .i64 z, .bool ft]) ∧ Below w.heap.size w w')) (w : World) :
    Calls Try.prog 28 #[.int .i64 a, .int .i64 b, .int .i64 d] w fun e w' => e = (if ft then .returned (.tuple #[.int .i64 z, .bool ((r : Int) == 0), .int .i64 0]) else .returned (.tuple #[.int .i64 0, .bool false, .int .i64 10])) ∧ Below w.heap.size w w' := by
  have hge2 : decide ((D : Int) ≤ (hi : Int)) = false := by simpa using hge
  cases s
  · have hs2 : 0 ≤ d := by simpa using hs
    go_enter Try.func28, Try.ntmps28
    go_wp2_with fail
    refine (HA.out _).mono ?_
    rintro e w' ⟨rfl, rfl⟩
    go_wp2_with fail
    refine (HB.out _).mono ?_
    rintro e w' ⟨rfl, rfl⟩
    go_wp2_with fail
    refine (HM.out _).mono ?_
    rintro e w' ⟨rfl, rfl⟩
    go_wp2_with fail
    refine (HD.out _).mono ?_
    rintro e w' ⟨rfl, rfl⟩
    go_wp2_with fail
    refine (HV.out _).mono ?_
    rintro e w1 ⟨rfl, hb1⟩
    go_wp2_with fail
    refine (HF.out _).mono ?_
    rintro e w' ⟨rfl, rfl⟩
    go_wp2_with fail
    refine (HI.out _).mono ?_
    rintro e w2 ⟨rfl, hb2⟩
    have B2 : Hid (Below w.heap.size w w2) := below_next (below_next hb1 ((Below.refl _ _).alloc (Nat.le_refl _) _)) hb2
    clear hb1 hb2
    cases ft
    · go_wp2_with fail
      go_returns
      exact ⟨rfl, B2.out⟩
    · go_wp2_with fail
      go_returns
      exact ⟨rfl, B2.out⟩
  · have hs2 : d < 0 := by simpa using hs
    go_enter Try.func28, Try.ntmps28
    go_wp2_with fail
    refine (HA.out _).mono ?_
    rintro e w' ⟨rfl, rfl⟩
    go_wp2_with fail
    refine (HB.out _).mono ?_
    rintro e w' ⟨rfl, rfl⟩
    go_wp2_with fail
    refine (HM.out _).mono ?_
    rintro e w' ⟨rfl, rfl⟩
    go_wp2_with fail
    refine (HD.out _).mono ?_
    rintro e w' ⟨rfl, rfl⟩
    go_wp2_with fail
    refine (HV.out _).mono ?_
    rintro e w1 ⟨rfl, hb1⟩
    go_wp2_with fail
    refine (HF.out _).mono ?_
    rintro e w' ⟨rfl, rfl⟩
    go_wp2_with fail
    refine (HI.out _).mono ?_
    rintro e w2 ⟨rfl, hb2⟩
    have B2 : Hid (Below w.heap.size w w2) := below_next (below_next hb1 ((Below.refl _ _).alloc (Nat.le_refl _) _)) hb2
    clear hb1 hb2
    cases ft
    · go_wp2_with fail
      go_returns
      exact ⟨rfl, B2.out⟩
    · go_wp2_with fail
      go_returns
      exact ⟨rfl, B2.out⟩
set_option maxRecDepth 100000 in
set_option maxHeartbeats 400000 in
theorem muldiv_neg (a b d : Int) (A B D hi lo q r : Nat) (s : Bool) (z : Int) (ft : Bool) (hd : (d == 0) = false)
    (HA : Hid (∀ w, Calls Try.prog 35 #[.int .i64 a] w fun e w' => e = .returned (.int .u64 (A : Int)) ∧ w = w'))
    (HB : Hid (∀ w, Calls Try.prog 35 #[.int .i64 b] w fun e w' => e = .returned (.int .u64 (B : Int)) ∧ w = w'))
    (HD : Hid (∀ w, Calls Try.prog 35 #[.int .i64 d] w fun e w' => e = .returned (.int .u64 (D : Int)) ∧ w = w'))
    (HM : Hid (∀ w, Calls Try.prog 34 #[.int .u64 A, .int .u64 B] w fun e w' => e = .returned (.tuple #[.int .u64 (hi : Int), .int .u64 (lo : Int)]) ∧ w = w'))
    (hge : (hi : Int) < (D : Int))
    (HV : Hid (∀ w, Calls Try.prog 39 #[.int .u64 hi, .int .u64 lo, .int .u64 D] w fun e w' => e = .returned (.tuple #[.int .u64 (q : Int), .int .u64 (r : Int)]) ∧ Below w.heap.size w w'))
    (HF : Hid (∀ w, Calls Try.prog 36 #[.int .i64 a, .int .i64 b] w fun e w' => e = .returned (.bool s) ∧ w = w'))
    (hs : decide (d < 0) = !s)
    (vh vl : Int) (HW : Hid (∀ w, Calls Try.prog 40 #[.int .u64 q, .int .u64 r] w fun e w' => e = .returned (.agg #[.int .i64 vh, .int .u64 vl]) ∧ Below w.heap.size w w'))
    (HI : Hid (∀ w, Calls Try.prog 23 #[.agg #[.int .i64 vh, .int .u64 vl]] w fun e w' => e = .returned (.tuple #[.int .i64 z, .bool ft]) ∧ Below w.heap.size w w')) (w : World) :
    Calls Try.prog 28 #[.int .i64 a, .int .i64 b, .int .i64 d] w fun e w' => e = (if ft then .returned (.tuple #[.int .i64 z, .bool ((r : Int) == 0), .int .i64 0]) else .returned (.tuple #[.int .i64 0, .bool false, .int .i64 10])) ∧ Below w.heap.size w w' := by
  have hge2 : decide ((D : Int) ≤ (hi : Int)) = false := by simpa using hge
  cases s
  · have hs2 : d < 0 := by simpa using hs
    go_enter Try.func28, Try.ntmps28
    go_wp2_with fail
    refine (HA.out _).mono ?_
    rintro e w' ⟨rfl, rfl⟩
    go_wp2_with fail
    refine (HB.out _).mono ?_
    rintro e w' ⟨rfl, rfl⟩
    go_wp2_with fail
    refine (HM.out _).mono ?_
    rintro e w' ⟨rfl, rfl⟩
    go_wp2_with fail
    refine (HD.out _).mono ?_
    rintro e w' ⟨rfl, rfl⟩
    go_wp2_with fail
    refine (HV.out _).mono ?_
    rintro e w1 ⟨rfl, hb1⟩
    go_wp2_with fail
    refine (HF.out _).mono ?_
    rintro e w' ⟨rfl, rfl⟩
    go_wp2_with fail
    refine (HW.out _).mono ?_
    rintro e w2 ⟨rfl, hb2⟩
    have m1 : NumAt w2 w1.heap.size 0 (q : Int) := NumAt.on (B := w1.heap.size + 1) (heap_alloc_last w1 _) (by simpa using hb2) (by omega)
    have B1 : Below w.heap.size w w2 := below_next (below_next hb1 ((Below.refl _ _).alloc (Nat.le_refl _) _)) hb2
    have hle : w.heap.size ≤ w1.heap.size := hb1.size
    have B2 : Hid (Below w.heap.size w ((w2.setCell ⟨w1.heap.size, 0, none⟩ (.int .i64 vh)).setCell ⟨w1.heap.size, 1, none⟩ (.int .u64 vl))) := (B1.setCell hle _).setCell hle _
    have c0 := m1.c0
    have c1 := m1.c1
    have f0 := m1.free 0
    have f1 := m1.free 1
    clear hb1 hb2 m1 B1 hle
    go_wp2_with fail
    refine (HI.out _).mono ?_
    rintro e w3 ⟨rfl, hb3⟩
    have B3 : Hid (Below w.heap.size w w3) := below_next B2.out hb3
    clear hb3 B2 c0 c1 f0 f1
    cases ft
    · go_wp2_with fail
      go_returns
      exact ⟨rfl, B3.out⟩
    · go_wp2_with fail
      go_returns
      exact ⟨rfl, B3.out⟩
  · have hs2 : 0 ≤ d := by simpa using hs
    go_enter Try.func28, Try.ntmps28
    go_wp2_with fail
    refine (HA.out _).mono ?_
    rintro e w' ⟨rfl, rfl⟩
    go_wp2_with fail
    refine (HB.out _).mono ?_
    rintro e w' ⟨rfl, rfl⟩
    go_wp2_with fail
    refine (HM.out _).mono ?_
    rintro e w' ⟨rfl, rfl⟩
    go_wp2_with fail
    refine (HD.out _).mono ?_
    rintro e w' ⟨rfl, rfl⟩
    go_wp2_with fail
    refine (HV.out _).mono ?_
    rintro e w1 ⟨rfl, hb1⟩
    go_wp2_with fail
    refine (HF.out _).mono ?_
    rintro e w' ⟨rfl, rfl⟩
    go_wp2_with fail
    refine (HW.out _).mono ?_
    rintro e w2 ⟨rfl, hb2⟩
    have m1 : NumAt w2 w1.heap.size 0 (q : Int) := NumAt.on (B := w1.heap.size + 1) (heap_alloc_last w1 _) (by simpa using hb2) (by omega)
    have B1 : Below w.heap.size w w2 := below_next (below_next hb1 ((Below.refl _ _).alloc (Nat.le_refl _) _)) hb2
    have hle : w.heap.size ≤ w1.heap.size := hb1.size
    have B2 : Hid (Below w.heap.size w ((w2.setCell ⟨w1.heap.size, 0, none⟩ (.int .i64 vh)).setCell ⟨w1.heap.size, 1, none⟩ (.int .u64 vl))) := (B1.setCell hle _).setCell hle _
    have c0 := m1.c0
    have c1 := m1.c1
    have f0 := m1.free 0
    have f1 := m1.free 1
    clear hb1 hb2 m1 B1 hle
    go_wp2_with fail
    refine (HI.out _).mono ?_
    rintro e w3 ⟨rfl, hb3⟩
    have B3 : Hid (Below w.heap.size w w3) := below_next B2.out hb3
    clear hb3 B2 c0 c1 f0 f1
    cases ft
    · go_wp2_with fail
      go_returns
      exact ⟨rfl, B3.out⟩
    · go_wp2_with fail
      go_returns
      exact ⟨rfl, B3.out⟩
end Go.Proofs.Ytgkgdkdendmfnaa
