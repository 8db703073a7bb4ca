/- Contracts of the four operations of layer 1 (fixed), and of the document's rounding. -/
import Derived.Test.YtbnbglngpgikfaaGreatDoorNa
namespace Go.Proofs.YtbnbglngpgikfaaGreatDoor
open Go.RowKit

/-- What comes out, if it is in room; else nothing, and ErrOverflow. -/
def resN (n : Int) : Int := if inB n then n else 0
def resE (n : Int) : Int := if inB n then 0 else 10
theorem res_in {n : Int} (h : inB n = true) : resN n = n ∧ resE n = 0 := by simp [resN, resE, h]
theorem res_out {n : Int} (h : inB n = false) : resN n = 0 ∧ resE n = 10 := by simp [resN, resE, h]
def twoE (a b : Int) : Ending := .returned (.tuple #[.int .i64 a, .int .i64 b])

set_option maxHeartbeats 400000 in
theorem inRoom_any (n : Int) (w : World) :
    Calls Tryz.prog 88 #[.int .i64 n] w fun e w' => e = twoE (resN n) (resE n) ∧ w = w' := by
  cases h : inB n
  · obtain ⟨e1, e2⟩ := res_out h
    have H1 := Lib.hid e1; have H2 := Lib.hid e2; have Hh := Lib.hid h; clear e1 e2 h
    go_enter Tryz.func88, Tryz.ntmps88
    go_wp2_with (go_at_call 38; refine (in_any _ _).mono ?_; rintro e w' ⟨rfl, rfl⟩; rw [Hh.out])
    go_ret2
    exact ⟨by rw [H1.out, H2.out]; rfl, rfl⟩
  · obtain ⟨e1, e2⟩ := res_in h
    have H1 := Lib.hid e1; have H2 := Lib.hid e2; have Hh := Lib.hid h; clear e1 e2 h
    go_enter Tryz.func88, Tryz.ntmps88
    go_wp2_with (go_at_call 38; refine (in_any _ _).mono ?_; rintro e w' ⟨rfl, rfl⟩; rw [Hh.out])
    go_ret2
    exact ⟨by rw [H1.out, H2.out]; rfl, rfl⟩

set_option maxHeartbeats 400000 in
theorem add_in (a b : Int) (w : World) (ha : inB a = true) (hb : inB b = true) :
    Calls Tryz.prog 74 #[.int .i64 a, .int .i64 b] w fun e w' => e = twoE (resN (a + b)) (resE (a + b)) ∧ w = w' := by
  have ba := inB_iff.1 ha; have bb := inB_iff.1 hb
  obtain ⟨a0, a1⟩ := ba; obtain ⟨b0, b1⟩ := bb
  have Hh : Hid ((inB a && inB b) = true) := by rw [ha, hb]; rfl
  clear ha hb
  go_enter Tryz.func74, Tryz.ntmps74
  go_wp2_with (first | (go_at_call 87; refine (bothIn_any _ _ _).mono ?_; rintro e w' ⟨rfl, rfl⟩; rw [Hh.out]) | (go_at_call 88; refine (inRoom_any _ _).mono ?_; rintro e w' ⟨rfl, rfl⟩; unfold twoE))
  go_ret2
  exact ⟨rfl, rfl⟩
set_option maxHeartbeats 400000 in
theorem add_out (a b : Int) (w : World) (h : (inB a && inB b) = false) :
    Calls Tryz.prog 74 #[.int .i64 a, .int .i64 b] w fun e w' => e = twoE 0 10 ∧ w = w' := by
  have Hh := Lib.hid h; clear h
  go_enter Tryz.func74, Tryz.ntmps74
  go_wp2_with (go_at_call 87; refine (bothIn_any _ _ _).mono ?_; rintro e w' ⟨rfl, rfl⟩; rw [Hh.out])
  go_ret2
  exact ⟨rfl, rfl⟩
end Go.Proofs.YtbnbglngpgikfaaGreatDoor

