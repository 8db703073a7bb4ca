/- Contracts of the arithmetic of layer 1 (fixed) and of its document's answers: what each function returns, for every argument. -/
import Derived.Test.YtbnbglngpgikfaaGreatDoorRows
import Derived.Test.YtbnbglngpgikfaaGreatDoorNm
import Derived.WalkKit
import Derived.Lib.Hide
import Derived.WalkSpells
import Derived.WalkLawsBesides
import Derived.Deep.QuietTactic
import Derived.BigQuiet
namespace Go.Proofs.YtbnbglngpgikfaaGreatDoor
open Go.RowKit

theorem ret_int {k : IntKind} {a b : Int} (h : a = b) : Ending.returned (.int k a) = .returned (.int k b) := by rw [h]
theorem ret_bool {a b : Bool} (h : a = b) : Ending.returned (.bool a) = .returned (.bool b) := by rw [h]

set_option maxHeartbeats 400000 in
theorem in_any (a : Int) (w : World) :
    Calls Tryz.prog 38 #[.int .i64 a] w fun e w' => e = .returned (.bool (inB a)) ∧ w = w' := by
  go_enter Tryz.func38, Tryz.ntmps38
  go_wp2
  all_goals go_ret
  all_goals exact ⟨ret_bool (by unfold inB; simp; omega), rfl⟩
set_option maxHeartbeats 400000 in
theorem refIn_any (a : Int) (w : World) :
    Calls Tryz.prog 25 #[.int .i64 a] w fun e w' => e = .returned (.bool (inB a)) ∧ w = w' := by
  go_enter Tryz.func25, Tryz.ntmps25
  go_wp2
  all_goals go_ret
  all_goals exact ⟨ret_bool (by unfold inB; simp; omega), rfl⟩
set_option maxHeartbeats 400000 in
theorem bothIn_any (a b : Int) (w : World) :
    Calls Tryz.prog 87 #[.int .i64 a, .int .i64 b] w fun e w' => e = .returned (.bool (inB a && inB b)) ∧ w = w' := by
  cases ha : inB a
  · have Ha := Lib.hid ha; clear ha
    go_enter Tryz.func87, Tryz.ntmps87
    go_wp2_with (go_at_call 38; refine (in_any _ _).mono ?_; rintro e w' ⟨rfl, rfl⟩; rw [Ha.out])
    go_ret
    exact ⟨rfl, rfl⟩
  · have Ha := Lib.hid ha; clear ha
    go_enter Tryz.func87, Tryz.ntmps87
    go_wp2_with (go_at_call 38; refine (in_any _ _).mono ?_; rintro e w' ⟨rfl, rfl⟩; try rw [Ha.out])
    go_ret
    exact ⟨rfl, rfl⟩
end Go.Proofs.YtbnbglngpgikfaaGreatDoor

