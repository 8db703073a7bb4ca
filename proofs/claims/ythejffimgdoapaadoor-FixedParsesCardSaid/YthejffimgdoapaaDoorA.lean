/- Contracts of the arithmetic of layer 1 (fixed) and of its document's answers: what each function returns, for every argument. -/
import Derived.Test.YthejffimgdoapaaDoorRows
import Derived.Test.YthejffimgdoapaaDoorM
import Derived.WalkKit
import Derived.Lib.Hide
import Derived.WalkSpells
import Derived.WalkLawsBesides
import Derived.Deep.QuietTactic
import Derived.BigQuiet
namespace Go.Proofs.YthejffimgdoapaaDoor
open Go.RowKit

theorem ret_int {k : IntKind} {a b : Int} (h : a = b) : Ending.returned (.int k a) = .returned (.int k b) := by rw [h]
theorem ret_bool {a b : Bool} (h : a = b) : Ending.returned (.bool a) = .returned (.bool b) := by rw [h]

set_option maxHeartbeats 400000 in
theorem in_any (a : Int) (w : World) :
    Calls Tryd.prog 13 #[.int .i64 a] w fun e w' => e = .returned (.bool (inB a)) ∧ w = w' := by
  go_enter Tryd.func13, Tryd.ntmps13
  go_wp2
  all_goals go_ret
  all_goals exact ⟨ret_bool (by unfold inB; simp; omega), rfl⟩
set_option maxHeartbeats 400000 in
theorem refIn_any (a : Int) (w : World) :
    Calls Tryd.prog 11 #[.int .i64 a] w fun e w' => e = .returned (.bool (inB a)) ∧ w = w' := by
  go_enter Tryd.func11, Tryd.ntmps11
  go_wp2
  all_goals go_ret
  all_goals exact ⟨ret_bool (by unfold inB; simp; omega), rfl⟩
set_option maxHeartbeats 400000 in
theorem bothIn_any (a b : Int) (w : World) :
    Calls Tryd.prog 25 #[.int .i64 a, .int .i64 b] w fun e w' => e = .returned (.bool (inB a && inB b)) ∧ w = w' := by
  cases ha : inB a
  · have Ha := Lib.hid ha; clear ha
    go_enter Tryd.func25, Tryd.ntmps25
    go_wp2_with (go_at_call 13; refine (in_any _ _).mono ?_; rintro e w' ⟨rfl, rfl⟩; rw [Ha.out])
    go_ret
    exact ⟨rfl, rfl⟩
  · have Ha := Lib.hid ha; clear ha
    go_enter Tryd.func25, Tryd.ntmps25
    go_wp2_with (go_at_call 13; refine (in_any _ _).mono ?_; rintro e w' ⟨rfl, rfl⟩; try rw [Ha.out])
    go_ret
    exact ⟨rfl, rfl⟩
set_option maxHeartbeats 400000 in
theorem nearest_any (a : Int) (w : World) (h0 : -9223372036854775808 ≤ a) (h1 : a ≤ 9223372036854775807) :
    Calls Tryd.prog 27 #[.int .i64 a] w fun e w' => e = .returned (.int .i64 (rnd a 256)) ∧ w = w' := by
  go_enter Tryd.func27, Tryd.ntmps27
  go_wp2
  go_ret
  exact ⟨ret_int (by rw [and_1, rnd_256, wrap64_in _ (by omega) (by omega)]; omega), rfl⟩
set_option maxHeartbeats 400000 in
theorem floor_any (a : Int) (w : World) :
    Calls Tryd.prog 18 #[.int .i64 a] w fun e w' => e = .returned (.int .i64 (a / 256)) ∧ w = w' := by
  go_enter Tryd.func18, Tryd.ntmps18
  go_wp2
  go_ret
  exact ⟨rfl, rfl⟩
set_option maxHeartbeats 400000 in
theorem ceil_any (a : Int) (w : World) (h0 : -9223372036854775808 ≤ a) (h1 : a ≤ 9223372036854775807) :
    Calls Tryd.prog 19 #[.int .i64 a] w fun e w' => e = .returned (.int .i64 (cei a)) ∧ w = w' := by
  go_enter Tryd.func19, Tryd.ntmps19
  go_wp2
  · have h : (bits .and .i64 a 255 == 0) = true := by assumption
    rw [and_255] at h
    go_ret
    exact ⟨ret_int (by unfold cei; simp at h; omega), rfl⟩
  · have h : (bits .and .i64 a 255 == 0) = false := by assumption
    rw [and_255] at h
    go_ret
    exact ⟨ret_int (by simp at h; unfold cei; first | omega | (rw [wrap64_in _ (by omega) (by omega)]; omega)), rfl⟩
set_option maxHeartbeats 400000 in
theorem near_any (a : Int) (w : World) (h0 : -9223372036854775808 ≤ a) (h1 : a ≤ 9223372036854775807) :
    Calls Tryd.prog 20 #[.int .i64 a] w fun e w' => e = .returned (.int .i64 (rnd a 256)) ∧ w = w' := by
  go_enter Tryd.func20, Tryd.ntmps20
  go_wp2_with (go_at_call 27; refine (nearest_any _ _ h0 h1).mono ?_; rintro e w' ⟨rfl, rfl⟩)
  go_ret
  exact ⟨rfl, rfl⟩
set_option maxHeartbeats 400000 in
theorem below_any (a b : Int) (w : World) (h0 : -9223372036854775808 ≤ a) (h1 : a ≤ 9223372036854775807) (hb : 1 ≤ b) :
    Calls Tryd.prog 21 #[.int .i64 a, .int .i64 b] w fun e w' => e = .returned (.int .i64 (a / b)) ∧ w = w' := by
  have key := below_key a b (by omega) h0 h1
  have Key := Lib.hid key
  clear key
  go_enter Tryd.func21, Tryd.ntmps21
  go_wp2
  · have h : a < wrap64 (a.tdiv b * b) := by assumption
    rw [Key.out.1] at h
    go_ret
    exact ⟨ret_int (Key.out.2.2 h), rfl⟩
  · have h : wrap64 (a.tdiv b * b) ≤ a := by assumption
    rw [Key.out.1] at h
    go_ret
    exact ⟨ret_int (Key.out.2.1 h), rfl⟩
end Go.Proofs.YthejffimgdoapaaDoor
