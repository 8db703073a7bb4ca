/- Layer 4: numbers; isEntry, nearest, Right, the statements' 'in' and 'near'. -/
import Derived.Test.YticoklfgmflidaaDoorHb
import Derived.WalkSmall
namespace Go.Proofs.YticoklfgmflidaaDoor
open Go.RowKit

structure Mx where
  a : Int
  b : Int
  c : Int
  d : Int
  e : Int
  f : Int
abbrev six (m : Mx) : Array Value := #[.int .i64 m.a, .int .i64 m.b, .int .i64 m.c, .int .i64 m.d, .int .i64 m.e, .int .i64 m.f]
def ent (x : Int) : Bool := decide (-16777216 ≤ x) && decide (x ≤ 16777216)
theorem ent_iff {x : Int} : ent x = true ↔ -16777216 ≤ x ∧ x ≤ 16777216 := by simp [ent]
def rightI (m : Mx) : Bool := ent m.a && ent m.b && ent m.c && ent m.d && room m.e && room m.f
theorem right_iff {m : Mx} : rightI m = true ↔ (-16777216 ≤ m.a ∧ m.a ≤ 16777216) ∧ (-16777216 ≤ m.b ∧ m.b ≤ 16777216) ∧ (-16777216 ≤ m.c ∧ m.c ≤ 16777216) ∧ (-16777216 ≤ m.d ∧ m.d ≤ 16777216) ∧ (-2147483648 ≤ m.e ∧ m.e ≤ 2147483648) ∧ (-2147483648 ≤ m.f ∧ m.f ≤ 2147483648) := by
  simp only [rightI, Bool.and_eq_true, ent_iff, room_iff, and_assoc]
/-- A matrix in memory. -/
theorem Blk.m0 {w : World} {g : Nat} {t : TypeId} {m : Mx} (h : Blk w g t (six m)) : w.cell? ⟨g, 0, none⟩ = some (.int .i64 m.a) := h.cell 0
theorem Blk.m1 {w : World} {g : Nat} {t : TypeId} {m : Mx} (h : Blk w g t (six m)) : w.cell? ⟨g, 1, none⟩ = some (.int .i64 m.b) := h.cell 1
theorem Blk.m2 {w : World} {g : Nat} {t : TypeId} {m : Mx} (h : Blk w g t (six m)) : w.cell? ⟨g, 2, none⟩ = some (.int .i64 m.c) := h.cell 2
theorem Blk.m3 {w : World} {g : Nat} {t : TypeId} {m : Mx} (h : Blk w g t (six m)) : w.cell? ⟨g, 3, none⟩ = some (.int .i64 m.d) := h.cell 3
theorem Blk.m4 {w : World} {g : Nat} {t : TypeId} {m : Mx} (h : Blk w g t (six m)) : w.cell? ⟨g, 4, none⟩ = some (.int .i64 m.e) := h.cell 4
theorem Blk.m5 {w : World} {g : Nat} {t : TypeId} {m : Mx} (h : Blk w g t (six m)) : w.cell? ⟨g, 5, none⟩ = some (.int .i64 m.f) := h.cell 5
theorem isEntry_c (x : Int) (w : World) : Calls Tryd.prog 33 #[.int .i64 x] w fun e w' => e = .returned (.bool (ent x)) ∧ w = w' := by
  by_cases h : -16777216 ≤ x
  · go_enter Tryd.func33, Tryd.ntmps33
    go_wp2
    go_ret
    exact ⟨by simp [ent, h], rfl⟩
  · go_enter Tryd.func33, Tryd.ntmps33
    go_wp2
    go_ret
    exact ⟨by simp [ent]; omega, rfl⟩
/-- Sixteen bits less, to the nearest. -/
def near16 (n : Int) : Int := (n + 32768) / 65536
theorem nearest_c (n : Int) (h0 : -288230376151711744 ≤ n) (h1 : n ≤ 288230376151711744) (w : World) : Calls Tryd.prog 45 #[.int .i64 n] w fun e w' => e = .returned (.int .i64 (near16 n)) ∧ w = w' := by
  go_enter Tryd.func45, Tryd.ntmps45
  go_wp2
  go_ret
  exact ⟨retI (by unfold near16; first | rfl | (unfold wrap64; omega)), rfl⟩
theorem nearFn_c (a b : Int) (ha : -9223372036854775807 ≤ a - b) (hb : a - b ≤ 9223372036854775807) (w : World) : Calls Tryd.prog 18 #[.int .i64 a, .int .i64 b] w fun e w' => e = .returned (.bool (decide (a - b ≤ 6) && decide (b - a ≤ 6))) ∧ w = w' := by
  by_cases h : a - b ≤ 6
  · go_enter Tryd.func18, Tryd.ntmps18
    go_wp2
    go_ret
    exact ⟨by simp [h], rfl⟩
  · go_enter Tryd.func18, Tryd.ntmps18
    go_wp2
    go_ret
    exact ⟨by simp; omega, rfl⟩
theorem in4_c (x y : Int) (w : World) : Calls Tryd.prog 13 #[.agg #[.int .i64 x, .int .i64 y]] w fun e w' => e = .returned (.bool (room x && room y)) ∧ Below w.heap.size w w' := by
  go_enter Tryd.func13, Tryd.ntmps13
  go_wp2_with (go_at_call 23; refine (refIn_c _ _).mono ?_; rintro e w' ⟨rfl, rfl⟩)
  all_goals go_ret
  all_goals exact ⟨by simp [*], by go_grown⟩
set_option maxHeartbeats 1000000 in
theorem right_c (m : Mx) (w : World) : Calls Tryd.prog 12 #[.agg (six m)] w fun e w' => e = .returned (.bool (rightI m)) ∧ Below w.heap.size w w' := by
  obtain ⟨a, b, c, d, e, f⟩ := m
  unfold rightI
  go_enter Tryd.func12, Tryd.ntmps12
  go_wp2_with (first | (go_at_call 33; refine (isEntry_c _ _).mono ?_; rintro e w' ⟨rfl, rfl⟩) | (go_at_call 34; refine (fixedIn_c _ _).mono ?_; rintro e w' ⟨rfl, rfl⟩))
  all_goals go_ret
  all_goals exact ⟨by simp [*], by go_grown⟩
end Go.Proofs.YticoklfgmflidaaDoor
