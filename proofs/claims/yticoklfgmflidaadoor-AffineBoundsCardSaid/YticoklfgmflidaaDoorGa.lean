/- Points in room: fixed.In, limnerref01.In, Point.In, and the statements' own 'in' over points in a row. -/
import Derived.Test.YticoklfgmflidaaDoorWc
namespace Go.Proofs.YticoklfgmflidaaDoor
open Go.RowKit

/-- A coordinate in room. -/
def room (x : Int) : Bool := decide (-2147483648 ≤ x) && decide (x ≤ 2147483648)
theorem room_iff {x : Int} : room x = true ↔ -2147483648 ≤ x ∧ x ≤ 2147483648 := by simp [room]
def roomP (p : Int × Int) : Bool := room p.1 && room p.2
theorem fixedIn_c (x : Int) (w : World) : Calls Tryd.prog 34 #[.int .i64 x] w fun e w' => e = .returned (.bool (room x)) ∧ w = w' := by
  by_cases h : -2147483648 ≤ x
  · go_enter Tryd.func34, Tryd.ntmps34
    go_wp2
    go_ret
    exact ⟨by simp [room, h], rfl⟩
  · go_enter Tryd.func34, Tryd.ntmps34
    go_wp2
    go_ret
    exact ⟨by simp [room]; omega, rfl⟩
theorem refIn_c (x : Int) (w : World) : Calls Tryd.prog 23 #[.int .i64 x] w fun e w' => e = .returned (.bool (room x)) ∧ w = w' := by
  by_cases h : -2147483648 ≤ x
  · go_enter Tryd.func23, Tryd.ntmps23
    go_wp2
    go_ret
    exact ⟨by simp [room, h], rfl⟩
  · go_enter Tryd.func23, Tryd.ntmps23
    go_wp2
    go_ret
    exact ⟨by simp [room]; omega, rfl⟩
theorem ptIn_c (x y : Int) (w : World) : Calls Tryd.prog 31 #[.agg #[.int .i64 x, .int .i64 y]] w fun e w' => e = .returned (.bool (room x && room y)) ∧ Below w.heap.size w w' := by
  have HX := Lib.hid (fixedIn_c x)
  have HY := Lib.hid (fixedIn_c y)
  cases hx : room x
  · rw [hx] at HX
    go_enter Tryd.func31, Tryd.ntmps31
    go_wp2_with fail
    refine (HX.out _).mono ?_
    rintro e w' ⟨rfl, rfl⟩
    go_wp2_with fail
    go_ret
    exact ⟨rfl, by go_grown⟩
  · rw [hx] at HX
    go_enter Tryd.func31, Tryd.ntmps31
    go_wp2_with fail
    refine (HX.out _).mono ?_
    rintro e w' ⟨rfl, rfl⟩
    go_wp2_with fail
    refine (HY.out _).mono ?_
    rintro e w' ⟨rfl, rfl⟩
    go_wp2_with fail
    go_ret
    exact ⟨by simp, by go_grown⟩
/-- A row of points at hand in memory, from an address on. -/
def PtsAt (w : World) (b o : Nat) (l : List (Int × Int)) : Prop := ∀ i p, l[i]? = some p → w.cell? ⟨b, o + i * 2, none⟩ = some (.int .i64 p.1) ∧ w.cell? ⟨b, o + i * 2 + 1, none⟩ = some (.int .i64 p.2)
/-- A slice of points: its value, the points, the world. -/
def Row (w : World) (s : Value) (l : List (Int × Int)) : Prop :=
  (s = .slice none 0 0 ∧ l = []) ∨ (∃ a c, s = .slice (some a) 0 c ∧ l = []) ∨ ∃ b o c, s = .slice (some ⟨b, o, none⟩) l.length c ∧ b < w.heap.size ∧ PtsAt w b o l
theorem cell_below {w w' : World} {B b o : Nat} (h : Below B w w') (hb : b < B) : w'.cell? ⟨b, o, none⟩ = w.cell? ⟨b, o, none⟩ := by
  unfold World.cell?; simp only; rw [h.block b hb]
theorem PtsAt.on {w w' : World} {b o : Nat} {l : List (Int × Int)} (h : PtsAt w b o l) {B : Nat} (hb : Below B w w') (hlt : b < B) : PtsAt w' b o l := fun i p hp => by
  rw [cell_below hb hlt, cell_below hb hlt]; exact h i p hp
theorem Row.on {w w' : World} {s : Value} {l : List (Int × Int)} (h : Row w s l) (hb : Below w.heap.size w w') : Row w' s l := by
  rcases h with h | h | ⟨b, o, c, h1, h2, h3⟩
  · exact .inl h
  · exact .inr (.inl h)
  · exact .inr (.inr ⟨b, o, c, h1, Nat.lt_of_lt_of_le h2 hb.size, h3.on hb h2⟩)
end Go.Proofs.YticoklfgmflidaaDoor

