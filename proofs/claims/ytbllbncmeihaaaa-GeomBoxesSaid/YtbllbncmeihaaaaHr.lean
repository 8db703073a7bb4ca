/- The law on boxes: what it has at hand. -/
import Derived.Test.YtbllbncmeihaaaaHq
import Derived.Lib.MinMax
namespace Go.Proofs.Ytbllbncmeihaaaa
open Go.RowKit
/-- The five variables of the law. -/
def Five (w : World) (n g7 g8 : Nat) (a b : Bx) (px py : Int) (m j : Bx) : Prop :=
  Blk w n 41 (four a) ∧ Blk w (n + 1) 41 (four b) ∧ Blk w (n + 2) 23 (two (px, py)) ∧ Blk w g7 41 (four m) ∧ Blk w g8 41 (four j)
theorem Five.grow {w w' : World} {n g7 g8 : Nat} {a b : Bx} {px py : Int} {m j : Bx} (h : Five w n g7 g8 a b px py m j) (hb : Below w.heap.size w w') : Five w' n g7 g8 a b px py m j :=
  ⟨h.1.grow hb, h.2.1.grow hb, h.2.2.1.grow hb, h.2.2.2.1.grow hb, h.2.2.2.2.grow hb⟩
def BxAt (w : World) (g : Nat) (a : Bx) : Prop := w.cell? ⟨g, 0, none⟩ = some (.int .i64 a.x0) ∧ w.cell? ⟨g, 1, none⟩ = some (.int .i64 a.y0) ∧ w.cell? ⟨g, 2, none⟩ = some (.int .i64 a.x1) ∧ w.cell? ⟨g, 3, none⟩ = some (.int .i64 a.y1)
theorem Blk.at4 {w : World} {g : Nat} {t : TypeId} {a : Bx} (h : Blk w g t (four a)) : BxAt w g a := ⟨h.b0, h.b1, h.b2, h.b3⟩
theorem Five.cells {w : World} {n g7 g8 : Nat} {a b : Bx} {px py : Int} {m j : Bx} (h : Five w n g7 g8 a b px py m j) :
    BxAt w n a ∧ BxAt w (n + 1) b ∧ (w.cell? ⟨n + 2, 0, none⟩ = some (.int .i64 px) ∧ w.cell? ⟨n + 2, 1, none⟩ = some (.int .i64 py)) ∧ BxAt w g7 m ∧ BxAt w g8 j :=
  ⟨h.1.at4, h.2.1.at4, ⟨h.2.2.1.p0, h.2.2.1.p1⟩, h.2.2.2.1.at4, h.2.2.2.2.at4⟩
set_option maxHeartbeats 400000 in
theorem has1_walk (b : Bx) (g : Nat) (x y : Int) (w : World) (hp : Blk w g 23 (two (x, y))) : Calls Try.prog 21 #[.agg #[.int .i64 b.x0, .int .i64 b.y0, .int .i64 b.x1, .int .i64 b.y1], .pointer (some ⟨g, 0, none⟩)] w fun e w' => e = .returned (.bool (hasI b x y)) ∧ Below w.heap.size w w' := by
  have lt := hp.lt
  have c0 := hp.p0
  have c1 := hp.p1
  obtain ⟨x0, y0, x1, y1⟩ := b
  unfold hasI
  have H : ∀ r : Bool, r = (decide (x0 ≤ x) && decide (x < x1) && decide (y0 ≤ y) && decide (y < y1)) → Calls Try.prog 21 #[.agg #[.int .i64 x0, .int .i64 y0, .int .i64 x1, .int .i64 y1], .pointer (some ⟨g, 0, none⟩)] w fun e w' => e = .returned (.bool r) ∧ Below w.heap.size w w' := by
    intro r hr
    have HR := Lib.hid hr
    clear hr
    by_cases h1 : x0 ≤ x
    · by_cases h2 : x < x1
      · by_cases h3 : y0 ≤ y
        · go_enter Try.func21, Try.ntmps21
          go_wp2_with fail
          go_ret
          exact ⟨by rw [HR.out]; simp [h1, h2, h3], by go_grown⟩
        · go_enter Try.func21, Try.ntmps21
          go_wp2_with fail
          go_ret
          exact ⟨by rw [HR.out]; simp; omega, by go_grown⟩
      · go_enter Try.func21, Try.ntmps21
        go_wp2_with fail
        go_ret
        exact ⟨by rw [HR.out]; simp; omega, by go_grown⟩
    · go_enter Try.func21, Try.ntmps21
      go_wp2_with fail
      go_ret
      exact ⟨by rw [HR.out]; simp; omega, by go_grown⟩
  exact H _ rfl
end Go.Proofs.Ytbllbncmeihaaaa
