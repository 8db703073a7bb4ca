/- The law AffineBounds, put together. -/
import Derived.Test.YticoklfgmflidaaDoorBb
namespace Go.Proofs.YticoklfgmflidaaDoor
open Go.RowKit

def cor (m : Mx) (x y : Int) : Pt := (apX m x y, apY m x y)
def hull (m : Mx) (b : Bx) : Bx := boundI [cor m b.x0 b.y0, cor m (b.x1 - 1) b.y0, cor m b.x0 (b.y1 - 1), cor m (b.x1 - 1) (b.y1 - 1)]
theorem some_iff {b : Bx} (h : emptyI b = false) : b.x0 < b.x1 ∧ b.y0 < b.y1 := by
  unfold emptyI at h
  simp at h
  exact h
theorem apOk_room {m : Mx} {x y : Int} (h : apOk m x y = true) : roomP (cor m x y) = true := by
  unfold apOk at h
  rw [Bool.and_eq_true] at h
  exact h.2
theorem apOk_in {m : Mx} {x y : Int} (h : apOk m x y = true) : rightI m = true ∧ (-2147483648 ≤ x ∧ x ≤ 2147483648) ∧ (-2147483648 ≤ y ∧ y ≤ 2147483648) ∧ (-2147483648 ≤ apX m x y ∧ apX m x y ≤ 2147483648) ∧ (-2147483648 ≤ apY m x y ∧ apY m x y ≤ 2147483648) := by
  unfold apOk at h
  simp only [Bool.and_eq_true, room_iff] at h
  exact ⟨h.1.1, h.1.2.1, h.1.2.2, h.2.1, h.2.2⟩
theorem rooms4 {p q r s : Pt} (h0 : roomP p = true) (h1 : roomP q = true) (h2 : roomP r = true) (h3 : roomP s = true) : [p, q, r, s].all roomP = true := by simp [h0, h1, h2, h3]
abbrev mn4 (a b c d : Int) : Int := min (min (min a b) c) d
abbrev mx4 (a b c d : Int) : Int := max (max (max a b) c) d
theorem mm4 (a b c d : Int) : (mn4 a b c d ≤ a ∧ a ≤ mx4 a b c d) ∧ (mn4 a b c d ≤ b ∧ b ≤ mx4 a b c d) ∧ (mn4 a b c d ≤ c ∧ c ≤ mx4 a b c d) ∧ (mn4 a b c d ≤ d ∧ d ≤ mx4 a b c d) := by
  unfold mn4 mx4
  omega
theorem mx4_next (a b c d : Int) : mx4 (a + 1) (b + 1) (c + 1) (d + 1) = mx4 a b c d + 1 := by
  unfold mx4
  omega
theorem bound4m (a b c d : Pt) : boundI [a, b, c, d] = ⟨mn4 a.1 b.1 c.1 d.1, mn4 a.2 b.2 c.2 d.2, mx4 a.1 b.1 c.1 d.1 + 1, mx4 a.2 b.2 c.2 d.2 + 1⟩ := by
  rw [bound4, ← mx4_next, ← mx4_next]
/-- All four corners are OK. -/
def okAll (m : Mx) (b : Bx) : Bool := apOk m b.x0 b.y0 && apOk m (b.x1 - 1) b.y0 && apOk m b.x0 (b.y1 - 1) && apOk m (b.x1 - 1) (b.y1 - 1)
theorem ok_parts {m : Mx} {b : Bx} (h : okAll m b = true) : apOk m b.x0 b.y0 = true ∧ apOk m (b.x1 - 1) b.y0 = true ∧ apOk m b.x0 (b.y1 - 1) = true ∧ apOk m (b.x1 - 1) (b.y1 - 1) = true := by
  unfold okAll at h
  simp only [Bool.and_eq_true] at h
  exact ⟨h.1.1.1, h.1.1.2, h.1.2, h.2⟩
theorem bnd_c (m : Mx) (b : Bx) (w : World) (i0 : I64 b.x0) (i1 : I64 b.y0) (i2 : I64 b.x1) (i3 : I64 b.y1) :
    Calls Tryd.prog 24 #[.agg (six m), .agg (four b)] w fun e w' => e = .returned (.tuple #[.agg (four (if rightI m && !emptyI b && okAll m b then hull m b else ⟨0, 0, 0, 0⟩)), .int .i64 (if rightI m then (if emptyI b then 0 else if okAll m b then 0 else 10) else 10)]) ∧ Below w.heap.size w w' :=
  bnd_walk m b (hull m b) (b.x1 - 1) (b.y1 - 1) (apX m b.x0 b.y0) (apY m b.x0 b.y0) (apX m (b.x1 - 1) b.y0) (apY m (b.x1 - 1) b.y0) (apX m b.x0 (b.y1 - 1)) (apY m b.x0 (b.y1 - 1)) (apX m (b.x1 - 1) (b.y1 - 1)) (apY m (b.x1 - 1) (b.y1 - 1)) (rightI m) (emptyI b) (apOk m b.x0 b.y0) (apOk m (b.x1 - 1) b.y0) (apOk m b.x0 (b.y1 - 1)) (apOk m (b.x1 - 1) (b.y1 - 1)) w (Lib.hid (right_c m)) (Lib.hid (empty_c b)) (Lib.hid fun h w => corners_c b w (some_iff h).1 (some_iff h).2 i0 i1 i2 i3)
    (Lib.hid (apply_c m _ _)) (Lib.hid (apply_c m _ _)) (Lib.hid (apply_c m _ _)) (Lib.hid (apply_c m _ _))
    (Lib.hid fun h0 h1 h2 h3 w s hs => bound_c s _ w (by simp) hs (rooms4 (apOk_room h0) (apOk_room h1) (apOk_room h2) (apOk_room h3)))
theorem has_of {b : Bx} {x y : Int} : hasI b x y = true ↔ b.x0 ≤ x ∧ x < b.x1 ∧ b.y0 ≤ y ∧ y < b.y1 := by
  unfold hasI
  simp only [Bool.and_eq_true, decide_eq_true_eq, and_assoc]
theorem hull_has (m : Mx) (b : Bx) (x y : Int) (h : okAll m b = true) (k : hasI b x y = true) : apOk m x y = true ∧ hasI (hull m b) (apX m x y) (apY m x y) = true := by
  obtain ⟨h0, h1, h2, h3⟩ := ok_parts h
  obtain ⟨r, x0, y0, X0, Y0⟩ := apOk_in h0
  obtain ⟨_, x1, y1, X1, Y1⟩ := apOk_in h1
  obtain ⟨_, x2, y2, X2, Y2⟩ := apOk_in h2
  obtain ⟨_, x3, y3, X3, Y3⟩ := apOk_in h3
  obtain ⟨p0, p1, q0, q1⟩ := has_of.1 k
  have hx : b.x0 ≤ x ∧ x ≤ b.x1 - 1 := by omega
  have hy : b.y0 ≤ y ∧ y ≤ b.y1 - 1 := by omega
  have a := hullX m x b.x0 (b.x1 - 1) y b.y0 (b.y1 - 1) (-2147483648) 2147483648 hx hy X0 X1 X2 X3
  have c := hullY m x b.x0 (b.x1 - 1) y b.y0 (b.y1 - 1) (-2147483648) 2147483648 hx hy Y0 Y1 Y2 Y3
  refine ⟨?_, ?_⟩
  · unfold apOk
    simp only [Bool.and_eq_true, room_iff]
    exact ⟨⟨r, by omega, by omega⟩, a, c⟩
  · have e : hull m b = _ := bound4m _ _ _ _
    obtain ⟨s0, s1, s2, s3⟩ := mm4 (apX m b.x0 b.y0) (apX m (b.x1 - 1) b.y0) (apX m b.x0 (b.y1 - 1)) (apX m (b.x1 - 1) (b.y1 - 1))
    obtain ⟨t0, t1, t2, t3⟩ := mm4 (apY m b.x0 b.y0) (apY m (b.x1 - 1) b.y0) (apY m b.x0 (b.y1 - 1)) (apY m (b.x1 - 1) (b.y1 - 1))
    have s := hullX m x b.x0 (b.x1 - 1) y b.y0 (b.y1 - 1) _ _ hx hy s0 s1 s2 s3
    have t := hullY m x b.x0 (b.x1 - 1) y b.y0 (b.y1 - 1) _ _ hx hy t0 t1 t2 t3
    rw [e, has_of]
    exact ⟨s.1, Int.lt_add_one_of_le s.2, t.1, Int.lt_add_one_of_le t.2⟩
theorem bounds_law (m : Mx) (b : Bx) (i0 : I64 b.x0) (i1 : I64 b.y0) (i2 : I64 b.x1) (i3 : I64 b.y1) (x y : Int) (w : World) (hr : Rd w) :
    Calls Tryd.prog 7 #[.agg (six m), .agg (four b), .agg #[.int .i64 x, .int .i64 y]] w fun e w' => e = .returned (.bool true) ∧ Below w.heap.size w w' := by
  refine bounds_walk m b (hull m b) x y (b.x1 - 1) (b.y1 - 1) (apX m b.x0 b.y0) (apY m b.x0 b.y0) (apX m (b.x1 - 1) b.y0) (apY m (b.x1 - 1) b.y0) (apX m b.x0 (b.y1 - 1)) (apY m b.x0 (b.y1 - 1)) (apX m (b.x1 - 1) (b.y1 - 1)) (apY m (b.x1 - 1) (b.y1 - 1)) (apX m x y) (apY m x y)
    (rightI m) (emptyI b) (apOk m b.x0 b.y0) (apOk m (b.x1 - 1) b.y0) (apOk m b.x0 (b.y1 - 1)) (apOk m (b.x1 - 1) (b.y1 - 1)) (hasI b x y) w
    (Lib.hid fun h w => ?_) (Lib.hid fun h k w => ?_) (Lib.hid fun h k w => ?_) (Lib.hid (ref_c m)) (Lib.hid (refRight_c m)) (Lib.hid rfl) (Lib.hid fun h => ?_)
    (Lib.hid (apply_c m _ _)) (Lib.hid (apply_c m _ _)) (Lib.hid (apply_c m _ _)) (Lib.hid (apply_c m _ _)) (Lib.hid fun h w s hs => ?_) (Lib.hid (has_c b x y)) (Lib.hid fun h k w => ?_) (Lib.hid fun h k w => ?_) (Lib.hid fun w' hb => awake4_c w' (hr.on hb))
  · have := bnd_c m b w i0 i1 i2 i3
    rw [h] at this
    exact this
  · have := bnd_c m b w i0 i1 i2 i3
    rw [h, k] at this
    exact this
  · have := bnd_c m b w i0 i1 i2 i3
    rw [h, k] at this
    exact this
  · obtain ⟨h0, h1⟩ := some_iff h
    unfold I64 at i0 i1 i2 i3
    exact ⟨by unfold wrap64; omega, by unfold wrap64; omega⟩
  · obtain ⟨h0, h1, h2, h3⟩ := ok_parts (show okAll m b = true from h)
    have := bound_c s _ w (by simp) hs (rooms4 (apOk_room h0) (apOk_room h2) (apOk_room h1) (apOk_room h3))
    rw [bound4_turn] at this
    exact this
  · obtain ⟨e, _⟩ := hull_has m b x y (show okAll m b = true from h) k
    have := apply_c m x y w
    rw [e] at this
    exact this
  · obtain ⟨_, e⟩ := hull_has m b x y (show okAll m b = true from h) k
    have := has_c (hull m b) (apX m x y) (apY m x y) w
    rw [e] at this
    exact this
end Go.Proofs.YticoklfgmflidaaDoor
