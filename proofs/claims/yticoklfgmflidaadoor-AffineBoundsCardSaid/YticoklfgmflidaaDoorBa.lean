/- Numbers for the law AffineBounds. -/
import Derived.Test.YticoklfgmflidaaDoorAy
namespace Go.Proofs.YticoklfgmflidaaDoor
open Go.RowKit

theorem ptBox_some (p : Pt) : emptyI (ptBox p) = false := by
  unfold emptyI ptBox
  simp
  omega
theorem bstep_zero (p : Pt) : bstep ⟨0, 0, 0, 0⟩ p = ptBox p := by
  unfold bstep joinI
  rw [ptBox_some, show emptyI ⟨0, 0, 0, 0⟩ = true by decide]
  rfl
theorem bstep_some (b : Bx) (p : Pt) (h : emptyI b = false) : bstep b p = ⟨min b.x0 p.1, min b.y0 p.2, max b.x1 (p.1 + 1), max b.y1 (p.2 + 1)⟩ ∧ emptyI (bstep b p) = false := by
  have e : bstep b p = ⟨min b.x0 p.1, min b.y0 p.2, max b.x1 (p.1 + 1), max b.y1 (p.2 + 1)⟩ := by
    unfold bstep joinI
    rw [ptBox_some, h]
    rfl
  refine ⟨e, ?_⟩
  rw [e]
  unfold emptyI at h ⊢
  simp at h ⊢
  omega
theorem bound4 (a b c d : Pt) : boundI [a, b, c, d] = ⟨min (min (min a.1 b.1) c.1) d.1, min (min (min a.2 b.2) c.2) d.2, max (max (max (a.1 + 1) (b.1 + 1)) (c.1 + 1)) (d.1 + 1), max (max (max (a.2 + 1) (b.2 + 1)) (c.2 + 1)) (d.2 + 1)⟩ := by
  show bstep (bstep (bstep (bstep ⟨0, 0, 0, 0⟩ a) b) c) d = _
  rw [bstep_zero]
  obtain ⟨e1, h1⟩ := bstep_some (ptBox a) b (ptBox_some a)
  obtain ⟨e2, h2⟩ := bstep_some _ c h1
  obtain ⟨e3, h3⟩ := bstep_some _ d h2
  rw [e3, e2, e1]
  rfl
theorem bound4_turn (a b c d : Pt) : boundI [a, c, b, d] = boundI [a, b, c, d] := by
  rw [bound4, bound4]
  simp only [Bx.mk.injEq]
  omega
theorem near16_le {p q : Int} (h : p ≤ q) : near16 p ≤ near16 q := by
  unfold near16; omega
theorem lin_in (a x X0 X1 : Int) (hx : X0 ≤ x ∧ x ≤ X1) : (a * X0 ≤ a * x ∧ a * x ≤ a * X1) ∨ (a * X1 ≤ a * x ∧ a * x ≤ a * X0) := by
  rcases Int.le_total 0 a with h | h
  · exact .inl ⟨Int.mul_le_mul_of_nonneg_left hx.1 h, Int.mul_le_mul_of_nonneg_left hx.2 h⟩
  · exact .inr ⟨Int.mul_le_mul_of_nonpos_left h hx.2, Int.mul_le_mul_of_nonpos_left h hx.1⟩
/-- What is made of a point of a box lies among what is made of its corners. -/
theorem hull1 (a c x X0 X1 y Y0 Y1 L U : Int) (hx : X0 ≤ x ∧ x ≤ X1) (hy : Y0 ≤ y ∧ y ≤ Y1)
    (h0 : L ≤ near16 (a * X0 + c * Y0) ∧ near16 (a * X0 + c * Y0) ≤ U) (h1 : L ≤ near16 (a * X1 + c * Y0) ∧ near16 (a * X1 + c * Y0) ≤ U)
    (h2 : L ≤ near16 (a * X0 + c * Y1) ∧ near16 (a * X0 + c * Y1) ≤ U) (h3 : L ≤ near16 (a * X1 + c * Y1) ∧ near16 (a * X1 + c * Y1) ≤ U) :
    L ≤ near16 (a * x + c * y) ∧ near16 (a * x + c * y) ≤ U := by
  rcases lin_in a x X0 X1 hx with ⟨p1, p2⟩ | ⟨p1, p2⟩ <;> rcases lin_in c y Y0 Y1 hy with ⟨q1, q2⟩ | ⟨q1, q2⟩
  · exact ⟨Int.le_trans h0.1 (near16_le (by omega)), Int.le_trans (near16_le (by omega)) h3.2⟩
  · exact ⟨Int.le_trans h2.1 (near16_le (by omega)), Int.le_trans (near16_le (by omega)) h1.2⟩
  · exact ⟨Int.le_trans h1.1 (near16_le (by omega)), Int.le_trans (near16_le (by omega)) h2.2⟩
  · exact ⟨Int.le_trans h3.1 (near16_le (by omega)), Int.le_trans (near16_le (by omega)) h0.2⟩
theorem hullX (m : Mx) (x X0 X1 y Y0 Y1 L U : Int) (hx : X0 ≤ x ∧ x ≤ X1) (hy : Y0 ≤ y ∧ y ≤ Y1)
    (h0 : L ≤ apX m X0 Y0 ∧ apX m X0 Y0 ≤ U) (h1 : L ≤ apX m X1 Y0 ∧ apX m X1 Y0 ≤ U) (h2 : L ≤ apX m X0 Y1 ∧ apX m X0 Y1 ≤ U) (h3 : L ≤ apX m X1 Y1 ∧ apX m X1 Y1 ≤ U) : L ≤ apX m x y ∧ apX m x y ≤ U := by
  unfold apX turnX at *
  have := hull1 m.a m.c x X0 X1 y Y0 Y1 (L - m.e) (U - m.e) hx hy (by omega) (by omega) (by omega) (by omega)
  omega
theorem hullY (m : Mx) (x X0 X1 y Y0 Y1 L U : Int) (hx : X0 ≤ x ∧ x ≤ X1) (hy : Y0 ≤ y ∧ y ≤ Y1)
    (h0 : L ≤ apY m X0 Y0 ∧ apY m X0 Y0 ≤ U) (h1 : L ≤ apY m X1 Y0 ∧ apY m X1 Y0 ≤ U) (h2 : L ≤ apY m X0 Y1 ∧ apY m X0 Y1 ≤ U) (h3 : L ≤ apY m X1 Y1 ∧ apY m X1 Y1 ≤ U) : L ≤ apY m x y ∧ apY m x y ≤ U := by
  unfold apY turnY at *
  have := hull1 m.b m.d x X0 X1 y Y0 Y1 (L - m.f) (U - m.f) hx hy (by omega) (by omega) (by omega) (by omega)
  omega
end Go.Proofs.YticoklfgmflidaaDoor
