/- Layer 4: turn. -/
import Derived.Test.YticoklfgmflidaaDoorAa
import Derived.Deep.QuietTactic
namespace Go.Proofs.YticoklfgmflidaaDoor
open Go.RowKit

theorem prod_in (a x A X : Int) (ha : -A ≤ a ∧ a ≤ A) (hx : -X ≤ x ∧ x ≤ X) : -(A * X) ≤ a * x ∧ a * x ≤ A * X := by
  have h1 : a.natAbs ≤ A.natAbs := by omega
  have h2 : x.natAbs ≤ X.natAbs := by omega
  have h3 := Nat.mul_le_mul h1 h2
  rw [← Int.natAbs_mul, ← Int.natAbs_mul] at h3
  have h4 : 0 ≤ A * X := Int.mul_nonneg (by omega) (by omega)
  omega
theorem below_drewN {B : Nat} {w w' : World} (h : Below B w w') (k : Nat) : Below B w (w'.drewN k) := by
  obtain ⟨a, b, c, d, e⟩ := h
  exact ⟨a, b, c, d, e⟩
def turnX (m : Mx) (x y : Int) : Int := near16 (m.a * x + m.c * y)
def turnY (m : Mx) (x y : Int) : Int := near16 (m.b * x + m.d * y)
set_option maxHeartbeats 400000 in
theorem turn_walk (a b c d e f x y : Int) (w : World) (h1 : -36028797018963968 ≤ a * x ∧ a * x ≤ 36028797018963968) (h2 : -36028797018963968 ≤ c * y ∧ c * y ≤ 36028797018963968)
    (h3 : -36028797018963968 ≤ b * x ∧ b * x ≤ 36028797018963968) (h4 : -36028797018963968 ≤ d * y ∧ d * y ≤ 36028797018963968) :
    Calls Tryd.prog 32 #[.agg #[.int .i64 a, .int .i64 b, .int .i64 c, .int .i64 d, .int .i64 e, .int .i64 f], .int .i64 x, .int .i64 y] w fun r w' => r = .returned (.tuple #[.int .i64 (near16 (a * x + c * y)), .int .i64 (near16 (b * x + d * y))]) ∧ Below w.heap.size w w' := by
  obtain ⟨p, hp⟩ : ∃ p, a * x = p := ⟨_, rfl⟩
  obtain ⟨q, hq⟩ : ∃ q, c * y = q := ⟨_, rfl⟩
  obtain ⟨r, hr⟩ : ∃ r, b * x = r := ⟨_, rfl⟩
  obtain ⟨s, hs⟩ : ∃ s, d * y = s := ⟨_, rfl⟩
  have e1 : wrap64 (a * x) = a * x := by unfold wrap64; omega
  have e2 : wrap64 (c * y) = c * y := by unfold wrap64; omega
  have e3 : wrap64 (b * x) = b * x := by unfold wrap64; omega
  have e4 : wrap64 (d * y) = d * y := by unfold wrap64; omega
  have e5 : wrap64 (a * x + c * y) = a * x + c * y := by unfold wrap64; omega
  have e6 : wrap64 (b * x + d * y) = b * x + d * y := by unfold wrap64; omega
  have HN := Lib.hid (fun w => nearest_c (a * x + c * y) (by omega) (by omega) w)
  have HM := Lib.hid (fun w => nearest_c (b * x + d * y) (by omega) (by omega) w)
  clear hp hq hr hs h1 h2 h3 h4
  go_enter Tryd.func32, Tryd.ntmps32
  go_wp2_with fail
  go_quiet (first | exact Calls.quiet_of_same ((HN.out _).mono fun _ _ ⟨he, hw⟩ => ⟨he, hw.symm⟩) | exact Calls.quiet_of_same ((HM.out _).mono fun _ _ ⟨he, hw⟩ => ⟨he, hw.symm⟩))
  go_wp2_with fail
  go_ret2
  exact ⟨rfl, below_drewN ((Below.refl _ _).alloc (Nat.le_refl _) _) _⟩
/-- What turn tells: of entries and numbers that are not too great. -/
theorem turn_c (m : Mx) (x y : Int) (w : World) (ha : -16777216 ≤ m.a ∧ m.a ≤ 16777216) (hb : -16777216 ≤ m.b ∧ m.b ≤ 16777216) (hc : -16777216 ≤ m.c ∧ m.c ≤ 16777216) (hd : -16777216 ≤ m.d ∧ m.d ≤ 16777216) (hx : -2147483648 ≤ x ∧ x ≤ 2147483648) (hy : -2147483648 ≤ y ∧ y ≤ 2147483648) :
    Calls Tryd.prog 32 #[.agg (six m), .int .i64 x, .int .i64 y] w fun r w' => r = .returned (.tuple #[.int .i64 (turnX m x y), .int .i64 (turnY m x y)]) ∧ Below w.heap.size w w' :=
  turn_walk m.a m.b m.c m.d m.e m.f x y w (prod_in _ _ 16777216 2147483648 ha hx) (prod_in _ _ 16777216 2147483648 hc hy) (prod_in _ _ 16777216 2147483648 hb hx) (prod_in _ _ 16777216 2147483648 hd hy)
theorem near16_in (p q : Int) (hp : -36028797018963968 ≤ p ∧ p ≤ 36028797018963968) (hq : -36028797018963968 ≤ q ∧ q ≤ 36028797018963968) : -1099511627777 ≤ near16 (p + q) ∧ near16 (p + q) ≤ 1099511627777 := by
  unfold near16; omega
theorem turnX_in (m : Mx) (x y : Int) (ha : -16777216 ≤ m.a ∧ m.a ≤ 16777216) (hc : -16777216 ≤ m.c ∧ m.c ≤ 16777216) (hx : -2147483648 ≤ x ∧ x ≤ 2147483648) (hy : -2147483648 ≤ y ∧ y ≤ 2147483648) : -1099511627777 ≤ turnX m x y ∧ turnX m x y ≤ 1099511627777 :=
  near16_in _ _ (prod_in _ _ 16777216 2147483648 ha hx) (prod_in _ _ 16777216 2147483648 hc hy)
theorem turnY_in (m : Mx) (x y : Int) (hb : -16777216 ≤ m.b ∧ m.b ≤ 16777216) (hd : -16777216 ≤ m.d ∧ m.d ≤ 16777216) (hx : -2147483648 ≤ x ∧ x ≤ 2147483648) (hy : -2147483648 ≤ y ∧ y ≤ 2147483648) : -1099511627777 ≤ turnY m x y ∧ turnY m x y ≤ 1099511627777 :=
  near16_in _ _ (prod_in _ _ 16777216 2147483648 hb hx) (prod_in _ _ 16777216 2147483648 hd hy)
end Go.Proofs.YticoklfgmflidaaDoor
