/- Layer 5: how near a flat curve lies to the very curve. -/
import Derived.Test.YthlealndopppaaaQ
namespace Go.Proofs.Ythlealndopppaaa
/-- The very curve's number at the place i of f: of degree 2, and of degree 3. -/
def at2 (a b c f i : Int) : Int := (f - i) * (f - i) * a + 2 * ((f - i) * i) * b + i * i * c
def at3 (a b c d f i : Int) : Int := (f - i) * (f - i) * (f - i) * a + 3 * ((f - i) * (f - i) * i) * b + 3 * ((f - i) * i * i) * c + i * i * i * d
/-- Halving: the first half's curve, exactly. -/
theorem at2_first (a b c f i : Int) : at2 a b c (2 * f) i = at2 (4 * a) (2 * a + 2 * b) (a + 2 * b + c) f i := by unfold at2; grind
theorem at2_second (a b c f i : Int) : at2 a b c (2 * f) (f + i) = at2 (a + 2 * b + c) (2 * b + 2 * c) (4 * c) f i := by unfold at2; grind
theorem at3_first (a b c d f i : Int) : at3 a b c d (2 * f) i = at3 (8 * a) (4 * a + 4 * b) (2 * a + 4 * b + 2 * c) (a + 3 * b + 3 * c + d) f i := by unfold at3; grind
theorem at3_second (a b c d f i : Int) : at3 a b c d (2 * f) (f + i) = at3 (a + 3 * b + 3 * c + d) (2 * b + 4 * c + 2 * d) (4 * c + 4 * d) (8 * d) f i := by unfold at3; grind
/-- Nearer points make a nearer curve. -/
theorem at2_le (a b c a' b' c' f i : Int) (h0 : 0 ≤ i) (h1 : i ≤ f) (ha : a ≤ a') (hb : b ≤ b') (hc : c ≤ c') : at2 a b c f i ≤ at2 a' b' c' f i := by
  obtain ⟨g, rfl⟩ : ∃ g, f = i + g := ⟨f - i, by omega⟩
  have hg : 0 ≤ g := by omega
  unfold at2
  rw [show i + g - i = g by omega]
  have e1 := Int.mul_le_mul_of_nonneg_left ha (Int.mul_nonneg hg hg)
  have e2 := Int.mul_le_mul_of_nonneg_left hb (show 0 ≤ 2 * (g * i) by have := Int.mul_nonneg hg h0; omega)
  have e3 := Int.mul_le_mul_of_nonneg_left hc (Int.mul_nonneg h0 h0)
  omega
theorem at3_le (a b c d a' b' c' d' f i : Int) (h0 : 0 ≤ i) (h1 : i ≤ f) (ha : a ≤ a') (hb : b ≤ b') (hc : c ≤ c') (hd : d ≤ d') : at3 a b c d f i ≤ at3 a' b' c' d' f i := by
  obtain ⟨g, rfl⟩ : ∃ g, f = i + g := ⟨f - i, by omega⟩
  have hg : 0 ≤ g := by omega
  unfold at3
  rw [show i + g - i = g by omega]
  have n1 := Int.mul_nonneg (Int.mul_nonneg hg hg) h0
  have n2 := Int.mul_nonneg (Int.mul_nonneg hg h0) h0
  have e1 := Int.mul_le_mul_of_nonneg_left ha (Int.mul_nonneg (Int.mul_nonneg hg hg) hg)
  have e2 := Int.mul_le_mul_of_nonneg_left hb (show 0 ≤ 3 * (g * g * i) by omega)
  have e3 := Int.mul_le_mul_of_nonneg_left hc (show 0 ≤ 3 * (g * i * i) by omega)
  have e4 := Int.mul_le_mul_of_nonneg_left hd (Int.mul_nonneg (Int.mul_nonneg h0 h0) h0)
  omega
/-- A curve that is moved. -/
theorem at2_move (a b c t f i : Int) : at2 (a + t) (b + t) (c + t) f i = at2 a b c f i + t * (f * f) := by unfold at2; grind
theorem at3_move (a b c d t f i : Int) : at3 (a + t) (b + t) (c + t) (d + t) f i = at3 a b c d f i + t * (f * f * f) := by unfold at3; grind
theorem at2_scale (a b c t f i : Int) : at2 (t * a) (t * b) (t * c) f i = t * at2 a b c f i := by unfold at2; grind
theorem at3_scale (a b c d t f i : Int) : at3 (t * a) (t * b) (t * c) (t * d) f i = t * at3 a b c d f i := by unfold at3; grind
end Go.Proofs.Ythlealndopppaaa
