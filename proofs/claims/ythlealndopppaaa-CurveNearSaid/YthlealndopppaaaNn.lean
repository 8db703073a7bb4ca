/- Layer 5: the points of a flat curve lie near the very curve. -/
import Derived.Test.YthlealndopppaaaNm
namespace Go.Proofs.Ythlealndopppaaa
theorem near2 : ∀ (d : Nat) (p q r : Pt) (j : Nat) (z : Pt), (flatI d [p, q, r])[j]? = some z →
    (0 ≤ at2 p.1 q.1 r.1 (2 ^ d) (j + 1) - z.1 * (2 ^ d * 2 ^ d) ∧ at2 p.1 q.1 r.1 (2 ^ d) (j + 1) - z.1 * (2 ^ d * 2 ^ d) ≤ 2 * d * (2 ^ d * 2 ^ d)) ∧
    (0 ≤ at2 p.2 q.2 r.2 (2 ^ d) (j + 1) - z.2 * (2 ^ d * 2 ^ d) ∧ at2 p.2 q.2 r.2 (2 ^ d) (j + 1) - z.2 * (2 ^ d * 2 ^ d) ≤ 2 * d * (2 ^ d * 2 ^ d))
  | 0, p, q, r, j, z, h => by
    cases j with
    | succ j => simp [flatI] at h
    | zero =>
      simp [flatI] at h
      subst h
      simp [at2]
  | d + 1, p, q, r, j, z, h => by
    have one : ∀ (a b c m k x zz f i : Int), 0 ≤ i → i ≤ f → (a + b) / 2 = m → (b + c) / 2 = k → (m + k) / 2 = x → 0 ≤ at2 a m x f i - zz * (f * f) → at2 a m x f i - zz * (f * f) ≤ 2 * d * (f * f) →
        0 ≤ at2 a b c (2 * f) i - zz * (2 * f * (2 * f)) ∧ at2 a b c (2 * f) i - zz * (2 * f * (2 * f)) ≤ 2 * ((d + 1 : Nat) : Int) * (2 * f * (2 * f)) := by
      intro a b c m k x zz f i h0 h1 hm hk hx lo hi
      have e1 := at2_le (4 * a) (4 * m) (4 * x) (4 * a) (2 * a + 2 * b) (a + 2 * b + c) f i h0 h1 (by omega) (by omega) (by omega)
      have e2 := at2_le (4 * a) (2 * a + 2 * b) (a + 2 * b + c) (4 * a + 8) (4 * m + 8) (4 * x + 8) f i h0 h1 (by omega) (by omega) (by omega)
      rw [at2_move] at e2
      rw [at2_scale] at e1 e2
      rw [at2_first]
      have r1 : zz * (2 * f * (2 * f)) = 4 * (zz * (f * f)) := by grind
      have r2 : 2 * ((d + 1 : Nat) : Int) * (2 * f * (2 * f)) = 4 * (2 * (d : Int) * (f * f)) + 8 * (f * f) := by push_cast; grind
      rw [r1, r2]
      omega
    have two : ∀ (a b c m k x zz f i : Int), 0 ≤ i → i ≤ f → (a + b) / 2 = m → (b + c) / 2 = k → (m + k) / 2 = x → 0 ≤ at2 x k c f i - zz * (f * f) → at2 x k c f i - zz * (f * f) ≤ 2 * d * (f * f) →
        0 ≤ at2 a b c (2 * f) (f + i) - zz * (2 * f * (2 * f)) ∧ at2 a b c (2 * f) (f + i) - zz * (2 * f * (2 * f)) ≤ 2 * ((d + 1 : Nat) : Int) * (2 * f * (2 * f)) := by
      intro a b c m k x zz f i h0 h1 hm hk hx lo hi
      have e1 := at2_le (4 * x) (4 * k) (4 * c) (a + 2 * b + c) (2 * b + 2 * c) (4 * c) f i h0 h1 (by omega) (by omega) (by omega)
      have e2 := at2_le (a + 2 * b + c) (2 * b + 2 * c) (4 * c) (4 * x + 8) (4 * k + 8) (4 * c + 8) f i h0 h1 (by omega) (by omega) (by omega)
      rw [at2_move] at e2
      rw [at2_scale] at e1 e2
      rw [at2_second]
      have r1 : zz * (2 * f * (2 * f)) = 4 * (zz * (f * f)) := by grind
      have r2 : 2 * ((d + 1 : Nat) : Int) * (2 * f * (2 * f)) = 4 * (2 * (d : Int) * (f * f)) + 8 * (f * f) := by push_cast; grind
      rw [r1, r2]
      omega
    have hp2 : (2 : Int) ^ (d + 1) = 2 * 2 ^ d := by rw [Int.pow_succ, Int.mul_comm]
    have hnat : (2 : Int) ^ d = ((2 ^ d : Nat) : Int) := by simp
    have hlen := flatI_length d (firstI [p, q, r])
    rw [hp2]
    rw [flatI] at h
    by_cases hj : j < 2 ^ d
    · rw [List.getElem?_append_left (by omega)] at h
      obtain ⟨⟨x1, x2⟩, y1, y2⟩ := near2 d p (midI p q) (midI (midI p q) (midI q r)) j z h
      have hi : (0 : Int) ≤ (j : Int) + 1 := by omega
      have hi2 : (j : Int) + 1 ≤ 2 ^ d := by rw [hnat]; omega
      exact ⟨one _ _ _ _ _ _ _ _ _ hi hi2 rfl rfl rfl x1 x2, one _ _ _ _ _ _ _ _ _ hi hi2 rfl rfl rfl y1 y2⟩
    · obtain ⟨i, rfl⟩ : ∃ i, j = 2 ^ d + i := ⟨j - 2 ^ d, by omega⟩
      rw [List.getElem?_append_right (by omega), hlen, Nat.add_sub_cancel_left] at h
      have hi3 : i < 2 ^ d := by
        have := (List.getElem?_eq_some_iff.1 h).1
        rwa [flatI_length] at this
      obtain ⟨⟨x1, x2⟩, y1, y2⟩ := near2 d (midI (midI p q) (midI q r)) (midI q r) r i z h
      have hi : (0 : Int) ≤ (i : Int) + 1 := by omega
      have hi2 : (i : Int) + 1 ≤ 2 ^ d := by rw [hnat]; omega
      have ej : ((2 ^ d + i : Nat) : Int) + 1 = 2 ^ d + ((i : Int) + 1) := by rw [hnat]; omega
      rw [ej]
      exact ⟨two _ _ _ _ _ _ _ _ _ hi hi2 rfl rfl rfl x1 x2, two _ _ _ _ _ _ _ _ _ hi hi2 rfl rfl rfl y1 y2⟩
theorem near3 : ∀ (d : Nat) (p q r s : Pt) (j : Nat) (z : Pt), (flatI d [p, q, r, s])[j]? = some z →
    (0 ≤ at3 p.1 q.1 r.1 s.1 (2 ^ d) (j + 1) - z.1 * (2 ^ d * 2 ^ d * 2 ^ d) ∧ at3 p.1 q.1 r.1 s.1 (2 ^ d) (j + 1) - z.1 * (2 ^ d * 2 ^ d * 2 ^ d) ≤ 2 * d * (2 ^ d * 2 ^ d * 2 ^ d)) ∧
    (0 ≤ at3 p.2 q.2 r.2 s.2 (2 ^ d) (j + 1) - z.2 * (2 ^ d * 2 ^ d * 2 ^ d) ∧ at3 p.2 q.2 r.2 s.2 (2 ^ d) (j + 1) - z.2 * (2 ^ d * 2 ^ d * 2 ^ d) ≤ 2 * d * (2 ^ d * 2 ^ d * 2 ^ d))
  | 0, p, q, r, s, j, z, h => by
    cases j with
    | succ j => simp [flatI] at h
    | zero =>
      simp [flatI] at h
      subst h
      simp [at3]
  | d + 1, p, q, r, s, j, z, h => by
    have one : ∀ (a b c e m k n x y u zz f i : Int), 0 ≤ i → i ≤ f → (a + b) / 2 = m → (b + c) / 2 = k → (c + e) / 2 = n → (m + k) / 2 = x → (k + n) / 2 = y → (x + y) / 2 = u → 0 ≤ at3 a m x u f i - zz * (f * f * f) → at3 a m x u f i - zz * (f * f * f) ≤ 2 * d * (f * f * f) →
        0 ≤ at3 a b c e (2 * f) i - zz * (2 * f * (2 * f) * (2 * f)) ∧ at3 a b c e (2 * f) i - zz * (2 * f * (2 * f) * (2 * f)) ≤ 2 * ((d + 1 : Nat) : Int) * (2 * f * (2 * f) * (2 * f)) := by
      intro a b c e m k n x y u zz f i h0 h1 hm hk hn hx hy hu lo hi
      have e1 := at3_le (8 * a) (8 * m) (8 * x) (8 * u) (8 * a) (4 * a + 4 * b) (2 * a + 4 * b + 2 * c) (a + 3 * b + 3 * c + e) f i h0 h1 (by omega) (by omega) (by omega) (by omega)
      have e2 := at3_le (8 * a) (4 * a + 4 * b) (2 * a + 4 * b + 2 * c) (a + 3 * b + 3 * c + e) (8 * a + 16) (8 * m + 16) (8 * x + 16) (8 * u + 16) f i h0 h1 (by omega) (by omega) (by omega) (by omega)
      rw [at3_move] at e2
      rw [at3_scale] at e1 e2
      rw [at3_first]
      have r1 : zz * (2 * f * (2 * f) * (2 * f)) = 8 * (zz * (f * f * f)) := by grind
      have r2 : 2 * ((d + 1 : Nat) : Int) * (2 * f * (2 * f) * (2 * f)) = 8 * (2 * (d : Int) * (f * f * f)) + 16 * (f * f * f) := by push_cast; grind
      rw [r1, r2]
      omega
    have two : ∀ (a b c e m k n x y u zz f i : Int), 0 ≤ i → i ≤ f → (a + b) / 2 = m → (b + c) / 2 = k → (c + e) / 2 = n → (m + k) / 2 = x → (k + n) / 2 = y → (x + y) / 2 = u → 0 ≤ at3 u y n e f i - zz * (f * f * f) → at3 u y n e f i - zz * (f * f * f) ≤ 2 * d * (f * f * f) →
        0 ≤ at3 a b c e (2 * f) (f + i) - zz * (2 * f * (2 * f) * (2 * f)) ∧ at3 a b c e (2 * f) (f + i) - zz * (2 * f * (2 * f) * (2 * f)) ≤ 2 * ((d + 1 : Nat) : Int) * (2 * f * (2 * f) * (2 * f)) := by
      intro a b c e m k n x y u zz f i h0 h1 hm hk hn hx hy hu lo hi
      have e1 := at3_le (8 * u) (8 * y) (8 * n) (8 * e) (a + 3 * b + 3 * c + e) (2 * b + 4 * c + 2 * e) (4 * c + 4 * e) (8 * e) f i h0 h1 (by omega) (by omega) (by omega) (by omega)
      have e2 := at3_le (a + 3 * b + 3 * c + e) (2 * b + 4 * c + 2 * e) (4 * c + 4 * e) (8 * e) (8 * u + 16) (8 * y + 16) (8 * n + 16) (8 * e + 16) f i h0 h1 (by omega) (by omega) (by omega) (by omega)
      rw [at3_move] at e2
      rw [at3_scale] at e1 e2
      rw [at3_second]
      have r1 : zz * (2 * f * (2 * f) * (2 * f)) = 8 * (zz * (f * f * f)) := by grind
      have r2 : 2 * ((d + 1 : Nat) : Int) * (2 * f * (2 * f) * (2 * f)) = 8 * (2 * (d : Int) * (f * f * f)) + 16 * (f * f * f) := by push_cast; grind
      rw [r1, r2]
      omega
    have hp2 : (2 : Int) ^ (d + 1) = 2 * 2 ^ d := by rw [Int.pow_succ, Int.mul_comm]
    have hnat : (2 : Int) ^ d = ((2 ^ d : Nat) : Int) := by simp
    have hlen := flatI_length d (firstI [p, q, r, s])
    rw [hp2]
    rw [flatI] at h
    by_cases hj : j < 2 ^ d
    · rw [List.getElem?_append_left (by omega)] at h
      obtain ⟨⟨x1, x2⟩, y1, y2⟩ := near3 d p (midI p q) (midI (midI p q) (midI q r)) (midI (midI (midI p q) (midI q r)) (midI (midI q r) (midI r s))) j z h
      have hi : (0 : Int) ≤ (j : Int) + 1 := by omega
      have hi2 : (j : Int) + 1 ≤ 2 ^ d := by rw [hnat]; omega
      exact ⟨one _ _ _ _ _ _ _ _ _ _ _ _ _ hi hi2 rfl rfl rfl rfl rfl rfl x1 x2, one _ _ _ _ _ _ _ _ _ _ _ _ _ hi hi2 rfl rfl rfl rfl rfl rfl y1 y2⟩
    · obtain ⟨i, rfl⟩ : ∃ i, j = 2 ^ d + i := ⟨j - 2 ^ d, by omega⟩
      rw [List.getElem?_append_right (by omega), hlen, Nat.add_sub_cancel_left] at h
      have hi3 : i < 2 ^ d := by
        have := (List.getElem?_eq_some_iff.1 h).1
        rwa [flatI_length] at this
      obtain ⟨⟨x1, x2⟩, y1, y2⟩ := near3 d (midI (midI (midI p q) (midI q r)) (midI (midI q r) (midI r s))) (midI (midI q r) (midI r s)) (midI r s) s i z h
      have hi : (0 : Int) ≤ (i : Int) + 1 := by omega
      have hi2 : (i : Int) + 1 ≤ 2 ^ d := by rw [hnat]; omega
      have ej : ((2 ^ d + i : Nat) : Int) + 1 = 2 ^ d + ((i : Int) + 1) := by rw [hnat]; omega
      rw [ej]
      exact ⟨two _ _ _ _ _ _ _ _ _ _ _ _ _ hi hi2 rfl rfl rfl rfl rfl rfl x1 x2, two _ _ _ _ _ _ _ _ _ _ _ _ _ hi hi2 rfl rfl rfl rfl rfl rfl y1 y2⟩
end Go.Proofs.Ythlealndopppaaa
