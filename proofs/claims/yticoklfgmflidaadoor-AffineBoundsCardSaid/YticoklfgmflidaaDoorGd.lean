/- limnerref03: the product in parts, and the side. -/
import Derived.Test.YticoklfgmflidaaDoorGc
namespace Go.Proofs.YticoklfgmflidaaDoor
open Go.RowKit

theorem part_facts (a b : Int) (h1 : 0 < a) (h2 : a ≤ 8589934592) (h3 : 0 < b) (h4 : b ≤ 8589934592) :
    (0 ≤ a % 65536 * b ∧ a % 65536 * b ≤ 562949953421312) ∧ (0 ≤ a / 65536 * b ∧ a / 65536 * b ≤ 1125899906842624) ∧ (a / 65536 * b + a % 65536 * b / 65536) * 65536 + a % 65536 * b % 65536 = a * b := by
  obtain ⟨A, rfl⟩ := Int.eq_ofNat_of_zero_le (show 0 ≤ a by omega)
  obtain ⟨B, rfl⟩ := Int.eq_ofNat_of_zero_le (show 0 ≤ b by omega)
  have k1 := Nat.mul_le_mul (show A % 65536 ≤ 65535 by omega) (show B ≤ 8589934592 by omega)
  have k2 := Nat.mul_le_mul (show A / 65536 ≤ 131072 by omega) (show B ≤ 8589934592 by omega)
  have e1 : ((A % 65536 * B : Nat) : Int) = (A : Int) % 65536 * B := by simp
  have e2 : ((A / 65536 * B : Nat) : Int) = (A : Int) / 65536 * B := by simp
  have e3 : (A : Int) / 65536 * B * 65536 + (A : Int) % 65536 * B = A * B := by
    have := Int.mul_ediv_add_emod (A : Int) 65536
    rw [Int.mul_right_comm, ← Int.add_mul, Int.mul_comm _ 65536, this]
  rw [← e1, ← e2] at *
  generalize A % 65536 * B = p at *
  generalize A / 65536 * B = q at *
  generalize (A : Int) * B = z at *
  omega
/-- Three numbers that tell a number: its sign, and its size in two parts. -/
def Rep (x s m n : Int) : Prop := 0 ≤ m ∧ 0 ≤ n ∧ n < 65536 ∧ (s = 0 ∧ m = 0 ∧ n = 0 ∧ x = 0 ∨ s = 1 ∧ x = m * 65536 + n ∧ 0 < x ∨ s = -1 ∧ x = -(m * 65536 + n) ∧ x < 0)
def sideR (s m n t p q : Int) : Int := if s = t then if m = p ∧ n = q then 0 else if p < m ∨ m = p ∧ q < n then s else -s else if t < s then 1 else -1
theorem sideR_eq {x y s m n t p q : Int} (h1 : Rep x s m n) (h2 : Rep y t p q) : sideR s m n t p q = cmpI x y := by
  unfold Rep at h1 h2
  unfold sideR cmpI
  repeat' split
  all_goals omega
end Go.Proofs.YticoklfgmflidaaDoor

