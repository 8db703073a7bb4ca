/- Layer 15: the document: letters. -/
import Derived.Test.YtbnbglngpgikfaaGreatDoorQa
namespace Go.Proofs.YtbnbglngpgikfaaGreatDoor
open Go.RowKit Go.Shelf
attribute [local go_sem] Oper.semAt_some
theorem rletter_walk (f : FuncId) (n : Nat) (w : World) (hn : n < 256) (hf : f = 31) :
    Calls Tryz.prog f #[.int .u8 (n : Int)] w fun e w' => e = .returned (.bool ((decide (65 ≤ n) && decide (n ≤ 90)) || (decide (97 ≤ n) && decide (n ≤ 122)))) ∧ w = w' := by
  subst hf
  rcases (by omega : n < 65 ∨ (65 ≤ n ∧ n ≤ 90) ∨ (90 < n ∧ n < 97) ∨ (97 ≤ n ∧ n ≤ 122) ∨ 122 < n) with h | ⟨h, h'⟩ | ⟨h, h'⟩ | ⟨h, h'⟩ | h
  · have e1 : decide ((n : Int) ≥ 65) = false := by simp; omega
    have e2 : decide ((n : Int) ≥ 97) = false := by simp; omega
    have HF : Hid (((decide (65 ≤ n) && decide (n ≤ 90)) || (decide (97 ≤ n) && decide (n ≤ 122))) = false) := by unfold Hid; simp; omega
    rw [HF.out]
    clear h hn
    go_enter Tryz.func31, Tryz.ntmps31
    go_wp2
    go_ret
    exact ⟨rfl, rfl⟩
  · have e1 : decide ((n : Int) ≥ 65) = true := by simp; omega
    have e2 : decide ((n : Int) ≤ 90) = true := by simp; omega
    have HF : Hid (((decide (65 ≤ n) && decide (n ≤ 90)) || (decide (97 ≤ n) && decide (n ≤ 122))) = true) := by unfold Hid; simp; omega
    rw [HF.out]
    clear h h' hn
    go_enter Tryz.func31, Tryz.ntmps31
    go_wp2
    go_ret
    exact ⟨rfl, rfl⟩
  · have e1 : decide ((n : Int) ≥ 65) = true := by simp; omega
    have e2 : decide ((n : Int) ≤ 90) = false := by simp; omega
    have e3 : decide ((n : Int) ≥ 97) = false := by simp; omega
    have HF : Hid (((decide (65 ≤ n) && decide (n ≤ 90)) || (decide (97 ≤ n) && decide (n ≤ 122))) = false) := by unfold Hid; simp; omega
    rw [HF.out]
    clear h h' hn
    go_enter Tryz.func31, Tryz.ntmps31
    go_wp2
    go_ret
    exact ⟨rfl, rfl⟩
  · have e1 : decide ((n : Int) ≥ 65) = true := by simp; omega
    have e2 : decide ((n : Int) ≤ 90) = false := by simp; omega
    have e3 : decide ((n : Int) ≥ 97) = true := by simp; omega
    have e4 : decide ((n : Int) ≤ 122) = true := by simp; omega
    have HF : Hid (((decide (65 ≤ n) && decide (n ≤ 90)) || (decide (97 ≤ n) && decide (n ≤ 122))) = true) := by unfold Hid; simp; omega
    rw [HF.out]
    clear h h' hn
    go_enter Tryz.func31, Tryz.ntmps31
    go_wp2
    go_ret
    exact ⟨rfl, rfl⟩
  · have e1 : decide ((n : Int) ≥ 65) = true := by simp; omega
    have e2 : decide ((n : Int) ≤ 90) = false := by simp; omega
    have e3 : decide ((n : Int) ≥ 97) = true := by simp; omega
    have e4 : decide ((n : Int) ≤ 122) = false := by simp; omega
    have HF : Hid (((decide (65 ≤ n) && decide (n ≤ 90)) || (decide (97 ≤ n) && decide (n ≤ 122))) = false) := by unfold Hid; simp; omega
    rw [HF.out]
    clear h hn
    go_enter Tryz.func31, Tryz.ntmps31
    go_wp2
    go_ret
    exact ⟨rfl, rfl⟩
theorem refIsLetter_c (c : UInt8) (w : World) : Calls Tryz.prog 31 #[.int .u8 (c.toNat : Int)] w fun e w' => e = .returned (.bool (letB c)) ∧ w = w' :=
  rletter_walk _ c.toNat w (UInt8.toNat_lt c) rfl
/-- What the document asks of a byte: a gap, one comparison behind the other. -/
theorem gap_parts {c : UInt8} : (gapB c = true → (((c.toNat : Int) == 32) = true) ∨ ((((c.toNat : Int) == 32) = false) ∧ ((c.toNat : Int) == 44) = true) ∨ ((((c.toNat : Int) == 32) = false) ∧ (((c.toNat : Int) == 44) = false) ∧ ((c.toNat : Int) == 10) = true)) ∧
    (gapB c = false → (((c.toNat : Int) == 32) = false) ∧ (((c.toNat : Int) == 44) = false) ∧ (((c.toNat : Int) == 10) = false)) := by
  have g : ∀ n : UInt8, c = n ↔ c.toNat = n.toNat := fun n => ⟨fun h => by rw [h], fun h => UInt8.toNat_inj.1 h⟩
  have g1 := g 32; have g2 := g 44; have g3 := g 10
  unfold gapB
  rw [show (32 : UInt8).toNat = 32 from rfl] at g1
  rw [show (44 : UInt8).toNat = 44 from rfl] at g2
  rw [show (10 : UInt8).toNat = 10 from rfl] at g3
  simp only [g1, g2, g3]
  constructor
  · intro h
    simp at h ⊢
    omega
  · intro h
    simp at h ⊢
    omega
end Go.Proofs.YtbnbglngpgikfaaGreatDoor
