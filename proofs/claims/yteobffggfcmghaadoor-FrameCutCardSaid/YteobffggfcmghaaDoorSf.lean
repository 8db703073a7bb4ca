/- Layer 13: a number's bytes are read back just so. -/
import Derived.Test.YteobffggfcmghaaDoorSe
namespace Go.Proofs.YteobffggfcmghaaDoor
open Go.RowKit
theorem unzig_zig (n : Int) : unzigI (zigI n) = n := by
  unfold unzigI zigI
  split <;> split <;> omega
theorem digI_high : ∀ f z, 0 ≤ z → ∀ j, j + 1 < (digI f z).length → 128 ≤ bAt (digI f z) j
  | 0, z, _, j, h => by simp [digI] at h
  | f + 1, z, h0, j, h => by
    rw [digI] at h ⊢
    split at h
    · rename_i hz
      rw [if_pos hz]
      cases j with
      | zero => show 128 ≤ z % 128 + 128; omega
      | succ j =>
        rw [List.length_cons] at h
        exact digI_high f (z / 128) (by omega) j (by omega)
    · simp at h
theorem digI_last : ∀ f z, 0 ≤ z → z < 128 ^ (f + 1) → bAt (digI f z) ((digI f z).length - 1) ≤ 127
  | 0, z, h0, h1 => by simp at h1; simp [digI, bAt]; omega
  | f + 1, z, h0, h1 => by
    rw [digI]
    split
    · have h2 := digI_last f (z / 128) (by omega) (by rw [Int.pow_succ] at h1; omega)
      have h3 := (digI_len f (z / 128)).1
      obtain ⟨m, hm⟩ : ∃ m, (digI f (z / 128)).length = m + 1 := ⟨(digI f (z / 128)).length - 1, by omega⟩
      rw [List.length_cons, hm]
      rw [hm] at h2
      exact h2
    · simp [bAt]; omega
theorem valL_dig : ∀ f z, 0 ≤ z → z < 128 ^ (f + 1) → z ≤ 18446744073709551615 → valL (digI f z) = z
  | 0, z, h0, h1, h2 => by simp at h1; simp [digI, valL]; omega
  | f + 1, z, h0, h1, h2 => by
    rw [digI]
    split
    · rw [valL, valL_dig f (z / 128) (by omega) (by rw [Int.pow_succ] at h1; omega) (by omega)]
      omega
    · simp [valL]; omega
/-- Numbers in range. -/
def rngN (n : Int) : Prop := -9223372036854775808 ≤ n ∧ n ≤ 9223372036854775807
theorem intI_high {n : Int} (h : rngN n) {j : Nat} (hj : j + 1 < (intI n).length) : 128 ≤ bAt (intI n) j := digI_high 9 _ (zigI_in h).1 j hj
theorem intI_last {n : Int} (h : rngN n) : bAt (intI n) ((intI n).length - 1) ≤ 127 := digI_last 9 _ (zigI_in h).1 (by have := (zigI_in h).2; omega)
theorem intI_val {n : Int} (h : rngN n) : unzigI (valL (intI n)) = n := by
  unfold intI
  rw [valL_dig 9 _ (zigI_in h).1 (by have := (zigI_in h).2; omega) (zigI_in h).2, unzig_zig]
theorem bAt_mid (P L R : List Int) {j : Nat} (h : j < L.length) : bAt (P ++ (L ++ R)) (P.length + j) = bAt L j := by
  unfold bAt
  rw [List.getD_eq_getElem?_getD, List.getD_eq_getElem?_getD, List.getElem?_append_right (by omega), Nat.add_sub_cancel_left, List.getElem?_append_left h]
theorem cutL_mid (P L R : List Int) : cutL (P ++ (L ++ R)) P.length L.length = L := by
  unfold cutL
  rw [List.drop_left, List.take_left]
theorem readN_int {n : Int} (h : rngN n) (P R : List Int) : ∀ f k, f + k = 11 → 1 ≤ k → k ≤ (intI n).length → readN (P ++ (intI n ++ R)) P.length f k = (n, ((P.length + (intI n).length : Nat) : Int))
  | 0, k, hf, _, hk => by have := (intI_len n).2; omega
  | f + 1, k, hf, h1, hk => by
    have hl : P.length + k ≤ (P ++ (intI n ++ R)).length := by simp only [List.length_append]; omega
    rw [readN, if_pos hl, show P.length + k - 1 = P.length + (k - 1) by omega, bAt_mid P _ R (by omega)]
    by_cases hlast : k = (intI n).length
    · have h2 := intI_last h
      rw [← hlast] at h2
      rw [if_neg (by omega), hlast, cutL_mid, intI_val h, if_pos rfl]
    · rw [if_pos (intI_high h (by omega))]
      exact readN_int h P R f (k + 1) (by omega) (by omega) (by omega)
/-- What was put is read back: the number, and where it ends. -/
theorem readI_int {n : Int} (h : rngN n) (P R : List Int) : readI (P ++ (intI n ++ R)) P.length = (n, ((P.length + (intI n).length : Nat) : Int)) := readN_int h P R 10 1 rfl (by omega) (intI_len n).1
/-- What is read lies within the bytes; is in range. -/
theorem readN_in (B : List Int) (a0 : Nat) (hB : a0 ≤ B.length) : ∀ f k, 1 ≤ k → rngN (readN B a0 f k).1 ∧ ((readN B a0 f k).2 = -1 ∧ (readN B a0 f k).1 = 0 ∨ ((a0 : Int) < (readN B a0 f k).2 ∧ (readN B a0 f k).2 ≤ (B.length : Int)))
  | 0, k, _ => ⟨by unfold rngN readN; simp, .inl ⟨rfl, rfl⟩⟩
  | f + 1, k, h1 => by
    rw [readN]
    split
    · split
      · exact readN_in B a0 hB f (k + 1) (by omega)
      · split
        · exact ⟨unzigI_in (valL_in _), .inr ⟨by show (a0 : Int) < ((a0 + k : Nat) : Int); omega, by show ((a0 + k : Nat) : Int) ≤ _; omega⟩⟩
        · exact ⟨by unfold rngN; simp, .inl ⟨rfl, rfl⟩⟩
    · exact ⟨by unfold rngN; simp, .inl ⟨rfl, rfl⟩⟩
theorem readI_in {B : List Int} {a0 : Nat} (hB : a0 ≤ B.length) : rngN (readI B a0).1 ∧ ((readI B a0).2 = -1 ∧ (readI B a0).1 = 0 ∨ ((a0 : Int) < (readI B a0).2 ∧ (readI B a0).2 ≤ (B.length : Int))) := readN_in B a0 hB 10 1 (by omega)
end Go.Proofs.YteobffggfcmghaaDoor
