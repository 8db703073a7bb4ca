/- Layer 5: weights, as lists. -/
import Derived.Test.YthlealndopppaaaO
import Derived.Test.YthlealndopppaaaNm
namespace Go.Proofs.Ythlealndopppaaa
open Go.RowKit
/-- An entry of the next row of weights, when J entries of this one have been dealt out. -/
def nxtE (W : List Int) (g i : Int) (J t : Nat) : Int := (if t < J then W.getD t 0 * g else 0) + (if 0 < t ∧ t ≤ J then W.getD (t - 1) 0 * i else 0)
def nxt (W : List Int) (g i : Int) (J : Nat) : List Int := (List.range (W.length + 1)).map (nxtE W g i J)
theorem nxt_length (W : List Int) (g i : Int) (J : Nat) : (nxt W g i J).length = W.length + 1 := by simp [nxt]
theorem nxt_at (W : List Int) (g i : Int) (J t : Nat) (h : t < W.length + 1) : (nxt W g i J)[t]? = some (nxtE W g i J t) := by
  unfold nxt; rw [List.getElem?_map, List.getElem?_range h]; rfl
theorem nxt_zero (W : List Int) (g i : Int) : nxt W g i 0 = List.replicate (W.length + 1) 0 := by
  apply List.ext_getElem?
  intro t
  by_cases h : t < W.length + 1
  · rw [nxt_at _ _ _ _ _ h, List.getElem?_replicate, if_pos h]
    unfold nxtE
    rw [if_neg (by omega), if_neg (by omega)]; rfl
  · rw [List.getElem?_eq_none (by rw [nxt_length]; omega), List.getElem?_eq_none (by simp; omega)]
theorem nxt_step (W : List Int) (g i : Int) (J : Nat) : ((nxt W g i J).set J (nxtE W g i J J + W.getD J 0 * g)).set (J + 1) (nxtE W g i J (J + 1) + W.getD J 0 * i) = nxt W g i (J + 1) := by
  apply List.ext_getElem?
  intro t
  by_cases h : t < W.length + 1
  · rw [nxt_at _ _ _ _ _ h, List.getElem?_set, List.getElem?_set]
    simp only [List.length_set, nxt_length]
    by_cases h1 : J + 1 = t
    · subst h1
      rw [if_pos rfl, if_pos h]
      congr 1
      unfold nxtE
      simp only [Nat.add_sub_cancel]
      (repeat' split) <;> omega
    · rw [if_neg h1]
      by_cases h2 : J = t
      · subst h2
        rw [if_pos rfl, if_pos (by omega)]
        congr 1
        unfold nxtE
        (repeat' split) <;> omega
      · rw [if_neg h2, nxt_at _ _ _ _ _ h]
        congr 1
        unfold nxtE
        (repeat' split) <;> omega
  · rw [List.getElem?_eq_none (by simp [nxt_length]; omega), List.getElem?_eq_none (by rw [nxt_length]; omega)]
theorem mul_bound {a g B : Int} (h : 0 ≤ a ∧ a ≤ B) (k : 0 ≤ g ∧ g ≤ 64) : 0 ≤ a * g ∧ a * g ≤ 64 * B := by
  constructor
  · exact Int.mul_nonneg h.1 k.1
  · have := Int.mul_le_mul h.2 k.2 k.1 (by omega)
    omega
theorem getD_bound {W : List Int} {B : Int} (hB : 0 ≤ B) (h : ∀ a ∈ W, 0 ≤ a ∧ a ≤ B) (t : Nat) : 0 ≤ W.getD t 0 ∧ W.getD t 0 ≤ B := by
  rw [List.getD_eq_getElem?_getD]
  cases hq : W[t]? with
  | none => simp; exact hB
  | some a => exact h a (List.mem_of_getElem? hq)
theorem nxtE_bound {W : List Int} {g i B : Int} (hB : 0 ≤ B) (h : ∀ a ∈ W, 0 ≤ a ∧ a ≤ B) (hg : 0 ≤ g ∧ g ≤ 64) (hi : 0 ≤ i ∧ i ≤ 64) (J t : Nat) : 0 ≤ nxtE W g i J t ∧ nxtE W g i J t ≤ 128 * B := by
  have h1 := mul_bound (getD_bound hB h t) hg
  have h2 := mul_bound (getD_bound hB h (t - 1)) hi
  unfold nxtE
  split <;> split <;> omega
/-- The weights, row by row. -/
def wI (g i : Int) : Nat → List Int
  | 0 => [1]
  | k + 1 => nxt (wI g i k) g i (k + 1)
theorem wI_length (g i : Int) : ∀ k, (wI g i k).length = k + 1
  | 0 => rfl
  | k + 1 => by rw [wI, nxt_length, wI_length g i k]
theorem nxt_bound {W : List Int} {g i B : Int} (hB : 0 ≤ B) (h : ∀ a ∈ W, 0 ≤ a ∧ a ≤ B) (hg : 0 ≤ g ∧ g ≤ 64) (hi : 0 ≤ i ∧ i ≤ 64) (J : Nat) : ∀ a ∈ nxt W g i J, 0 ≤ a ∧ a ≤ 128 * B := by
  intro a ha
  unfold nxt at ha
  obtain ⟨t, _, rfl⟩ := List.mem_map.1 ha
  exact nxtE_bound hB h hg hi J t
theorem wI_bound (g i : Int) (hg : 0 ≤ g ∧ g ≤ 64) (hi : 0 ≤ i ∧ i ≤ 64) (k : Nat) (hk : k ≤ 3) : ∀ a ∈ wI g i k, 0 ≤ a ∧ a ≤ 2097152 := by
  have b0 : ∀ a ∈ wI g i 0, 0 ≤ a ∧ a ≤ 1 := by intro a ha; simp [wI] at ha; omega
  have b1 : ∀ a ∈ wI g i 1, 0 ≤ a ∧ a ≤ 128 * 1 := nxt_bound (by omega) b0 hg hi 1
  have b2 : ∀ a ∈ wI g i 2, 0 ≤ a ∧ a ≤ 128 * (128 * 1) := nxt_bound (by omega) b1 hg hi 2
  have b3 : ∀ a ∈ wI g i 3, 0 ≤ a ∧ a ≤ 128 * (128 * (128 * 1)) := nxt_bound (by omega) b2 hg hi 3
  intro a ha
  have : k = 0 ∨ k = 1 ∨ k = 2 ∨ k = 3 := by omega
  rcases this with rfl | rfl | rfl | rfl
  · have := b0 a ha; omega
  · have := b1 a ha; omega
  · have := b2 a ha; omega
  · have := b3 a ha; omega
theorem wI_two (g i : Int) : wI g i 2 = [g * g, 2 * (g * i), i * i] := by
  simp [wI, nxt, nxtE, List.range, List.range.loop]
  grind
theorem wI_three (g i : Int) : wI g i 3 = [g * g * g, 3 * (g * g * i), 3 * (g * i * i), i * i * i] := by
  rw [wI, wI_two]
  simp [nxt, nxtE, List.range, List.range.loop]
  grind
end Go.Proofs.Ythlealndopppaaa
