/- Layer 13: numbers as package frame reads them: group by group. -/
import Derived.Test.YteobffggfcmghaaDoorUc
namespace Go.Proofs.YteobffggfcmghaaDoor
open Go.RowKit
/-- The number that bytes begin with, and how many bytes it has (behind k groups that say acc). -/
def numF : List Int → Nat → Int → Option (Int × Nat)
  | [], _, _ => none
  | c :: r, k, acc => if c % 128 * 2 ^ (7 * k) < 18446744073709551616 then (if 128 ≤ c then numF r (k + 1) (acc + c % 128 * 2 ^ (7 * k)) else if c = 0 ∧ 0 < k then none else some (acc + c % 128 * 2 ^ (7 * k), k + 1)) else none
theorem pow7 (k : Nat) : (2 : Int) ^ (7 * (k + 1)) = 2 ^ (7 * k) * 128 := by
  rw [Nat.mul_add, Nat.mul_one, Int.pow_add]; rfl
theorem pow_pos7 (k : Nat) : (1 : Int) ≤ 2 ^ (7 * k) := Int.add_one_le_of_lt (Int.pow_pos (by decide))
theorem pow_big {k : Nat} (h : 10 ≤ k) : (18446744073709551616 : Int) ≤ 2 ^ (7 * k) := by
  obtain ⟨j, rfl⟩ : ∃ j, k = 10 + j := ⟨k - 10, by omega⟩
  rw [Nat.mul_add, Int.pow_add]
  have h1 := pow_pos7 j
  have h2 : (2 : Int) ^ (7 * 10) = 1180591620717411303424 := by decide
  rw [h2]
  omega
theorem numF_big : ∀ (E : List Int) (k : Nat) (acc : Int), OkB E → 10 ≤ k → numF E k acc = none
  | [], _, _, _, _ => rfl
  | c :: r, k, acc, hE, hk => by
    rw [numF]
    split
    · rename_i h
      have hb := pow_big hk
      have hc := hE c (List.mem_cons_self ..)
      have hg : c % 128 = 0 := by
        rcases (show c % 128 = 0 ∨ 1 ≤ c % 128 by omega) with h0 | h1
        · exact h0
        · have := Int.mul_le_mul h1 hb (by omega) (by omega)
          omega
      split
      · exact numF_big r (k + 1) _ (fun x hx => hE x (List.mem_cons_of_mem _ hx)) (by omega)
      · rw [if_pos ⟨by omega, by omega⟩]
    · rfl
theorem digI_small {f : Nat} {y : Int} (h : y ≤ 127) : digI f y = [y] := by
  cases f with
  | zero => rfl
  | succ f => rw [digI, if_neg (by omega)]
theorem mul_lt {a b p m : Int} (h : b * p < m) (ha : a ≤ b) (hp : 1 ≤ p) : a * p < m :=
  Int.lt_of_le_of_lt (Int.mul_le_mul_of_nonneg_right ha (by omega)) h
theorem numF_dig : ∀ (f k : Nat) (y acc : Int) (R : List Int), f + k = 9 → 0 ≤ y → y * 2 ^ (7 * k) < 18446744073709551616 → (0 < k → y ≠ 0) → numF (digI f y ++ R) k acc = some (acc + y * 2 ^ (7 * k), k + (digI f y).length) := by
  have last : ∀ (f k : Nat) (y acc : Int) (R : List Int), 0 ≤ y → y ≤ 127 → y * 2 ^ (7 * k) < 18446744073709551616 → (0 < k → y ≠ 0) → numF (digI f y ++ R) k acc = some (acc + y * 2 ^ (7 * k), k + (digI f y).length) := by
    intro f k y acc R h0 h1 h2 h3
    rw [digI_small h1]
    show numF (y :: R) k acc = _
    have e : y % 128 = y := by omega
    rw [numF, e, if_pos h2, if_neg (by omega), if_neg (fun ⟨a, b⟩ => h3 b a)]
    rfl
  intro f
  induction f with
  | zero =>
    intro k y acc R hk h0 h2 h3
    refine last 0 k y acc R h0 ?_ h2 h3
    obtain rfl : k = 9 := by omega
    have e : (2 : Int) ^ (7 * 9) = 9223372036854775808 := by decide
    rw [e] at h2
    omega
  | succ f ih =>
    intro k y acc R hk h0 h2 h3
    by_cases h1 : y ≤ 127
    · exact last (f + 1) k y acc R h0 h1 h2 h3
    have hp := pow_pos7 k
    have e : digI (f + 1) y = (y % 128 + 128) :: digI f (y / 128) := by rw [digI, if_pos (by omega)]
    have hm : (y % 128 + 128) % 128 = y % 128 := by omega
    have hs : y / 128 * 2 ^ (7 * (k + 1)) = y / 128 * 128 * 2 ^ (7 * k) := by rw [pow7]; ac_rfl
    rw [e]
    show numF ((y % 128 + 128) :: (digI f (y / 128) ++ R)) k acc = _
    rw [numF, hm, if_pos (mul_lt h2 (by omega) hp), if_pos (by omega), ih (k + 1) (y / 128) _ R (by omega) (by omega) (by rw [hs]; exact mul_lt h2 (by omega) hp) (by omega)]
    have hv : acc + y % 128 * 2 ^ (7 * k) + y / 128 * 2 ^ (7 * (k + 1)) = acc + y * 2 ^ (7 * k) := by
      rw [hs, Int.add_assoc, ← Int.add_mul]
      congr 2
      omega
    rw [hv, List.length_cons]
    congr 2
    omega
theorem numF_some : ∀ (E : List Int) (k : Nat) (acc z : Int) (m : Nat), OkB E → k ≤ 9 → numF E k acc = some (z, m) → ∃ y R, E = digI (9 - k) y ++ R ∧ z = acc + y * 2 ^ (7 * k) ∧ m = k + (digI (9 - k) y).length ∧ 0 ≤ y ∧ y * 2 ^ (7 * k) < 18446744073709551616 ∧ (0 < k → y ≠ 0)
  | [], _, _, _, _, _, _, h => by cases h
  | c :: r, k, acc, z, m, hE, hk, h => by
    have hc := hE c (List.mem_cons_self ..)
    have hr : OkB r := fun x hx => hE x (List.mem_cons_of_mem _ hx)
    rw [numF] at h
    split at h
    · rename_i hlt
      split at h
      · rename_i hc128
        by_cases h9 : k = 9
        · rw [numF_big r (k + 1) _ hr (by omega)] at h
          cases h
        obtain ⟨y, R, e1, e2, e3, e4, e5, e6⟩ := numF_some r (k + 1) _ z m hr (by omega) h
        have hy : y ≠ 0 := e6 (by omega)
        have hf : 9 - k = (9 - (k + 1)) + 1 := by omega
        have hd : digI (9 - k) (c % 128 + 128 * y) = c :: digI (9 - (k + 1)) y := by
          rw [hf, digI, if_pos (by omega)]
          have q1 : (c % 128 + 128 * y) % 128 + 128 = c := by omega
          have q2 : (c % 128 + 128 * y) / 128 = y := by omega
          rw [q1, q2]
        refine ⟨c % 128 + 128 * y, R, ?_, ?_, ?_, by omega, ?_, fun _ => by omega⟩
        · rw [hd, e1]; rfl
        · rw [e2, pow7, Int.add_mul]
          rw [show y * (2 ^ (7 * k) * 128) = 128 * y * 2 ^ (7 * k) by ac_rfl, Int.add_assoc]
        · rw [hd, e3, List.length_cons]; omega
        · rw [pow7] at e5
          have hk8 : k = 0 ∨ k = 1 ∨ k = 2 ∨ k = 3 ∨ k = 4 ∨ k = 5 ∨ k = 6 ∨ k = 7 ∨ k = 8 := by omega
          clear hlt h e1 e2 e3 e6 hd hf
          rcases hk8 with rfl | rfl | rfl | rfl | rfl | rfl | rfl | rfl | rfl <;> simp only [Nat.mul_zero, Nat.reduceMul, Int.reducePow, Int.pow_zero] at e5 ⊢ <;> omega
      · split at h
        · cases h
        · rename_i hc128 hz
          obtain ⟨rfl, rfl⟩ := Prod.mk.inj (Option.some.inj h)
          have e : c % 128 = c := by omega
          rw [e] at hlt ⊢
          refine ⟨c, r, by rw [digI_small (by omega)]; rfl, rfl, by rw [digI_small (by omega)]; rfl, hc.1, hlt, fun h0 e0 => hz ⟨e0, h0⟩⟩
    · cases h
theorem zig_unzig {z : Int} (h : 0 ≤ z ∧ z ≤ 18446744073709551615) : zigI (unzigI z) = z := by
  unfold zigI unzigI
  split <;> split <;> omega
theorem readN_cut (B : List Int) (a : Nat) : ∀ f k, 1 ≤ k → 0 ≤ (readN B a f k).2 → ∃ n, cutL B a n = intI (readN B a f k).1 ∧ a + n ≤ B.length ∧ rngN (readN B a f k).1
  | 0, _, _, h => by rw [readN] at h; exact absurd h (by decide)
  | f + 1, k, hk, h => by
    rw [readN] at h ⊢
    split
    · rename_i hl
      rw [if_pos hl] at h
      split
      · rename_i hx
        rw [if_pos hx] at h
        exact readN_cut B a f (k + 1) (by omega) h
      · rename_i hx
        rw [if_neg hx] at h
        split
        · rename_i he
          exact ⟨k, he.symm, hl, unzigI_in (valL_in _)⟩
        · rename_i he
          rw [if_neg he] at h
          exact absurd h (by decide)
    · rename_i hl
      rw [if_neg hl] at h
      exact absurd h (by decide)
/-- What package frame reads is what the document reads. -/
theorem num_some {B : List Int} {a m : Nat} {z : Int} (hB : OkB B) (ha : a ≤ B.length) (h : numF (B.drop a) 0 0 = some (z, m)) : readI B a = (unzigI z, ((a + m : Nat) : Int)) ∧ (0 ≤ z ∧ z ≤ 18446744073709551615) ∧ 1 ≤ m ∧ a + m ≤ B.length := by
  obtain ⟨y, R, e1, e2, e3, e4, e5, _⟩ := numF_some _ 0 0 z m (fun x hx => hB x (List.mem_of_mem_drop hx)) (by omega) h
  have hy : z = y := by rw [e2]; simp
  subst hy
  have hz : 0 ≤ z ∧ z ≤ 18446744073709551615 := ⟨e4, by simp at e5; omega⟩
  have hi : intI (unzigI z) = digI 9 z := by unfold intI; rw [zig_unzig hz]
  have hm : m = (intI (unzigI z)).length := by rw [hi, e3]; simp
  have hB2 : B = B.take a ++ (intI (unzigI z) ++ R) := by
    rw [hi]
    have : B.take a ++ B.drop a = B := List.take_append_drop a B
    rw [e1] at this
    exact this.symm
  have hl : (B.take a).length = a := by rw [List.length_take]; omega
  have hr := readI_int (n := unzigI z) (unzigI_in hz) (B.take a) R
  rw [← hB2, hl, ← hm] at hr
  refine ⟨hr, hz, ?_, ?_⟩
  · rw [hm]; exact (intI_len _).1
  · have := congrArg List.length hB2
    simp only [List.length_append, hl] at this
    omega
theorem num_none {B : List Int} {a : Nat} (ha : a ≤ B.length) (h : numF (B.drop a) 0 0 = none) : readI B a = (0, -1) := by
  have hr := readI_in ha
  by_cases h0 : 0 ≤ (readI B a).2
  · obtain ⟨n, e1, e2, e3⟩ := readN_cut B a 10 1 (by omega) h0
    have hd : B.drop a = intI (readI B a).1 ++ (B.drop a).drop n := by
      have : (B.drop a).take n ++ (B.drop a).drop n = B.drop a := List.take_append_drop n _
      rw [show (B.drop a).take n = intI (readI B a).1 from e1] at this
      exact this.symm
    rw [hd] at h
    have hz : 0 ≤ zigI (readI B a).1 ∧ zigI (readI B a).1 ≤ 18446744073709551615 := zigI_in e3
    have hq := numF_dig 9 0 (zigI (readI B a).1) 0 ((B.drop a).drop n) rfl hz.1 (by simp; have := hz.2; omega) (fun h => by omega)
    have hcon : numF (intI (readI B a).1 ++ (B.drop a).drop n) 0 0 = some (0 + zigI (readI B a).1 * 2 ^ (7 * 0), 0 + (digI 9 (zigI (readI B a).1)).length) := hq
    rw [hcon] at h
    cases h
  · rcases hr.2 with ⟨h1, h2⟩ | ⟨h1, _⟩
    · exact Prod.ext h2 h1
    · omega
theorem numF_snd {E : List Int} {z : Int} {m : Nat} : ∀ {k acc}, numF E k acc = some (z, m) → k + 1 ≤ m ∧ m ≤ k + E.length := by
  induction E with
  | nil => intro k acc h; cases h
  | cons c r ih =>
    intro k acc h
    rw [numF] at h
    split at h
    · split at h
      · have := ih h
        rw [List.length_cons]
        omega
      · split at h
        · cases h
        · obtain ⟨_, rfl⟩ := Prod.mk.inj (Option.some.inj h)
          rw [List.length_cons]
          omega
    · cases h
end Go.Proofs.YteobffggfcmghaaDoor
