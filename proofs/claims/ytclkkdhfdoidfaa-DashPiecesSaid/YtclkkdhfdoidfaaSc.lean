/- Layer 7: lengths, the step ahead, the step to the side. -/
import Derived.Test.YtclkkdhfdoidfaaSa
namespace Go.Proofs.Ytclkkdhfdoidfaa
open Go.RowKit
theorem root_ex (n : Nat) : ∃ r : Nat, r * r ≤ n ∧ n < (r + 1) * (r + 1) := by
  induction n with
  | zero => exact ⟨0, by decide, by decide⟩
  | succ n ih =>
    obtain ⟨r, h1, h2⟩ := ih
    by_cases h : n + 1 < (r + 1) * (r + 1)
    · exact ⟨r, by omega, h⟩
    · refine ⟨r + 1, by omega, ?_⟩
      have : (r + 1 + 1) * (r + 1 + 1) = (r + 1) * (r + 1) + 2 * (r + 1) + 1 := by simp only [Nat.mul_add, Nat.add_mul]; omega
      omega
theorem root_some (n : Int) (h0 : 0 ≤ n) (h1 : n < 18446744073709551616) : ∃ r, isRoot n r := by
  obtain ⟨N, rfl⟩ := Int.eq_ofNat_of_zero_le h0
  obtain ⟨r, h2, h3⟩ := root_ex N
  have h4 : r < 4294967296 := by
    rcases Nat.lt_or_ge r 4294967296 with h | h
    · exact h
    · have := Nat.mul_le_mul h h
      omega
  refine ⟨r, by omega, by omega, ?_, ?_⟩
  · rw [← Int.natCast_mul]; omega
  · rw [show ((r : Int) + 1) = ((r + 1 : Nat) : Int) by omega, ← Int.natCast_mul]; omega
open Classical in
/-- The root, rounded down. -/
noncomputable def rootI (n : Int) : Int := if h : ∃ r, isRoot n r then Classical.choose h else 0
theorem rootI_is {n : Int} (h0 : 0 ≤ n) (h1 : n < 18446744073709551616) : isRoot n (rootI n) := by
  unfold rootI
  rw [dif_pos (root_some n h0 h1)]
  exact Classical.choose_spec _
theorem sq_lt {a b : Int} (ha : 0 ≤ a) (hb : 0 ≤ b) (h : a * a < b * b) : a < b := by
  rcases Int.lt_or_le a b with h' | h'
  · exact h'
  · have := Int.mul_le_mul h' h' hb ha
    omega
theorem root_unique {n r s : Int} (hr : isRoot n r) (hs : isRoot n s) : r = s := by
  obtain ⟨r0, _, r1, r2⟩ := hr
  obtain ⟨s0, _, s1, s2⟩ := hs
  have h1 := sq_lt r0 (show 0 ≤ s + 1 by omega) (by omega)
  have h2 := sq_lt s0 (show 0 ≤ r + 1 by omega) (by omega)
  omega
theorem rootI_eq {n r : Int} (h : isRoot n r) : rootI n = r := by
  have h0 : 0 ≤ n := by
    obtain ⟨a, _, b, _⟩ := h
    have := Int.mul_nonneg a a
    omega
  have h1 : n < 18446744073709551616 := by
    obtain ⟨a, b, _, c⟩ := h
    have := Int.mul_le_mul (show r + 1 ≤ 4294967296 by omega) (show r + 1 ≤ 4294967296 by omega) (by omega) (by omega)
    omega
  exact root_unique (rootI_is h0 h1) h
/-- How far it is, in steps. -/
def lenOk (w : Pt) : Prop := -536870912 ≤ w.1 ∧ w.1 ≤ 536870912 ∧ -536870912 ≤ w.2 ∧ w.2 ≤ 536870912
def sqs (w : Pt) : Int := w.1 * w.1 + w.2 * w.2
noncomputable def lenI (w : Pt) : Int := rootI (sqs w)
theorem sq_bound {x : Int} (h0 : -536870912 ≤ x) (h1 : x ≤ 536870912) : 0 ≤ x * x ∧ x * x ≤ 288230376151711744 := by
  have := mul_abs x x 536870912 536870912 ⟨h0, h1⟩ ⟨h0, h1⟩
  refine ⟨?_, by omega⟩
  rcases Int.le_total 0 x with h | h
  · exact Int.mul_nonneg h h
  · exact Int.mul_nonneg_of_nonpos_of_nonpos h h
theorem sqs_bound {w : Pt} (h : lenOk w) : 0 ≤ sqs w ∧ sqs w ≤ 576460752303423488 := by
  obtain ⟨a, b, c, d⟩ := h
  have h1 := sq_bound a b
  have h2 := sq_bound c d
  unfold sqs; omega
theorem len_is {w : Pt} (h : lenOk w) : isRoot (sqs w) (lenI w) := rootI_is (sqs_bound h).1 (by have := (sqs_bound h).2; omega)
theorem abs_le_root {x n r : Int} (h : isRoot n r) (hx : x * x ≤ n) : -r ≤ x ∧ x ≤ r := by
  obtain ⟨a, _, _, b⟩ := h
  constructor
  · rcases Int.lt_or_le x 0 with h0 | h0
    · have := sq_lt (show 0 ≤ -x by omega) (show 0 ≤ r + 1 by omega) (by rw [Int.neg_mul_neg]; omega)
      omega
    · omega
  · rcases Int.lt_or_le x 0 with h0 | h0
    · omega
    · have := sq_lt h0 (show 0 ≤ r + 1 by omega) (by omega)
      omega
theorem len_bounds {w : Pt} (h : lenOk w) : 0 ≤ lenI w ∧ lenI w ≤ 1073741824 ∧ (-lenI w ≤ w.1 ∧ w.1 ≤ lenI w) ∧ -lenI w ≤ w.2 ∧ w.2 ≤ lenI w := by
  have hr := len_is h
  have hb := sqs_bound h
  obtain ⟨a, b, c, d⟩ := h
  have h1 := sq_bound a b
  have h2 := sq_bound c d
  refine ⟨hr.1, ?_, abs_le_root hr (by unfold sqs; omega), abs_le_root hr (by unfold sqs; omega)⟩
  obtain ⟨r0, _, r1, _⟩ := hr
  have := sq_lt r0 (show (0 : Int) ≤ 1073741825 by decide) (by omega)
  omega
theorem len_pos {w : Pt} (h : lenOk w) (h0 : w ≠ (0, 0)) : 1 ≤ lenI w := by
  have hb := len_bounds h
  rcases Int.lt_or_le (lenI w) 1 with h1 | h1
  · exfalso
    apply h0
    apply Prod.ext <;> simp only <;> omega
  · exact h1
noncomputable def stepA (w : Pt) (h : Int) : Pt := (qI (w.1 * h) (lenI w), qI (w.2 * h) (lenI w))
noncomputable def stepS (w : Pt) (h : Int) : Pt := stepA (-w.2, w.1) h
theorem qI_le {x L h : Int} (hL : 0 < L) (h0 : -L ≤ x) (h1 : x ≤ L) (hh : 0 ≤ h) : -h ≤ qI (x * h) L ∧ qI (x * h) L ≤ h := by
  unfold qI
  have a := Int.mul_le_mul_of_nonneg_right h0 hh
  have b := Int.mul_le_mul_of_nonneg_right h1 hh
  rw [Int.neg_mul] at a
  have e : 2 * L * h = 2 * (L * h) := Int.mul_assoc _ _ _
  constructor
  · refine (Int.le_ediv_iff_mul_le (by omega)).2 ?_
    rw [Int.neg_mul, Int.mul_comm h, e]; omega
  · have := (Int.ediv_lt_iff_lt_mul (a := 2 * (x * h) + L) (b := h + 1) (c := 2 * L) (by omega)).2 (by rw [Int.add_mul, Int.mul_comm h, e]; omega)
    omega
theorem turned_ok {w : Pt} (h : lenOk w) : lenOk (-w.2, w.1) := by
  obtain ⟨a, b, c, d⟩ := h
  exact ⟨by simp only; omega, by simp only; omega, by simp only; omega, by simp only; omega⟩
theorem turned_len (w : Pt) : lenI (-w.2, w.1) = lenI w := by
  unfold lenI sqs
  simp only
  rw [Int.neg_mul_neg, Int.add_comm]
theorem turned_ne {w : Pt} (h : w ≠ (0, 0)) : (-w.2, w.1) ≠ ((0, 0) : Pt) := fun e => h (by
  have e1 := congrArg Prod.fst e
  have e2 := congrArg Prod.snd e
  simp only at e1 e2
  apply Prod.ext <;> simp only <;> omega)
theorem stepA_le {w : Pt} (h : lenOk w) (h0 : w ≠ (0, 0)) {k : Int} (hk : 0 ≤ k) : (-k ≤ (stepA w k).1 ∧ (stepA w k).1 ≤ k) ∧ -k ≤ (stepA w k).2 ∧ (stepA w k).2 ≤ k := by
  have hp := len_pos h h0
  have hb := len_bounds h
  exact ⟨qI_le (by omega) hb.2.2.1.1 hb.2.2.1.2 hk, qI_le (by omega) hb.2.2.2.1 hb.2.2.2.2 hk⟩
theorem stepS_le {w : Pt} (h : lenOk w) (h0 : w ≠ (0, 0)) {k : Int} (hk : 0 ≤ k) : (-k ≤ (stepS w k).1 ∧ (stepS w k).1 ≤ k) ∧ -k ≤ (stepS w k).2 ∧ (stepS w k).2 ≤ k :=
  stepA_le (turned_ok h) (turned_ne h0) hk
def lenB (w : Pt) : Bool := (decide (-536870912 ≤ w.1) && decide (w.1 ≤ 536870912)) && (decide (-536870912 ≤ w.2) && decide (w.2 ≤ 536870912))
theorem lenB_iff {w : Pt} : lenB w = true ↔ lenOk w := by
  unfold lenB lenOk
  simp only [Bool.and_eq_true, decide_eq_true_eq]
  exact ⟨fun h => ⟨h.1.1, h.1.2, h.2.1, h.2.2⟩, fun h => ⟨⟨h.1, h.2.1⟩, h.2.2.1, h.2.2.2⟩⟩
theorem lenB_no {w : Pt} (h : lenB w = false) : ¬ lenOk w := fun k => by rw [lenB_iff.2 k] at h; cases h
theorem ne_sub {a b : Pt} (h : a ≠ b) : subP b a ≠ (0, 0) := fun e => h (by
  have e1 := congrArg Prod.fst e
  have e2 := congrArg Prod.snd e
  simp only [subP] at e1 e2
  apply Prod.ext <;> omega)
/-- A call's answer: a row and an error. -/
def ToldP (w : World) (o : Int × List Pt) (e : Ending) (w' : World) : Prop := ∃ v, e = .returned (.tuple #[v, .int .i64 o.1]) ∧ Own w' w.heap.size 32 v o.2 ∧ Below w.heap.size w w'
end Go.Proofs.Ytclkkdhfdoidfaa
