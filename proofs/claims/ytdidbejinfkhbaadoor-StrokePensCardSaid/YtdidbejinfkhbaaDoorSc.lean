/- Layer 7: lengths, the step ahead, the step to the side. -/
import Derived.Test.YtdidbejinfkhbaaDoorSb
namespace Go.Proofs.YtdidbejinfkhbaaDoor
open Go.RowKit
theorem root_ex (n : Nat) : ∃ r : Nat, r * r ≤ n ∧ n < (r + 1) * (r + 1) := by
  induction n with
  | zero => exact ⟨0, by decide, by decide⟩
  | succ n ih =>
    obtain ⟨r, h1, h2⟩ := ih
    by_cases h : n + 1 < (r + 1) * (r + 1)
    · exact ⟨r, by omega, h⟩
    · refine ⟨r + 1, by omega, ?_⟩
      have : (r + 1 + 1) * (r + 1 + 1) = (r + 1) * (r + 1) + 2 * (r + 1) + 1 := by simp only [Nat.mul_add, Nat.add_mul]; omega
      omega
theorem root_some (n : Int) (h0 : 0 ≤ n) (h1 : n < 18446744073709551616) : ∃ r, isRoot n r := by
  obtain ⟨N, rfl⟩ := Int.eq_ofNat_of_zero_le h0
  obtain ⟨r, h2, h3⟩ := root_ex N
  have h4 : r < 4294967296 := by
    rcases Nat.lt_or_ge r 4294967296 with h | h
    · exact h
    · have := Nat.mul_le_mul h h
      omega
  refine ⟨r, by omega, by omega, ?_, ?_⟩
  · rw [← Int.natCast_mul]; omega
  · rw [show ((r : Int) + 1) = ((r + 1 : Nat) : Int) by omega, ← Int.natCast_mul]; omega
open Classical in
/-- The root, rounded down. -/
noncomputable def rootI (n : Int) : Int := if h : ∃ r, isRoot n r then Classical.choose h else 0
theorem rootI_is {n : Int} (h0 : 0 ≤ n) (h1 : n < 18446744073709551616) : isRoot n (rootI n) := by
  unfold rootI
  rw [dif_pos (root_some n h0 h1)]
  exact Classical.choose_spec _
theorem sq_lt {a b : Int} (ha : 0 ≤ a) (hb : 0 ≤ b) (h : a * a < b * b) : a < b := by
  rcases Int.lt_or_le a b with h' | h'
  · exact h'
  · have := Int.mul_le_mul h' h' hb ha
    omega
theorem root_unique {n r s : Int} (hr : isRoot n r) (hs : isRoot n s) : r = s := by
  obtain ⟨r0, _, r1, r2⟩ := hr
  obtain ⟨s0, _, s1, s2⟩ := hs
  have h1 := sq_lt r0 (show 0 ≤ s + 1 by omega) (by omega)
  have h2 := sq_lt s0 (show 0 ≤ r + 1 by omega) (by omega)
  omega
theorem rootI_eq {n r : Int} (h : isRoot n r) : rootI n = r := by
  have h0 : 0 ≤ n := by
    obtain ⟨a, _, b, _⟩ := h
    have := Int.mul_nonneg a a
    omega
  have h1 : n < 18446744073709551616 := by
    obtain ⟨a, b, _, c⟩ := h
    have := Int.mul_le_mul (show r + 1 ≤ 4294967296 by omega) (show r + 1 ≤ 4294967296 by omega) (by omega) (by omega)
    omega
  exact root_unique (rootI_is h0 h1) h
/-- How far it is, in steps. -/
def lenOk (w : Pt) : Prop := -536870912 ≤ w.1 ∧ w.1 ≤ 536870912 ∧ -536870912 ≤ w.2 ∧ w.2 ≤ 536870912
def sqs (w : Pt) : Int := w.1 * w.1 + w.2 * w.2
noncomputable def lenI (w : Pt) : Int := rootI (sqs w)
theorem sq_bound {x : Int} (h0 : -536870912 ≤ x) (h1 : x ≤ 536870912) : 0 ≤ x * x ∧ x * x ≤ 288230376151711744 := by
  have := mul_abs x x 536870912 536870912 ⟨h0, h1⟩ ⟨h0, h1⟩
  refine ⟨?_, by omega⟩
  rcases Int.le_total 0 x with h | h
  · exact Int.mul_nonneg h h
  · exact Int.mul_nonneg_of_nonpos_of_nonpos h h
theorem sqs_bound {w : Pt} (h : lenOk w) : 0 ≤ sqs w ∧ sqs w ≤ 576460752303423488 := by
  obtain ⟨a, b, c, d⟩ := h
  have h1 := sq_bound a b
  have h2 := sq_bound c d
  unfold sqs; omega
theorem len_is {w : Pt} (h : lenOk w) : isRoot (sqs w) (lenI w) := rootI_is (sqs_bound h).1 (by have := (sqs_bound h).2; omega)
theorem abs_le_root {x n r : Int} (h : isRoot n r) (hx : x * x ≤ n) : -r ≤ x ∧ x ≤ r := by
  obtain ⟨a, _, _, b⟩ := h
  constructor
  · rcases Int.lt_or_le x 0 with h0 | h0
    · have := sq_lt (show 0 ≤ -x by omega) (show 0 ≤ r + 1 by omega) (by rw [Int.neg_mul_neg]; omega)
      omega
    · omega
  · rcases Int.lt_or_le x 0 with h0 | h0
    · omega
    · have := sq_lt h0 (show 0 ≤ r + 1 by omega) (by omega)
      omega
theorem len_bounds {w : Pt} (h : lenOk w) : 0 ≤ lenI w ∧ lenI w ≤ 1073741824 ∧ (-lenI w ≤ w.1 ∧ w.1 ≤ lenI w) ∧ -lenI w ≤ w.2 ∧ w.2 ≤ lenI w := by
  have hr := len_is h
  have hb := sqs_bound h
  obtain ⟨a, b, c, d⟩ := h
  have h1 := sq_bound a b
  have h2 := sq_bound c d
  refine ⟨hr.1, ?_, abs_le_root hr (by unfold sqs; omega), abs_le_root hr (by unfold sqs; omega)⟩
  obtain ⟨r0, _, r1, _⟩ := hr
  have := sq_lt r0 (show (0 : Int) ≤ 1073741825 by decide) (by omega)
  omega
theorem len_pos {w : Pt} (h : lenOk w) (h0 : w ≠ (0, 0)) : 1 ≤ lenI w := by
  have hb := len_bounds h
  rcases Int.lt_or_le (lenI w) 1 with h1 | h1
  · exfalso
    apply h0
    apply Prod.ext <;> simp only <;> omega
  · exact h1
noncomputable def stepA (w : Pt) (h : Int) : Pt := (qI (w.1 * h) (lenI w), qI (w.2 * h) (lenI w))
noncomputable def stepS (w : Pt) (h : Int) : Pt := stepA (-w.2, w.1) h
theorem qI_le {x L h : Int} (hL : 0 < L) (h0 : -L ≤ x) (h1 : x ≤ L) (hh : 0 ≤ h) : -h ≤ qI (x * h) L ∧ qI (x * h) L ≤ h := by
  unfold qI
  have a := Int.mul_le_mul_of_nonneg_right h0 hh
  have b := Int.mul_le_mul_of_nonneg_right h1 hh
  rw [Int.neg_mul] at a
  have e : 2 * L * h = 2 * (L * h) := Int.mul_assoc _ _ _
  constructor
  · refine (Int.le_ediv_iff_mul_le (by omega)).2 ?_
    rw [Int.neg_mul, Int.mul_comm h, e]; omega
  · have := (Int.ediv_lt_iff_lt_mul (a := 2 * (x * h) + L) (b := h + 1) (c := 2 * L) (by omega)).2 (by rw [Int.add_mul, Int.mul_comm h, e]; omega)
    omega
theorem turned_ok {w : Pt} (h : lenOk w) : lenOk (-w.2, w.1) := by
  obtain ⟨a, b, c, d⟩ := h
  exact ⟨by simp only; omega, by simp only; omega, by simp only; omega, by simp only; omega⟩
theorem turned_len (w : Pt) : lenI (-w.2, w.1) = lenI w := by
  unfold lenI sqs
  simp only
  rw [Int.neg_mul_neg, Int.add_comm]
theorem turned_ne {w : Pt} (h : w ≠ (0, 0)) : (-w.2, w.1) ≠ ((0, 0) : Pt) := fun e => h (by
  have e1 := congrArg Prod.fst e
  have e2 := congrArg Prod.snd e
  simp only at e1 e2
  apply Prod.ext <;> simp only <;> omega)
theorem stepA_le {w : Pt} (h : lenOk w) (h0 : w ≠ (0, 0)) {k : Int} (hk : 0 ≤ k) : (-k ≤ (stepA w k).1 ∧ (stepA w k).1 ≤ k) ∧ -k ≤ (stepA w k).2 ∧ (stepA w k).2 ≤ k := by
  have hp := len_pos h h0
  have hb := len_bounds h
  exact ⟨qI_le (by omega) hb.2.2.1.1 hb.2.2.1.2 hk, qI_le (by omega) hb.2.2.2.1 hb.2.2.2.2 hk⟩
theorem stepS_le {w : Pt} (h : lenOk w) (h0 : w ≠ (0, 0)) {k : Int} (hk : 0 ≤ k) : (-k ≤ (stepS w k).1 ∧ (stepS w k).1 ≤ k) ∧ -k ≤ (stepS w k).2 ∧ (stepS w k).2 ≤ k :=
  stepA_le (turned_ok h) (turned_ne h0) hk
set_option maxHeartbeats 2000000 in
set_option maxRecDepth 100000 in
theorem ahead_walk (x y h L : Int) (w : World) (E1 : Hid (IntKind.i64.wrap (x * h) = x * h)) (E2 : Hid (IntKind.i64.wrap (y * h) = y * h)) (e3 : wrap64 (x * x) = x * x) (e4 : wrap64 (y * y) = y * y) (e5 : wrap64 (x * x + y * y) = x * x + y * y)
    (HS : Hid (∀ w, Calls Tryd.prog 83 #[.int .i64 (x * x + y * y)] w fun e w' => e = .returned (.int .i64 L) ∧ Below w.heap.size w w'))
    (HQ1 : Hid (∀ w, Calls Tryd.prog 28 #[.int .i64 (x * h), .int .i64 L] w fun e w' => e = .returned (.int .i64 (qI (x * h) L)) ∧ Below w.heap.size w w'))
    (HQ2 : Hid (∀ w, Calls Tryd.prog 28 #[.int .i64 (y * h), .int .i64 L] w fun e w' => e = .returned (.int .i64 (qI (y * h) L)) ∧ Below w.heap.size w w')) :
    Calls Tryd.prog 78 #[.agg #[.int .i64 x, .int .i64 y], .int .i64 h] w fun e w' => e = .returned (.agg #[.int .i64 (qI (x * h) L), .int .i64 (qI (y * h) L)]) ∧ Below w.heap.size w w' := by
  go_enter Tryd.func78, Tryd.ntmps78
  go_wp2_with fail
  rw [e3, e4, e5]
  refine (HS.out _).mono ?_
  rintro e w1 ⟨rfl, hb⟩
  have S1 : Hid (Below w.heap.size w w1 ∧ Blk w1 w.heap.size 23 (two (x, y)) ∧ Blk w1 (w.heap.size + 1) 23 (two (0, 0)) ∧ w.heap.size ≤ w1.heap.size) :=
    ⟨(((Below.refl _ _).alloc (Nat.le_refl _) _).alloc (by simp) _).trans (hb.mono (by simp; omega)), ((Blk.new w 23 (two (x, y))).alloc _).grow hb, (Blk.newAt _ 23 (two (0, 0)) (by simp)).grow hb, by have := hb.size; simp at this; omega⟩
  clear hb e3 e4 e5
  go_wp2_with fail
  refine wp_region_put (by kernel_rfl) (by kernel_rfl) (by kernel_rfl) (fun b' vs w' => (b' 0 = true → vs 0 = .pointer (some ⟨w.heap.size, 0, none⟩)) ∧ (b' 1 = true → vs 1 = .int .i64 x) ∧ (b' 2 = true → vs 2 = .int .i64 h) ∧ (b' 3 = true → vs 3 = .int .i64 (x * h)) ∧ (b' 4 = true → vs 4 = .int .i64 L) ∧ (b' 5 = true → vs 5 = .int .i64 (qI (x * h) L)) ∧ (b' 6 = true → vs 6 = .pointer (some ⟨w.heap.size, 1, none⟩)) ∧ (b' 7 = true → vs 7 = .int .i64 y) ∧ (b' 8 = true → vs 8 = .int .i64 h) ∧ (b' 9 = true → vs 9 = .int .i64 (y * h)) ∧ (b' 10 = true → vs 10 = .int .i64 L) ∧ (b' 11 = true → vs 11 = .int .i64 (qI (y * h) L)) ∧ (b' 12 = true → vs 12 = .agg #[.int .i64 (qI (x * h) L), .int .i64 (qI (y * h) L)]) ∧ (b' 13 = false → Hid (Below w.heap.size w w' ∧ w.heap.size ≤ w'.heap.size)) ∧ (b' 13 = false → Hid (Blk w' w.heap.size 23 (two (x, y)) ∧ Blk w' (w.heap.size + 1) 23 (two (0, 0)))) ∧ (b' 13 = true → Hid (Below w.heap.size w w' ∧ Blk w' (w.heap.size + 1) 23 (two (qI (x * h) L, qI (y * h) L)))) ∧ (b' 12 = true → b' 5 = true) ∧ (b' 5 = true → b' 3 = true) ∧ (b' 3 = true → b' 1 = true) ∧ (b' 12 = true → b' 11 = true) ∧ (b' 11 = true → b' 9 = true) ∧ (b' 9 = true → b' 7 = true) ∧ (b' 13 = true → b' 1 = true) ∧ (b' 13 = true → b' 5 = true) ∧ (b' 13 = true → b' 7 = true) ∧ (b' 13 = true → b' 11 = true)) ?_ ?_ ?_
  · intro vs
    exact ⟨fun h => Bool.noConfusion h, fun h => Bool.noConfusion h, fun h => Bool.noConfusion h, fun h => Bool.noConfusion h, fun h => Bool.noConfusion h, fun h => Bool.noConfusion h, fun h => Bool.noConfusion h, fun h => Bool.noConfusion h, fun h => Bool.noConfusion h, fun h => Bool.noConfusion h, fun h => Bool.noConfusion h, fun h => Bool.noConfusion h, fun h => Bool.noConfusion h, fun _ => Lib.hid ⟨below_drewN S1.out.1 1, S1.out.2.2.2⟩, fun _ => Lib.hid ⟨S1.out.2.1.grow ⟨rfl, rfl, rfl, Nat.le_refl _, fun _ _ => rfl⟩, S1.out.2.2.1.grow ⟨rfl, rfl, rfl, Nat.le_refl _, fun _ _ => rfl⟩⟩, fun h => Bool.noConfusion h, fun h => Bool.noConfusion h, fun h => Bool.noConfusion h, fun h => Bool.noConfusion h, fun h => Bool.noConfusion h, fun h => Bool.noConfusion h, fun h => Bool.noConfusion h, fun h => Bool.noConfusion h, fun h => Bool.noConfusion h, fun h => Bool.noConfusion h, fun h => Bool.noConfusion h⟩
  · rintro b' vs w' i op hi hun hall ⟨h0, h1, h2, h3, h4, h5, h6, h7, h8, h9, h10, h11, h12, hB, hF, hG, hE12_5, hE5_3, hE3_1, hE12_11, hE11_9, hE9_7, hW1, hW5, hW7, hW11⟩
    have hil : i < 14 := (List.getElem?_eq_some_iff.1 hi).1
    rcases i with _ | _ | _ | _ | _ | _ | _ | _ | _ | _ | _ | _ | _ | _ | i
    · obtain rfl := Option.some.inj hi
      clear hi hil
      refine wpOp_step rfl (fun K hK => ?_)
      have HKK := Lib.hid hK; clear hK
      simp only [putAll, Act.put, List.setIfInBounds_toArray, List.set_cons_zero, List.set_cons_succ]
      go_simp
      exact HKK.out _ _ ⟨_, by simp only [putAll, Act.put, List.setIfInBounds_toArray, List.set_cons_zero, List.set_cons_succ] <;> rfl, fun _ => rfl, h1, h2, h3, h4, h5, h6, h7, h8, h9, h10, h11, h12, hB, hF, hG, hE12_5, hE5_3, hE3_1, hE12_11, hE11_9, hE9_7, hW1, hW5, hW7, hW11⟩
    · obtain rfl := Option.some.inj hi
      clear hi hil
      have hap : b' 13 = false := by
        cases hz : b' 13 with
        | false => rfl
        | true => exact absurd (hW1 hz) (by rw [hun]; decide)
      have d0 := h0 (hall ⟨0, .data⟩ (by simp) rfl)
      have c0 := (hF hap).out.1.p0
      refine wpOp_step rfl (fun K hK => ?_)
      have HKK := Lib.hid hK; clear hK
      simp only [putAll, Act.put, List.setIfInBounds_toArray, List.set_cons_zero, List.set_cons_succ]
      go_simp
      exact HKK.out _ _ ⟨_, by simp only [putAll, Act.put, List.setIfInBounds_toArray, List.set_cons_zero, List.set_cons_succ, d0] <;> rfl, h0, fun _ => rfl, h2, h3, h4, h5, h6, h7, h8, h9, h10, h11, h12, hB, hF, hG, hE12_5, hE5_3, fun _ => rfl, hE12_11, hE11_9, hE9_7, fun _ => rfl, hW5, hW7, hW11⟩
    · obtain rfl := Option.some.inj hi
      clear hi hil
      refine wpOp_step rfl (fun K hK => ?_)
      have HKK := Lib.hid hK; clear hK
      simp only [putAll, Act.put, List.setIfInBounds_toArray, List.set_cons_zero, List.set_cons_succ]
      go_simp
      exact HKK.out _ _ ⟨_, by simp only [putAll, Act.put, List.setIfInBounds_toArray, List.set_cons_zero, List.set_cons_succ] <;> rfl, h0, h1, fun _ => rfl, h3, h4, h5, h6, h7, h8, h9, h10, h11, h12, hB, hF, hG, hE12_5, hE5_3, hE3_1, hE12_11, hE11_9, hE9_7, hW1, hW5, hW7, hW11⟩
    · obtain rfl := Option.some.inj hi
      clear hi hil
      have d1 := h1 (hall ⟨1, .data⟩ (by simp) rfl)
      have d2 := h2 (hall ⟨2, .data⟩ (by simp) rfl)
      refine wpOp_step rfl (fun K hK => ?_)
      have HKK := Lib.hid hK; clear hK
      simp only [putAll, Act.put, List.setIfInBounds_toArray, List.set_cons_zero, List.set_cons_succ]
      go_simp
      exact HKK.out _ _ ⟨_, by simp only [putAll, Act.put, List.setIfInBounds_toArray, List.set_cons_zero, List.set_cons_succ, d1, d2, E1.out] <;> rfl, h0, h1, h2, fun _ => rfl, h4, h5, h6, h7, h8, h9, h10, h11, h12, hB, hF, hG, hE12_5, fun _ => rfl, fun _ => hall ⟨1, .data⟩ (by simp) rfl, hE12_11, hE11_9, hE9_7, hW1, hW5, hW7, hW11⟩
    · obtain rfl := Option.some.inj hi
      clear hi hil
      refine wpOp_step rfl (fun K hK => ?_)
      have HKK := Lib.hid hK; clear hK
      simp only [putAll, Act.put, List.setIfInBounds_toArray, List.set_cons_zero, List.set_cons_succ]
      go_simp
      exact HKK.out _ _ ⟨_, by simp only [putAll, Act.put, List.setIfInBounds_toArray, List.set_cons_zero, List.set_cons_succ] <;> rfl, h0, h1, h2, h3, fun _ => rfl, h5, h6, h7, h8, h9, h10, h11, h12, hB, hF, hG, hE12_5, hE5_3, hE3_1, hE12_11, hE11_9, hE9_7, hW1, hW5, hW7, hW11⟩
    · obtain rfl := Option.some.inj hi
      clear hi hil
      have hap : b' 13 = false := by
        cases hz : b' 13 with
        | false => rfl
        | true => exact absurd (hW5 hz) (by rw [hun]; decide)
      have d3 := h3 (hall ⟨3, .data⟩ (by simp) rfl)
      have d4 := h4 (hall ⟨4, .data⟩ (by simp) rfl)
      refine wpOp_step rfl (fun K hK => ?_)
      have HKK := Lib.hid hK; clear hK
      simp only [putAll, Act.put, List.setIfInBounds_toArray, List.set_cons_zero, List.set_cons_succ]
      go_simp
      refine (HQ1.out _).mono ?_
      rintro e w2 ⟨rfl, hb2⟩
      exact HKK.out _ _ ⟨_, by simp only [putAll, Act.put, List.setIfInBounds_toArray, List.set_cons_zero, List.set_cons_succ, d3, d4] <;> rfl, h0, h1, h2, h3, h4, fun _ => rfl, h6, h7, h8, h9, h10, h11, h12, fun ha => Lib.hid ⟨(hB ha).out.1.trans (hb2.mono (hB ha).out.2), Nat.le_trans (hB ha).out.2 hb2.size⟩, fun ha => Lib.hid (⟨(hF ha).out.1.grow hb2, (hF ha).out.2.grow hb2⟩), fun h => absurd (show b' 13 = true from h) (by rw [hap]; decide), fun _ => rfl, fun _ => hall ⟨3, .data⟩ (by simp) rfl, hE3_1, hE12_11, hE11_9, hE9_7, hW1, fun _ => rfl, hW7, hW11⟩
    · obtain rfl := Option.some.inj hi
      clear hi hil
      refine wpOp_step rfl (fun K hK => ?_)
      have HKK := Lib.hid hK; clear hK
      simp only [putAll, Act.put, List.setIfInBounds_toArray, List.set_cons_zero, List.set_cons_succ]
      go_simp
      exact HKK.out _ _ ⟨_, by simp only [putAll, Act.put, List.setIfInBounds_toArray, List.set_cons_zero, List.set_cons_succ] <;> rfl, h0, h1, h2, h3, h4, h5, fun _ => rfl, h7, h8, h9, h10, h11, h12, hB, hF, hG, hE12_5, hE5_3, hE3_1, hE12_11, hE11_9, hE9_7, hW1, hW5, hW7, hW11⟩
    · obtain rfl := Option.some.inj hi
      clear hi hil
      have hap : b' 13 = false := by
        cases hz : b' 13 with
        | false => rfl
        | true => exact absurd (hW7 hz) (by rw [hun]; decide)
      have d6 := h6 (hall ⟨6, .data⟩ (by simp) rfl)
      have c1 := (hF hap).out.1.p1
      refine wpOp_step rfl (fun K hK => ?_)
      have HKK := Lib.hid hK; clear hK
      simp only [putAll, Act.put, List.setIfInBounds_toArray, List.set_cons_zero, List.set_cons_succ]
      go_simp
      exact HKK.out _ _ ⟨_, by simp only [putAll, Act.put, List.setIfInBounds_toArray, List.set_cons_zero, List.set_cons_succ, d6] <;> rfl, h0, h1, h2, h3, h4, h5, h6, fun _ => rfl, h8, h9, h10, h11, h12, hB, hF, hG, hE12_5, hE5_3, hE3_1, hE12_11, hE11_9, fun _ => rfl, hW1, hW5, fun _ => rfl, hW11⟩
    · obtain rfl := Option.some.inj hi
      clear hi hil
      refine wpOp_step rfl (fun K hK => ?_)
      have HKK := Lib.hid hK; clear hK
      simp only [putAll, Act.put, List.setIfInBounds_toArray, List.set_cons_zero, List.set_cons_succ]
      go_simp
      exact HKK.out _ _ ⟨_, by simp only [putAll, Act.put, List.setIfInBounds_toArray, List.set_cons_zero, List.set_cons_succ] <;> rfl, h0, h1, h2, h3, h4, h5, h6, h7, fun _ => rfl, h9, h10, h11, h12, hB, hF, hG, hE12_5, hE5_3, hE3_1, hE12_11, hE11_9, hE9_7, hW1, hW5, hW7, hW11⟩
    · obtain rfl := Option.some.inj hi
      clear hi hil
      have d7 := h7 (hall ⟨7, .data⟩ (by simp) rfl)
      have d8 := h8 (hall ⟨8, .data⟩ (by simp) rfl)
      refine wpOp_step rfl (fun K hK => ?_)
      have HKK := Lib.hid hK; clear hK
      simp only [putAll, Act.put, List.setIfInBounds_toArray, List.set_cons_zero, List.set_cons_succ]
      go_simp
      exact HKK.out _ _ ⟨_, by simp only [putAll, Act.put, List.setIfInBounds_toArray, List.set_cons_zero, List.set_cons_succ, d7, d8, E2.out] <;> rfl, h0, h1, h2, h3, h4, h5, h6, h7, h8, fun _ => rfl, h10, h11, h12, hB, hF, hG, hE12_5, hE5_3, hE3_1, hE12_11, fun _ => rfl, fun _ => hall ⟨7, .data⟩ (by simp) rfl, hW1, hW5, hW7, hW11⟩
    · obtain rfl := Option.some.inj hi
      clear hi hil
      refine wpOp_step rfl (fun K hK => ?_)
      have HKK := Lib.hid hK; clear hK
      simp only [putAll, Act.put, List.setIfInBounds_toArray, List.set_cons_zero, List.set_cons_succ]
      go_simp
      exact HKK.out _ _ ⟨_, by simp only [putAll, Act.put, List.setIfInBounds_toArray, List.set_cons_zero, List.set_cons_succ] <;> rfl, h0, h1, h2, h3, h4, h5, h6, h7, h8, h9, fun _ => rfl, h11, h12, hB, hF, hG, hE12_5, hE5_3, hE3_1, hE12_11, hE11_9, hE9_7, hW1, hW5, hW7, hW11⟩
    · obtain rfl := Option.some.inj hi
      clear hi hil
      have hap : b' 13 = false := by
        cases hz : b' 13 with
        | false => rfl
        | true => exact absurd (hW11 hz) (by rw [hun]; decide)
      have d9 := h9 (hall ⟨9, .data⟩ (by simp) rfl)
      have d10 := h10 (hall ⟨10, .data⟩ (by simp) rfl)
      refine wpOp_step rfl (fun K hK => ?_)
      have HKK := Lib.hid hK; clear hK
      simp only [putAll, Act.put, List.setIfInBounds_toArray, List.set_cons_zero, List.set_cons_succ]
      go_simp
      refine (HQ2.out _).mono ?_
      rintro e w2 ⟨rfl, hb2⟩
      exact HKK.out _ _ ⟨_, by simp only [putAll, Act.put, List.setIfInBounds_toArray, List.set_cons_zero, List.set_cons_succ, d9, d10] <;> rfl, h0, h1, h2, h3, h4, h5, h6, h7, h8, h9, h10, fun _ => rfl, h12, fun ha => Lib.hid ⟨(hB ha).out.1.trans (hb2.mono (hB ha).out.2), Nat.le_trans (hB ha).out.2 hb2.size⟩, fun ha => Lib.hid (⟨(hF ha).out.1.grow hb2, (hF ha).out.2.grow hb2⟩), fun h => absurd (show b' 13 = true from h) (by rw [hap]; decide), hE12_5, hE5_3, hE3_1, fun _ => rfl, fun _ => hall ⟨9, .data⟩ (by simp) rfl, hE9_7, hW1, hW5, hW7, fun _ => rfl⟩
    · obtain rfl := Option.some.inj hi
      clear hi hil
      have d5 := h5 (hall ⟨5, .data⟩ (by simp) rfl)
      have d11 := h11 (hall ⟨11, .data⟩ (by simp) rfl)
      refine wpOp_step rfl (fun K hK => ?_)
      have HKK := Lib.hid hK; clear hK
      simp only [putAll, Act.put, List.setIfInBounds_toArray, List.set_cons_zero, List.set_cons_succ]
      go_simp
      exact HKK.out _ _ ⟨_, by simp only [putAll, Act.put, List.setIfInBounds_toArray, List.set_cons_zero, List.set_cons_succ, d5, d11] <;> rfl, h0, h1, h2, h3, h4, h5, h6, h7, h8, h9, h10, h11, fun _ => rfl, hB, hF, hG, fun _ => hall ⟨5, .data⟩ (by simp) rfl, hE5_3, hE3_1, fun _ => hall ⟨11, .data⟩ (by simp) rfl, hE11_9, hE9_7, hW1, hW5, hW7, hW11⟩
    · obtain rfl := Option.some.inj hi
      clear hi hil
      have hap : b' 13 = false := hun
      have d12 := h12 (hall ⟨12, .data⟩ (by simp) rfl)
      have k4 := (hF hap).out.2
      have c0 := k4.p0
      have c1 := k4.p1
      have f0 := k4.free 0
      have f1 := k4.free 1
      have lg := k4.lt
      refine wpOp_step rfl (fun K hK => ?_)
      have HKK := Lib.hid hK; clear hK
      simp only [putAll, Act.put, List.setIfInBounds_toArray, List.set_cons_zero, List.set_cons_succ]
      go_simp
      exact HKK.out _ _ ⟨undef, by simp only [putAll, Act.put, List.setIfInBounds_toArray, List.set_cons_zero, List.set_cons_succ, d12] <;> rfl, h0, h1, h2, h3, h4, h5, h6, h7, h8, h9, h10, h11, h12, fun h => Bool.noConfusion h, fun h => Bool.noConfusion h, fun _ => Lib.hid (⟨below_two (hB hap).out.1 (by omega) _ _, (hF hap).out.2.setP _ _⟩), hE12_5, hE5_3, hE3_1, hE12_11, hE11_9, hE9_7, fun _ => hE3_1 (hE5_3 (hE12_5 (hall ⟨12, .data⟩ (by simp) rfl))), fun _ => hE12_5 (hall ⟨12, .data⟩ (by simp) rfl), fun _ => hE9_7 (hE11_9 (hE12_11 (hall ⟨12, .data⟩ (by simp) rfl))), fun _ => hE12_11 (hall ⟨12, .data⟩ (by simp) rfl)⟩
    · omega
  · rintro b' vs w2 hall ⟨h0, h1, h2, h3, h4, h5, h6, h7, h8, h9, h10, h11, h12, hB, hF, hG, hE12_5, hE5_3, hE3_1, hE12_11, hE11_9, hE9_7, hW1, hW5, hW7, hW11⟩
    have d0 := h0 (hall 0 (by simp))
    have d1 := h1 (hall 1 (by simp))
    have d2 := h2 (hall 2 (by simp))
    have d3 := h3 (hall 3 (by simp))
    have d4 := h4 (hall 4 (by simp))
    have d5 := h5 (hall 5 (by simp))
    have d6 := h6 (hall 6 (by simp))
    have d7 := h7 (hall 7 (by simp))
    have d8 := h8 (hall 8 (by simp))
    have d9 := h9 (hall 9 (by simp))
    have d10 := h10 (hall 10 (by simp))
    have d11 := h11 (hall 11 (by simp))
    have d12 := h12 (hall 12 (by simp))
    have GG := hG (hall 13 (by simp))
    simp only [putAll, Act.put, List.setIfInBounds_toArray, List.set_cons_zero, List.set_cons_succ, d0, d1, d2, d3, d4, d5, d6, d7, d8, d9, d10, d11, d12]
    clear hall h0 d0 h1 d1 h2 d2 h3 d3 h4 d4 h5 d5 h6 d6 h7 d7 h8 d8 h9 d9 h10 d10 h11 d11 h12 d12 hB hF hG hE12_5 hE5_3 hE3_1 hE12_11 hE11_9 hE9_7 hW1 hW5 hW7 hW11
    go_wp2_with fail
    exact bodyPost_ret (results_two 4 (.inl rfl) rfl rfl GG.out.2) rfl ⟨rfl, GG.out.1⟩
theorem ahead_c (d : Pt) (h : Int) (hd : lenOk d) (h0 : d ≠ (0, 0)) (hp : 1 ≤ h ∧ h ≤ 32768) (w : World) : Calls Tryd.prog 78 #[.agg #[.int .i64 d.1, .int .i64 d.2], .int .i64 h] w fun e w' => e = .returned (.agg #[.int .i64 (stepA d h).1, .int .i64 (stepA d h).2]) ∧ Below w.heap.size w w' := by
  have hs := sqs_bound hd
  have hr := len_is hd
  have hl := len_bounds hd
  have hl1 := len_pos hd h0
  obtain ⟨x, y⟩ := d
  obtain ⟨a, b, c, d⟩ := hd
  simp only at a b c d
  have hx := mul_abs x h 536870912 32768 ⟨a, b⟩ ⟨by omega, hp.2⟩
  have hy := mul_abs y h 536870912 32768 ⟨c, d⟩ ⟨by omega, hp.2⟩
  have hxx := sq_bound a b
  have hyy := sq_bound c d
  have he : sqs (x, y) = x * x + y * y := rfl
  rw [he] at hs hr
  exact ahead_walk x y h (lenI (x, y)) w ((wrap_is _).trans (wrapR _ (by omega) (by omega))) ((wrap_is _).trans (wrapR _ (by omega) (by omega))) (wrapR _ (by omega) (by omega)) (wrapR _ (by omega) (by omega)) (wrapR _ (by omega) (by omega))
    (Lib.hid fun w => sqrt_c _ _ ⟨by omega, by omega⟩ hr w)
    (Lib.hid fun w => quotient_c _ _ (by omega) (by omega) hl1 (by omega) w) (Lib.hid fun w => quotient_c _ _ (by omega) (by omega) hl1 (by omega) w)
theorem side_c7 (d : Pt) (h : Int) (hd : lenOk d) (h0 : d ≠ (0, 0)) (hp : 1 ≤ h ∧ h ≤ 32768) (w : World) : Calls Tryd.prog 57 #[.agg #[.int .i64 d.1, .int .i64 d.2], .int .i64 h] w fun e w' => e = .returned (.agg #[.int .i64 (stepS d h).1, .int .i64 (stepS d h).2]) ∧ Below w.heap.size w w' := by
  have HA := Lib.hid fun w => ahead_c (-d.2, d.1) h (turned_ok hd) (turned_ne h0) hp w
  have E := Lib.hid (wrapR (-d.2) (by have := hd.2.2; omega) (by have := hd.2.2; omega))
  obtain ⟨sx, sy⟩ : Pt × Pt := (stepS d h, stepS d h)
  obtain ⟨r, hr⟩ : ∃ r, stepS d h = r := ⟨_, rfl⟩
  have HR : Hid (stepA (-d.2, d.1) h = r) := hr
  obtain ⟨x, y⟩ := d
  rw [hr]
  clear hd h0 hp hr sx sy
  go_enter Tryd.func57, Tryd.ntmps57
  go_wp2_with fail
  rw [E.out]
  refine (HA.out _).mono ?_
  rw [HR.out]
  rintro e w1 ⟨rfl, hb⟩
  have S1 : Hid (Below w.heap.size w w1 ∧ Blk w1 (w.heap.size + 1) 23 (two (0, 0))) :=
    ⟨(((Below.refl _ _).alloc (Nat.le_refl _) _).alloc (by simp) _).trans (hb.mono (by simp; omega)), (Blk.newAt _ 23 (two (0, 0)) (by simp)).grow hb⟩
  clear hb
  have k4 := S1.out.2
  have c0 := k4.p0
  have c1 := k4.p1
  have f0 := k4.free 0
  have f1 := k4.free 1
  have lg := k4.lt
  clear k4
  go_wp2_with fail
  exact bodyPost_ret (results_two 4 (.inl rfl) rfl rfl (S1.out.2.setP r.1 r.2)) rfl ⟨rfl, below_two S1.out.1 (by omega) _ _⟩
end Go.Proofs.YtdidbejinfkhbaaDoor
