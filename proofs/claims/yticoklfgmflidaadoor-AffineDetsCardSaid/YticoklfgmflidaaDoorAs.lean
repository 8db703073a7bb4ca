/- Package wide once more: Of, Int, Shr. -/
import Derived.Test.YticoklfgmflidaaDoorWc
namespace Go.Proofs.YticoklfgmflidaaDoor
open Go.RowKit

theorem of_c (n : Int) (w : World) (h : I64 n) : Calls Tryd.prog 40 #[.int .i64 n] w fun e w' => e = .returned (.agg #[.int .i64 (hiOf (ofI n)), .int .u64 (loOf (ofI n))]) ∧ Below w.heap.size w w' := by
  have H := Lib.hid (halves (ofI n))
  have Ho := Lib.hid (ofI_toInt n h)
  unfold I64 at h
  go_enter Tryd.func40, Tryd.ntmps40
  go_wp2
  go_returns
  refine ⟨ret_num (H.out _ _ (by omega) (by omega) (by rw [IntKind.wrap_u64]; omega) (by rw [IntKind.wrap_u64]; omega) ?_), by go_grown⟩
  rw [Ho.out, IntKind.wrap_u64]
  have : n / 9223372036854775808 = -1 ∧ n < 0 ∨ n / 9223372036854775808 = 0 ∧ 0 ≤ n := by omega
  omega
theorem run_numI (o : Oper) (a : Act) (x : Operand) (g : Nat) (hi lo : Int) (w : World) (ho : o.op = .load 65 x) (hx : a.eval x = .pointer (some ⟨g, 0, none⟩)) (hc : w.heap[g]? = some (.cells #[.int .i64 hi, .int .u64 lo] 65)) :
    (execOp a.eval o).run Tryd.prog w = .ok (.value (.agg #[.int .i64 hi, .int .u64 lo])) w := by
  have c1 : w.cell? ⟨g, 0, none⟩ = some (.int .i64 hi) := by rw [Joins.cell_of_block hc 0]; rfl
  have c2 : w.cell? ⟨g, 1, none⟩ = some (.int .u64 lo) := by rw [Joins.cell_of_block hc 1]; rfl
  unfold execOp
  simp only [ho, hx]
  go_simp
theorem int_facts (u : BitVec 128) : I64 (wrap64 (loOf u)) ∧ (hiOf (ofI (wrap64 (loOf u))) == hiOf u && (loOf (ofI (wrap64 (loOf u))) : Int) == (loOf u : Int)) = fits u.toInt ∧ (fits u.toInt = true → wrap64 (loOf u) = u.toInt) := by
  have hu := toInt_split u
  have hb := hiOf_bounds u
  have lu := loOf_lt' u
  have l0 : 0 ≤ (loOf u : Int) := Int.natCast_nonneg _
  have hm : I64 (wrap64 (loOf u)) := ⟨by unfold wrap64; omega, by unfold wrap64; omega⟩
  have hsame := num_same (ofI (wrap64 (loOf u))) u
  have h1 := ofI_toInt _ hm
  have h2 : fits u.toInt = true ↔ wrap64 (loOf u) = u.toInt := by
    rw [fits_iff, ← hu]; unfold wrap64; omega
  refine ⟨hm, ?_, fun h => h2.1 h⟩
  rw [hsame, Bool.eq_iff_iff, decide_eq_true_eq, h2]
  constructor
  · intro h; rw [← h1, h]
  · intro h; rw [h]; unfold ofI; rw [BitVec.ofInt_toInt]
set_option maxRecDepth 100000 in
theorem int_walk (hx lx hy ly z : Int) (ft : Bool) (w : World) (HO : Hid (∀ w, Calls Tryd.prog 40 #[.int .i64 (wrap64 lx)] w fun e w' => e = .returned (.agg #[.int .i64 hy, .int .u64 ly]) ∧ Below w.heap.size w w'))
    (hsame : (hy == hx && ly == lx) = ft) (Hf : Hid (ft = true → wrap64 lx = z)) :
    Calls Tryd.prog 29 #[(.agg #[.int .i64 hx, .int .u64 lx])] w fun e w' => e = .returned (.tuple #[.int .i64 (if ft then z else 0), .bool ft]) ∧ Below w.heap.size w w' := by
  go_enter Tryd.func29, Tryd.ntmps29
  go_wp2_with fail
  have kx : (w.alloc (.cells #[.int .i64 hx, .int .u64 lx] 65)).heap[w.heap.size]? = some (.cells #[.int .i64 hx, .int .u64 lx] 65) := heap_alloc_last _ _
  have hs1 : w.heap.size < (w.alloc (.cells #[.int .i64 hx, .int .u64 lx] 65)).heap.size := by simp
  have B2 : Hid (Below w.heap.size w (w.alloc (.cells #[.int .i64 hx, .int .u64 lx] 65))) := ((Below.refl _ _).alloc (Nat.le_refl _) _)
  generalize w.alloc (.cells #[.int .i64 hx, .int .u64 lx] 65) = W at *
  refine wp_region_quiet (C := Out W) (by kernel_rfl) (by kernel_rfl) ⟨rfl, rfl, rfl, Nat.le_refl _, fun _ _ => rfl⟩ ?_
  refine BigFrame.wpQuiet_want rfl (fun K hK => ?_)
  refine quiet_val (.int .i64 (wrap64 lx)) (fun w' _ => by go_simp) (hK _ ?_)
  clear hK K
  simp only [Act.put, List.setIfInBounds_toArray, List.set_cons_zero, List.set_cons_succ]
  refine BigFrame.wpQuiet_want rfl (fun K hK => ?_)
  refine quiet_call 40 #[.int .i64 (wrap64 lx)] (.agg #[.int .i64 hy, .int .u64 ly]) (fun w' _ => by go_simp) (fun w' hw' => Calls.out hw' (HO.out _)) (hK _ ?_)
  clear hK K
  simp only [Act.put, List.setIfInBounds_toArray, List.set_cons_zero, List.set_cons_succ]
  refine BigFrame.wpQuiet_want rfl (fun K hK => ?_)
  refine quiet_val (.agg #[.int .i64 hx, .int .u64 lx]) (fun w' hw' => run_numI _ _ _ w.heap.size _ _ w' rfl rfl ((Below.block hw' w.heap.size (by omega)).trans kx)) (hK _ ?_)
  clear hK K
  simp only [Act.put, List.setIfInBounds_toArray, List.set_cons_zero, List.set_cons_succ]
  refine BigFrame.wpQuiet_want rfl (fun K hK => ?_)
  refine quiet_val (.bool (!ft)) (fun w' _ => by go_simp; rw [← hsame]; by_cases e1 : hy = hx <;> by_cases e2 : ly = lx <;> simp [e1, e2]) (hK _ ?_)
  clear hK K
  simp only [Act.put, List.setIfInBounds_toArray, List.set_cons_zero, List.set_cons_succ]
  refine wpQuiet_nil ?_
  intro w' hw'
  have Hw := Lib.hid hw'
  clear hw'
  cases ft
  · clear hsame Hf
    go_wp2_with fail
    go_ret2
    exact ⟨rfl, B2.out.trans (Hw.out.mono (by omega))⟩
  · clear hsame
    have e := Hf.out rfl
    clear Hf
    go_wp2_with fail
    go_ret2
    exact ⟨rfl, B2.out.trans (Hw.out.mono (by omega))⟩
theorem int_c (u : BitVec 128) (w : World) : Calls Tryd.prog 29 #[(.agg #[.int .i64 (hiOf (u)), .int .u64 (loOf (u))])] w fun e w' => e = .returned (.tuple #[.int .i64 (if fits u.toInt then u.toInt else 0), .bool (fits u.toInt)]) ∧ Below w.heap.size w w' := by
  obtain ⟨h1, h2, h3⟩ := int_facts u
  exact int_walk _ _ _ _ _ _ w (Lib.hid fun w => of_c _ w h1) h2 (Lib.hid h3)
theorem shr_toInt (u : BitVec 128) (n : Nat) : (u.sshiftRight n).toInt = u.toInt / (2 ^ n : Int) := by
  rw [BitVec.toInt_sshiftRight, Int.shiftRight_eq_div_pow]
  norm_cast
theorem low_arith (hx lx : Int) (k : Nat) (hk : k < 64) (l0 : 0 ≤ lx) (l1 : lx < 18446744073709551616) :
    bits .or .u64 (lx / 2 ^ k) (IntKind.u64.wrap (IntKind.u64.wrap hx * 2 ^ (64 - k))) = lx / 2 ^ k + (hx % 2 ^ k) * 2 ^ (64 - k) ∧
    (hx / 2 ^ k) * 18446744073709551616 + (lx / 2 ^ k + (hx % 2 ^ k) * 2 ^ (64 - k)) = (hx * 18446744073709551616 + lx) / 2 ^ k ∧
    0 ≤ lx / 2 ^ k + (hx % 2 ^ k) * 2 ^ (64 - k) ∧ lx / 2 ^ k + (hx % 2 ^ k) * 2 ^ (64 - k) < 18446744073709551616 := by
  have hPQ : (2 : Int) ^ k * 2 ^ (64 - k) = 18446744073709551616 := by
    rw [← Int.pow_add, show k + (64 - k) = 64 by omega]; rfl
  have hP : (0 : Int) < 2 ^ k := Int.pow_pos (by decide)
  have hQ : (0 : Int) < 2 ^ (64 - k) := Int.pow_pos (by decide)
  have hor : ∀ a b : Nat, b < 2 ^ (64 - k) → b ||| (a * 2 ^ (64 - k)) = a * 2 ^ (64 - k) + b := fun a b h => by
    rw [Nat.or_comm, ← Nat.shiftLeft_eq, Nat.shiftLeft_add_eq_or_of_lt h]
  have hQn : (((2 ^ (64 - k) : Nat)) : Int) = 2 ^ (64 - k) := by norm_cast
  generalize hPd : (2 : Int) ^ k = P at *
  generalize hQd : (2 : Int) ^ (64 - k) = Q at *
  generalize 2 ^ (64 - k) = Qn at *
  have m0 := Int.emod_nonneg hx (show P ≠ 0 by omega)
  have m1 := Int.emod_lt_of_pos hx hP
  have d1 : lx / P < Q := Int.ediv_lt_of_lt_mul hP (by rw [Int.mul_comm, hPQ]; exact l1)
  have d0 : 0 ≤ lx / P := Int.ediv_nonneg l0 (by omega)
  have e0 : 0 ≤ hx % P * Q := Int.mul_nonneg m0 (by omega)
  have e1 : hx % P * Q + Q ≤ 18446744073709551616 := by
    have := Int.mul_le_mul_of_nonneg_right (show hx % P + 1 ≤ P by omega) (show 0 ≤ Q by omega)
    rw [hPQ, Int.add_mul, Int.one_mul] at this
    exact this
  have w1 : IntKind.u64.wrap (IntKind.u64.wrap hx * Q) = hx % P * Q := by
    rw [IntKind.wrap_u64, IntKind.wrap_u64, Int.mul_emod, Int.emod_emod_of_dvd _ (Int.dvd_refl _), ← Int.mul_emod, ← hPQ, Int.mul_comm hx Q, Int.mul_comm P Q, Int.mul_emod_mul_of_pos _ _ hQ, Int.mul_comm]
  refine ⟨?_, ?_, by omega, by omega⟩
  · rw [w1]
    obtain ⟨A, hA⟩ := Int.eq_ofNat_of_zero_le m0
    obtain ⟨B, hB⟩ := Int.eq_ofNat_of_zero_le d0
    rw [hA] at e0 e1 ⊢
    rw [hB] at d1 ⊢
    rw [← hQn, ← Int.natCast_mul] at e0 e1 ⊢
    rw [bits_or_u64_nat B (A * Qn) (by omega) (by omega), hor A B (by omega)]
    omega
  · have h3 : (hx * 18446744073709551616 + lx) / P = hx * Q + lx / P := by
      rw [← hPQ, show hx * (P * Q) + lx = lx + hx * Q * P by rw [Int.mul_comm P Q, Int.mul_assoc]; omega, Int.add_mul_ediv_right _ _ (by omega), Int.add_comm]
    have h4 := Int.mul_ediv_add_emod hx P
    have h5 : hx * Q = (hx / P) * 18446744073709551616 + hx % P * Q := by
      rw [← hPQ, ← Int.mul_assoc, ← Int.add_mul, Int.mul_comm (hx / P) P, h4]
    rw [h3, h5]
    omega
theorem high_arith (hx lx : Int) (m : Nat) (l0 : 0 ≤ lx) (l1 : lx < 18446744073709551616) (h0 : -9223372036854775808 ≤ hx) (h1 : hx ≤ 9223372036854775807) :
    (hx * 18446744073709551616 + lx) / 2 ^ (64 + m) = hx / 2 ^ min m 64 ∧ -9223372036854775808 ≤ hx / 2 ^ min m 64 ∧ hx / 2 ^ min m 64 ≤ 9223372036854775807 ∧
    (hx / 9223372036854775808 = -1 ∧ hx / 2 ^ min m 64 < 0 ∨ hx / 9223372036854775808 = 0 ∧ 0 ≤ hx / 2 ^ min m 64) := by
  have key : ∀ P : Int, 0 < P → (hx < 0 ∧ hx ≤ hx / P ∧ hx / P < 0 ∨ 0 ≤ hx ∧ 0 ≤ hx / P ∧ hx / P ≤ hx) := fun P hP => by
    rcases Int.lt_or_le hx 0 with h | h
    · left
      refine ⟨h, Int.le_ediv_of_mul_le hP ?_, Int.ediv_neg_of_neg_of_pos h hP⟩
      have := Int.mul_le_mul_of_nonpos_left (show hx ≤ 0 by omega) (show 1 ≤ P by omega)
      omega
    · right
      exact ⟨h, Int.ediv_nonneg h (by omega), Int.ediv_le_self _ h⟩
  have hd : (hx * 18446744073709551616 + lx) / 2 ^ (64 + m) = hx / 2 ^ m := by
    rw [Int.pow_add, ← Int.ediv_ediv_of_nonneg (by decide)]
    congr 1
    show (hx * 18446744073709551616 + lx) / 18446744073709551616 = hx
    omega
  have hm : hx / 2 ^ m = hx / 2 ^ min m 64 := by
    rcases Nat.le_total m 64 with h | h
    · rw [Nat.min_eq_left h]
    · rw [Nat.min_eq_right h]
      have hp : (18446744073709551616 : Int) ≤ 2 ^ m := by
        have h5 : (2 : Nat) ^ 64 ≤ 2 ^ m := Nat.pow_le_pow_right (by decide) h
        have h6 : ((2 ^ m : Nat) : Int) = (2 : Int) ^ m := by norm_cast
        omega
      show hx / 2 ^ m = hx / 18446744073709551616
      generalize (2 : Int) ^ m = P at *
      rcases Int.lt_or_le hx 0 with h2 | h2
      · have h3 : hx / P = -1 := by
          have h4 := (key P (by omega))
          have h5 : -1 ≤ hx / P := Int.le_ediv_of_mul_le (by omega) (by omega)
          omega
        rw [h3]; omega
      · rw [Int.ediv_eq_zero_of_lt h2 (by omega)]; omega
  rw [hd, hm]
  have hk := key (2 ^ min m 64) (Int.pow_pos (by decide))
  refine ⟨rfl, by omega, by omega, by omega⟩
set_option maxHeartbeats 400000 in
theorem shr_neg_c (u : BitVec 128) (n : Int) (h : n < 0) (w : World) : Calls Tryd.prog 28 #[(.agg #[.int .i64 (hiOf (u)), .int .u64 (loOf (u))]), .int .i64 n] w fun e w' => e = .returned (.agg #[.int .i64 (hiOf u), .int .u64 (loOf u)]) ∧ Below w.heap.size w w' := by
  have hd : decide (n < 0) = true := by simpa using h
  generalize (loOf u : Int) = lx at *
  generalize hiOf u = hx at *
  go_enter Tryd.func28, Tryd.ntmps28
  go_wp2
  go_returns
  exact ⟨rfl, by go_grown⟩
set_option maxHeartbeats 400000 in
theorem shr_low_c (u : BitVec 128) (n : Int) (h0 : 0 ≤ n) (h : n < 64) (w : World) : Calls Tryd.prog 28 #[(.agg #[.int .i64 (hiOf (u)), .int .u64 (loOf (u))]), .int .i64 n] w fun e w' => e = .returned (.agg #[.int .i64 (hiOf (u.sshiftRight n.toNat)), .int .u64 (loOf (u.sshiftRight n.toNat))]) ∧ Below w.heap.size w w' := by
  have hd : decide (n < 0) = false := by simpa using h0
  have hd2 : decide (n < 64) = true := by simpa using h
  have hu := Lib.hid (toInt_split u)
  have hb := Lib.hid (hiOf_bounds u)
  have lu := loOf_lt' u
  have l0 : 0 ≤ (loOf u : Int) := Int.natCast_nonneg _
  have H := Lib.hid (halves (u.sshiftRight n.toNat))
  have HS := Lib.hid (shr_toInt u n.toNat)
  generalize (loOf u : Int) = lx at *
  generalize hiOf u = hx at *
  have HA := Lib.hid (low_arith hx lx n.toNat (by omega) l0 lu)
  go_enter Tryd.func28, Tryd.ntmps28
  go_wp2
  go_region
  go_wp2
  go_returns
  refine ⟨?_, by go_grown⟩
  rw [show (64 - n).toNat = 64 - n.toNat by omega]
  obtain ⟨a1, a2, a3, a4⟩ := HA.out
  have hb1 := hb.out
  have hP : (1 : Int) ≤ 2 ^ n.toNat := Int.pow_pos (by decide)
  refine ret_num (H.out _ _ ?_ ?_ (by rw [a1]; exact a3) (by rw [a1]; exact a4) (by rw [a1, a2, hu.out, HS.out]))
  · exact Int.le_ediv_of_mul_le (by omega) (by
      have := Int.mul_le_mul_of_nonpos_left (show (-9223372036854775808 : Int) ≤ 0 by decide) hP
      omega)
  · exact Int.le_trans (Int.ediv_le_ediv (by omega) hb1.2) (Int.ediv_le_self _ (by decide))
set_option maxHeartbeats 400000 in
theorem shr_high_c (u : BitVec 128) (n : Int) (h0 : 64 ≤ n) (h : I64 n) (w : World) : Calls Tryd.prog 28 #[(.agg #[.int .i64 (hiOf (u)), .int .u64 (loOf (u))]), .int .i64 n] w fun e w' => e = .returned (.agg #[.int .i64 (hiOf (u.sshiftRight n.toNat)), .int .u64 (loOf (u.sshiftRight n.toNat))]) ∧ Below w.heap.size w w' := by
  have hd : decide (n < 0) = false := by simp; omega
  have hd2 : decide (n < 64) = false := by simp; omega
  unfold I64 at h
  have hu := Lib.hid (toInt_split u)
  have hb := (hiOf_bounds u)
  have lu := loOf_lt' u
  have l0 : 0 ≤ (loOf u : Int) := Int.natCast_nonneg _
  have H := Lib.hid (halves (u.sshiftRight n.toNat))
  have HS := Lib.hid (shr_toInt u n.toNat)
  generalize (loOf u : Int) = lx at *
  generalize hiOf u = hx at *
  have HA := Lib.hid (high_arith hx lx (n - 64).toNat l0 lu hb.1 hb.2)
  have Hb := Lib.hid hb
  clear hb
  go_enter Tryd.func28, Tryd.ntmps28
  go_wp2
  go_region
  go_wp2
  go_returns
  refine ⟨?_, by go_grown⟩
  obtain ⟨a1, a2, a3, a4⟩ := HA.out
  rw [show 64 + (n - 64).toNat = n.toNat by omega, hu.out] at a1
  rw [← HS.out] at a1
  have hb1 := Hb.out
  refine ret_num (H.out _ _ (by omega) (by omega) (by rw [IntKind.wrap_u64]; omega) (by rw [IntKind.wrap_u64]; omega) ?_)
  rw [a1, IntKind.wrap_u64]
  generalize hx / 2 ^ min (n - 64).toNat 64 = y at *
  omega
theorem shr_c (u : BitVec 128) (n : Int) (w : World) (h : I64 n) : Calls Tryd.prog 28 #[(.agg #[.int .i64 (hiOf (u)), .int .u64 (loOf (u))]), .int .i64 n] w fun e w' => e = .returned (.agg #[.int .i64 (hiOf (u.sshiftRight n.toNat)), .int .u64 (loOf (u.sshiftRight n.toNat))]) ∧ Below w.heap.size w w' := by
  rcases Int.lt_or_le n 0 with h0 | h0
  · have := shr_neg_c u n h0 w
    rw [show n.toNat = 0 by omega, BitVec.sshiftRight_zero]
    exact this
  · rcases Int.lt_or_le n 64 with h1 | h1
    · exact shr_low_c u n h0 h1 w
    · exact shr_high_c u n h1 h w
end Go.Proofs.YticoklfgmflidaaDoor
