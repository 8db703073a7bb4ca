/- The law of P2.2, as a contract: it returns true, for every input. -/
import Derived.Test.YtgkgdkdendmfnaaP
namespace Go.Proofs.Ytgkgdkdendmfnaa
open Go.RowKit
theorem shr_far (u : BitVec 128) (n : Nat) (h : 128 ≤ n) : u.sshiftRight n = u.sshiftRight 128 := by
  apply BitVec.eq_of_getLsbD_eq
  intro i hi
  rw [shr_bit u n i hi, shr_bit u 128 i hi, if_neg (by omega), if_neg (by omega)]
theorem heap_setCell_other (w : World) (a : Addr) (v : Value) (g : Nat) (h : g ≠ a.block) : (w.setCell a v).heap[g]? = w.heap[g]? := by
  unfold World.setCell
  simp only [Array.getElem?_modify]
  rw [if_neg (fun e => h e.symm)]
set_option maxHeartbeats 1000000 in
set_option maxRecDepth 100000 in
theorem shifts_neg (K : WideOk) (u : BitVec 128) (n : Int) (hn : I64 n) (h0 : n < 0) (w : World) :
    Calls Try.prog 6 #[(.agg #[.int .i64 (hiOf (u)), .int .u64 (loOf (u))]), .int .i64 n] w fun e w' => e = .returned (.bool true) ∧ Below w.heap.size w w' := by
  have HS := Lib.hid fun w => K.shr_w u n w hn
  rw [show n.toNat = 0 by omega, BitVec.sshiftRight_zero] at HS
  have hd : decide (n < 0) = true := by simpa using h0
  generalize hiOf u = p at *
  generalize (loOf u : Int) = q at *
  go_enter Try.func6, Try.ntmps6
  go_wp2_with fail
  refine (HS.out _).mono ?_
  rintro e w1 ⟨rfl, hb1⟩
  have kx : w1.heap[w.heap.size]? = some (.cells #[.int .i64 p, .int .u64 q] 24) := by
    rw [hb1.block w.heap.size (by simp)]
    exact heap_alloc_last _ _
  have hs : w.heap.size + 1 ≤ w1.heap.size := by have := hb1.size; simpa using this
  have B1 : Hid (Below w.heap.size w w1) := below_next ((Below.refl _ _).alloc (Nat.le_refl _) _) hb1
  have c1 : w1.cell? ⟨w.heap.size, 0, none⟩ = some (.int .i64 p) := by rw [Joins.cell_of_block kx 0]; rfl
  have c2 : w1.cell? ⟨w.heap.size, 1, none⟩ = some (.int .u64 q) := by rw [Joins.cell_of_block kx 1]; rfl
  have hs' : w.heap.size < w1.heap.size := by omega
  clear hb1 kx
  go_wp2_with ((go_at_call 17; refine (awake_any K _).mono ?_; rintro e w2 ⟨rfl, hb2⟩; have B2 := Lib.hid hb2; clear hb2))
  go_ret
  exact ⟨rfl, below_next (B1.out.alloc (by omega) _) B2.out⟩
set_option maxHeartbeats 1000000 in
set_option maxRecDepth 100000 in
theorem shifts_pos (K : WideOk) (u : BitVec 128) (n : Int) (hn : I64 n) (h0 : 0 ≤ n) (w : World) :
    Calls Try.prog 6 #[(.agg #[.int .i64 (hiOf (u)), .int .u64 (loOf (u))]), .int .i64 n] w fun e w' => e = .returned (.bool true) ∧ Below w.heap.size w w' := by
  have HS := Lib.hid fun w => K.shr_w u n w hn
  have hd : decide (n < 0) = false := by simp; omega
  obtain ⟨m, hm, hm0, hm1⟩ : ∃ m : Int, m = min n 128 ∧ 0 ≤ m ∧ m ≤ 128 := ⟨_, rfl, by omega, by omega⟩
  have HX := Lib.hid (shr_any u m.toNat (by omega))
  rw [show u.sshiftRight m.toNat = u.sshiftRight n.toNat by
    rcases Int.le_total n 128 with h | h
    · rw [show m = n by omega]
    · rw [show m = 128 by omega, shr_far u n.toNat (by omega)]; rfl, show ((m.toNat : Nat) : Int) = m by omega] at HX
  obtain ⟨s, hs0⟩ : ∃ s, u.sshiftRight n.toNat = s := ⟨_, rfl⟩
  rw [hs0] at HS HX
  clear hs0
  have HBu := Lib.hid (bitsW u)
  have HBs := Lib.hid (bitsW s)
  have E1 := equal_row s s
  simp only [decide_true] at E1
  have K' := K
  have HR : Hid ((row u).size = 128) := row_size _
  generalize row u = ru at *
  generalize row s = rs at *
  go_enter Try.func6, Try.ntmps6
  go_wp2_with fail
  refine (HS.out _).mono ?_
  rintro e w1 ⟨rfl, hb1⟩
  have kx1 : w1.heap[w.heap.size]? = some (.cells #[.int .i64 (hiOf u), .int .u64 (loOf u)] 24) := by
    rw [hb1.block w.heap.size (by simp)]
    exact heap_alloc_last _ _
  have hs : w.heap.size + 1 ≤ w1.heap.size := by have := hb1.size; simpa using this
  have B1 : Hid (Below w.heap.size w w1) := below_next ((Below.refl _ _).alloc (Nat.le_refl _) _) hb1
  have KX := Lib.hid kx1
  clear hb1 kx1
  go_wp2_with fail
  have kx0 : (w1.alloc (.cells #[.int .i64 (hiOf s), .int .u64 (loOf s)] 24)).heap[w.heap.size]? = some (.cells #[.int .i64 (hiOf u), .int .u64 (loOf u)] 24) := by
    rw [heap_alloc_old _ _ (by omega)]; exact KX.out
  have ks0 : (w1.alloc (.cells #[.int .i64 (hiOf s), .int .u64 (loOf s)] 24)).heap[w1.heap.size]? = some (.cells #[.int .i64 (hiOf s), .int .u64 (loOf s)] 24) := heap_alloc_last _ _
  have hs1 : w1.heap.size < (w1.alloc (.cells #[.int .i64 (hiOf s), .int .u64 (loOf s)] 24)).heap.size := by simp
  have B2 : Hid (Below w.heap.size w (w1.alloc (.cells #[.int .i64 (hiOf s), .int .u64 (loOf s)] 24))) := B1.out.alloc (by omega) _
  generalize w1.alloc (.cells #[.int .i64 (hiOf s), .int .u64 (loOf s)] 24) = W at *
  have kx := kx0; have ks := ks0
  clear kx0 ks0
  generalize w1.heap.size = g at *
  clear KX B1
  refine wp_region_quiet (C := Out W) (by kernel_rfl) (by kernel_rfl) ⟨rfl, rfl, rfl, Nat.le_refl _, fun _ _ => rfl⟩ ?_
  refine BigFrame.wpQuiet_want rfl (fun K hK => ?_)
  refine quiet_val (.agg #[.int .i64 (hiOf (s)), .int .u64 (loOf (s))]) (fun w' hw' => run_num _ _ _ g _ w' rfl rfl ((Below.block hw' g (by omega)).trans ks)) (hK _ ?_)
  clear hK K
  simp only [Act.put, List.setIfInBounds_toArray, List.set_cons_zero, List.set_cons_succ]
  refine BigFrame.wpQuiet_want rfl (fun K hK => ?_)
  refine quiet_call 10 #[(.agg #[.int .i64 (hiOf (s)), .int .u64 (loOf (s))])] (.agg rs) (fun w' _ => by go_simp) (fun w' hw' => Calls.out hw' (HBs.out _)) (hK _ ?_)
  clear hK K
  simp only [Act.put, List.setIfInBounds_toArray, List.set_cons_zero, List.set_cons_succ]
  refine BigFrame.wpQuiet_want rfl (fun K hK => ?_)
  refine quiet_val (.agg #[.int .i64 (hiOf (u)), .int .u64 (loOf (u))]) (fun w' hw' => run_num _ _ _ w.heap.size _ w' rfl rfl ((Below.block hw' w.heap.size (by omega)).trans kx)) (hK _ ?_)
  clear hK K
  simp only [Act.put, List.setIfInBounds_toArray, List.set_cons_zero, List.set_cons_succ]
  refine BigFrame.wpQuiet_want rfl (fun K hK => ?_)
  refine quiet_call 10 #[(.agg #[.int .i64 (hiOf (u)), .int .u64 (loOf (u))])] (.agg ru) (fun w' _ => by go_simp) (fun w' hw' => Calls.out hw' (HBu.out _)) (hK _ ?_)
  clear hK K
  simp only [Act.put, List.setIfInBounds_toArray, List.set_cons_zero, List.set_cons_succ]
  refine BigFrame.wpQuiet_want rfl (fun K hK => ?_)
  refine quiet_val (.int .i64 n) (fun w' _ => by go_simp) (hK _ ?_)
  clear hK K
  simp only [Act.put, List.setIfInBounds_toArray, List.set_cons_zero, List.set_cons_succ]
  refine BigFrame.wpQuiet_want rfl (fun K hK => ?_)
  refine quiet_val (.int .i64 m) (fun w' _ => by go_simp; omega) (hK _ ?_)
  clear hK K
  simp only [Act.put, List.setIfInBounds_toArray, List.set_cons_zero, List.set_cons_succ]
  refine BigFrame.wpQuiet_want rfl (fun K hK => ?_)
  refine quiet_call 27 #[.agg ru, .int .i64 m] (.agg rs) (fun w' _ => by go_simp) (fun w' hw' => Calls.out hw' (HX.out _)) (hK _ ?_)
  clear hK K
  simp only [Act.put, List.setIfInBounds_toArray, List.set_cons_zero, List.set_cons_succ]
  refine BigFrame.wpQuiet_want rfl (fun K hK => ?_)
  refine quiet_val (.bool true) (fun w' _ => by go_simp) (hK _ ?_)
  clear hK K
  simp only [Act.put, List.setIfInBounds_toArray, List.set_cons_zero, List.set_cons_succ]
  refine BigFrame.wpQuiet_want rfl (fun K hK => ?_)
  refine quiet_val (.bool true) (fun _ _ => by go_simp) (hK _ ?_)
  clear hK K
  simp only [Act.put, List.setIfInBounds_toArray, List.set_cons_zero, List.set_cons_succ]
  refine BigFrame.wpQuiet_want rfl (fun K hK => ?_)
  refine quiet_call 17 #[] (.bool true) (fun w' _ => by go_simp) (fun w' hw' => Calls.out hw' (awake_any K' _)) (hK _ ?_)
  clear hK K
  simp only [Act.put, List.setIfInBounds_toArray, List.set_cons_zero, List.set_cons_succ]
  refine BigFrame.wpQuiet_want rfl (fun K hK => ?_)
  refine quiet_val (.bool true) (fun _ _ => rfl) (hK _ ?_)
  clear hK K
  simp only [Act.put, List.setIfInBounds_toArray, List.set_cons_zero, List.set_cons_succ]
  refine BigFrame.wpQuiet_want rfl (fun K hK => ?_)
  refine quiet_val (.bool true) (fun _ _ => by go_simp) (hK _ ?_)
  clear hK K
  simp only [Act.put, List.setIfInBounds_toArray, List.set_cons_zero, List.set_cons_succ]
  refine wpQuiet_nil ?_
  intro w' hw'
  go_wp2_with fail
  go_ret
  exact ⟨rfl, B2.out.trans (hw'.mono (by omega))⟩
end Go.Proofs.Ytgkgdkdendmfnaa
