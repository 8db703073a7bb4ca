/- The law of P2.1 on rings, as a contract: it returns true, for every input. -/
import Derived.Test.YtgkgdkdendmfnaaYn
namespace Go.Proofs.Ytgkgdkdendmfnaa
open Go.RowKit
theorem three_any (w : World) (A B C : Obj) : (((w.alloc A).alloc B).alloc C).heap[w.heap.size]? = some A ∧ (((w.alloc A).alloc B).alloc C).heap[w.heap.size + 1]? = some B ∧ (((w.alloc A).alloc B).alloc C).heap[w.heap.size + 1 + 1]? = some C ∧
    Below w.heap.size w (((w.alloc A).alloc B).alloc C) ∧ (((w.alloc A).alloc B).alloc C).heap.size = w.heap.size + 3 := by
  have s1 : (w.alloc A).heap.size = w.heap.size + 1 := by simp
  have s2 : ((w.alloc A).alloc B).heap.size = w.heap.size + 1 + 1 := by simp
  refine ⟨?_, ?_, ?_, ?_, by simp⟩
  · rw [heap_alloc_old _ _ (by omega), heap_alloc_old _ _ (by omega)]; exact heap_alloc_last _ _
  · rw [heap_alloc_old _ _ (by omega), ← s1]; exact heap_alloc_last _ _
  · rw [← s2]; exact heap_alloc_last _ _
  · exact (((Below.refl _ _).alloc (Nat.le_refl _) _).alloc (by omega) _).alloc (by omega) _
theorem toI_add (b c : Int) (hb : I64 b) (hc : I64 c) : (ofI b + ofI c).toInt = b + c := by
  have h1 := hb; have h2 := hc
  obtain ⟨b0, b1⟩ := hb
  obtain ⟨c0, c1⟩ := hc
  rw [BitVec.toInt_add, toI_ofI b h1, toI_ofI c h2]
  apply Int.bmod_eq_of_le
  · show -(((340282366920938463463374607431768211456 : Nat) : Int) / 2) ≤ _
    omega
  · show _ < (((340282366920938463463374607431768211456 : Nat) : Int) + 1) / 2
    omega
set_option maxHeartbeats 8000000 in
set_option maxRecDepth 100000 in
theorem rings_law (K : WideOk) (a b c : Int) (ha : I64 a) (hb : I64 b) (hc : I64 c) (w : World) :
    Calls Try.prog 9 #[.int .i64 a, .int .i64 b, .int .i64 c] w fun e w' => e = .returned (.bool true) ∧ Below w.heap.size w w' := by
  have B : Hid (Below w.heap.size w w) := Below.refl _ _
  have K' := K
  have HX := Lib.hid fun w => K.of_w a w ha
  have HY := Lib.hid fun w => K.of_w b w hb
  have HZ := Lib.hid fun w => K.of_w c w hc
  have A1 := Lib.hid (K.add_w (ofI a) (ofI b))
  have A2 := Lib.hid (K.add_w (ofI b) (ofI a))
  have A3 := Lib.hid (K.add_w (ofI a + ofI b) (ofI c))
  have A4 := Lib.hid (K.add_w (ofI b) (ofI c))
  have A5 := Lib.hid (K.add_w (ofI a) (ofI b + ofI c))
  have D1 := Lib.hid (K.sub_w (ofI a) (ofI b))
  have D2 := Lib.hid (K.add_w (ofI a - ofI b) (ofI b))
  have N1 := Lib.hid (K.neg_w (ofI a))
  have N2 := Lib.hid (K.neg_w (-ofI a))
  have M1 := Lib.hid fun w => K.mul_w a 1 w ha (by unfold I64; omega)
  have M2 := Lib.hid fun w => K.mul_w a (-1) w ha (by unfold I64; omega)
  have P1 := Lib.hid fun w => K.mul_w a b w ha hb
  have P2 := Lib.hid fun w => K.mul_w a c w ha hc
  have P3 := Lib.hid (K.add_w (ofI a * ofI b) (ofI a * ofI c))
  have P4 : Hid (∀ w, fits (b + c) = true → Calls Try.prog 18 #[.int .i64 a, .int .i64 (b + c)] w fun e w' => e = .returned (.agg #[.int .i64 (hiOf (ofI a * ofI b + ofI a * ofI c)), .int .u64 (loOf (ofI a * ofI b + ofI a * ofI c))]) ∧ Below w.heap.size w w') := fun w h => by
    have := K.mul_w a (b + c) w ha (fits_iff.1 h)
    rw [show ofI (b + c) = ofI b + ofI c by unfold ofI; rw [BitVec.ofInt_add], BitVec.mul_add] at this
    exact this
  have I1 := Lib.hid (K.int_w (ofI b + ofI c))
  rw [toI_add b c hb hc] at I1
  rw [BitVec.add_comm (ofI b) (ofI a)] at A2
  rw [← BitVec.add_assoc] at A5
  rw [BitVec.sub_add_cancel] at D2
  rw [BitVec.neg_neg] at N2
  rw [show ofI 1 = 1#128 by decide, BitVec.mul_one] at M1
  rw [show ofI (-1) = -1#128 by decide, BitVec.mul_neg, BitVec.mul_one] at M2
  generalize ofI a * ofI b + ofI a * ofI c = p3 at *
  generalize ofI a * ofI b = p1 at *
  generalize ofI a * ofI c = p2 at *
  generalize ofI a + ofI b + ofI c = t at *
  generalize ofI a + ofI b = s1 at *
  generalize ofI b + ofI c = s2 at *
  generalize ofI a - ofI b = d at *
  generalize -ofI a = nx at *
  generalize ofI a = x at *
  generalize ofI b = y at *
  generalize ofI c = z at *
  generalize b + c = m at *
  go_enter Try.func9, Try.ntmps9
  go_wp2_with fail
  refine (HX.out _).mono ?_
  rintro e wn ⟨rfl, hbl⟩
  replace B := Lib.hid (below_next B.out hbl)
  clear hbl
  go_wp2_with fail
  refine (HY.out _).mono ?_
  rintro e wn ⟨rfl, hbl⟩
  replace B := Lib.hid (below_next B.out hbl)
  clear hbl
  go_wp2_with fail
  refine (HZ.out _).mono ?_
  rintro e wn ⟨rfl, hbl⟩
  replace B := Lib.hid (below_next B.out hbl)
  clear hbl
  go_wp2_with fail
  obtain ⟨kx, ky, kz, hb3, hs⟩ := three_any wn (.cells #[.int .i64 (hiOf x), .int .u64 (loOf x)] 24) (.cells #[.int .i64 (hiOf y), .int .u64 (loOf y)] 24) (.cells #[.int .i64 (hiOf z), .int .u64 (loOf z)] 24)
  replace B := Lib.hid (below_next B.out hb3)
  clear hb3
  generalize ((wn.alloc (.cells #[.int .i64 (hiOf x), .int .u64 (loOf x)] 24)).alloc (.cells #[.int .i64 (hiOf y), .int .u64 (loOf y)] 24)).alloc (.cells #[.int .i64 (hiOf z), .int .u64 (loOf z)] 24) = W at *
  generalize wn.heap.size = n at *
  clear HX HY HZ
  refine wp_region_quiet (C := Out W) (by kernel_rfl) (by kernel_rfl) ⟨rfl, rfl, rfl, Nat.le_refl _, fun _ _ => rfl⟩ ?_
  refine BigFrame.wpQuiet_want rfl (fun K hK => ?_)
  refine quiet_val (.agg #[.int .i64 (hiOf (x)), .int .u64 (loOf (x))]) (fun w' hw' => run_num _ _ _ (n) _ w' rfl rfl ((Below.block hw' (n) (by omega)).trans kx)) (hK _ ?_)
  clear hK K
  simp only [Act.put, List.setIfInBounds_toArray, List.set_cons_zero, List.set_cons_succ]
  refine BigFrame.wpQuiet_want rfl (fun K hK => ?_)
  refine quiet_val (.agg #[.int .i64 (hiOf (y)), .int .u64 (loOf (y))]) (fun w' hw' => run_num _ _ _ (n + 1) _ w' rfl rfl ((Below.block hw' (n + 1) (by omega)).trans ky)) (hK _ ?_)
  clear hK K
  simp only [Act.put, List.setIfInBounds_toArray, List.set_cons_zero, List.set_cons_succ]
  refine BigFrame.wpQuiet_want rfl (fun K hK => ?_)
  refine quiet_call 11 #[(.agg #[.int .i64 (hiOf (x)), .int .u64 (loOf (x))]), (.agg #[.int .i64 (hiOf (y)), .int .u64 (loOf (y))])] (.agg #[.int .i64 (hiOf (s1)), .int .u64 (loOf (s1))]) (fun w' _ => by go_simp) (fun w' hw' => Calls.out hw' (A1.out _)) (hK _ ?_)
  clear hK K
  simp only [Act.put, List.setIfInBounds_toArray, List.set_cons_zero, List.set_cons_succ]
  refine BigFrame.wpQuiet_want rfl (fun K hK => ?_)
  refine quiet_val (.agg #[.int .i64 (hiOf (y)), .int .u64 (loOf (y))]) (fun w' hw' => run_num _ _ _ (n + 1) _ w' rfl rfl ((Below.block hw' (n + 1) (by omega)).trans ky)) (hK _ ?_)
  clear hK K
  simp only [Act.put, List.setIfInBounds_toArray, List.set_cons_zero, List.set_cons_succ]
  refine BigFrame.wpQuiet_want rfl (fun K hK => ?_)
  refine quiet_val (.agg #[.int .i64 (hiOf (x)), .int .u64 (loOf (x))]) (fun w' hw' => run_num _ _ _ (n) _ w' rfl rfl ((Below.block hw' (n) (by omega)).trans kx)) (hK _ ?_)
  clear hK K
  simp only [Act.put, List.setIfInBounds_toArray, List.set_cons_zero, List.set_cons_succ]
  refine BigFrame.wpQuiet_want rfl (fun K hK => ?_)
  refine quiet_call 11 #[(.agg #[.int .i64 (hiOf (y)), .int .u64 (loOf (y))]), (.agg #[.int .i64 (hiOf (x)), .int .u64 (loOf (x))])] (.agg #[.int .i64 (hiOf (s1)), .int .u64 (loOf (s1))]) (fun w' _ => by go_simp) (fun w' hw' => Calls.out hw' (A2.out _)) (hK _ ?_)
  clear hK K
  simp only [Act.put, List.setIfInBounds_toArray, List.set_cons_zero, List.set_cons_succ]
  refine BigFrame.wpQuiet_want rfl (fun K hK => ?_)
  refine quiet_val (.bool false) (fun w' _ => by go_simp) (hK _ ?_)
  clear hK K
  simp only [Act.put, List.setIfInBounds_toArray, List.set_cons_zero, List.set_cons_succ]
  refine BigFrame.wpQuiet_want rfl (fun K hK => ?_)
  refine quiet_val (.bool false) (fun w' _ => by go_simp) (hK _ ?_)
  clear hK K
  simp only [Act.put, List.setIfInBounds_toArray, List.set_cons_zero, List.set_cons_succ]
  refine BigFrame.wpQuiet_want rfl (fun K hK => ?_)
  refine quiet_val (.agg #[.int .i64 (hiOf (x)), .int .u64 (loOf (x))]) (fun w' hw' => run_num _ _ _ (n) _ w' rfl rfl ((Below.block hw' (n) (by omega)).trans kx)) (hK _ ?_)
  clear hK K
  simp only [Act.put, List.setIfInBounds_toArray, List.set_cons_zero, List.set_cons_succ]
  refine BigFrame.wpQuiet_want rfl (fun K hK => ?_)
  refine quiet_val (.agg #[.int .i64 (hiOf (y)), .int .u64 (loOf (y))]) (fun w' hw' => run_num _ _ _ (n + 1) _ w' rfl rfl ((Below.block hw' (n + 1) (by omega)).trans ky)) (hK _ ?_)
  clear hK K
  simp only [Act.put, List.setIfInBounds_toArray, List.set_cons_zero, List.set_cons_succ]
  refine BigFrame.wpQuiet_want rfl (fun K hK => ?_)
  refine quiet_call 11 #[(.agg #[.int .i64 (hiOf (x)), .int .u64 (loOf (x))]), (.agg #[.int .i64 (hiOf (y)), .int .u64 (loOf (y))])] (.agg #[.int .i64 (hiOf (s1)), .int .u64 (loOf (s1))]) (fun w' _ => by go_simp) (fun w' hw' => Calls.out hw' (A1.out _)) (hK _ ?_)
  clear hK K
  simp only [Act.put, List.setIfInBounds_toArray, List.set_cons_zero, List.set_cons_succ]
  refine BigFrame.wpQuiet_want rfl (fun K hK => ?_)
  refine quiet_val (.agg #[.int .i64 (hiOf (z)), .int .u64 (loOf (z))]) (fun w' hw' => run_num _ _ _ (n + 1 + 1) _ w' rfl rfl ((Below.block hw' (n + 1 + 1) (by omega)).trans kz)) (hK _ ?_)
  clear hK K
  simp only [Act.put, List.setIfInBounds_toArray, List.set_cons_zero, List.set_cons_succ]
  refine BigFrame.wpQuiet_want rfl (fun K hK => ?_)
  refine quiet_call 11 #[(.agg #[.int .i64 (hiOf (s1)), .int .u64 (loOf (s1))]), (.agg #[.int .i64 (hiOf (z)), .int .u64 (loOf (z))])] (.agg #[.int .i64 (hiOf (t)), .int .u64 (loOf (t))]) (fun w' _ => by go_simp) (fun w' hw' => Calls.out hw' (A3.out _)) (hK _ ?_)
  clear hK K
  simp only [Act.put, List.setIfInBounds_toArray, List.set_cons_zero, List.set_cons_succ]
  refine BigFrame.wpQuiet_want rfl (fun K hK => ?_)
  refine quiet_val (.agg #[.int .i64 (hiOf (x)), .int .u64 (loOf (x))]) (fun w' hw' => run_num _ _ _ (n) _ w' rfl rfl ((Below.block hw' (n) (by omega)).trans kx)) (hK _ ?_)
  clear hK K
  simp only [Act.put, List.setIfInBounds_toArray, List.set_cons_zero, List.set_cons_succ]
  refine BigFrame.wpQuiet_want rfl (fun K hK => ?_)
  refine quiet_val (.agg #[.int .i64 (hiOf (y)), .int .u64 (loOf (y))]) (fun w' hw' => run_num _ _ _ (n + 1) _ w' rfl rfl ((Below.block hw' (n + 1) (by omega)).trans ky)) (hK _ ?_)
  clear hK K
  simp only [Act.put, List.setIfInBounds_toArray, List.set_cons_zero, List.set_cons_succ]
  refine BigFrame.wpQuiet_want rfl (fun K hK => ?_)
  refine quiet_val (.agg #[.int .i64 (hiOf (z)), .int .u64 (loOf (z))]) (fun w' hw' => run_num _ _ _ (n + 1 + 1) _ w' rfl rfl ((Below.block hw' (n + 1 + 1) (by omega)).trans kz)) (hK _ ?_)
  clear hK K
  simp only [Act.put, List.setIfInBounds_toArray, List.set_cons_zero, List.set_cons_succ]
  refine BigFrame.wpQuiet_want rfl (fun K hK => ?_)
  refine quiet_call 11 #[(.agg #[.int .i64 (hiOf (y)), .int .u64 (loOf (y))]), (.agg #[.int .i64 (hiOf (z)), .int .u64 (loOf (z))])] (.agg #[.int .i64 (hiOf (s2)), .int .u64 (loOf (s2))]) (fun w' _ => by go_simp) (fun w' hw' => Calls.out hw' (A4.out _)) (hK _ ?_)
  clear hK K
  simp only [Act.put, List.setIfInBounds_toArray, List.set_cons_zero, List.set_cons_succ]
  refine BigFrame.wpQuiet_want rfl (fun K hK => ?_)
  refine quiet_call 11 #[(.agg #[.int .i64 (hiOf (x)), .int .u64 (loOf (x))]), (.agg #[.int .i64 (hiOf (s2)), .int .u64 (loOf (s2))])] (.agg #[.int .i64 (hiOf (t)), .int .u64 (loOf (t))]) (fun w' _ => by go_simp) (fun w' hw' => Calls.out hw' (A5.out _)) (hK _ ?_)
  clear hK K
  simp only [Act.put, List.setIfInBounds_toArray, List.set_cons_zero, List.set_cons_succ]
  refine BigFrame.wpQuiet_want rfl (fun K hK => ?_)
  refine quiet_val (.bool false) (fun w' _ => by go_simp) (hK _ ?_)
  clear hK K
  simp only [Act.put, List.setIfInBounds_toArray, List.set_cons_zero, List.set_cons_succ]
  refine BigFrame.wpQuiet_want rfl (fun K hK => ?_)
  refine quiet_val (.bool false) (fun w' _ => by go_simp) (hK _ ?_)
  clear hK K
  simp only [Act.put, List.setIfInBounds_toArray, List.set_cons_zero, List.set_cons_succ]
  refine BigFrame.wpQuiet_want rfl (fun K hK => ?_)
  refine quiet_val (.bool false) (fun w' _ => by go_simp) (hK _ ?_)
  clear hK K
  simp only [Act.put, List.setIfInBounds_toArray, List.set_cons_zero, List.set_cons_succ]
  refine BigFrame.wpQuiet_want rfl (fun K hK => ?_)
  refine quiet_val (.agg #[.int .i64 (hiOf (x)), .int .u64 (loOf (x))]) (fun w' hw' => run_num _ _ _ (n) _ w' rfl rfl ((Below.block hw' (n) (by omega)).trans kx)) (hK _ ?_)
  clear hK K
  simp only [Act.put, List.setIfInBounds_toArray, List.set_cons_zero, List.set_cons_succ]
  refine BigFrame.wpQuiet_want rfl (fun K hK => ?_)
  refine quiet_val (.agg #[.int .i64 (hiOf (y)), .int .u64 (loOf (y))]) (fun w' hw' => run_num _ _ _ (n + 1) _ w' rfl rfl ((Below.block hw' (n + 1) (by omega)).trans ky)) (hK _ ?_)
  clear hK K
  simp only [Act.put, List.setIfInBounds_toArray, List.set_cons_zero, List.set_cons_succ]
  refine BigFrame.wpQuiet_want rfl (fun K hK => ?_)
  refine quiet_call 13 #[(.agg #[.int .i64 (hiOf (x)), .int .u64 (loOf (x))]), (.agg #[.int .i64 (hiOf (y)), .int .u64 (loOf (y))])] (.agg #[.int .i64 (hiOf (d)), .int .u64 (loOf (d))]) (fun w' _ => by go_simp) (fun w' hw' => Calls.out hw' (D1.out _)) (hK _ ?_)
  clear hK K
  simp only [Act.put, List.setIfInBounds_toArray, List.set_cons_zero, List.set_cons_succ]
  refine BigFrame.wpQuiet_want rfl (fun K hK => ?_)
  refine quiet_val (.agg #[.int .i64 (hiOf (y)), .int .u64 (loOf (y))]) (fun w' hw' => run_num _ _ _ (n + 1) _ w' rfl rfl ((Below.block hw' (n + 1) (by omega)).trans ky)) (hK _ ?_)
  clear hK K
  simp only [Act.put, List.setIfInBounds_toArray, List.set_cons_zero, List.set_cons_succ]
  refine BigFrame.wpQuiet_want rfl (fun K hK => ?_)
  refine quiet_call 11 #[(.agg #[.int .i64 (hiOf (d)), .int .u64 (loOf (d))]), (.agg #[.int .i64 (hiOf (y)), .int .u64 (loOf (y))])] (.agg #[.int .i64 (hiOf (x)), .int .u64 (loOf (x))]) (fun w' _ => by go_simp) (fun w' hw' => Calls.out hw' (D2.out _)) (hK _ ?_)
  clear hK K
  simp only [Act.put, List.setIfInBounds_toArray, List.set_cons_zero, List.set_cons_succ]
  refine BigFrame.wpQuiet_want rfl (fun K hK => ?_)
  refine quiet_val (.agg #[.int .i64 (hiOf (x)), .int .u64 (loOf (x))]) (fun w' hw' => run_num _ _ _ (n) _ w' rfl rfl ((Below.block hw' (n) (by omega)).trans kx)) (hK _ ?_)
  clear hK K
  simp only [Act.put, List.setIfInBounds_toArray, List.set_cons_zero, List.set_cons_succ]
  refine BigFrame.wpQuiet_want rfl (fun K hK => ?_)
  refine quiet_val (.bool false) (fun w' _ => by go_simp) (hK _ ?_)
  clear hK K
  simp only [Act.put, List.setIfInBounds_toArray, List.set_cons_zero, List.set_cons_succ]
  refine BigFrame.wpQuiet_want rfl (fun K hK => ?_)
  refine quiet_val (.bool false) (fun w' _ => by go_simp) (hK _ ?_)
  clear hK K
  simp only [Act.put, List.setIfInBounds_toArray, List.set_cons_zero, List.set_cons_succ]
  refine BigFrame.wpQuiet_want rfl (fun K hK => ?_)
  refine quiet_val (.bool false) (fun w' _ => by go_simp) (hK _ ?_)
  clear hK K
  simp only [Act.put, List.setIfInBounds_toArray, List.set_cons_zero, List.set_cons_succ]
  refine BigFrame.wpQuiet_want rfl (fun K hK => ?_)
  refine quiet_val (.agg #[.int .i64 (hiOf (x)), .int .u64 (loOf (x))]) (fun w' hw' => run_num _ _ _ (n) _ w' rfl rfl ((Below.block hw' (n) (by omega)).trans kx)) (hK _ ?_)
  clear hK K
  simp only [Act.put, List.setIfInBounds_toArray, List.set_cons_zero, List.set_cons_succ]
  refine BigFrame.wpQuiet_want rfl (fun K hK => ?_)
  refine quiet_call 15 #[(.agg #[.int .i64 (hiOf (x)), .int .u64 (loOf (x))])] (.agg #[.int .i64 (hiOf (nx)), .int .u64 (loOf (nx))]) (fun w' _ => by go_simp) (fun w' hw' => Calls.out hw' (N1.out _)) (hK _ ?_)
  clear hK K
  simp only [Act.put, List.setIfInBounds_toArray, List.set_cons_zero, List.set_cons_succ]
  refine BigFrame.wpQuiet_want rfl (fun K hK => ?_)
  refine quiet_call 15 #[(.agg #[.int .i64 (hiOf (nx)), .int .u64 (loOf (nx))])] (.agg #[.int .i64 (hiOf (x)), .int .u64 (loOf (x))]) (fun w' _ => by go_simp) (fun w' hw' => Calls.out hw' (N2.out _)) (hK _ ?_)
  clear hK K
  simp only [Act.put, List.setIfInBounds_toArray, List.set_cons_zero, List.set_cons_succ]
  refine BigFrame.wpQuiet_want rfl (fun K hK => ?_)
  refine quiet_val (.agg #[.int .i64 (hiOf (x)), .int .u64 (loOf (x))]) (fun w' hw' => run_num _ _ _ (n) _ w' rfl rfl ((Below.block hw' (n) (by omega)).trans kx)) (hK _ ?_)
  clear hK K
  simp only [Act.put, List.setIfInBounds_toArray, List.set_cons_zero, List.set_cons_succ]
  refine BigFrame.wpQuiet_want rfl (fun K hK => ?_)
  refine quiet_val (.bool false) (fun w' _ => by go_simp) (hK _ ?_)
  clear hK K
  simp only [Act.put, List.setIfInBounds_toArray, List.set_cons_zero, List.set_cons_succ]
  refine BigFrame.wpQuiet_want rfl (fun K hK => ?_)
  refine quiet_val (.bool false) (fun w' _ => by go_simp) (hK _ ?_)
  clear hK K
  simp only [Act.put, List.setIfInBounds_toArray, List.set_cons_zero, List.set_cons_succ]
  refine wpQuiet_nil ?_
  intro W2 hw2
  have kx2 : W2.heap[n]? = some (.cells #[.int .i64 (hiOf x), .int .u64 (loOf x)] 24) := (Below.block hw2 n (by omega)).trans kx
  have ky2 : W2.heap[n + 1]? = some (.cells #[.int .i64 (hiOf y), .int .u64 (loOf y)] 24) := (Below.block hw2 (n + 1) (by omega)).trans ky
  have kz2 : W2.heap[n + 1 + 1]? = some (.cells #[.int .i64 (hiOf z), .int .u64 (loOf z)] 24) := (Below.block hw2 (n + 1 + 1) (by omega)).trans kz
  have hs2 : n + 3 ≤ W2.heap.size := hs ▸ hw2.size
  replace B := Lib.hid (below_next B.out hw2)
  clear kx ky kz hs hw2 A1 A2 A3 A5 D1 D2 N2
  have c1 : W2.cell? ⟨n + 1, 0, none⟩ = some (.int .i64 (hiOf y)) := by rw [Joins.cell_of_block ky2 0]; rfl
  have c2 : W2.cell? ⟨n + 1, 1, none⟩ = some (.int .u64 (loOf y)) := by rw [Joins.cell_of_block ky2 1]; rfl
  have c3 : W2.cell? ⟨n + 1 + 1, 0, none⟩ = some (.int .i64 (hiOf z)) := by rw [Joins.cell_of_block kz2 0]; rfl
  have c4 : W2.cell? ⟨n + 1 + 1, 1, none⟩ = some (.int .u64 (loOf z)) := by rw [Joins.cell_of_block kz2 1]; rfl
  clear ky2 kz2
  go_wp2_with fail
  refine (A4.out _).mono ?_
  rintro e wn ⟨rfl, hbl⟩
  replace B := Lib.hid (below_next B.out hbl)
  replace kx2 := (hbl.block n (by omega)).trans kx2
  replace hs2 := Nat.le_trans hs2 hbl.size
  clear hbl
  clear c1 c2 c3 c4
  cases hf : fits m
  · rw [hf] at I1
    simp only [Bool.false_eq_true, if_false] at I1
    go_wp2_with fail
    refine (I1.out _).mono ?_
    rintro e wn ⟨rfl, hbl⟩
    replace B := Lib.hid (below_next B.out hbl)
    replace kx2 := (hbl.block n (by omega)).trans kx2
    replace hs2 := Nat.le_trans hs2 hbl.size
    clear hbl
    go_wp2_with fail
    have kx := kx2
    have hs := hs2
    clear kx2 hs2
    generalize wn = W at *
    refine wp_region_quiet (C := Out W) (by kernel_rfl) (by kernel_rfl) ⟨rfl, rfl, rfl, Nat.le_refl _, fun _ _ => rfl⟩ ?_
    refine BigFrame.wpQuiet_want rfl (fun K hK => ?_)
    refine quiet_val (.bool false) (fun w' _ => by go_simp) (hK _ ?_)
    clear hK K
    simp only [Act.put, List.setIfInBounds_toArray, List.set_cons_zero, List.set_cons_succ]
    refine BigFrame.wpQuiet_want rfl (fun K hK => ?_)
    refine quiet_val (.bool true) (fun w' _ => by go_simp) (hK _ ?_)
    clear hK K
    simp only [Act.put, List.setIfInBounds_toArray, List.set_cons_zero, List.set_cons_succ]
    refine BigFrame.wpQuiet_want rfl (fun K hK => ?_)
    refine quiet_val (.bool true) (fun w' _ => by go_simp) (hK _ ?_)
    clear hK K
    simp only [Act.put, List.setIfInBounds_toArray, List.set_cons_zero, List.set_cons_succ]
    go_big_quiet_skip
    go_big_quiet_skip
    go_big_quiet_skip
    go_big_quiet_skip
    go_big_quiet_skip
    go_big_quiet_skip
    go_big_quiet_skip
    go_big_quiet_skip
    go_big_quiet_skip
    go_big_quiet_skip
    go_big_quiet_skip
    refine BigFrame.wpQuiet_want rfl (fun K hK => ?_)
    refine quiet_val (.bool true) (fun w' _ => by go_simp) (hK _ ?_)
    clear hK K
    simp only [Act.put, List.setIfInBounds_toArray, List.set_cons_zero, List.set_cons_succ]
    refine BigFrame.wpQuiet_want rfl (fun K hK => ?_)
    refine quiet_val (.bool true) (fun w' _ => by go_simp) (hK _ ?_)
    clear hK K
    simp only [Act.put, List.setIfInBounds_toArray, List.set_cons_zero, List.set_cons_succ]
    refine BigFrame.wpQuiet_want rfl (fun K hK => ?_)
    refine quiet_val (.int .i64 a) (fun w' _ => by go_simp) (hK _ ?_)
    clear hK K
    simp only [Act.put, List.setIfInBounds_toArray, List.set_cons_zero, List.set_cons_succ]
    refine BigFrame.wpQuiet_want rfl (fun K hK => ?_)
    refine quiet_call 18 #[.int .i64 a, .int .i64 1] (.agg #[.int .i64 (hiOf (x)), .int .u64 (loOf (x))]) (fun w' _ => by go_simp) (fun w' hw' => Calls.out hw' (M1.out _)) (hK _ ?_)
    clear hK K
    simp only [Act.put, List.setIfInBounds_toArray, List.set_cons_zero, List.set_cons_succ]
    refine BigFrame.wpQuiet_want rfl (fun K hK => ?_)
    refine quiet_val (.agg #[.int .i64 (hiOf (x)), .int .u64 (loOf (x))]) (fun w' hw' => run_num _ _ _ (n) _ w' rfl rfl ((Below.block hw' (n) (by omega)).trans kx)) (hK _ ?_)
    clear hK K
    simp only [Act.put, List.setIfInBounds_toArray, List.set_cons_zero, List.set_cons_succ]
    refine BigFrame.wpQuiet_want rfl (fun K hK => ?_)
    refine quiet_val (.bool true) (fun w' _ => by go_simp) (hK _ ?_)
    clear hK K
    simp only [Act.put, List.setIfInBounds_toArray, List.set_cons_zero, List.set_cons_succ]
    refine BigFrame.wpQuiet_want rfl (fun K hK => ?_)
    refine quiet_val (.bool true) (fun w' _ => by go_simp) (hK _ ?_)
    clear hK K
    simp only [Act.put, List.setIfInBounds_toArray, List.set_cons_zero, List.set_cons_succ]
    refine BigFrame.wpQuiet_want rfl (fun K hK => ?_)
    refine quiet_val (.bool true) (fun w' _ => by go_simp) (hK _ ?_)
    clear hK K
    simp only [Act.put, List.setIfInBounds_toArray, List.set_cons_zero, List.set_cons_succ]
    refine BigFrame.wpQuiet_want rfl (fun K hK => ?_)
    refine quiet_val (.int .i64 a) (fun w' _ => by go_simp) (hK _ ?_)
    clear hK K
    simp only [Act.put, List.setIfInBounds_toArray, List.set_cons_zero, List.set_cons_succ]
    refine BigFrame.wpQuiet_want rfl (fun K hK => ?_)
    refine quiet_call 18 #[.int .i64 a, .int .i64 (-1)] (.agg #[.int .i64 (hiOf (nx)), .int .u64 (loOf (nx))]) (fun w' _ => by go_simp) (fun w' hw' => Calls.out hw' (M2.out _)) (hK _ ?_)
    clear hK K
    simp only [Act.put, List.setIfInBounds_toArray, List.set_cons_zero, List.set_cons_succ]
    refine BigFrame.wpQuiet_want rfl (fun K hK => ?_)
    refine quiet_val (.agg #[.int .i64 (hiOf (x)), .int .u64 (loOf (x))]) (fun w' hw' => run_num _ _ _ (n) _ w' rfl rfl ((Below.block hw' (n) (by omega)).trans kx)) (hK _ ?_)
    clear hK K
    simp only [Act.put, List.setIfInBounds_toArray, List.set_cons_zero, List.set_cons_succ]
    refine BigFrame.wpQuiet_want rfl (fun K hK => ?_)
    refine quiet_call 15 #[(.agg #[.int .i64 (hiOf (x)), .int .u64 (loOf (x))])] (.agg #[.int .i64 (hiOf (nx)), .int .u64 (loOf (nx))]) (fun w' _ => by go_simp) (fun w' hw' => Calls.out hw' (N1.out _)) (hK _ ?_)
    clear hK K
    simp only [Act.put, List.setIfInBounds_toArray, List.set_cons_zero, List.set_cons_succ]
    refine BigFrame.wpQuiet_want rfl (fun K hK => ?_)
    refine quiet_val (.bool true) (fun w' _ => by go_simp) (hK _ ?_)
    clear hK K
    simp only [Act.put, List.setIfInBounds_toArray, List.set_cons_zero, List.set_cons_succ]
    refine BigFrame.wpQuiet_want rfl (fun K hK => ?_)
    refine quiet_val (.bool true) (fun w' _ => by go_simp) (hK _ ?_)
    clear hK K
    simp only [Act.put, List.setIfInBounds_toArray, List.set_cons_zero, List.set_cons_succ]
    refine BigFrame.wpQuiet_want rfl (fun K hK => ?_)
    refine quiet_val (.bool true) (fun w' _ => by go_simp) (hK _ ?_)
    clear hK K
    simp only [Act.put, List.setIfInBounds_toArray, List.set_cons_zero, List.set_cons_succ]
    refine BigFrame.wpQuiet_want rfl (fun K hK => ?_)
    refine quiet_call 17 #[] (.bool true) (fun w' _ => by go_simp) (fun w' hw' => Calls.out hw' (awake_any K' _)) (hK _ ?_)
    clear hK K
    simp only [Act.put, List.setIfInBounds_toArray, List.set_cons_zero, List.set_cons_succ]
    refine BigFrame.wpQuiet_want rfl (fun K hK => ?_)
    refine quiet_val (.bool true) (fun w' _ => by go_simp) (hK _ ?_)
    clear hK K
    simp only [Act.put, List.setIfInBounds_toArray, List.set_cons_zero, List.set_cons_succ]
    refine BigFrame.wpQuiet_want rfl (fun K hK => ?_)
    refine quiet_val (.bool true) (fun w' _ => by go_simp) (hK _ ?_)
    clear hK K
    simp only [Act.put, List.setIfInBounds_toArray, List.set_cons_zero, List.set_cons_succ]
    refine wpQuiet_nil ?_
    intro w' hw'
    go_wp2_with fail
    go_ret
    exact ⟨rfl, below_next B.out hw'⟩
  · rw [hf] at I1
    simp only [if_true] at I1
    go_wp2_with fail
    refine (I1.out _).mono ?_
    rintro e wn ⟨rfl, hbl⟩
    replace B := Lib.hid (below_next B.out hbl)
    replace kx2 := (hbl.block n (by omega)).trans kx2
    replace hs2 := Nat.le_trans hs2 hbl.size
    clear hbl
    go_wp2_with fail
    have kx := kx2
    have hs := hs2
    clear kx2 hs2
    generalize wn = W at *
    have P4 : Hid (∀ w, Calls Try.prog 18 #[.int .i64 a, .int .i64 m] w fun e w' => e = .returned (.agg #[.int .i64 (hiOf (p3)), .int .u64 (loOf (p3))]) ∧ Below w.heap.size w w') := fun w => P4.out w hf
    refine wp_region_quiet (C := Out W) (by kernel_rfl) (by kernel_rfl) ⟨rfl, rfl, rfl, Nat.le_refl _, fun _ _ => rfl⟩ ?_
    refine BigFrame.wpQuiet_want rfl (fun K hK => ?_)
    refine quiet_val (.bool true) (fun w' _ => by go_simp) (hK _ ?_)
    clear hK K
    simp only [Act.put, List.setIfInBounds_toArray, List.set_cons_zero, List.set_cons_succ]
    refine BigFrame.wpQuiet_want rfl (fun K hK => ?_)
    refine quiet_val (.bool false) (fun w' _ => by go_simp) (hK _ ?_)
    clear hK K
    simp only [Act.put, List.setIfInBounds_toArray, List.set_cons_zero, List.set_cons_succ]
    refine BigFrame.wpQuiet_want rfl (fun K hK => ?_)
    refine quiet_val (.bool false) (fun w' _ => by go_simp) (hK _ ?_)
    clear hK K
    simp only [Act.put, List.setIfInBounds_toArray, List.set_cons_zero, List.set_cons_succ]
    refine BigFrame.wpQuiet_want rfl (fun K hK => ?_)
    refine quiet_val (.int .i64 a) (fun w' _ => by go_simp) (hK _ ?_)
    clear hK K
    simp only [Act.put, List.setIfInBounds_toArray, List.set_cons_zero, List.set_cons_succ]
    refine BigFrame.wpQuiet_want rfl (fun K hK => ?_)
    refine quiet_val (.int .i64 b) (fun w' _ => by go_simp) (hK _ ?_)
    clear hK K
    simp only [Act.put, List.setIfInBounds_toArray, List.set_cons_zero, List.set_cons_succ]
    refine BigFrame.wpQuiet_want rfl (fun K hK => ?_)
    refine quiet_call 18 #[.int .i64 a, .int .i64 b] (.agg #[.int .i64 (hiOf (p1)), .int .u64 (loOf (p1))]) (fun w' _ => by go_simp) (fun w' hw' => Calls.out hw' (P1.out _)) (hK _ ?_)
    clear hK K
    simp only [Act.put, List.setIfInBounds_toArray, List.set_cons_zero, List.set_cons_succ]
    refine BigFrame.wpQuiet_want rfl (fun K hK => ?_)
    refine quiet_val (.int .i64 a) (fun w' _ => by go_simp) (hK _ ?_)
    clear hK K
    simp only [Act.put, List.setIfInBounds_toArray, List.set_cons_zero, List.set_cons_succ]
    refine BigFrame.wpQuiet_want rfl (fun K hK => ?_)
    refine quiet_val (.int .i64 c) (fun w' _ => by go_simp) (hK _ ?_)
    clear hK K
    simp only [Act.put, List.setIfInBounds_toArray, List.set_cons_zero, List.set_cons_succ]
    refine BigFrame.wpQuiet_want rfl (fun K hK => ?_)
    refine quiet_call 18 #[.int .i64 a, .int .i64 c] (.agg #[.int .i64 (hiOf (p2)), .int .u64 (loOf (p2))]) (fun w' _ => by go_simp) (fun w' hw' => Calls.out hw' (P2.out _)) (hK _ ?_)
    clear hK K
    simp only [Act.put, List.setIfInBounds_toArray, List.set_cons_zero, List.set_cons_succ]
    refine BigFrame.wpQuiet_want rfl (fun K hK => ?_)
    refine quiet_call 11 #[(.agg #[.int .i64 (hiOf (p1)), .int .u64 (loOf (p1))]), (.agg #[.int .i64 (hiOf (p2)), .int .u64 (loOf (p2))])] (.agg #[.int .i64 (hiOf (p3)), .int .u64 (loOf (p3))]) (fun w' _ => by go_simp) (fun w' hw' => Calls.out hw' (P3.out _)) (hK _ ?_)
    clear hK K
    simp only [Act.put, List.setIfInBounds_toArray, List.set_cons_zero, List.set_cons_succ]
    refine BigFrame.wpQuiet_want rfl (fun K hK => ?_)
    refine quiet_val (.int .i64 a) (fun w' _ => by go_simp) (hK _ ?_)
    clear hK K
    simp only [Act.put, List.setIfInBounds_toArray, List.set_cons_zero, List.set_cons_succ]
    refine BigFrame.wpQuiet_want rfl (fun K hK => ?_)
    refine quiet_val (.int .i64 m) (fun w' _ => by go_simp) (hK _ ?_)
    clear hK K
    simp only [Act.put, List.setIfInBounds_toArray, List.set_cons_zero, List.set_cons_succ]
    refine BigFrame.wpQuiet_want rfl (fun K hK => ?_)
    refine quiet_call 18 #[.int .i64 a, .int .i64 m] (.agg #[.int .i64 (hiOf (p3)), .int .u64 (loOf (p3))]) (fun w' _ => by go_simp) (fun w' hw' => Calls.out hw' (P4.out _)) (hK _ ?_)
    clear hK K
    simp only [Act.put, List.setIfInBounds_toArray, List.set_cons_zero, List.set_cons_succ]
    refine BigFrame.wpQuiet_want rfl (fun K hK => ?_)
    refine quiet_val (.bool true) (fun w' _ => by go_simp) (hK _ ?_)
    clear hK K
    simp only [Act.put, List.setIfInBounds_toArray, List.set_cons_zero, List.set_cons_succ]
    refine BigFrame.wpQuiet_want rfl (fun K hK => ?_)
    refine quiet_val (.bool true) (fun w' _ => by go_simp) (hK _ ?_)
    clear hK K
    simp only [Act.put, List.setIfInBounds_toArray, List.set_cons_zero, List.set_cons_succ]
    refine BigFrame.wpQuiet_want rfl (fun K hK => ?_)
    refine quiet_val (.bool true) (fun w' _ => by go_simp) (hK _ ?_)
    clear hK K
    simp only [Act.put, List.setIfInBounds_toArray, List.set_cons_zero, List.set_cons_succ]
    refine BigFrame.wpQuiet_want rfl (fun K hK => ?_)
    refine quiet_val (.int .i64 a) (fun w' _ => by go_simp) (hK _ ?_)
    clear hK K
    simp only [Act.put, List.setIfInBounds_toArray, List.set_cons_zero, List.set_cons_succ]
    refine BigFrame.wpQuiet_want rfl (fun K hK => ?_)
    refine quiet_call 18 #[.int .i64 a, .int .i64 1] (.agg #[.int .i64 (hiOf (x)), .int .u64 (loOf (x))]) (fun w' _ => by go_simp) (fun w' hw' => Calls.out hw' (M1.out _)) (hK _ ?_)
    clear hK K
    simp only [Act.put, List.setIfInBounds_toArray, List.set_cons_zero, List.set_cons_succ]
    refine BigFrame.wpQuiet_want rfl (fun K hK => ?_)
    refine quiet_val (.agg #[.int .i64 (hiOf (x)), .int .u64 (loOf (x))]) (fun w' hw' => run_num _ _ _ (n) _ w' rfl rfl ((Below.block hw' (n) (by omega)).trans kx)) (hK _ ?_)
    clear hK K
    simp only [Act.put, List.setIfInBounds_toArray, List.set_cons_zero, List.set_cons_succ]
    refine BigFrame.wpQuiet_want rfl (fun K hK => ?_)
    refine quiet_val (.bool true) (fun w' _ => by go_simp) (hK _ ?_)
    clear hK K
    simp only [Act.put, List.setIfInBounds_toArray, List.set_cons_zero, List.set_cons_succ]
    refine BigFrame.wpQuiet_want rfl (fun K hK => ?_)
    refine quiet_val (.bool true) (fun w' _ => by go_simp) (hK _ ?_)
    clear hK K
    simp only [Act.put, List.setIfInBounds_toArray, List.set_cons_zero, List.set_cons_succ]
    refine BigFrame.wpQuiet_want rfl (fun K hK => ?_)
    refine quiet_val (.bool true) (fun w' _ => by go_simp) (hK _ ?_)
    clear hK K
    simp only [Act.put, List.setIfInBounds_toArray, List.set_cons_zero, List.set_cons_succ]
    refine BigFrame.wpQuiet_want rfl (fun K hK => ?_)
    refine quiet_val (.int .i64 a) (fun w' _ => by go_simp) (hK _ ?_)
    clear hK K
    simp only [Act.put, List.setIfInBounds_toArray, List.set_cons_zero, List.set_cons_succ]
    refine BigFrame.wpQuiet_want rfl (fun K hK => ?_)
    refine quiet_call 18 #[.int .i64 a, .int .i64 (-1)] (.agg #[.int .i64 (hiOf (nx)), .int .u64 (loOf (nx))]) (fun w' _ => by go_simp) (fun w' hw' => Calls.out hw' (M2.out _)) (hK _ ?_)
    clear hK K
    simp only [Act.put, List.setIfInBounds_toArray, List.set_cons_zero, List.set_cons_succ]
    refine BigFrame.wpQuiet_want rfl (fun K hK => ?_)
    refine quiet_val (.agg #[.int .i64 (hiOf (x)), .int .u64 (loOf (x))]) (fun w' hw' => run_num _ _ _ (n) _ w' rfl rfl ((Below.block hw' (n) (by omega)).trans kx)) (hK _ ?_)
    clear hK K
    simp only [Act.put, List.setIfInBounds_toArray, List.set_cons_zero, List.set_cons_succ]
    refine BigFrame.wpQuiet_want rfl (fun K hK => ?_)
    refine quiet_call 15 #[(.agg #[.int .i64 (hiOf (x)), .int .u64 (loOf (x))])] (.agg #[.int .i64 (hiOf (nx)), .int .u64 (loOf (nx))]) (fun w' _ => by go_simp) (fun w' hw' => Calls.out hw' (N1.out _)) (hK _ ?_)
    clear hK K
    simp only [Act.put, List.setIfInBounds_toArray, List.set_cons_zero, List.set_cons_succ]
    refine BigFrame.wpQuiet_want rfl (fun K hK => ?_)
    refine quiet_val (.bool true) (fun w' _ => by go_simp) (hK _ ?_)
    clear hK K
    simp only [Act.put, List.setIfInBounds_toArray, List.set_cons_zero, List.set_cons_succ]
    refine BigFrame.wpQuiet_want rfl (fun K hK => ?_)
    refine quiet_val (.bool true) (fun w' _ => by go_simp) (hK _ ?_)
    clear hK K
    simp only [Act.put, List.setIfInBounds_toArray, List.set_cons_zero, List.set_cons_succ]
    refine BigFrame.wpQuiet_want rfl (fun K hK => ?_)
    refine quiet_val (.bool true) (fun w' _ => by go_simp) (hK _ ?_)
    clear hK K
    simp only [Act.put, List.setIfInBounds_toArray, List.set_cons_zero, List.set_cons_succ]
    refine BigFrame.wpQuiet_want rfl (fun K hK => ?_)
    refine quiet_call 17 #[] (.bool true) (fun w' _ => by go_simp) (fun w' hw' => Calls.out hw' (awake_any K' _)) (hK _ ?_)
    clear hK K
    simp only [Act.put, List.setIfInBounds_toArray, List.set_cons_zero, List.set_cons_succ]
    refine BigFrame.wpQuiet_want rfl (fun K hK => ?_)
    refine quiet_val (.bool true) (fun w' _ => by go_simp) (hK _ ?_)
    clear hK K
    simp only [Act.put, List.setIfInBounds_toArray, List.set_cons_zero, List.set_cons_succ]
    refine BigFrame.wpQuiet_want rfl (fun K hK => ?_)
    refine quiet_val (.bool true) (fun w' _ => by go_simp) (hK _ ?_)
    clear hK K
    simp only [Act.put, List.setIfInBounds_toArray, List.set_cons_zero, List.set_cons_succ]
    refine wpQuiet_nil ?_
    intro w' hw'
    go_wp2_with fail
    go_ret
    exact ⟨rfl, below_next B.out hw'⟩
end Go.Proofs.Ytgkgdkdendmfnaa
