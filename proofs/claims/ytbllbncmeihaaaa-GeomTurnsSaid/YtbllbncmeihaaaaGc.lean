/- geom.Side. -/
import Derived.Test.YtbllbncmeihaaaaGb
namespace Go.Proofs.Ytbllbncmeihaaaa
open Go.RowKit

/-- The side that the document means: the sign of the exact number. -/
def sideI (ax ay bx bY cx cy : Int) : Int := cmpI ((bx - ax) * (cy - ay)) ((bY - ay) * (cx - ax))
theorem I64_of {n : Int} (h1 : -9223372036854775808 ≤ n) (h2 : n ≤ 9223372036854775807) : I64 n := ⟨h1, h2⟩
theorem prod_small {a b : Int} (h1 : -4294967296 ≤ a) (h2 : a ≤ 4294967296) (h3 : -4294967296 ≤ b) (h4 : b ≤ 4294967296) : -18446744073709551616 ≤ a * b ∧ a * b ≤ 18446744073709551616 := by
  obtain ⟨A, hA, hA2⟩ : ∃ A : Nat, (a = A ∨ a = -(A : Int)) ∧ A ≤ 4294967296 := ⟨a.natAbs, by omega, by omega⟩
  obtain ⟨B, hB, hB2⟩ : ∃ B : Nat, (b = B ∨ b = -(B : Int)) ∧ B ≤ 4294967296 := ⟨b.natAbs, by omega, by omega⟩
  have h := Nat.mul_le_mul hA2 hB2
  have e : ((A * B : Nat) : Int) = (A : Int) * B := by simp
  generalize A * B = C at *
  rcases hA with rfl | rfl <;> rcases hB with rfl | rfl <;> simp only [Int.neg_mul, Int.mul_neg, Int.neg_neg, ← e] <;> omega
theorem mul_toInt (a b : Int) (h1 : -4294967296 ≤ a) (h2 : a ≤ 4294967296) (h3 : -4294967296 ≤ b) (h4 : b ≤ 4294967296) : (ofI a * ofI b).toInt = a * b := by
  have h := prod_small h1 h2 h3 h4
  have ha : I64 a := ⟨by omega, by omega⟩
  have hb : I64 b := ⟨by omega, by omega⟩
  rw [BitVec.toInt_mul, ofI_toInt a ha, ofI_toInt b hb]
  apply Int.bmod_eq_of_le
  · show -(((340282366920938463463374607431768211456 : Nat) : Int) / 2) ≤ _
    omega
  · show _ < (((340282366920938463463374607431768211456 : Nat) : Int) + 1) / 2
    omega
theorem run_intAt (o : Oper) (a : Act) (x : Operand) (ad : Addr) (n : Int) (w : World) (ho : o.op = .load 3 x) (hx : a.eval x = .pointer (some ad)) (hc : w.cell? ad = some (.int .i64 n)) :
    (execOp a.eval o).run Try.prog w = .ok (.value (.int .i64 n)) w := by
  unfold execOp
  simp only [ho, hx]
  go_simp
/-- Three structs' cells lie at hand. -/
theorem three_pts (w : World) (ax ay bx bY cx cy : Int) (W : World) (hW : ((w.alloc (.cells #[.int .i64 ax, .int .i64 ay] 23)).alloc (.cells #[.int .i64 bx, .int .i64 bY] 23)).alloc (.cells #[.int .i64 cx, .int .i64 cy] 23) = W) :
    PtAt W w.heap.size ax ay ∧ PtAt W (w.heap.size + 1) bx bY ∧ PtAt W (w.heap.size + 2) cx cy ∧ Below w.heap.size w W ∧ W.heap.size = w.heap.size + 3 := by
  subst hW
  have s2 : ((w.alloc (.cells #[.int .i64 ax, .int .i64 ay] 23)).alloc (.cells #[.int .i64 bx, .int .i64 bY] 23)).heap.size = w.heap.size + 2 := by simp
  refine ⟨?_, ?_, ?_, (((Below.refl _ _).alloc (Nat.le_refl _) _).alloc (by simp) _).alloc (by omega) _, by simp⟩
  · unfold PtAt; rw [heap_alloc_old _ _ (by omega)]; exact heap_alloc2_old _ _ _
  · unfold PtAt; rw [heap_alloc_old _ _ (by omega)]; exact heap_alloc2_new _ _ _
  · unfold PtAt; rw [← s2]; exact heap_alloc_new _ _
theorem cells_out {W w' : World} {g : Nat} {x y : Int} (h : PtAt W g x y) (hg : g < W.heap.size) (hw : Out W w') : w'.cell? ⟨g, 0, none⟩ = some (.int .i64 x) ∧ w'.cell? ⟨g, 1, none⟩ = some (.int .i64 y) :=
  ⟨(h.on hw hg).c0, (h.on hw hg).c1⟩
set_option maxHeartbeats 400000 in
set_option maxRecDepth 100000 in
theorem side_walk (ax ay bx bY cx cy h1 l1 h2 l2 sd : Int) (w : World)
    (e1 : IntKind.i64.wrap (bx - ax) = bx - ax) (e2 : IntKind.i64.wrap (cy - ay) = cy - ay) (e3 : IntKind.i64.wrap (bY - ay) = bY - ay) (e4 : IntKind.i64.wrap (cx - ax) = cx - ax)
    (HM1 : Hid (∀ w, Calls Try.prog 29 #[.int .i64 (bx - ax), .int .i64 (cy - ay)] w fun e w' => e = .returned (.agg #[.int .i64 h1, .int .u64 l1]) ∧ Below w.heap.size w w'))
    (HM2 : Hid (∀ w, Calls Try.prog 29 #[.int .i64 (bY - ay), .int .i64 (cx - ax)] w fun e w' => e = .returned (.agg #[.int .i64 h2, .int .u64 l2]) ∧ Below w.heap.size w w'))
    (HC : Hid (∀ w, Calls Try.prog 30 #[.agg #[.int .i64 h1, .int .u64 l1], .agg #[.int .i64 h2, .int .u64 l2]] w fun e w' => e = .returned (.int .i64 sd) ∧ Below w.heap.size w w')) :
    Calls Try.prog 12 #[.agg #[.int .i64 ax, .int .i64 ay], .agg #[.int .i64 bx, .int .i64 bY], .agg #[.int .i64 cx, .int .i64 cy]] w fun e w' => e = .returned (.int .i64 sd) ∧ Below w.heap.size w w' := by
  go_enter Try.func12, Try.ntmps12
  go_wp2_with fail
  obtain ⟨W, hW⟩ : ∃ W, ((w.alloc (.cells #[.int .i64 ax, .int .i64 ay] 23)).alloc (.cells #[.int .i64 bx, .int .i64 bY] 23)).alloc (.cells #[.int .i64 cx, .int .i64 cy] 23) = W := ⟨_, rfl⟩
  obtain ⟨p1, p2, p3, hB, hs⟩ := three_pts w ax ay bx bY cx cy W hW
  rw [hW]
  clear hW
  have HB := Lib.hid hB
  generalize hn : w.heap.size = n at *
  have Hn := Lib.hid hn
  clear hn
  have HF : Hid (∀ w', Out W w' → w'.cell? ⟨n, 0, none⟩ = some (.int .i64 ax) ∧ w'.cell? ⟨n, 1, none⟩ = some (.int .i64 ay) ∧ w'.cell? ⟨n + 1, 0, none⟩ = some (.int .i64 bx) ∧ w'.cell? ⟨n + 1, 1, none⟩ = some (.int .i64 bY) ∧ w'.cell? ⟨n + 2, 0, none⟩ = some (.int .i64 cx) ∧ w'.cell? ⟨n + 2, 1, none⟩ = some (.int .i64 cy)) := fun w' hw' => by
    obtain ⟨a1, a2⟩ := cells_out p1 (by omega) hw'
    obtain ⟨a3, a4⟩ := cells_out p2 (by omega) hw'
    obtain ⟨a5, a6⟩ := cells_out p3 (by omega) hw'
    exact ⟨a1, a2, a3, a4, a5, a6⟩
  have HS : Hid (n ≤ W.heap.size) := by unfold Hid; omega
  clear p1 p2 p3 hB hs
  refine wp_region_quiet (C := Out W) (by kernel_rfl) (by kernel_rfl) ⟨rfl, rfl, rfl, Nat.le_refl _, fun _ _ => rfl⟩ ?_
  refine BigFrame.wpQuiet_want rfl (fun K hK => ?_)
  refine quiet_val (.pointer (some ⟨n + 1, 0, none⟩)) (fun w' hw' => by go_simp) (hK _ ?_)
  clear hK K
  simp only [Act.put, List.setIfInBounds_toArray, List.set_cons_zero, List.set_cons_succ]
  refine BigFrame.wpQuiet_want rfl (fun K hK => ?_)
  refine quiet_val (.int .i64 bx) (fun w' hw' => by obtain ⟨c0, c1, c2, c3, c4, c5⟩ := HF.out w' hw'; go_simp) (hK _ ?_)
  clear hK K
  simp only [Act.put, List.setIfInBounds_toArray, List.set_cons_zero, List.set_cons_succ]
  refine BigFrame.wpQuiet_want rfl (fun K hK => ?_)
  refine quiet_val (.pointer (some ⟨n, 0, none⟩)) (fun w' hw' => by go_simp) (hK _ ?_)
  clear hK K
  simp only [Act.put, List.setIfInBounds_toArray, List.set_cons_zero, List.set_cons_succ]
  refine BigFrame.wpQuiet_want rfl (fun K hK => ?_)
  refine quiet_val (.int .i64 ax) (fun w' hw' => by obtain ⟨c0, c1, c2, c3, c4, c5⟩ := HF.out w' hw'; go_simp) (hK _ ?_)
  clear hK K
  simp only [Act.put, List.setIfInBounds_toArray, List.set_cons_zero, List.set_cons_succ]
  refine BigFrame.wpQuiet_want rfl (fun K hK => ?_)
  refine quiet_val (.int .i64 (bx - ax)) (fun w' hw' => by go_simp) (hK _ ?_)
  clear hK K
  simp only [Act.put, List.setIfInBounds_toArray, List.set_cons_zero, List.set_cons_succ]
  refine BigFrame.wpQuiet_want rfl (fun K hK => ?_)
  refine quiet_val (.pointer (some ⟨n + 2, 1, none⟩)) (fun w' hw' => by go_simp) (hK _ ?_)
  clear hK K
  simp only [Act.put, List.setIfInBounds_toArray, List.set_cons_zero, List.set_cons_succ]
  refine BigFrame.wpQuiet_want rfl (fun K hK => ?_)
  refine quiet_val (.int .i64 cy) (fun w' hw' => by obtain ⟨c0, c1, c2, c3, c4, c5⟩ := HF.out w' hw'; go_simp) (hK _ ?_)
  clear hK K
  simp only [Act.put, List.setIfInBounds_toArray, List.set_cons_zero, List.set_cons_succ]
  refine BigFrame.wpQuiet_want rfl (fun K hK => ?_)
  refine quiet_val (.pointer (some ⟨n, 1, none⟩)) (fun w' hw' => by go_simp) (hK _ ?_)
  clear hK K
  simp only [Act.put, List.setIfInBounds_toArray, List.set_cons_zero, List.set_cons_succ]
  refine BigFrame.wpQuiet_want rfl (fun K hK => ?_)
  refine quiet_val (.int .i64 ay) (fun w' hw' => by obtain ⟨c0, c1, c2, c3, c4, c5⟩ := HF.out w' hw'; go_simp) (hK _ ?_)
  clear hK K
  simp only [Act.put, List.setIfInBounds_toArray, List.set_cons_zero, List.set_cons_succ]
  refine BigFrame.wpQuiet_want rfl (fun K hK => ?_)
  refine quiet_val (.int .i64 (cy - ay)) (fun w' hw' => by go_simp) (hK _ ?_)
  clear hK K
  simp only [Act.put, List.setIfInBounds_toArray, List.set_cons_zero, List.set_cons_succ]
  refine BigFrame.wpQuiet_want rfl (fun K hK => ?_)
  refine quiet_call 29 #[.int .i64 (bx - ax), .int .i64 (cy - ay)] (.agg #[.int .i64 h1, .int .u64 l1]) (fun w' _ => by go_simp) (fun w' hw' => Calls.out hw' (HM1.out _)) (hK _ ?_)
  clear hK K
  simp only [Act.put, List.setIfInBounds_toArray, List.set_cons_zero, List.set_cons_succ]
  refine BigFrame.wpQuiet_want rfl (fun K hK => ?_)
  refine quiet_val (.pointer (some ⟨n + 1, 1, none⟩)) (fun w' hw' => by go_simp) (hK _ ?_)
  clear hK K
  simp only [Act.put, List.setIfInBounds_toArray, List.set_cons_zero, List.set_cons_succ]
  refine BigFrame.wpQuiet_want rfl (fun K hK => ?_)
  refine quiet_val (.int .i64 bY) (fun w' hw' => by obtain ⟨c0, c1, c2, c3, c4, c5⟩ := HF.out w' hw'; go_simp) (hK _ ?_)
  clear hK K
  simp only [Act.put, List.setIfInBounds_toArray, List.set_cons_zero, List.set_cons_succ]
  refine BigFrame.wpQuiet_want rfl (fun K hK => ?_)
  refine quiet_val (.pointer (some ⟨n, 1, none⟩)) (fun w' hw' => by go_simp) (hK _ ?_)
  clear hK K
  simp only [Act.put, List.setIfInBounds_toArray, List.set_cons_zero, List.set_cons_succ]
  refine BigFrame.wpQuiet_want rfl (fun K hK => ?_)
  refine quiet_val (.int .i64 ay) (fun w' hw' => by obtain ⟨c0, c1, c2, c3, c4, c5⟩ := HF.out w' hw'; go_simp) (hK _ ?_)
  clear hK K
  simp only [Act.put, List.setIfInBounds_toArray, List.set_cons_zero, List.set_cons_succ]
  refine BigFrame.wpQuiet_want rfl (fun K hK => ?_)
  refine quiet_val (.int .i64 (bY - ay)) (fun w' hw' => by go_simp) (hK _ ?_)
  clear hK K
  simp only [Act.put, List.setIfInBounds_toArray, List.set_cons_zero, List.set_cons_succ]
  refine BigFrame.wpQuiet_want rfl (fun K hK => ?_)
  refine quiet_val (.pointer (some ⟨n + 2, 0, none⟩)) (fun w' hw' => by go_simp) (hK _ ?_)
  clear hK K
  simp only [Act.put, List.setIfInBounds_toArray, List.set_cons_zero, List.set_cons_succ]
  refine BigFrame.wpQuiet_want rfl (fun K hK => ?_)
  refine quiet_val (.int .i64 cx) (fun w' hw' => by obtain ⟨c0, c1, c2, c3, c4, c5⟩ := HF.out w' hw'; go_simp) (hK _ ?_)
  clear hK K
  simp only [Act.put, List.setIfInBounds_toArray, List.set_cons_zero, List.set_cons_succ]
  refine BigFrame.wpQuiet_want rfl (fun K hK => ?_)
  refine quiet_val (.pointer (some ⟨n, 0, none⟩)) (fun w' hw' => by go_simp) (hK _ ?_)
  clear hK K
  simp only [Act.put, List.setIfInBounds_toArray, List.set_cons_zero, List.set_cons_succ]
  refine BigFrame.wpQuiet_want rfl (fun K hK => ?_)
  refine quiet_val (.int .i64 ax) (fun w' hw' => by obtain ⟨c0, c1, c2, c3, c4, c5⟩ := HF.out w' hw'; go_simp) (hK _ ?_)
  clear hK K
  simp only [Act.put, List.setIfInBounds_toArray, List.set_cons_zero, List.set_cons_succ]
  refine BigFrame.wpQuiet_want rfl (fun K hK => ?_)
  refine quiet_val (.int .i64 (cx - ax)) (fun w' hw' => by go_simp) (hK _ ?_)
  clear hK K
  simp only [Act.put, List.setIfInBounds_toArray, List.set_cons_zero, List.set_cons_succ]
  refine BigFrame.wpQuiet_want rfl (fun K hK => ?_)
  refine quiet_call 29 #[.int .i64 (bY - ay), .int .i64 (cx - ax)] (.agg #[.int .i64 h2, .int .u64 l2]) (fun w' _ => by go_simp) (fun w' hw' => Calls.out hw' (HM2.out _)) (hK _ ?_)
  clear hK K
  simp only [Act.put, List.setIfInBounds_toArray, List.set_cons_zero, List.set_cons_succ]
  refine BigFrame.wpQuiet_want rfl (fun K hK => ?_)
  refine quiet_call 30 #[.agg #[.int .i64 h1, .int .u64 l1], .agg #[.int .i64 h2, .int .u64 l2]] (.int .i64 sd) (fun w' _ => by go_simp) (fun w' hw' => Calls.out hw' (HC.out _)) (hK _ ?_)
  clear hK K
  simp only [Act.put, List.setIfInBounds_toArray, List.set_cons_zero, List.set_cons_succ]
  refine BigFrame.wpQuiet_want rfl (fun K hK => ?_)
  refine quiet_val (.int .i64 sd) (fun w' hw' => by go_simp) (hK _ ?_)
  clear hK K
  simp only [Act.put, List.setIfInBounds_toArray, List.set_cons_zero, List.set_cons_succ]
  refine wpQuiet_nil ?_
  intro w' hw'
  have Hw := Lib.hid hw'
  clear hw'
  go_wp2_with fail
  go_ret
  exact ⟨rfl, by rw [Hn.out]; exact HB.out.trans (Hw.out.mono HS.out)⟩
theorem side_c (ax ay bx bY cx cy : Int) (w : World) (h : room ax = true ∧ room ay = true ∧ room bx = true ∧ room bY = true ∧ room cx = true ∧ room cy = true) :
    Calls Try.prog 12 #[.agg #[.int .i64 ax, .int .i64 ay], .agg #[.int .i64 bx, .int .i64 bY], .agg #[.int .i64 cx, .int .i64 cy]] w fun e w' => e = .returned (.int .i64 (sideI ax ay bx bY cx cy)) ∧ Below w.heap.size w w' := by
  simp only [room_iff] at h
  have hs : cmpOf (ofI (bx - ax) * ofI (cy - ay)) (ofI (bY - ay) * ofI (cx - ax)) = sideI ax ay bx bY cx cy := by
    rw [cmpOf_eq, mul_toInt _ _ (by omega) (by omega) (by omega) (by omega), mul_toInt _ _ (by omega) (by omega) (by omega) (by omega)]; rfl
  rw [← hs]
  refine side_walk ax ay bx bY cx cy _ _ _ _ _ w ?_ ?_ ?_ ?_ (Lib.hid fun w => mul_c _ _ w ⟨by omega, by omega⟩ ⟨by omega, by omega⟩) (Lib.hid fun w => mul_c _ _ w ⟨by omega, by omega⟩ ⟨by omega, by omega⟩) (Lib.hid fun w => cmp_c _ _ w)
  all_goals (rw [IntKind.wrap_i64]; omega)
end Go.Proofs.Ytbllbncmeihaaaa
