/- Package geom: Side, Winds. -/
import Derived.Test.YtopngjpgikpmaaaWa
namespace Go.Proofs.Ytopngjpgikpmaaa
open Go.RowKit

/-- A point at hand in memory. -/
def PtAt (w : World) (g : Nat) (x y : Int) : Prop := w.heap[g]? = some (.cells #[.int .i64 x, .int .i64 y] 39 (0, 0))
theorem PtAt.c0 {w : World} {g : Nat} {x y : Int} (h : PtAt w g x y) : w.cell? ⟨g, 0, none⟩ = some (.int .i64 x) := Joins.cell_of_block h 0
theorem PtAt.c1 {w : World} {g : Nat} {x y : Int} (h : PtAt w g x y) : w.cell? ⟨g, 1, none⟩ = some (.int .i64 y) := Joins.cell_of_block h 1
theorem PtAt.free {w : World} {g : Nat} {x y : Int} (h : PtAt w g x y) (i : Nat) : w.frozen? ⟨g, i, none⟩ = false := Joins.unfrozen_of_block h i
theorem PtAt.on {w w' : World} {g : Nat} {x y : Int} {B : Nat} (h : PtAt w g x y) (hb : Below B w w') (hg : g < B) : PtAt w' g x y := by
  unfold PtAt; rw [hb.block g hg]; exact h
/-- The side that the document means: the sign of the exact number. -/
def sideI (ax ay bx bY cx cy : Int) : Int := cmpI ((bx - ax) * (cy - ay)) ((bY - ay) * (cx - ax))
theorem I64_of {n : Int} (h1 : -9223372036854775808 ≤ n) (h2 : n ≤ 9223372036854775807) : I64 n := ⟨h1, h2⟩
theorem prod_small {a b : Int} (h1 : -4294967296 ≤ a) (h2 : a ≤ 4294967296) (h3 : -4294967296 ≤ b) (h4 : b ≤ 4294967296) : -18446744073709551616 ≤ a * b ∧ a * b ≤ 18446744073709551616 := by
  obtain ⟨A, hA, hA2⟩ : ∃ A : Nat, (a = A ∨ a = -(A : Int)) ∧ A ≤ 4294967296 := ⟨a.natAbs, by omega, by omega⟩
  obtain ⟨B, hB, hB2⟩ : ∃ B : Nat, (b = B ∨ b = -(B : Int)) ∧ B ≤ 4294967296 := ⟨b.natAbs, by omega, by omega⟩
  have h := Nat.mul_le_mul hA2 hB2
  have e : ((A * B : Nat) : Int) = (A : Int) * B := by simp
  generalize A * B = C at *
  rcases hA with rfl | rfl <;> rcases hB with rfl | rfl <;> simp only [Int.neg_mul, Int.mul_neg, Int.neg_neg, ← e] <;> omega
theorem mul_toInt (a b : Int) (h1 : -4294967296 ≤ a) (h2 : a ≤ 4294967296) (h3 : -4294967296 ≤ b) (h4 : b ≤ 4294967296) : (ofI a * ofI b).toInt = a * b := by
  have h := prod_small h1 h2 h3 h4
  have ha : I64 a := ⟨by omega, by omega⟩
  have hb : I64 b := ⟨by omega, by omega⟩
  rw [BitVec.toInt_mul, ofI_toInt a ha, ofI_toInt b hb]
  apply Int.bmod_eq_of_le
  · show -(((340282366920938463463374607431768211456 : Nat) : Int) / 2) ≤ _
    omega
  · show _ < (((340282366920938463463374607431768211456 : Nat) : Int) + 1) / 2
    omega
theorem run_intAt (o : Oper) (a : Act) (x : Operand) (ad : Addr) (n : Int) (w : World) (ho : o.op = .load 3 x) (hx : a.eval x = .pointer (some ad)) (hc : w.cell? ad = some (.int .i64 n)) :
    (execOp a.eval o).run Try.prog w = .ok (.value (.int .i64 n)) w := by
  unfold execOp
  simp only [ho, hx]
  go_simp
/-- Three structs' cells lie at hand. -/
theorem three_pts (w : World) (ax ay bx bY cx cy : Int) (W : World) (hW : ((w.alloc (.cells #[.int .i64 ax, .int .i64 ay] 39)).alloc (.cells #[.int .i64 bx, .int .i64 bY] 39)).alloc (.cells #[.int .i64 cx, .int .i64 cy] 39) = W) :
    PtAt W w.heap.size ax ay ∧ PtAt W (w.heap.size + 1) bx bY ∧ PtAt W (w.heap.size + 2) cx cy ∧ Below w.heap.size w W ∧ W.heap.size = w.heap.size + 3 := by
  subst hW
  have s2 : ((w.alloc (.cells #[.int .i64 ax, .int .i64 ay] 39)).alloc (.cells #[.int .i64 bx, .int .i64 bY] 39)).heap.size = w.heap.size + 2 := by simp
  refine ⟨?_, ?_, ?_, (((Below.refl _ _).alloc (Nat.le_refl _) _).alloc (by simp) _).alloc (by omega) _, by simp⟩
  · unfold PtAt; rw [heap_alloc_old _ _ (by omega)]; exact heap_alloc2_old _ _ _
  · unfold PtAt; rw [heap_alloc_old _ _ (by omega)]; exact heap_alloc2_new _ _ _
  · unfold PtAt; rw [← s2]; exact heap_alloc_new _ _
theorem cells_out {W w' : World} {g : Nat} {x y : Int} (h : PtAt W g x y) (hg : g < W.heap.size) (hw : Out W w') : w'.cell? ⟨g, 0, none⟩ = some (.int .i64 x) ∧ w'.cell? ⟨g, 1, none⟩ = some (.int .i64 y) :=
  ⟨(h.on hw hg).c0, (h.on hw hg).c1⟩
set_option maxHeartbeats 400000 in
set_option maxRecDepth 100000 in
theorem side_walk (ax ay bx bY cx cy h1 l1 h2 l2 sd : Int) (w : World)
    (e1 : IntKind.i64.wrap (bx - ax) = bx - ax) (e2 : IntKind.i64.wrap (cy - ay) = cy - ay) (e3 : IntKind.i64.wrap (bY - ay) = bY - ay) (e4 : IntKind.i64.wrap (cx - ax) = cx - ax)
    (HM1 : Hid (∀ w, Calls Try.prog 64 #[.int .i64 (bx - ax), .int .i64 (cy - ay)] w fun e w' => e = .returned (.agg #[.int .i64 h1, .int .u64 l1]) ∧ Below w.heap.size w w'))
    (HM2 : Hid (∀ w, Calls Try.prog 64 #[.int .i64 (bY - ay), .int .i64 (cx - ax)] w fun e w' => e = .returned (.agg #[.int .i64 h2, .int .u64 l2]) ∧ Below w.heap.size w w'))
    (HC : Hid (∀ w, Calls Try.prog 65 #[.agg #[.int .i64 h1, .int .u64 l1], .agg #[.int .i64 h2, .int .u64 l2]] w fun e w' => e = .returned (.int .i64 sd) ∧ Below w.heap.size w w')) :
    Calls Try.prog 60 #[.agg #[.int .i64 ax, .int .i64 ay], .agg #[.int .i64 bx, .int .i64 bY], .agg #[.int .i64 cx, .int .i64 cy]] w fun e w' => e = .returned (.int .i64 sd) ∧ Below w.heap.size w w' := by
  go_enter Try.func60, Try.ntmps60
  go_wp2_with fail
  obtain ⟨W, hW⟩ : ∃ W, ((w.alloc (.cells #[.int .i64 ax, .int .i64 ay] 39)).alloc (.cells #[.int .i64 bx, .int .i64 bY] 39)).alloc (.cells #[.int .i64 cx, .int .i64 cy] 39) = W := ⟨_, rfl⟩
  obtain ⟨p1, p2, p3, hB, hs⟩ := three_pts w ax ay bx bY cx cy W hW
  rw [hW]
  clear hW
  have HB := Lib.hid hB
  generalize hn : w.heap.size = n at *
  have Hn := Lib.hid hn
  clear hn
  have HF : Hid (∀ w', Out W w' → w'.cell? ⟨n, 0, none⟩ = some (.int .i64 ax) ∧ w'.cell? ⟨n, 1, none⟩ = some (.int .i64 ay) ∧ w'.cell? ⟨n + 1, 0, none⟩ = some (.int .i64 bx) ∧ w'.cell? ⟨n + 1, 1, none⟩ = some (.int .i64 bY) ∧ w'.cell? ⟨n + 2, 0, none⟩ = some (.int .i64 cx) ∧ w'.cell? ⟨n + 2, 1, none⟩ = some (.int .i64 cy)) := fun w' hw' => by
    obtain ⟨a1, a2⟩ := cells_out p1 (by omega) hw'
    obtain ⟨a3, a4⟩ := cells_out p2 (by omega) hw'
    obtain ⟨a5, a6⟩ := cells_out p3 (by omega) hw'
    exact ⟨a1, a2, a3, a4, a5, a6⟩
  have HS : Hid (n ≤ W.heap.size) := by unfold Hid; omega
  clear p1 p2 p3 hB hs
  refine wp_region_quiet (C := Out W) (by kernel_rfl) (by kernel_rfl) ⟨rfl, rfl, rfl, Nat.le_refl _, fun _ _ => rfl⟩ ?_
  refine BigFrame.wpQuiet_want rfl (fun K hK => ?_)
  refine quiet_val (.pointer (some ⟨n + 1, 0, none⟩)) (fun w' hw' => by go_simp) (hK _ ?_)
  clear hK K
  simp only [Act.put, List.setIfInBounds_toArray, List.set_cons_zero, List.set_cons_succ]
  refine BigFrame.wpQuiet_want rfl (fun K hK => ?_)
  refine quiet_val (.int .i64 bx) (fun w' hw' => by obtain ⟨c0, c1, c2, c3, c4, c5⟩ := HF.out w' hw'; go_simp) (hK _ ?_)
  clear hK K
  simp only [Act.put, List.setIfInBounds_toArray, List.set_cons_zero, List.set_cons_succ]
  refine BigFrame.wpQuiet_want rfl (fun K hK => ?_)
  refine quiet_val (.pointer (some ⟨n, 0, none⟩)) (fun w' hw' => by go_simp) (hK _ ?_)
  clear hK K
  simp only [Act.put, List.setIfInBounds_toArray, List.set_cons_zero, List.set_cons_succ]
  refine BigFrame.wpQuiet_want rfl (fun K hK => ?_)
  refine quiet_val (.int .i64 ax) (fun w' hw' => by obtain ⟨c0, c1, c2, c3, c4, c5⟩ := HF.out w' hw'; go_simp) (hK _ ?_)
  clear hK K
  simp only [Act.put, List.setIfInBounds_toArray, List.set_cons_zero, List.set_cons_succ]
  refine BigFrame.wpQuiet_want rfl (fun K hK => ?_)
  refine quiet_val (.int .i64 (bx - ax)) (fun w' hw' => by go_simp) (hK _ ?_)
  clear hK K
  simp only [Act.put, List.setIfInBounds_toArray, List.set_cons_zero, List.set_cons_succ]
  refine BigFrame.wpQuiet_want rfl (fun K hK => ?_)
  refine quiet_val (.pointer (some ⟨n + 2, 1, none⟩)) (fun w' hw' => by go_simp) (hK _ ?_)
  clear hK K
  simp only [Act.put, List.setIfInBounds_toArray, List.set_cons_zero, List.set_cons_succ]
  refine BigFrame.wpQuiet_want rfl (fun K hK => ?_)
  refine quiet_val (.int .i64 cy) (fun w' hw' => by obtain ⟨c0, c1, c2, c3, c4, c5⟩ := HF.out w' hw'; go_simp) (hK _ ?_)
  clear hK K
  simp only [Act.put, List.setIfInBounds_toArray, List.set_cons_zero, List.set_cons_succ]
  refine BigFrame.wpQuiet_want rfl (fun K hK => ?_)
  refine quiet_val (.pointer (some ⟨n, 1, none⟩)) (fun w' hw' => by go_simp) (hK _ ?_)
  clear hK K
  simp only [Act.put, List.setIfInBounds_toArray, List.set_cons_zero, List.set_cons_succ]
  refine BigFrame.wpQuiet_want rfl (fun K hK => ?_)
  refine quiet_val (.int .i64 ay) (fun w' hw' => by obtain ⟨c0, c1, c2, c3, c4, c5⟩ := HF.out w' hw'; go_simp) (hK _ ?_)
  clear hK K
  simp only [Act.put, List.setIfInBounds_toArray, List.set_cons_zero, List.set_cons_succ]
  refine BigFrame.wpQuiet_want rfl (fun K hK => ?_)
  refine quiet_val (.int .i64 (cy - ay)) (fun w' hw' => by go_simp) (hK _ ?_)
  clear hK K
  simp only [Act.put, List.setIfInBounds_toArray, List.set_cons_zero, List.set_cons_succ]
  refine BigFrame.wpQuiet_want rfl (fun K hK => ?_)
  refine quiet_call 64 #[.int .i64 (bx - ax), .int .i64 (cy - ay)] (.agg #[.int .i64 h1, .int .u64 l1]) (fun w' _ => by go_simp) (fun w' hw' => Calls.out hw' (HM1.out _)) (hK _ ?_)
  clear hK K
  simp only [Act.put, List.setIfInBounds_toArray, List.set_cons_zero, List.set_cons_succ]
  refine BigFrame.wpQuiet_want rfl (fun K hK => ?_)
  refine quiet_val (.pointer (some ⟨n + 1, 1, none⟩)) (fun w' hw' => by go_simp) (hK _ ?_)
  clear hK K
  simp only [Act.put, List.setIfInBounds_toArray, List.set_cons_zero, List.set_cons_succ]
  refine BigFrame.wpQuiet_want rfl (fun K hK => ?_)
  refine quiet_val (.int .i64 bY) (fun w' hw' => by obtain ⟨c0, c1, c2, c3, c4, c5⟩ := HF.out w' hw'; go_simp) (hK _ ?_)
  clear hK K
  simp only [Act.put, List.setIfInBounds_toArray, List.set_cons_zero, List.set_cons_succ]
  refine BigFrame.wpQuiet_want rfl (fun K hK => ?_)
  refine quiet_val (.pointer (some ⟨n, 1, none⟩)) (fun w' hw' => by go_simp) (hK _ ?_)
  clear hK K
  simp only [Act.put, List.setIfInBounds_toArray, List.set_cons_zero, List.set_cons_succ]
  refine BigFrame.wpQuiet_want rfl (fun K hK => ?_)
  refine quiet_val (.int .i64 ay) (fun w' hw' => by obtain ⟨c0, c1, c2, c3, c4, c5⟩ := HF.out w' hw'; go_simp) (hK _ ?_)
  clear hK K
  simp only [Act.put, List.setIfInBounds_toArray, List.set_cons_zero, List.set_cons_succ]
  refine BigFrame.wpQuiet_want rfl (fun K hK => ?_)
  refine quiet_val (.int .i64 (bY - ay)) (fun w' hw' => by go_simp) (hK _ ?_)
  clear hK K
  simp only [Act.put, List.setIfInBounds_toArray, List.set_cons_zero, List.set_cons_succ]
  refine BigFrame.wpQuiet_want rfl (fun K hK => ?_)
  refine quiet_val (.pointer (some ⟨n + 2, 0, none⟩)) (fun w' hw' => by go_simp) (hK _ ?_)
  clear hK K
  simp only [Act.put, List.setIfInBounds_toArray, List.set_cons_zero, List.set_cons_succ]
  refine BigFrame.wpQuiet_want rfl (fun K hK => ?_)
  refine quiet_val (.int .i64 cx) (fun w' hw' => by obtain ⟨c0, c1, c2, c3, c4, c5⟩ := HF.out w' hw'; go_simp) (hK _ ?_)
  clear hK K
  simp only [Act.put, List.setIfInBounds_toArray, List.set_cons_zero, List.set_cons_succ]
  refine BigFrame.wpQuiet_want rfl (fun K hK => ?_)
  refine quiet_val (.pointer (some ⟨n, 0, none⟩)) (fun w' hw' => by go_simp) (hK _ ?_)
  clear hK K
  simp only [Act.put, List.setIfInBounds_toArray, List.set_cons_zero, List.set_cons_succ]
  refine BigFrame.wpQuiet_want rfl (fun K hK => ?_)
  refine quiet_val (.int .i64 ax) (fun w' hw' => by obtain ⟨c0, c1, c2, c3, c4, c5⟩ := HF.out w' hw'; go_simp) (hK _ ?_)
  clear hK K
  simp only [Act.put, List.setIfInBounds_toArray, List.set_cons_zero, List.set_cons_succ]
  refine BigFrame.wpQuiet_want rfl (fun K hK => ?_)
  refine quiet_val (.int .i64 (cx - ax)) (fun w' hw' => by go_simp) (hK _ ?_)
  clear hK K
  simp only [Act.put, List.setIfInBounds_toArray, List.set_cons_zero, List.set_cons_succ]
  refine BigFrame.wpQuiet_want rfl (fun K hK => ?_)
  refine quiet_call 64 #[.int .i64 (bY - ay), .int .i64 (cx - ax)] (.agg #[.int .i64 h2, .int .u64 l2]) (fun w' _ => by go_simp) (fun w' hw' => Calls.out hw' (HM2.out _)) (hK _ ?_)
  clear hK K
  simp only [Act.put, List.setIfInBounds_toArray, List.set_cons_zero, List.set_cons_succ]
  refine BigFrame.wpQuiet_want rfl (fun K hK => ?_)
  refine quiet_call 65 #[.agg #[.int .i64 h1, .int .u64 l1], .agg #[.int .i64 h2, .int .u64 l2]] (.int .i64 sd) (fun w' _ => by go_simp) (fun w' hw' => Calls.out hw' (HC.out _)) (hK _ ?_)
  clear hK K
  simp only [Act.put, List.setIfInBounds_toArray, List.set_cons_zero, List.set_cons_succ]
  refine BigFrame.wpQuiet_want rfl (fun K hK => ?_)
  refine quiet_val (.int .i64 sd) (fun w' hw' => by go_simp) (hK _ ?_)
  clear hK K
  simp only [Act.put, List.setIfInBounds_toArray, List.set_cons_zero, List.set_cons_succ]
  refine wpQuiet_nil ?_
  intro w' hw'
  have Hw := Lib.hid hw'
  clear hw'
  go_wp2_with fail
  go_ret
  exact ⟨rfl, by rw [Hn.out]; exact HB.out.trans (Hw.out.mono HS.out)⟩
theorem side_c (ax ay bx bY cx cy : Int) (w : World) (h : room ax = true ∧ room ay = true ∧ room bx = true ∧ room bY = true ∧ room cx = true ∧ room cy = true) :
    Calls Try.prog 60 #[.agg #[.int .i64 ax, .int .i64 ay], .agg #[.int .i64 bx, .int .i64 bY], .agg #[.int .i64 cx, .int .i64 cy]] w fun e w' => e = .returned (.int .i64 (sideI ax ay bx bY cx cy)) ∧ Below w.heap.size w w' := by
  simp only [room_iff] at h
  have hs : cmpOf (ofI (bx - ax) * ofI (cy - ay)) (ofI (bY - ay) * ofI (cx - ax)) = sideI ax ay bx bY cx cy := by
    rw [cmpOf_eq, mul_toInt _ _ (by omega) (by omega) (by omega) (by omega), mul_toInt _ _ (by omega) (by omega) (by omega) (by omega)]; rfl
  rw [← hs]
  refine side_walk ax ay bx bY cx cy _ _ _ _ _ w ?_ ?_ ?_ ?_ (Lib.hid fun w => mul_c _ _ w ⟨by omega, by omega⟩ ⟨by omega, by omega⟩) (Lib.hid fun w => mul_c _ _ w ⟨by omega, by omega⟩ ⟨by omega, by omega⟩) (Lib.hid fun w => cmp_c _ _ w)
  all_goals (rw [IntKind.wrap_i64]; omega)
/-- What an edge counts. -/
def cnt (px py qx qy sx sy : Int) : Int :=
  if py ≤ sy ∧ sy < qy ∧ 0 < sideI px py qx qy sx sy then 1 else if qy ≤ sy ∧ sy < py ∧ sideI px py qx qy sx sy < 0 then -1 else 0
set_option maxHeartbeats 400000 in
set_option maxRecDepth 100000 in
theorem counts_walk (px py qx qy sx sy sd r : Int) (w : World) (HR : Hid (r = (if py ≤ sy ∧ sy < qy ∧ 0 < sd then 1 else if qy ≤ sy ∧ sy < py ∧ sd < 0 then -1 else 0)))
    (HS : Hid (∀ w, Calls Try.prog 60 #[.agg #[.int .i64 px, .int .i64 py], .agg #[.int .i64 qx, .int .i64 qy], .agg #[.int .i64 sx, .int .i64 sy]] w fun e w' => e = .returned (.int .i64 sd) ∧ Below w.heap.size w w')) :
    Calls Try.prog 52 #[.agg #[.int .i64 px, .int .i64 py], .agg #[.int .i64 qx, .int .i64 qy], .agg #[.int .i64 sx, .int .i64 sy]] w fun e w' => e = .returned (.int .i64 r) ∧ Below w.heap.size w w' := by
  obtain ⟨W, hW⟩ : ∃ W, ((w.alloc (.cells #[.int .i64 px, .int .i64 py] 39)).alloc (.cells #[.int .i64 qx, .int .i64 qy] 39)).alloc (.cells #[.int .i64 sx, .int .i64 sy] 39) = W := ⟨_, rfl⟩
  obtain ⟨p1, p2, p3, hB, hs⟩ := three_pts w px py qx qy sx sy W hW
  have HF : Hid (∀ w', Below W.heap.size W w' → w'.cell? ⟨w.heap.size, 1, none⟩ = some (.int .i64 py) ∧ w'.cell? ⟨w.heap.size + 1, 1, none⟩ = some (.int .i64 qy) ∧ w'.cell? ⟨w.heap.size + 2, 1, none⟩ = some (.int .i64 sy)) := fun w' hw' =>
    ⟨(p1.on hw' (by omega)).c1, (p2.on hw' (by omega)).c1, (p3.on hw' (by omega)).c1⟩
  have HB := Lib.hid hB
  have HZ : Hid (w.heap.size ≤ W.heap.size) := by unfold Hid; omega
  have HW := Lib.hid hW
  clear p1 p2 p3 hB hs hW
  by_cases h1 : py ≤ sy ∧ sy < qy
  · obtain ⟨h1, h2⟩ := h1
    go_enter Try.func52, Try.ntmps52
    go_wp2_with fail
    refine (HS.out _).mono ?_
    rintro e w1 ⟨rfl, hb⟩
    rw [HW.out] at hb
    obtain ⟨c1, c2, c3⟩ := HF.out w1 hb
    have B1 : Hid (Below w.heap.size w w1) := HB.out.trans (hb.mono HZ.out)
    clear hb
    by_cases h3 : 0 < sd
    · go_wp2_with fail
      go_ret
      exact ⟨retI (by rw [HR.out]; (repeat' split) <;> omega), B1.out⟩
    · go_wp2_with fail
      go_ret
      exact ⟨retI (by rw [HR.out]; (repeat' split) <;> omega), B1.out⟩
  · by_cases h2 : qy ≤ sy ∧ sy < py
    · obtain ⟨h2, h3⟩ := h2
      have h4 : ¬ py ≤ sy := by omega
      go_enter Try.func52, Try.ntmps52
      go_wp2_with fail
      refine (HS.out _).mono ?_
      rintro e w1 ⟨rfl, hb⟩
      rw [HW.out] at hb
      have B1 : Hid (Below w.heap.size w w1) := HB.out.trans (hb.mono HZ.out)
      clear hb
      by_cases h5 : sd < 0
      · go_wp2_with fail
        go_ret
        exact ⟨retI (by rw [HR.out]; (repeat' split) <;> omega), B1.out⟩
      · go_wp2_with fail
        go_ret
        exact ⟨retI (by rw [HR.out]; (repeat' split) <;> omega), B1.out⟩
    · by_cases k1 : py ≤ sy <;> by_cases k2 : sy < qy <;> by_cases k3 : qy ≤ sy <;> by_cases k4 : sy < py <;> first | (exfalso; omega) | skip
      all_goals (clear h1 h2; go_enter Try.func52, Try.ntmps52; go_wp2_with fail; go_ret; exact ⟨retI (by rw [HR.out]; (repeat' split) <;> omega), by go_grown⟩)
theorem counts_c (px py qx qy sx sy : Int) (w : World) (h : room px = true ∧ room py = true ∧ room qx = true ∧ room qy = true ∧ room sx = true ∧ room sy = true) :
    Calls Try.prog 52 #[.agg #[.int .i64 px, .int .i64 py], .agg #[.int .i64 qx, .int .i64 qy], .agg #[.int .i64 sx, .int .i64 sy]] w fun e w' => e = .returned (.int .i64 (cnt px py qx qy sx sy)) ∧ Below w.heap.size w w' :=
  counts_walk px py qx qy sx sy _ _ w (Lib.hid rfl) (Lib.hid fun w => side_c _ _ _ _ _ _ w h)
/-- What an edge counts, of points. -/
def cntP (p q s : Pt) : Int := cnt p.1 p.2 q.1 q.2 s.1 s.2
def wstep (s : Pt) (st : Pt × Int) (q : Pt) : Pt × Int := (q, st.2 + cntP st.1 q s)
theorem cntP_bound (p q s : Pt) : -1 ≤ cntP p q s ∧ cntP p q s ≤ 1 := by
  unfold cntP cnt; (repeat' split) <;> omega
theorem wfold_bound (s : Pt) (l : List Pt) : ∀ st : Pt × Int, st.2 - l.length ≤ (l.foldl (wstep s) st).2 ∧ (l.foldl (wstep s) st).2 ≤ st.2 + l.length := by
  induction l with
  | nil => intro st; simp
  | cons q l ih =>
    intro st
    have h := ih (wstep s st q)
    have hb := cntP_bound st.1 q s
    simp only [List.foldl_cons, List.length_cons]
    unfold wstep at h ⊢
    simp only at h
    omega
theorem wfold_room (s : Pt) (l : List Pt) (hl : l.all roomP = true) : ∀ st : Pt × Int, roomP st.1 = true → roomP (l.foldl (wstep s) st).1 = true := by
  induction l with
  | nil => intro st h; exact h
  | cons q l ih =>
    intro st h
    simp only [List.all_cons, Bool.and_eq_true] at hl
    exact ih hl.2 _ hl.1
/-- How often a polygon goes round a point. -/
def windsI (l : List Pt) (s : Pt) : Int := match l.getLast? with
  | none => 0
  | some p => (l.foldl (wstep s) (p, 0)).2
theorem PtAt.stored {w : World} {g : Nat} {x y : Int} (h : PtAt w g x y) (a b : Int) : PtAt ((w.setCell ⟨g, 0, none⟩ (.int .i64 a)).setCell ⟨g, 1, none⟩ (.int .i64 b)) g a b := by
  unfold PtAt at *
  exact Joins.block_setCell (Joins.block_setCell h (.int .i64 a)) (.int .i64 b)
theorem PtAt.other {w : World} {g : Nat} {x y : Int} (h : PtAt w g x y) (a : Addr) (v : Value) (hne : g ≠ a.block) : PtAt (w.setCell a v) g x y := by
  unfold PtAt; rw [Below.heap_setCell _ _ _ _ hne]; exact h
theorem PtAt.lt {w : World} {g : Nat} {x y : Int} (h : PtAt w g x y) : g < w.heap.size := by
  unfold PtAt at h
  exact (Array.getElem?_eq_some_iff.1 h).1
theorem PtAt.alloc {w : World} {g : Nat} {x y : Int} (h : PtAt w g x y) (o : Obj) : PtAt (w.alloc o) g x y := by
  have := h.lt
  unfold PtAt; rw [heap_alloc_old _ _ this]; exact h
theorem PtAt.new (w : World) (x y : Int) : PtAt (w.alloc (.cells #[.int .i64 x, .int .i64 y] 39)) w.heap.size x y := heap_alloc_new _ _
set_option maxHeartbeats 400000 in
theorem winds_nil (sx sy : Int) (w : World) : Calls Try.prog 34 #[.slice none 0 0, .agg #[.int .i64 sx, .int .i64 sy]] w fun e w' => e = .returned (.int .i64 0) ∧ Below w.heap.size w w' := by
  go_enter Try.func34, Try.ntmps34
  go_wp2_with fail
  go_ret
  exact ⟨rfl, by go_grown⟩
set_option maxHeartbeats 400000 in
theorem winds_none (a : Addr) (c : Nat) (sx sy : Int) (w : World) : Calls Try.prog 34 #[.slice (some a) 0 c, .agg #[.int .i64 sx, .int .i64 sy]] w fun e w' => e = .returned (.int .i64 0) ∧ Below w.heap.size w w' := by
  go_enter Try.func34, Try.ntmps34
  go_wp2_with fail
  go_ret
  exact ⟨rfl, by go_grown⟩
/-- What the loop keeps. -/
structure WRel (w wr : World) (g : Nat) (s p : Pt) : Prop where
  ps : PtAt wr w.heap.size s.1 s.2
  pg : PtAt wr g p.1 p.2
  hg : w.heap.size < g
  hb : Below w.heap.size w wr
set_option maxHeartbeats 1000000 in
set_option maxRecDepth 100000 in
theorem winds_some (w : World) (b o c : Nat) (l : List Pt) (z : Pt) (sx sy : Int) (hl : l.length ≤ 1000) (hz : l.getLast? = some z) (hb : b < w.heap.size) (hp : PtsAt w b o l) (hr : l.all roomP = true) (hs : roomP (sx, sy) = true) :
    Calls Try.prog 34 #[.slice (some ⟨b, o, none⟩) l.length c, .agg #[.int .i64 sx, .int .i64 sy]] w fun e w' => e = .returned (.int .i64 (l.foldl (wstep (sx, sy)) (z, 0)).2) ∧ Below w.heap.size w w' := by
  have hpos : 0 < l.length := by cases l with | nil => cases hz | cons => simp
  have hlast : l[l.length - 1]? = some z := by rw [← List.getLast?_eq_getElem?]; exact hz
  have hzr : roomP z = true := List.all_eq_true.1 hr z (List.mem_of_getLast? hz)
  obtain ⟨n, hn⟩ : ∃ n, l.length = n := ⟨_, rfl⟩
  rw [hn] at hl hpos hlast ⊢
  have HP := Lib.hid hp
  have HB := Lib.hid hb
  have HN := Lib.hid hn
  have HR := Lib.hid hr
  have HS := Lib.hid hs
  have HZ := Lib.hid hzr
  obtain ⟨zx, zy⟩ := z
  obtain ⟨k0, k1⟩ := (hp.on (w' := w.alloc (.cells #[.int .i64 sx, .int .i64 sy] 39)) (B := w.heap.size) ((Below.refl _ _).alloc (Nat.le_refl _) _) hb) (n - 1) (zx, zy) hlast
  have HC := Lib.hid (fun (px py qx qy : Int) (w : World) (h : room px = true ∧ room py = true ∧ room qx = true ∧ room qy = true ∧ room sx = true ∧ room sy = true) => counts_c px py qx qy sx sy w h)
  clear hp hb hn hr hs hzr hz hlast
  simp only at k0 k1
  have z0 : ((n : Int) == 0) = false := by simp; omega
  go_enter Try.func34, Try.ntmps34
  go_wp2_with fail
  go_loopw [5, 20] (fun t i wr => ∃ (k : Nat) (x y v : Int), k ≤ n ∧ i = .int .i64 k ∧ t = .int .i64 v ∧ -(k : Int) ≤ v ∧ v ≤ k ∧ Hid ((l.take k).foldl (wstep (sx, sy)) ((zx, zy), 0) = ((x, y), v)) ∧ Hid (WRel w wr (w.heap.size + 1) (sx, sy) (x, y))) (fun _ i _ => n - (intOf i).toNat)
  case atStart =>
    refine ⟨0, zx, zy, 0, by omega, rfl, rfl, by omega, by omega, by simp [Hid], ?_⟩
    exact ⟨(PtAt.new _ _ _).alloc _, heap_alloc2_new _ _ _, by omega, ((Below.refl _ _).alloc (Nat.le_refl _) _).alloc (by simp) _⟩
  case round =>
    obtain ⟨k, x, y, v, hk, rfl, rfl, hv1, hv2, hf, hw⟩ := hrel
    by_cases hlt : k < n
    · have hd : decide ((k : Int) < (n : Int)) = true := by simp; omega
      obtain ⟨⟨qx, qy⟩, hq⟩ : ∃ p, l[k]? = some p := ⟨_, List.getElem?_eq_getElem (by rw [HN.out]; exact hlt)⟩
      obtain ⟨c0, c1⟩ := (HP.out.on hw.out.hb HB.out) k (qx, qy) hq
      have hqr : roomP (qx, qy) = true := List.all_eq_true.1 HR.out _ (List.mem_of_getElem? hq)
      have hpr : roomP (x, y) = true := by
        have := wfold_room (sx, sy) (l.take k) (by rw [List.all_eq_true]; exact fun a ha => List.all_eq_true.1 HR.out a (List.mem_of_mem_take ha)) ((zx, zy), 0) HZ.out
        rw [hf.out] at this; exact this
      have hnext : (l.take (k + 1)).foldl (wstep (sx, sy)) ((zx, zy), 0) = ((qx, qy), v + cnt x y qx qy sx sy) := by
        rw [take_fold _ _ _ _ hq, hf.out]; rfl
      have hcb := cntP_bound (x, y) (qx, qy) (sx, sy)
      have HF := Lib.hid hnext
      have hrr : room x = true ∧ room y = true ∧ room qx = true ∧ room qy = true ∧ room sx = true ∧ room sy = true := by
        have := HS.out
        simp only [roomP, Bool.and_eq_true] at hqr hpr this
        exact ⟨hpr.1, hpr.2, hqr.1, hqr.2, this.1, this.2⟩
      have HCC := Lib.hid (fun w => HC.out x y qx qy w hrr)
      have d0 := hw.out.ps.c0
      have d1 := hw.out.ps.c1
      have d2 := hw.out.pg.c0
      have d3 := hw.out.pg.c1
      have ls := hw.out.ps.lt
      have lg := hw.out.pg.lt
      simp only [cntP] at hcb
      generalize cnt x y qx qy sx sy = e0 at *
      simp only at c0 c1 d0 d1 d2 d3
      clear hq hqr hpr hnext hrr
      go_wp2_with fail
      refine (HCC.out _).mono ?_
      rintro e w1 ⟨rfl, hb1⟩
      have gq : PtAt w1 wr.heap.size qx qy := (PtAt.new wr qx qy).on hb1 (by simp)
      have gs : PtAt w1 w.heap.size sx sy := (hw.out.ps.alloc _).on hb1 (by simpa using by omega)
      have gg : PtAt w1 (w.heap.size + 1) x y := (hw.out.pg.alloc _).on hb1 (by simpa using by omega)
      have B1 : Hid (Below w.heap.size w w1) := (hw.out.hb.alloc hw.out.hb.size _).trans (hb1.mono (by have := hw.out.hb.size; simp; omega))
      have r0 := gq.c0
      have r1 := gq.c1
      have r2 := gg.c0
      have r3 := gg.c1
      have r4 := gg.free 0
      have r5 := gg.free 1
      have G1 := Lib.hid gs; have G2 := Lib.hid gg
      clear gq gs gg hb1
      go_wp2_with fail
      refine ⟨⟨k + 1, qx, qy, v + e0, by omega, by go_num, by go_num, by omega, by omega, HF, ?_⟩, by simp [intOf]; omega⟩
      exact ⟨(G1.out.other _ _ (by simp)).other _ _ (by simp), G2.out.stored qx qy, by omega, (B1.out.setCell (by simp) _).setCell (by simp) _⟩
    · have hd : decide ((k : Int) < (n : Int)) = false := by simp; omega
      have hkn : Hid (k = n) := by unfold Hid; omega
      have hv : Hid ((l.foldl (wstep (sx, sy)) ((zx, zy), 0)).2 = v) := by
        have := hf.out
        rw [hkn.out, ← HN.out, List.take_length] at this
        unfold Hid; rw [this]
      go_wp2_with fail
      go_ret
      exact ⟨retI hv.out.symm, hw.out.hb⟩
theorem winds_c (s : Value) (l : List Pt) (x y : Int) (w : World) (hl : l.length ≤ 1000) (h : Row w s l) (hr : l.all roomP = true) (hs : roomP (x, y) = true) :
    Calls Try.prog 34 #[s, .agg #[.int .i64 x, .int .i64 y]] w fun e w' => e = .returned (.int .i64 (windsI l (x, y))) ∧ Below w.heap.size w w' := by
  rcases h with ⟨rfl, rfl⟩ | ⟨a, c, rfl, rfl⟩ | ⟨b, o, c, rfl, hb, hp⟩
  · exact winds_nil x y w
  · exact winds_none a c x y w
  · cases hz : l.getLast? with
    | none =>
      obtain rfl : l = [] := by simpa using hz
      exact winds_none ⟨b, o, none⟩ c x y w
    | some z =>
      have e : windsI l (x, y) = (l.foldl (wstep (x, y)) (z, 0)).2 := by unfold windsI; rw [hz]
      rw [e]
      exact winds_some w b o c l z x y hl hz hb hp hr hs
end Go.Proofs.Ytopngjpgikpmaaa
