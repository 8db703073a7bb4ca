/- The statements' own 'parted'. -/
import Derived.Test.YtbllbncmeihaaaaHm
import Derived.Lib.MinMax
namespace Go.Proofs.Ytbllbncmeihaaaa
open Go.RowKit
set_option maxHeartbeats 1000000 in
set_option maxRecDepth 100000 in
theorem pside_walk (ax ay bx bY cx cy sd : Int) (w : World)
    (HS : Hid (∀ w, Calls Try.prog 13 #[.agg #[.int .i64 ax, .int .i64 ay], .agg #[.int .i64 bx, .int .i64 bY], .agg #[.int .i64 cx, .int .i64 cy]] w fun e w' => e = .returned (.int .i64 sd) ∧ Below w.heap.size w w')) :
    Calls Try.prog 34 #[.agg #[.int .i64 ax, .int .i64 ay], .agg #[.int .i64 bx, .int .i64 bY], .agg #[.int .i64 cx, .int .i64 cy]] w fun e w' => e = .returned (.int .i64 sd) ∧ Below w.heap.size w w' := by
  have HREF := Lib.hid ref_c
  go_enter Try.func34, Try.ntmps34
  go_wp2_with fail
  obtain ⟨W, hW⟩ : ∃ W, ((w.alloc (.cells #[.int .i64 ax, .int .i64 ay] 23)).alloc (.cells #[.int .i64 bx, .int .i64 bY] 23)).alloc (.cells #[.int .i64 cx, .int .i64 cy] 23) = W := ⟨_, rfl⟩
  obtain ⟨hT, hB, hs⟩ := three_of w W ax ay bx bY cx cy hW
  rw [hW]
  clear hW
  obtain ⟨n, hn⟩ : ∃ n, w.heap.size = n := ⟨_, rfl⟩
  simp only [hn] at hT hB hs ⊢
  have HT := Lib.hid hT; have HB := Lib.hid hB; have Hn := Lib.hid hn
  have HS3 : Hid (n ≤ W.heap.size) := by unfold Hid; omega
  clear hT hB hs hn
  refine wp_region_quiet (C := Out W) (by kernel_rfl) (by kernel_rfl) ⟨rfl, rfl, rfl, Nat.le_refl _, fun _ _ => rfl⟩ ?_
  refine BigFrame.wpQuiet_want rfl (fun K hK => ?_)
  refine quiet_val (.agg #[.int .i64 ax, .int .i64 ay]) (fun w' hw' => by obtain ⟨⟨c0, c1⟩, ⟨c2, c3⟩, c4, c5⟩ := HT.out w' hw'; go_simp) (hK _ ?_)
  clear hK K
  simp only [Act.put, List.setIfInBounds_toArray, List.set_cons_zero, List.set_cons_succ]
  refine BigFrame.wpQuiet_want rfl (fun K hK => ?_)
  refine quiet_call 14 #[.agg #[.int .i64 ax, .int .i64 ay]] (.agg #[.int .i64 ax, .int .i64 ay]) (fun w' _ => by go_simp) (fun w' hw' => Calls.out hw' (HREF.out _ _ _)) (hK _ ?_)
  clear hK K
  simp only [Act.put, List.setIfInBounds_toArray, List.set_cons_zero, List.set_cons_succ]
  refine BigFrame.wpQuiet_want rfl (fun K hK => ?_)
  refine quiet_val (.agg #[.int .i64 bx, .int .i64 bY]) (fun w' hw' => by obtain ⟨⟨c0, c1⟩, ⟨c2, c3⟩, c4, c5⟩ := HT.out w' hw'; go_simp) (hK _ ?_)
  clear hK K
  simp only [Act.put, List.setIfInBounds_toArray, List.set_cons_zero, List.set_cons_succ]
  refine BigFrame.wpQuiet_want rfl (fun K hK => ?_)
  refine quiet_call 14 #[.agg #[.int .i64 bx, .int .i64 bY]] (.agg #[.int .i64 bx, .int .i64 bY]) (fun w' _ => by go_simp) (fun w' hw' => Calls.out hw' (HREF.out _ _ _)) (hK _ ?_)
  clear hK K
  simp only [Act.put, List.setIfInBounds_toArray, List.set_cons_zero, List.set_cons_succ]
  refine BigFrame.wpQuiet_want rfl (fun K hK => ?_)
  refine quiet_val (.agg #[.int .i64 cx, .int .i64 cy]) (fun w' hw' => by obtain ⟨⟨c0, c1⟩, ⟨c2, c3⟩, c4, c5⟩ := HT.out w' hw'; go_simp) (hK _ ?_)
  clear hK K
  simp only [Act.put, List.setIfInBounds_toArray, List.set_cons_zero, List.set_cons_succ]
  refine BigFrame.wpQuiet_want rfl (fun K hK => ?_)
  refine quiet_call 14 #[.agg #[.int .i64 cx, .int .i64 cy]] (.agg #[.int .i64 cx, .int .i64 cy]) (fun w' _ => by go_simp) (fun w' hw' => Calls.out hw' (HREF.out _ _ _)) (hK _ ?_)
  clear hK K
  simp only [Act.put, List.setIfInBounds_toArray, List.set_cons_zero, List.set_cons_succ]
  refine BigFrame.wpQuiet_want rfl (fun K hK => ?_)
  refine quiet_call 13 #[.agg #[.int .i64 ax, .int .i64 ay], .agg #[.int .i64 bx, .int .i64 bY], .agg #[.int .i64 cx, .int .i64 cy]] (.int .i64 sd) (fun w' _ => by go_simp) (fun w' hw' => Calls.out hw' (HS.out _)) (hK _ ?_)
  clear hK K
  simp only [Act.put, List.setIfInBounds_toArray, List.set_cons_zero, List.set_cons_succ]
  refine BigFrame.wpQuiet_want rfl (fun K hK => ?_)
  refine quiet_val (.int .i64 sd) (fun w' hw' => by go_simp) (hK _ ?_)
  clear hK K
  simp only [Act.put, List.setIfInBounds_toArray, List.set_cons_zero, List.set_cons_succ]
  refine wpQuiet_nil ?_
  intro w' hw'
  have Hw : Hid (Below n w w') := HB.out.trans (hw'.mono HS3.out)
  clear hw'
  go_wp2_with fail
  go_ret
  exact ⟨rfl, by rw [Hn.out]; exact Hw.out⟩
theorem pside_c (ax ay bx bY cx cy : Int) (w : World) (h : room ax = true ∧ room ay = true ∧ room bx = true ∧ room bY = true ∧ room cx = true ∧ room cy = true) :
    Calls Try.prog 34 #[.agg #[.int .i64 ax, .int .i64 ay], .agg #[.int .i64 bx, .int .i64 bY], .agg #[.int .i64 cx, .int .i64 cy]] w fun e w' => e = .returned (.int .i64 (sideI ax ay bx bY cx cy)) ∧ Below w.heap.size w w' :=
  pside_walk _ _ _ _ _ _ _ w (Lib.hid fun w => refSide_c _ _ _ _ _ _ w h)
theorem neq_pt0 {α : Type} {a b c d : Int} {t f : α} (h : (a == b && c == d) = !false) : (if a = b then if c = d then t else f else f) = t := by
  have h : a = b ∧ c = d := by simpa using h
  rw [if_pos h.1, if_pos h.2]
theorem neq_pt1 {a b c d : Int} (h : (a == b && c == d) = !true) : a = b → ¬ c = d := fun z z' => by subst z; subst z'; simp at h
def boxesApart (a b c d : Pt) : Bool := decide (max a.1 b.1 < min c.1 d.1) || decide (max c.1 d.1 < min a.1 b.1) || decide (max a.2 b.2 < min c.2 d.2) || decide (max c.2 d.2 < min a.2 b.2)
set_option maxHeartbeats 4000000 in
set_option maxRecDepth 100000 in
theorem parted_walk (ax ay bx bY cx cy dx dy s0 s1 s2 s3 : Int) (A C : Bool) (w : World)
    (hA : (ax == bx && ay == bY) = !A) (hC : (cx == dx && cy == dy) = !C)
    (Hs0 : Hid (∀ w, Calls Try.prog 34 #[.agg #[.int .i64 ax, .int .i64 ay], .agg #[.int .i64 bx, .int .i64 bY], .agg #[.int .i64 cx, .int .i64 cy]] w fun e w' => e = .returned (.int .i64 s0) ∧ Below w.heap.size w w'))
    (Hs1 : Hid (∀ w, Calls Try.prog 34 #[.agg #[.int .i64 ax, .int .i64 ay], .agg #[.int .i64 bx, .int .i64 bY], .agg #[.int .i64 dx, .int .i64 dy]] w fun e w' => e = .returned (.int .i64 s1) ∧ Below w.heap.size w w'))
    (Hs2 : Hid (∀ w, Calls Try.prog 34 #[.agg #[.int .i64 cx, .int .i64 cy], .agg #[.int .i64 dx, .int .i64 dy], .agg #[.int .i64 ax, .int .i64 ay]] w fun e w' => e = .returned (.int .i64 s2) ∧ Below w.heap.size w w'))
    (Hs3 : Hid (∀ w, Calls Try.prog 34 #[.agg #[.int .i64 cx, .int .i64 cy], .agg #[.int .i64 dx, .int .i64 dy], .agg #[.int .i64 bx, .int .i64 bY]] w fun e w' => e = .returned (.int .i64 s3) ∧ Below w.heap.size w w'))
    (hp : -1 ≤ s0 * s1 ∧ s0 * s1 ≤ 1) (hq : -1 ≤ s2 * s3 ∧ s2 * s3 ≤ 1) :
    Calls Try.prog 18 #[.agg #[.int .i64 ax, .int .i64 ay], .agg #[.int .i64 bx, .int .i64 bY], .agg #[.int .i64 cx, .int .i64 cy], .agg #[.int .i64 dx, .int .i64 dy]] w fun e w' => e = .returned (.bool (boxesApart (ax, ay) (bx, bY) (cx, cy) (dx, dy) || (A && decide (0 < s0 * s1) || C && decide (0 < s2 * s3)))) ∧ Below w.heap.size w w' := by
  obtain ⟨r, hr⟩ : ∃ r, (boxesApart (ax, ay) (bx, bY) (cx, cy) (dx, dy) || (A && decide (0 < s0 * s1) || C && decide (0 < s2 * s3))) = r := ⟨_, rfl⟩
  rw [hr]
  have HR := Lib.hid hr
  clear hr
  have e1 : IntKind.i64.wrap (s0 * s1) = s0 * s1 := by rw [IntKind.wrap_i64]; omega
  have e2 : IntKind.i64.wrap (s2 * s3) = s2 * s3 := by rw [IntKind.wrap_i64]; omega
  have HA := Lib.hid hA; have HC := Lib.hid hC
  clear hA hC
  by_cases k0 : max ax bx < min cx dx
  · clear e1 e2
    go_enter Try.func18, Try.ntmps18
    go_wp2_with fail
    go_ret
    exact ⟨by rw [← HR.out]; simp [boxesApart, k0], by go_grown⟩
  · skip
    by_cases k1 : max cx dx < min ax bx
    · clear e1 e2
      go_enter Try.func18, Try.ntmps18
      go_wp2_with fail
      go_ret
      exact ⟨by rw [← HR.out]; simp [boxesApart, k1], by go_grown⟩
    · skip
      by_cases k2 : max ay bY < min cy dy
      · clear e1 e2
        go_enter Try.func18, Try.ntmps18
        go_wp2_with fail
        go_ret
        exact ⟨by rw [← HR.out]; simp [boxesApart, k2], by go_grown⟩
      · skip
        by_cases k3 : max cy dy < min ay bY
        · clear e1 e2
          go_enter Try.func18, Try.ntmps18
          go_wp2_with fail
          go_ret
          exact ⟨by rw [← HR.out]; simp [boxesApart, k3], by go_grown⟩
        · skip
          have hbx : boxesApart (ax, ay) (bx, bY) (cx, cy) (dx, dy) = false := by simp only [boxesApart, Bool.or_eq_false_iff, decide_eq_false_iff_not]; exact ⟨⟨⟨k0, k1⟩, k2⟩, k3⟩
          have HR2 : Hid ((A && decide (0 < s0 * s1) || C && decide (0 < s2 * s3)) = r) := by have := HR.out; rw [hbx] at this; unfold Hid; simpa using this
          clear hbx HR
          go_enter Try.func18, Try.ntmps18
          go_wp2_with fail
          obtain ⟨W, hW⟩ : ∃ W, (((w.alloc (.cells (two (ax, ay)) 23)).alloc (.cells (two (bx, bY)) 23)).alloc (.cells (two (cx, cy)) 23)).alloc (.cells (two (dx, dy)) 23) = W := ⟨_, rfl⟩
          obtain ⟨hF, hB, hs⟩ := four_pts w _ _ _ _ W hW
          have hW' : (((w.alloc (.cells #[.int .i64 ax, .int .i64 ay] 23)).alloc (.cells #[.int .i64 bx, .int .i64 bY] 23)).alloc (.cells #[.int .i64 cx, .int .i64 cy] 23)).alloc (.cells #[.int .i64 dx, .int .i64 dy] 23) = W := hW
          rw [hW']
          clear hW hW' k0 k1 k2 k3
          obtain ⟨n, hn⟩ : ∃ n, w.heap.size = n := ⟨_, rfl⟩
          simp only [hn] at hF hB hs ⊢
          have HF : Hid (∀ w', Below W.heap.size W w' → FourAt w' n (ax, ay) (bx, bY) (cx, cy) (dx, dy)) := fun w' h => hF.on h (by omega)
          have HB := Lib.hid hB; have Hn := Lib.hid hn
          have HS3 : Hid (n ≤ W.heap.size) := by unfold Hid; omega
          clear hF hB hn hs
          cases A
          · skip
            cases C
            · skip
              refine wp_region_quiet (C := Out W) (by kernel_rfl) (by kernel_rfl) ⟨rfl, rfl, rfl, Nat.le_refl _, fun _ _ => rfl⟩ ?_
              refine BigFrame.wpQuiet_want rfl (fun K hK => ?_)
              refine quiet_val (.agg #[.int .i64 ax, .int .i64 ay]) (fun w' hw' => by obtain ⟨⟨c0, c1⟩, ⟨c2, c3⟩, ⟨c4, c5⟩, c6, c7⟩ := FourAt.cells (HF.out _ hw'); go_simp) (hK _ ?_)
              clear hK K
              simp only [Act.put, List.setIfInBounds_toArray, List.set_cons_zero, List.set_cons_succ]
              refine BigFrame.wpQuiet_want rfl (fun K hK => ?_)
              refine quiet_val (.agg #[.int .i64 bx, .int .i64 bY]) (fun w' hw' => by obtain ⟨⟨c0, c1⟩, ⟨c2, c3⟩, ⟨c4, c5⟩, c6, c7⟩ := FourAt.cells (HF.out _ hw'); go_simp) (hK _ ?_)
              clear hK K
              simp only [Act.put, List.setIfInBounds_toArray, List.set_cons_zero, List.set_cons_succ]
              refine BigFrame.wpQuiet_want rfl (fun K hK => ?_)
              refine quiet_val (.bool false) (fun w' hw' => by go_simp; exact neq_pt0 HA.out) (hK _ ?_)
              clear hK K
              simp only [Act.put, List.setIfInBounds_toArray, List.set_cons_zero, List.set_cons_succ]
              refine BigFrame.wpQuiet_want rfl (fun K hK => ?_)
              refine quiet_val (.bool false) (fun w' hw' => by go_simp) (hK _ ?_)
              clear hK K
              simp only [Act.put, List.setIfInBounds_toArray, List.set_cons_zero, List.set_cons_succ]
              go_big_quiet_skip
              go_big_quiet_skip
              go_big_quiet_skip
              go_big_quiet_skip
              go_big_quiet_skip
              go_big_quiet_skip
              go_big_quiet_skip
              go_big_quiet_skip
              go_big_quiet_skip
              go_big_quiet_skip
              go_big_quiet_skip
              go_big_quiet_skip
              refine BigFrame.wpQuiet_want rfl (fun K hK => ?_)
              refine quiet_val (.bool false) (fun w' hw' => by go_simp) (hK _ ?_)
              clear hK K
              simp only [Act.put, List.setIfInBounds_toArray, List.set_cons_zero, List.set_cons_succ]
              refine BigFrame.wpQuiet_want rfl (fun K hK => ?_)
              refine quiet_val (.bool false) (fun w' hw' => by go_simp) (hK _ ?_)
              clear hK K
              simp only [Act.put, List.setIfInBounds_toArray, List.set_cons_zero, List.set_cons_succ]
              refine BigFrame.wpQuiet_want rfl (fun K hK => ?_)
              refine quiet_val (.agg #[.int .i64 cx, .int .i64 cy]) (fun w' hw' => by obtain ⟨⟨c0, c1⟩, ⟨c2, c3⟩, ⟨c4, c5⟩, c6, c7⟩ := FourAt.cells (HF.out _ hw'); go_simp) (hK _ ?_)
              clear hK K
              simp only [Act.put, List.setIfInBounds_toArray, List.set_cons_zero, List.set_cons_succ]
              refine BigFrame.wpQuiet_want rfl (fun K hK => ?_)
              refine quiet_val (.agg #[.int .i64 dx, .int .i64 dy]) (fun w' hw' => by obtain ⟨⟨c0, c1⟩, ⟨c2, c3⟩, ⟨c4, c5⟩, c6, c7⟩ := FourAt.cells (HF.out _ hw'); go_simp) (hK _ ?_)
              clear hK K
              simp only [Act.put, List.setIfInBounds_toArray, List.set_cons_zero, List.set_cons_succ]
              refine BigFrame.wpQuiet_want rfl (fun K hK => ?_)
              refine quiet_val (.bool false) (fun w' hw' => by go_simp; exact neq_pt0 HC.out) (hK _ ?_)
              clear hK K
              simp only [Act.put, List.setIfInBounds_toArray, List.set_cons_zero, List.set_cons_succ]
              refine BigFrame.wpQuiet_want rfl (fun K hK => ?_)
              refine quiet_val (.bool false) (fun w' hw' => by go_simp) (hK _ ?_)
              clear hK K
              simp only [Act.put, List.setIfInBounds_toArray, List.set_cons_zero, List.set_cons_succ]
              go_big_quiet_skip
              go_big_quiet_skip
              go_big_quiet_skip
              go_big_quiet_skip
              go_big_quiet_skip
              go_big_quiet_skip
              go_big_quiet_skip
              go_big_quiet_skip
              go_big_quiet_skip
              go_big_quiet_skip
              go_big_quiet_skip
              go_big_quiet_skip
              refine BigFrame.wpQuiet_want rfl (fun K hK => ?_)
              refine quiet_val (.bool false) (fun w' hw' => by go_simp) (hK _ ?_)
              clear hK K
              simp only [Act.put, List.setIfInBounds_toArray, List.set_cons_zero, List.set_cons_succ]
              refine BigFrame.wpQuiet_want rfl (fun K hK => ?_)
              refine quiet_val (.bool false) (fun w' hw' => by go_simp) (hK _ ?_)
              clear hK K
              simp only [Act.put, List.setIfInBounds_toArray, List.set_cons_zero, List.set_cons_succ]
              refine BigFrame.wpQuiet_want rfl (fun K hK => ?_)
              refine quiet_val (.bool false) (fun w' hw' => by go_simp) (hK _ ?_)
              clear hK K
              simp only [Act.put, List.setIfInBounds_toArray, List.set_cons_zero, List.set_cons_succ]
              refine wpQuiet_nil ?_
              intro w' hw'
              have Hw : Hid (Below n w w') := HB.out.trans (hw'.mono HS3.out)
              clear hw'
              go_wp2_with fail
              go_ret
              exact ⟨by rw [← HR2.out]; simp <;> omega, by rw [Hn.out]; exact Hw.out⟩
            · skip
              by_cases q2 : 0 < s2 * s3
              · skip
                refine wp_region_quiet (C := Out W) (by kernel_rfl) (by kernel_rfl) ⟨rfl, rfl, rfl, Nat.le_refl _, fun _ _ => rfl⟩ ?_
                refine BigFrame.wpQuiet_want rfl (fun K hK => ?_)
                refine quiet_val (.agg #[.int .i64 ax, .int .i64 ay]) (fun w' hw' => by obtain ⟨⟨c0, c1⟩, ⟨c2, c3⟩, ⟨c4, c5⟩, c6, c7⟩ := FourAt.cells (HF.out _ hw'); go_simp) (hK _ ?_)
                clear hK K
                simp only [Act.put, List.setIfInBounds_toArray, List.set_cons_zero, List.set_cons_succ]
                refine BigFrame.wpQuiet_want rfl (fun K hK => ?_)
                refine quiet_val (.agg #[.int .i64 bx, .int .i64 bY]) (fun w' hw' => by obtain ⟨⟨c0, c1⟩, ⟨c2, c3⟩, ⟨c4, c5⟩, c6, c7⟩ := FourAt.cells (HF.out _ hw'); go_simp) (hK _ ?_)
                clear hK K
                simp only [Act.put, List.setIfInBounds_toArray, List.set_cons_zero, List.set_cons_succ]
                refine BigFrame.wpQuiet_want rfl (fun K hK => ?_)
                refine quiet_val (.bool false) (fun w' hw' => by go_simp; exact neq_pt0 HA.out) (hK _ ?_)
                clear hK K
                simp only [Act.put, List.setIfInBounds_toArray, List.set_cons_zero, List.set_cons_succ]
                refine BigFrame.wpQuiet_want rfl (fun K hK => ?_)
                refine quiet_val (.bool false) (fun w' hw' => by go_simp) (hK _ ?_)
                clear hK K
                simp only [Act.put, List.setIfInBounds_toArray, List.set_cons_zero, List.set_cons_succ]
                go_big_quiet_skip
                go_big_quiet_skip
                go_big_quiet_skip
                go_big_quiet_skip
                go_big_quiet_skip
                go_big_quiet_skip
                go_big_quiet_skip
                go_big_quiet_skip
                go_big_quiet_skip
                go_big_quiet_skip
                go_big_quiet_skip
                go_big_quiet_skip
                refine BigFrame.wpQuiet_want rfl (fun K hK => ?_)
                refine quiet_val (.bool false) (fun w' hw' => by go_simp) (hK _ ?_)
                clear hK K
                simp only [Act.put, List.setIfInBounds_toArray, List.set_cons_zero, List.set_cons_succ]
                refine BigFrame.wpQuiet_want rfl (fun K hK => ?_)
                refine quiet_val (.bool false) (fun w' hw' => by go_simp) (hK _ ?_)
                clear hK K
                simp only [Act.put, List.setIfInBounds_toArray, List.set_cons_zero, List.set_cons_succ]
                refine BigFrame.wpQuiet_want rfl (fun K hK => ?_)
                refine quiet_val (.agg #[.int .i64 cx, .int .i64 cy]) (fun w' hw' => by obtain ⟨⟨c0, c1⟩, ⟨c2, c3⟩, ⟨c4, c5⟩, c6, c7⟩ := FourAt.cells (HF.out _ hw'); go_simp) (hK _ ?_)
                clear hK K
                simp only [Act.put, List.setIfInBounds_toArray, List.set_cons_zero, List.set_cons_succ]
                refine BigFrame.wpQuiet_want rfl (fun K hK => ?_)
                refine quiet_val (.agg #[.int .i64 dx, .int .i64 dy]) (fun w' hw' => by obtain ⟨⟨c0, c1⟩, ⟨c2, c3⟩, ⟨c4, c5⟩, c6, c7⟩ := FourAt.cells (HF.out _ hw'); go_simp) (hK _ ?_)
                clear hK K
                simp only [Act.put, List.setIfInBounds_toArray, List.set_cons_zero, List.set_cons_succ]
                refine BigFrame.wpQuiet_want rfl (fun K hK => ?_)
                refine quiet_val (.bool true) (fun w' hw' => by go_simp; exact neq_pt1 HC.out) (hK _ ?_)
                clear hK K
                simp only [Act.put, List.setIfInBounds_toArray, List.set_cons_zero, List.set_cons_succ]
                refine BigFrame.wpQuiet_want rfl (fun K hK => ?_)
                refine quiet_val (.bool true) (fun w' hw' => by go_simp) (hK _ ?_)
                clear hK K
                simp only [Act.put, List.setIfInBounds_toArray, List.set_cons_zero, List.set_cons_succ]
                refine BigFrame.wpQuiet_want rfl (fun K hK => ?_)
                refine quiet_val (.func (.func 34) #[] #[]) (fun w' hw' => by go_simp) (hK _ ?_)
                clear hK K
                simp only [Act.put, List.setIfInBounds_toArray, List.set_cons_zero, List.set_cons_succ]
                refine BigFrame.wpQuiet_want rfl (fun K hK => ?_)
                refine quiet_val (.agg #[.int .i64 cx, .int .i64 cy]) (fun w' hw' => by obtain ⟨⟨c0, c1⟩, ⟨c2, c3⟩, ⟨c4, c5⟩, c6, c7⟩ := FourAt.cells (HF.out _ hw'); go_simp) (hK _ ?_)
                clear hK K
                simp only [Act.put, List.setIfInBounds_toArray, List.set_cons_zero, List.set_cons_succ]
                refine BigFrame.wpQuiet_want rfl (fun K hK => ?_)
                refine quiet_val (.agg #[.int .i64 dx, .int .i64 dy]) (fun w' hw' => by obtain ⟨⟨c0, c1⟩, ⟨c2, c3⟩, ⟨c4, c5⟩, c6, c7⟩ := FourAt.cells (HF.out _ hw'); go_simp) (hK _ ?_)
                clear hK K
                simp only [Act.put, List.setIfInBounds_toArray, List.set_cons_zero, List.set_cons_succ]
                refine BigFrame.wpQuiet_want rfl (fun K hK => ?_)
                refine quiet_val (.agg #[.int .i64 ax, .int .i64 ay]) (fun w' hw' => by obtain ⟨⟨c0, c1⟩, ⟨c2, c3⟩, ⟨c4, c5⟩, c6, c7⟩ := FourAt.cells (HF.out _ hw'); go_simp) (hK _ ?_)
                clear hK K
                simp only [Act.put, List.setIfInBounds_toArray, List.set_cons_zero, List.set_cons_succ]
                refine BigFrame.wpQuiet_want rfl (fun K hK => ?_)
                refine quiet_call 34 #[.agg #[.int .i64 cx, .int .i64 cy], .agg #[.int .i64 dx, .int .i64 dy], .agg #[.int .i64 ax, .int .i64 ay]] (.int .i64 s2) (fun w' _ => by go_simp) (fun w' hw' => Calls.out hw' (Hs2.out _)) (hK _ ?_)
                clear hK K
                simp only [Act.put, List.setIfInBounds_toArray, List.set_cons_zero, List.set_cons_succ]
                refine BigFrame.wpQuiet_want rfl (fun K hK => ?_)
                refine quiet_val (.func (.func 34) #[] #[]) (fun w' hw' => by go_simp) (hK _ ?_)
                clear hK K
                simp only [Act.put, List.setIfInBounds_toArray, List.set_cons_zero, List.set_cons_succ]
                refine BigFrame.wpQuiet_want rfl (fun K hK => ?_)
                refine quiet_val (.agg #[.int .i64 cx, .int .i64 cy]) (fun w' hw' => by obtain ⟨⟨c0, c1⟩, ⟨c2, c3⟩, ⟨c4, c5⟩, c6, c7⟩ := FourAt.cells (HF.out _ hw'); go_simp) (hK _ ?_)
                clear hK K
                simp only [Act.put, List.setIfInBounds_toArray, List.set_cons_zero, List.set_cons_succ]
                refine BigFrame.wpQuiet_want rfl (fun K hK => ?_)
                refine quiet_val (.agg #[.int .i64 dx, .int .i64 dy]) (fun w' hw' => by obtain ⟨⟨c0, c1⟩, ⟨c2, c3⟩, ⟨c4, c5⟩, c6, c7⟩ := FourAt.cells (HF.out _ hw'); go_simp) (hK _ ?_)
                clear hK K
                simp only [Act.put, List.setIfInBounds_toArray, List.set_cons_zero, List.set_cons_succ]
                refine BigFrame.wpQuiet_want rfl (fun K hK => ?_)
                refine quiet_val (.agg #[.int .i64 bx, .int .i64 bY]) (fun w' hw' => by obtain ⟨⟨c0, c1⟩, ⟨c2, c3⟩, ⟨c4, c5⟩, c6, c7⟩ := FourAt.cells (HF.out _ hw'); go_simp) (hK _ ?_)
                clear hK K
                simp only [Act.put, List.setIfInBounds_toArray, List.set_cons_zero, List.set_cons_succ]
                refine BigFrame.wpQuiet_want rfl (fun K hK => ?_)
                refine quiet_call 34 #[.agg #[.int .i64 cx, .int .i64 cy], .agg #[.int .i64 dx, .int .i64 dy], .agg #[.int .i64 bx, .int .i64 bY]] (.int .i64 s3) (fun w' _ => by go_simp) (fun w' hw' => Calls.out hw' (Hs3.out _)) (hK _ ?_)
                clear hK K
                simp only [Act.put, List.setIfInBounds_toArray, List.set_cons_zero, List.set_cons_succ]
                refine BigFrame.wpQuiet_want rfl (fun K hK => ?_)
                refine quiet_val (.int .i64 (s2 * s3)) (fun w' hw' => by go_simp) (hK _ ?_)
                clear hK K
                simp only [Act.put, List.setIfInBounds_toArray, List.set_cons_zero, List.set_cons_succ]
                refine BigFrame.wpQuiet_want rfl (fun K hK => ?_)
                refine quiet_val (.bool true) (fun w' hw' => by go_simp) (hK _ ?_)
                clear hK K
                simp only [Act.put, List.setIfInBounds_toArray, List.set_cons_zero, List.set_cons_succ]
                refine BigFrame.wpQuiet_want rfl (fun K hK => ?_)
                refine quiet_val (.bool true) (fun w' hw' => by go_simp) (hK _ ?_)
                clear hK K
                simp only [Act.put, List.setIfInBounds_toArray, List.set_cons_zero, List.set_cons_succ]
                refine BigFrame.wpQuiet_want rfl (fun K hK => ?_)
                refine quiet_val (.bool true) (fun w' hw' => by go_simp) (hK _ ?_)
                clear hK K
                simp only [Act.put, List.setIfInBounds_toArray, List.set_cons_zero, List.set_cons_succ]
                refine BigFrame.wpQuiet_want rfl (fun K hK => ?_)
                refine quiet_val (.bool true) (fun w' hw' => by go_simp) (hK _ ?_)
                clear hK K
                simp only [Act.put, List.setIfInBounds_toArray, List.set_cons_zero, List.set_cons_succ]
                refine wpQuiet_nil ?_
                intro w' hw'
                have Hw : Hid (Below n w w') := HB.out.trans (hw'.mono HS3.out)
                clear hw'
                go_wp2_with fail
                go_ret
                exact ⟨by rw [← HR2.out]; simp <;> omega, by rw [Hn.out]; exact Hw.out⟩
              · skip
                refine wp_region_quiet (C := Out W) (by kernel_rfl) (by kernel_rfl) ⟨rfl, rfl, rfl, Nat.le_refl _, fun _ _ => rfl⟩ ?_
                refine BigFrame.wpQuiet_want rfl (fun K hK => ?_)
                refine quiet_val (.agg #[.int .i64 ax, .int .i64 ay]) (fun w' hw' => by obtain ⟨⟨c0, c1⟩, ⟨c2, c3⟩, ⟨c4, c5⟩, c6, c7⟩ := FourAt.cells (HF.out _ hw'); go_simp) (hK _ ?_)
                clear hK K
                simp only [Act.put, List.setIfInBounds_toArray, List.set_cons_zero, List.set_cons_succ]
                refine BigFrame.wpQuiet_want rfl (fun K hK => ?_)
                refine quiet_val (.agg #[.int .i64 bx, .int .i64 bY]) (fun w' hw' => by obtain ⟨⟨c0, c1⟩, ⟨c2, c3⟩, ⟨c4, c5⟩, c6, c7⟩ := FourAt.cells (HF.out _ hw'); go_simp) (hK _ ?_)
                clear hK K
                simp only [Act.put, List.setIfInBounds_toArray, List.set_cons_zero, List.set_cons_succ]
                refine BigFrame.wpQuiet_want rfl (fun K hK => ?_)
                refine quiet_val (.bool false) (fun w' hw' => by go_simp; exact neq_pt0 HA.out) (hK _ ?_)
                clear hK K
                simp only [Act.put, List.setIfInBounds_toArray, List.set_cons_zero, List.set_cons_succ]
                refine BigFrame.wpQuiet_want rfl (fun K hK => ?_)
                refine quiet_val (.bool false) (fun w' hw' => by go_simp) (hK _ ?_)
                clear hK K
                simp only [Act.put, List.setIfInBounds_toArray, List.set_cons_zero, List.set_cons_succ]
                go_big_quiet_skip
                go_big_quiet_skip
                go_big_quiet_skip
                go_big_quiet_skip
                go_big_quiet_skip
                go_big_quiet_skip
                go_big_quiet_skip
                go_big_quiet_skip
                go_big_quiet_skip
                go_big_quiet_skip
                go_big_quiet_skip
                go_big_quiet_skip
                refine BigFrame.wpQuiet_want rfl (fun K hK => ?_)
                refine quiet_val (.bool false) (fun w' hw' => by go_simp) (hK _ ?_)
                clear hK K
                simp only [Act.put, List.setIfInBounds_toArray, List.set_cons_zero, List.set_cons_succ]
                refine BigFrame.wpQuiet_want rfl (fun K hK => ?_)
                refine quiet_val (.bool false) (fun w' hw' => by go_simp) (hK _ ?_)
                clear hK K
                simp only [Act.put, List.setIfInBounds_toArray, List.set_cons_zero, List.set_cons_succ]
                refine BigFrame.wpQuiet_want rfl (fun K hK => ?_)
                refine quiet_val (.agg #[.int .i64 cx, .int .i64 cy]) (fun w' hw' => by obtain ⟨⟨c0, c1⟩, ⟨c2, c3⟩, ⟨c4, c5⟩, c6, c7⟩ := FourAt.cells (HF.out _ hw'); go_simp) (hK _ ?_)
                clear hK K
                simp only [Act.put, List.setIfInBounds_toArray, List.set_cons_zero, List.set_cons_succ]
                refine BigFrame.wpQuiet_want rfl (fun K hK => ?_)
                refine quiet_val (.agg #[.int .i64 dx, .int .i64 dy]) (fun w' hw' => by obtain ⟨⟨c0, c1⟩, ⟨c2, c3⟩, ⟨c4, c5⟩, c6, c7⟩ := FourAt.cells (HF.out _ hw'); go_simp) (hK _ ?_)
                clear hK K
                simp only [Act.put, List.setIfInBounds_toArray, List.set_cons_zero, List.set_cons_succ]
                refine BigFrame.wpQuiet_want rfl (fun K hK => ?_)
                refine quiet_val (.bool true) (fun w' hw' => by go_simp; exact neq_pt1 HC.out) (hK _ ?_)
                clear hK K
                simp only [Act.put, List.setIfInBounds_toArray, List.set_cons_zero, List.set_cons_succ]
                refine BigFrame.wpQuiet_want rfl (fun K hK => ?_)
                refine quiet_val (.bool true) (fun w' hw' => by go_simp) (hK _ ?_)
                clear hK K
                simp only [Act.put, List.setIfInBounds_toArray, List.set_cons_zero, List.set_cons_succ]
                refine BigFrame.wpQuiet_want rfl (fun K hK => ?_)
                refine quiet_val (.func (.func 34) #[] #[]) (fun w' hw' => by go_simp) (hK _ ?_)
                clear hK K
                simp only [Act.put, List.setIfInBounds_toArray, List.set_cons_zero, List.set_cons_succ]
                refine BigFrame.wpQuiet_want rfl (fun K hK => ?_)
                refine quiet_val (.agg #[.int .i64 cx, .int .i64 cy]) (fun w' hw' => by obtain ⟨⟨c0, c1⟩, ⟨c2, c3⟩, ⟨c4, c5⟩, c6, c7⟩ := FourAt.cells (HF.out _ hw'); go_simp) (hK _ ?_)
                clear hK K
                simp only [Act.put, List.setIfInBounds_toArray, List.set_cons_zero, List.set_cons_succ]
                refine BigFrame.wpQuiet_want rfl (fun K hK => ?_)
                refine quiet_val (.agg #[.int .i64 dx, .int .i64 dy]) (fun w' hw' => by obtain ⟨⟨c0, c1⟩, ⟨c2, c3⟩, ⟨c4, c5⟩, c6, c7⟩ := FourAt.cells (HF.out _ hw'); go_simp) (hK _ ?_)
                clear hK K
                simp only [Act.put, List.setIfInBounds_toArray, List.set_cons_zero, List.set_cons_succ]
                refine BigFrame.wpQuiet_want rfl (fun K hK => ?_)
                refine quiet_val (.agg #[.int .i64 ax, .int .i64 ay]) (fun w' hw' => by obtain ⟨⟨c0, c1⟩, ⟨c2, c3⟩, ⟨c4, c5⟩, c6, c7⟩ := FourAt.cells (HF.out _ hw'); go_simp) (hK _ ?_)
                clear hK K
                simp only [Act.put, List.setIfInBounds_toArray, List.set_cons_zero, List.set_cons_succ]
                refine BigFrame.wpQuiet_want rfl (fun K hK => ?_)
                refine quiet_call 34 #[.agg #[.int .i64 cx, .int .i64 cy], .agg #[.int .i64 dx, .int .i64 dy], .agg #[.int .i64 ax, .int .i64 ay]] (.int .i64 s2) (fun w' _ => by go_simp) (fun w' hw' => Calls.out hw' (Hs2.out _)) (hK _ ?_)
                clear hK K
                simp only [Act.put, List.setIfInBounds_toArray, List.set_cons_zero, List.set_cons_succ]
                refine BigFrame.wpQuiet_want rfl (fun K hK => ?_)
                refine quiet_val (.func (.func 34) #[] #[]) (fun w' hw' => by go_simp) (hK _ ?_)
                clear hK K
                simp only [Act.put, List.setIfInBounds_toArray, List.set_cons_zero, List.set_cons_succ]
                refine BigFrame.wpQuiet_want rfl (fun K hK => ?_)
                refine quiet_val (.agg #[.int .i64 cx, .int .i64 cy]) (fun w' hw' => by obtain ⟨⟨c0, c1⟩, ⟨c2, c3⟩, ⟨c4, c5⟩, c6, c7⟩ := FourAt.cells (HF.out _ hw'); go_simp) (hK _ ?_)
                clear hK K
                simp only [Act.put, List.setIfInBounds_toArray, List.set_cons_zero, List.set_cons_succ]
                refine BigFrame.wpQuiet_want rfl (fun K hK => ?_)
                refine quiet_val (.agg #[.int .i64 dx, .int .i64 dy]) (fun w' hw' => by obtain ⟨⟨c0, c1⟩, ⟨c2, c3⟩, ⟨c4, c5⟩, c6, c7⟩ := FourAt.cells (HF.out _ hw'); go_simp) (hK _ ?_)
                clear hK K
                simp only [Act.put, List.setIfInBounds_toArray, List.set_cons_zero, List.set_cons_succ]
                refine BigFrame.wpQuiet_want rfl (fun K hK => ?_)
                refine quiet_val (.agg #[.int .i64 bx, .int .i64 bY]) (fun w' hw' => by obtain ⟨⟨c0, c1⟩, ⟨c2, c3⟩, ⟨c4, c5⟩, c6, c7⟩ := FourAt.cells (HF.out _ hw'); go_simp) (hK _ ?_)
                clear hK K
                simp only [Act.put, List.setIfInBounds_toArray, List.set_cons_zero, List.set_cons_succ]
                refine BigFrame.wpQuiet_want rfl (fun K hK => ?_)
                refine quiet_call 34 #[.agg #[.int .i64 cx, .int .i64 cy], .agg #[.int .i64 dx, .int .i64 dy], .agg #[.int .i64 bx, .int .i64 bY]] (.int .i64 s3) (fun w' _ => by go_simp) (fun w' hw' => Calls.out hw' (Hs3.out _)) (hK _ ?_)
                clear hK K
                simp only [Act.put, List.setIfInBounds_toArray, List.set_cons_zero, List.set_cons_succ]
                refine BigFrame.wpQuiet_want rfl (fun K hK => ?_)
                refine quiet_val (.int .i64 (s2 * s3)) (fun w' hw' => by go_simp) (hK _ ?_)
                clear hK K
                simp only [Act.put, List.setIfInBounds_toArray, List.set_cons_zero, List.set_cons_succ]
                refine BigFrame.wpQuiet_want rfl (fun K hK => ?_)
                refine quiet_val (.bool false) (fun w' hw' => by go_simp) (hK _ ?_)
                clear hK K
                simp only [Act.put, List.setIfInBounds_toArray, List.set_cons_zero, List.set_cons_succ]
                refine BigFrame.wpQuiet_want rfl (fun K hK => ?_)
                refine quiet_val (.bool false) (fun w' hw' => by go_simp) (hK _ ?_)
                clear hK K
                simp only [Act.put, List.setIfInBounds_toArray, List.set_cons_zero, List.set_cons_succ]
                refine BigFrame.wpQuiet_want rfl (fun K hK => ?_)
                refine quiet_val (.bool false) (fun w' hw' => by go_simp) (hK _ ?_)
                clear hK K
                simp only [Act.put, List.setIfInBounds_toArray, List.set_cons_zero, List.set_cons_succ]
                refine BigFrame.wpQuiet_want rfl (fun K hK => ?_)
                refine quiet_val (.bool false) (fun w' hw' => by go_simp) (hK _ ?_)
                clear hK K
                simp only [Act.put, List.setIfInBounds_toArray, List.set_cons_zero, List.set_cons_succ]
                refine wpQuiet_nil ?_
                intro w' hw'
                have Hw : Hid (Below n w w') := HB.out.trans (hw'.mono HS3.out)
                clear hw'
                go_wp2_with fail
                go_ret
                exact ⟨by rw [← HR2.out]; simp <;> omega, by rw [Hn.out]; exact Hw.out⟩
          · skip
            by_cases q1 : 0 < s0 * s1
            · skip
              refine wp_region_quiet (C := Out W) (by kernel_rfl) (by kernel_rfl) ⟨rfl, rfl, rfl, Nat.le_refl _, fun _ _ => rfl⟩ ?_
              refine BigFrame.wpQuiet_want rfl (fun K hK => ?_)
              refine quiet_val (.agg #[.int .i64 ax, .int .i64 ay]) (fun w' hw' => by obtain ⟨⟨c0, c1⟩, ⟨c2, c3⟩, ⟨c4, c5⟩, c6, c7⟩ := FourAt.cells (HF.out _ hw'); go_simp) (hK _ ?_)
              clear hK K
              simp only [Act.put, List.setIfInBounds_toArray, List.set_cons_zero, List.set_cons_succ]
              refine BigFrame.wpQuiet_want rfl (fun K hK => ?_)
              refine quiet_val (.agg #[.int .i64 bx, .int .i64 bY]) (fun w' hw' => by obtain ⟨⟨c0, c1⟩, ⟨c2, c3⟩, ⟨c4, c5⟩, c6, c7⟩ := FourAt.cells (HF.out _ hw'); go_simp) (hK _ ?_)
              clear hK K
              simp only [Act.put, List.setIfInBounds_toArray, List.set_cons_zero, List.set_cons_succ]
              refine BigFrame.wpQuiet_want rfl (fun K hK => ?_)
              refine quiet_val (.bool true) (fun w' hw' => by go_simp; exact neq_pt1 HA.out) (hK _ ?_)
              clear hK K
              simp only [Act.put, List.setIfInBounds_toArray, List.set_cons_zero, List.set_cons_succ]
              refine BigFrame.wpQuiet_want rfl (fun K hK => ?_)
              refine quiet_val (.bool true) (fun w' hw' => by go_simp) (hK _ ?_)
              clear hK K
              simp only [Act.put, List.setIfInBounds_toArray, List.set_cons_zero, List.set_cons_succ]
              refine BigFrame.wpQuiet_want rfl (fun K hK => ?_)
              refine quiet_val (.func (.func 34) #[] #[]) (fun w' hw' => by go_simp) (hK _ ?_)
              clear hK K
              simp only [Act.put, List.setIfInBounds_toArray, List.set_cons_zero, List.set_cons_succ]
              refine BigFrame.wpQuiet_want rfl (fun K hK => ?_)
              refine quiet_val (.agg #[.int .i64 ax, .int .i64 ay]) (fun w' hw' => by obtain ⟨⟨c0, c1⟩, ⟨c2, c3⟩, ⟨c4, c5⟩, c6, c7⟩ := FourAt.cells (HF.out _ hw'); go_simp) (hK _ ?_)
              clear hK K
              simp only [Act.put, List.setIfInBounds_toArray, List.set_cons_zero, List.set_cons_succ]
              refine BigFrame.wpQuiet_want rfl (fun K hK => ?_)
              refine quiet_val (.agg #[.int .i64 bx, .int .i64 bY]) (fun w' hw' => by obtain ⟨⟨c0, c1⟩, ⟨c2, c3⟩, ⟨c4, c5⟩, c6, c7⟩ := FourAt.cells (HF.out _ hw'); go_simp) (hK _ ?_)
              clear hK K
              simp only [Act.put, List.setIfInBounds_toArray, List.set_cons_zero, List.set_cons_succ]
              refine BigFrame.wpQuiet_want rfl (fun K hK => ?_)
              refine quiet_val (.agg #[.int .i64 cx, .int .i64 cy]) (fun w' hw' => by obtain ⟨⟨c0, c1⟩, ⟨c2, c3⟩, ⟨c4, c5⟩, c6, c7⟩ := FourAt.cells (HF.out _ hw'); go_simp) (hK _ ?_)
              clear hK K
              simp only [Act.put, List.setIfInBounds_toArray, List.set_cons_zero, List.set_cons_succ]
              refine BigFrame.wpQuiet_want rfl (fun K hK => ?_)
              refine quiet_call 34 #[.agg #[.int .i64 ax, .int .i64 ay], .agg #[.int .i64 bx, .int .i64 bY], .agg #[.int .i64 cx, .int .i64 cy]] (.int .i64 s0) (fun w' _ => by go_simp) (fun w' hw' => Calls.out hw' (Hs0.out _)) (hK _ ?_)
              clear hK K
              simp only [Act.put, List.setIfInBounds_toArray, List.set_cons_zero, List.set_cons_succ]
              refine BigFrame.wpQuiet_want rfl (fun K hK => ?_)
              refine quiet_val (.func (.func 34) #[] #[]) (fun w' hw' => by go_simp) (hK _ ?_)
              clear hK K
              simp only [Act.put, List.setIfInBounds_toArray, List.set_cons_zero, List.set_cons_succ]
              refine BigFrame.wpQuiet_want rfl (fun K hK => ?_)
              refine quiet_val (.agg #[.int .i64 ax, .int .i64 ay]) (fun w' hw' => by obtain ⟨⟨c0, c1⟩, ⟨c2, c3⟩, ⟨c4, c5⟩, c6, c7⟩ := FourAt.cells (HF.out _ hw'); go_simp) (hK _ ?_)
              clear hK K
              simp only [Act.put, List.setIfInBounds_toArray, List.set_cons_zero, List.set_cons_succ]
              refine BigFrame.wpQuiet_want rfl (fun K hK => ?_)
              refine quiet_val (.agg #[.int .i64 bx, .int .i64 bY]) (fun w' hw' => by obtain ⟨⟨c0, c1⟩, ⟨c2, c3⟩, ⟨c4, c5⟩, c6, c7⟩ := FourAt.cells (HF.out _ hw'); go_simp) (hK _ ?_)
              clear hK K
              simp only [Act.put, List.setIfInBounds_toArray, List.set_cons_zero, List.set_cons_succ]
              refine BigFrame.wpQuiet_want rfl (fun K hK => ?_)
              refine quiet_val (.agg #[.int .i64 dx, .int .i64 dy]) (fun w' hw' => by obtain ⟨⟨c0, c1⟩, ⟨c2, c3⟩, ⟨c4, c5⟩, c6, c7⟩ := FourAt.cells (HF.out _ hw'); go_simp) (hK _ ?_)
              clear hK K
              simp only [Act.put, List.setIfInBounds_toArray, List.set_cons_zero, List.set_cons_succ]
              refine BigFrame.wpQuiet_want rfl (fun K hK => ?_)
              refine quiet_call 34 #[.agg #[.int .i64 ax, .int .i64 ay], .agg #[.int .i64 bx, .int .i64 bY], .agg #[.int .i64 dx, .int .i64 dy]] (.int .i64 s1) (fun w' _ => by go_simp) (fun w' hw' => Calls.out hw' (Hs1.out _)) (hK _ ?_)
              clear hK K
              simp only [Act.put, List.setIfInBounds_toArray, List.set_cons_zero, List.set_cons_succ]
              refine BigFrame.wpQuiet_want rfl (fun K hK => ?_)
              refine quiet_val (.int .i64 (s0 * s1)) (fun w' hw' => by go_simp) (hK _ ?_)
              clear hK K
              simp only [Act.put, List.setIfInBounds_toArray, List.set_cons_zero, List.set_cons_succ]
              refine BigFrame.wpQuiet_want rfl (fun K hK => ?_)
              refine quiet_val (.bool true) (fun w' hw' => by go_simp) (hK _ ?_)
              clear hK K
              simp only [Act.put, List.setIfInBounds_toArray, List.set_cons_zero, List.set_cons_succ]
              refine BigFrame.wpQuiet_want rfl (fun K hK => ?_)
              refine quiet_val (.bool true) (fun w' hw' => by go_simp) (hK _ ?_)
              clear hK K
              simp only [Act.put, List.setIfInBounds_toArray, List.set_cons_zero, List.set_cons_succ]
              refine BigFrame.wpQuiet_want rfl (fun K hK => ?_)
              refine quiet_val (.bool true) (fun w' hw' => by go_simp) (hK _ ?_)
              clear hK K
              simp only [Act.put, List.setIfInBounds_toArray, List.set_cons_zero, List.set_cons_succ]
              go_big_quiet_skip
              go_big_quiet_skip
              go_big_quiet_skip
              go_big_quiet_skip
              go_big_quiet_skip
              go_big_quiet_skip
              go_big_quiet_skip
              go_big_quiet_skip
              go_big_quiet_skip
              go_big_quiet_skip
              go_big_quiet_skip
              go_big_quiet_skip
              go_big_quiet_skip
              go_big_quiet_skip
              go_big_quiet_skip
              go_big_quiet_skip
              go_big_quiet_skip
              refine BigFrame.wpQuiet_want rfl (fun K hK => ?_)
              refine quiet_val (.bool true) (fun w' hw' => by go_simp) (hK _ ?_)
              clear hK K
              simp only [Act.put, List.setIfInBounds_toArray, List.set_cons_zero, List.set_cons_succ]
              refine BigFrame.wpQuiet_want rfl (fun K hK => ?_)
              refine quiet_val (.bool true) (fun w' hw' => by go_simp) (hK _ ?_)
              clear hK K
              simp only [Act.put, List.setIfInBounds_toArray, List.set_cons_zero, List.set_cons_succ]
              refine wpQuiet_nil ?_
              intro w' hw'
              have Hw : Hid (Below n w w') := HB.out.trans (hw'.mono HS3.out)
              clear hw'
              go_wp2_with fail
              go_ret
              exact ⟨by rw [← HR2.out]; simp <;> omega, by rw [Hn.out]; exact Hw.out⟩
            · skip
              cases C
              · skip
                refine wp_region_quiet (C := Out W) (by kernel_rfl) (by kernel_rfl) ⟨rfl, rfl, rfl, Nat.le_refl _, fun _ _ => rfl⟩ ?_
                refine BigFrame.wpQuiet_want rfl (fun K hK => ?_)
                refine quiet_val (.agg #[.int .i64 ax, .int .i64 ay]) (fun w' hw' => by obtain ⟨⟨c0, c1⟩, ⟨c2, c3⟩, ⟨c4, c5⟩, c6, c7⟩ := FourAt.cells (HF.out _ hw'); go_simp) (hK _ ?_)
                clear hK K
                simp only [Act.put, List.setIfInBounds_toArray, List.set_cons_zero, List.set_cons_succ]
                refine BigFrame.wpQuiet_want rfl (fun K hK => ?_)
                refine quiet_val (.agg #[.int .i64 bx, .int .i64 bY]) (fun w' hw' => by obtain ⟨⟨c0, c1⟩, ⟨c2, c3⟩, ⟨c4, c5⟩, c6, c7⟩ := FourAt.cells (HF.out _ hw'); go_simp) (hK _ ?_)
                clear hK K
                simp only [Act.put, List.setIfInBounds_toArray, List.set_cons_zero, List.set_cons_succ]
                refine BigFrame.wpQuiet_want rfl (fun K hK => ?_)
                refine quiet_val (.bool true) (fun w' hw' => by go_simp; exact neq_pt1 HA.out) (hK _ ?_)
                clear hK K
                simp only [Act.put, List.setIfInBounds_toArray, List.set_cons_zero, List.set_cons_succ]
                refine BigFrame.wpQuiet_want rfl (fun K hK => ?_)
                refine quiet_val (.bool true) (fun w' hw' => by go_simp) (hK _ ?_)
                clear hK K
                simp only [Act.put, List.setIfInBounds_toArray, List.set_cons_zero, List.set_cons_succ]
                refine BigFrame.wpQuiet_want rfl (fun K hK => ?_)
                refine quiet_val (.func (.func 34) #[] #[]) (fun w' hw' => by go_simp) (hK _ ?_)
                clear hK K
                simp only [Act.put, List.setIfInBounds_toArray, List.set_cons_zero, List.set_cons_succ]
                refine BigFrame.wpQuiet_want rfl (fun K hK => ?_)
                refine quiet_val (.agg #[.int .i64 ax, .int .i64 ay]) (fun w' hw' => by obtain ⟨⟨c0, c1⟩, ⟨c2, c3⟩, ⟨c4, c5⟩, c6, c7⟩ := FourAt.cells (HF.out _ hw'); go_simp) (hK _ ?_)
                clear hK K
                simp only [Act.put, List.setIfInBounds_toArray, List.set_cons_zero, List.set_cons_succ]
                refine BigFrame.wpQuiet_want rfl (fun K hK => ?_)
                refine quiet_val (.agg #[.int .i64 bx, .int .i64 bY]) (fun w' hw' => by obtain ⟨⟨c0, c1⟩, ⟨c2, c3⟩, ⟨c4, c5⟩, c6, c7⟩ := FourAt.cells (HF.out _ hw'); go_simp) (hK _ ?_)
                clear hK K
                simp only [Act.put, List.setIfInBounds_toArray, List.set_cons_zero, List.set_cons_succ]
                refine BigFrame.wpQuiet_want rfl (fun K hK => ?_)
                refine quiet_val (.agg #[.int .i64 cx, .int .i64 cy]) (fun w' hw' => by obtain ⟨⟨c0, c1⟩, ⟨c2, c3⟩, ⟨c4, c5⟩, c6, c7⟩ := FourAt.cells (HF.out _ hw'); go_simp) (hK _ ?_)
                clear hK K
                simp only [Act.put, List.setIfInBounds_toArray, List.set_cons_zero, List.set_cons_succ]
                refine BigFrame.wpQuiet_want rfl (fun K hK => ?_)
                refine quiet_call 34 #[.agg #[.int .i64 ax, .int .i64 ay], .agg #[.int .i64 bx, .int .i64 bY], .agg #[.int .i64 cx, .int .i64 cy]] (.int .i64 s0) (fun w' _ => by go_simp) (fun w' hw' => Calls.out hw' (Hs0.out _)) (hK _ ?_)
                clear hK K
                simp only [Act.put, List.setIfInBounds_toArray, List.set_cons_zero, List.set_cons_succ]
                refine BigFrame.wpQuiet_want rfl (fun K hK => ?_)
                refine quiet_val (.func (.func 34) #[] #[]) (fun w' hw' => by go_simp) (hK _ ?_)
                clear hK K
                simp only [Act.put, List.setIfInBounds_toArray, List.set_cons_zero, List.set_cons_succ]
                refine BigFrame.wpQuiet_want rfl (fun K hK => ?_)
                refine quiet_val (.agg #[.int .i64 ax, .int .i64 ay]) (fun w' hw' => by obtain ⟨⟨c0, c1⟩, ⟨c2, c3⟩, ⟨c4, c5⟩, c6, c7⟩ := FourAt.cells (HF.out _ hw'); go_simp) (hK _ ?_)
                clear hK K
                simp only [Act.put, List.setIfInBounds_toArray, List.set_cons_zero, List.set_cons_succ]
                refine BigFrame.wpQuiet_want rfl (fun K hK => ?_)
                refine quiet_val (.agg #[.int .i64 bx, .int .i64 bY]) (fun w' hw' => by obtain ⟨⟨c0, c1⟩, ⟨c2, c3⟩, ⟨c4, c5⟩, c6, c7⟩ := FourAt.cells (HF.out _ hw'); go_simp) (hK _ ?_)
                clear hK K
                simp only [Act.put, List.setIfInBounds_toArray, List.set_cons_zero, List.set_cons_succ]
                refine BigFrame.wpQuiet_want rfl (fun K hK => ?_)
                refine quiet_val (.agg #[.int .i64 dx, .int .i64 dy]) (fun w' hw' => by obtain ⟨⟨c0, c1⟩, ⟨c2, c3⟩, ⟨c4, c5⟩, c6, c7⟩ := FourAt.cells (HF.out _ hw'); go_simp) (hK _ ?_)
                clear hK K
                simp only [Act.put, List.setIfInBounds_toArray, List.set_cons_zero, List.set_cons_succ]
                refine BigFrame.wpQuiet_want rfl (fun K hK => ?_)
                refine quiet_call 34 #[.agg #[.int .i64 ax, .int .i64 ay], .agg #[.int .i64 bx, .int .i64 bY], .agg #[.int .i64 dx, .int .i64 dy]] (.int .i64 s1) (fun w' _ => by go_simp) (fun w' hw' => Calls.out hw' (Hs1.out _)) (hK _ ?_)
                clear hK K
                simp only [Act.put, List.setIfInBounds_toArray, List.set_cons_zero, List.set_cons_succ]
                refine BigFrame.wpQuiet_want rfl (fun K hK => ?_)
                refine quiet_val (.int .i64 (s0 * s1)) (fun w' hw' => by go_simp) (hK _ ?_)
                clear hK K
                simp only [Act.put, List.setIfInBounds_toArray, List.set_cons_zero, List.set_cons_succ]
                refine BigFrame.wpQuiet_want rfl (fun K hK => ?_)
                refine quiet_val (.bool false) (fun w' hw' => by go_simp) (hK _ ?_)
                clear hK K
                simp only [Act.put, List.setIfInBounds_toArray, List.set_cons_zero, List.set_cons_succ]
                refine BigFrame.wpQuiet_want rfl (fun K hK => ?_)
                refine quiet_val (.bool false) (fun w' hw' => by go_simp) (hK _ ?_)
                clear hK K
                simp only [Act.put, List.setIfInBounds_toArray, List.set_cons_zero, List.set_cons_succ]
                refine BigFrame.wpQuiet_want rfl (fun K hK => ?_)
                refine quiet_val (.bool false) (fun w' hw' => by go_simp) (hK _ ?_)
                clear hK K
                simp only [Act.put, List.setIfInBounds_toArray, List.set_cons_zero, List.set_cons_succ]
                refine BigFrame.wpQuiet_want rfl (fun K hK => ?_)
                refine quiet_val (.agg #[.int .i64 cx, .int .i64 cy]) (fun w' hw' => by obtain ⟨⟨c0, c1⟩, ⟨c2, c3⟩, ⟨c4, c5⟩, c6, c7⟩ := FourAt.cells (HF.out _ hw'); go_simp) (hK _ ?_)
                clear hK K
                simp only [Act.put, List.setIfInBounds_toArray, List.set_cons_zero, List.set_cons_succ]
                refine BigFrame.wpQuiet_want rfl (fun K hK => ?_)
                refine quiet_val (.agg #[.int .i64 dx, .int .i64 dy]) (fun w' hw' => by obtain ⟨⟨c0, c1⟩, ⟨c2, c3⟩, ⟨c4, c5⟩, c6, c7⟩ := FourAt.cells (HF.out _ hw'); go_simp) (hK _ ?_)
                clear hK K
                simp only [Act.put, List.setIfInBounds_toArray, List.set_cons_zero, List.set_cons_succ]
                refine BigFrame.wpQuiet_want rfl (fun K hK => ?_)
                refine quiet_val (.bool false) (fun w' hw' => by go_simp; exact neq_pt0 HC.out) (hK _ ?_)
                clear hK K
                simp only [Act.put, List.setIfInBounds_toArray, List.set_cons_zero, List.set_cons_succ]
                refine BigFrame.wpQuiet_want rfl (fun K hK => ?_)
                refine quiet_val (.bool false) (fun w' hw' => by go_simp) (hK _ ?_)
                clear hK K
                simp only [Act.put, List.setIfInBounds_toArray, List.set_cons_zero, List.set_cons_succ]
                go_big_quiet_skip
                go_big_quiet_skip
                go_big_quiet_skip
                go_big_quiet_skip
                go_big_quiet_skip
                go_big_quiet_skip
                go_big_quiet_skip
                go_big_quiet_skip
                go_big_quiet_skip
                go_big_quiet_skip
                go_big_quiet_skip
                go_big_quiet_skip
                refine BigFrame.wpQuiet_want rfl (fun K hK => ?_)
                refine quiet_val (.bool false) (fun w' hw' => by go_simp) (hK _ ?_)
                clear hK K
                simp only [Act.put, List.setIfInBounds_toArray, List.set_cons_zero, List.set_cons_succ]
                refine BigFrame.wpQuiet_want rfl (fun K hK => ?_)
                refine quiet_val (.bool false) (fun w' hw' => by go_simp) (hK _ ?_)
                clear hK K
                simp only [Act.put, List.setIfInBounds_toArray, List.set_cons_zero, List.set_cons_succ]
                refine BigFrame.wpQuiet_want rfl (fun K hK => ?_)
                refine quiet_val (.bool false) (fun w' hw' => by go_simp) (hK _ ?_)
                clear hK K
                simp only [Act.put, List.setIfInBounds_toArray, List.set_cons_zero, List.set_cons_succ]
                refine wpQuiet_nil ?_
                intro w' hw'
                have Hw : Hid (Below n w w') := HB.out.trans (hw'.mono HS3.out)
                clear hw'
                go_wp2_with fail
                go_ret
                exact ⟨by rw [← HR2.out]; simp <;> omega, by rw [Hn.out]; exact Hw.out⟩
              · skip
                by_cases q2 : 0 < s2 * s3
                · skip
                  refine wp_region_quiet (C := Out W) (by kernel_rfl) (by kernel_rfl) ⟨rfl, rfl, rfl, Nat.le_refl _, fun _ _ => rfl⟩ ?_
                  refine BigFrame.wpQuiet_want rfl (fun K hK => ?_)
                  refine quiet_val (.agg #[.int .i64 ax, .int .i64 ay]) (fun w' hw' => by obtain ⟨⟨c0, c1⟩, ⟨c2, c3⟩, ⟨c4, c5⟩, c6, c7⟩ := FourAt.cells (HF.out _ hw'); go_simp) (hK _ ?_)
                  clear hK K
                  simp only [Act.put, List.setIfInBounds_toArray, List.set_cons_zero, List.set_cons_succ]
                  refine BigFrame.wpQuiet_want rfl (fun K hK => ?_)
                  refine quiet_val (.agg #[.int .i64 bx, .int .i64 bY]) (fun w' hw' => by obtain ⟨⟨c0, c1⟩, ⟨c2, c3⟩, ⟨c4, c5⟩, c6, c7⟩ := FourAt.cells (HF.out _ hw'); go_simp) (hK _ ?_)
                  clear hK K
                  simp only [Act.put, List.setIfInBounds_toArray, List.set_cons_zero, List.set_cons_succ]
                  refine BigFrame.wpQuiet_want rfl (fun K hK => ?_)
                  refine quiet_val (.bool true) (fun w' hw' => by go_simp; exact neq_pt1 HA.out) (hK _ ?_)
                  clear hK K
                  simp only [Act.put, List.setIfInBounds_toArray, List.set_cons_zero, List.set_cons_succ]
                  refine BigFrame.wpQuiet_want rfl (fun K hK => ?_)
                  refine quiet_val (.bool true) (fun w' hw' => by go_simp) (hK _ ?_)
                  clear hK K
                  simp only [Act.put, List.setIfInBounds_toArray, List.set_cons_zero, List.set_cons_succ]
                  refine BigFrame.wpQuiet_want rfl (fun K hK => ?_)
                  refine quiet_val (.func (.func 34) #[] #[]) (fun w' hw' => by go_simp) (hK _ ?_)
                  clear hK K
                  simp only [Act.put, List.setIfInBounds_toArray, List.set_cons_zero, List.set_cons_succ]
                  refine BigFrame.wpQuiet_want rfl (fun K hK => ?_)
                  refine quiet_val (.agg #[.int .i64 ax, .int .i64 ay]) (fun w' hw' => by obtain ⟨⟨c0, c1⟩, ⟨c2, c3⟩, ⟨c4, c5⟩, c6, c7⟩ := FourAt.cells (HF.out _ hw'); go_simp) (hK _ ?_)
                  clear hK K
                  simp only [Act.put, List.setIfInBounds_toArray, List.set_cons_zero, List.set_cons_succ]
                  refine BigFrame.wpQuiet_want rfl (fun K hK => ?_)
                  refine quiet_val (.agg #[.int .i64 bx, .int .i64 bY]) (fun w' hw' => by obtain ⟨⟨c0, c1⟩, ⟨c2, c3⟩, ⟨c4, c5⟩, c6, c7⟩ := FourAt.cells (HF.out _ hw'); go_simp) (hK _ ?_)
                  clear hK K
                  simp only [Act.put, List.setIfInBounds_toArray, List.set_cons_zero, List.set_cons_succ]
                  refine BigFrame.wpQuiet_want rfl (fun K hK => ?_)
                  refine quiet_val (.agg #[.int .i64 cx, .int .i64 cy]) (fun w' hw' => by obtain ⟨⟨c0, c1⟩, ⟨c2, c3⟩, ⟨c4, c5⟩, c6, c7⟩ := FourAt.cells (HF.out _ hw'); go_simp) (hK _ ?_)
                  clear hK K
                  simp only [Act.put, List.setIfInBounds_toArray, List.set_cons_zero, List.set_cons_succ]
                  refine BigFrame.wpQuiet_want rfl (fun K hK => ?_)
                  refine quiet_call 34 #[.agg #[.int .i64 ax, .int .i64 ay], .agg #[.int .i64 bx, .int .i64 bY], .agg #[.int .i64 cx, .int .i64 cy]] (.int .i64 s0) (fun w' _ => by go_simp) (fun w' hw' => Calls.out hw' (Hs0.out _)) (hK _ ?_)
                  clear hK K
                  simp only [Act.put, List.setIfInBounds_toArray, List.set_cons_zero, List.set_cons_succ]
                  refine BigFrame.wpQuiet_want rfl (fun K hK => ?_)
                  refine quiet_val (.func (.func 34) #[] #[]) (fun w' hw' => by go_simp) (hK _ ?_)
                  clear hK K
                  simp only [Act.put, List.setIfInBounds_toArray, List.set_cons_zero, List.set_cons_succ]
                  refine BigFrame.wpQuiet_want rfl (fun K hK => ?_)
                  refine quiet_val (.agg #[.int .i64 ax, .int .i64 ay]) (fun w' hw' => by obtain ⟨⟨c0, c1⟩, ⟨c2, c3⟩, ⟨c4, c5⟩, c6, c7⟩ := FourAt.cells (HF.out _ hw'); go_simp) (hK _ ?_)
                  clear hK K
                  simp only [Act.put, List.setIfInBounds_toArray, List.set_cons_zero, List.set_cons_succ]
                  refine BigFrame.wpQuiet_want rfl (fun K hK => ?_)
                  refine quiet_val (.agg #[.int .i64 bx, .int .i64 bY]) (fun w' hw' => by obtain ⟨⟨c0, c1⟩, ⟨c2, c3⟩, ⟨c4, c5⟩, c6, c7⟩ := FourAt.cells (HF.out _ hw'); go_simp) (hK _ ?_)
                  clear hK K
                  simp only [Act.put, List.setIfInBounds_toArray, List.set_cons_zero, List.set_cons_succ]
                  refine BigFrame.wpQuiet_want rfl (fun K hK => ?_)
                  refine quiet_val (.agg #[.int .i64 dx, .int .i64 dy]) (fun w' hw' => by obtain ⟨⟨c0, c1⟩, ⟨c2, c3⟩, ⟨c4, c5⟩, c6, c7⟩ := FourAt.cells (HF.out _ hw'); go_simp) (hK _ ?_)
                  clear hK K
                  simp only [Act.put, List.setIfInBounds_toArray, List.set_cons_zero, List.set_cons_succ]
                  refine BigFrame.wpQuiet_want rfl (fun K hK => ?_)
                  refine quiet_call 34 #[.agg #[.int .i64 ax, .int .i64 ay], .agg #[.int .i64 bx, .int .i64 bY], .agg #[.int .i64 dx, .int .i64 dy]] (.int .i64 s1) (fun w' _ => by go_simp) (fun w' hw' => Calls.out hw' (Hs1.out _)) (hK _ ?_)
                  clear hK K
                  simp only [Act.put, List.setIfInBounds_toArray, List.set_cons_zero, List.set_cons_succ]
                  refine BigFrame.wpQuiet_want rfl (fun K hK => ?_)
                  refine quiet_val (.int .i64 (s0 * s1)) (fun w' hw' => by go_simp) (hK _ ?_)
                  clear hK K
                  simp only [Act.put, List.setIfInBounds_toArray, List.set_cons_zero, List.set_cons_succ]
                  refine BigFrame.wpQuiet_want rfl (fun K hK => ?_)
                  refine quiet_val (.bool false) (fun w' hw' => by go_simp) (hK _ ?_)
                  clear hK K
                  simp only [Act.put, List.setIfInBounds_toArray, List.set_cons_zero, List.set_cons_succ]
                  refine BigFrame.wpQuiet_want rfl (fun K hK => ?_)
                  refine quiet_val (.bool false) (fun w' hw' => by go_simp) (hK _ ?_)
                  clear hK K
                  simp only [Act.put, List.setIfInBounds_toArray, List.set_cons_zero, List.set_cons_succ]
                  refine BigFrame.wpQuiet_want rfl (fun K hK => ?_)
                  refine quiet_val (.bool false) (fun w' hw' => by go_simp) (hK _ ?_)
                  clear hK K
                  simp only [Act.put, List.setIfInBounds_toArray, List.set_cons_zero, List.set_cons_succ]
                  refine BigFrame.wpQuiet_want rfl (fun K hK => ?_)
                  refine quiet_val (.agg #[.int .i64 cx, .int .i64 cy]) (fun w' hw' => by obtain ⟨⟨c0, c1⟩, ⟨c2, c3⟩, ⟨c4, c5⟩, c6, c7⟩ := FourAt.cells (HF.out _ hw'); go_simp) (hK _ ?_)
                  clear hK K
                  simp only [Act.put, List.setIfInBounds_toArray, List.set_cons_zero, List.set_cons_succ]
                  refine BigFrame.wpQuiet_want rfl (fun K hK => ?_)
                  refine quiet_val (.agg #[.int .i64 dx, .int .i64 dy]) (fun w' hw' => by obtain ⟨⟨c0, c1⟩, ⟨c2, c3⟩, ⟨c4, c5⟩, c6, c7⟩ := FourAt.cells (HF.out _ hw'); go_simp) (hK _ ?_)
                  clear hK K
                  simp only [Act.put, List.setIfInBounds_toArray, List.set_cons_zero, List.set_cons_succ]
                  refine BigFrame.wpQuiet_want rfl (fun K hK => ?_)
                  refine quiet_val (.bool true) (fun w' hw' => by go_simp; exact neq_pt1 HC.out) (hK _ ?_)
                  clear hK K
                  simp only [Act.put, List.setIfInBounds_toArray, List.set_cons_zero, List.set_cons_succ]
                  refine BigFrame.wpQuiet_want rfl (fun K hK => ?_)
                  refine quiet_val (.bool true) (fun w' hw' => by go_simp) (hK _ ?_)
                  clear hK K
                  simp only [Act.put, List.setIfInBounds_toArray, List.set_cons_zero, List.set_cons_succ]
                  refine BigFrame.wpQuiet_want rfl (fun K hK => ?_)
                  refine quiet_val (.func (.func 34) #[] #[]) (fun w' hw' => by go_simp) (hK _ ?_)
                  clear hK K
                  simp only [Act.put, List.setIfInBounds_toArray, List.set_cons_zero, List.set_cons_succ]
                  refine BigFrame.wpQuiet_want rfl (fun K hK => ?_)
                  refine quiet_val (.agg #[.int .i64 cx, .int .i64 cy]) (fun w' hw' => by obtain ⟨⟨c0, c1⟩, ⟨c2, c3⟩, ⟨c4, c5⟩, c6, c7⟩ := FourAt.cells (HF.out _ hw'); go_simp) (hK _ ?_)
                  clear hK K
                  simp only [Act.put, List.setIfInBounds_toArray, List.set_cons_zero, List.set_cons_succ]
                  refine BigFrame.wpQuiet_want rfl (fun K hK => ?_)
                  refine quiet_val (.agg #[.int .i64 dx, .int .i64 dy]) (fun w' hw' => by obtain ⟨⟨c0, c1⟩, ⟨c2, c3⟩, ⟨c4, c5⟩, c6, c7⟩ := FourAt.cells (HF.out _ hw'); go_simp) (hK _ ?_)
                  clear hK K
                  simp only [Act.put, List.setIfInBounds_toArray, List.set_cons_zero, List.set_cons_succ]
                  refine BigFrame.wpQuiet_want rfl (fun K hK => ?_)
                  refine quiet_val (.agg #[.int .i64 ax, .int .i64 ay]) (fun w' hw' => by obtain ⟨⟨c0, c1⟩, ⟨c2, c3⟩, ⟨c4, c5⟩, c6, c7⟩ := FourAt.cells (HF.out _ hw'); go_simp) (hK _ ?_)
                  clear hK K
                  simp only [Act.put, List.setIfInBounds_toArray, List.set_cons_zero, List.set_cons_succ]
                  refine BigFrame.wpQuiet_want rfl (fun K hK => ?_)
                  refine quiet_call 34 #[.agg #[.int .i64 cx, .int .i64 cy], .agg #[.int .i64 dx, .int .i64 dy], .agg #[.int .i64 ax, .int .i64 ay]] (.int .i64 s2) (fun w' _ => by go_simp) (fun w' hw' => Calls.out hw' (Hs2.out _)) (hK _ ?_)
                  clear hK K
                  simp only [Act.put, List.setIfInBounds_toArray, List.set_cons_zero, List.set_cons_succ]
                  refine BigFrame.wpQuiet_want rfl (fun K hK => ?_)
                  refine quiet_val (.func (.func 34) #[] #[]) (fun w' hw' => by go_simp) (hK _ ?_)
                  clear hK K
                  simp only [Act.put, List.setIfInBounds_toArray, List.set_cons_zero, List.set_cons_succ]
                  refine BigFrame.wpQuiet_want rfl (fun K hK => ?_)
                  refine quiet_val (.agg #[.int .i64 cx, .int .i64 cy]) (fun w' hw' => by obtain ⟨⟨c0, c1⟩, ⟨c2, c3⟩, ⟨c4, c5⟩, c6, c7⟩ := FourAt.cells (HF.out _ hw'); go_simp) (hK _ ?_)
                  clear hK K
                  simp only [Act.put, List.setIfInBounds_toArray, List.set_cons_zero, List.set_cons_succ]
                  refine BigFrame.wpQuiet_want rfl (fun K hK => ?_)
                  refine quiet_val (.agg #[.int .i64 dx, .int .i64 dy]) (fun w' hw' => by obtain ⟨⟨c0, c1⟩, ⟨c2, c3⟩, ⟨c4, c5⟩, c6, c7⟩ := FourAt.cells (HF.out _ hw'); go_simp) (hK _ ?_)
                  clear hK K
                  simp only [Act.put, List.setIfInBounds_toArray, List.set_cons_zero, List.set_cons_succ]
                  refine BigFrame.wpQuiet_want rfl (fun K hK => ?_)
                  refine quiet_val (.agg #[.int .i64 bx, .int .i64 bY]) (fun w' hw' => by obtain ⟨⟨c0, c1⟩, ⟨c2, c3⟩, ⟨c4, c5⟩, c6, c7⟩ := FourAt.cells (HF.out _ hw'); go_simp) (hK _ ?_)
                  clear hK K
                  simp only [Act.put, List.setIfInBounds_toArray, List.set_cons_zero, List.set_cons_succ]
                  refine BigFrame.wpQuiet_want rfl (fun K hK => ?_)
                  refine quiet_call 34 #[.agg #[.int .i64 cx, .int .i64 cy], .agg #[.int .i64 dx, .int .i64 dy], .agg #[.int .i64 bx, .int .i64 bY]] (.int .i64 s3) (fun w' _ => by go_simp) (fun w' hw' => Calls.out hw' (Hs3.out _)) (hK _ ?_)
                  clear hK K
                  simp only [Act.put, List.setIfInBounds_toArray, List.set_cons_zero, List.set_cons_succ]
                  refine BigFrame.wpQuiet_want rfl (fun K hK => ?_)
                  refine quiet_val (.int .i64 (s2 * s3)) (fun w' hw' => by go_simp) (hK _ ?_)
                  clear hK K
                  simp only [Act.put, List.setIfInBounds_toArray, List.set_cons_zero, List.set_cons_succ]
                  refine BigFrame.wpQuiet_want rfl (fun K hK => ?_)
                  refine quiet_val (.bool true) (fun w' hw' => by go_simp) (hK _ ?_)
                  clear hK K
                  simp only [Act.put, List.setIfInBounds_toArray, List.set_cons_zero, List.set_cons_succ]
                  refine BigFrame.wpQuiet_want rfl (fun K hK => ?_)
                  refine quiet_val (.bool true) (fun w' hw' => by go_simp) (hK _ ?_)
                  clear hK K
                  simp only [Act.put, List.setIfInBounds_toArray, List.set_cons_zero, List.set_cons_succ]
                  refine BigFrame.wpQuiet_want rfl (fun K hK => ?_)
                  refine quiet_val (.bool true) (fun w' hw' => by go_simp) (hK _ ?_)
                  clear hK K
                  simp only [Act.put, List.setIfInBounds_toArray, List.set_cons_zero, List.set_cons_succ]
                  refine BigFrame.wpQuiet_want rfl (fun K hK => ?_)
                  refine quiet_val (.bool true) (fun w' hw' => by go_simp) (hK _ ?_)
                  clear hK K
                  simp only [Act.put, List.setIfInBounds_toArray, List.set_cons_zero, List.set_cons_succ]
                  refine wpQuiet_nil ?_
                  intro w' hw'
                  have Hw : Hid (Below n w w') := HB.out.trans (hw'.mono HS3.out)
                  clear hw'
                  go_wp2_with fail
                  go_ret
                  exact ⟨by rw [← HR2.out]; simp <;> omega, by rw [Hn.out]; exact Hw.out⟩
                · skip
                  refine wp_region_quiet (C := Out W) (by kernel_rfl) (by kernel_rfl) ⟨rfl, rfl, rfl, Nat.le_refl _, fun _ _ => rfl⟩ ?_
                  refine BigFrame.wpQuiet_want rfl (fun K hK => ?_)
                  refine quiet_val (.agg #[.int .i64 ax, .int .i64 ay]) (fun w' hw' => by obtain ⟨⟨c0, c1⟩, ⟨c2, c3⟩, ⟨c4, c5⟩, c6, c7⟩ := FourAt.cells (HF.out _ hw'); go_simp) (hK _ ?_)
                  clear hK K
                  simp only [Act.put, List.setIfInBounds_toArray, List.set_cons_zero, List.set_cons_succ]
                  refine BigFrame.wpQuiet_want rfl (fun K hK => ?_)
                  refine quiet_val (.agg #[.int .i64 bx, .int .i64 bY]) (fun w' hw' => by obtain ⟨⟨c0, c1⟩, ⟨c2, c3⟩, ⟨c4, c5⟩, c6, c7⟩ := FourAt.cells (HF.out _ hw'); go_simp) (hK _ ?_)
                  clear hK K
                  simp only [Act.put, List.setIfInBounds_toArray, List.set_cons_zero, List.set_cons_succ]
                  refine BigFrame.wpQuiet_want rfl (fun K hK => ?_)
                  refine quiet_val (.bool true) (fun w' hw' => by go_simp; exact neq_pt1 HA.out) (hK _ ?_)
                  clear hK K
                  simp only [Act.put, List.setIfInBounds_toArray, List.set_cons_zero, List.set_cons_succ]
                  refine BigFrame.wpQuiet_want rfl (fun K hK => ?_)
                  refine quiet_val (.bool true) (fun w' hw' => by go_simp) (hK _ ?_)
                  clear hK K
                  simp only [Act.put, List.setIfInBounds_toArray, List.set_cons_zero, List.set_cons_succ]
                  refine BigFrame.wpQuiet_want rfl (fun K hK => ?_)
                  refine quiet_val (.func (.func 34) #[] #[]) (fun w' hw' => by go_simp) (hK _ ?_)
                  clear hK K
                  simp only [Act.put, List.setIfInBounds_toArray, List.set_cons_zero, List.set_cons_succ]
                  refine BigFrame.wpQuiet_want rfl (fun K hK => ?_)
                  refine quiet_val (.agg #[.int .i64 ax, .int .i64 ay]) (fun w' hw' => by obtain ⟨⟨c0, c1⟩, ⟨c2, c3⟩, ⟨c4, c5⟩, c6, c7⟩ := FourAt.cells (HF.out _ hw'); go_simp) (hK _ ?_)
                  clear hK K
                  simp only [Act.put, List.setIfInBounds_toArray, List.set_cons_zero, List.set_cons_succ]
                  refine BigFrame.wpQuiet_want rfl (fun K hK => ?_)
                  refine quiet_val (.agg #[.int .i64 bx, .int .i64 bY]) (fun w' hw' => by obtain ⟨⟨c0, c1⟩, ⟨c2, c3⟩, ⟨c4, c5⟩, c6, c7⟩ := FourAt.cells (HF.out _ hw'); go_simp) (hK _ ?_)
                  clear hK K
                  simp only [Act.put, List.setIfInBounds_toArray, List.set_cons_zero, List.set_cons_succ]
                  refine BigFrame.wpQuiet_want rfl (fun K hK => ?_)
                  refine quiet_val (.agg #[.int .i64 cx, .int .i64 cy]) (fun w' hw' => by obtain ⟨⟨c0, c1⟩, ⟨c2, c3⟩, ⟨c4, c5⟩, c6, c7⟩ := FourAt.cells (HF.out _ hw'); go_simp) (hK _ ?_)
                  clear hK K
                  simp only [Act.put, List.setIfInBounds_toArray, List.set_cons_zero, List.set_cons_succ]
                  refine BigFrame.wpQuiet_want rfl (fun K hK => ?_)
                  refine quiet_call 34 #[.agg #[.int .i64 ax, .int .i64 ay], .agg #[.int .i64 bx, .int .i64 bY], .agg #[.int .i64 cx, .int .i64 cy]] (.int .i64 s0) (fun w' _ => by go_simp) (fun w' hw' => Calls.out hw' (Hs0.out _)) (hK _ ?_)
                  clear hK K
                  simp only [Act.put, List.setIfInBounds_toArray, List.set_cons_zero, List.set_cons_succ]
                  refine BigFrame.wpQuiet_want rfl (fun K hK => ?_)
                  refine quiet_val (.func (.func 34) #[] #[]) (fun w' hw' => by go_simp) (hK _ ?_)
                  clear hK K
                  simp only [Act.put, List.setIfInBounds_toArray, List.set_cons_zero, List.set_cons_succ]
                  refine BigFrame.wpQuiet_want rfl (fun K hK => ?_)
                  refine quiet_val (.agg #[.int .i64 ax, .int .i64 ay]) (fun w' hw' => by obtain ⟨⟨c0, c1⟩, ⟨c2, c3⟩, ⟨c4, c5⟩, c6, c7⟩ := FourAt.cells (HF.out _ hw'); go_simp) (hK _ ?_)
                  clear hK K
                  simp only [Act.put, List.setIfInBounds_toArray, List.set_cons_zero, List.set_cons_succ]
                  refine BigFrame.wpQuiet_want rfl (fun K hK => ?_)
                  refine quiet_val (.agg #[.int .i64 bx, .int .i64 bY]) (fun w' hw' => by obtain ⟨⟨c0, c1⟩, ⟨c2, c3⟩, ⟨c4, c5⟩, c6, c7⟩ := FourAt.cells (HF.out _ hw'); go_simp) (hK _ ?_)
                  clear hK K
                  simp only [Act.put, List.setIfInBounds_toArray, List.set_cons_zero, List.set_cons_succ]
                  refine BigFrame.wpQuiet_want rfl (fun K hK => ?_)
                  refine quiet_val (.agg #[.int .i64 dx, .int .i64 dy]) (fun w' hw' => by obtain ⟨⟨c0, c1⟩, ⟨c2, c3⟩, ⟨c4, c5⟩, c6, c7⟩ := FourAt.cells (HF.out _ hw'); go_simp) (hK _ ?_)
                  clear hK K
                  simp only [Act.put, List.setIfInBounds_toArray, List.set_cons_zero, List.set_cons_succ]
                  refine BigFrame.wpQuiet_want rfl (fun K hK => ?_)
                  refine quiet_call 34 #[.agg #[.int .i64 ax, .int .i64 ay], .agg #[.int .i64 bx, .int .i64 bY], .agg #[.int .i64 dx, .int .i64 dy]] (.int .i64 s1) (fun w' _ => by go_simp) (fun w' hw' => Calls.out hw' (Hs1.out _)) (hK _ ?_)
                  clear hK K
                  simp only [Act.put, List.setIfInBounds_toArray, List.set_cons_zero, List.set_cons_succ]
                  refine BigFrame.wpQuiet_want rfl (fun K hK => ?_)
                  refine quiet_val (.int .i64 (s0 * s1)) (fun w' hw' => by go_simp) (hK _ ?_)
                  clear hK K
                  simp only [Act.put, List.setIfInBounds_toArray, List.set_cons_zero, List.set_cons_succ]
                  refine BigFrame.wpQuiet_want rfl (fun K hK => ?_)
                  refine quiet_val (.bool false) (fun w' hw' => by go_simp) (hK _ ?_)
                  clear hK K
                  simp only [Act.put, List.setIfInBounds_toArray, List.set_cons_zero, List.set_cons_succ]
                  refine BigFrame.wpQuiet_want rfl (fun K hK => ?_)
                  refine quiet_val (.bool false) (fun w' hw' => by go_simp) (hK _ ?_)
                  clear hK K
                  simp only [Act.put, List.setIfInBounds_toArray, List.set_cons_zero, List.set_cons_succ]
                  refine BigFrame.wpQuiet_want rfl (fun K hK => ?_)
                  refine quiet_val (.bool false) (fun w' hw' => by go_simp) (hK _ ?_)
                  clear hK K
                  simp only [Act.put, List.setIfInBounds_toArray, List.set_cons_zero, List.set_cons_succ]
                  refine BigFrame.wpQuiet_want rfl (fun K hK => ?_)
                  refine quiet_val (.agg #[.int .i64 cx, .int .i64 cy]) (fun w' hw' => by obtain ⟨⟨c0, c1⟩, ⟨c2, c3⟩, ⟨c4, c5⟩, c6, c7⟩ := FourAt.cells (HF.out _ hw'); go_simp) (hK _ ?_)
                  clear hK K
                  simp only [Act.put, List.setIfInBounds_toArray, List.set_cons_zero, List.set_cons_succ]
                  refine BigFrame.wpQuiet_want rfl (fun K hK => ?_)
                  refine quiet_val (.agg #[.int .i64 dx, .int .i64 dy]) (fun w' hw' => by obtain ⟨⟨c0, c1⟩, ⟨c2, c3⟩, ⟨c4, c5⟩, c6, c7⟩ := FourAt.cells (HF.out _ hw'); go_simp) (hK _ ?_)
                  clear hK K
                  simp only [Act.put, List.setIfInBounds_toArray, List.set_cons_zero, List.set_cons_succ]
                  refine BigFrame.wpQuiet_want rfl (fun K hK => ?_)
                  refine quiet_val (.bool true) (fun w' hw' => by go_simp; exact neq_pt1 HC.out) (hK _ ?_)
                  clear hK K
                  simp only [Act.put, List.setIfInBounds_toArray, List.set_cons_zero, List.set_cons_succ]
                  refine BigFrame.wpQuiet_want rfl (fun K hK => ?_)
                  refine quiet_val (.bool true) (fun w' hw' => by go_simp) (hK _ ?_)
                  clear hK K
                  simp only [Act.put, List.setIfInBounds_toArray, List.set_cons_zero, List.set_cons_succ]
                  refine BigFrame.wpQuiet_want rfl (fun K hK => ?_)
                  refine quiet_val (.func (.func 34) #[] #[]) (fun w' hw' => by go_simp) (hK _ ?_)
                  clear hK K
                  simp only [Act.put, List.setIfInBounds_toArray, List.set_cons_zero, List.set_cons_succ]
                  refine BigFrame.wpQuiet_want rfl (fun K hK => ?_)
                  refine quiet_val (.agg #[.int .i64 cx, .int .i64 cy]) (fun w' hw' => by obtain ⟨⟨c0, c1⟩, ⟨c2, c3⟩, ⟨c4, c5⟩, c6, c7⟩ := FourAt.cells (HF.out _ hw'); go_simp) (hK _ ?_)
                  clear hK K
                  simp only [Act.put, List.setIfInBounds_toArray, List.set_cons_zero, List.set_cons_succ]
                  refine BigFrame.wpQuiet_want rfl (fun K hK => ?_)
                  refine quiet_val (.agg #[.int .i64 dx, .int .i64 dy]) (fun w' hw' => by obtain ⟨⟨c0, c1⟩, ⟨c2, c3⟩, ⟨c4, c5⟩, c6, c7⟩ := FourAt.cells (HF.out _ hw'); go_simp) (hK _ ?_)
                  clear hK K
                  simp only [Act.put, List.setIfInBounds_toArray, List.set_cons_zero, List.set_cons_succ]
                  refine BigFrame.wpQuiet_want rfl (fun K hK => ?_)
                  refine quiet_val (.agg #[.int .i64 ax, .int .i64 ay]) (fun w' hw' => by obtain ⟨⟨c0, c1⟩, ⟨c2, c3⟩, ⟨c4, c5⟩, c6, c7⟩ := FourAt.cells (HF.out _ hw'); go_simp) (hK _ ?_)
                  clear hK K
                  simp only [Act.put, List.setIfInBounds_toArray, List.set_cons_zero, List.set_cons_succ]
                  refine BigFrame.wpQuiet_want rfl (fun K hK => ?_)
                  refine quiet_call 34 #[.agg #[.int .i64 cx, .int .i64 cy], .agg #[.int .i64 dx, .int .i64 dy], .agg #[.int .i64 ax, .int .i64 ay]] (.int .i64 s2) (fun w' _ => by go_simp) (fun w' hw' => Calls.out hw' (Hs2.out _)) (hK _ ?_)
                  clear hK K
                  simp only [Act.put, List.setIfInBounds_toArray, List.set_cons_zero, List.set_cons_succ]
                  refine BigFrame.wpQuiet_want rfl (fun K hK => ?_)
                  refine quiet_val (.func (.func 34) #[] #[]) (fun w' hw' => by go_simp) (hK _ ?_)
                  clear hK K
                  simp only [Act.put, List.setIfInBounds_toArray, List.set_cons_zero, List.set_cons_succ]
                  refine BigFrame.wpQuiet_want rfl (fun K hK => ?_)
                  refine quiet_val (.agg #[.int .i64 cx, .int .i64 cy]) (fun w' hw' => by obtain ⟨⟨c0, c1⟩, ⟨c2, c3⟩, ⟨c4, c5⟩, c6, c7⟩ := FourAt.cells (HF.out _ hw'); go_simp) (hK _ ?_)
                  clear hK K
                  simp only [Act.put, List.setIfInBounds_toArray, List.set_cons_zero, List.set_cons_succ]
                  refine BigFrame.wpQuiet_want rfl (fun K hK => ?_)
                  refine quiet_val (.agg #[.int .i64 dx, .int .i64 dy]) (fun w' hw' => by obtain ⟨⟨c0, c1⟩, ⟨c2, c3⟩, ⟨c4, c5⟩, c6, c7⟩ := FourAt.cells (HF.out _ hw'); go_simp) (hK _ ?_)
                  clear hK K
                  simp only [Act.put, List.setIfInBounds_toArray, List.set_cons_zero, List.set_cons_succ]
                  refine BigFrame.wpQuiet_want rfl (fun K hK => ?_)
                  refine quiet_val (.agg #[.int .i64 bx, .int .i64 bY]) (fun w' hw' => by obtain ⟨⟨c0, c1⟩, ⟨c2, c3⟩, ⟨c4, c5⟩, c6, c7⟩ := FourAt.cells (HF.out _ hw'); go_simp) (hK _ ?_)
                  clear hK K
                  simp only [Act.put, List.setIfInBounds_toArray, List.set_cons_zero, List.set_cons_succ]
                  refine BigFrame.wpQuiet_want rfl (fun K hK => ?_)
                  refine quiet_call 34 #[.agg #[.int .i64 cx, .int .i64 cy], .agg #[.int .i64 dx, .int .i64 dy], .agg #[.int .i64 bx, .int .i64 bY]] (.int .i64 s3) (fun w' _ => by go_simp) (fun w' hw' => Calls.out hw' (Hs3.out _)) (hK _ ?_)
                  clear hK K
                  simp only [Act.put, List.setIfInBounds_toArray, List.set_cons_zero, List.set_cons_succ]
                  refine BigFrame.wpQuiet_want rfl (fun K hK => ?_)
                  refine quiet_val (.int .i64 (s2 * s3)) (fun w' hw' => by go_simp) (hK _ ?_)
                  clear hK K
                  simp only [Act.put, List.setIfInBounds_toArray, List.set_cons_zero, List.set_cons_succ]
                  refine BigFrame.wpQuiet_want rfl (fun K hK => ?_)
                  refine quiet_val (.bool false) (fun w' hw' => by go_simp) (hK _ ?_)
                  clear hK K
                  simp only [Act.put, List.setIfInBounds_toArray, List.set_cons_zero, List.set_cons_succ]
                  refine BigFrame.wpQuiet_want rfl (fun K hK => ?_)
                  refine quiet_val (.bool false) (fun w' hw' => by go_simp) (hK _ ?_)
                  clear hK K
                  simp only [Act.put, List.setIfInBounds_toArray, List.set_cons_zero, List.set_cons_succ]
                  refine BigFrame.wpQuiet_want rfl (fun K hK => ?_)
                  refine quiet_val (.bool false) (fun w' hw' => by go_simp) (hK _ ?_)
                  clear hK K
                  simp only [Act.put, List.setIfInBounds_toArray, List.set_cons_zero, List.set_cons_succ]
                  refine BigFrame.wpQuiet_want rfl (fun K hK => ?_)
                  refine quiet_val (.bool false) (fun w' hw' => by go_simp) (hK _ ?_)
                  clear hK K
                  simp only [Act.put, List.setIfInBounds_toArray, List.set_cons_zero, List.set_cons_succ]
                  refine wpQuiet_nil ?_
                  intro w' hw'
                  have Hw : Hid (Below n w w') := HB.out.trans (hw'.mono HS3.out)
                  clear hw'
                  go_wp2_with fail
                  go_ret
                  exact ⟨by rw [← HR2.out]; simp <;> omega, by rw [Hn.out]; exact Hw.out⟩
def partedI (a b c d : Pt) : Bool := boxesApart a b c d || (!(a.1 == b.1 && a.2 == b.2) && decide (0 < sideI a.1 a.2 b.1 b.2 c.1 c.2 * sideI a.1 a.2 b.1 b.2 d.1 d.2) || !(c.1 == d.1 && c.2 == d.2) && decide (0 < sideI c.1 c.2 d.1 d.2 a.1 a.2 * sideI c.1 c.2 d.1 d.2 b.1 b.2))
theorem parted_c (ax ay bx bY cx cy dx dy : Int) (w : World) (h : room ax = true ∧ room ay = true ∧ room bx = true ∧ room bY = true ∧ room cx = true ∧ room cy = true ∧ room dx = true ∧ room dy = true) :
    Calls Try.prog 18 #[.agg #[.int .i64 ax, .int .i64 ay], .agg #[.int .i64 bx, .int .i64 bY], .agg #[.int .i64 cx, .int .i64 cy], .agg #[.int .i64 dx, .int .i64 dy]] w fun e w' => e = .returned (.bool (partedI (ax, ay) (bx, bY) (cx, cy) (dx, dy))) ∧ Below w.heap.size w w' := by
  obtain ⟨h1, h2, h3, h4, h5, h6, h7, h8⟩ := h
  exact parted_walk ax ay bx bY cx cy dx dy _ _ _ _ _ _ w (by simp) (by simp) (Lib.hid fun w => pside_c _ _ _ _ _ _ w ⟨h1, h2, h3, h4, h5, h6⟩) (Lib.hid fun w => pside_c _ _ _ _ _ _ w ⟨h1, h2, h3, h4, h7, h8⟩) (Lib.hid fun w => pside_c _ _ _ _ _ _ w ⟨h5, h6, h7, h8, h1, h2⟩) (Lib.hid fun w => pside_c _ _ _ _ _ _ w ⟨h5, h6, h7, h8, h3, h4⟩)
    (sign_prod (side_bound _ _ _ _ _ _) (side_bound _ _ _ _ _ _)) (sign_prod (side_bound _ _ _ _ _ _) (side_bound _ _ _ _ _ _))
end Go.Proofs.Ytbllbncmeihaaaa
