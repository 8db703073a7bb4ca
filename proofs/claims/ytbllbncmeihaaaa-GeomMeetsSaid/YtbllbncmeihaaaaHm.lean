/- geom.Meets. -/
import Derived.Test.YtbllbncmeihaaaaHl
import Derived.Test.YtbllbncmeihaaaaHd
namespace Go.Proofs.Ytbllbncmeihaaaa
open Go.RowKit
set_option maxHeartbeats 2000000 in
set_option maxRecDepth 100000 in
theorem meets_walk (ax ay bx bY cx cy dx dy s0 s1 s2 s3 : Int) (p q m : Bx) (em : Bool) (w : World)
    (HP : Hid (∀ s w, Row w s [(ax, ay), (bx, bY)] → Calls Try.prog 25 #[s] w fun e w' => e = .returned (.agg (four p)) ∧ Below w.heap.size w w'))
    (HQ : Hid (∀ s w, Row w s [(cx, cy), (dx, dy)] → Calls Try.prog 25 #[s] w fun e w' => e = .returned (.agg (four q)) ∧ Below w.heap.size w w'))
    (HM : Hid (∀ w, Calls Try.prog 19 #[.agg #[.int .i64 p.x0, .int .i64 p.y0, .int .i64 p.x1, .int .i64 p.y1], .agg #[.int .i64 q.x0, .int .i64 q.y0, .int .i64 q.x1, .int .i64 q.y1]] w fun e w' => e = .returned (.agg (four m)) ∧ Below w.heap.size w w'))
    (HE : Hid (∀ w, Calls Try.prog 24 #[.agg #[.int .i64 m.x0, .int .i64 m.y0, .int .i64 m.x1, .int .i64 m.y1]] w fun e w' => e = .returned (.bool em) ∧ Below w.heap.size w w'))
    (HS : Hid (∀ w, Calls Try.prog 33 #[.agg #[.int .i64 ax, .int .i64 ay], .agg #[.int .i64 bx, .int .i64 bY], .agg #[.int .i64 cx, .int .i64 cy], .agg #[.int .i64 dx, .int .i64 dy]] w fun e w' => e = .returned (.agg (ints4 s0 s1 s2 s3)) ∧ Below w.heap.size w w'))
    (hp : -1 ≤ s0 * s1 ∧ s0 * s1 ≤ 1) (hq : -1 ≤ s2 * s3 ∧ s2 * s3 ≤ 1) :
    Calls Try.prog 17 #[.agg #[.int .i64 ax, .int .i64 ay], .agg #[.int .i64 bx, .int .i64 bY], .agg #[.int .i64 cx, .int .i64 cy], .agg #[.int .i64 dx, .int .i64 dy]] w fun e w' => e = .returned (.bool (!em && (decide (s0 * s1 ≤ 0) && decide (s2 * s3 ≤ 0)))) ∧ Below w.heap.size w w' := by
  obtain ⟨r, hr⟩ : ∃ r, (!em && (decide (s0 * s1 ≤ 0) && decide (s2 * s3 ≤ 0))) = r := ⟨_, rfl⟩
  rw [hr]
  have HR := Lib.hid hr
  clear hr
  go_enter Try.func17, Try.ntmps17
  go_wp2_with fail
  obtain ⟨W, hW⟩ : ∃ W, (((w.alloc (.cells (two (ax, ay)) 23)).alloc (.cells (two (bx, bY)) 23)).alloc (.cells (two (cx, cy)) 23)).alloc (.cells (two (dx, dy)) 23) = W := ⟨_, rfl⟩
  obtain ⟨hF, hB, hs⟩ := four_pts w _ _ _ _ W hW
  have hW' : (((w.alloc (.cells #[.int .i64 ax, .int .i64 ay] 23)).alloc (.cells #[.int .i64 bx, .int .i64 bY] 23)).alloc (.cells #[.int .i64 cx, .int .i64 cy] 23)).alloc (.cells #[.int .i64 dx, .int .i64 dy] 23) = W := hW
  rw [hW']
  clear hW hW'
  obtain ⟨n, hn⟩ : ∃ n, w.heap.size = n := ⟨_, rfl⟩
  simp only [hn] at hF hB hs ⊢
  have HF : Hid (∀ w', Below W.heap.size W w' → FourAt w' n (ax, ay) (bx, bY) (cx, cy) (dx, dy)) := fun w' h => hF.on h (by omega)
  have HB := Lib.hid hB; have Hn := Lib.hid hn
  clear hF hB hn
  refine wp_region_put (by kernel_rfl) (by kernel_rfl) (by kernel_rfl) (fun b' vs w' => (b' 0 = true → vs 0 = .agg #[.int .i64 ax, .int .i64 ay]) ∧ (b' 1 = true → vs 1 = .agg #[.int .i64 bx, .int .i64 bY]) ∧ (b' 3 = true → vs 3 = .agg #[.int .i64 p.x0, .int .i64 p.y0, .int .i64 p.x1, .int .i64 p.y1]) ∧ (b' 4 = true → vs 4 = .agg #[.int .i64 cx, .int .i64 cy]) ∧ (b' 5 = true → vs 5 = .agg #[.int .i64 dx, .int .i64 dy]) ∧ (b' 7 = true → vs 7 = .agg #[.int .i64 q.x0, .int .i64 q.y0, .int .i64 q.x1, .int .i64 q.y1]) ∧ (b' 8 = true → vs 8 = .agg #[.int .i64 m.x0, .int .i64 m.y0, .int .i64 m.x1, .int .i64 m.y1]) ∧ (b' 9 = true → vs 9 = .bool em) ∧ Hid (RowM W [⟨2, [(ax, ay), (bx, bY)]⟩, ⟨6, [(cx, cy), (dx, dy)]⟩] b' vs w')) ?_ ?_ ?_
  · intro vs
    exact ⟨fun h => Bool.noConfusion h, fun h => Bool.noConfusion h, fun h => Bool.noConfusion h, fun h => Bool.noConfusion h, fun h => Bool.noConfusion h, fun h => Bool.noConfusion h, fun h => Bool.noConfusion h, fun h => Bool.noConfusion h, RowM.start vs⟩
  · rintro b' vs w' i op hi hun hall ⟨h0, h1, h3, h4, h5, h7, h8, h9, hM⟩
    have hil : i < 10 := (List.getElem?_eq_some_iff.1 hi).1
    have hbelow := RowM.below hM.out
    rcases i with _ | _ | _ | _ | _ | _ | _ | _ | _ | _ | i
    · obtain rfl := Option.some.inj hi
      obtain ⟨⟨c0, c1⟩, ⟨c2, c3⟩, ⟨c4, c5⟩, c6, c7⟩ := FourAt.cells (HF.out _ hbelow)
      refine wpOp_step rfl (fun K hK => ?_)
      have HKK := Lib.hid hK; clear hK
      simp only [putAll, Act.put, List.setIfInBounds_toArray, List.set_cons_zero, List.set_cons_succ]
      go_simp
      exact HKK.out _ _ ⟨_, by simp only [putAll, Act.put, List.setIfInBounds_toArray, List.set_cons_zero, List.set_cons_succ] <;> rfl, fun _ => rfl, h1, h3, h4, h5, h7, h8, h9, RowM.other hM.out 0 _ rfl⟩
    · obtain rfl := Option.some.inj hi
      obtain ⟨⟨c0, c1⟩, ⟨c2, c3⟩, ⟨c4, c5⟩, c6, c7⟩ := FourAt.cells (HF.out _ hbelow)
      refine wpOp_step rfl (fun K hK => ?_)
      have HKK := Lib.hid hK; clear hK
      simp only [putAll, Act.put, List.setIfInBounds_toArray, List.set_cons_zero, List.set_cons_succ]
      go_simp
      exact HKK.out _ _ ⟨_, by simp only [putAll, Act.put, List.setIfInBounds_toArray, List.set_cons_zero, List.set_cons_succ] <;> rfl, h0, fun _ => rfl, h3, h4, h5, h7, h8, h9, RowM.other hM.out 1 _ rfl⟩
    · obtain rfl := Option.some.inj hi
      have d0 := h0 (hall ⟨0, .data⟩ (by simp) rfl)
      have d1 := h1 (hall ⟨1, .data⟩ (by simp) rfl)
      refine wpOp_step rfl (fun K hK => ?_)
      have HKK := Lib.hid hK; clear hK
      simp only [putAll, Act.put, List.setIfInBounds_toArray, List.set_cons_zero, List.set_cons_succ]
      go_simp
      exact HKK.out _ _ ⟨_, by simp only [putAll, Act.put, List.setIfInBounds_toArray, List.set_cons_zero, List.set_cons_succ, d0, d1] <;> rfl, h0, h1, h3, h4, h5, h7, h8, h9, RowM.made hM.out rfl ⟨2, [(ax, ay), (bx, bY)]⟩ (by simp) rfl rfl⟩
    · obtain rfl := Option.some.inj hi
      have rw := RowM.at hM.out ⟨2, [(ax, ay), (bx, bY)]⟩ (by simp) (hall ⟨2, .data⟩ (by simp) rfl)
      refine wpOp_step rfl (fun K hK => ?_)
      have HKK := Lib.hid hK; clear hK
      simp only [putAll, Act.put, List.setIfInBounds_toArray, List.set_cons_zero, List.set_cons_succ]
      go_simp
      refine (HP.out _ _ rw).mono ?_
      rintro e w2 ⟨rfl, hb2⟩
      exact HKK.out _ _ ⟨_, by simp only [putAll, Act.put, List.setIfInBounds_toArray, List.set_cons_zero, List.set_cons_succ] <;> rfl, h0, h1, fun _ => rfl, h4, h5, h7, h8, h9, (RowM.other hM.out 3 _ rfl).grow hb2⟩
    · obtain rfl := Option.some.inj hi
      obtain ⟨⟨c0, c1⟩, ⟨c2, c3⟩, ⟨c4, c5⟩, c6, c7⟩ := FourAt.cells (HF.out _ hbelow)
      refine wpOp_step rfl (fun K hK => ?_)
      have HKK := Lib.hid hK; clear hK
      simp only [putAll, Act.put, List.setIfInBounds_toArray, List.set_cons_zero, List.set_cons_succ]
      go_simp
      exact HKK.out _ _ ⟨_, by simp only [putAll, Act.put, List.setIfInBounds_toArray, List.set_cons_zero, List.set_cons_succ] <;> rfl, h0, h1, h3, fun _ => rfl, h5, h7, h8, h9, RowM.other hM.out 4 _ rfl⟩
    · obtain rfl := Option.some.inj hi
      obtain ⟨⟨c0, c1⟩, ⟨c2, c3⟩, ⟨c4, c5⟩, c6, c7⟩ := FourAt.cells (HF.out _ hbelow)
      refine wpOp_step rfl (fun K hK => ?_)
      have HKK := Lib.hid hK; clear hK
      simp only [putAll, Act.put, List.setIfInBounds_toArray, List.set_cons_zero, List.set_cons_succ]
      go_simp
      exact HKK.out _ _ ⟨_, by simp only [putAll, Act.put, List.setIfInBounds_toArray, List.set_cons_zero, List.set_cons_succ] <;> rfl, h0, h1, h3, h4, fun _ => rfl, h7, h8, h9, RowM.other hM.out 5 _ rfl⟩
    · obtain rfl := Option.some.inj hi
      have d4 := h4 (hall ⟨4, .data⟩ (by simp) rfl)
      have d5 := h5 (hall ⟨5, .data⟩ (by simp) rfl)
      refine wpOp_step rfl (fun K hK => ?_)
      have HKK := Lib.hid hK; clear hK
      simp only [putAll, Act.put, List.setIfInBounds_toArray, List.set_cons_zero, List.set_cons_succ]
      go_simp
      exact HKK.out _ _ ⟨_, by simp only [putAll, Act.put, List.setIfInBounds_toArray, List.set_cons_zero, List.set_cons_succ, d4, d5] <;> rfl, h0, h1, h3, h4, h5, h7, h8, h9, RowM.made hM.out rfl ⟨6, [(cx, cy), (dx, dy)]⟩ (by simp) rfl rfl⟩
    · obtain rfl := Option.some.inj hi
      have rw := RowM.at hM.out ⟨6, [(cx, cy), (dx, dy)]⟩ (by simp) (hall ⟨6, .data⟩ (by simp) rfl)
      refine wpOp_step rfl (fun K hK => ?_)
      have HKK := Lib.hid hK; clear hK
      simp only [putAll, Act.put, List.setIfInBounds_toArray, List.set_cons_zero, List.set_cons_succ]
      go_simp
      refine (HQ.out _ _ rw).mono ?_
      rintro e w2 ⟨rfl, hb2⟩
      exact HKK.out _ _ ⟨_, by simp only [putAll, Act.put, List.setIfInBounds_toArray, List.set_cons_zero, List.set_cons_succ] <;> rfl, h0, h1, h3, h4, h5, fun _ => rfl, h8, h9, (RowM.other hM.out 7 _ rfl).grow hb2⟩
    · obtain rfl := Option.some.inj hi
      have d3 := h3 (hall ⟨3, .data⟩ (by simp) rfl)
      have d7 := h7 (hall ⟨7, .data⟩ (by simp) rfl)
      refine wpOp_step rfl (fun K hK => ?_)
      have HKK := Lib.hid hK; clear hK
      simp only [putAll, Act.put, List.setIfInBounds_toArray, List.set_cons_zero, List.set_cons_succ]
      go_simp
      refine (HM.out _).mono ?_
      rintro e w2 ⟨rfl, hb2⟩
      exact HKK.out _ _ ⟨_, by simp only [putAll, Act.put, List.setIfInBounds_toArray, List.set_cons_zero, List.set_cons_succ, d3, d7] <;> rfl, h0, h1, h3, h4, h5, h7, fun _ => rfl, h9, (RowM.other hM.out 8 _ rfl).grow hb2⟩
    · obtain rfl := Option.some.inj hi
      have d8 := h8 (hall ⟨8, .data⟩ (by simp) rfl)
      refine wpOp_step rfl (fun K hK => ?_)
      have HKK := Lib.hid hK; clear hK
      simp only [putAll, Act.put, List.setIfInBounds_toArray, List.set_cons_zero, List.set_cons_succ]
      go_simp
      refine (HE.out _).mono ?_
      rintro e w2 ⟨rfl, hb2⟩
      exact HKK.out _ _ ⟨_, by simp only [putAll, Act.put, List.setIfInBounds_toArray, List.set_cons_zero, List.set_cons_succ, d8] <;> rfl, h0, h1, h3, h4, h5, h7, h8, fun _ => rfl, (RowM.other hM.out 9 _ rfl).grow hb2⟩
    · omega
  · rintro b' vs w1 hall ⟨h0, h1, h3, h4, h5, h7, h8, h9, hM⟩
    have d9 := h9 (hall 9 (by simp))
    have hb := RowM.below hM.out
    have B1 := Lib.hid hb
    have B2 : Hid (Below n w w1) := HB.out.trans (hb.mono (by omega))
    simp only [putAll, Act.put, List.setIfInBounds_toArray, List.set_cons_zero, List.set_cons_succ, d9]
    generalize vs 0 = v0
    generalize vs 1 = v1
    generalize vs 2 = v2
    generalize vs 3 = v3
    generalize vs 4 = v4
    generalize vs 5 = v5
    generalize vs 6 = v6
    generalize vs 7 = v7
    generalize vs 8 = v8
    clear h0 h1 h3 h4 h5 h7 h8 h9 hM hb hall d9 vs b'
    cases em
    · obtain ⟨⟨c0, c1⟩, ⟨c2, c3⟩, ⟨c4, c5⟩, c6, c7⟩ := FourAt.cells (HF.out _ B1.out)
      go_wp2_with fail
      refine (HS.out _).mono ?_
      rintro e w2 ⟨rfl, hb2⟩
      have B3 : Hid (Below n w w2) := B2.out.trans (hb2.mono (by have := B1.out.size; omega))
      have l2 : n + 4 ≤ w2.heap.size := by have := B1.out.size; have := hb2.size; omega
      clear hb2
      by_cases h1 : s0 * s1 ≤ 0
      · go_wp2_with fail
        go_ret
        exact ⟨by rw [← HR.out]; simp [h1], by rw [Hn.out]; exact B3.out.alloc (by omega) _⟩
      · go_wp2_with fail
        go_ret
        exact ⟨by rw [← HR.out]; simp; omega, by rw [Hn.out]; exact B3.out.alloc (by omega) _⟩
    · go_wp2_with fail
      go_ret
      exact ⟨by rw [← HR.out]; rfl, by rw [Hn.out]; exact B2.out⟩
def meetsI (a b c d : Pt) : Bool := !emptyI (meetI (boundI [a, b]) (boundI [c, d])) && (decide (sideI a.1 a.2 b.1 b.2 c.1 c.2 * sideI a.1 a.2 b.1 b.2 d.1 d.2 ≤ 0) && decide (sideI c.1 c.2 d.1 d.2 a.1 a.2 * sideI c.1 c.2 d.1 d.2 b.1 b.2 ≤ 0))
theorem sign_prod {x y : Int} (h1 : -1 ≤ x ∧ x ≤ 1) (h2 : -1 ≤ y ∧ y ≤ 1) : -1 ≤ x * y ∧ x * y ≤ 1 := by
  obtain rfl | rfl | rfl : x = -1 ∨ x = 0 ∨ x = 1 := by omega
  all_goals omega
theorem meets_c (ax ay bx bY cx cy dx dy : Int) (w : World) (h : room ax = true ∧ room ay = true ∧ room bx = true ∧ room bY = true ∧ room cx = true ∧ room cy = true ∧ room dx = true ∧ room dy = true) :
    Calls Try.prog 17 #[.agg #[.int .i64 ax, .int .i64 ay], .agg #[.int .i64 bx, .int .i64 bY], .agg #[.int .i64 cx, .int .i64 cy], .agg #[.int .i64 dx, .int .i64 dy]] w fun e w' => e = .returned (.bool (meetsI (ax, ay) (bx, bY) (cx, cy) (dx, dy))) ∧ Below w.heap.size w w' := by
  have r1 : [((ax, ay) : Pt), (bx, bY)].all roomP = true := by simp [roomP, h]
  have r2 : [((cx, cy) : Pt), (dx, dy)].all roomP = true := by simp [roomP, h]
  exact meets_walk ax ay bx bY cx cy dx dy _ _ _ _ _ _ _ _ w (Lib.hid fun s w hr => bound_c s _ w (by simp) hr r1) (Lib.hid fun s w hr => bound_c s _ w (by simp) hr r2) (Lib.hid fun w => meet_c _ _ w) (Lib.hid fun w => empty_c _ w) (Lib.hid fun w => sides_c _ _ _ _ _ _ _ _ w h)
    (sign_prod (side_bound _ _ _ _ _ _) (side_bound _ _ _ _ _ _)) (sign_prod (side_bound _ _ _ _ _ _) (side_bound _ _ _ _ _ _))
end Go.Proofs.Ytbllbncmeihaaaa
