/- What holds in a region that makes rows of points, whatever its order; the law on sides. -/
import Derived.Test.YtbllbncmeihaaaaHe
namespace Go.Proofs.Ytbllbncmeihaaaa
open Go.RowKit
/-- A row that such a region makes: the operation, the points. -/
structure Made where
  op : Nat
  pts : List Pt
def RowM (w1 : World) (A : List Made) (b : Nat → Bool) (vs : Nat → Value) (w : World) : Prop :=
  Below w1.heap.size w1 w ∧ ∀ x ∈ A, b x.op = true → Row w (vs x.op) x.pts
def opsOk : List Made → Bool
  | [] => true
  | x :: l => (l.all fun y => decide (x.op ≠ y.op)) && opsOk l
section
variable {w1 w w' : World} {A : List Made} {b : Nat → Bool} {vs : Nat → Value}
theorem RowM.start (vs : Nat → Value) : RowM w1 A (fun _ => false) vs w1.drew := ⟨⟨rfl, rfl, rfl, Nat.le_refl _, fun _ _ => rfl⟩, fun _ _ h => (Bool.noConfusion h)⟩
theorem RowM.below (h : RowM w1 A b vs w) : Below w1.heap.size w1 w := h.1
theorem RowM.grow (h : RowM w1 A b vs w) (hb : Below w.heap.size w w') : RowM w1 A b vs w' := ⟨below_next h.1 hb, fun x hx hbx => (h.2 x hx hbx).on hb⟩
theorem RowM.other (h : RowM w1 A b vs w) (i : Nat) (v : Value) (hi : (A.all fun x => decide (x.op ≠ i)) = true) : RowM w1 A (upd b i true) (upd vs i v) w := by
  have hm : ∀ x ∈ A, x.op ≠ i := fun x hx => by simpa using List.all_eq_true.1 hi x hx
  refine ⟨h.1, fun x hx hbx => ?_⟩
  rw [upd_other _ _ _ _ (hm x hx)] at hbx ⊢
  exact h.2 x hx hbx
theorem ops_at : ∀ {A : List Made}, opsOk A = true → ∀ x ∈ A, ∀ y ∈ A, x = y ∨ x.op ≠ y.op
  | [], _, _, h, _, _ => by cases h
  | a :: l, h, x, hx, y, hy => by
    unfold opsOk at h
    simp only [Bool.and_eq_true, decide_eq_true_eq, List.all_eq_true] at h
    rcases List.mem_cons.1 hx with hxa | hxl
    · subst hxa
      rcases List.mem_cons.1 hy with hya | hyl
      · exact .inl hya.symm
      · exact .inr (h.1 y hyl)
    · rcases List.mem_cons.1 hy with hya | hyl
      · subst hya
        exact .inr (Ne.symm (h.1 x hxl))
      · exact ops_at h.2 x hxl y hyl
theorem RowM.made (h : RowM w1 A b vs w) (hA : opsOk A = true) (x : Made) (hx : x ∈ A) {t : TypeId} {cs : Array Value} {n : Nat} (hcs : cs = flat x.pts) (hn : n = x.pts.length) :
    RowM w1 A (upd b x.op true) (upd vs x.op (.slice (some ⟨w.heap.size, 0, none⟩) n n)) (w.alloc (.cells cs t)) := by
  refine ⟨h.1.alloc h.1.size _, fun y hy hby => ?_⟩
  rcases ops_at hA x hx y hy with rfl | hne
  · rw [upd_same]; exact Row.new w _ _ _ _ hcs hn
  · rw [upd_other _ _ _ _ (Ne.symm hne)] at hby ⊢
    exact (h.2 y hy hby).on ((Below.refl _ _).alloc (Nat.le_refl _) _)
theorem RowM.at (h : RowM w1 A b vs w) (x : Made) (hx : x ∈ A) (hb : b x.op = true) : Row w (vs x.op) x.pts := h.2 x hx hb
end
theorem pt_cells {w : World} {g : Nat} {t : TypeId} {x y : Int} (h : Blk w g t #[.int .i64 x, .int .i64 y]) : w.cell? ⟨g, 0, none⟩ = some (.int .i64 x) ∧ w.cell? ⟨g, 1, none⟩ = some (.int .i64 y) := ⟨h.cell 0, h.cell 1⟩
/-- The three parameters, wherever the call has got to. -/
def Three (n : Nat) (ax ay bx bY cx cy : Int) (W w' : World) : Prop := Below W.heap.size W w' → ((w'.cell? ⟨n, 0, none⟩ = some (.int .i64 ax) ∧ w'.cell? ⟨n, 1, none⟩ = some (.int .i64 ay)) ∧ (w'.cell? ⟨n + 1, 0, none⟩ = some (.int .i64 bx) ∧ w'.cell? ⟨n + 1, 1, none⟩ = some (.int .i64 bY)) ∧ w'.cell? ⟨n + 2, 0, none⟩ = some (.int .i64 cx) ∧ w'.cell? ⟨n + 2, 1, none⟩ = some (.int .i64 cy))
theorem three_of (w W : World) (ax ay bx bY cx cy : Int) (hW : ((w.alloc (.cells #[.int .i64 ax, .int .i64 ay] 23)).alloc (.cells #[.int .i64 bx, .int .i64 bY] 23)).alloc (.cells #[.int .i64 cx, .int .i64 cy] 23) = W) :
    (∀ w', Three w.heap.size ax ay bx bY cx cy W w') ∧ Below w.heap.size w W ∧ W.heap.size = w.heap.size + 3 := by
  obtain ⟨p1, p2, p3, hB, hs⟩ := three_pts w ax ay bx bY cx cy W hW
  refine ⟨fun w' hb => ?_, hB, hs⟩
  exact ⟨cells_out p1 (by omega) hb, cells_out p2 (by omega) hb, cells_out p3 (by omega) hb⟩
set_option maxHeartbeats 2000000 in
set_option maxRecDepth 100000 in
theorem sides_law (ax ay bx bY cx cy : Int) (w : World) : Calls Try.prog 3 #[.agg #[.int .i64 ax, .int .i64 ay], .agg #[.int .i64 bx, .int .i64 bY], .agg #[.int .i64 cx, .int .i64 cy]] w fun e w' => e = .returned (.bool true) ∧ Below w.heap.size w w' := by
  have HI := Lib.hid (ptIn_c ax ay)
  have HIN : Hid (∀ s w, Row w s [(ax, ay)] → Calls Try.prog 10 #[s] w fun e w' => e = .returned (.bool (room ax && room ay)) ∧ Below w.heap.size w w') := fun s w h => by
    have := in_c s [(ax, ay)] w (by simp) h
    simpa [roomP] using this
  have HIN3 := Lib.hid (fun s w h => in_c s [(ax, ay), (bx, bY), (cx, cy)] w (by simp) h)
  have HAW := Lib.hid awake_c
  go_enter Try.func3, Try.ntmps3
  go_wp2_with fail
  obtain ⟨W, hW⟩ : ∃ W, ((w.alloc (.cells #[.int .i64 ax, .int .i64 ay] 23)).alloc (.cells #[.int .i64 bx, .int .i64 bY] 23)).alloc (.cells #[.int .i64 cx, .int .i64 cy] 23) = W := ⟨_, rfl⟩
  obtain ⟨hT, hB, hs⟩ := three_of w W ax ay bx bY cx cy hW
  rw [hW]
  clear hW
  have HT := Lib.hid hT; have HB := Lib.hid hB
  have HS : Hid (w.heap.size ≤ W.heap.size) := by unfold Hid; omega
  clear hT hB hs
  obtain ⟨n, hn⟩ : ∃ n, w.heap.size = n := ⟨_, rfl⟩
  have Hn := Lib.hid hn
  simp only [hn] at HT HB HS ⊢
  clear hn
  refine wp_region_put (by kernel_rfl) (by kernel_rfl) (by kernel_rfl) (fun b' vs w' => (b' 0 = true → vs 0 = .agg #[.int .i64 ax, .int .i64 ay]) ∧ (b' 1 = true → vs 1 = .bool (room ax && room ay)) ∧ (b' 2 = true → vs 2 = .agg #[.int .i64 ax, .int .i64 ay]) ∧ (b' 4 = true → vs 4 = .bool (room ax && room ay)) ∧ (b' 5 = true → vs 5 = .bool false) ∧ Hid (RowM W [⟨3, [(ax, ay)]⟩] b' vs w')) ?_ ?_ ?_
  · intro vs
    exact ⟨fun h => Bool.noConfusion h, fun h => Bool.noConfusion h, fun h => Bool.noConfusion h, fun h => Bool.noConfusion h, fun h => Bool.noConfusion h, RowM.start vs⟩
  · rintro b' vs w' i op hi hun hall ⟨h0, h1, h2, h4, h5, hM⟩
    have hil : i < 6 := (List.getElem?_eq_some_iff.1 hi).1
    have hbelow := RowM.below hM.out
    rcases i with _ | _ | _ | _ | _ | _ | i
    · obtain rfl := Option.some.inj hi
      obtain ⟨⟨c0, c1⟩, _⟩ := HT.out w' hbelow
      refine wpOp_step rfl (fun K hK => ?_)
      have HKK := Lib.hid hK; clear hK
      simp only [putAll, Act.put, List.setIfInBounds_toArray, List.set_cons_zero, List.set_cons_succ]
      go_simp
      exact HKK.out _ _ ⟨_, by simp only [putAll, Act.put, List.setIfInBounds_toArray, List.set_cons_zero, List.set_cons_succ] <;> rfl, fun _ => rfl, h1, h2, h4, h5, RowM.other hM.out 0 _ rfl⟩
    · obtain rfl := Option.some.inj hi
      have d0 := h0 (hall ⟨0, .data⟩ (by simp) rfl)
      refine wpOp_step rfl (fun K hK => ?_)
      have HKK := Lib.hid hK; clear hK
      simp only [putAll, Act.put, List.setIfInBounds_toArray, List.set_cons_zero, List.set_cons_succ]
      go_simp
      refine (HI.out _).mono ?_
      rintro e w2 ⟨rfl, hb2⟩
      exact HKK.out _ _ ⟨_, by simp only [putAll, Act.put, List.setIfInBounds_toArray, List.set_cons_zero, List.set_cons_succ, d0] <;> rfl, h0, fun _ => rfl, h2, h4, h5, (RowM.other hM.out 1 _ rfl).grow hb2⟩
    · obtain rfl := Option.some.inj hi
      obtain ⟨⟨c0, c1⟩, _⟩ := HT.out w' hbelow
      refine wpOp_step rfl (fun K hK => ?_)
      have HKK := Lib.hid hK; clear hK
      simp only [putAll, Act.put, List.setIfInBounds_toArray, List.set_cons_zero, List.set_cons_succ]
      go_simp
      exact HKK.out _ _ ⟨_, by simp only [putAll, Act.put, List.setIfInBounds_toArray, List.set_cons_zero, List.set_cons_succ] <;> rfl, h0, h1, fun _ => rfl, h4, h5, RowM.other hM.out 2 _ rfl⟩
    · obtain rfl := Option.some.inj hi
      have d2 := h2 (hall ⟨2, .data⟩ (by simp) rfl)
      refine wpOp_step rfl (fun K hK => ?_)
      have HKK := Lib.hid hK; clear hK
      simp only [putAll, Act.put, List.setIfInBounds_toArray, List.set_cons_zero, List.set_cons_succ]
      go_simp
      exact HKK.out _ _ ⟨_, by simp only [putAll, Act.put, List.setIfInBounds_toArray, List.set_cons_zero, List.set_cons_succ, d2] <;> rfl, h0, h1, h2, h4, h5, RowM.made hM.out rfl ⟨3, [(ax, ay)]⟩ (by simp) rfl rfl⟩
    · obtain rfl := Option.some.inj hi
      have rw := RowM.at hM.out ⟨3, [(ax, ay)]⟩ (by simp) (hall ⟨3, .data⟩ (by simp) rfl)
      refine wpOp_step rfl (fun K hK => ?_)
      have HKK := Lib.hid hK; clear hK
      simp only [putAll, Act.put, List.setIfInBounds_toArray, List.set_cons_zero, List.set_cons_succ]
      go_simp
      refine (HIN.out _ _ rw).mono ?_
      rintro e w2 ⟨rfl, hb2⟩
      exact HKK.out _ _ ⟨_, by simp only [putAll, Act.put, List.setIfInBounds_toArray, List.set_cons_zero, List.set_cons_succ] <;> rfl, h0, h1, h2, fun _ => rfl, h5, (RowM.other hM.out 4 _ rfl).grow hb2⟩
    · obtain rfl := Option.some.inj hi
      have d1 := h1 (hall ⟨1, .data⟩ (by simp) rfl)
      have d4 := h4 (hall ⟨4, .data⟩ (by simp) rfl)
      refine wpOp_step rfl (fun K hK => ?_)
      have HKK := Lib.hid hK; clear hK
      simp only [putAll, Act.put, List.setIfInBounds_toArray, List.set_cons_zero, List.set_cons_succ]
      go_simp
      exact HKK.out _ _ ⟨_, by simp only [putAll, Act.put, List.setIfInBounds_toArray, List.set_cons_zero, List.set_cons_succ, d1, d4] <;> rfl, h0, h1, h2, h4, fun _ => rfl, RowM.other hM.out 5 _ rfl⟩
    · omega
  · rintro b' vs w1 hall ⟨h0, h1, h2, h4, h5, hM⟩
    have d0 := h0 (hall 0 (by simp)); have d1 := h1 (hall 1 (by simp)); have d2 := h2 (hall 2 (by simp)); have d4 := h4 (hall 4 (by simp)); have d5 := h5 (hall 5 (by simp))
    simp only [putAll, Act.put, List.setIfInBounds_toArray, List.set_cons_zero, List.set_cons_succ, d0, d1, d2, d4, d5]
    have hb1 := RowM.below hM.out
    generalize vs 3 = v3 at *
    have B1 := Lib.hid hb1
    obtain ⟨⟨c0, c1⟩, ⟨c2, c3⟩, c4, c5⟩ := HT.out w1 hb1
    clear h0 h1 h2 h4 h5 hM d0 d1 d2 d4 d5 hb1 hall
    go_wp2_with fail
    refine (HIN3.out _ _ (Row.new w1 [(ax, ay), (bx, bY), (cx, cy)] _ _ 3 rfl rfl)).mono ?_
    rintro e w2 ⟨rfl, hb2⟩
    have B2 : Hid (Below W.heap.size W w2) := below_next (B1.out.alloc B1.out.size _) hb2
    clear hb2 c0 c1 c2 c3 c4 c5
    obtain ⟨⟨c0, c1⟩, ⟨c2, c3⟩, c4, c5⟩ := HT.out w2 B2.out
    cases hall : [(ax, ay), (bx, bY), (cx, cy)].all roomP
    · go_wp2_with fail
      refine (HAW.out _).mono ?_
      rintro e w3 ⟨rfl, hb3⟩
      have B3 : Hid (Below w.heap.size w w3) := by unfold Hid; rw [Hn.out]; exact HB.out.trans ((below_next B2.out hb3).mono HS.out)
      clear hb3
      go_wp2_with fail
      go_ret
      exact ⟨rfl, B3.out⟩
    · have hr : room ax = true ∧ room ay = true ∧ room bx = true ∧ room bY = true ∧ room cx = true ∧ room cy = true := by
        simpa [roomP, and_assoc] using hall
      have hsb := side_bound ax ay bx bY cx cy
      have HS0 := Lib.hid (fun w => side_c ax ay bx bY cx cy w hr)
      have HRS := Lib.hid (fun w => refSide_c ax ay bx bY cx cy w hr)
      have HS1 := Lib.hid (fun w => side_c bx bY ax ay cx cy w ⟨hr.2.2.1, hr.2.2.2.1, hr.1, hr.2.1, hr.2.2.2.2⟩)
      have HS2 := Lib.hid (fun w => side_c bx bY cx cy ax ay w ⟨hr.2.2.1, hr.2.2.2.1, hr.2.2.2.2.1, hr.2.2.2.2.2, hr.1, hr.2.1⟩)
      have HS3 := Lib.hid (fun w => side_c ax ay bx bY ax ay w ⟨hr.1, hr.2.1, hr.2.2.1, hr.2.2.2.1, hr.1, hr.2.1⟩)
      have HS4 := Lib.hid (fun w => side_c ax ay ax ay cx cy w ⟨hr.1, hr.2.1, hr.1, hr.2.1, hr.2.2.2.2⟩)
      have HREF := Lib.hid ref_c
      rw [side_swap] at HS1
      rw [side_rot] at HS2
      rw [side_aba] at HS3
      rw [side_aac] at HS4
      generalize sideI ax ay bx bY cx cy = sd at *
      clear hall hr
      go_wp2_with fail
      refine (HS0.out _).mono ?_
      rintro e w3 ⟨rfl, hb3⟩
      have B3 : Hid (Below W.heap.size W w3) := below_next B2.out hb3
      clear hb3 c0 c1 c2 c3 c4 c5
      go_wp2_with fail
      have e1 : IntKind.i64.wrap (-sd) = -sd := by rw [IntKind.wrap_i64]; omega
      have e2 : wrap64 (-sd) = -sd := by unfold wrap64; omega
      refine wp_region_quiet (C := Out w3) (by kernel_rfl) (by kernel_rfl) ⟨rfl, rfl, rfl, Nat.le_refl _, fun _ _ => rfl⟩ ?_
      refine BigFrame.wpQuiet_want rfl (fun K hK => ?_)
      refine quiet_val (.int .i64 sd) (fun w' hw' => by go_simp) (hK _ ?_)
      clear hK K
      simp only [Act.put, List.setIfInBounds_toArray, List.set_cons_zero, List.set_cons_succ]
      refine BigFrame.wpQuiet_want rfl (fun K hK => ?_)
      refine quiet_val (.agg #[.int .i64 ax, .int .i64 ay]) (fun w' hw' => by obtain ⟨⟨c0, c1⟩, ⟨c2, c3⟩, c4, c5⟩ := HT.out w' (below_next B3.out hw'); go_simp) (hK _ ?_)
      clear hK K
      simp only [Act.put, List.setIfInBounds_toArray, List.set_cons_zero, List.set_cons_succ]
      refine BigFrame.wpQuiet_want rfl (fun K hK => ?_)
      refine quiet_call 14 #[.agg #[.int .i64 ax, .int .i64 ay]] (.agg #[.int .i64 ax, .int .i64 ay]) (fun w' _ => by go_simp) (fun w' hw' => Calls.out hw' (HREF.out _ _ _)) (hK _ ?_)
      clear hK K
      simp only [Act.put, List.setIfInBounds_toArray, List.set_cons_zero, List.set_cons_succ]
      refine BigFrame.wpQuiet_want rfl (fun K hK => ?_)
      refine quiet_val (.agg #[.int .i64 bx, .int .i64 bY]) (fun w' hw' => by obtain ⟨⟨c0, c1⟩, ⟨c2, c3⟩, c4, c5⟩ := HT.out w' (below_next B3.out hw'); go_simp) (hK _ ?_)
      clear hK K
      simp only [Act.put, List.setIfInBounds_toArray, List.set_cons_zero, List.set_cons_succ]
      refine BigFrame.wpQuiet_want rfl (fun K hK => ?_)
      refine quiet_call 14 #[.agg #[.int .i64 bx, .int .i64 bY]] (.agg #[.int .i64 bx, .int .i64 bY]) (fun w' _ => by go_simp) (fun w' hw' => Calls.out hw' (HREF.out _ _ _)) (hK _ ?_)
      clear hK K
      simp only [Act.put, List.setIfInBounds_toArray, List.set_cons_zero, List.set_cons_succ]
      refine BigFrame.wpQuiet_want rfl (fun K hK => ?_)
      refine quiet_val (.agg #[.int .i64 cx, .int .i64 cy]) (fun w' hw' => by obtain ⟨⟨c0, c1⟩, ⟨c2, c3⟩, c4, c5⟩ := HT.out w' (below_next B3.out hw'); go_simp) (hK _ ?_)
      clear hK K
      simp only [Act.put, List.setIfInBounds_toArray, List.set_cons_zero, List.set_cons_succ]
      refine BigFrame.wpQuiet_want rfl (fun K hK => ?_)
      refine quiet_call 14 #[.agg #[.int .i64 cx, .int .i64 cy]] (.agg #[.int .i64 cx, .int .i64 cy]) (fun w' _ => by go_simp) (fun w' hw' => Calls.out hw' (HREF.out _ _ _)) (hK _ ?_)
      clear hK K
      simp only [Act.put, List.setIfInBounds_toArray, List.set_cons_zero, List.set_cons_succ]
      refine BigFrame.wpQuiet_want rfl (fun K hK => ?_)
      refine quiet_call 13 #[.agg #[.int .i64 ax, .int .i64 ay], .agg #[.int .i64 bx, .int .i64 bY], .agg #[.int .i64 cx, .int .i64 cy]] (.int .i64 sd) (fun w' _ => by go_simp) (fun w' hw' => Calls.out hw' (HRS.out _)) (hK _ ?_)
      clear hK K
      simp only [Act.put, List.setIfInBounds_toArray, List.set_cons_zero, List.set_cons_succ]
      refine BigFrame.wpQuiet_want rfl (fun K hK => ?_)
      refine quiet_val (.bool true) (fun w' hw' => by go_simp) (hK _ ?_)
      clear hK K
      simp only [Act.put, List.setIfInBounds_toArray, List.set_cons_zero, List.set_cons_succ]
      refine BigFrame.wpQuiet_want rfl (fun K hK => ?_)
      refine quiet_val (.bool true) (fun w' hw' => by go_simp) (hK _ ?_)
      clear hK K
      simp only [Act.put, List.setIfInBounds_toArray, List.set_cons_zero, List.set_cons_succ]
      refine BigFrame.wpQuiet_want rfl (fun K hK => ?_)
      refine quiet_val (.agg #[.int .i64 bx, .int .i64 bY]) (fun w' hw' => by obtain ⟨⟨c0, c1⟩, ⟨c2, c3⟩, c4, c5⟩ := HT.out w' (below_next B3.out hw'); go_simp) (hK _ ?_)
      clear hK K
      simp only [Act.put, List.setIfInBounds_toArray, List.set_cons_zero, List.set_cons_succ]
      refine BigFrame.wpQuiet_want rfl (fun K hK => ?_)
      refine quiet_val (.agg #[.int .i64 ax, .int .i64 ay]) (fun w' hw' => by obtain ⟨⟨c0, c1⟩, ⟨c2, c3⟩, c4, c5⟩ := HT.out w' (below_next B3.out hw'); go_simp) (hK _ ?_)
      clear hK K
      simp only [Act.put, List.setIfInBounds_toArray, List.set_cons_zero, List.set_cons_succ]
      refine BigFrame.wpQuiet_want rfl (fun K hK => ?_)
      refine quiet_val (.agg #[.int .i64 cx, .int .i64 cy]) (fun w' hw' => by obtain ⟨⟨c0, c1⟩, ⟨c2, c3⟩, c4, c5⟩ := HT.out w' (below_next B3.out hw'); go_simp) (hK _ ?_)
      clear hK K
      simp only [Act.put, List.setIfInBounds_toArray, List.set_cons_zero, List.set_cons_succ]
      refine BigFrame.wpQuiet_want rfl (fun K hK => ?_)
      refine quiet_call 12 #[.agg #[.int .i64 bx, .int .i64 bY], .agg #[.int .i64 ax, .int .i64 ay], .agg #[.int .i64 cx, .int .i64 cy]] (.int .i64 (-sd)) (fun w' _ => by go_simp) (fun w' hw' => Calls.out hw' (HS1.out _)) (hK _ ?_)
      clear hK K
      simp only [Act.put, List.setIfInBounds_toArray, List.set_cons_zero, List.set_cons_succ]
      refine BigFrame.wpQuiet_want rfl (fun K hK => ?_)
      refine quiet_val (.int .i64 sd) (fun w' hw' => by go_simp) (hK _ ?_)
      clear hK K
      simp only [Act.put, List.setIfInBounds_toArray, List.set_cons_zero, List.set_cons_succ]
      refine BigFrame.wpQuiet_want rfl (fun K hK => ?_)
      refine quiet_val (.int .i64 (-sd)) (fun w' hw' => by go_simp) (hK _ ?_)
      clear hK K
      simp only [Act.put, List.setIfInBounds_toArray, List.set_cons_zero, List.set_cons_succ]
      refine BigFrame.wpQuiet_want rfl (fun K hK => ?_)
      refine quiet_val (.bool true) (fun w' hw' => by go_simp) (hK _ ?_)
      clear hK K
      simp only [Act.put, List.setIfInBounds_toArray, List.set_cons_zero, List.set_cons_succ]
      refine BigFrame.wpQuiet_want rfl (fun K hK => ?_)
      refine quiet_val (.bool true) (fun w' hw' => by go_simp) (hK _ ?_)
      clear hK K
      simp only [Act.put, List.setIfInBounds_toArray, List.set_cons_zero, List.set_cons_succ]
      refine BigFrame.wpQuiet_want rfl (fun K hK => ?_)
      refine quiet_val (.bool true) (fun w' hw' => by go_simp) (hK _ ?_)
      clear hK K
      simp only [Act.put, List.setIfInBounds_toArray, List.set_cons_zero, List.set_cons_succ]
      refine BigFrame.wpQuiet_want rfl (fun K hK => ?_)
      refine quiet_val (.agg #[.int .i64 bx, .int .i64 bY]) (fun w' hw' => by obtain ⟨⟨c0, c1⟩, ⟨c2, c3⟩, c4, c5⟩ := HT.out w' (below_next B3.out hw'); go_simp) (hK _ ?_)
      clear hK K
      simp only [Act.put, List.setIfInBounds_toArray, List.set_cons_zero, List.set_cons_succ]
      refine BigFrame.wpQuiet_want rfl (fun K hK => ?_)
      refine quiet_val (.agg #[.int .i64 cx, .int .i64 cy]) (fun w' hw' => by obtain ⟨⟨c0, c1⟩, ⟨c2, c3⟩, c4, c5⟩ := HT.out w' (below_next B3.out hw'); go_simp) (hK _ ?_)
      clear hK K
      simp only [Act.put, List.setIfInBounds_toArray, List.set_cons_zero, List.set_cons_succ]
      refine BigFrame.wpQuiet_want rfl (fun K hK => ?_)
      refine quiet_val (.agg #[.int .i64 ax, .int .i64 ay]) (fun w' hw' => by obtain ⟨⟨c0, c1⟩, ⟨c2, c3⟩, c4, c5⟩ := HT.out w' (below_next B3.out hw'); go_simp) (hK _ ?_)
      clear hK K
      simp only [Act.put, List.setIfInBounds_toArray, List.set_cons_zero, List.set_cons_succ]
      refine BigFrame.wpQuiet_want rfl (fun K hK => ?_)
      refine quiet_call 12 #[.agg #[.int .i64 bx, .int .i64 bY], .agg #[.int .i64 cx, .int .i64 cy], .agg #[.int .i64 ax, .int .i64 ay]] (.int .i64 sd) (fun w' _ => by go_simp) (fun w' hw' => Calls.out hw' (HS2.out _)) (hK _ ?_)
      clear hK K
      simp only [Act.put, List.setIfInBounds_toArray, List.set_cons_zero, List.set_cons_succ]
      refine BigFrame.wpQuiet_want rfl (fun K hK => ?_)
      refine quiet_val (.int .i64 sd) (fun w' hw' => by go_simp) (hK _ ?_)
      clear hK K
      simp only [Act.put, List.setIfInBounds_toArray, List.set_cons_zero, List.set_cons_succ]
      refine BigFrame.wpQuiet_want rfl (fun K hK => ?_)
      refine quiet_val (.bool true) (fun w' hw' => by go_simp) (hK _ ?_)
      clear hK K
      simp only [Act.put, List.setIfInBounds_toArray, List.set_cons_zero, List.set_cons_succ]
      refine BigFrame.wpQuiet_want rfl (fun K hK => ?_)
      refine quiet_val (.bool true) (fun w' hw' => by go_simp) (hK _ ?_)
      clear hK K
      simp only [Act.put, List.setIfInBounds_toArray, List.set_cons_zero, List.set_cons_succ]
      refine BigFrame.wpQuiet_want rfl (fun K hK => ?_)
      refine quiet_val (.bool true) (fun w' hw' => by go_simp) (hK _ ?_)
      clear hK K
      simp only [Act.put, List.setIfInBounds_toArray, List.set_cons_zero, List.set_cons_succ]
      refine BigFrame.wpQuiet_want rfl (fun K hK => ?_)
      refine quiet_val (.agg #[.int .i64 ax, .int .i64 ay]) (fun w' hw' => by obtain ⟨⟨c0, c1⟩, ⟨c2, c3⟩, c4, c5⟩ := HT.out w' (below_next B3.out hw'); go_simp) (hK _ ?_)
      clear hK K
      simp only [Act.put, List.setIfInBounds_toArray, List.set_cons_zero, List.set_cons_succ]
      refine BigFrame.wpQuiet_want rfl (fun K hK => ?_)
      refine quiet_val (.agg #[.int .i64 bx, .int .i64 bY]) (fun w' hw' => by obtain ⟨⟨c0, c1⟩, ⟨c2, c3⟩, c4, c5⟩ := HT.out w' (below_next B3.out hw'); go_simp) (hK _ ?_)
      clear hK K
      simp only [Act.put, List.setIfInBounds_toArray, List.set_cons_zero, List.set_cons_succ]
      refine BigFrame.wpQuiet_want rfl (fun K hK => ?_)
      refine quiet_val (.agg #[.int .i64 ax, .int .i64 ay]) (fun w' hw' => by obtain ⟨⟨c0, c1⟩, ⟨c2, c3⟩, c4, c5⟩ := HT.out w' (below_next B3.out hw'); go_simp) (hK _ ?_)
      clear hK K
      simp only [Act.put, List.setIfInBounds_toArray, List.set_cons_zero, List.set_cons_succ]
      refine BigFrame.wpQuiet_want rfl (fun K hK => ?_)
      refine quiet_call 12 #[.agg #[.int .i64 ax, .int .i64 ay], .agg #[.int .i64 bx, .int .i64 bY], .agg #[.int .i64 ax, .int .i64 ay]] (.int .i64 0) (fun w' _ => by go_simp) (fun w' hw' => Calls.out hw' (HS3.out _)) (hK _ ?_)
      clear hK K
      simp only [Act.put, List.setIfInBounds_toArray, List.set_cons_zero, List.set_cons_succ]
      refine BigFrame.wpQuiet_want rfl (fun K hK => ?_)
      refine quiet_val (.bool true) (fun w' hw' => by go_simp) (hK _ ?_)
      clear hK K
      simp only [Act.put, List.setIfInBounds_toArray, List.set_cons_zero, List.set_cons_succ]
      refine BigFrame.wpQuiet_want rfl (fun K hK => ?_)
      refine quiet_val (.bool true) (fun w' hw' => by go_simp) (hK _ ?_)
      clear hK K
      simp only [Act.put, List.setIfInBounds_toArray, List.set_cons_zero, List.set_cons_succ]
      refine BigFrame.wpQuiet_want rfl (fun K hK => ?_)
      refine quiet_val (.bool true) (fun w' hw' => by go_simp) (hK _ ?_)
      clear hK K
      simp only [Act.put, List.setIfInBounds_toArray, List.set_cons_zero, List.set_cons_succ]
      refine BigFrame.wpQuiet_want rfl (fun K hK => ?_)
      refine quiet_val (.agg #[.int .i64 ax, .int .i64 ay]) (fun w' hw' => by obtain ⟨⟨c0, c1⟩, ⟨c2, c3⟩, c4, c5⟩ := HT.out w' (below_next B3.out hw'); go_simp) (hK _ ?_)
      clear hK K
      simp only [Act.put, List.setIfInBounds_toArray, List.set_cons_zero, List.set_cons_succ]
      refine BigFrame.wpQuiet_want rfl (fun K hK => ?_)
      refine quiet_val (.agg #[.int .i64 ax, .int .i64 ay]) (fun w' hw' => by obtain ⟨⟨c0, c1⟩, ⟨c2, c3⟩, c4, c5⟩ := HT.out w' (below_next B3.out hw'); go_simp) (hK _ ?_)
      clear hK K
      simp only [Act.put, List.setIfInBounds_toArray, List.set_cons_zero, List.set_cons_succ]
      refine BigFrame.wpQuiet_want rfl (fun K hK => ?_)
      refine quiet_val (.agg #[.int .i64 cx, .int .i64 cy]) (fun w' hw' => by obtain ⟨⟨c0, c1⟩, ⟨c2, c3⟩, c4, c5⟩ := HT.out w' (below_next B3.out hw'); go_simp) (hK _ ?_)
      clear hK K
      simp only [Act.put, List.setIfInBounds_toArray, List.set_cons_zero, List.set_cons_succ]
      refine BigFrame.wpQuiet_want rfl (fun K hK => ?_)
      refine quiet_call 12 #[.agg #[.int .i64 ax, .int .i64 ay], .agg #[.int .i64 ax, .int .i64 ay], .agg #[.int .i64 cx, .int .i64 cy]] (.int .i64 0) (fun w' _ => by go_simp) (fun w' hw' => Calls.out hw' (HS4.out _)) (hK _ ?_)
      clear hK K
      simp only [Act.put, List.setIfInBounds_toArray, List.set_cons_zero, List.set_cons_succ]
      refine BigFrame.wpQuiet_want rfl (fun K hK => ?_)
      refine quiet_val (.bool true) (fun w' hw' => by go_simp) (hK _ ?_)
      clear hK K
      simp only [Act.put, List.setIfInBounds_toArray, List.set_cons_zero, List.set_cons_succ]
      refine BigFrame.wpQuiet_want rfl (fun K hK => ?_)
      refine quiet_val (.bool true) (fun w' hw' => by go_simp) (hK _ ?_)
      clear hK K
      simp only [Act.put, List.setIfInBounds_toArray, List.set_cons_zero, List.set_cons_succ]
      refine BigFrame.wpQuiet_want rfl (fun K hK => ?_)
      refine quiet_val (.bool true) (fun w' hw' => by go_simp) (hK _ ?_)
      clear hK K
      simp only [Act.put, List.setIfInBounds_toArray, List.set_cons_zero, List.set_cons_succ]
      refine BigFrame.wpQuiet_want rfl (fun K hK => ?_)
      refine quiet_call 11 #[] (.bool true) (fun w' _ => by go_simp) (fun w' hw' => Calls.out hw' (HAW.out _)) (hK _ ?_)
      clear hK K
      simp only [Act.put, List.setIfInBounds_toArray, List.set_cons_zero, List.set_cons_succ]
      refine BigFrame.wpQuiet_want rfl (fun K hK => ?_)
      refine quiet_val (.bool true) (fun w' hw' => by go_simp) (hK _ ?_)
      clear hK K
      simp only [Act.put, List.setIfInBounds_toArray, List.set_cons_zero, List.set_cons_succ]
      refine BigFrame.wpQuiet_want rfl (fun K hK => ?_)
      refine quiet_val (.bool true) (fun w' hw' => by go_simp) (hK _ ?_)
      clear hK K
      simp only [Act.put, List.setIfInBounds_toArray, List.set_cons_zero, List.set_cons_succ]
      refine wpQuiet_nil ?_
      intro w' hw'
      have Hw : Hid (Below w.heap.size w w') := by unfold Hid; rw [Hn.out]; exact HB.out.trans ((below_next B3.out hw').mono HS.out)
      clear hw'
      go_wp2_with fail
      go_ret
      exact ⟨rfl, Hw.out⟩
end Go.Proofs.Ytbllbncmeihaaaa
