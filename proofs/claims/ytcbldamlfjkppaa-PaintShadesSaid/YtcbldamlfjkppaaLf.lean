/- Layer 10: the law PaintFades. -/
import Derived.Test.YtcbldamlfjkppaaLi
import Derived.BigQuiet
namespace Go.Proofs.Ytcbldamlfjkppaa
open Go.RowKit
theorem fade_right {c : Col} {b : Int} (hb : byteI b) (h : rightC c = true) : rightC (fadeC c b) = true := by
  obtain ⟨h0, h1, h2⟩ := rightC_iff.1 h
  refine rightC_iff.2 ⟨?_, ?_, ?_⟩ <;> (unfold fadeC; rw [ofI_comm _ b, ofI_comm _ b]; exact ofI_mono (by assumption) hb.1)
theorem part_right {c : Col} {n : Int} (hn : 0 ≤ n) (h : rightC c = true) : rightC (partC c n) = true := by
  obtain ⟨h0, h1, h2⟩ := rightC_iff.1 h
  have k : ∀ i, c i ≤ c 3 → partC c n i ≤ partC c n 3 := fun i hi => by
    have := Int.mul_le_mul_of_nonneg_right hi hn
    unfold partC
    omega
  exact rightC_iff.2 ⟨k 0 h0, k 1 h1, k 2 h2⟩
theorem straight_3 (r g b a : Int) : straightC r g b a 3 = a := by show ofI 255 a = a; rw [ofI_comm, ofI_255]
theorem straight_right {r g b a : Int} (hr : byteI r) (hg : byteI g) (hb : byteI b) (ha : byteI a) : rightC (straightC r g b a) = true := by
  refine rightC_iff.2 ⟨?_, ?_, ?_⟩ <;> rw [straight_3]
  · exact (ofI_in hr.1 hr.2 ha.1 ha.2).2.2.1
  · exact (ofI_in hg.1 hg.2 ha.1 ha.2).2.2.1
  · exact (ofI_in hb.1 hb.2 ha.1 ha.2).2.2.1
theorem clamp_in (n hi : Int) (h : 0 ≤ hi) : 0 ≤ clampI n hi ∧ clampI n hi ≤ hi := by unfold clampI; omega
set_option maxHeartbeats 4000000 in
set_option maxRecDepth 100000 in
theorem paintFades_law (P : PaintOk) (c : Col) (b n : Int) (hc : OkC c) (hb : byteI b) (w : World) : Calls Try.prog 4 #[.agg #[.int .u8 (c 0), .int .u8 (c 1), .int .u8 (c 2), .int .u8 (c 3)], .int .u8 b, .int .i64 n] w fun e w' => e = .returned (.bool true) ∧ Below w.heap.size w w' := by
  have HAW := Lib.hid (law_awake_c P)
  have hm := clamp_in n 16 (by decide)
  have h0 := hc 0 (by decide)
  have h1 := hc 1 (by decide)
  have h2 := hc 2 (by decide)
  have E0 := Lib.hid (u8_i64 h0.1 h0.2)
  have E1 := Lib.hid (u8_i64 h1.1 h1.2)
  have E2 := Lib.hid (u8_i64 h2.1 h2.2)
  have EB := Lib.hid (u8_i64 hb.1 hb.2)
  have HRC := Lib.hid (law_ref_c c hc)
  have okG := fade_ok hc hb
  have okH := part_ok hc hm
  have okL := col4_ok h0 h1 h2 (show byteI 255 by unfold byteI; decide)
  have okK : OkC (straightC (c 0) (c 1) (c 2) b) := fade_ok okL hb
  have HFA := Lib.hid (fun w => P.fade c b w hc hb)
  have HPA := Lib.hid (fun w => P.part c n w hc)
  have HST := Lib.hid (fun w => P.straight (c 0) (c 1) (c 2) b w h0 h1 h2 hb)
  have HRFA := Lib.hid (refFade_c c b hc hb)
  have HRPA := Lib.hid (refPart_c c (clampI n 16) hc hm)
  have HRST : Hid (∀ w, Calls Try.prog 16 #[.agg #[.int .i64 (c 0), .int .i64 (c 1), .int .i64 (c 2), .int .i64 255], .int .i64 b] w fun e w' => e = .returned (.agg #[.int .i64 (straightC (c 0) (c 1) (c 2) b 0), .int .i64 (straightC (c 0) (c 1) (c 2) b 1), .int .i64 (straightC (c 0) (c 1) (c 2) b 2), .int .i64 (straightC (c 0) (c 1) (c 2) b 3)]) ∧ Below w.heap.size w w') := refFade_c (col4 (c 0) (c 1) (c 2) 255) b okL hb
  have HISG := Lib.hid (law_is_c _ okG)
  have HISH := Lib.hid (law_is_c _ okH)
  have HISK := Lib.hid (law_is_c _ okK)
  have HRI := Lib.hid (fun w => P.right c w hc)
  have HRRI := Lib.hid (refRight_c c)
  have HRK := Lib.hid (fun w => P.right _ w okK)
  rw [straight_right h0 h1 h2 hb] at HRK
  have HRG := Lib.hid (fun w => P.right _ w okG)
  have HRH := Lib.hid (fun w => P.right _ w okH)
  have HGT : Hid (rightC c = true → rightC (fadeC c b) = true ∧ rightC (partC c (clampI n 16)) = true) := fun h => ⟨fade_right hb h, part_right hm.1 h⟩
  have HK3 := Lib.hid (straight_3 (c 0) (c 1) (c 2) b)
  generalize fadeC c b = G at *
  obtain ⟨m, hmm⟩ : ∃ m, clampI n 16 = m := ⟨_, rfl⟩
  rw [hmm] at HRPA HPA HGT HISH HRH okH
  have HMN : Hid (min (max n 0) 16 = m) := hmm
  clear hmm hm
  generalize partC c m = H at *
  generalize straightC (c 0) (c 1) (c 2) b = U at *
  clear h0 h1 h2 okG okH okL okK hc hb
  go_enter Try.func4, Try.ntmps4
  go_wp2_with fail
  obtain ⟨w1, hw1⟩ : ∃ W, w.alloc (.cells #[.int .u8 (c 0), .int .u8 (c 1), .int .u8 (c 2), .int .u8 (c 3)] 26) = W := ⟨_, rfl⟩
  have HW1 : Hid (Below w.heap.size w w1) := by rw [← hw1]; exact (Below.refl _ _).alloc (Nat.le_refl _) _
  have HB : Hid (∀ A, Below w1.heap.size w1 A → Blk A w.heap.size 26 (c8 c)) := fun A hA => by
    rw [← hw1] at hA
    exact (Blk.new _ _ _).grow hA
  rw [hw1]
  clear hw1
  refine wp_region_put (by kernel_rfl) (by kernel_rfl) (by kernel_rfl) (fun b' vs w' => (b' 0 = true → vs 0 = .agg #[.int .u8 (c 0), .int .u8 (c 1), .int .u8 (c 2), .int .u8 (c 3)]) ∧ (b' 1 = true → vs 1 = .int .u8 b) ∧ (b' 2 = true → vs 2 = .agg #[.int .u8 (G 0), .int .u8 (G 1), .int .u8 (G 2), .int .u8 (G 3)]) ∧ (b' 3 = true → vs 3 = .agg #[.int .u8 (c 0), .int .u8 (c 1), .int .u8 (c 2), .int .u8 (c 3)]) ∧ (b' 4 = true → vs 4 = .int .i64 n) ∧ (b' 5 = true → vs 5 = .agg #[.int .u8 (H 0), .int .u8 (H 1), .int .u8 (H 2), .int .u8 (H 3)]) ∧ Hid (LayM w1 26 (four fun _ => .int .u8 0) [⟨6, 8, c8 G⟩, ⟨7, 9, c8 H⟩] b' vs w')) ?_ ?_ ?_
  · intro vs
    exact ⟨fun h => Bool.noConfusion h, fun h => Bool.noConfusion h, fun h => Bool.noConfusion h, fun h => Bool.noConfusion h, fun h => Bool.noConfusion h, fun h => Bool.noConfusion h, LayM.start vs⟩
  · rintro b' vs w' i op hi hun hall ⟨h0, h1, h2, h3, h4, h5, hM⟩
    have hil : i < 10 := (List.getElem?_eq_some_iff.1 hi).1
    have hbelow := LayM.below hM.out
    rcases i with _ | _ | _ | _ | _ | _ | _ | _ | _ | _ | i
    · obtain rfl := Option.some.inj hi
      obtain ⟨c0, c1, c2, c3⟩ := (HB.out _ hbelow).c0
      refine wpOp_step rfl (fun K hK => ?_)
      have HKK := Lib.hid hK; clear hK
      simp only [putAll, Act.put, List.setIfInBounds_toArray, List.set_cons_zero, List.set_cons_succ]
      go_simp
      exact HKK.out _ _ ⟨_, by simp only [putAll, Act.put, List.setIfInBounds_toArray, List.set_cons_zero, List.set_cons_succ] <;> rfl, fun _ => rfl, h1, h2, h3, h4, h5, LayM.other hM.out 0 _ rfl⟩
    · obtain rfl := Option.some.inj hi
      refine wpOp_step rfl (fun K hK => ?_)
      have HKK := Lib.hid hK; clear hK
      simp only [putAll, Act.put, List.setIfInBounds_toArray, List.set_cons_zero, List.set_cons_succ]
      go_simp
      exact HKK.out _ _ ⟨_, by simp only [putAll, Act.put, List.setIfInBounds_toArray, List.set_cons_zero, List.set_cons_succ] <;> rfl, h0, fun _ => rfl, h2, h3, h4, h5, LayM.other hM.out 1 _ rfl⟩
    · obtain rfl := Option.some.inj hi
      have d0 := h0 (hall ⟨0, .data⟩ (by simp) rfl)
      have d1 := h1 (hall ⟨1, .data⟩ (by simp) rfl)
      refine wpOp_step rfl (fun K hK => ?_)
      have HKK := Lib.hid hK; clear hK
      simp only [putAll, Act.put, List.setIfInBounds_toArray, List.set_cons_zero, List.set_cons_succ]
      go_simp
      refine (HFA.out _).mono ?_
      rintro e w2 ⟨rfl, hb2⟩
      exact HKK.out _ _ ⟨_, by simp only [putAll, Act.put, List.setIfInBounds_toArray, List.set_cons_zero, List.set_cons_succ, d0, d1] <;> rfl, h0, h1, fun _ => rfl, h3, h4, h5, (LayM.other hM.out 2 _ rfl).grow hb2⟩
    · obtain rfl := Option.some.inj hi
      obtain ⟨c0, c1, c2, c3⟩ := (HB.out _ hbelow).c0
      refine wpOp_step rfl (fun K hK => ?_)
      have HKK := Lib.hid hK; clear hK
      simp only [putAll, Act.put, List.setIfInBounds_toArray, List.set_cons_zero, List.set_cons_succ]
      go_simp
      exact HKK.out _ _ ⟨_, by simp only [putAll, Act.put, List.setIfInBounds_toArray, List.set_cons_zero, List.set_cons_succ] <;> rfl, h0, h1, h2, fun _ => rfl, h4, h5, LayM.other hM.out 3 _ rfl⟩
    · obtain rfl := Option.some.inj hi
      refine wpOp_step rfl (fun K hK => ?_)
      have HKK := Lib.hid hK; clear hK
      simp only [putAll, Act.put, List.setIfInBounds_toArray, List.set_cons_zero, List.set_cons_succ]
      go_simp
      exact HKK.out _ _ ⟨_, by simp only [putAll, Act.put, List.setIfInBounds_toArray, List.set_cons_zero, List.set_cons_succ] <;> rfl, h0, h1, h2, h3, fun _ => rfl, h5, LayM.other hM.out 4 _ rfl⟩
    · obtain rfl := Option.some.inj hi
      have d3 := h3 (hall ⟨3, .data⟩ (by simp) rfl)
      have d4 := h4 (hall ⟨4, .data⟩ (by simp) rfl)
      refine wpOp_step rfl (fun K hK => ?_)
      have HKK := Lib.hid hK; clear hK
      simp only [putAll, Act.put, List.setIfInBounds_toArray, List.set_cons_zero, List.set_cons_succ]
      go_simp
      refine (HPA.out _).mono ?_
      rintro e w2 ⟨rfl, hb2⟩
      exact HKK.out _ _ ⟨_, by simp only [putAll, Act.put, List.setIfInBounds_toArray, List.set_cons_zero, List.set_cons_succ, d3, d4] <;> rfl, h0, h1, h2, h3, h4, fun _ => rfl, (LayM.other hM.out 5 _ rfl).grow hb2⟩
    · obtain rfl := Option.some.inj hi
      refine wpOp_step rfl (fun K hK => ?_)
      have HKK := Lib.hid hK; clear hK
      simp only [putAll, Act.put, List.setIfInBounds_toArray, List.set_cons_zero, List.set_cons_succ]
      go_simp
      exact HKK.out _ _ ⟨_, by simp only [putAll, Act.put, List.setIfInBounds_toArray, List.set_cons_zero, List.set_cons_succ] <;> rfl, h0, h1, h2, h3, h4, h5, LayM.made hM.out rfl ⟨6, 8, c8 G⟩ (by simp) hun⟩
    · obtain rfl := Option.some.inj hi
      refine wpOp_step rfl (fun K hK => ?_)
      have HKK := Lib.hid hK; clear hK
      simp only [putAll, Act.put, List.setIfInBounds_toArray, List.set_cons_zero, List.set_cons_succ]
      go_simp
      exact HKK.out _ _ ⟨_, by simp only [putAll, Act.put, List.setIfInBounds_toArray, List.set_cons_zero, List.set_cons_succ] <;> rfl, h0, h1, h2, h3, h4, h5, LayM.made hM.out rfl ⟨7, 9, c8 H⟩ (by simp) hun⟩
    · obtain rfl := Option.some.inj hi
      have d2 := h2 (hall ⟨2, .data⟩ (by simp) rfl)
      have dal := hall ⟨6, .data⟩ (by simp) rfl
      obtain ⟨g, eg, lg, kg⟩ := LayM.at hM.out ⟨6, 8, c8 G⟩ (by simp) dal hun
      obtain ⟨c0, c1, c2, c3⟩ := kg.c0
      have f0 := kg.free 0
      have f1 := kg.free 1
      have f2 := kg.free 2
      have f3 := kg.free 3
      have lgw := kg.lt
      refine wpOp_step rfl (fun K hK => ?_)
      have HKK := Lib.hid hK; clear hK
      simp only [putAll, Act.put, List.setIfInBounds_toArray, List.set_cons_zero, List.set_cons_succ]
      go_simp
      exact HKK.out _ _ ⟨_, by simp only [putAll, Act.put, List.setIfInBounds_toArray, List.set_cons_zero, List.set_cons_succ, d2, eg] <;> rfl, h0, h1, h2, h3, h4, h5, LayM.stored hM.out rfl ⟨6, 8, c8 G⟩ (by simp) undef dal eg (below_four4 hbelow lg _ _ _ _) (kg.set4 fun i => .int .u8 (G i)) (fun g' cs hne k => k.other4 hne _ _ _ _)⟩
    · obtain rfl := Option.some.inj hi
      have d5 := h5 (hall ⟨5, .data⟩ (by simp) rfl)
      have dal := hall ⟨7, .data⟩ (by simp) rfl
      obtain ⟨g, eg, lg, kg⟩ := LayM.at hM.out ⟨7, 9, c8 H⟩ (by simp) dal hun
      obtain ⟨c0, c1, c2, c3⟩ := kg.c0
      have f0 := kg.free 0
      have f1 := kg.free 1
      have f2 := kg.free 2
      have f3 := kg.free 3
      have lgw := kg.lt
      refine wpOp_step rfl (fun K hK => ?_)
      have HKK := Lib.hid hK; clear hK
      simp only [putAll, Act.put, List.setIfInBounds_toArray, List.set_cons_zero, List.set_cons_succ]
      go_simp
      exact HKK.out _ _ ⟨_, by simp only [putAll, Act.put, List.setIfInBounds_toArray, List.set_cons_zero, List.set_cons_succ, d5, eg] <;> rfl, h0, h1, h2, h3, h4, h5, LayM.stored hM.out rfl ⟨7, 9, c8 H⟩ (by simp) undef dal eg (below_four4 hbelow lg _ _ _ _) (kg.set4 fun i => .int .u8 (H i)) (fun g' cs hne k => k.other4 hne _ _ _ _)⟩
    · omega
  · rintro b' vs w2 hall ⟨h0, h1, h2, h3, h4, h5, hM⟩
    have d0 := h0 (hall 0 (by simp))
    have d1 := h1 (hall 1 (by simp))
    have d2 := h2 (hall 2 (by simp))
    have d3 := h3 (hall 3 (by simp))
    have d4 := h4 (hall 4 (by simp))
    have d5 := h5 (hall 5 (by simp))
    obtain ⟨g7, e7, l7, k7⟩ := LayM.done hM.out ⟨6, 8, c8 G⟩ (by simp) (hall 6 (by simp)) (hall 8 (by simp))
    obtain ⟨g8, e8, l8, k8⟩ := LayM.done hM.out ⟨7, 9, c8 H⟩ (by simp) (hall 7 (by simp)) (hall 9 (by simp))
    have B2 := Lib.hid (LayM.below hM.out)
    have HB2 : Hid (∀ A, Below w2.heap.size w2 A → Blk A w.heap.size 26 (c8 c) ∧ Blk A g7 26 (c8 G) ∧ Blk A g8 26 (c8 H)) := fun A hA => ⟨(HB.out w2 B2.out).grow hA, k7.grow hA, k8.grow hA⟩
    have BW : Hid (Below w.heap.size w w2) := HW1.out.trans (B2.out.mono HW1.out.size)
    simp only [putAll, Act.put, List.setIfInBounds_toArray, List.set_cons_zero, List.set_cons_succ, d0, d1, d2, d3, d4, d5, e7, e8]
    clear h0 d0 h1 d1 h2 d2 h3 d3 h4 d4 h5 d5 hM hall e7 e8 l7 l8 k7 k8 B2 HB
    go_wp2_with fail
    cases hrc : rightC c
    · rw [hrc] at HRI HRRI
      clear HGT HRG HRH
      refine wp_region_quiet (C := Out w2) (by kernel_rfl) (by kernel_rfl) ⟨rfl, rfl, rfl, Nat.le_refl _, fun _ _ => rfl⟩ ?_
      refine BigFrame.wpQuiet_want rfl (fun K hK => ?_)
      refine quiet_val (.agg #[.int .u8 (G 0), .int .u8 (G 1), .int .u8 (G 2), .int .u8 (G 3)]) (fun w' hw' => by obtain ⟨c0, c1, c2, c3⟩ := (HB2.out w' hw').2.1.c0; go_simp) (hK _ ?_)
      clear hK K
      simp only [Act.put, List.setIfInBounds_toArray, List.set_cons_zero, List.set_cons_succ]
      refine BigFrame.wpQuiet_want rfl (fun K hK => ?_)
      refine quiet_val (.agg #[.int .u8 (c 0), .int .u8 (c 1), .int .u8 (c 2), .int .u8 (c 3)]) (fun w' hw' => by obtain ⟨c0, c1, c2, c3⟩ := (HB2.out w' hw').1.c0; go_simp) (hK _ ?_)
      clear hK K
      simp only [Act.put, List.setIfInBounds_toArray, List.set_cons_zero, List.set_cons_succ]
      refine BigFrame.wpQuiet_want rfl (fun K hK => ?_)
      refine quiet_call 17 #[.agg #[.int .u8 (c 0), .int .u8 (c 1), .int .u8 (c 2), .int .u8 (c 3)]] (.agg #[.int .i64 (c 0), .int .i64 (c 1), .int .i64 (c 2), .int .i64 (c 3)]) (fun w' _ => by go_simp) (fun w' hw' => Calls.out hw' (HRC.out w')) (hK _ ?_)
      clear hK K
      simp only [Act.put, List.setIfInBounds_toArray, List.set_cons_zero, List.set_cons_succ]
      refine BigFrame.wpQuiet_want rfl (fun K hK => ?_)
      refine quiet_val (.int .u8 b) (fun w' hw' => by go_simp) (hK _ ?_)
      clear hK K
      simp only [Act.put, List.setIfInBounds_toArray, List.set_cons_zero, List.set_cons_succ]
      refine BigFrame.wpQuiet_want rfl (fun K hK => ?_)
      refine quiet_val (.int .i64 b) (fun w' hw' => by have e := EB.out; go_simp) (hK _ ?_)
      clear hK K
      simp only [Act.put, List.setIfInBounds_toArray, List.set_cons_zero, List.set_cons_succ]
      refine BigFrame.wpQuiet_want rfl (fun K hK => ?_)
      refine quiet_call 16 #[.agg #[.int .i64 (c 0), .int .i64 (c 1), .int .i64 (c 2), .int .i64 (c 3)], .int .i64 b] (.agg #[.int .i64 (G 0), .int .i64 (G 1), .int .i64 (G 2), .int .i64 (G 3)]) (fun w' _ => by go_simp) (fun w' hw' => Calls.out hw' (HRFA.out w')) (hK _ ?_)
      clear hK K
      simp only [Act.put, List.setIfInBounds_toArray, List.set_cons_zero, List.set_cons_succ]
      refine BigFrame.wpQuiet_want rfl (fun K hK => ?_)
      refine quiet_call 15 #[.agg #[.int .u8 (G 0), .int .u8 (G 1), .int .u8 (G 2), .int .u8 (G 3)], .agg #[.int .i64 (G 0), .int .i64 (G 1), .int .i64 (G 2), .int .i64 (G 3)]] (.bool true) (fun w' _ => by go_simp) (fun w' hw' => Calls.out hw' (HISG.out w')) (hK _ ?_)
      clear hK K
      simp only [Act.put, List.setIfInBounds_toArray, List.set_cons_zero, List.set_cons_succ]
      refine BigFrame.wpQuiet_want rfl (fun K hK => ?_)
      refine quiet_val (.bool false) (fun w' hw' => by go_simp) (hK _ ?_)
      clear hK K
      simp only [Act.put, List.setIfInBounds_toArray, List.set_cons_zero, List.set_cons_succ]
      refine BigFrame.wpQuiet_want rfl (fun K hK => ?_)
      refine quiet_val (.bool false) (fun w' hw' => by go_simp) (hK _ ?_)
      clear hK K
      simp only [Act.put, List.setIfInBounds_toArray, List.set_cons_zero, List.set_cons_succ]
      refine BigFrame.wpQuiet_want rfl (fun K hK => ?_)
      refine quiet_val (.agg #[.int .u8 (H 0), .int .u8 (H 1), .int .u8 (H 2), .int .u8 (H 3)]) (fun w' hw' => by obtain ⟨c0, c1, c2, c3⟩ := (HB2.out w' hw').2.2.c0; go_simp) (hK _ ?_)
      clear hK K
      simp only [Act.put, List.setIfInBounds_toArray, List.set_cons_zero, List.set_cons_succ]
      refine BigFrame.wpQuiet_want rfl (fun K hK => ?_)
      refine quiet_val (.agg #[.int .u8 (c 0), .int .u8 (c 1), .int .u8 (c 2), .int .u8 (c 3)]) (fun w' hw' => by obtain ⟨c0, c1, c2, c3⟩ := (HB2.out w' hw').1.c0; go_simp) (hK _ ?_)
      clear hK K
      simp only [Act.put, List.setIfInBounds_toArray, List.set_cons_zero, List.set_cons_succ]
      refine BigFrame.wpQuiet_want rfl (fun K hK => ?_)
      refine quiet_call 17 #[.agg #[.int .u8 (c 0), .int .u8 (c 1), .int .u8 (c 2), .int .u8 (c 3)]] (.agg #[.int .i64 (c 0), .int .i64 (c 1), .int .i64 (c 2), .int .i64 (c 3)]) (fun w' _ => by go_simp) (fun w' hw' => Calls.out hw' (HRC.out w')) (hK _ ?_)
      clear hK K
      simp only [Act.put, List.setIfInBounds_toArray, List.set_cons_zero, List.set_cons_succ]
      refine BigFrame.wpQuiet_want rfl (fun K hK => ?_)
      refine quiet_val (.int .i64 n) (fun w' hw' => by go_simp) (hK _ ?_)
      clear hK K
      simp only [Act.put, List.setIfInBounds_toArray, List.set_cons_zero, List.set_cons_succ]
      refine BigFrame.wpQuiet_want rfl (fun K hK => ?_)
      refine quiet_val (.int .i64 (max n 0)) (fun w' hw' => by go_simp) (hK _ ?_)
      clear hK K
      simp only [Act.put, List.setIfInBounds_toArray, List.set_cons_zero, List.set_cons_succ]
      refine BigFrame.wpQuiet_want rfl (fun K hK => ?_)
      refine quiet_val (.int .i64 m) (fun w' hw' => by have e := HMN.out; go_simp) (hK _ ?_)
      clear hK K
      simp only [Act.put, List.setIfInBounds_toArray, List.set_cons_zero, List.set_cons_succ]
      refine BigFrame.wpQuiet_want rfl (fun K hK => ?_)
      refine quiet_call 18 #[.agg #[.int .i64 (c 0), .int .i64 (c 1), .int .i64 (c 2), .int .i64 (c 3)], .int .i64 m] (.agg #[.int .i64 (H 0), .int .i64 (H 1), .int .i64 (H 2), .int .i64 (H 3)]) (fun w' _ => by go_simp) (fun w' hw' => Calls.out hw' (HRPA.out w')) (hK _ ?_)
      clear hK K
      simp only [Act.put, List.setIfInBounds_toArray, List.set_cons_zero, List.set_cons_succ]
      refine BigFrame.wpQuiet_want rfl (fun K hK => ?_)
      refine quiet_call 15 #[.agg #[.int .u8 (H 0), .int .u8 (H 1), .int .u8 (H 2), .int .u8 (H 3)], .agg #[.int .i64 (H 0), .int .i64 (H 1), .int .i64 (H 2), .int .i64 (H 3)]] (.bool true) (fun w' _ => by go_simp) (fun w' hw' => Calls.out hw' (HISH.out w')) (hK _ ?_)
      clear hK K
      simp only [Act.put, List.setIfInBounds_toArray, List.set_cons_zero, List.set_cons_succ]
      refine BigFrame.wpQuiet_want rfl (fun K hK => ?_)
      refine quiet_val (.bool false) (fun w' hw' => by go_simp) (hK _ ?_)
      clear hK K
      simp only [Act.put, List.setIfInBounds_toArray, List.set_cons_zero, List.set_cons_succ]
      refine BigFrame.wpQuiet_want rfl (fun K hK => ?_)
      refine quiet_val (.bool false) (fun w' hw' => by go_simp) (hK _ ?_)
      clear hK K
      simp only [Act.put, List.setIfInBounds_toArray, List.set_cons_zero, List.set_cons_succ]
      refine BigFrame.wpQuiet_want rfl (fun K hK => ?_)
      refine quiet_val (.bool false) (fun w' hw' => by go_simp) (hK _ ?_)
      clear hK K
      simp only [Act.put, List.setIfInBounds_toArray, List.set_cons_zero, List.set_cons_succ]
      refine BigFrame.wpQuiet_want rfl (fun K hK => ?_)
      refine quiet_val (.agg #[.int .u8 (c 0), .int .u8 (c 1), .int .u8 (c 2), .int .u8 (c 3)]) (fun w' hw' => by obtain ⟨c0, c1, c2, c3⟩ := (HB2.out w' hw').1.c0; go_simp) (hK _ ?_)
      clear hK K
      simp only [Act.put, List.setIfInBounds_toArray, List.set_cons_zero, List.set_cons_succ]
      refine BigFrame.wpQuiet_want rfl (fun K hK => ?_)
      refine quiet_call 19 #[.agg #[.int .u8 (c 0), .int .u8 (c 1), .int .u8 (c 2), .int .u8 (c 3)]] (.bool false) (fun w' _ => by go_simp) (fun w' hw' => Calls.out hw' (HRI.out w')) (hK _ ?_)
      clear hK K
      simp only [Act.put, List.setIfInBounds_toArray, List.set_cons_zero, List.set_cons_succ]
      refine BigFrame.wpQuiet_want rfl (fun K hK => ?_)
      refine quiet_val (.agg #[.int .u8 (c 0), .int .u8 (c 1), .int .u8 (c 2), .int .u8 (c 3)]) (fun w' hw' => by obtain ⟨c0, c1, c2, c3⟩ := (HB2.out w' hw').1.c0; go_simp) (hK _ ?_)
      clear hK K
      simp only [Act.put, List.setIfInBounds_toArray, List.set_cons_zero, List.set_cons_succ]
      refine BigFrame.wpQuiet_want rfl (fun K hK => ?_)
      refine quiet_call 17 #[.agg #[.int .u8 (c 0), .int .u8 (c 1), .int .u8 (c 2), .int .u8 (c 3)]] (.agg #[.int .i64 (c 0), .int .i64 (c 1), .int .i64 (c 2), .int .i64 (c 3)]) (fun w' _ => by go_simp) (fun w' hw' => Calls.out hw' (HRC.out w')) (hK _ ?_)
      clear hK K
      simp only [Act.put, List.setIfInBounds_toArray, List.set_cons_zero, List.set_cons_succ]
      refine BigFrame.wpQuiet_want rfl (fun K hK => ?_)
      refine quiet_call 20 #[.agg #[.int .i64 (c 0), .int .i64 (c 1), .int .i64 (c 2), .int .i64 (c 3)]] (.bool false) (fun w' _ => by go_simp) (fun w' hw' => Calls.out hw' (HRRI.out w')) (hK _ ?_)
      clear hK K
      simp only [Act.put, List.setIfInBounds_toArray, List.set_cons_zero, List.set_cons_succ]
      refine BigFrame.wpQuiet_want rfl (fun K hK => ?_)
      refine quiet_val (.bool false) (fun w' hw' => by go_simp) (hK _ ?_)
      clear hK K
      simp only [Act.put, List.setIfInBounds_toArray, List.set_cons_zero, List.set_cons_succ]
      refine BigFrame.wpQuiet_want rfl (fun K hK => ?_)
      refine quiet_val (.bool false) (fun w' hw' => by go_simp) (hK _ ?_)
      clear hK K
      simp only [Act.put, List.setIfInBounds_toArray, List.set_cons_zero, List.set_cons_succ]
      refine wpQuiet_nil ?_
      intro w3 hb
      have HB3 : Hid (∀ A, Below w3.heap.size w3 A → Blk A w.heap.size 26 (c8 c) ∧ Blk A g7 26 (c8 G) ∧ Blk A g8 26 (c8 H)) := fun A hA => HB2.out A (hb.trans (hA.mono hb.size))
      have BW3 : Hid (Below w.heap.size w w3) := BW.out.trans (hb.mono BW.out.size)
      clear hb
      obtain ⟨c0, c1, c2, c3⟩ := (HB3.out w3 (Below.refl _ _)).1.c0
      go_wp2_with fail
      refine (HRI.out _).mono ?_
      rintro e w4 ⟨rfl, hb⟩
      have HB4 : Hid (∀ A, Below w4.heap.size w4 A → Blk A w.heap.size 26 (c8 c) ∧ Blk A g7 26 (c8 G) ∧ Blk A g8 26 (c8 H)) := fun A hA => HB3.out A (hb.trans (hA.mono hb.size))
      have BW4 : Hid (Below w.heap.size w w4) := BW3.out.trans (hb.mono BW3.out.size)
      clear hb c0 c1 c2 c3
      obtain ⟨c0, c1, c2, c3⟩ := (HB4.out w4 (Below.refl _ _)).1.c0
      go_wp2_with fail
      have HB9 : Hid (∀ A, Below w4.heap.size w4 A → Blk A w.heap.size 26 (c8 c)) := fun A hA => (HB4.out A hA).1
      refine (HST.out _).mono ?_
      rintro e w15 ⟨rfl, hb⟩
      clear c0 c1 c2 c3
      go_wp2_with fail
      obtain ⟨w16, hw16⟩ : ∃ W, w15.alloc (.cells #[.int .u8 (U 0), .int .u8 (U 1), .int .u8 (U 2), .int .u8 (U 3)] 26) = W := ⟨_, rfl⟩
      have HB16 : Hid (∀ A, Below w16.heap.size w16 A → Blk A w.heap.size 26 (c8 c) ∧ Blk A w15.heap.size 26 (c8 U)) := fun A hA => by
        rw [← hw16] at hA
        exact ⟨((HB9.out w15 hb).alloc _).grow hA, (Blk.new _ _ _).grow hA⟩
      have BW16 : Hid (Below w.heap.size w w16) := by
        rw [← hw16]
        have h5 := BW4.out.trans (hb.mono BW4.out.size)
        exact h5.alloc h5.size _
      rw [hw16]
      clear hb hw16
      generalize w15.heap.size = g9 at *
      refine wp_region_quiet (C := Out w16) (by kernel_rfl) (by kernel_rfl) ⟨rfl, rfl, rfl, Nat.le_refl _, fun _ _ => rfl⟩ ?_
      refine BigFrame.wpQuiet_want rfl (fun K hK => ?_)
      refine quiet_val (.agg #[.int .u8 (U 0), .int .u8 (U 1), .int .u8 (U 2), .int .u8 (U 3)]) (fun w' hw' => by obtain ⟨c0, c1, c2, c3⟩ := (HB16.out w' hw').2.c0; go_simp) (hK _ ?_)
      clear hK K
      simp only [Act.put, List.setIfInBounds_toArray, List.set_cons_zero, List.set_cons_succ]
      refine BigFrame.wpQuiet_want rfl (fun K hK => ?_)
      refine quiet_call 19 #[.agg #[.int .u8 (U 0), .int .u8 (U 1), .int .u8 (U 2), .int .u8 (U 3)]] (.bool true) (fun w' _ => by go_simp) (fun w' hw' => Calls.out hw' (HRK.out w')) (hK _ ?_)
      clear hK K
      simp only [Act.put, List.setIfInBounds_toArray, List.set_cons_zero, List.set_cons_succ]
      refine BigFrame.wpQuiet_want rfl (fun K hK => ?_)
      refine quiet_val (.bool true) (fun w' hw' => by go_simp) (hK _ ?_)
      clear hK K
      simp only [Act.put, List.setIfInBounds_toArray, List.set_cons_zero, List.set_cons_succ]
      refine BigFrame.wpQuiet_want rfl (fun K hK => ?_)
      refine quiet_val (.pointer (some ⟨g9, 3, none⟩)) (fun w' hw' => by go_simp) (hK _ ?_)
      clear hK K
      simp only [Act.put, List.setIfInBounds_toArray, List.set_cons_zero, List.set_cons_succ]
      refine BigFrame.wpQuiet_want rfl (fun K hK => ?_)
      refine quiet_val (.int .u8 b) (fun w' hw' => by have c3 := (HB16.out w' hw').2.c0.2.2.2; have e := HK3.out; rw [e] at c3; go_simp) (hK _ ?_)
      clear hK K
      simp only [Act.put, List.setIfInBounds_toArray, List.set_cons_zero, List.set_cons_succ]
      refine BigFrame.wpQuiet_want rfl (fun K hK => ?_)
      refine quiet_val (.int .u8 b) (fun w' hw' => by go_simp) (hK _ ?_)
      clear hK K
      simp only [Act.put, List.setIfInBounds_toArray, List.set_cons_zero, List.set_cons_succ]
      refine BigFrame.wpQuiet_want rfl (fun K hK => ?_)
      refine quiet_val (.bool true) (fun w' hw' => by go_simp) (hK _ ?_)
      clear hK K
      simp only [Act.put, List.setIfInBounds_toArray, List.set_cons_zero, List.set_cons_succ]
      refine BigFrame.wpQuiet_want rfl (fun K hK => ?_)
      refine quiet_val (.bool true) (fun w' hw' => by go_simp) (hK _ ?_)
      clear hK K
      simp only [Act.put, List.setIfInBounds_toArray, List.set_cons_zero, List.set_cons_succ]
      refine BigFrame.wpQuiet_want rfl (fun K hK => ?_)
      refine quiet_val (.bool true) (fun w' hw' => by go_simp) (hK _ ?_)
      clear hK K
      simp only [Act.put, List.setIfInBounds_toArray, List.set_cons_zero, List.set_cons_succ]
      refine BigFrame.wpQuiet_want rfl (fun K hK => ?_)
      refine quiet_val (.agg #[.int .u8 (U 0), .int .u8 (U 1), .int .u8 (U 2), .int .u8 (U 3)]) (fun w' hw' => by obtain ⟨c0, c1, c2, c3⟩ := (HB16.out w' hw').2.c0; go_simp) (hK _ ?_)
      clear hK K
      simp only [Act.put, List.setIfInBounds_toArray, List.set_cons_zero, List.set_cons_succ]
      refine BigFrame.wpQuiet_want rfl (fun K hK => ?_)
      refine quiet_val (.pointer (some ⟨w.heap.size, 0, none⟩)) (fun w' hw' => by go_simp) (hK _ ?_)
      clear hK K
      simp only [Act.put, List.setIfInBounds_toArray, List.set_cons_zero, List.set_cons_succ]
      refine BigFrame.wpQuiet_want rfl (fun K hK => ?_)
      refine quiet_val (.int .u8 (c 0)) (fun w' hw' => by obtain ⟨c0, c1, c2, c3⟩ := (HB16.out w' hw').1.c0; go_simp) (hK _ ?_)
      clear hK K
      simp only [Act.put, List.setIfInBounds_toArray, List.set_cons_zero, List.set_cons_succ]
      refine BigFrame.wpQuiet_want rfl (fun K hK => ?_)
      refine quiet_val (.int .i64 (c 0)) (fun w' hw' => by have e := E0.out; go_simp) (hK _ ?_)
      clear hK K
      simp only [Act.put, List.setIfInBounds_toArray, List.set_cons_zero, List.set_cons_succ]
      refine BigFrame.wpQuiet_want rfl (fun K hK => ?_)
      refine quiet_val (.pointer (some ⟨w.heap.size, 1, none⟩)) (fun w' hw' => by go_simp) (hK _ ?_)
      clear hK K
      simp only [Act.put, List.setIfInBounds_toArray, List.set_cons_zero, List.set_cons_succ]
      refine BigFrame.wpQuiet_want rfl (fun K hK => ?_)
      refine quiet_val (.int .u8 (c 1)) (fun w' hw' => by obtain ⟨c0, c1, c2, c3⟩ := (HB16.out w' hw').1.c0; go_simp) (hK _ ?_)
      clear hK K
      simp only [Act.put, List.setIfInBounds_toArray, List.set_cons_zero, List.set_cons_succ]
      refine BigFrame.wpQuiet_want rfl (fun K hK => ?_)
      refine quiet_val (.int .i64 (c 1)) (fun w' hw' => by have e := E1.out; go_simp) (hK _ ?_)
      clear hK K
      simp only [Act.put, List.setIfInBounds_toArray, List.set_cons_zero, List.set_cons_succ]
      refine BigFrame.wpQuiet_want rfl (fun K hK => ?_)
      refine quiet_val (.pointer (some ⟨w.heap.size, 2, none⟩)) (fun w' hw' => by go_simp) (hK _ ?_)
      clear hK K
      simp only [Act.put, List.setIfInBounds_toArray, List.set_cons_zero, List.set_cons_succ]
      refine BigFrame.wpQuiet_want rfl (fun K hK => ?_)
      refine quiet_val (.int .u8 (c 2)) (fun w' hw' => by obtain ⟨c0, c1, c2, c3⟩ := (HB16.out w' hw').1.c0; go_simp) (hK _ ?_)
      clear hK K
      simp only [Act.put, List.setIfInBounds_toArray, List.set_cons_zero, List.set_cons_succ]
      refine BigFrame.wpQuiet_want rfl (fun K hK => ?_)
      refine quiet_val (.int .i64 (c 2)) (fun w' hw' => by have e := E2.out; go_simp) (hK _ ?_)
      clear hK K
      simp only [Act.put, List.setIfInBounds_toArray, List.set_cons_zero, List.set_cons_succ]
      refine BigFrame.wpQuiet_want rfl (fun K hK => ?_)
      refine quiet_val (.agg #[.int .i64 (c 0), .int .i64 (c 1), .int .i64 (c 2), .int .i64 255]) (fun w' hw' => by go_simp) (hK _ ?_)
      clear hK K
      simp only [Act.put, List.setIfInBounds_toArray, List.set_cons_zero, List.set_cons_succ]
      refine BigFrame.wpQuiet_want rfl (fun K hK => ?_)
      refine quiet_val (.int .u8 b) (fun w' hw' => by go_simp) (hK _ ?_)
      clear hK K
      simp only [Act.put, List.setIfInBounds_toArray, List.set_cons_zero, List.set_cons_succ]
      refine BigFrame.wpQuiet_want rfl (fun K hK => ?_)
      refine quiet_val (.int .i64 b) (fun w' hw' => by have e := EB.out; go_simp) (hK _ ?_)
      clear hK K
      simp only [Act.put, List.setIfInBounds_toArray, List.set_cons_zero, List.set_cons_succ]
      refine BigFrame.wpQuiet_want rfl (fun K hK => ?_)
      refine quiet_call 16 #[.agg #[.int .i64 (c 0), .int .i64 (c 1), .int .i64 (c 2), .int .i64 255], .int .i64 b] (.agg #[.int .i64 (U 0), .int .i64 (U 1), .int .i64 (U 2), .int .i64 (U 3)]) (fun w' _ => by go_simp) (fun w' hw' => Calls.out hw' (HRST.out w')) (hK _ ?_)
      clear hK K
      simp only [Act.put, List.setIfInBounds_toArray, List.set_cons_zero, List.set_cons_succ]
      refine BigFrame.wpQuiet_want rfl (fun K hK => ?_)
      refine quiet_call 15 #[.agg #[.int .u8 (U 0), .int .u8 (U 1), .int .u8 (U 2), .int .u8 (U 3)], .agg #[.int .i64 (U 0), .int .i64 (U 1), .int .i64 (U 2), .int .i64 (U 3)]] (.bool true) (fun w' _ => by go_simp) (fun w' hw' => Calls.out hw' (HISK.out w')) (hK _ ?_)
      clear hK K
      simp only [Act.put, List.setIfInBounds_toArray, List.set_cons_zero, List.set_cons_succ]
      refine BigFrame.wpQuiet_want rfl (fun K hK => ?_)
      refine quiet_val (.bool true) (fun w' hw' => by go_simp) (hK _ ?_)
      clear hK K
      simp only [Act.put, List.setIfInBounds_toArray, List.set_cons_zero, List.set_cons_succ]
      refine BigFrame.wpQuiet_want rfl (fun K hK => ?_)
      refine quiet_val (.bool true) (fun w' hw' => by go_simp) (hK _ ?_)
      clear hK K
      simp only [Act.put, List.setIfInBounds_toArray, List.set_cons_zero, List.set_cons_succ]
      refine BigFrame.wpQuiet_want rfl (fun K hK => ?_)
      refine quiet_call 11 #[] (.bool true) (fun w' _ => by go_simp) (fun w' hw' => Calls.out hw' (HAW.out w')) (hK _ ?_)
      clear hK K
      simp only [Act.put, List.setIfInBounds_toArray, List.set_cons_zero, List.set_cons_succ]
      refine BigFrame.wpQuiet_want rfl (fun K hK => ?_)
      refine quiet_val (.bool true) (fun w' hw' => by go_simp) (hK _ ?_)
      clear hK K
      simp only [Act.put, List.setIfInBounds_toArray, List.set_cons_zero, List.set_cons_succ]
      refine BigFrame.wpQuiet_want rfl (fun K hK => ?_)
      refine quiet_val (.bool true) (fun w' hw' => by go_simp) (hK _ ?_)
      clear hK K
      simp only [Act.put, List.setIfInBounds_toArray, List.set_cons_zero, List.set_cons_succ]
      refine wpQuiet_nil ?_
      intro w17 hb
      have B7 : Hid (Below w.heap.size w w17) := BW16.out.trans (hb.mono BW16.out.size)
      clear hb
      go_wp2_with fail
      go_ret
      exact ⟨rfl, B7.out⟩
    · rw [hrc] at HRI HRRI
      rw [(HGT.out hrc).1] at HRG
      rw [(HGT.out hrc).2] at HRH
      clear HGT
      refine wp_region_quiet (C := Out w2) (by kernel_rfl) (by kernel_rfl) ⟨rfl, rfl, rfl, Nat.le_refl _, fun _ _ => rfl⟩ ?_
      refine BigFrame.wpQuiet_want rfl (fun K hK => ?_)
      refine quiet_val (.agg #[.int .u8 (G 0), .int .u8 (G 1), .int .u8 (G 2), .int .u8 (G 3)]) (fun w' hw' => by obtain ⟨c0, c1, c2, c3⟩ := (HB2.out w' hw').2.1.c0; go_simp) (hK _ ?_)
      clear hK K
      simp only [Act.put, List.setIfInBounds_toArray, List.set_cons_zero, List.set_cons_succ]
      refine BigFrame.wpQuiet_want rfl (fun K hK => ?_)
      refine quiet_val (.agg #[.int .u8 (c 0), .int .u8 (c 1), .int .u8 (c 2), .int .u8 (c 3)]) (fun w' hw' => by obtain ⟨c0, c1, c2, c3⟩ := (HB2.out w' hw').1.c0; go_simp) (hK _ ?_)
      clear hK K
      simp only [Act.put, List.setIfInBounds_toArray, List.set_cons_zero, List.set_cons_succ]
      refine BigFrame.wpQuiet_want rfl (fun K hK => ?_)
      refine quiet_call 17 #[.agg #[.int .u8 (c 0), .int .u8 (c 1), .int .u8 (c 2), .int .u8 (c 3)]] (.agg #[.int .i64 (c 0), .int .i64 (c 1), .int .i64 (c 2), .int .i64 (c 3)]) (fun w' _ => by go_simp) (fun w' hw' => Calls.out hw' (HRC.out w')) (hK _ ?_)
      clear hK K
      simp only [Act.put, List.setIfInBounds_toArray, List.set_cons_zero, List.set_cons_succ]
      refine BigFrame.wpQuiet_want rfl (fun K hK => ?_)
      refine quiet_val (.int .u8 b) (fun w' hw' => by go_simp) (hK _ ?_)
      clear hK K
      simp only [Act.put, List.setIfInBounds_toArray, List.set_cons_zero, List.set_cons_succ]
      refine BigFrame.wpQuiet_want rfl (fun K hK => ?_)
      refine quiet_val (.int .i64 b) (fun w' hw' => by have e := EB.out; go_simp) (hK _ ?_)
      clear hK K
      simp only [Act.put, List.setIfInBounds_toArray, List.set_cons_zero, List.set_cons_succ]
      refine BigFrame.wpQuiet_want rfl (fun K hK => ?_)
      refine quiet_call 16 #[.agg #[.int .i64 (c 0), .int .i64 (c 1), .int .i64 (c 2), .int .i64 (c 3)], .int .i64 b] (.agg #[.int .i64 (G 0), .int .i64 (G 1), .int .i64 (G 2), .int .i64 (G 3)]) (fun w' _ => by go_simp) (fun w' hw' => Calls.out hw' (HRFA.out w')) (hK _ ?_)
      clear hK K
      simp only [Act.put, List.setIfInBounds_toArray, List.set_cons_zero, List.set_cons_succ]
      refine BigFrame.wpQuiet_want rfl (fun K hK => ?_)
      refine quiet_call 15 #[.agg #[.int .u8 (G 0), .int .u8 (G 1), .int .u8 (G 2), .int .u8 (G 3)], .agg #[.int .i64 (G 0), .int .i64 (G 1), .int .i64 (G 2), .int .i64 (G 3)]] (.bool true) (fun w' _ => by go_simp) (fun w' hw' => Calls.out hw' (HISG.out w')) (hK _ ?_)
      clear hK K
      simp only [Act.put, List.setIfInBounds_toArray, List.set_cons_zero, List.set_cons_succ]
      refine BigFrame.wpQuiet_want rfl (fun K hK => ?_)
      refine quiet_val (.bool false) (fun w' hw' => by go_simp) (hK _ ?_)
      clear hK K
      simp only [Act.put, List.setIfInBounds_toArray, List.set_cons_zero, List.set_cons_succ]
      refine BigFrame.wpQuiet_want rfl (fun K hK => ?_)
      refine quiet_val (.bool false) (fun w' hw' => by go_simp) (hK _ ?_)
      clear hK K
      simp only [Act.put, List.setIfInBounds_toArray, List.set_cons_zero, List.set_cons_succ]
      refine BigFrame.wpQuiet_want rfl (fun K hK => ?_)
      refine quiet_val (.agg #[.int .u8 (H 0), .int .u8 (H 1), .int .u8 (H 2), .int .u8 (H 3)]) (fun w' hw' => by obtain ⟨c0, c1, c2, c3⟩ := (HB2.out w' hw').2.2.c0; go_simp) (hK _ ?_)
      clear hK K
      simp only [Act.put, List.setIfInBounds_toArray, List.set_cons_zero, List.set_cons_succ]
      refine BigFrame.wpQuiet_want rfl (fun K hK => ?_)
      refine quiet_val (.agg #[.int .u8 (c 0), .int .u8 (c 1), .int .u8 (c 2), .int .u8 (c 3)]) (fun w' hw' => by obtain ⟨c0, c1, c2, c3⟩ := (HB2.out w' hw').1.c0; go_simp) (hK _ ?_)
      clear hK K
      simp only [Act.put, List.setIfInBounds_toArray, List.set_cons_zero, List.set_cons_succ]
      refine BigFrame.wpQuiet_want rfl (fun K hK => ?_)
      refine quiet_call 17 #[.agg #[.int .u8 (c 0), .int .u8 (c 1), .int .u8 (c 2), .int .u8 (c 3)]] (.agg #[.int .i64 (c 0), .int .i64 (c 1), .int .i64 (c 2), .int .i64 (c 3)]) (fun w' _ => by go_simp) (fun w' hw' => Calls.out hw' (HRC.out w')) (hK _ ?_)
      clear hK K
      simp only [Act.put, List.setIfInBounds_toArray, List.set_cons_zero, List.set_cons_succ]
      refine BigFrame.wpQuiet_want rfl (fun K hK => ?_)
      refine quiet_val (.int .i64 n) (fun w' hw' => by go_simp) (hK _ ?_)
      clear hK K
      simp only [Act.put, List.setIfInBounds_toArray, List.set_cons_zero, List.set_cons_succ]
      refine BigFrame.wpQuiet_want rfl (fun K hK => ?_)
      refine quiet_val (.int .i64 (max n 0)) (fun w' hw' => by go_simp) (hK _ ?_)
      clear hK K
      simp only [Act.put, List.setIfInBounds_toArray, List.set_cons_zero, List.set_cons_succ]
      refine BigFrame.wpQuiet_want rfl (fun K hK => ?_)
      refine quiet_val (.int .i64 m) (fun w' hw' => by have e := HMN.out; go_simp) (hK _ ?_)
      clear hK K
      simp only [Act.put, List.setIfInBounds_toArray, List.set_cons_zero, List.set_cons_succ]
      refine BigFrame.wpQuiet_want rfl (fun K hK => ?_)
      refine quiet_call 18 #[.agg #[.int .i64 (c 0), .int .i64 (c 1), .int .i64 (c 2), .int .i64 (c 3)], .int .i64 m] (.agg #[.int .i64 (H 0), .int .i64 (H 1), .int .i64 (H 2), .int .i64 (H 3)]) (fun w' _ => by go_simp) (fun w' hw' => Calls.out hw' (HRPA.out w')) (hK _ ?_)
      clear hK K
      simp only [Act.put, List.setIfInBounds_toArray, List.set_cons_zero, List.set_cons_succ]
      refine BigFrame.wpQuiet_want rfl (fun K hK => ?_)
      refine quiet_call 15 #[.agg #[.int .u8 (H 0), .int .u8 (H 1), .int .u8 (H 2), .int .u8 (H 3)], .agg #[.int .i64 (H 0), .int .i64 (H 1), .int .i64 (H 2), .int .i64 (H 3)]] (.bool true) (fun w' _ => by go_simp) (fun w' hw' => Calls.out hw' (HISH.out w')) (hK _ ?_)
      clear hK K
      simp only [Act.put, List.setIfInBounds_toArray, List.set_cons_zero, List.set_cons_succ]
      refine BigFrame.wpQuiet_want rfl (fun K hK => ?_)
      refine quiet_val (.bool false) (fun w' hw' => by go_simp) (hK _ ?_)
      clear hK K
      simp only [Act.put, List.setIfInBounds_toArray, List.set_cons_zero, List.set_cons_succ]
      refine BigFrame.wpQuiet_want rfl (fun K hK => ?_)
      refine quiet_val (.bool false) (fun w' hw' => by go_simp) (hK _ ?_)
      clear hK K
      simp only [Act.put, List.setIfInBounds_toArray, List.set_cons_zero, List.set_cons_succ]
      refine BigFrame.wpQuiet_want rfl (fun K hK => ?_)
      refine quiet_val (.bool false) (fun w' hw' => by go_simp) (hK _ ?_)
      clear hK K
      simp only [Act.put, List.setIfInBounds_toArray, List.set_cons_zero, List.set_cons_succ]
      refine BigFrame.wpQuiet_want rfl (fun K hK => ?_)
      refine quiet_val (.agg #[.int .u8 (c 0), .int .u8 (c 1), .int .u8 (c 2), .int .u8 (c 3)]) (fun w' hw' => by obtain ⟨c0, c1, c2, c3⟩ := (HB2.out w' hw').1.c0; go_simp) (hK _ ?_)
      clear hK K
      simp only [Act.put, List.setIfInBounds_toArray, List.set_cons_zero, List.set_cons_succ]
      refine BigFrame.wpQuiet_want rfl (fun K hK => ?_)
      refine quiet_call 19 #[.agg #[.int .u8 (c 0), .int .u8 (c 1), .int .u8 (c 2), .int .u8 (c 3)]] (.bool true) (fun w' _ => by go_simp) (fun w' hw' => Calls.out hw' (HRI.out w')) (hK _ ?_)
      clear hK K
      simp only [Act.put, List.setIfInBounds_toArray, List.set_cons_zero, List.set_cons_succ]
      refine BigFrame.wpQuiet_want rfl (fun K hK => ?_)
      refine quiet_val (.agg #[.int .u8 (c 0), .int .u8 (c 1), .int .u8 (c 2), .int .u8 (c 3)]) (fun w' hw' => by obtain ⟨c0, c1, c2, c3⟩ := (HB2.out w' hw').1.c0; go_simp) (hK _ ?_)
      clear hK K
      simp only [Act.put, List.setIfInBounds_toArray, List.set_cons_zero, List.set_cons_succ]
      refine BigFrame.wpQuiet_want rfl (fun K hK => ?_)
      refine quiet_call 17 #[.agg #[.int .u8 (c 0), .int .u8 (c 1), .int .u8 (c 2), .int .u8 (c 3)]] (.agg #[.int .i64 (c 0), .int .i64 (c 1), .int .i64 (c 2), .int .i64 (c 3)]) (fun w' _ => by go_simp) (fun w' hw' => Calls.out hw' (HRC.out w')) (hK _ ?_)
      clear hK K
      simp only [Act.put, List.setIfInBounds_toArray, List.set_cons_zero, List.set_cons_succ]
      refine BigFrame.wpQuiet_want rfl (fun K hK => ?_)
      refine quiet_call 20 #[.agg #[.int .i64 (c 0), .int .i64 (c 1), .int .i64 (c 2), .int .i64 (c 3)]] (.bool true) (fun w' _ => by go_simp) (fun w' hw' => Calls.out hw' (HRRI.out w')) (hK _ ?_)
      clear hK K
      simp only [Act.put, List.setIfInBounds_toArray, List.set_cons_zero, List.set_cons_succ]
      refine BigFrame.wpQuiet_want rfl (fun K hK => ?_)
      refine quiet_val (.bool false) (fun w' hw' => by go_simp) (hK _ ?_)
      clear hK K
      simp only [Act.put, List.setIfInBounds_toArray, List.set_cons_zero, List.set_cons_succ]
      refine BigFrame.wpQuiet_want rfl (fun K hK => ?_)
      refine quiet_val (.bool false) (fun w' hw' => by go_simp) (hK _ ?_)
      clear hK K
      simp only [Act.put, List.setIfInBounds_toArray, List.set_cons_zero, List.set_cons_succ]
      refine wpQuiet_nil ?_
      intro w3 hb
      have HB3 : Hid (∀ A, Below w3.heap.size w3 A → Blk A w.heap.size 26 (c8 c) ∧ Blk A g7 26 (c8 G) ∧ Blk A g8 26 (c8 H)) := fun A hA => HB2.out A (hb.trans (hA.mono hb.size))
      have BW3 : Hid (Below w.heap.size w w3) := BW.out.trans (hb.mono BW.out.size)
      clear hb
      obtain ⟨c0, c1, c2, c3⟩ := (HB3.out w3 (Below.refl _ _)).1.c0
      go_wp2_with fail
      refine (HRI.out _).mono ?_
      rintro e w4 ⟨rfl, hb⟩
      have HB4 : Hid (∀ A, Below w4.heap.size w4 A → Blk A w.heap.size 26 (c8 c) ∧ Blk A g7 26 (c8 G) ∧ Blk A g8 26 (c8 H)) := fun A hA => HB3.out A (hb.trans (hA.mono hb.size))
      have BW4 : Hid (Below w.heap.size w w4) := BW3.out.trans (hb.mono BW3.out.size)
      clear hb c0 c1 c2 c3
      obtain ⟨c0, c1, c2, c3⟩ := (HB4.out w4 (Below.refl _ _)).2.1.c0
      go_wp2_with fail
      refine (HRG.out _).mono ?_
      rintro e w5 ⟨rfl, hb⟩
      have HB5 : Hid (∀ A, Below w5.heap.size w5 A → Blk A w.heap.size 26 (c8 c) ∧ Blk A g7 26 (c8 G) ∧ Blk A g8 26 (c8 H)) := fun A hA => HB4.out A (hb.trans (hA.mono hb.size))
      have BW5 : Hid (Below w.heap.size w w5) := BW4.out.trans (hb.mono BW4.out.size)
      clear hb c0 c1 c2 c3
      obtain ⟨c0, c1, c2, c3⟩ := (HB5.out w5 (Below.refl _ _)).2.2.c0
      go_wp2_with fail
      refine (HRH.out _).mono ?_
      rintro e w6 ⟨rfl, hb⟩
      have HB6 : Hid (∀ A, Below w6.heap.size w6 A → Blk A w.heap.size 26 (c8 c) ∧ Blk A g7 26 (c8 G) ∧ Blk A g8 26 (c8 H)) := fun A hA => HB5.out A (hb.trans (hA.mono hb.size))
      have BW6 : Hid (Below w.heap.size w w6) := BW5.out.trans (hb.mono BW5.out.size)
      clear hb c0 c1 c2 c3
      obtain ⟨c0, c1, c2, c3⟩ := (HB6.out w6 (Below.refl _ _)).1.c0
      go_wp2_with fail
      have HB9 : Hid (∀ A, Below w6.heap.size w6 A → Blk A w.heap.size 26 (c8 c)) := fun A hA => (HB6.out A hA).1
      refine (HST.out _).mono ?_
      rintro e w15 ⟨rfl, hb⟩
      clear c0 c1 c2 c3
      go_wp2_with fail
      obtain ⟨w16, hw16⟩ : ∃ W, w15.alloc (.cells #[.int .u8 (U 0), .int .u8 (U 1), .int .u8 (U 2), .int .u8 (U 3)] 26) = W := ⟨_, rfl⟩
      have HB16 : Hid (∀ A, Below w16.heap.size w16 A → Blk A w.heap.size 26 (c8 c) ∧ Blk A w15.heap.size 26 (c8 U)) := fun A hA => by
        rw [← hw16] at hA
        exact ⟨((HB9.out w15 hb).alloc _).grow hA, (Blk.new _ _ _).grow hA⟩
      have BW16 : Hid (Below w.heap.size w w16) := by
        rw [← hw16]
        have h5 := BW6.out.trans (hb.mono BW6.out.size)
        exact h5.alloc h5.size _
      rw [hw16]
      clear hb hw16
      generalize w15.heap.size = g9 at *
      refine wp_region_quiet (C := Out w16) (by kernel_rfl) (by kernel_rfl) ⟨rfl, rfl, rfl, Nat.le_refl _, fun _ _ => rfl⟩ ?_
      refine BigFrame.wpQuiet_want rfl (fun K hK => ?_)
      refine quiet_val (.agg #[.int .u8 (U 0), .int .u8 (U 1), .int .u8 (U 2), .int .u8 (U 3)]) (fun w' hw' => by obtain ⟨c0, c1, c2, c3⟩ := (HB16.out w' hw').2.c0; go_simp) (hK _ ?_)
      clear hK K
      simp only [Act.put, List.setIfInBounds_toArray, List.set_cons_zero, List.set_cons_succ]
      refine BigFrame.wpQuiet_want rfl (fun K hK => ?_)
      refine quiet_call 19 #[.agg #[.int .u8 (U 0), .int .u8 (U 1), .int .u8 (U 2), .int .u8 (U 3)]] (.bool true) (fun w' _ => by go_simp) (fun w' hw' => Calls.out hw' (HRK.out w')) (hK _ ?_)
      clear hK K
      simp only [Act.put, List.setIfInBounds_toArray, List.set_cons_zero, List.set_cons_succ]
      refine BigFrame.wpQuiet_want rfl (fun K hK => ?_)
      refine quiet_val (.bool true) (fun w' hw' => by go_simp) (hK _ ?_)
      clear hK K
      simp only [Act.put, List.setIfInBounds_toArray, List.set_cons_zero, List.set_cons_succ]
      refine BigFrame.wpQuiet_want rfl (fun K hK => ?_)
      refine quiet_val (.pointer (some ⟨g9, 3, none⟩)) (fun w' hw' => by go_simp) (hK _ ?_)
      clear hK K
      simp only [Act.put, List.setIfInBounds_toArray, List.set_cons_zero, List.set_cons_succ]
      refine BigFrame.wpQuiet_want rfl (fun K hK => ?_)
      refine quiet_val (.int .u8 b) (fun w' hw' => by have c3 := (HB16.out w' hw').2.c0.2.2.2; have e := HK3.out; rw [e] at c3; go_simp) (hK _ ?_)
      clear hK K
      simp only [Act.put, List.setIfInBounds_toArray, List.set_cons_zero, List.set_cons_succ]
      refine BigFrame.wpQuiet_want rfl (fun K hK => ?_)
      refine quiet_val (.int .u8 b) (fun w' hw' => by go_simp) (hK _ ?_)
      clear hK K
      simp only [Act.put, List.setIfInBounds_toArray, List.set_cons_zero, List.set_cons_succ]
      refine BigFrame.wpQuiet_want rfl (fun K hK => ?_)
      refine quiet_val (.bool true) (fun w' hw' => by go_simp) (hK _ ?_)
      clear hK K
      simp only [Act.put, List.setIfInBounds_toArray, List.set_cons_zero, List.set_cons_succ]
      refine BigFrame.wpQuiet_want rfl (fun K hK => ?_)
      refine quiet_val (.bool true) (fun w' hw' => by go_simp) (hK _ ?_)
      clear hK K
      simp only [Act.put, List.setIfInBounds_toArray, List.set_cons_zero, List.set_cons_succ]
      refine BigFrame.wpQuiet_want rfl (fun K hK => ?_)
      refine quiet_val (.bool true) (fun w' hw' => by go_simp) (hK _ ?_)
      clear hK K
      simp only [Act.put, List.setIfInBounds_toArray, List.set_cons_zero, List.set_cons_succ]
      refine BigFrame.wpQuiet_want rfl (fun K hK => ?_)
      refine quiet_val (.agg #[.int .u8 (U 0), .int .u8 (U 1), .int .u8 (U 2), .int .u8 (U 3)]) (fun w' hw' => by obtain ⟨c0, c1, c2, c3⟩ := (HB16.out w' hw').2.c0; go_simp) (hK _ ?_)
      clear hK K
      simp only [Act.put, List.setIfInBounds_toArray, List.set_cons_zero, List.set_cons_succ]
      refine BigFrame.wpQuiet_want rfl (fun K hK => ?_)
      refine quiet_val (.pointer (some ⟨w.heap.size, 0, none⟩)) (fun w' hw' => by go_simp) (hK _ ?_)
      clear hK K
      simp only [Act.put, List.setIfInBounds_toArray, List.set_cons_zero, List.set_cons_succ]
      refine BigFrame.wpQuiet_want rfl (fun K hK => ?_)
      refine quiet_val (.int .u8 (c 0)) (fun w' hw' => by obtain ⟨c0, c1, c2, c3⟩ := (HB16.out w' hw').1.c0; go_simp) (hK _ ?_)
      clear hK K
      simp only [Act.put, List.setIfInBounds_toArray, List.set_cons_zero, List.set_cons_succ]
      refine BigFrame.wpQuiet_want rfl (fun K hK => ?_)
      refine quiet_val (.int .i64 (c 0)) (fun w' hw' => by have e := E0.out; go_simp) (hK _ ?_)
      clear hK K
      simp only [Act.put, List.setIfInBounds_toArray, List.set_cons_zero, List.set_cons_succ]
      refine BigFrame.wpQuiet_want rfl (fun K hK => ?_)
      refine quiet_val (.pointer (some ⟨w.heap.size, 1, none⟩)) (fun w' hw' => by go_simp) (hK _ ?_)
      clear hK K
      simp only [Act.put, List.setIfInBounds_toArray, List.set_cons_zero, List.set_cons_succ]
      refine BigFrame.wpQuiet_want rfl (fun K hK => ?_)
      refine quiet_val (.int .u8 (c 1)) (fun w' hw' => by obtain ⟨c0, c1, c2, c3⟩ := (HB16.out w' hw').1.c0; go_simp) (hK _ ?_)
      clear hK K
      simp only [Act.put, List.setIfInBounds_toArray, List.set_cons_zero, List.set_cons_succ]
      refine BigFrame.wpQuiet_want rfl (fun K hK => ?_)
      refine quiet_val (.int .i64 (c 1)) (fun w' hw' => by have e := E1.out; go_simp) (hK _ ?_)
      clear hK K
      simp only [Act.put, List.setIfInBounds_toArray, List.set_cons_zero, List.set_cons_succ]
      refine BigFrame.wpQuiet_want rfl (fun K hK => ?_)
      refine quiet_val (.pointer (some ⟨w.heap.size, 2, none⟩)) (fun w' hw' => by go_simp) (hK _ ?_)
      clear hK K
      simp only [Act.put, List.setIfInBounds_toArray, List.set_cons_zero, List.set_cons_succ]
      refine BigFrame.wpQuiet_want rfl (fun K hK => ?_)
      refine quiet_val (.int .u8 (c 2)) (fun w' hw' => by obtain ⟨c0, c1, c2, c3⟩ := (HB16.out w' hw').1.c0; go_simp) (hK _ ?_)
      clear hK K
      simp only [Act.put, List.setIfInBounds_toArray, List.set_cons_zero, List.set_cons_succ]
      refine BigFrame.wpQuiet_want rfl (fun K hK => ?_)
      refine quiet_val (.int .i64 (c 2)) (fun w' hw' => by have e := E2.out; go_simp) (hK _ ?_)
      clear hK K
      simp only [Act.put, List.setIfInBounds_toArray, List.set_cons_zero, List.set_cons_succ]
      refine BigFrame.wpQuiet_want rfl (fun K hK => ?_)
      refine quiet_val (.agg #[.int .i64 (c 0), .int .i64 (c 1), .int .i64 (c 2), .int .i64 255]) (fun w' hw' => by go_simp) (hK _ ?_)
      clear hK K
      simp only [Act.put, List.setIfInBounds_toArray, List.set_cons_zero, List.set_cons_succ]
      refine BigFrame.wpQuiet_want rfl (fun K hK => ?_)
      refine quiet_val (.int .u8 b) (fun w' hw' => by go_simp) (hK _ ?_)
      clear hK K
      simp only [Act.put, List.setIfInBounds_toArray, List.set_cons_zero, List.set_cons_succ]
      refine BigFrame.wpQuiet_want rfl (fun K hK => ?_)
      refine quiet_val (.int .i64 b) (fun w' hw' => by have e := EB.out; go_simp) (hK _ ?_)
      clear hK K
      simp only [Act.put, List.setIfInBounds_toArray, List.set_cons_zero, List.set_cons_succ]
      refine BigFrame.wpQuiet_want rfl (fun K hK => ?_)
      refine quiet_call 16 #[.agg #[.int .i64 (c 0), .int .i64 (c 1), .int .i64 (c 2), .int .i64 255], .int .i64 b] (.agg #[.int .i64 (U 0), .int .i64 (U 1), .int .i64 (U 2), .int .i64 (U 3)]) (fun w' _ => by go_simp) (fun w' hw' => Calls.out hw' (HRST.out w')) (hK _ ?_)
      clear hK K
      simp only [Act.put, List.setIfInBounds_toArray, List.set_cons_zero, List.set_cons_succ]
      refine BigFrame.wpQuiet_want rfl (fun K hK => ?_)
      refine quiet_call 15 #[.agg #[.int .u8 (U 0), .int .u8 (U 1), .int .u8 (U 2), .int .u8 (U 3)], .agg #[.int .i64 (U 0), .int .i64 (U 1), .int .i64 (U 2), .int .i64 (U 3)]] (.bool true) (fun w' _ => by go_simp) (fun w' hw' => Calls.out hw' (HISK.out w')) (hK _ ?_)
      clear hK K
      simp only [Act.put, List.setIfInBounds_toArray, List.set_cons_zero, List.set_cons_succ]
      refine BigFrame.wpQuiet_want rfl (fun K hK => ?_)
      refine quiet_val (.bool true) (fun w' hw' => by go_simp) (hK _ ?_)
      clear hK K
      simp only [Act.put, List.setIfInBounds_toArray, List.set_cons_zero, List.set_cons_succ]
      refine BigFrame.wpQuiet_want rfl (fun K hK => ?_)
      refine quiet_val (.bool true) (fun w' hw' => by go_simp) (hK _ ?_)
      clear hK K
      simp only [Act.put, List.setIfInBounds_toArray, List.set_cons_zero, List.set_cons_succ]
      refine BigFrame.wpQuiet_want rfl (fun K hK => ?_)
      refine quiet_call 11 #[] (.bool true) (fun w' _ => by go_simp) (fun w' hw' => Calls.out hw' (HAW.out w')) (hK _ ?_)
      clear hK K
      simp only [Act.put, List.setIfInBounds_toArray, List.set_cons_zero, List.set_cons_succ]
      refine BigFrame.wpQuiet_want rfl (fun K hK => ?_)
      refine quiet_val (.bool true) (fun w' hw' => by go_simp) (hK _ ?_)
      clear hK K
      simp only [Act.put, List.setIfInBounds_toArray, List.set_cons_zero, List.set_cons_succ]
      refine BigFrame.wpQuiet_want rfl (fun K hK => ?_)
      refine quiet_val (.bool true) (fun w' hw' => by go_simp) (hK _ ?_)
      clear hK K
      simp only [Act.put, List.setIfInBounds_toArray, List.set_cons_zero, List.set_cons_succ]
      refine wpQuiet_nil ?_
      intro w17 hb
      have B7 : Hid (Below w.heap.size w w17) := BW16.out.trans (hb.mono BW16.out.size)
      clear hb
      go_wp2_with fail
      go_ret
      exact ⟨rfl, B7.out⟩
end Go.Proofs.Ytcbldamlfjkppaa
