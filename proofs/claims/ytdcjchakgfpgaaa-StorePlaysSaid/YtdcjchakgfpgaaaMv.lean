/- Layer 14: the law's is. -/
import Derived.Test.YtdcjchakgfpgaaaMu
namespace Go.Proofs.Ytdcjchakgfpgaaa
open Go.RowKit
set_option maxHeartbeats 4000000 in
set_option maxRecDepth 100000 in
theorem is_c {U : Nat → Prop} {w : World} {a g : Nat} {s : SM} {v1 v2 : Value} {S1 S2 : List Int} (st : SS U w a g s) (ok : OkD s.d 1000) (sok : SOk s.d s.h s.D) (hl : s.D.length ≤ 31000) (r1 : RowB w v1 S1) (r2 : RowB w v2 S2) (o1 : OkB S1) (o2 : OkB S2) :
    Calls Try.prog 21 #[ptrD a, v1, v2] w fun e w' => e = .returned (.bool (decide (s.D.take s.h.snap.toNat = S1 ∧ s.D.drop s.h.snap.toNat = S2))) ∧ Below w.heap.size w w' := by
  obtain ⟨d, h, D, f⟩ := s
  dsimp only at *
  obtain ⟨T, sv, hd, sat, hU⟩ := st
  dsimp only at hd sat
  obtain ⟨b1, c1, hv1⟩ := r1.shape
  obtain ⟨b2, c2, hv2⟩ := r2.shape
  obtain ⟨M1, hM1⟩ : ∃ M, S1.length = M := ⟨_, rfl⟩
  obtain ⟨M2, hM2⟩ : ∃ M, S2.length = M := ⟨_, rfl⟩
  rw [hM1] at hv1
  rw [hM2] at hv2
  subst hv1 hv2
  obtain ⟨SN, hSN⟩ : ∃ x, D.take h.snap.toNat = x := ⟨_, rfl⟩
  obtain ⟨LG, hLG⟩ : ∃ x, D.drop h.snap.toNat = x := ⟨_, rfl⟩
  obtain ⟨L, hL⟩ : ∃ x, D.length = x := ⟨_, rfl⟩
  obtain ⟨c, hc⟩ : ∃ x, capI d = x := ⟨_, rfl⟩
  have hcl := capI_le ok.made
  have hcp := sok.cap
  rw [hc] at hcl hcp
  rw [hL] at hcp
  have HX := Lib.hid (And.intro hd sat)
  have HSN : Hid (∀ W, Below w.heap.size w W → Calls Try.prog 44 #[ptrD a] W fun e w' => ∃ v, e = .returned v ∧ OwnB w' W.heap.size v SN ∧ Below W.heap.size W w') := fun W hW => by
    rw [← hSN]
    exact sSnap_c (HX.out.2.grow hW) sok hl
  have HLG : Hid (∀ W, Below w.heap.size w W → Calls Try.prog 25 #[ptrD a] W fun e w' => ∃ v, e = .returned v ∧ OwnB w' W.heap.size v LG ∧ Below W.heap.size W w') := fun W hW => by
    rw [← hLG]
    exact sLog_c (HX.out.2.grow hW) sok hl
  have HUS : Hid (∀ W, Below w.heap.size w W → Calls Try.prog 42 #[ptrD a] W fun e w' => e = .returned (.int .i64 (L : Int)) ∧ Below W.heap.size W w') := fun W hW => by
    have key := sUsed_c (HX.out.2.grow hW) sok ok.made
    rw [hL] at key
    exact key
  have HRM : Hid (∀ W, Below w.heap.size w W → Calls Try.prog 41 #[ptrD a] W fun e w' => e = .returned (.int .i64 (c - (L : Int))) ∧ Below W.heap.size W w') := fun W hW => by
    have key := sRoom_c (at_grow HX.out.1 hW) ok (HX.out.2.grow hW) sok
    rw [hL, hc] at key
    exact key
  have HCP : Hid (∀ W, Below w.heap.size w W → Calls Try.prog 18 #[ptrD a] W fun e w' => e = .returned (.int .i64 c) ∧ Below W.heap.size W w') := fun W hW => by
    have key := sCap_c (at_grow HX.out.1 hW) ok (HX.out.2.grow hW)
    rw [hc] at key
    exact key
  have HR1 := Lib.hid r1
  have HR2 := Lib.hid r2
  have HK1 : Hid (OkB SN) := by rw [← hSN]; exact fun x hx => sok.byts x (List.mem_of_mem_take hx)
  have HK3 : Hid (OkB LG) := by rw [← hLG]; exact fun x hx => sok.byts x (List.mem_of_mem_drop hx)
  have HK2 := Lib.hid o1
  have HK4 := Lib.hid o2
  have HLN : Hid (SN = S1 → LG = S2 → L = M1 + M2) := fun h1 h2 => by
    have e := congrArg List.length (List.take_append_drop h.snap.toNat D)
    rw [List.length_append, hSN, hLG, h1, h2] at e
    omega
  obtain ⟨s1, hs1⟩ : ∃ s, strI SN = s := ⟨_, rfl⟩
  obtain ⟨s2, hs2⟩ : ∃ s, strI S1 = s := ⟨_, rfl⟩
  obtain ⟨s3, hs3⟩ : ∃ s, strI LG = s := ⟨_, rfl⟩
  obtain ⟨s4, hs4⟩ : ∃ s, strI S2 = s := ⟨_, rfl⟩
  have HS1 := Lib.hid hs1
  have HS2 := Lib.hid hs2
  have HS3 := Lib.hid hs3
  have HS4 := Lib.hid hs4
  have HCL : Hid (0 ≤ c ∧ c ≤ 2000000 ∧ (L : Int) ≤ c ∧ L ≤ 31000) := ⟨hcl.1, by omega, hcp, by omega⟩
  rw [hSN, hLG]
  clear hd sat hU r1 r2 o1 o2 ok sok hl hSN hLG hL hc hcl hcp hs1 hs2 hs3 hs4 hM1 hM2
  by_cases k1 : ¬ SN = S1
  · have HE1 : Hid ((s1.toList == s2.toList) = false) := Lib.hid (by rw [← HS1.out, ← HS2.out, strI_beq HK1.out HK2.out]; exact decide_eq_false k1)
    have HRS : decide (SN = S1 ∧ LG = S2) = false := decide_eq_false (fun h => k1 h.1)
    rw [HRS]
    clear k1 HRS
    go_enter Try.func21, Try.ntmps21
    go_upto_region 1 with fail
    refine wp_region_put3 (by kernel_rfl) (by kernel_rfl) (by kernel_rfl) (fun b' vs w' => (b' 0 = true → vs 0 = ptrD a) ∧ (b' 2 = true → vs 2 = .string s1) ∧ (b' 3 = true → vs 3 = .slice b1 M1 c1) ∧ (b' 4 = true → vs 4 = .string s2) ∧ (b' 5 = true → vs 5 = .bool false) ∧ (b' 6 = true → vs 6 = .bool false) ∧ (b' 7 = true → vs 7 = undef) ∧ (b' 8 = true → vs 8 = undef) ∧ (b' 9 = true → vs 9 = undef) ∧ (b' 10 = true → vs 10 = undef) ∧ (b' 11 = true → vs 11 = undef) ∧ (b' 12 = true → vs 12 = undef) ∧ (b' 13 = true → vs 13 = .bool false) ∧ (b' 14 = true → vs 14 = .bool false) ∧ (b' 15 = true → vs 15 = undef) ∧ (b' 16 = true → vs 16 = undef) ∧ (b' 17 = true → vs 17 = undef) ∧ (b' 18 = true → vs 18 = undef) ∧ (b' 19 = true → vs 19 = undef) ∧ (b' 20 = true → vs 20 = undef) ∧ (b' 21 = true → vs 21 = undef) ∧ (b' 22 = true → vs 22 = undef) ∧ (b' 23 = true → vs 23 = .bool false) ∧ (b' 24 = true → vs 24 = .bool false) ∧ (b' 25 = true → vs 25 = undef) ∧ (b' 26 = true → vs 26 = undef) ∧ (b' 27 = true → vs 27 = undef) ∧ (b' 28 = true → vs 28 = undef) ∧ (b' 29 = true → vs 29 = undef) ∧ (b' 30 = true → vs 30 = undef) ∧ (b' 31 = true → vs 31 = undef) ∧ (b' 32 = true → vs 32 = undef) ∧ (b' 33 = true → vs 33 = .bool false) ∧ (b' 34 = true → vs 34 = .bool false) ∧ (b' 1 = true → Hid (OwnB w' w.heap.size (vs 1) SN)) ∧ (Hid (Below w.heap.size w w' ∧ w.heap.size ≤ w'.heap.size))) ?_ ?_ ?_
    · intro vs
      exact ⟨fun h => Bool.noConfusion h, fun h => Bool.noConfusion h, fun h => Bool.noConfusion h, fun h => Bool.noConfusion h, fun h => Bool.noConfusion h, fun h => Bool.noConfusion h, fun h => Bool.noConfusion h, fun h => Bool.noConfusion h, fun h => Bool.noConfusion h, fun h => Bool.noConfusion h, fun h => Bool.noConfusion h, fun h => Bool.noConfusion h, fun h => Bool.noConfusion h, fun h => Bool.noConfusion h, fun h => Bool.noConfusion h, fun h => Bool.noConfusion h, fun h => Bool.noConfusion h, fun h => Bool.noConfusion h, fun h => Bool.noConfusion h, fun h => Bool.noConfusion h, fun h => Bool.noConfusion h, fun h => Bool.noConfusion h, fun h => Bool.noConfusion h, fun h => Bool.noConfusion h, fun h => Bool.noConfusion h, fun h => Bool.noConfusion h, fun h => Bool.noConfusion h, fun h => Bool.noConfusion h, fun h => Bool.noConfusion h, fun h => Bool.noConfusion h, fun h => Bool.noConfusion h, fun h => Bool.noConfusion h, fun h => Bool.noConfusion h, fun h => Bool.noConfusion h, fun h => Bool.noConfusion h, Lib.hid ⟨below_drewN (Below.refl _ _) 1, Nat.le_refl _⟩⟩
    · rintro b' vs w' i op hi hun hall ⟨h0, h2, h3, h4, h5, h6, h7, h8, h9, h10, h11, h12, h13, h14, h15, h16, h17, h18, h19, h20, h21, h22, h23, h24, h25, h26, h27, h28, h29, h30, h31, h32, h33, h34, y1, hB⟩
      have hil : i < 35 := (List.getElem?_eq_some_iff.1 hi).1
      rcases i with _ | _ | _ | _ | _ | _ | _ | _ | _ | _ | _ | _ | _ | _ | _ | _ | _ | _ | _ | _ | _ | _ | _ | _ | _ | _ | _ | _ | _ | _ | _ | _ | _ | _ | _ | i
      · obtain rfl := Option.some.inj hi
        clear hi hil
        refine StepOk.plain rfl (fun K hK => ?_)
        have HKK := Lib.hid hK; clear hK
        simp only [putAll, Act.put, List.setIfInBounds_toArray, List.set_cons_zero, List.set_cons_succ]
        go_simp
        exact HKK.out _ _ ⟨_, by simp only [putAll, Act.put, List.setIfInBounds_toArray, List.set_cons_zero, List.set_cons_succ] <;> rfl, fun _ => rfl, h2, h3, h4, h5, h6, h7, h8, h9, h10, h11, h12, h13, h14, h15, h16, h17, h18, h19, h20, h21, h22, h23, h24, h25, h26, h27, h28, h29, h30, h31, h32, h33, h34, y1, hB⟩
      · obtain rfl := Option.some.inj hi
        clear hi hil
        have d0 := h0 (hall ⟨0, .data⟩ (by simp) rfl)
        refine StepOk.plain rfl (fun K hK => ?_)
        have HKK := Lib.hid hK; clear hK
        simp only [putAll, Act.put, List.setIfInBounds_toArray, List.set_cons_zero, List.set_cons_succ]
        go_simp
        refine (HSN.out w' (hB).out.1).mono ?_
        rintro e w2 ⟨v2, rfl, ho2, hb2⟩
        exact HKK.out _ _ ⟨_, by simp only [putAll, Act.put, List.setIfInBounds_toArray, List.set_cons_zero, List.set_cons_succ, d0] <;> rfl, h0, h2, h3, h4, h5, h6, h7, h8, h9, h10, h11, h12, h13, h14, h15, h16, h17, h18, h19, h20, h21, h22, h23, h24, h25, h26, h27, h28, h29, h30, h31, h32, h33, h34, fun _ => Lib.hid (owns_base ho2 (hB).out.2), Lib.hid ⟨(hB).out.1.trans (hb2.mono (hB).out.2), Nat.le_trans (hB).out.2 hb2.size⟩⟩
      · obtain rfl := Option.some.inj hi
        clear hi hil
        have o1 := y1 (hall ⟨1, .data⟩ (by simp) rfl)
        have cv := conv_b o1.out.row HK1.out
        rw [HS1.out] at cv
        refine StepOk.plain rfl (fun K hK => ?_)
        have HKK := Lib.hid hK; clear hK
        simp only [putAll, Act.put, List.setIfInBounds_toArray, List.set_cons_zero, List.set_cons_succ]
        go_simp
        exact HKK.out _ _ ⟨_, by simp only [putAll, Act.put, List.setIfInBounds_toArray, List.set_cons_zero, List.set_cons_succ] <;> rfl, h0, fun _ => rfl, h3, h4, h5, h6, h7, h8, h9, h10, h11, h12, h13, h14, h15, h16, h17, h18, h19, h20, h21, h22, h23, h24, h25, h26, h27, h28, h29, h30, h31, h32, h33, h34, y1, hB⟩
      · obtain rfl := Option.some.inj hi
        clear hi hil
        refine StepOk.plain rfl (fun K hK => ?_)
        have HKK := Lib.hid hK; clear hK
        simp only [putAll, Act.put, List.setIfInBounds_toArray, List.set_cons_zero, List.set_cons_succ]
        go_simp
        exact HKK.out _ _ ⟨_, by simp only [putAll, Act.put, List.setIfInBounds_toArray, List.set_cons_zero, List.set_cons_succ] <;> rfl, h0, h2, fun _ => rfl, h4, h5, h6, h7, h8, h9, h10, h11, h12, h13, h14, h15, h16, h17, h18, h19, h20, h21, h22, h23, h24, h25, h26, h27, h28, h29, h30, h31, h32, h33, h34, y1, hB⟩
      · obtain rfl := Option.some.inj hi
        clear hi hil
        have d3 := h3 (hall ⟨3, .data⟩ (by simp) rfl)
        have cv := conv_b (HR1.out.on hB.out.1) HK2.out
        rw [HS2.out] at cv
        refine StepOk.plain rfl (fun K hK => ?_)
        have HKK := Lib.hid hK; clear hK
        simp only [putAll, Act.put, List.setIfInBounds_toArray, List.set_cons_zero, List.set_cons_succ]
        go_simp
        exact HKK.out _ _ ⟨_, by simp only [putAll, Act.put, List.setIfInBounds_toArray, List.set_cons_zero, List.set_cons_succ, d3] <;> rfl, h0, h2, h3, fun _ => rfl, h5, h6, h7, h8, h9, h10, h11, h12, h13, h14, h15, h16, h17, h18, h19, h20, h21, h22, h23, h24, h25, h26, h27, h28, h29, h30, h31, h32, h33, h34, y1, hB⟩
      · obtain rfl := Option.some.inj hi
        clear hi hil
        have d2 := h2 (hall ⟨2, .data⟩ (by simp) rfl)
        have d4 := h4 (hall ⟨4, .data⟩ (by simp) rfl)
        have hq := HE1.out
        refine StepOk.plain rfl (fun K hK => ?_)
        have HKK := Lib.hid hK; clear hK
        simp only [putAll, Act.put, List.setIfInBounds_toArray, List.set_cons_zero, List.set_cons_succ]
        go_simp
        exact HKK.out _ _ ⟨_, by simp only [putAll, Act.put, List.setIfInBounds_toArray, List.set_cons_zero, List.set_cons_succ, d2, d4] <;> rfl, h0, h2, h3, h4, fun _ => rfl, h6, h7, h8, h9, h10, h11, h12, h13, h14, h15, h16, h17, h18, h19, h20, h21, h22, h23, h24, h25, h26, h27, h28, h29, h30, h31, h32, h33, h34, y1, hB⟩
      · obtain rfl := Option.some.inj hi
        clear hi hil
        have d5 := h5 (hall ⟨5, .data⟩ (by simp) rfl)
        refine StepOk.plain rfl (fun K hK => ?_)
        have HKK := Lib.hid hK; clear hK
        simp only [putAll, Act.put, List.setIfInBounds_toArray, List.set_cons_zero, List.set_cons_succ]
        go_simp
        exact HKK.out _ _ ⟨_, by simp only [putAll, Act.put, List.setIfInBounds_toArray, List.set_cons_zero, List.set_cons_succ, d5] <;> rfl, h0, h2, h3, h4, h5, fun _ => rfl, h7, h8, h9, h10, h11, h12, h13, h14, h15, h16, h17, h18, h19, h20, h21, h22, h23, h24, h25, h26, h27, h28, h29, h30, h31, h32, h33, h34, y1, hB⟩
      · obtain rfl := Option.some.inj hi
        clear hi hil
        have d6 := h6 (hall ⟨6, .guard⟩ (by simp) rfl)
        refine StepOk.off 6 true rfl rfl d6 ?_
        exact ⟨undef, rfl, h0, h2, h3, h4, h5, h6, fun _ => rfl, h8, h9, h10, h11, h12, h13, h14, h15, h16, h17, h18, h19, h20, h21, h22, h23, h24, h25, h26, h27, h28, h29, h30, h31, h32, h33, h34, y1, hB⟩
      · obtain rfl := Option.some.inj hi
        clear hi hil
        have d6 := h6 (hall ⟨6, .guard⟩ (by simp) rfl)
        refine StepOk.off 6 true rfl rfl d6 ?_
        exact ⟨undef, rfl, h0, h2, h3, h4, h5, h6, h7, fun _ => rfl, h9, h10, h11, h12, h13, h14, h15, h16, h17, h18, h19, h20, h21, h22, h23, h24, h25, h26, h27, h28, h29, h30, h31, h32, h33, h34, y1, hB⟩
      · obtain rfl := Option.some.inj hi
        clear hi hil
        have d6 := h6 (hall ⟨6, .guard⟩ (by simp) rfl)
        refine StepOk.off 6 true rfl rfl d6 ?_
        exact ⟨undef, rfl, h0, h2, h3, h4, h5, h6, h7, h8, fun _ => rfl, h10, h11, h12, h13, h14, h15, h16, h17, h18, h19, h20, h21, h22, h23, h24, h25, h26, h27, h28, h29, h30, h31, h32, h33, h34, y1, hB⟩
      · obtain rfl := Option.some.inj hi
        clear hi hil
        have d6 := h6 (hall ⟨6, .guard⟩ (by simp) rfl)
        refine StepOk.off 6 true rfl rfl d6 ?_
        exact ⟨undef, rfl, h0, h2, h3, h4, h5, h6, h7, h8, h9, fun _ => rfl, h11, h12, h13, h14, h15, h16, h17, h18, h19, h20, h21, h22, h23, h24, h25, h26, h27, h28, h29, h30, h31, h32, h33, h34, y1, hB⟩
      · obtain rfl := Option.some.inj hi
        clear hi hil
        have d6 := h6 (hall ⟨6, .guard⟩ (by simp) rfl)
        refine StepOk.off 6 true rfl rfl d6 ?_
        exact ⟨undef, rfl, h0, h2, h3, h4, h5, h6, h7, h8, h9, h10, fun _ => rfl, h12, h13, h14, h15, h16, h17, h18, h19, h20, h21, h22, h23, h24, h25, h26, h27, h28, h29, h30, h31, h32, h33, h34, y1, hB⟩
      · obtain rfl := Option.some.inj hi
        clear hi hil
        have d6 := h6 (hall ⟨6, .guard⟩ (by simp) rfl)
        refine StepOk.off 6 true rfl rfl d6 ?_
        exact ⟨undef, rfl, h0, h2, h3, h4, h5, h6, h7, h8, h9, h10, h11, fun _ => rfl, h13, h14, h15, h16, h17, h18, h19, h20, h21, h22, h23, h24, h25, h26, h27, h28, h29, h30, h31, h32, h33, h34, y1, hB⟩
      · obtain rfl := Option.some.inj hi
        clear hi hil
        have d6 := h6 (hall ⟨6, .data⟩ (by simp) rfl)
        have d12 := h12 (hall ⟨12, .data⟩ (by simp) rfl)
        refine StepOk.plain rfl (fun K hK => ?_)
        have HKK := Lib.hid hK; clear hK
        simp only [putAll, Act.put, List.setIfInBounds_toArray, List.set_cons_zero, List.set_cons_succ]
        go_simp
        exact HKK.out _ _ ⟨_, by simp only [putAll, Act.put, List.setIfInBounds_toArray, List.set_cons_zero, List.set_cons_succ, d6, d12] <;> rfl, h0, h2, h3, h4, h5, h6, h7, h8, h9, h10, h11, h12, fun _ => rfl, h14, h15, h16, h17, h18, h19, h20, h21, h22, h23, h24, h25, h26, h27, h28, h29, h30, h31, h32, h33, h34, y1, hB⟩
      · obtain rfl := Option.some.inj hi
        clear hi hil
        have d13 := h13 (hall ⟨13, .data⟩ (by simp) rfl)
        refine StepOk.plain rfl (fun K hK => ?_)
        have HKK := Lib.hid hK; clear hK
        simp only [putAll, Act.put, List.setIfInBounds_toArray, List.set_cons_zero, List.set_cons_succ]
        go_simp
        exact HKK.out _ _ ⟨_, by simp only [putAll, Act.put, List.setIfInBounds_toArray, List.set_cons_zero, List.set_cons_succ, d13] <;> rfl, h0, h2, h3, h4, h5, h6, h7, h8, h9, h10, h11, h12, h13, fun _ => rfl, h15, h16, h17, h18, h19, h20, h21, h22, h23, h24, h25, h26, h27, h28, h29, h30, h31, h32, h33, h34, y1, hB⟩
      · obtain rfl := Option.some.inj hi
        clear hi hil
        have d14 := h14 (hall ⟨14, .guard⟩ (by simp) rfl)
        refine StepOk.off 14 true rfl rfl d14 ?_
        exact ⟨undef, rfl, h0, h2, h3, h4, h5, h6, h7, h8, h9, h10, h11, h12, h13, h14, fun _ => rfl, h16, h17, h18, h19, h20, h21, h22, h23, h24, h25, h26, h27, h28, h29, h30, h31, h32, h33, h34, y1, hB⟩
      · obtain rfl := Option.some.inj hi
        clear hi hil
        have d14 := h14 (hall ⟨14, .guard⟩ (by simp) rfl)
        refine StepOk.off 14 true rfl rfl d14 ?_
        exact ⟨undef, rfl, h0, h2, h3, h4, h5, h6, h7, h8, h9, h10, h11, h12, h13, h14, h15, fun _ => rfl, h17, h18, h19, h20, h21, h22, h23, h24, h25, h26, h27, h28, h29, h30, h31, h32, h33, h34, y1, hB⟩
      · obtain rfl := Option.some.inj hi
        clear hi hil
        have d14 := h14 (hall ⟨14, .guard⟩ (by simp) rfl)
        refine StepOk.off 14 true rfl rfl d14 ?_
        exact ⟨undef, rfl, h0, h2, h3, h4, h5, h6, h7, h8, h9, h10, h11, h12, h13, h14, h15, h16, fun _ => rfl, h18, h19, h20, h21, h22, h23, h24, h25, h26, h27, h28, h29, h30, h31, h32, h33, h34, y1, hB⟩
      · obtain rfl := Option.some.inj hi
        clear hi hil
        have d14 := h14 (hall ⟨14, .guard⟩ (by simp) rfl)
        refine StepOk.off 14 true rfl rfl d14 ?_
        exact ⟨undef, rfl, h0, h2, h3, h4, h5, h6, h7, h8, h9, h10, h11, h12, h13, h14, h15, h16, h17, fun _ => rfl, h19, h20, h21, h22, h23, h24, h25, h26, h27, h28, h29, h30, h31, h32, h33, h34, y1, hB⟩
      · obtain rfl := Option.some.inj hi
        clear hi hil
        have d14 := h14 (hall ⟨14, .guard⟩ (by simp) rfl)
        refine StepOk.off 14 true rfl rfl d14 ?_
        exact ⟨undef, rfl, h0, h2, h3, h4, h5, h6, h7, h8, h9, h10, h11, h12, h13, h14, h15, h16, h17, h18, fun _ => rfl, h20, h21, h22, h23, h24, h25, h26, h27, h28, h29, h30, h31, h32, h33, h34, y1, hB⟩
      · obtain rfl := Option.some.inj hi
        clear hi hil
        have d14 := h14 (hall ⟨14, .guard⟩ (by simp) rfl)
        refine StepOk.off 14 true rfl rfl d14 ?_
        exact ⟨undef, rfl, h0, h2, h3, h4, h5, h6, h7, h8, h9, h10, h11, h12, h13, h14, h15, h16, h17, h18, h19, fun _ => rfl, h21, h22, h23, h24, h25, h26, h27, h28, h29, h30, h31, h32, h33, h34, y1, hB⟩
      · obtain rfl := Option.some.inj hi
        clear hi hil
        have d14 := h14 (hall ⟨14, .guard⟩ (by simp) rfl)
        refine StepOk.off 14 true rfl rfl d14 ?_
        exact ⟨undef, rfl, h0, h2, h3, h4, h5, h6, h7, h8, h9, h10, h11, h12, h13, h14, h15, h16, h17, h18, h19, h20, fun _ => rfl, h22, h23, h24, h25, h26, h27, h28, h29, h30, h31, h32, h33, h34, y1, hB⟩
      · obtain rfl := Option.some.inj hi
        clear hi hil
        have d14 := h14 (hall ⟨14, .guard⟩ (by simp) rfl)
        refine StepOk.off 14 true rfl rfl d14 ?_
        exact ⟨undef, rfl, h0, h2, h3, h4, h5, h6, h7, h8, h9, h10, h11, h12, h13, h14, h15, h16, h17, h18, h19, h20, h21, fun _ => rfl, h23, h24, h25, h26, h27, h28, h29, h30, h31, h32, h33, h34, y1, hB⟩
      · obtain rfl := Option.some.inj hi
        clear hi hil
        have d14 := h14 (hall ⟨14, .data⟩ (by simp) rfl)
        have d22 := h22 (hall ⟨22, .data⟩ (by simp) rfl)
        refine StepOk.plain rfl (fun K hK => ?_)
        have HKK := Lib.hid hK; clear hK
        simp only [putAll, Act.put, List.setIfInBounds_toArray, List.set_cons_zero, List.set_cons_succ]
        go_simp
        exact HKK.out _ _ ⟨_, by simp only [putAll, Act.put, List.setIfInBounds_toArray, List.set_cons_zero, List.set_cons_succ, d14, d22] <;> rfl, h0, h2, h3, h4, h5, h6, h7, h8, h9, h10, h11, h12, h13, h14, h15, h16, h17, h18, h19, h20, h21, h22, fun _ => rfl, h24, h25, h26, h27, h28, h29, h30, h31, h32, h33, h34, y1, hB⟩
      · obtain rfl := Option.some.inj hi
        clear hi hil
        have d23 := h23 (hall ⟨23, .data⟩ (by simp) rfl)
        refine StepOk.plain rfl (fun K hK => ?_)
        have HKK := Lib.hid hK; clear hK
        simp only [putAll, Act.put, List.setIfInBounds_toArray, List.set_cons_zero, List.set_cons_succ]
        go_simp
        exact HKK.out _ _ ⟨_, by simp only [putAll, Act.put, List.setIfInBounds_toArray, List.set_cons_zero, List.set_cons_succ, d23] <;> rfl, h0, h2, h3, h4, h5, h6, h7, h8, h9, h10, h11, h12, h13, h14, h15, h16, h17, h18, h19, h20, h21, h22, h23, fun _ => rfl, h25, h26, h27, h28, h29, h30, h31, h32, h33, h34, y1, hB⟩
      · obtain rfl := Option.some.inj hi
        clear hi hil
        have d24 := h24 (hall ⟨24, .guard⟩ (by simp) rfl)
        refine StepOk.off 24 true rfl rfl d24 ?_
        exact ⟨undef, rfl, h0, h2, h3, h4, h5, h6, h7, h8, h9, h10, h11, h12, h13, h14, h15, h16, h17, h18, h19, h20, h21, h22, h23, h24, fun _ => rfl, h26, h27, h28, h29, h30, h31, h32, h33, h34, y1, hB⟩
      · obtain rfl := Option.some.inj hi
        clear hi hil
        have d24 := h24 (hall ⟨24, .guard⟩ (by simp) rfl)
        refine StepOk.off 24 true rfl rfl d24 ?_
        exact ⟨undef, rfl, h0, h2, h3, h4, h5, h6, h7, h8, h9, h10, h11, h12, h13, h14, h15, h16, h17, h18, h19, h20, h21, h22, h23, h24, h25, fun _ => rfl, h27, h28, h29, h30, h31, h32, h33, h34, y1, hB⟩
      · obtain rfl := Option.some.inj hi
        clear hi hil
        have d24 := h24 (hall ⟨24, .guard⟩ (by simp) rfl)
        refine StepOk.off 24 true rfl rfl d24 ?_
        exact ⟨undef, rfl, h0, h2, h3, h4, h5, h6, h7, h8, h9, h10, h11, h12, h13, h14, h15, h16, h17, h18, h19, h20, h21, h22, h23, h24, h25, h26, fun _ => rfl, h28, h29, h30, h31, h32, h33, h34, y1, hB⟩
      · obtain rfl := Option.some.inj hi
        clear hi hil
        have d24 := h24 (hall ⟨24, .guard⟩ (by simp) rfl)
        refine StepOk.off 24 true rfl rfl d24 ?_
        exact ⟨undef, rfl, h0, h2, h3, h4, h5, h6, h7, h8, h9, h10, h11, h12, h13, h14, h15, h16, h17, h18, h19, h20, h21, h22, h23, h24, h25, h26, h27, fun _ => rfl, h29, h30, h31, h32, h33, h34, y1, hB⟩
      · obtain rfl := Option.some.inj hi
        clear hi hil
        have d24 := h24 (hall ⟨24, .guard⟩ (by simp) rfl)
        refine StepOk.off 24 true rfl rfl d24 ?_
        exact ⟨undef, rfl, h0, h2, h3, h4, h5, h6, h7, h8, h9, h10, h11, h12, h13, h14, h15, h16, h17, h18, h19, h20, h21, h22, h23, h24, h25, h26, h27, h28, fun _ => rfl, h30, h31, h32, h33, h34, y1, hB⟩
      · obtain rfl := Option.some.inj hi
        clear hi hil
        have d24 := h24 (hall ⟨24, .guard⟩ (by simp) rfl)
        refine StepOk.off 24 true rfl rfl d24 ?_
        exact ⟨undef, rfl, h0, h2, h3, h4, h5, h6, h7, h8, h9, h10, h11, h12, h13, h14, h15, h16, h17, h18, h19, h20, h21, h22, h23, h24, h25, h26, h27, h28, h29, fun _ => rfl, h31, h32, h33, h34, y1, hB⟩
      · obtain rfl := Option.some.inj hi
        clear hi hil
        have d24 := h24 (hall ⟨24, .guard⟩ (by simp) rfl)
        refine StepOk.off 24 true rfl rfl d24 ?_
        exact ⟨undef, rfl, h0, h2, h3, h4, h5, h6, h7, h8, h9, h10, h11, h12, h13, h14, h15, h16, h17, h18, h19, h20, h21, h22, h23, h24, h25, h26, h27, h28, h29, h30, fun _ => rfl, h32, h33, h34, y1, hB⟩
      · obtain rfl := Option.some.inj hi
        clear hi hil
        have d24 := h24 (hall ⟨24, .guard⟩ (by simp) rfl)
        refine StepOk.off 24 true rfl rfl d24 ?_
        exact ⟨undef, rfl, h0, h2, h3, h4, h5, h6, h7, h8, h9, h10, h11, h12, h13, h14, h15, h16, h17, h18, h19, h20, h21, h22, h23, h24, h25, h26, h27, h28, h29, h30, h31, fun _ => rfl, h33, h34, y1, hB⟩
      · obtain rfl := Option.some.inj hi
        clear hi hil
        have d24 := h24 (hall ⟨24, .data⟩ (by simp) rfl)
        have d32 := h32 (hall ⟨32, .data⟩ (by simp) rfl)
        refine StepOk.plain rfl (fun K hK => ?_)
        have HKK := Lib.hid hK; clear hK
        simp only [putAll, Act.put, List.setIfInBounds_toArray, List.set_cons_zero, List.set_cons_succ]
        go_simp
        exact HKK.out _ _ ⟨_, by simp only [putAll, Act.put, List.setIfInBounds_toArray, List.set_cons_zero, List.set_cons_succ, d24, d32] <;> rfl, h0, h2, h3, h4, h5, h6, h7, h8, h9, h10, h11, h12, h13, h14, h15, h16, h17, h18, h19, h20, h21, h22, h23, h24, h25, h26, h27, h28, h29, h30, h31, h32, fun _ => rfl, h34, y1, hB⟩
      · obtain rfl := Option.some.inj hi
        clear hi hil
        have d33 := h33 (hall ⟨33, .data⟩ (by simp) rfl)
        refine StepOk.plain rfl (fun K hK => ?_)
        have HKK := Lib.hid hK; clear hK
        simp only [putAll, Act.put, List.setIfInBounds_toArray, List.set_cons_zero, List.set_cons_succ]
        go_simp
        exact HKK.out _ _ ⟨_, by simp only [putAll, Act.put, List.setIfInBounds_toArray, List.set_cons_zero, List.set_cons_succ, d33] <;> rfl, h0, h2, h3, h4, h5, h6, h7, h8, h9, h10, h11, h12, h13, h14, h15, h16, h17, h18, h19, h20, h21, h22, h23, h24, h25, h26, h27, h28, h29, h30, h31, h32, h33, fun _ => rfl, y1, hB⟩
      · omega
    rintro b' vs w2 hall ⟨h0, h2, h3, h4, h5, h6, h7, h8, h9, h10, h11, h12, h13, h14, h15, h16, h17, h18, h19, h20, h21, h22, h23, h24, h25, h26, h27, h28, h29, h30, h31, h32, h33, h34, y1, hB⟩
    have d0 := h0 (hall 0 (by simp))
    have d2 := h2 (hall 2 (by simp))
    have d3 := h3 (hall 3 (by simp))
    have d4 := h4 (hall 4 (by simp))
    have d5 := h5 (hall 5 (by simp))
    have d6 := h6 (hall 6 (by simp))
    have d7 := h7 (hall 7 (by simp))
    have d8 := h8 (hall 8 (by simp))
    have d9 := h9 (hall 9 (by simp))
    have d10 := h10 (hall 10 (by simp))
    have d11 := h11 (hall 11 (by simp))
    have d12 := h12 (hall 12 (by simp))
    have d13 := h13 (hall 13 (by simp))
    have d14 := h14 (hall 14 (by simp))
    have d15 := h15 (hall 15 (by simp))
    have d16 := h16 (hall 16 (by simp))
    have d17 := h17 (hall 17 (by simp))
    have d18 := h18 (hall 18 (by simp))
    have d19 := h19 (hall 19 (by simp))
    have d20 := h20 (hall 20 (by simp))
    have d21 := h21 (hall 21 (by simp))
    have d22 := h22 (hall 22 (by simp))
    have d23 := h23 (hall 23 (by simp))
    have d24 := h24 (hall 24 (by simp))
    have d25 := h25 (hall 25 (by simp))
    have d26 := h26 (hall 26 (by simp))
    have d27 := h27 (hall 27 (by simp))
    have d28 := h28 (hall 28 (by simp))
    have d29 := h29 (hall 29 (by simp))
    have d30 := h30 (hall 30 (by simp))
    have d31 := h31 (hall 31 (by simp))
    have d32 := h32 (hall 32 (by simp))
    have d33 := h33 (hall 33 (by simp))
    have d34 := h34 (hall 34 (by simp))
    have o1 := y1 (hall 1 (by simp))
    have BB := hB
    simp only [putAll, Act.put, List.setIfInBounds_toArray, List.set_cons_zero, List.set_cons_succ, d0, d2, d3, d4, d5, d6, d7, d8, d9, d10, d11, d12, d13, d14, d15, d16, d17, d18, d19, d20, d21, d22, d23, d24, d25, d26, d27, d28, d29, d30, d31, d32, d33, d34]
    clear hall h0 d0 h2 d2 h3 d3 h4 d4 h5 d5 h6 d6 h7 d7 h8 d8 h9 d9 h10 d10 h11 d11 h12 d12 h13 d13 h14 d14 h15 d15 h16 d16 h17 d17 h18 d18 h19 d19 h20 d20 h21 d21 h22 d22 h23 d23 h24 d24 h25 d25 h26 d26 h27 d27 h28 d28 h29 d29 h30 d30 h31 d31 h32 d32 h33 d33 h34 d34 y1 hB
    have HB9 := Lib.hid BB.out
    clear BB
    clear o1
    go_wp2_with fail
    go_ret
    exact ⟨rfl, HB9.out.1⟩
  replace k1 := Classical.not_not.1 k1
  have HE1 : Hid ((s1.toList == s2.toList) = true) := Lib.hid (by rw [← HS1.out, ← HS2.out, strI_beq HK1.out HK2.out]; exact decide_eq_true k1)
  by_cases k2 : ¬ LG = S2
  · have HE2 : Hid ((s3.toList == s4.toList) = false) := Lib.hid (by rw [← HS3.out, ← HS4.out, strI_beq HK3.out HK4.out]; exact decide_eq_false k2)
    have HRS : decide (SN = S1 ∧ LG = S2) = false := decide_eq_false (fun h => k2 h.2)
    rw [HRS]
    clear k1 k2 HRS
    go_enter Try.func21, Try.ntmps21
    go_upto_region 1 with fail
    refine wp_region_put3 (by kernel_rfl) (by kernel_rfl) (by kernel_rfl) (fun b' vs w' => (b' 0 = true → vs 0 = ptrD a) ∧ (b' 2 = true → vs 2 = .string s1) ∧ (b' 3 = true → vs 3 = .slice b1 M1 c1) ∧ (b' 4 = true → vs 4 = .string s2) ∧ (b' 5 = true → vs 5 = .bool true) ∧ (b' 6 = true → vs 6 = .bool true) ∧ (b' 7 = true → vs 7 = ptrD a) ∧ (b' 9 = true → vs 9 = .string s3) ∧ (b' 10 = true → vs 10 = .slice b2 M2 c2) ∧ (b' 11 = true → vs 11 = .string s4) ∧ (b' 12 = true → vs 12 = .bool false) ∧ (b' 13 = true → vs 13 = .bool false) ∧ (b' 14 = true → vs 14 = .bool false) ∧ (b' 15 = true → vs 15 = undef) ∧ (b' 16 = true → vs 16 = undef) ∧ (b' 17 = true → vs 17 = undef) ∧ (b' 18 = true → vs 18 = undef) ∧ (b' 19 = true → vs 19 = undef) ∧ (b' 20 = true → vs 20 = undef) ∧ (b' 21 = true → vs 21 = undef) ∧ (b' 22 = true → vs 22 = undef) ∧ (b' 23 = true → vs 23 = .bool false) ∧ (b' 24 = true → vs 24 = .bool false) ∧ (b' 25 = true → vs 25 = undef) ∧ (b' 26 = true → vs 26 = undef) ∧ (b' 27 = true → vs 27 = undef) ∧ (b' 28 = true → vs 28 = undef) ∧ (b' 29 = true → vs 29 = undef) ∧ (b' 30 = true → vs 30 = undef) ∧ (b' 31 = true → vs 31 = undef) ∧ (b' 32 = true → vs 32 = undef) ∧ (b' 33 = true → vs 33 = .bool false) ∧ (b' 34 = true → vs 34 = .bool false) ∧ (b' 1 = true → Hid (OwnB w' w.heap.size (vs 1) SN)) ∧ (b' 8 = true → Hid (OwnB w' w.heap.size (vs 8) LG)) ∧ (Hid (Below w.heap.size w w' ∧ w.heap.size ≤ w'.heap.size))) ?_ ?_ ?_
    · intro vs
      exact ⟨fun h => Bool.noConfusion h, fun h => Bool.noConfusion h, fun h => Bool.noConfusion h, fun h => Bool.noConfusion h, fun h => Bool.noConfusion h, fun h => Bool.noConfusion h, fun h => Bool.noConfusion h, fun h => Bool.noConfusion h, fun h => Bool.noConfusion h, fun h => Bool.noConfusion h, fun h => Bool.noConfusion h, fun h => Bool.noConfusion h, fun h => Bool.noConfusion h, fun h => Bool.noConfusion h, fun h => Bool.noConfusion h, fun h => Bool.noConfusion h, fun h => Bool.noConfusion h, fun h => Bool.noConfusion h, fun h => Bool.noConfusion h, fun h => Bool.noConfusion h, fun h => Bool.noConfusion h, fun h => Bool.noConfusion h, fun h => Bool.noConfusion h, fun h => Bool.noConfusion h, fun h => Bool.noConfusion h, fun h => Bool.noConfusion h, fun h => Bool.noConfusion h, fun h => Bool.noConfusion h, fun h => Bool.noConfusion h, fun h => Bool.noConfusion h, fun h => Bool.noConfusion h, fun h => Bool.noConfusion h, fun h => Bool.noConfusion h, fun h => Bool.noConfusion h, fun h => Bool.noConfusion h, Lib.hid ⟨below_drewN (Below.refl _ _) 1, Nat.le_refl _⟩⟩
    · rintro b' vs w' i op hi hun hall ⟨h0, h2, h3, h4, h5, h6, h7, h9, h10, h11, h12, h13, h14, h15, h16, h17, h18, h19, h20, h21, h22, h23, h24, h25, h26, h27, h28, h29, h30, h31, h32, h33, h34, y1, y8, hB⟩
      have hil : i < 35 := (List.getElem?_eq_some_iff.1 hi).1
      rcases i with _ | _ | _ | _ | _ | _ | _ | _ | _ | _ | _ | _ | _ | _ | _ | _ | _ | _ | _ | _ | _ | _ | _ | _ | _ | _ | _ | _ | _ | _ | _ | _ | _ | _ | _ | i
      · obtain rfl := Option.some.inj hi
        clear hi hil
        refine StepOk.plain rfl (fun K hK => ?_)
        have HKK := Lib.hid hK; clear hK
        simp only [putAll, Act.put, List.setIfInBounds_toArray, List.set_cons_zero, List.set_cons_succ]
        go_simp
        exact HKK.out _ _ ⟨_, by simp only [putAll, Act.put, List.setIfInBounds_toArray, List.set_cons_zero, List.set_cons_succ] <;> rfl, fun _ => rfl, h2, h3, h4, h5, h6, h7, h9, h10, h11, h12, h13, h14, h15, h16, h17, h18, h19, h20, h21, h22, h23, h24, h25, h26, h27, h28, h29, h30, h31, h32, h33, h34, y1, y8, hB⟩
      · obtain rfl := Option.some.inj hi
        clear hi hil
        have d0 := h0 (hall ⟨0, .data⟩ (by simp) rfl)
        refine StepOk.plain rfl (fun K hK => ?_)
        have HKK := Lib.hid hK; clear hK
        simp only [putAll, Act.put, List.setIfInBounds_toArray, List.set_cons_zero, List.set_cons_succ]
        go_simp
        refine (HSN.out w' (hB).out.1).mono ?_
        rintro e w2 ⟨v2, rfl, ho2, hb2⟩
        exact HKK.out _ _ ⟨_, by simp only [putAll, Act.put, List.setIfInBounds_toArray, List.set_cons_zero, List.set_cons_succ, d0] <;> rfl, h0, h2, h3, h4, h5, h6, h7, h9, h10, h11, h12, h13, h14, h15, h16, h17, h18, h19, h20, h21, h22, h23, h24, h25, h26, h27, h28, h29, h30, h31, h32, h33, h34, fun _ => Lib.hid (owns_base ho2 (hB).out.2), fun h => Lib.hid ((y8 h).out.grow hb2), Lib.hid ⟨(hB).out.1.trans (hb2.mono (hB).out.2), Nat.le_trans (hB).out.2 hb2.size⟩⟩
      · obtain rfl := Option.some.inj hi
        clear hi hil
        have o1 := y1 (hall ⟨1, .data⟩ (by simp) rfl)
        have cv := conv_b o1.out.row HK1.out
        rw [HS1.out] at cv
        refine StepOk.plain rfl (fun K hK => ?_)
        have HKK := Lib.hid hK; clear hK
        simp only [putAll, Act.put, List.setIfInBounds_toArray, List.set_cons_zero, List.set_cons_succ]
        go_simp
        exact HKK.out _ _ ⟨_, by simp only [putAll, Act.put, List.setIfInBounds_toArray, List.set_cons_zero, List.set_cons_succ] <;> rfl, h0, fun _ => rfl, h3, h4, h5, h6, h7, h9, h10, h11, h12, h13, h14, h15, h16, h17, h18, h19, h20, h21, h22, h23, h24, h25, h26, h27, h28, h29, h30, h31, h32, h33, h34, y1, y8, hB⟩
      · obtain rfl := Option.some.inj hi
        clear hi hil
        refine StepOk.plain rfl (fun K hK => ?_)
        have HKK := Lib.hid hK; clear hK
        simp only [putAll, Act.put, List.setIfInBounds_toArray, List.set_cons_zero, List.set_cons_succ]
        go_simp
        exact HKK.out _ _ ⟨_, by simp only [putAll, Act.put, List.setIfInBounds_toArray, List.set_cons_zero, List.set_cons_succ] <;> rfl, h0, h2, fun _ => rfl, h4, h5, h6, h7, h9, h10, h11, h12, h13, h14, h15, h16, h17, h18, h19, h20, h21, h22, h23, h24, h25, h26, h27, h28, h29, h30, h31, h32, h33, h34, y1, y8, hB⟩
      · obtain rfl := Option.some.inj hi
        clear hi hil
        have d3 := h3 (hall ⟨3, .data⟩ (by simp) rfl)
        have cv := conv_b (HR1.out.on hB.out.1) HK2.out
        rw [HS2.out] at cv
        refine StepOk.plain rfl (fun K hK => ?_)
        have HKK := Lib.hid hK; clear hK
        simp only [putAll, Act.put, List.setIfInBounds_toArray, List.set_cons_zero, List.set_cons_succ]
        go_simp
        exact HKK.out _ _ ⟨_, by simp only [putAll, Act.put, List.setIfInBounds_toArray, List.set_cons_zero, List.set_cons_succ, d3] <;> rfl, h0, h2, h3, fun _ => rfl, h5, h6, h7, h9, h10, h11, h12, h13, h14, h15, h16, h17, h18, h19, h20, h21, h22, h23, h24, h25, h26, h27, h28, h29, h30, h31, h32, h33, h34, y1, y8, hB⟩
      · obtain rfl := Option.some.inj hi
        clear hi hil
        have d2 := h2 (hall ⟨2, .data⟩ (by simp) rfl)
        have d4 := h4 (hall ⟨4, .data⟩ (by simp) rfl)
        have hq := HE1.out
        refine StepOk.plain rfl (fun K hK => ?_)
        have HKK := Lib.hid hK; clear hK
        simp only [putAll, Act.put, List.setIfInBounds_toArray, List.set_cons_zero, List.set_cons_succ]
        go_simp
        exact HKK.out _ _ ⟨_, by simp only [putAll, Act.put, List.setIfInBounds_toArray, List.set_cons_zero, List.set_cons_succ, d2, d4] <;> rfl, h0, h2, h3, h4, fun _ => rfl, h6, h7, h9, h10, h11, h12, h13, h14, h15, h16, h17, h18, h19, h20, h21, h22, h23, h24, h25, h26, h27, h28, h29, h30, h31, h32, h33, h34, y1, y8, hB⟩
      · obtain rfl := Option.some.inj hi
        clear hi hil
        have d5 := h5 (hall ⟨5, .data⟩ (by simp) rfl)
        refine StepOk.plain rfl (fun K hK => ?_)
        have HKK := Lib.hid hK; clear hK
        simp only [putAll, Act.put, List.setIfInBounds_toArray, List.set_cons_zero, List.set_cons_succ]
        go_simp
        exact HKK.out _ _ ⟨_, by simp only [putAll, Act.put, List.setIfInBounds_toArray, List.set_cons_zero, List.set_cons_succ, d5] <;> rfl, h0, h2, h3, h4, h5, fun _ => rfl, h7, h9, h10, h11, h12, h13, h14, h15, h16, h17, h18, h19, h20, h21, h22, h23, h24, h25, h26, h27, h28, h29, h30, h31, h32, h33, h34, y1, y8, hB⟩
      · obtain rfl := Option.some.inj hi
        clear hi hil
        have d6 := h6 (hall ⟨6, .guard⟩ (by simp) rfl)
        refine StepOk.on 6 true rfl rfl d6 (fun K hK => ?_)
        have HKK := Lib.hid hK; clear hK
        simp only [putAll, Act.put, List.setIfInBounds_toArray, List.set_cons_zero, List.set_cons_succ]
        go_simp
        exact HKK.out _ _ ⟨_, by simp only [putAll, Act.put, List.setIfInBounds_toArray, List.set_cons_zero, List.set_cons_succ, d6] <;> rfl, h0, h2, h3, h4, h5, h6, fun _ => rfl, h9, h10, h11, h12, h13, h14, h15, h16, h17, h18, h19, h20, h21, h22, h23, h24, h25, h26, h27, h28, h29, h30, h31, h32, h33, h34, y1, y8, hB⟩
      · obtain rfl := Option.some.inj hi
        clear hi hil
        have d7 := h7 (hall ⟨7, .data⟩ (by simp) rfl)
        have d6 := h6 (hall ⟨6, .guard⟩ (by simp) rfl)
        refine StepOk.on 6 true rfl rfl d6 (fun K hK => ?_)
        have HKK := Lib.hid hK; clear hK
        simp only [putAll, Act.put, List.setIfInBounds_toArray, List.set_cons_zero, List.set_cons_succ]
        go_simp
        refine (HLG.out w' (hB).out.1).mono ?_
        rintro e w2 ⟨v2, rfl, ho2, hb2⟩
        exact HKK.out _ _ ⟨_, by simp only [putAll, Act.put, List.setIfInBounds_toArray, List.set_cons_zero, List.set_cons_succ, d7, d6] <;> rfl, h0, h2, h3, h4, h5, h6, h7, h9, h10, h11, h12, h13, h14, h15, h16, h17, h18, h19, h20, h21, h22, h23, h24, h25, h26, h27, h28, h29, h30, h31, h32, h33, h34, fun h => Lib.hid ((y1 h).out.grow hb2), fun _ => Lib.hid (owns_base ho2 (hB).out.2), Lib.hid ⟨(hB).out.1.trans (hb2.mono (hB).out.2), Nat.le_trans (hB).out.2 hb2.size⟩⟩
      · obtain rfl := Option.some.inj hi
        clear hi hil
        have o8 := y8 (hall ⟨8, .data⟩ (by simp) rfl)
        have d6 := h6 (hall ⟨6, .guard⟩ (by simp) rfl)
        have cv := conv_b o8.out.row HK3.out
        rw [HS3.out] at cv
        refine StepOk.on 6 true rfl rfl d6 (fun K hK => ?_)
        have HKK := Lib.hid hK; clear hK
        simp only [putAll, Act.put, List.setIfInBounds_toArray, List.set_cons_zero, List.set_cons_succ]
        go_simp
        exact HKK.out _ _ ⟨_, by simp only [putAll, Act.put, List.setIfInBounds_toArray, List.set_cons_zero, List.set_cons_succ, d6] <;> rfl, h0, h2, h3, h4, h5, h6, h7, fun _ => rfl, h10, h11, h12, h13, h14, h15, h16, h17, h18, h19, h20, h21, h22, h23, h24, h25, h26, h27, h28, h29, h30, h31, h32, h33, h34, y1, y8, hB⟩
      · obtain rfl := Option.some.inj hi
        clear hi hil
        have d6 := h6 (hall ⟨6, .guard⟩ (by simp) rfl)
        refine StepOk.on 6 true rfl rfl d6 (fun K hK => ?_)
        have HKK := Lib.hid hK; clear hK
        simp only [putAll, Act.put, List.setIfInBounds_toArray, List.set_cons_zero, List.set_cons_succ]
        go_simp
        exact HKK.out _ _ ⟨_, by simp only [putAll, Act.put, List.setIfInBounds_toArray, List.set_cons_zero, List.set_cons_succ, d6] <;> rfl, h0, h2, h3, h4, h5, h6, h7, h9, fun _ => rfl, h11, h12, h13, h14, h15, h16, h17, h18, h19, h20, h21, h22, h23, h24, h25, h26, h27, h28, h29, h30, h31, h32, h33, h34, y1, y8, hB⟩
      · obtain rfl := Option.some.inj hi
        clear hi hil
        have d10 := h10 (hall ⟨10, .data⟩ (by simp) rfl)
        have d6 := h6 (hall ⟨6, .guard⟩ (by simp) rfl)
        have cv := conv_b (HR2.out.on hB.out.1) HK4.out
        rw [HS4.out] at cv
        refine StepOk.on 6 true rfl rfl d6 (fun K hK => ?_)
        have HKK := Lib.hid hK; clear hK
        simp only [putAll, Act.put, List.setIfInBounds_toArray, List.set_cons_zero, List.set_cons_succ]
        go_simp
        exact HKK.out _ _ ⟨_, by simp only [putAll, Act.put, List.setIfInBounds_toArray, List.set_cons_zero, List.set_cons_succ, d10, d6] <;> rfl, h0, h2, h3, h4, h5, h6, h7, h9, h10, fun _ => rfl, h12, h13, h14, h15, h16, h17, h18, h19, h20, h21, h22, h23, h24, h25, h26, h27, h28, h29, h30, h31, h32, h33, h34, y1, y8, hB⟩
      · obtain rfl := Option.some.inj hi
        clear hi hil
        have d9 := h9 (hall ⟨9, .data⟩ (by simp) rfl)
        have d11 := h11 (hall ⟨11, .data⟩ (by simp) rfl)
        have d6 := h6 (hall ⟨6, .guard⟩ (by simp) rfl)
        have hq := HE2.out
        refine StepOk.on 6 true rfl rfl d6 (fun K hK => ?_)
        have HKK := Lib.hid hK; clear hK
        simp only [putAll, Act.put, List.setIfInBounds_toArray, List.set_cons_zero, List.set_cons_succ]
        go_simp
        exact HKK.out _ _ ⟨_, by simp only [putAll, Act.put, List.setIfInBounds_toArray, List.set_cons_zero, List.set_cons_succ, d9, d11, d6] <;> rfl, h0, h2, h3, h4, h5, h6, h7, h9, h10, h11, fun _ => rfl, h13, h14, h15, h16, h17, h18, h19, h20, h21, h22, h23, h24, h25, h26, h27, h28, h29, h30, h31, h32, h33, h34, y1, y8, hB⟩
      · obtain rfl := Option.some.inj hi
        clear hi hil
        have d6 := h6 (hall ⟨6, .data⟩ (by simp) rfl)
        have d12 := h12 (hall ⟨12, .data⟩ (by simp) rfl)
        refine StepOk.plain rfl (fun K hK => ?_)
        have HKK := Lib.hid hK; clear hK
        simp only [putAll, Act.put, List.setIfInBounds_toArray, List.set_cons_zero, List.set_cons_succ]
        go_simp
        exact HKK.out _ _ ⟨_, by simp only [putAll, Act.put, List.setIfInBounds_toArray, List.set_cons_zero, List.set_cons_succ, d6, d12] <;> rfl, h0, h2, h3, h4, h5, h6, h7, h9, h10, h11, h12, fun _ => rfl, h14, h15, h16, h17, h18, h19, h20, h21, h22, h23, h24, h25, h26, h27, h28, h29, h30, h31, h32, h33, h34, y1, y8, hB⟩
      · obtain rfl := Option.some.inj hi
        clear hi hil
        have d13 := h13 (hall ⟨13, .data⟩ (by simp) rfl)
        refine StepOk.plain rfl (fun K hK => ?_)
        have HKK := Lib.hid hK; clear hK
        simp only [putAll, Act.put, List.setIfInBounds_toArray, List.set_cons_zero, List.set_cons_succ]
        go_simp
        exact HKK.out _ _ ⟨_, by simp only [putAll, Act.put, List.setIfInBounds_toArray, List.set_cons_zero, List.set_cons_succ, d13] <;> rfl, h0, h2, h3, h4, h5, h6, h7, h9, h10, h11, h12, h13, fun _ => rfl, h15, h16, h17, h18, h19, h20, h21, h22, h23, h24, h25, h26, h27, h28, h29, h30, h31, h32, h33, h34, y1, y8, hB⟩
      · obtain rfl := Option.some.inj hi
        clear hi hil
        have d14 := h14 (hall ⟨14, .guard⟩ (by simp) rfl)
        refine StepOk.off 14 true rfl rfl d14 ?_
        exact ⟨undef, rfl, h0, h2, h3, h4, h5, h6, h7, h9, h10, h11, h12, h13, h14, fun _ => rfl, h16, h17, h18, h19, h20, h21, h22, h23, h24, h25, h26, h27, h28, h29, h30, h31, h32, h33, h34, y1, y8, hB⟩
      · obtain rfl := Option.some.inj hi
        clear hi hil
        have d14 := h14 (hall ⟨14, .guard⟩ (by simp) rfl)
        refine StepOk.off 14 true rfl rfl d14 ?_
        exact ⟨undef, rfl, h0, h2, h3, h4, h5, h6, h7, h9, h10, h11, h12, h13, h14, h15, fun _ => rfl, h17, h18, h19, h20, h21, h22, h23, h24, h25, h26, h27, h28, h29, h30, h31, h32, h33, h34, y1, y8, hB⟩
      · obtain rfl := Option.some.inj hi
        clear hi hil
        have d14 := h14 (hall ⟨14, .guard⟩ (by simp) rfl)
        refine StepOk.off 14 true rfl rfl d14 ?_
        exact ⟨undef, rfl, h0, h2, h3, h4, h5, h6, h7, h9, h10, h11, h12, h13, h14, h15, h16, fun _ => rfl, h18, h19, h20, h21, h22, h23, h24, h25, h26, h27, h28, h29, h30, h31, h32, h33, h34, y1, y8, hB⟩
      · obtain rfl := Option.some.inj hi
        clear hi hil
        have d14 := h14 (hall ⟨14, .guard⟩ (by simp) rfl)
        refine StepOk.off 14 true rfl rfl d14 ?_
        exact ⟨undef, rfl, h0, h2, h3, h4, h5, h6, h7, h9, h10, h11, h12, h13, h14, h15, h16, h17, fun _ => rfl, h19, h20, h21, h22, h23, h24, h25, h26, h27, h28, h29, h30, h31, h32, h33, h34, y1, y8, hB⟩
      · obtain rfl := Option.some.inj hi
        clear hi hil
        have d14 := h14 (hall ⟨14, .guard⟩ (by simp) rfl)
        refine StepOk.off 14 true rfl rfl d14 ?_
        exact ⟨undef, rfl, h0, h2, h3, h4, h5, h6, h7, h9, h10, h11, h12, h13, h14, h15, h16, h17, h18, fun _ => rfl, h20, h21, h22, h23, h24, h25, h26, h27, h28, h29, h30, h31, h32, h33, h34, y1, y8, hB⟩
      · obtain rfl := Option.some.inj hi
        clear hi hil
        have d14 := h14 (hall ⟨14, .guard⟩ (by simp) rfl)
        refine StepOk.off 14 true rfl rfl d14 ?_
        exact ⟨undef, rfl, h0, h2, h3, h4, h5, h6, h7, h9, h10, h11, h12, h13, h14, h15, h16, h17, h18, h19, fun _ => rfl, h21, h22, h23, h24, h25, h26, h27, h28, h29, h30, h31, h32, h33, h34, y1, y8, hB⟩
      · obtain rfl := Option.some.inj hi
        clear hi hil
        have d14 := h14 (hall ⟨14, .guard⟩ (by simp) rfl)
        refine StepOk.off 14 true rfl rfl d14 ?_
        exact ⟨undef, rfl, h0, h2, h3, h4, h5, h6, h7, h9, h10, h11, h12, h13, h14, h15, h16, h17, h18, h19, h20, fun _ => rfl, h22, h23, h24, h25, h26, h27, h28, h29, h30, h31, h32, h33, h34, y1, y8, hB⟩
      · obtain rfl := Option.some.inj hi
        clear hi hil
        have d14 := h14 (hall ⟨14, .guard⟩ (by simp) rfl)
        refine StepOk.off 14 true rfl rfl d14 ?_
        exact ⟨undef, rfl, h0, h2, h3, h4, h5, h6, h7, h9, h10, h11, h12, h13, h14, h15, h16, h17, h18, h19, h20, h21, fun _ => rfl, h23, h24, h25, h26, h27, h28, h29, h30, h31, h32, h33, h34, y1, y8, hB⟩
      · obtain rfl := Option.some.inj hi
        clear hi hil
        have d14 := h14 (hall ⟨14, .data⟩ (by simp) rfl)
        have d22 := h22 (hall ⟨22, .data⟩ (by simp) rfl)
        refine StepOk.plain rfl (fun K hK => ?_)
        have HKK := Lib.hid hK; clear hK
        simp only [putAll, Act.put, List.setIfInBounds_toArray, List.set_cons_zero, List.set_cons_succ]
        go_simp
        exact HKK.out _ _ ⟨_, by simp only [putAll, Act.put, List.setIfInBounds_toArray, List.set_cons_zero, List.set_cons_succ, d14, d22] <;> rfl, h0, h2, h3, h4, h5, h6, h7, h9, h10, h11, h12, h13, h14, h15, h16, h17, h18, h19, h20, h21, h22, fun _ => rfl, h24, h25, h26, h27, h28, h29, h30, h31, h32, h33, h34, y1, y8, hB⟩
      · obtain rfl := Option.some.inj hi
        clear hi hil
        have d23 := h23 (hall ⟨23, .data⟩ (by simp) rfl)
        refine StepOk.plain rfl (fun K hK => ?_)
        have HKK := Lib.hid hK; clear hK
        simp only [putAll, Act.put, List.setIfInBounds_toArray, List.set_cons_zero, List.set_cons_succ]
        go_simp
        exact HKK.out _ _ ⟨_, by simp only [putAll, Act.put, List.setIfInBounds_toArray, List.set_cons_zero, List.set_cons_succ, d23] <;> rfl, h0, h2, h3, h4, h5, h6, h7, h9, h10, h11, h12, h13, h14, h15, h16, h17, h18, h19, h20, h21, h22, h23, fun _ => rfl, h25, h26, h27, h28, h29, h30, h31, h32, h33, h34, y1, y8, hB⟩
      · obtain rfl := Option.some.inj hi
        clear hi hil
        have d24 := h24 (hall ⟨24, .guard⟩ (by simp) rfl)
        refine StepOk.off 24 true rfl rfl d24 ?_
        exact ⟨undef, rfl, h0, h2, h3, h4, h5, h6, h7, h9, h10, h11, h12, h13, h14, h15, h16, h17, h18, h19, h20, h21, h22, h23, h24, fun _ => rfl, h26, h27, h28, h29, h30, h31, h32, h33, h34, y1, y8, hB⟩
      · obtain rfl := Option.some.inj hi
        clear hi hil
        have d24 := h24 (hall ⟨24, .guard⟩ (by simp) rfl)
        refine StepOk.off 24 true rfl rfl d24 ?_
        exact ⟨undef, rfl, h0, h2, h3, h4, h5, h6, h7, h9, h10, h11, h12, h13, h14, h15, h16, h17, h18, h19, h20, h21, h22, h23, h24, h25, fun _ => rfl, h27, h28, h29, h30, h31, h32, h33, h34, y1, y8, hB⟩
      · obtain rfl := Option.some.inj hi
        clear hi hil
        have d24 := h24 (hall ⟨24, .guard⟩ (by simp) rfl)
        refine StepOk.off 24 true rfl rfl d24 ?_
        exact ⟨undef, rfl, h0, h2, h3, h4, h5, h6, h7, h9, h10, h11, h12, h13, h14, h15, h16, h17, h18, h19, h20, h21, h22, h23, h24, h25, h26, fun _ => rfl, h28, h29, h30, h31, h32, h33, h34, y1, y8, hB⟩
      · obtain rfl := Option.some.inj hi
        clear hi hil
        have d24 := h24 (hall ⟨24, .guard⟩ (by simp) rfl)
        refine StepOk.off 24 true rfl rfl d24 ?_
        exact ⟨undef, rfl, h0, h2, h3, h4, h5, h6, h7, h9, h10, h11, h12, h13, h14, h15, h16, h17, h18, h19, h20, h21, h22, h23, h24, h25, h26, h27, fun _ => rfl, h29, h30, h31, h32, h33, h34, y1, y8, hB⟩
      · obtain rfl := Option.some.inj hi
        clear hi hil
        have d24 := h24 (hall ⟨24, .guard⟩ (by simp) rfl)
        refine StepOk.off 24 true rfl rfl d24 ?_
        exact ⟨undef, rfl, h0, h2, h3, h4, h5, h6, h7, h9, h10, h11, h12, h13, h14, h15, h16, h17, h18, h19, h20, h21, h22, h23, h24, h25, h26, h27, h28, fun _ => rfl, h30, h31, h32, h33, h34, y1, y8, hB⟩
      · obtain rfl := Option.some.inj hi
        clear hi hil
        have d24 := h24 (hall ⟨24, .guard⟩ (by simp) rfl)
        refine StepOk.off 24 true rfl rfl d24 ?_
        exact ⟨undef, rfl, h0, h2, h3, h4, h5, h6, h7, h9, h10, h11, h12, h13, h14, h15, h16, h17, h18, h19, h20, h21, h22, h23, h24, h25, h26, h27, h28, h29, fun _ => rfl, h31, h32, h33, h34, y1, y8, hB⟩
      · obtain rfl := Option.some.inj hi
        clear hi hil
        have d24 := h24 (hall ⟨24, .guard⟩ (by simp) rfl)
        refine StepOk.off 24 true rfl rfl d24 ?_
        exact ⟨undef, rfl, h0, h2, h3, h4, h5, h6, h7, h9, h10, h11, h12, h13, h14, h15, h16, h17, h18, h19, h20, h21, h22, h23, h24, h25, h26, h27, h28, h29, h30, fun _ => rfl, h32, h33, h34, y1, y8, hB⟩
      · obtain rfl := Option.some.inj hi
        clear hi hil
        have d24 := h24 (hall ⟨24, .guard⟩ (by simp) rfl)
        refine StepOk.off 24 true rfl rfl d24 ?_
        exact ⟨undef, rfl, h0, h2, h3, h4, h5, h6, h7, h9, h10, h11, h12, h13, h14, h15, h16, h17, h18, h19, h20, h21, h22, h23, h24, h25, h26, h27, h28, h29, h30, h31, fun _ => rfl, h33, h34, y1, y8, hB⟩
      · obtain rfl := Option.some.inj hi
        clear hi hil
        have d24 := h24 (hall ⟨24, .data⟩ (by simp) rfl)
        have d32 := h32 (hall ⟨32, .data⟩ (by simp) rfl)
        refine StepOk.plain rfl (fun K hK => ?_)
        have HKK := Lib.hid hK; clear hK
        simp only [putAll, Act.put, List.setIfInBounds_toArray, List.set_cons_zero, List.set_cons_succ]
        go_simp
        exact HKK.out _ _ ⟨_, by simp only [putAll, Act.put, List.setIfInBounds_toArray, List.set_cons_zero, List.set_cons_succ, d24, d32] <;> rfl, h0, h2, h3, h4, h5, h6, h7, h9, h10, h11, h12, h13, h14, h15, h16, h17, h18, h19, h20, h21, h22, h23, h24, h25, h26, h27, h28, h29, h30, h31, h32, fun _ => rfl, h34, y1, y8, hB⟩
      · obtain rfl := Option.some.inj hi
        clear hi hil
        have d33 := h33 (hall ⟨33, .data⟩ (by simp) rfl)
        refine StepOk.plain rfl (fun K hK => ?_)
        have HKK := Lib.hid hK; clear hK
        simp only [putAll, Act.put, List.setIfInBounds_toArray, List.set_cons_zero, List.set_cons_succ]
        go_simp
        exact HKK.out _ _ ⟨_, by simp only [putAll, Act.put, List.setIfInBounds_toArray, List.set_cons_zero, List.set_cons_succ, d33] <;> rfl, h0, h2, h3, h4, h5, h6, h7, h9, h10, h11, h12, h13, h14, h15, h16, h17, h18, h19, h20, h21, h22, h23, h24, h25, h26, h27, h28, h29, h30, h31, h32, h33, fun _ => rfl, y1, y8, hB⟩
      · omega
    rintro b' vs w2 hall ⟨h0, h2, h3, h4, h5, h6, h7, h9, h10, h11, h12, h13, h14, h15, h16, h17, h18, h19, h20, h21, h22, h23, h24, h25, h26, h27, h28, h29, h30, h31, h32, h33, h34, y1, y8, hB⟩
    have d0 := h0 (hall 0 (by simp))
    have d2 := h2 (hall 2 (by simp))
    have d3 := h3 (hall 3 (by simp))
    have d4 := h4 (hall 4 (by simp))
    have d5 := h5 (hall 5 (by simp))
    have d6 := h6 (hall 6 (by simp))
    have d7 := h7 (hall 7 (by simp))
    have d9 := h9 (hall 9 (by simp))
    have d10 := h10 (hall 10 (by simp))
    have d11 := h11 (hall 11 (by simp))
    have d12 := h12 (hall 12 (by simp))
    have d13 := h13 (hall 13 (by simp))
    have d14 := h14 (hall 14 (by simp))
    have d15 := h15 (hall 15 (by simp))
    have d16 := h16 (hall 16 (by simp))
    have d17 := h17 (hall 17 (by simp))
    have d18 := h18 (hall 18 (by simp))
    have d19 := h19 (hall 19 (by simp))
    have d20 := h20 (hall 20 (by simp))
    have d21 := h21 (hall 21 (by simp))
    have d22 := h22 (hall 22 (by simp))
    have d23 := h23 (hall 23 (by simp))
    have d24 := h24 (hall 24 (by simp))
    have d25 := h25 (hall 25 (by simp))
    have d26 := h26 (hall 26 (by simp))
    have d27 := h27 (hall 27 (by simp))
    have d28 := h28 (hall 28 (by simp))
    have d29 := h29 (hall 29 (by simp))
    have d30 := h30 (hall 30 (by simp))
    have d31 := h31 (hall 31 (by simp))
    have d32 := h32 (hall 32 (by simp))
    have d33 := h33 (hall 33 (by simp))
    have d34 := h34 (hall 34 (by simp))
    have o1 := y1 (hall 1 (by simp))
    have o8 := y8 (hall 8 (by simp))
    have BB := hB
    simp only [putAll, Act.put, List.setIfInBounds_toArray, List.set_cons_zero, List.set_cons_succ, d0, d2, d3, d4, d5, d6, d7, d9, d10, d11, d12, d13, d14, d15, d16, d17, d18, d19, d20, d21, d22, d23, d24, d25, d26, d27, d28, d29, d30, d31, d32, d33, d34]
    clear hall h0 d0 h2 d2 h3 d3 h4 d4 h5 d5 h6 d6 h7 d7 h9 d9 h10 d10 h11 d11 h12 d12 h13 d13 h14 d14 h15 d15 h16 d16 h17 d17 h18 d18 h19 d19 h20 d20 h21 d21 h22 d22 h23 d23 h24 d24 h25 d25 h26 d26 h27 d27 h28 d28 h29 d29 h30 d30 h31 d31 h32 d32 h33 d33 h34 d34 y1 y8 hB
    have HB9 := Lib.hid BB.out
    clear BB
    clear o1
    clear o8
    go_wp2_with fail
    go_ret
    exact ⟨rfl, HB9.out.1⟩
  replace k2 := Classical.not_not.1 k2
  have HE2 : Hid ((s3.toList == s4.toList) = true) := Lib.hid (by rw [← HS3.out, ← HS4.out, strI_beq HK3.out HK4.out]; exact decide_eq_true k2)
  have HRS : decide (SN = S1 ∧ LG = S2) = true := decide_eq_true ⟨k1, k2⟩
  rw [HRS]
  have hln := HLN.out k1 k2
  have hc9 := HCL.out
  have EAD : Hid (IntKind.i64.wrap ((M1 : Int) + (M2 : Int)) = (L : Int)) := by rw [Hid, wrap_is, wrapR _ (by omega) (by omega)]; omega
  have ESB : Hid (IntKind.i64.wrap (c - (L : Int)) = c - (L : Int)) := by rw [Hid, wrap_is]; exact wrapR _ (by omega) (by omega)
  clear k1 k2 HRS hln hc9
  go_enter Try.func21, Try.ntmps21
  go_upto_region 1 with fail
  refine wp_region_put3 (by kernel_rfl) (by kernel_rfl) (by kernel_rfl) (fun b' vs w' => (b' 0 = true → vs 0 = ptrD a) ∧ (b' 2 = true → vs 2 = .string s1) ∧ (b' 3 = true → vs 3 = .slice b1 M1 c1) ∧ (b' 4 = true → vs 4 = .string s2) ∧ (b' 5 = true → vs 5 = .bool true) ∧ (b' 6 = true → vs 6 = .bool true) ∧ (b' 7 = true → vs 7 = ptrD a) ∧ (b' 9 = true → vs 9 = .string s3) ∧ (b' 10 = true → vs 10 = .slice b2 M2 c2) ∧ (b' 11 = true → vs 11 = .string s4) ∧ (b' 12 = true → vs 12 = .bool true) ∧ (b' 13 = true → vs 13 = .bool true) ∧ (b' 14 = true → vs 14 = .bool true) ∧ (b' 15 = true → vs 15 = ptrD a) ∧ (b' 16 = true → vs 16 = .int .i64 (L : Int)) ∧ (b' 17 = true → vs 17 = .slice b1 M1 c1) ∧ (b' 18 = true → vs 18 = .int .i64 (M1 : Int)) ∧ (b' 19 = true → vs 19 = .slice b2 M2 c2) ∧ (b' 20 = true → vs 20 = .int .i64 (M2 : Int)) ∧ (b' 21 = true → vs 21 = .int .i64 (L : Int)) ∧ (b' 22 = true → vs 22 = .bool true) ∧ (b' 23 = true → vs 23 = .bool true) ∧ (b' 24 = true → vs 24 = .bool true) ∧ (b' 25 = true → vs 25 = ptrD a) ∧ (b' 26 = true → vs 26 = .int .i64 (c - (L : Int))) ∧ (b' 27 = true → vs 27 = ptrD a) ∧ (b' 28 = true → vs 28 = .int .i64 c) ∧ (b' 29 = true → vs 29 = ptrD a) ∧ (b' 30 = true → vs 30 = .int .i64 (L : Int)) ∧ (b' 31 = true → vs 31 = .int .i64 (c - (L : Int))) ∧ (b' 32 = true → vs 32 = .bool true) ∧ (b' 33 = true → vs 33 = .bool true) ∧ (b' 34 = true → vs 34 = .bool true) ∧ (b' 1 = true → Hid (OwnB w' w.heap.size (vs 1) SN)) ∧ (b' 8 = true → Hid (OwnB w' w.heap.size (vs 8) LG)) ∧ (Hid (Below w.heap.size w w' ∧ w.heap.size ≤ w'.heap.size))) ?_ ?_ ?_
  · intro vs
    exact ⟨fun h => Bool.noConfusion h, fun h => Bool.noConfusion h, fun h => Bool.noConfusion h, fun h => Bool.noConfusion h, fun h => Bool.noConfusion h, fun h => Bool.noConfusion h, fun h => Bool.noConfusion h, fun h => Bool.noConfusion h, fun h => Bool.noConfusion h, fun h => Bool.noConfusion h, fun h => Bool.noConfusion h, fun h => Bool.noConfusion h, fun h => Bool.noConfusion h, fun h => Bool.noConfusion h, fun h => Bool.noConfusion h, fun h => Bool.noConfusion h, fun h => Bool.noConfusion h, fun h => Bool.noConfusion h, fun h => Bool.noConfusion h, fun h => Bool.noConfusion h, fun h => Bool.noConfusion h, fun h => Bool.noConfusion h, fun h => Bool.noConfusion h, fun h => Bool.noConfusion h, fun h => Bool.noConfusion h, fun h => Bool.noConfusion h, fun h => Bool.noConfusion h, fun h => Bool.noConfusion h, fun h => Bool.noConfusion h, fun h => Bool.noConfusion h, fun h => Bool.noConfusion h, fun h => Bool.noConfusion h, fun h => Bool.noConfusion h, fun h => Bool.noConfusion h, fun h => Bool.noConfusion h, Lib.hid ⟨below_drewN (Below.refl _ _) 1, Nat.le_refl _⟩⟩
  · rintro b' vs w' i op hi hun hall ⟨h0, h2, h3, h4, h5, h6, h7, h9, h10, h11, h12, h13, h14, h15, h16, h17, h18, h19, h20, h21, h22, h23, h24, h25, h26, h27, h28, h29, h30, h31, h32, h33, h34, y1, y8, hB⟩
    have hil : i < 35 := (List.getElem?_eq_some_iff.1 hi).1
    rcases i with _ | _ | _ | _ | _ | _ | _ | _ | _ | _ | _ | _ | _ | _ | _ | _ | _ | _ | _ | _ | _ | _ | _ | _ | _ | _ | _ | _ | _ | _ | _ | _ | _ | _ | _ | i
    · obtain rfl := Option.some.inj hi
      clear hi hil
      refine StepOk.plain rfl (fun K hK => ?_)
      have HKK := Lib.hid hK; clear hK
      simp only [putAll, Act.put, List.setIfInBounds_toArray, List.set_cons_zero, List.set_cons_succ]
      go_simp
      exact HKK.out _ _ ⟨_, by simp only [putAll, Act.put, List.setIfInBounds_toArray, List.set_cons_zero, List.set_cons_succ] <;> rfl, fun _ => rfl, h2, h3, h4, h5, h6, h7, h9, h10, h11, h12, h13, h14, h15, h16, h17, h18, h19, h20, h21, h22, h23, h24, h25, h26, h27, h28, h29, h30, h31, h32, h33, h34, y1, y8, hB⟩
    · obtain rfl := Option.some.inj hi
      clear hi hil
      have d0 := h0 (hall ⟨0, .data⟩ (by simp) rfl)
      refine StepOk.plain rfl (fun K hK => ?_)
      have HKK := Lib.hid hK; clear hK
      simp only [putAll, Act.put, List.setIfInBounds_toArray, List.set_cons_zero, List.set_cons_succ]
      go_simp
      refine (HSN.out w' (hB).out.1).mono ?_
      rintro e w2 ⟨v2, rfl, ho2, hb2⟩
      exact HKK.out _ _ ⟨_, by simp only [putAll, Act.put, List.setIfInBounds_toArray, List.set_cons_zero, List.set_cons_succ, d0] <;> rfl, h0, h2, h3, h4, h5, h6, h7, h9, h10, h11, h12, h13, h14, h15, h16, h17, h18, h19, h20, h21, h22, h23, h24, h25, h26, h27, h28, h29, h30, h31, h32, h33, h34, fun _ => Lib.hid (owns_base ho2 (hB).out.2), fun h => Lib.hid ((y8 h).out.grow hb2), Lib.hid ⟨(hB).out.1.trans (hb2.mono (hB).out.2), Nat.le_trans (hB).out.2 hb2.size⟩⟩
    · obtain rfl := Option.some.inj hi
      clear hi hil
      have o1 := y1 (hall ⟨1, .data⟩ (by simp) rfl)
      have cv := conv_b o1.out.row HK1.out
      rw [HS1.out] at cv
      refine StepOk.plain rfl (fun K hK => ?_)
      have HKK := Lib.hid hK; clear hK
      simp only [putAll, Act.put, List.setIfInBounds_toArray, List.set_cons_zero, List.set_cons_succ]
      go_simp
      exact HKK.out _ _ ⟨_, by simp only [putAll, Act.put, List.setIfInBounds_toArray, List.set_cons_zero, List.set_cons_succ] <;> rfl, h0, fun _ => rfl, h3, h4, h5, h6, h7, h9, h10, h11, h12, h13, h14, h15, h16, h17, h18, h19, h20, h21, h22, h23, h24, h25, h26, h27, h28, h29, h30, h31, h32, h33, h34, y1, y8, hB⟩
    · obtain rfl := Option.some.inj hi
      clear hi hil
      refine StepOk.plain rfl (fun K hK => ?_)
      have HKK := Lib.hid hK; clear hK
      simp only [putAll, Act.put, List.setIfInBounds_toArray, List.set_cons_zero, List.set_cons_succ]
      go_simp
      exact HKK.out _ _ ⟨_, by simp only [putAll, Act.put, List.setIfInBounds_toArray, List.set_cons_zero, List.set_cons_succ] <;> rfl, h0, h2, fun _ => rfl, h4, h5, h6, h7, h9, h10, h11, h12, h13, h14, h15, h16, h17, h18, h19, h20, h21, h22, h23, h24, h25, h26, h27, h28, h29, h30, h31, h32, h33, h34, y1, y8, hB⟩
    · obtain rfl := Option.some.inj hi
      clear hi hil
      have d3 := h3 (hall ⟨3, .data⟩ (by simp) rfl)
      have cv := conv_b (HR1.out.on hB.out.1) HK2.out
      rw [HS2.out] at cv
      refine StepOk.plain rfl (fun K hK => ?_)
      have HKK := Lib.hid hK; clear hK
      simp only [putAll, Act.put, List.setIfInBounds_toArray, List.set_cons_zero, List.set_cons_succ]
      go_simp
      exact HKK.out _ _ ⟨_, by simp only [putAll, Act.put, List.setIfInBounds_toArray, List.set_cons_zero, List.set_cons_succ, d3] <;> rfl, h0, h2, h3, fun _ => rfl, h5, h6, h7, h9, h10, h11, h12, h13, h14, h15, h16, h17, h18, h19, h20, h21, h22, h23, h24, h25, h26, h27, h28, h29, h30, h31, h32, h33, h34, y1, y8, hB⟩
    · obtain rfl := Option.some.inj hi
      clear hi hil
      have d2 := h2 (hall ⟨2, .data⟩ (by simp) rfl)
      have d4 := h4 (hall ⟨4, .data⟩ (by simp) rfl)
      have hq := HE1.out
      refine StepOk.plain rfl (fun K hK => ?_)
      have HKK := Lib.hid hK; clear hK
      simp only [putAll, Act.put, List.setIfInBounds_toArray, List.set_cons_zero, List.set_cons_succ]
      go_simp
      exact HKK.out _ _ ⟨_, by simp only [putAll, Act.put, List.setIfInBounds_toArray, List.set_cons_zero, List.set_cons_succ, d2, d4] <;> rfl, h0, h2, h3, h4, fun _ => rfl, h6, h7, h9, h10, h11, h12, h13, h14, h15, h16, h17, h18, h19, h20, h21, h22, h23, h24, h25, h26, h27, h28, h29, h30, h31, h32, h33, h34, y1, y8, hB⟩
    · obtain rfl := Option.some.inj hi
      clear hi hil
      have d5 := h5 (hall ⟨5, .data⟩ (by simp) rfl)
      refine StepOk.plain rfl (fun K hK => ?_)
      have HKK := Lib.hid hK; clear hK
      simp only [putAll, Act.put, List.setIfInBounds_toArray, List.set_cons_zero, List.set_cons_succ]
      go_simp
      exact HKK.out _ _ ⟨_, by simp only [putAll, Act.put, List.setIfInBounds_toArray, List.set_cons_zero, List.set_cons_succ, d5] <;> rfl, h0, h2, h3, h4, h5, fun _ => rfl, h7, h9, h10, h11, h12, h13, h14, h15, h16, h17, h18, h19, h20, h21, h22, h23, h24, h25, h26, h27, h28, h29, h30, h31, h32, h33, h34, y1, y8, hB⟩
    · obtain rfl := Option.some.inj hi
      clear hi hil
      have d6 := h6 (hall ⟨6, .guard⟩ (by simp) rfl)
      refine StepOk.on 6 true rfl rfl d6 (fun K hK => ?_)
      have HKK := Lib.hid hK; clear hK
      simp only [putAll, Act.put, List.setIfInBounds_toArray, List.set_cons_zero, List.set_cons_succ]
      go_simp
      exact HKK.out _ _ ⟨_, by simp only [putAll, Act.put, List.setIfInBounds_toArray, List.set_cons_zero, List.set_cons_succ, d6] <;> rfl, h0, h2, h3, h4, h5, h6, fun _ => rfl, h9, h10, h11, h12, h13, h14, h15, h16, h17, h18, h19, h20, h21, h22, h23, h24, h25, h26, h27, h28, h29, h30, h31, h32, h33, h34, y1, y8, hB⟩
    · obtain rfl := Option.some.inj hi
      clear hi hil
      have d7 := h7 (hall ⟨7, .data⟩ (by simp) rfl)
      have d6 := h6 (hall ⟨6, .guard⟩ (by simp) rfl)
      refine StepOk.on 6 true rfl rfl d6 (fun K hK => ?_)
      have HKK := Lib.hid hK; clear hK
      simp only [putAll, Act.put, List.setIfInBounds_toArray, List.set_cons_zero, List.set_cons_succ]
      go_simp
      refine (HLG.out w' (hB).out.1).mono ?_
      rintro e w2 ⟨v2, rfl, ho2, hb2⟩
      exact HKK.out _ _ ⟨_, by simp only [putAll, Act.put, List.setIfInBounds_toArray, List.set_cons_zero, List.set_cons_succ, d7, d6] <;> rfl, h0, h2, h3, h4, h5, h6, h7, h9, h10, h11, h12, h13, h14, h15, h16, h17, h18, h19, h20, h21, h22, h23, h24, h25, h26, h27, h28, h29, h30, h31, h32, h33, h34, fun h => Lib.hid ((y1 h).out.grow hb2), fun _ => Lib.hid (owns_base ho2 (hB).out.2), Lib.hid ⟨(hB).out.1.trans (hb2.mono (hB).out.2), Nat.le_trans (hB).out.2 hb2.size⟩⟩
    · obtain rfl := Option.some.inj hi
      clear hi hil
      have o8 := y8 (hall ⟨8, .data⟩ (by simp) rfl)
      have d6 := h6 (hall ⟨6, .guard⟩ (by simp) rfl)
      have cv := conv_b o8.out.row HK3.out
      rw [HS3.out] at cv
      refine StepOk.on 6 true rfl rfl d6 (fun K hK => ?_)
      have HKK := Lib.hid hK; clear hK
      simp only [putAll, Act.put, List.setIfInBounds_toArray, List.set_cons_zero, List.set_cons_succ]
      go_simp
      exact HKK.out _ _ ⟨_, by simp only [putAll, Act.put, List.setIfInBounds_toArray, List.set_cons_zero, List.set_cons_succ, d6] <;> rfl, h0, h2, h3, h4, h5, h6, h7, fun _ => rfl, h10, h11, h12, h13, h14, h15, h16, h17, h18, h19, h20, h21, h22, h23, h24, h25, h26, h27, h28, h29, h30, h31, h32, h33, h34, y1, y8, hB⟩
    · obtain rfl := Option.some.inj hi
      clear hi hil
      have d6 := h6 (hall ⟨6, .guard⟩ (by simp) rfl)
      refine StepOk.on 6 true rfl rfl d6 (fun K hK => ?_)
      have HKK := Lib.hid hK; clear hK
      simp only [putAll, Act.put, List.setIfInBounds_toArray, List.set_cons_zero, List.set_cons_succ]
      go_simp
      exact HKK.out _ _ ⟨_, by simp only [putAll, Act.put, List.setIfInBounds_toArray, List.set_cons_zero, List.set_cons_succ, d6] <;> rfl, h0, h2, h3, h4, h5, h6, h7, h9, fun _ => rfl, h11, h12, h13, h14, h15, h16, h17, h18, h19, h20, h21, h22, h23, h24, h25, h26, h27, h28, h29, h30, h31, h32, h33, h34, y1, y8, hB⟩
    · obtain rfl := Option.some.inj hi
      clear hi hil
      have d10 := h10 (hall ⟨10, .data⟩ (by simp) rfl)
      have d6 := h6 (hall ⟨6, .guard⟩ (by simp) rfl)
      have cv := conv_b (HR2.out.on hB.out.1) HK4.out
      rw [HS4.out] at cv
      refine StepOk.on 6 true rfl rfl d6 (fun K hK => ?_)
      have HKK := Lib.hid hK; clear hK
      simp only [putAll, Act.put, List.setIfInBounds_toArray, List.set_cons_zero, List.set_cons_succ]
      go_simp
      exact HKK.out _ _ ⟨_, by simp only [putAll, Act.put, List.setIfInBounds_toArray, List.set_cons_zero, List.set_cons_succ, d10, d6] <;> rfl, h0, h2, h3, h4, h5, h6, h7, h9, h10, fun _ => rfl, h12, h13, h14, h15, h16, h17, h18, h19, h20, h21, h22, h23, h24, h25, h26, h27, h28, h29, h30, h31, h32, h33, h34, y1, y8, hB⟩
    · obtain rfl := Option.some.inj hi
      clear hi hil
      have d9 := h9 (hall ⟨9, .data⟩ (by simp) rfl)
      have d11 := h11 (hall ⟨11, .data⟩ (by simp) rfl)
      have d6 := h6 (hall ⟨6, .guard⟩ (by simp) rfl)
      have hq := HE2.out
      refine StepOk.on 6 true rfl rfl d6 (fun K hK => ?_)
      have HKK := Lib.hid hK; clear hK
      simp only [putAll, Act.put, List.setIfInBounds_toArray, List.set_cons_zero, List.set_cons_succ]
      go_simp
      exact HKK.out _ _ ⟨_, by simp only [putAll, Act.put, List.setIfInBounds_toArray, List.set_cons_zero, List.set_cons_succ, d9, d11, d6] <;> rfl, h0, h2, h3, h4, h5, h6, h7, h9, h10, h11, fun _ => rfl, h13, h14, h15, h16, h17, h18, h19, h20, h21, h22, h23, h24, h25, h26, h27, h28, h29, h30, h31, h32, h33, h34, y1, y8, hB⟩
    · obtain rfl := Option.some.inj hi
      clear hi hil
      have d6 := h6 (hall ⟨6, .data⟩ (by simp) rfl)
      have d12 := h12 (hall ⟨12, .data⟩ (by simp) rfl)
      refine StepOk.plain rfl (fun K hK => ?_)
      have HKK := Lib.hid hK; clear hK
      simp only [putAll, Act.put, List.setIfInBounds_toArray, List.set_cons_zero, List.set_cons_succ]
      go_simp
      exact HKK.out _ _ ⟨_, by simp only [putAll, Act.put, List.setIfInBounds_toArray, List.set_cons_zero, List.set_cons_succ, d6, d12] <;> rfl, h0, h2, h3, h4, h5, h6, h7, h9, h10, h11, h12, fun _ => rfl, h14, h15, h16, h17, h18, h19, h20, h21, h22, h23, h24, h25, h26, h27, h28, h29, h30, h31, h32, h33, h34, y1, y8, hB⟩
    · obtain rfl := Option.some.inj hi
      clear hi hil
      have d13 := h13 (hall ⟨13, .data⟩ (by simp) rfl)
      refine StepOk.plain rfl (fun K hK => ?_)
      have HKK := Lib.hid hK; clear hK
      simp only [putAll, Act.put, List.setIfInBounds_toArray, List.set_cons_zero, List.set_cons_succ]
      go_simp
      exact HKK.out _ _ ⟨_, by simp only [putAll, Act.put, List.setIfInBounds_toArray, List.set_cons_zero, List.set_cons_succ, d13] <;> rfl, h0, h2, h3, h4, h5, h6, h7, h9, h10, h11, h12, h13, fun _ => rfl, h15, h16, h17, h18, h19, h20, h21, h22, h23, h24, h25, h26, h27, h28, h29, h30, h31, h32, h33, h34, y1, y8, hB⟩
    · obtain rfl := Option.some.inj hi
      clear hi hil
      have d14 := h14 (hall ⟨14, .guard⟩ (by simp) rfl)
      refine StepOk.on 14 true rfl rfl d14 (fun K hK => ?_)
      have HKK := Lib.hid hK; clear hK
      simp only [putAll, Act.put, List.setIfInBounds_toArray, List.set_cons_zero, List.set_cons_succ]
      go_simp
      exact HKK.out _ _ ⟨_, by simp only [putAll, Act.put, List.setIfInBounds_toArray, List.set_cons_zero, List.set_cons_succ, d14] <;> rfl, h0, h2, h3, h4, h5, h6, h7, h9, h10, h11, h12, h13, h14, fun _ => rfl, h16, h17, h18, h19, h20, h21, h22, h23, h24, h25, h26, h27, h28, h29, h30, h31, h32, h33, h34, y1, y8, hB⟩
    · obtain rfl := Option.some.inj hi
      clear hi hil
      have d15 := h15 (hall ⟨15, .data⟩ (by simp) rfl)
      have d14 := h14 (hall ⟨14, .guard⟩ (by simp) rfl)
      refine StepOk.on 14 true rfl rfl d14 (fun K hK => ?_)
      have HKK := Lib.hid hK; clear hK
      simp only [putAll, Act.put, List.setIfInBounds_toArray, List.set_cons_zero, List.set_cons_succ]
      go_simp
      refine (HUS.out w' (hB).out.1).mono ?_
      rintro e w2 ⟨rfl, hb2⟩
      exact HKK.out _ _ ⟨_, by simp only [putAll, Act.put, List.setIfInBounds_toArray, List.set_cons_zero, List.set_cons_succ, d15, d14] <;> rfl, h0, h2, h3, h4, h5, h6, h7, h9, h10, h11, h12, h13, h14, h15, fun _ => rfl, h17, h18, h19, h20, h21, h22, h23, h24, h25, h26, h27, h28, h29, h30, h31, h32, h33, h34, fun h => Lib.hid ((y1 h).out.grow hb2), fun h => Lib.hid ((y8 h).out.grow hb2), Lib.hid ⟨(hB).out.1.trans (hb2.mono (hB).out.2), Nat.le_trans (hB).out.2 hb2.size⟩⟩
    · obtain rfl := Option.some.inj hi
      clear hi hil
      have d14 := h14 (hall ⟨14, .guard⟩ (by simp) rfl)
      refine StepOk.on 14 true rfl rfl d14 (fun K hK => ?_)
      have HKK := Lib.hid hK; clear hK
      simp only [putAll, Act.put, List.setIfInBounds_toArray, List.set_cons_zero, List.set_cons_succ]
      go_simp
      exact HKK.out _ _ ⟨_, by simp only [putAll, Act.put, List.setIfInBounds_toArray, List.set_cons_zero, List.set_cons_succ, d14] <;> rfl, h0, h2, h3, h4, h5, h6, h7, h9, h10, h11, h12, h13, h14, h15, h16, fun _ => rfl, h18, h19, h20, h21, h22, h23, h24, h25, h26, h27, h28, h29, h30, h31, h32, h33, h34, y1, y8, hB⟩
    · obtain rfl := Option.some.inj hi
      clear hi hil
      have d17 := h17 (hall ⟨17, .data⟩ (by simp) rfl)
      have d14 := h14 (hall ⟨14, .guard⟩ (by simp) rfl)
      refine StepOk.on 14 true rfl rfl d14 (fun K hK => ?_)
      have HKK := Lib.hid hK; clear hK
      simp only [putAll, Act.put, List.setIfInBounds_toArray, List.set_cons_zero, List.set_cons_succ]
      go_simp
      exact HKK.out _ _ ⟨_, by simp only [putAll, Act.put, List.setIfInBounds_toArray, List.set_cons_zero, List.set_cons_succ, d17, d14] <;> rfl, h0, h2, h3, h4, h5, h6, h7, h9, h10, h11, h12, h13, h14, h15, h16, h17, fun _ => rfl, h19, h20, h21, h22, h23, h24, h25, h26, h27, h28, h29, h30, h31, h32, h33, h34, y1, y8, hB⟩
    · obtain rfl := Option.some.inj hi
      clear hi hil
      have d14 := h14 (hall ⟨14, .guard⟩ (by simp) rfl)
      refine StepOk.on 14 true rfl rfl d14 (fun K hK => ?_)
      have HKK := Lib.hid hK; clear hK
      simp only [putAll, Act.put, List.setIfInBounds_toArray, List.set_cons_zero, List.set_cons_succ]
      go_simp
      exact HKK.out _ _ ⟨_, by simp only [putAll, Act.put, List.setIfInBounds_toArray, List.set_cons_zero, List.set_cons_succ, d14] <;> rfl, h0, h2, h3, h4, h5, h6, h7, h9, h10, h11, h12, h13, h14, h15, h16, h17, h18, fun _ => rfl, h20, h21, h22, h23, h24, h25, h26, h27, h28, h29, h30, h31, h32, h33, h34, y1, y8, hB⟩
    · obtain rfl := Option.some.inj hi
      clear hi hil
      have d19 := h19 (hall ⟨19, .data⟩ (by simp) rfl)
      have d14 := h14 (hall ⟨14, .guard⟩ (by simp) rfl)
      refine StepOk.on 14 true rfl rfl d14 (fun K hK => ?_)
      have HKK := Lib.hid hK; clear hK
      simp only [putAll, Act.put, List.setIfInBounds_toArray, List.set_cons_zero, List.set_cons_succ]
      go_simp
      exact HKK.out _ _ ⟨_, by simp only [putAll, Act.put, List.setIfInBounds_toArray, List.set_cons_zero, List.set_cons_succ, d19, d14] <;> rfl, h0, h2, h3, h4, h5, h6, h7, h9, h10, h11, h12, h13, h14, h15, h16, h17, h18, h19, fun _ => rfl, h21, h22, h23, h24, h25, h26, h27, h28, h29, h30, h31, h32, h33, h34, y1, y8, hB⟩
    · obtain rfl := Option.some.inj hi
      clear hi hil
      have d18 := h18 (hall ⟨18, .data⟩ (by simp) rfl)
      have d20 := h20 (hall ⟨20, .data⟩ (by simp) rfl)
      have d14 := h14 (hall ⟨14, .guard⟩ (by simp) rfl)
      refine StepOk.on 14 true rfl rfl d14 (fun K hK => ?_)
      have HKK := Lib.hid hK; clear hK
      simp only [putAll, Act.put, List.setIfInBounds_toArray, List.set_cons_zero, List.set_cons_succ]
      go_simp
      exact HKK.out _ _ ⟨_, by simp only [putAll, Act.put, List.setIfInBounds_toArray, List.set_cons_zero, List.set_cons_succ, d18, d20, d14, EAD.out] <;> rfl, h0, h2, h3, h4, h5, h6, h7, h9, h10, h11, h12, h13, h14, h15, h16, h17, h18, h19, h20, fun _ => rfl, h22, h23, h24, h25, h26, h27, h28, h29, h30, h31, h32, h33, h34, y1, y8, hB⟩
    · obtain rfl := Option.some.inj hi
      clear hi hil
      have d16 := h16 (hall ⟨16, .data⟩ (by simp) rfl)
      have d21 := h21 (hall ⟨21, .data⟩ (by simp) rfl)
      have d14 := h14 (hall ⟨14, .guard⟩ (by simp) rfl)
      refine StepOk.on 14 true rfl rfl d14 (fun K hK => ?_)
      have HKK := Lib.hid hK; clear hK
      simp only [putAll, Act.put, List.setIfInBounds_toArray, List.set_cons_zero, List.set_cons_succ]
      go_simp
      exact HKK.out _ _ ⟨_, by simp only [putAll, Act.put, List.setIfInBounds_toArray, List.set_cons_zero, List.set_cons_succ, d16, d21, d14] <;> rfl, h0, h2, h3, h4, h5, h6, h7, h9, h10, h11, h12, h13, h14, h15, h16, h17, h18, h19, h20, h21, fun _ => rfl, h23, h24, h25, h26, h27, h28, h29, h30, h31, h32, h33, h34, y1, y8, hB⟩
    · obtain rfl := Option.some.inj hi
      clear hi hil
      have d14 := h14 (hall ⟨14, .data⟩ (by simp) rfl)
      have d22 := h22 (hall ⟨22, .data⟩ (by simp) rfl)
      refine StepOk.plain rfl (fun K hK => ?_)
      have HKK := Lib.hid hK; clear hK
      simp only [putAll, Act.put, List.setIfInBounds_toArray, List.set_cons_zero, List.set_cons_succ]
      go_simp
      exact HKK.out _ _ ⟨_, by simp only [putAll, Act.put, List.setIfInBounds_toArray, List.set_cons_zero, List.set_cons_succ, d14, d22] <;> rfl, h0, h2, h3, h4, h5, h6, h7, h9, h10, h11, h12, h13, h14, h15, h16, h17, h18, h19, h20, h21, h22, fun _ => rfl, h24, h25, h26, h27, h28, h29, h30, h31, h32, h33, h34, y1, y8, hB⟩
    · obtain rfl := Option.some.inj hi
      clear hi hil
      have d23 := h23 (hall ⟨23, .data⟩ (by simp) rfl)
      refine StepOk.plain rfl (fun K hK => ?_)
      have HKK := Lib.hid hK; clear hK
      simp only [putAll, Act.put, List.setIfInBounds_toArray, List.set_cons_zero, List.set_cons_succ]
      go_simp
      exact HKK.out _ _ ⟨_, by simp only [putAll, Act.put, List.setIfInBounds_toArray, List.set_cons_zero, List.set_cons_succ, d23] <;> rfl, h0, h2, h3, h4, h5, h6, h7, h9, h10, h11, h12, h13, h14, h15, h16, h17, h18, h19, h20, h21, h22, h23, fun _ => rfl, h25, h26, h27, h28, h29, h30, h31, h32, h33, h34, y1, y8, hB⟩
    · obtain rfl := Option.some.inj hi
      clear hi hil
      have d24 := h24 (hall ⟨24, .guard⟩ (by simp) rfl)
      refine StepOk.on 24 true rfl rfl d24 (fun K hK => ?_)
      have HKK := Lib.hid hK; clear hK
      simp only [putAll, Act.put, List.setIfInBounds_toArray, List.set_cons_zero, List.set_cons_succ]
      go_simp
      exact HKK.out _ _ ⟨_, by simp only [putAll, Act.put, List.setIfInBounds_toArray, List.set_cons_zero, List.set_cons_succ, d24] <;> rfl, h0, h2, h3, h4, h5, h6, h7, h9, h10, h11, h12, h13, h14, h15, h16, h17, h18, h19, h20, h21, h22, h23, h24, fun _ => rfl, h26, h27, h28, h29, h30, h31, h32, h33, h34, y1, y8, hB⟩
    · obtain rfl := Option.some.inj hi
      clear hi hil
      have d25 := h25 (hall ⟨25, .data⟩ (by simp) rfl)
      have d24 := h24 (hall ⟨24, .guard⟩ (by simp) rfl)
      refine StepOk.on 24 true rfl rfl d24 (fun K hK => ?_)
      have HKK := Lib.hid hK; clear hK
      simp only [putAll, Act.put, List.setIfInBounds_toArray, List.set_cons_zero, List.set_cons_succ]
      go_simp
      refine (HRM.out w' (hB).out.1).mono ?_
      rintro e w2 ⟨rfl, hb2⟩
      exact HKK.out _ _ ⟨_, by simp only [putAll, Act.put, List.setIfInBounds_toArray, List.set_cons_zero, List.set_cons_succ, d25, d24] <;> rfl, h0, h2, h3, h4, h5, h6, h7, h9, h10, h11, h12, h13, h14, h15, h16, h17, h18, h19, h20, h21, h22, h23, h24, h25, fun _ => rfl, h27, h28, h29, h30, h31, h32, h33, h34, fun h => Lib.hid ((y1 h).out.grow hb2), fun h => Lib.hid ((y8 h).out.grow hb2), Lib.hid ⟨(hB).out.1.trans (hb2.mono (hB).out.2), Nat.le_trans (hB).out.2 hb2.size⟩⟩
    · obtain rfl := Option.some.inj hi
      clear hi hil
      have d24 := h24 (hall ⟨24, .guard⟩ (by simp) rfl)
      refine StepOk.on 24 true rfl rfl d24 (fun K hK => ?_)
      have HKK := Lib.hid hK; clear hK
      simp only [putAll, Act.put, List.setIfInBounds_toArray, List.set_cons_zero, List.set_cons_succ]
      go_simp
      exact HKK.out _ _ ⟨_, by simp only [putAll, Act.put, List.setIfInBounds_toArray, List.set_cons_zero, List.set_cons_succ, d24] <;> rfl, h0, h2, h3, h4, h5, h6, h7, h9, h10, h11, h12, h13, h14, h15, h16, h17, h18, h19, h20, h21, h22, h23, h24, h25, h26, fun _ => rfl, h28, h29, h30, h31, h32, h33, h34, y1, y8, hB⟩
    · obtain rfl := Option.some.inj hi
      clear hi hil
      have d27 := h27 (hall ⟨27, .data⟩ (by simp) rfl)
      have d24 := h24 (hall ⟨24, .guard⟩ (by simp) rfl)
      refine StepOk.on 24 true rfl rfl d24 (fun K hK => ?_)
      have HKK := Lib.hid hK; clear hK
      simp only [putAll, Act.put, List.setIfInBounds_toArray, List.set_cons_zero, List.set_cons_succ]
      go_simp
      refine (HCP.out w' (hB).out.1).mono ?_
      rintro e w2 ⟨rfl, hb2⟩
      exact HKK.out _ _ ⟨_, by simp only [putAll, Act.put, List.setIfInBounds_toArray, List.set_cons_zero, List.set_cons_succ, d27, d24] <;> rfl, h0, h2, h3, h4, h5, h6, h7, h9, h10, h11, h12, h13, h14, h15, h16, h17, h18, h19, h20, h21, h22, h23, h24, h25, h26, h27, fun _ => rfl, h29, h30, h31, h32, h33, h34, fun h => Lib.hid ((y1 h).out.grow hb2), fun h => Lib.hid ((y8 h).out.grow hb2), Lib.hid ⟨(hB).out.1.trans (hb2.mono (hB).out.2), Nat.le_trans (hB).out.2 hb2.size⟩⟩
    · obtain rfl := Option.some.inj hi
      clear hi hil
      have d24 := h24 (hall ⟨24, .guard⟩ (by simp) rfl)
      refine StepOk.on 24 true rfl rfl d24 (fun K hK => ?_)
      have HKK := Lib.hid hK; clear hK
      simp only [putAll, Act.put, List.setIfInBounds_toArray, List.set_cons_zero, List.set_cons_succ]
      go_simp
      exact HKK.out _ _ ⟨_, by simp only [putAll, Act.put, List.setIfInBounds_toArray, List.set_cons_zero, List.set_cons_succ, d24] <;> rfl, h0, h2, h3, h4, h5, h6, h7, h9, h10, h11, h12, h13, h14, h15, h16, h17, h18, h19, h20, h21, h22, h23, h24, h25, h26, h27, h28, fun _ => rfl, h30, h31, h32, h33, h34, y1, y8, hB⟩
    · obtain rfl := Option.some.inj hi
      clear hi hil
      have d29 := h29 (hall ⟨29, .data⟩ (by simp) rfl)
      have d24 := h24 (hall ⟨24, .guard⟩ (by simp) rfl)
      refine StepOk.on 24 true rfl rfl d24 (fun K hK => ?_)
      have HKK := Lib.hid hK; clear hK
      simp only [putAll, Act.put, List.setIfInBounds_toArray, List.set_cons_zero, List.set_cons_succ]
      go_simp
      refine (HUS.out w' (hB).out.1).mono ?_
      rintro e w2 ⟨rfl, hb2⟩
      exact HKK.out _ _ ⟨_, by simp only [putAll, Act.put, List.setIfInBounds_toArray, List.set_cons_zero, List.set_cons_succ, d29, d24] <;> rfl, h0, h2, h3, h4, h5, h6, h7, h9, h10, h11, h12, h13, h14, h15, h16, h17, h18, h19, h20, h21, h22, h23, h24, h25, h26, h27, h28, h29, fun _ => rfl, h31, h32, h33, h34, fun h => Lib.hid ((y1 h).out.grow hb2), fun h => Lib.hid ((y8 h).out.grow hb2), Lib.hid ⟨(hB).out.1.trans (hb2.mono (hB).out.2), Nat.le_trans (hB).out.2 hb2.size⟩⟩
    · obtain rfl := Option.some.inj hi
      clear hi hil
      have d28 := h28 (hall ⟨28, .data⟩ (by simp) rfl)
      have d30 := h30 (hall ⟨30, .data⟩ (by simp) rfl)
      have d24 := h24 (hall ⟨24, .guard⟩ (by simp) rfl)
      refine StepOk.on 24 true rfl rfl d24 (fun K hK => ?_)
      have HKK := Lib.hid hK; clear hK
      simp only [putAll, Act.put, List.setIfInBounds_toArray, List.set_cons_zero, List.set_cons_succ]
      go_simp
      exact HKK.out _ _ ⟨_, by simp only [putAll, Act.put, List.setIfInBounds_toArray, List.set_cons_zero, List.set_cons_succ, d28, d30, d24, ESB.out] <;> rfl, h0, h2, h3, h4, h5, h6, h7, h9, h10, h11, h12, h13, h14, h15, h16, h17, h18, h19, h20, h21, h22, h23, h24, h25, h26, h27, h28, h29, h30, fun _ => rfl, h32, h33, h34, y1, y8, hB⟩
    · obtain rfl := Option.some.inj hi
      clear hi hil
      have d26 := h26 (hall ⟨26, .data⟩ (by simp) rfl)
      have d31 := h31 (hall ⟨31, .data⟩ (by simp) rfl)
      have d24 := h24 (hall ⟨24, .guard⟩ (by simp) rfl)
      refine StepOk.on 24 true rfl rfl d24 (fun K hK => ?_)
      have HKK := Lib.hid hK; clear hK
      simp only [putAll, Act.put, List.setIfInBounds_toArray, List.set_cons_zero, List.set_cons_succ]
      go_simp
      exact HKK.out _ _ ⟨_, by simp only [putAll, Act.put, List.setIfInBounds_toArray, List.set_cons_zero, List.set_cons_succ, d26, d31, d24] <;> rfl, h0, h2, h3, h4, h5, h6, h7, h9, h10, h11, h12, h13, h14, h15, h16, h17, h18, h19, h20, h21, h22, h23, h24, h25, h26, h27, h28, h29, h30, h31, fun _ => rfl, h33, h34, y1, y8, hB⟩
    · obtain rfl := Option.some.inj hi
      clear hi hil
      have d24 := h24 (hall ⟨24, .data⟩ (by simp) rfl)
      have d32 := h32 (hall ⟨32, .data⟩ (by simp) rfl)
      refine StepOk.plain rfl (fun K hK => ?_)
      have HKK := Lib.hid hK; clear hK
      simp only [putAll, Act.put, List.setIfInBounds_toArray, List.set_cons_zero, List.set_cons_succ]
      go_simp
      exact HKK.out _ _ ⟨_, by simp only [putAll, Act.put, List.setIfInBounds_toArray, List.set_cons_zero, List.set_cons_succ, d24, d32] <;> rfl, h0, h2, h3, h4, h5, h6, h7, h9, h10, h11, h12, h13, h14, h15, h16, h17, h18, h19, h20, h21, h22, h23, h24, h25, h26, h27, h28, h29, h30, h31, h32, fun _ => rfl, h34, y1, y8, hB⟩
    · obtain rfl := Option.some.inj hi
      clear hi hil
      have d33 := h33 (hall ⟨33, .data⟩ (by simp) rfl)
      refine StepOk.plain rfl (fun K hK => ?_)
      have HKK := Lib.hid hK; clear hK
      simp only [putAll, Act.put, List.setIfInBounds_toArray, List.set_cons_zero, List.set_cons_succ]
      go_simp
      exact HKK.out _ _ ⟨_, by simp only [putAll, Act.put, List.setIfInBounds_toArray, List.set_cons_zero, List.set_cons_succ, d33] <;> rfl, h0, h2, h3, h4, h5, h6, h7, h9, h10, h11, h12, h13, h14, h15, h16, h17, h18, h19, h20, h21, h22, h23, h24, h25, h26, h27, h28, h29, h30, h31, h32, h33, fun _ => rfl, y1, y8, hB⟩
    · omega
  rintro b' vs w2 hall ⟨h0, h2, h3, h4, h5, h6, h7, h9, h10, h11, h12, h13, h14, h15, h16, h17, h18, h19, h20, h21, h22, h23, h24, h25, h26, h27, h28, h29, h30, h31, h32, h33, h34, y1, y8, hB⟩
  have d0 := h0 (hall 0 (by simp))
  have d2 := h2 (hall 2 (by simp))
  have d3 := h3 (hall 3 (by simp))
  have d4 := h4 (hall 4 (by simp))
  have d5 := h5 (hall 5 (by simp))
  have d6 := h6 (hall 6 (by simp))
  have d7 := h7 (hall 7 (by simp))
  have d9 := h9 (hall 9 (by simp))
  have d10 := h10 (hall 10 (by simp))
  have d11 := h11 (hall 11 (by simp))
  have d12 := h12 (hall 12 (by simp))
  have d13 := h13 (hall 13 (by simp))
  have d14 := h14 (hall 14 (by simp))
  have d15 := h15 (hall 15 (by simp))
  have d16 := h16 (hall 16 (by simp))
  have d17 := h17 (hall 17 (by simp))
  have d18 := h18 (hall 18 (by simp))
  have d19 := h19 (hall 19 (by simp))
  have d20 := h20 (hall 20 (by simp))
  have d21 := h21 (hall 21 (by simp))
  have d22 := h22 (hall 22 (by simp))
  have d23 := h23 (hall 23 (by simp))
  have d24 := h24 (hall 24 (by simp))
  have d25 := h25 (hall 25 (by simp))
  have d26 := h26 (hall 26 (by simp))
  have d27 := h27 (hall 27 (by simp))
  have d28 := h28 (hall 28 (by simp))
  have d29 := h29 (hall 29 (by simp))
  have d30 := h30 (hall 30 (by simp))
  have d31 := h31 (hall 31 (by simp))
  have d32 := h32 (hall 32 (by simp))
  have d33 := h33 (hall 33 (by simp))
  have d34 := h34 (hall 34 (by simp))
  have o1 := y1 (hall 1 (by simp))
  have o8 := y8 (hall 8 (by simp))
  have BB := hB
  simp only [putAll, Act.put, List.setIfInBounds_toArray, List.set_cons_zero, List.set_cons_succ, d0, d2, d3, d4, d5, d6, d7, d9, d10, d11, d12, d13, d14, d15, d16, d17, d18, d19, d20, d21, d22, d23, d24, d25, d26, d27, d28, d29, d30, d31, d32, d33, d34]
  clear hall h0 d0 h2 d2 h3 d3 h4 d4 h5 d5 h6 d6 h7 d7 h9 d9 h10 d10 h11 d11 h12 d12 h13 d13 h14 d14 h15 d15 h16 d16 h17 d17 h18 d18 h19 d19 h20 d20 h21 d21 h22 d22 h23 d23 h24 d24 h25 d25 h26 d26 h27 d27 h28 d28 h29 d29 h30 d30 h31 d31 h32 d32 h33 d33 h34 d34 y1 y8 hB
  have HB9 := Lib.hid BB.out
  clear BB
  clear o1
  clear o8
  go_wp2_with fail
  go_ret
  exact ⟨rfl, HB9.out.1⟩
end Go.Proofs.Ytdcjchakgfpgaaa
