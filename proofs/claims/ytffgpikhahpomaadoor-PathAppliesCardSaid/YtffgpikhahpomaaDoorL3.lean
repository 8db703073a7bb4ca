/- Layer 5: middles. -/
import Derived.Test.YtffgpikhahpomaaDoorL
import Derived.Test.YtffgpikhahpomaaDoorE
namespace Go.Proofs.YtffgpikhahpomaaDoor
open Go.RowKit
set_option maxHeartbeats 4000000 in
set_option maxRecDepth 100000 in
theorem middles_three (p q r s a b : Pt) (w : World)
    (HM0 : Hid (∀ w, Calls Tryd.prog 58 #[.agg #[.int .i64 p.1, .int .i64 p.2], .agg #[.int .i64 q.1, .int .i64 q.2]] w fun e w' => e = .returned (.agg #[.int .i64 a.1, .int .i64 a.2]) ∧ Below w.heap.size w w'))
    (HM1 : Hid (∀ w, Calls Tryd.prog 58 #[.agg #[.int .i64 q.1, .int .i64 q.2], .agg #[.int .i64 r.1, .int .i64 r.2]] w fun e w' => e = .returned (.agg #[.int .i64 b.1, .int .i64 b.2]) ∧ Below w.heap.size w w')) :
    Calls Tryd.prog 69 #[.agg (nine p q r s 3)] w fun e w' => e = .returned (.agg (nine a b zP zP 2)) ∧ Below w.heap.size w w' := by
  have S0 : Hid (Mem w (((w.alloc (.cells (nine p q r s 3) 112)).alloc (.cells (Ro.mk zP zP zP zP 0).cells 112)).alloc (.cells (Ro.mk zP zP zP zP 2).cells 112)) [(w.heap.size + 2, 112, (Ro.mk zP zP zP zP 2).cells), (w.heap.size + 1, 112, (Ro.mk zP zP zP zP 0).cells), (w.heap.size, 112, (Ro.mk p q r s 3).cells)]) := Lib.hid ((((Mem.refl w).add 112 (Ro.mk p q r s 3).cells).addAt 112 (Ro.mk zP zP zP zP 0).cells (w.heap.size + 1) (by simp)).addAt 112 (Ro.mk zP zP zP zP 2).cells (w.heap.size + 2) (by simp))
  obtain ⟨N, hN⟩ : ∃ n, w.heap.size = n := ⟨_, rfl⟩
  have HNN := Lib.hid hN
  rw [hN] at S0 ⊢
  go_enter Tryd.func69, Tryd.ntmps69
  go_wp2_with fail
  go_loopw [11] (fun i wr => (i = .int .i64 0 ∧ Hid (Mem w wr [(N + 2, 112, (Ro.mk zP zP zP zP 2).cells), (N + 1, 112, (Ro.mk zP zP zP zP 0).cells), (N, 112, (Ro.mk p q r s 3).cells)])) ∨ (i = .int .i64 1 ∧ Hid (Mem w wr [(N + 2, 112, (Ro.mk a zP zP zP 2).cells), (N + 1, 112, (Ro.mk zP zP zP zP 0).cells), (N, 112, (Ro.mk p q r s 3).cells)])) ∨ (i = .int .i64 2 ∧ Hid (Mem w wr [(N + 2, 112, (Ro.mk a b zP zP 2).cells), (N + 1, 112, (Ro.mk zP zP zP zP 0).cells), (N, 112, (Ro.mk p q r s 3).cells)]))) (fun i _ => 2 - (intOf i).toNat)
  case atStart => exact .inl (⟨rfl, S0⟩)
  case round =>
    rcases hrel with ⟨rfl, hw⟩ | ⟨rfl, hw⟩ | ⟨rfl, hw⟩
    · have m8 := hw.out.lays.1.r8
      simp only at m8
      go_wp2_with fail
      clear m8
      refine wp_region_put (by kernel_rfl) (by kernel_rfl) (by kernel_rfl) (fun b' vs w' => (b' 0 = true → vs 0 = .int .i64 0) ∧ (b' 1 = true → vs 1 = .int .i64 0) ∧ (b' 2 = true → vs 2 = .pointer (some ⟨N, 0, none⟩)) ∧ (b' 3 = true → vs 3 = .pointer (some ⟨N, 0, none⟩)) ∧ (b' 4 = true → vs 4 = .agg #[.int .i64 p.1, .int .i64 p.2]) ∧ (b' 5 = true → vs 5 = .int .i64 0) ∧ (b' 6 = true → vs 6 = .int .i64 1) ∧ (b' 7 = true → vs 7 = .pointer (some ⟨N, 0, none⟩)) ∧ (b' 8 = true → vs 8 = .pointer (some ⟨N, 2, none⟩)) ∧ (b' 9 = true → vs 9 = .agg #[.int .i64 q.1, .int .i64 q.2]) ∧ (b' 10 = true → vs 10 = .agg #[.int .i64 a.1, .int .i64 a.2]) ∧ (b' 11 = true → vs 11 = .pointer (some ⟨N + 2, 0, none⟩)) ∧ (b' 12 = true → vs 12 = .pointer (some ⟨N + 2, 0, none⟩)) ∧ Hid (RegM N w [] [⟨N + 2, 112, (Ro.mk zP zP zP zP 2).cells, 13, (Ro.mk a zP zP zP 2).cells⟩] [(N + 1, 112, (Ro.mk zP zP zP zP 0).cells), (N, 112, (Ro.mk p q r s 3).cells)] b' vs w')) ?_ ?_ ?_
      · intro vs
        exact ⟨fun h => Bool.noConfusion h, fun h => Bool.noConfusion h, fun h => Bool.noConfusion h, fun h => Bool.noConfusion h, fun h => Bool.noConfusion h, fun h => Bool.noConfusion h, fun h => Bool.noConfusion h, fun h => Bool.noConfusion h, fun h => Bool.noConfusion h, fun h => Bool.noConfusion h, fun h => Bool.noConfusion h, fun h => Bool.noConfusion h, fun h => Bool.noConfusion h, RegM.start (⟨⟨HNN.out ▸ hw.out.below, by have := hw.out.lays.1.lt; omega⟩, fun s hs => (by simp at hs; subst hs; exact hw.out.lays.1), hw.out.lays.2⟩) vs⟩
      · rintro b' vs w' i op hi hun hall ⟨h0, h1, h2, h3, h4, h5, h6, h7, h8, h9, h10, h11, h12, hM⟩
        have hil : i < 14 := (List.getElem?_eq_some_iff.1 hi).1
        rcases i with _ | _ | _ | _ | _ | _ | _ | _ | _ | _ | _ | _ | _ | _ | i
        · obtain rfl := Option.some.inj hi
          refine wpOp_step rfl (fun K hK => ?_)
          have HKK := Lib.hid hK; clear hK
          simp only [putAll, Act.put, List.setIfInBounds_toArray, List.set_cons_zero, List.set_cons_succ]
          go_simp
          exact HKK.out _ _ ⟨_, by simp only [putAll, Act.put, List.setIfInBounds_toArray, List.set_cons_zero, List.set_cons_succ] <;> rfl, fun _ => rfl, h1, h2, h3, h4, h5, h6, h7, h8, h9, h10, h11, h12, RegM.other hM.out 0 _ rfl⟩
        · obtain rfl := Option.some.inj hi
          refine wpOp_step rfl (fun K hK => ?_)
          have HKK := Lib.hid hK; clear hK
          simp only [putAll, Act.put, List.setIfInBounds_toArray, List.set_cons_zero, List.set_cons_succ]
          go_simp
          exact HKK.out _ _ ⟨_, by simp only [putAll, Act.put, List.setIfInBounds_toArray, List.set_cons_zero, List.set_cons_succ] <;> rfl, h0, fun _ => rfl, h2, h3, h4, h5, h6, h7, h8, h9, h10, h11, h12, RegM.other hM.out 1 _ rfl⟩
        · obtain rfl := Option.some.inj hi
          refine wpOp_step rfl (fun K hK => ?_)
          have HKK := Lib.hid hK; clear hK
          simp only [putAll, Act.put, List.setIfInBounds_toArray, List.set_cons_zero, List.set_cons_succ]
          go_simp
          exact HKK.out _ _ ⟨_, by simp only [putAll, Act.put, List.setIfInBounds_toArray, List.set_cons_zero, List.set_cons_succ] <;> rfl, h0, h1, fun _ => rfl, h3, h4, h5, h6, h7, h8, h9, h10, h11, h12, RegM.other hM.out 2 _ rfl⟩
        · obtain rfl := Option.some.inj hi
          have d2 := h2 (hall ⟨2, .data⟩ (by simp) rfl)
          have d1 := h1 (hall ⟨1, .data⟩ (by simp) rfl)
          refine wpOp_step rfl (fun K hK => ?_)
          have HKK := Lib.hid hK; clear hK
          simp only [putAll, Act.put, List.setIfInBounds_toArray, List.set_cons_zero, List.set_cons_succ]
          go_simp
          exact HKK.out _ _ ⟨_, by simp only [putAll, Act.put, List.setIfInBounds_toArray, List.set_cons_zero, List.set_cons_succ, d2, d1] <;> rfl, h0, h1, h2, fun _ => rfl, h4, h5, h6, h7, h8, h9, h10, h11, h12, RegM.other hM.out 3 _ rfl⟩
        · obtain rfl := Option.some.inj hi
          have d3 := h3 (hall ⟨3, .data⟩ (by simp) rfl)
          have c0 := (RegM.lays hM.out).2.1.r0; have c1 := (RegM.lays hM.out).2.1.r1
          simp only at c0 c1
          refine wpOp_step rfl (fun K hK => ?_)
          have HKK := Lib.hid hK; clear hK
          simp only [putAll, Act.put, List.setIfInBounds_toArray, List.set_cons_zero, List.set_cons_succ]
          go_simp
          exact HKK.out _ _ ⟨_, by simp only [putAll, Act.put, List.setIfInBounds_toArray, List.set_cons_zero, List.set_cons_succ, d3] <;> rfl, h0, h1, h2, h3, fun _ => rfl, h5, h6, h7, h8, h9, h10, h11, h12, RegM.other hM.out 4 _ rfl⟩
        · obtain rfl := Option.some.inj hi
          refine wpOp_step rfl (fun K hK => ?_)
          have HKK := Lib.hid hK; clear hK
          simp only [putAll, Act.put, List.setIfInBounds_toArray, List.set_cons_zero, List.set_cons_succ]
          go_simp
          exact HKK.out _ _ ⟨_, by simp only [putAll, Act.put, List.setIfInBounds_toArray, List.set_cons_zero, List.set_cons_succ] <;> rfl, h0, h1, h2, h3, h4, fun _ => rfl, h6, h7, h8, h9, h10, h11, h12, RegM.other hM.out 5 _ rfl⟩
        · obtain rfl := Option.some.inj hi
          have d5 := h5 (hall ⟨5, .data⟩ (by simp) rfl)
          refine wpOp_step rfl (fun K hK => ?_)
          have HKK := Lib.hid hK; clear hK
          simp only [putAll, Act.put, List.setIfInBounds_toArray, List.set_cons_zero, List.set_cons_succ]
          go_simp
          exact HKK.out _ _ ⟨_, by simp only [putAll, Act.put, List.setIfInBounds_toArray, List.set_cons_zero, List.set_cons_succ, d5] <;> rfl, h0, h1, h2, h3, h4, h5, fun _ => rfl, h7, h8, h9, h10, h11, h12, RegM.other hM.out 6 _ rfl⟩
        · obtain rfl := Option.some.inj hi
          refine wpOp_step rfl (fun K hK => ?_)
          have HKK := Lib.hid hK; clear hK
          simp only [putAll, Act.put, List.setIfInBounds_toArray, List.set_cons_zero, List.set_cons_succ]
          go_simp
          exact HKK.out _ _ ⟨_, by simp only [putAll, Act.put, List.setIfInBounds_toArray, List.set_cons_zero, List.set_cons_succ] <;> rfl, h0, h1, h2, h3, h4, h5, h6, fun _ => rfl, h8, h9, h10, h11, h12, RegM.other hM.out 7 _ rfl⟩
        · obtain rfl := Option.some.inj hi
          have d7 := h7 (hall ⟨7, .data⟩ (by simp) rfl)
          have d6 := h6 (hall ⟨6, .data⟩ (by simp) rfl)
          refine wpOp_step rfl (fun K hK => ?_)
          have HKK := Lib.hid hK; clear hK
          simp only [putAll, Act.put, List.setIfInBounds_toArray, List.set_cons_zero, List.set_cons_succ]
          go_simp
          exact HKK.out _ _ ⟨_, by simp only [putAll, Act.put, List.setIfInBounds_toArray, List.set_cons_zero, List.set_cons_succ, d7, d6] <;> rfl, h0, h1, h2, h3, h4, h5, h6, h7, fun _ => rfl, h9, h10, h11, h12, RegM.other hM.out 8 _ rfl⟩
        · obtain rfl := Option.some.inj hi
          have d8 := h8 (hall ⟨8, .data⟩ (by simp) rfl)
          have c0 := (RegM.lays hM.out).2.1.r2; have c1 := (RegM.lays hM.out).2.1.r3
          simp only at c0 c1
          refine wpOp_step rfl (fun K hK => ?_)
          have HKK := Lib.hid hK; clear hK
          simp only [putAll, Act.put, List.setIfInBounds_toArray, List.set_cons_zero, List.set_cons_succ]
          go_simp
          exact HKK.out _ _ ⟨_, by simp only [putAll, Act.put, List.setIfInBounds_toArray, List.set_cons_zero, List.set_cons_succ, d8] <;> rfl, h0, h1, h2, h3, h4, h5, h6, h7, h8, fun _ => rfl, h10, h11, h12, RegM.other hM.out 9 _ rfl⟩
        · obtain rfl := Option.some.inj hi
          have d4 := h4 (hall ⟨4, .data⟩ (by simp) rfl)
          have d9 := h9 (hall ⟨9, .data⟩ (by simp) rfl)
          refine wpOp_step rfl (fun K hK => ?_)
          have HKK := Lib.hid hK; clear hK
          simp only [putAll, Act.put, List.setIfInBounds_toArray, List.set_cons_zero, List.set_cons_succ]
          go_simp
          refine (HM0.out _).mono ?_
          rintro e w2 ⟨rfl, hb2⟩
          exact HKK.out _ _ ⟨_, by simp only [putAll, Act.put, List.setIfInBounds_toArray, List.set_cons_zero, List.set_cons_succ, d4, d9] <;> rfl, h0, h1, h2, h3, h4, h5, h6, h7, h8, h9, fun _ => rfl, h11, h12, (RegM.other hM.out 10 _ rfl).grow hb2⟩
        · obtain rfl := Option.some.inj hi
          refine wpOp_step rfl (fun K hK => ?_)
          have HKK := Lib.hid hK; clear hK
          simp only [putAll, Act.put, List.setIfInBounds_toArray, List.set_cons_zero, List.set_cons_succ]
          go_simp
          exact HKK.out _ _ ⟨_, by simp only [putAll, Act.put, List.setIfInBounds_toArray, List.set_cons_zero, List.set_cons_succ] <;> rfl, h0, h1, h2, h3, h4, h5, h6, h7, h8, h9, h10, fun _ => rfl, h12, RegM.other hM.out 11 _ rfl⟩
        · obtain rfl := Option.some.inj hi
          have d11 := h11 (hall ⟨11, .data⟩ (by simp) rfl)
          have d0 := h0 (hall ⟨0, .data⟩ (by simp) rfl)
          refine wpOp_step rfl (fun K hK => ?_)
          have HKK := Lib.hid hK; clear hK
          simp only [putAll, Act.put, List.setIfInBounds_toArray, List.set_cons_zero, List.set_cons_succ]
          go_simp
          exact HKK.out _ _ ⟨_, by simp only [putAll, Act.put, List.setIfInBounds_toArray, List.set_cons_zero, List.set_cons_succ, d11, d0] <;> rfl, h0, h1, h2, h3, h4, h5, h6, h7, h8, h9, h10, h11, fun _ => rfl, RegM.other hM.out 12 _ rfl⟩
        · obtain rfl := Option.some.inj hi
          have d12 := h12 (hall ⟨12, .data⟩ (by simp) rfl)
          have d10 := h10 (hall ⟨10, .data⟩ (by simp) rfl)
          have kg := RegM.at hM.out ⟨N + 2, 112, (Ro.mk zP zP zP zP 2).cells, 13, (Ro.mk a zP zP zP 2).cells⟩ (by simp) hun
          have z0 := kg.r0; have z1 := kg.r1; have f0 := kg.free 0; have f1 := kg.free 1
          simp only at z0 z1 f0 f1
          refine wpOp_step rfl (fun K hK => ?_)
          have HKK := Lib.hid hK; clear hK
          simp only [putAll, Act.put, List.setIfInBounds_toArray, List.set_cons_zero, List.set_cons_succ]
          go_simp
          exact HKK.out _ _ ⟨_, by simp only [putAll, Act.put, List.setIfInBounds_toArray, List.set_cons_zero, List.set_cons_succ, d12, d10] <;> rfl, h0, h1, h2, h3, h4, h5, h6, h7, h8, h9, h10, h11, h12, RegM.stored hM.out undef (below_cell2 (g := N + 2) (RegM.below hM.out) (by omega) 0 1 _ _) (by simp) ((kg.set 0 _).set 1 _) ⟨(RegM.lays hM.out).1.other2 (g' := N + 2) (by dsimp only; omega) 0 1 _ _, (RegM.lays hM.out).2.1.other2 (g' := N + 2) (by dsimp only; omega) 0 1 _ _, trivial⟩⟩
        · omega
      · rintro b' vs w2 hall ⟨h0, h1, h2, h3, h4, h5, h6, h7, h8, h9, h10, h11, h12, hM⟩
        have d0 := h0 (hall 0 (by simp))
        have d1 := h1 (hall 1 (by simp))
        have d2 := h2 (hall 2 (by simp))
        have d3 := h3 (hall 3 (by simp))
        have d4 := h4 (hall 4 (by simp))
        have d5 := h5 (hall 5 (by simp))
        have d6 := h6 (hall 6 (by simp))
        have d7 := h7 (hall 7 (by simp))
        have d8 := h8 (hall 8 (by simp))
        have d9 := h9 (hall 9 (by simp))
        have d10 := h10 (hall 10 (by simp))
        have d11 := h11 (hall 11 (by simp))
        have d12 := h12 (hall 12 (by simp))
        have k0 := Lib.hid (RegM.done hM.out ⟨N + 2, 112, (Ro.mk zP zP zP zP 2).cells, 13, (Ro.mk a zP zP zP 2).cells⟩ (by simp) (hall _ (by simp)))
        have LS := Lib.hid (RegM.lays hM.out)
        have BB := Lib.hid (RegM.below hM.out)
        have BN := hM.out.1.2
        simp only [putAll, Act.put, List.setIfInBounds_toArray, List.set_cons_zero, List.set_cons_succ, d0, d1, d2, d3, d4, d5, d6, d7, d8, d9, d10, d11, d12]
        clear h0 d0 h1 d1 h2 d2 h3 d3 h4 d4 h5 d5 h6 d6 h7 d7 h8 d8 h9 d9 h10 d10 h11 d11 h12 d12
        go_wp2_with fail
        exact ⟨.inr (.inl (⟨by go_num, ⟨HNN.out.symm ▸ BB.out, k0.out, LS.out⟩⟩)), by simp [intOf]⟩
    · have m8 := hw.out.lays.1.r8
      simp only at m8
      go_wp2_with fail
      clear m8
      refine wp_region_put (by kernel_rfl) (by kernel_rfl) (by kernel_rfl) (fun b' vs w' => (b' 0 = true → vs 0 = .int .i64 1) ∧ (b' 1 = true → vs 1 = .int .i64 1) ∧ (b' 2 = true → vs 2 = .pointer (some ⟨N, 0, none⟩)) ∧ (b' 3 = true → vs 3 = .pointer (some ⟨N, 2, none⟩)) ∧ (b' 4 = true → vs 4 = .agg #[.int .i64 q.1, .int .i64 q.2]) ∧ (b' 5 = true → vs 5 = .int .i64 1) ∧ (b' 6 = true → vs 6 = .int .i64 2) ∧ (b' 7 = true → vs 7 = .pointer (some ⟨N, 0, none⟩)) ∧ (b' 8 = true → vs 8 = .pointer (some ⟨N, 4, none⟩)) ∧ (b' 9 = true → vs 9 = .agg #[.int .i64 r.1, .int .i64 r.2]) ∧ (b' 10 = true → vs 10 = .agg #[.int .i64 b.1, .int .i64 b.2]) ∧ (b' 11 = true → vs 11 = .pointer (some ⟨N + 2, 0, none⟩)) ∧ (b' 12 = true → vs 12 = .pointer (some ⟨N + 2, 2, none⟩)) ∧ Hid (RegM N w [] [⟨N + 2, 112, (Ro.mk a zP zP zP 2).cells, 13, (Ro.mk a b zP zP 2).cells⟩] [(N + 1, 112, (Ro.mk zP zP zP zP 0).cells), (N, 112, (Ro.mk p q r s 3).cells)] b' vs w')) ?_ ?_ ?_
      · intro vs
        exact ⟨fun h => Bool.noConfusion h, fun h => Bool.noConfusion h, fun h => Bool.noConfusion h, fun h => Bool.noConfusion h, fun h => Bool.noConfusion h, fun h => Bool.noConfusion h, fun h => Bool.noConfusion h, fun h => Bool.noConfusion h, fun h => Bool.noConfusion h, fun h => Bool.noConfusion h, fun h => Bool.noConfusion h, fun h => Bool.noConfusion h, fun h => Bool.noConfusion h, RegM.start (⟨⟨HNN.out ▸ hw.out.below, by have := hw.out.lays.1.lt; omega⟩, fun s hs => (by simp at hs; subst hs; exact hw.out.lays.1), hw.out.lays.2⟩) vs⟩
      · rintro b' vs w' i op hi hun hall ⟨h0, h1, h2, h3, h4, h5, h6, h7, h8, h9, h10, h11, h12, hM⟩
        have hil : i < 14 := (List.getElem?_eq_some_iff.1 hi).1
        rcases i with _ | _ | _ | _ | _ | _ | _ | _ | _ | _ | _ | _ | _ | _ | i
        · obtain rfl := Option.some.inj hi
          refine wpOp_step rfl (fun K hK => ?_)
          have HKK := Lib.hid hK; clear hK
          simp only [putAll, Act.put, List.setIfInBounds_toArray, List.set_cons_zero, List.set_cons_succ]
          go_simp
          exact HKK.out _ _ ⟨_, by simp only [putAll, Act.put, List.setIfInBounds_toArray, List.set_cons_zero, List.set_cons_succ] <;> rfl, fun _ => rfl, h1, h2, h3, h4, h5, h6, h7, h8, h9, h10, h11, h12, RegM.other hM.out 0 _ rfl⟩
        · obtain rfl := Option.some.inj hi
          refine wpOp_step rfl (fun K hK => ?_)
          have HKK := Lib.hid hK; clear hK
          simp only [putAll, Act.put, List.setIfInBounds_toArray, List.set_cons_zero, List.set_cons_succ]
          go_simp
          exact HKK.out _ _ ⟨_, by simp only [putAll, Act.put, List.setIfInBounds_toArray, List.set_cons_zero, List.set_cons_succ] <;> rfl, h0, fun _ => rfl, h2, h3, h4, h5, h6, h7, h8, h9, h10, h11, h12, RegM.other hM.out 1 _ rfl⟩
        · obtain rfl := Option.some.inj hi
          refine wpOp_step rfl (fun K hK => ?_)
          have HKK := Lib.hid hK; clear hK
          simp only [putAll, Act.put, List.setIfInBounds_toArray, List.set_cons_zero, List.set_cons_succ]
          go_simp
          exact HKK.out _ _ ⟨_, by simp only [putAll, Act.put, List.setIfInBounds_toArray, List.set_cons_zero, List.set_cons_succ] <;> rfl, h0, h1, fun _ => rfl, h3, h4, h5, h6, h7, h8, h9, h10, h11, h12, RegM.other hM.out 2 _ rfl⟩
        · obtain rfl := Option.some.inj hi
          have d2 := h2 (hall ⟨2, .data⟩ (by simp) rfl)
          have d1 := h1 (hall ⟨1, .data⟩ (by simp) rfl)
          refine wpOp_step rfl (fun K hK => ?_)
          have HKK := Lib.hid hK; clear hK
          simp only [putAll, Act.put, List.setIfInBounds_toArray, List.set_cons_zero, List.set_cons_succ]
          go_simp
          exact HKK.out _ _ ⟨_, by simp only [putAll, Act.put, List.setIfInBounds_toArray, List.set_cons_zero, List.set_cons_succ, d2, d1] <;> rfl, h0, h1, h2, fun _ => rfl, h4, h5, h6, h7, h8, h9, h10, h11, h12, RegM.other hM.out 3 _ rfl⟩
        · obtain rfl := Option.some.inj hi
          have d3 := h3 (hall ⟨3, .data⟩ (by simp) rfl)
          have c0 := (RegM.lays hM.out).2.1.r2; have c1 := (RegM.lays hM.out).2.1.r3
          simp only at c0 c1
          refine wpOp_step rfl (fun K hK => ?_)
          have HKK := Lib.hid hK; clear hK
          simp only [putAll, Act.put, List.setIfInBounds_toArray, List.set_cons_zero, List.set_cons_succ]
          go_simp
          exact HKK.out _ _ ⟨_, by simp only [putAll, Act.put, List.setIfInBounds_toArray, List.set_cons_zero, List.set_cons_succ, d3] <;> rfl, h0, h1, h2, h3, fun _ => rfl, h5, h6, h7, h8, h9, h10, h11, h12, RegM.other hM.out 4 _ rfl⟩
        · obtain rfl := Option.some.inj hi
          refine wpOp_step rfl (fun K hK => ?_)
          have HKK := Lib.hid hK; clear hK
          simp only [putAll, Act.put, List.setIfInBounds_toArray, List.set_cons_zero, List.set_cons_succ]
          go_simp
          exact HKK.out _ _ ⟨_, by simp only [putAll, Act.put, List.setIfInBounds_toArray, List.set_cons_zero, List.set_cons_succ] <;> rfl, h0, h1, h2, h3, h4, fun _ => rfl, h6, h7, h8, h9, h10, h11, h12, RegM.other hM.out 5 _ rfl⟩
        · obtain rfl := Option.some.inj hi
          have d5 := h5 (hall ⟨5, .data⟩ (by simp) rfl)
          refine wpOp_step rfl (fun K hK => ?_)
          have HKK := Lib.hid hK; clear hK
          simp only [putAll, Act.put, List.setIfInBounds_toArray, List.set_cons_zero, List.set_cons_succ]
          go_simp
          exact HKK.out _ _ ⟨_, by simp only [putAll, Act.put, List.setIfInBounds_toArray, List.set_cons_zero, List.set_cons_succ, d5] <;> rfl, h0, h1, h2, h3, h4, h5, fun _ => rfl, h7, h8, h9, h10, h11, h12, RegM.other hM.out 6 _ rfl⟩
        · obtain rfl := Option.some.inj hi
          refine wpOp_step rfl (fun K hK => ?_)
          have HKK := Lib.hid hK; clear hK
          simp only [putAll, Act.put, List.setIfInBounds_toArray, List.set_cons_zero, List.set_cons_succ]
          go_simp
          exact HKK.out _ _ ⟨_, by simp only [putAll, Act.put, List.setIfInBounds_toArray, List.set_cons_zero, List.set_cons_succ] <;> rfl, h0, h1, h2, h3, h4, h5, h6, fun _ => rfl, h8, h9, h10, h11, h12, RegM.other hM.out 7 _ rfl⟩
        · obtain rfl := Option.some.inj hi
          have d7 := h7 (hall ⟨7, .data⟩ (by simp) rfl)
          have d6 := h6 (hall ⟨6, .data⟩ (by simp) rfl)
          refine wpOp_step rfl (fun K hK => ?_)
          have HKK := Lib.hid hK; clear hK
          simp only [putAll, Act.put, List.setIfInBounds_toArray, List.set_cons_zero, List.set_cons_succ]
          go_simp
          exact HKK.out _ _ ⟨_, by simp only [putAll, Act.put, List.setIfInBounds_toArray, List.set_cons_zero, List.set_cons_succ, d7, d6] <;> rfl, h0, h1, h2, h3, h4, h5, h6, h7, fun _ => rfl, h9, h10, h11, h12, RegM.other hM.out 8 _ rfl⟩
        · obtain rfl := Option.some.inj hi
          have d8 := h8 (hall ⟨8, .data⟩ (by simp) rfl)
          have c0 := (RegM.lays hM.out).2.1.r4; have c1 := (RegM.lays hM.out).2.1.r5
          simp only at c0 c1
          refine wpOp_step rfl (fun K hK => ?_)
          have HKK := Lib.hid hK; clear hK
          simp only [putAll, Act.put, List.setIfInBounds_toArray, List.set_cons_zero, List.set_cons_succ]
          go_simp
          exact HKK.out _ _ ⟨_, by simp only [putAll, Act.put, List.setIfInBounds_toArray, List.set_cons_zero, List.set_cons_succ, d8] <;> rfl, h0, h1, h2, h3, h4, h5, h6, h7, h8, fun _ => rfl, h10, h11, h12, RegM.other hM.out 9 _ rfl⟩
        · obtain rfl := Option.some.inj hi
          have d4 := h4 (hall ⟨4, .data⟩ (by simp) rfl)
          have d9 := h9 (hall ⟨9, .data⟩ (by simp) rfl)
          refine wpOp_step rfl (fun K hK => ?_)
          have HKK := Lib.hid hK; clear hK
          simp only [putAll, Act.put, List.setIfInBounds_toArray, List.set_cons_zero, List.set_cons_succ]
          go_simp
          refine (HM1.out _).mono ?_
          rintro e w2 ⟨rfl, hb2⟩
          exact HKK.out _ _ ⟨_, by simp only [putAll, Act.put, List.setIfInBounds_toArray, List.set_cons_zero, List.set_cons_succ, d4, d9] <;> rfl, h0, h1, h2, h3, h4, h5, h6, h7, h8, h9, fun _ => rfl, h11, h12, (RegM.other hM.out 10 _ rfl).grow hb2⟩
        · obtain rfl := Option.some.inj hi
          refine wpOp_step rfl (fun K hK => ?_)
          have HKK := Lib.hid hK; clear hK
          simp only [putAll, Act.put, List.setIfInBounds_toArray, List.set_cons_zero, List.set_cons_succ]
          go_simp
          exact HKK.out _ _ ⟨_, by simp only [putAll, Act.put, List.setIfInBounds_toArray, List.set_cons_zero, List.set_cons_succ] <;> rfl, h0, h1, h2, h3, h4, h5, h6, h7, h8, h9, h10, fun _ => rfl, h12, RegM.other hM.out 11 _ rfl⟩
        · obtain rfl := Option.some.inj hi
          have d11 := h11 (hall ⟨11, .data⟩ (by simp) rfl)
          have d0 := h0 (hall ⟨0, .data⟩ (by simp) rfl)
          refine wpOp_step rfl (fun K hK => ?_)
          have HKK := Lib.hid hK; clear hK
          simp only [putAll, Act.put, List.setIfInBounds_toArray, List.set_cons_zero, List.set_cons_succ]
          go_simp
          exact HKK.out _ _ ⟨_, by simp only [putAll, Act.put, List.setIfInBounds_toArray, List.set_cons_zero, List.set_cons_succ, d11, d0] <;> rfl, h0, h1, h2, h3, h4, h5, h6, h7, h8, h9, h10, h11, fun _ => rfl, RegM.other hM.out 12 _ rfl⟩
        · obtain rfl := Option.some.inj hi
          have d12 := h12 (hall ⟨12, .data⟩ (by simp) rfl)
          have d10 := h10 (hall ⟨10, .data⟩ (by simp) rfl)
          have kg := RegM.at hM.out ⟨N + 2, 112, (Ro.mk a zP zP zP 2).cells, 13, (Ro.mk a b zP zP 2).cells⟩ (by simp) hun
          have z0 := kg.r2; have z1 := kg.r3; have f0 := kg.free 2; have f1 := kg.free 3
          simp only at z0 z1 f0 f1
          refine wpOp_step rfl (fun K hK => ?_)
          have HKK := Lib.hid hK; clear hK
          simp only [putAll, Act.put, List.setIfInBounds_toArray, List.set_cons_zero, List.set_cons_succ]
          go_simp
          exact HKK.out _ _ ⟨_, by simp only [putAll, Act.put, List.setIfInBounds_toArray, List.set_cons_zero, List.set_cons_succ, d12, d10] <;> rfl, h0, h1, h2, h3, h4, h5, h6, h7, h8, h9, h10, h11, h12, RegM.stored hM.out undef (below_cell2 (g := N + 2) (RegM.below hM.out) (by omega) 2 3 _ _) (by simp) ((kg.set 2 _).set 3 _) ⟨(RegM.lays hM.out).1.other2 (g' := N + 2) (by dsimp only; omega) 2 3 _ _, (RegM.lays hM.out).2.1.other2 (g' := N + 2) (by dsimp only; omega) 2 3 _ _, trivial⟩⟩
        · omega
      · rintro b' vs w2 hall ⟨h0, h1, h2, h3, h4, h5, h6, h7, h8, h9, h10, h11, h12, hM⟩
        have d0 := h0 (hall 0 (by simp))
        have d1 := h1 (hall 1 (by simp))
        have d2 := h2 (hall 2 (by simp))
        have d3 := h3 (hall 3 (by simp))
        have d4 := h4 (hall 4 (by simp))
        have d5 := h5 (hall 5 (by simp))
        have d6 := h6 (hall 6 (by simp))
        have d7 := h7 (hall 7 (by simp))
        have d8 := h8 (hall 8 (by simp))
        have d9 := h9 (hall 9 (by simp))
        have d10 := h10 (hall 10 (by simp))
        have d11 := h11 (hall 11 (by simp))
        have d12 := h12 (hall 12 (by simp))
        have k0 := Lib.hid (RegM.done hM.out ⟨N + 2, 112, (Ro.mk a zP zP zP 2).cells, 13, (Ro.mk a b zP zP 2).cells⟩ (by simp) (hall _ (by simp)))
        have LS := Lib.hid (RegM.lays hM.out)
        have BB := Lib.hid (RegM.below hM.out)
        have BN := hM.out.1.2
        simp only [putAll, Act.put, List.setIfInBounds_toArray, List.set_cons_zero, List.set_cons_succ, d0, d1, d2, d3, d4, d5, d6, d7, d8, d9, d10, d11, d12]
        clear h0 d0 h1 d1 h2 d2 h3 d3 h4 d4 h5 d5 h6 d6 h7 d7 h8 d8 h9 d9 h10 d10 h11 d11 h12 d12
        go_wp2_with fail
        exact ⟨.inr (.inr (⟨by go_num, ⟨HNN.out.symm ▸ BB.out, k0.out, LS.out⟩⟩)), by simp [intOf]⟩
    · have m8 := hw.out.lays.1.r8
      simp only at m8
      have m0 := hw.out.lays.1.r0
      have m1 := hw.out.lays.1.r1
      have m2 := hw.out.lays.1.r2
      have m3 := hw.out.lays.1.r3
      have m4 := hw.out.lays.1.r4
      have m5 := hw.out.lays.1.r5
      have m6 := hw.out.lays.1.r6
      have m7 := hw.out.lays.1.r7
      have z0 := hw.out.lays.2.1.r0
      have z1 := hw.out.lays.2.1.r1
      have z2 := hw.out.lays.2.1.r2
      have z3 := hw.out.lays.2.1.r3
      have z4 := hw.out.lays.2.1.r4
      have z5 := hw.out.lays.2.1.r5
      have z6 := hw.out.lays.2.1.r6
      have z7 := hw.out.lays.2.1.r7
      have z8 := hw.out.lays.2.1.r8
      have f0 := hw.out.lays.2.1.free 0
      have f1 := hw.out.lays.2.1.free 1
      have f2 := hw.out.lays.2.1.free 2
      have f3 := hw.out.lays.2.1.free 3
      have f4 := hw.out.lays.2.1.free 4
      have f5 := hw.out.lays.2.1.free 5
      have f6 := hw.out.lays.2.1.free 6
      have f7 := hw.out.lays.2.1.free 7
      have f8 := hw.out.lays.2.1.free 8
      simp only at m0 m1 m2 m3 m4 m5 m6 m7 z0 z1 z2 z3 z4 z5 z6 z7 z8
      go_wp2_with fail
      exact bodyPost_ret (results_row (x := Ro.mk a b zP zP 2) 2 rfl rfl (hw.out.lays.2.1.set9 (Ro.mk a b zP zP 2))) rfl ⟨rfl, below_nine (g := N + 1) (HNN.out ▸ hw.out.below) (by omega) _ _ _ _ _ _ _ _ _⟩
end Go.Proofs.YtffgpikhahpomaaDoor

