/- Layer 8: the pixels of a box; the bound of polygons. -/
import Derived.Test.YtopngjpgikpmaaaCb
namespace Go.Proofs.Ytopngjpgikpmaaa
open Go.RowKit
theorem fixFloor_c (a : Int) (w : World) : Calls Try.prog 48 #[.int .i64 a] w fun e w' => e = .returned (.int .i64 (a / 256)) ∧ w = w' := by
  go_enter Try.func48, Try.ntmps48
  go_wp2
  go_ret
  exact ⟨rfl, rfl⟩
set_option maxHeartbeats 4000000 in
set_option maxRecDepth 100000 in
theorem around_walk (b : Bx) (z1 z2 z3 z4 : Int) (w : World)
    (HO1 : Hid (∀ w, Calls Try.prog 48 #[.int .i64 b.x0] w fun e w' => e = .returned (.int .i64 z1) ∧ w = w'))
    (HO2 : Hid (∀ w, Calls Try.prog 48 #[.int .i64 b.y0] w fun e w' => e = .returned (.int .i64 z2) ∧ w = w'))
    (HO3 : Hid (∀ w, Calls Try.prog 49 #[.int .i64 b.x1] w fun e w' => e = .returned (.int .i64 z3) ∧ w = w'))
    (HO4 : Hid (∀ w, Calls Try.prog 49 #[.int .i64 b.y1] w fun e w' => e = .returned (.int .i64 z4) ∧ w = w')) :
    Calls Try.prog 28 #[.agg #[.int .i64 b.x0, .int .i64 b.y0, .int .i64 b.x1, .int .i64 b.y1]] w fun e w' => e = .returned (.agg (four ⟨z1, z2, z3, z4⟩)) ∧ Below w.heap.size w w' := by
  go_enter Try.func28, Try.ntmps28
  go_wp2_with fail
  obtain ⟨w0, hw0⟩ : ∃ W, (w.alloc (.cells #[.int .i64 b.x0, .int .i64 b.y0, .int .i64 b.x1, .int .i64 b.y1] 24)).alloc (.cells #[.int .i64 0, .int .i64 0, .int .i64 0, .int .i64 0] 24) = W := ⟨_, rfl⟩
  have S0 : Hid (Below w.heap.size w w0 ∧ w.heap.size + 2 ≤ w0.heap.size ∧ Blk w0 w.heap.size 24 (four b) ∧ Blk w0 (w.heap.size + 1) 24 (four ⟨0, 0, 0, 0⟩)) := by
    rw [← hw0]
    exact ⟨((Below.refl _ _).alloc (Nat.le_refl _) _).alloc (by simp) _, by simp, (Blk.new _ _ _).alloc _, Blk.newAt _ _ _ (by simp)⟩
  rw [hw0]
  clear hw0
  refine wp_region_put (by kernel_rfl) (by kernel_rfl) (by kernel_rfl) (fun b' vs w' => (b' 0 = true → vs 0 = .pointer (some ⟨w.heap.size, 0, none⟩)) ∧ (b' 1 = true → vs 1 = .int .i64 b.x0) ∧ (b' 2 = true → vs 2 = .int .i64 z1) ∧ (b' 3 = true → vs 3 = .pointer (some ⟨w.heap.size, 1, none⟩)) ∧ (b' 4 = true → vs 4 = .int .i64 b.y0) ∧ (b' 5 = true → vs 5 = .int .i64 z2) ∧ (b' 6 = true → vs 6 = .pointer (some ⟨w.heap.size, 2, none⟩)) ∧ (b' 7 = true → vs 7 = .int .i64 b.x1) ∧ (b' 8 = true → vs 8 = .int .i64 z3) ∧ (b' 9 = true → vs 9 = .pointer (some ⟨w.heap.size, 3, none⟩)) ∧ (b' 10 = true → vs 10 = .int .i64 b.y1) ∧ (b' 11 = true → vs 11 = .int .i64 z4) ∧ (b' 12 = true → vs 12 = .agg #[.int .i64 z1, .int .i64 z2, .int .i64 z3, .int .i64 z4]) ∧ (b' 13 = false → Hid (Below w.heap.size w w' ∧ w.heap.size ≤ w'.heap.size)) ∧ (b' 13 = false → Hid (Blk w' w.heap.size 24 (four b) ∧ Blk w' (w.heap.size + 1) 24 (four ⟨0, 0, 0, 0⟩))) ∧ (b' 13 = true → Hid (Below w.heap.size w w' ∧ Blk w' (w.heap.size + 1) 24 (four ⟨z1, z2, z3, z4⟩))) ∧ (b' 12 = true → b' 2 = true) ∧ (b' 2 = true → b' 1 = true) ∧ (b' 12 = true → b' 5 = true) ∧ (b' 5 = true → b' 4 = true) ∧ (b' 12 = true → b' 8 = true) ∧ (b' 8 = true → b' 7 = true) ∧ (b' 12 = true → b' 11 = true) ∧ (b' 11 = true → b' 10 = true) ∧ (b' 13 = true → b' 1 = true) ∧ (b' 13 = true → b' 2 = true) ∧ (b' 13 = true → b' 4 = true) ∧ (b' 13 = true → b' 5 = true) ∧ (b' 13 = true → b' 7 = true) ∧ (b' 13 = true → b' 8 = true) ∧ (b' 13 = true → b' 10 = true) ∧ (b' 13 = true → b' 11 = true)) ?_ ?_ ?_
  · intro vs
    exact ⟨fun h => Bool.noConfusion h, fun h => Bool.noConfusion h, fun h => Bool.noConfusion h, fun h => Bool.noConfusion h, fun h => Bool.noConfusion h, fun h => Bool.noConfusion h, fun h => Bool.noConfusion h, fun h => Bool.noConfusion h, fun h => Bool.noConfusion h, fun h => Bool.noConfusion h, fun h => Bool.noConfusion h, fun h => Bool.noConfusion h, fun h => Bool.noConfusion h, fun _ => Lib.hid ⟨below_drewN S0.out.1 1, by have := S0.out.2.1; show _ ≤ w0.heap.size; omega⟩, fun _ => Lib.hid ⟨S0.out.2.2.1.grow ⟨rfl, rfl, rfl, Nat.le_refl _, fun _ _ => rfl⟩, S0.out.2.2.2.grow ⟨rfl, rfl, rfl, Nat.le_refl _, fun _ _ => rfl⟩⟩, fun h => Bool.noConfusion h, fun h => Bool.noConfusion h, fun h => Bool.noConfusion h, fun h => Bool.noConfusion h, fun h => Bool.noConfusion h, fun h => Bool.noConfusion h, fun h => Bool.noConfusion h, fun h => Bool.noConfusion h, fun h => Bool.noConfusion h, fun h => Bool.noConfusion h, fun h => Bool.noConfusion h, fun h => Bool.noConfusion h, fun h => Bool.noConfusion h, fun h => Bool.noConfusion h, fun h => Bool.noConfusion h, fun h => Bool.noConfusion h, fun h => Bool.noConfusion h⟩
  · rintro b' vs w' i op hi hun hall ⟨h0, h1, h2, h3, h4, h5, h6, h7, h8, h9, h10, h11, h12, hB, hF, hG, hE12_2, hE2_1, hE12_5, hE5_4, hE12_8, hE8_7, hE12_11, hE11_10, hW1, hW2, hW4, hW5, hW7, hW8, hW10, hW11⟩
    have hil : i < 14 := (List.getElem?_eq_some_iff.1 hi).1
    rcases i with _ | _ | _ | _ | _ | _ | _ | _ | _ | _ | _ | _ | _ | _ | i
    · obtain rfl := Option.some.inj hi
      clear hi hil
      refine wpOp_step rfl (fun K hK => ?_)
      have HKK := Lib.hid hK; clear hK
      simp only [putAll, Act.put, List.setIfInBounds_toArray, List.set_cons_zero, List.set_cons_succ]
      go_simp
      exact HKK.out _ _ ⟨_, by simp only [putAll, Act.put, List.setIfInBounds_toArray, List.set_cons_zero, List.set_cons_succ] <;> rfl, fun _ => rfl, h1, h2, h3, h4, h5, h6, h7, h8, h9, h10, h11, h12, hB, hF, hG, hE12_2, hE2_1, hE12_5, hE5_4, hE12_8, hE8_7, hE12_11, hE11_10, hW1, hW2, hW4, hW5, hW7, hW8, hW10, hW11⟩
    · obtain rfl := Option.some.inj hi
      clear hi hil
      have hap : b' 13 = false := by
        cases hz : b' 13 with
        | false => rfl
        | true => exact absurd (hW1 hz) (by rw [hun]; decide)
      have d0 := h0 (hall ⟨0, .data⟩ (by simp) rfl)
      have x0 := (hF hap).out.1.b0
      refine wpOp_step rfl (fun K hK => ?_)
      have HKK := Lib.hid hK; clear hK
      simp only [putAll, Act.put, List.setIfInBounds_toArray, List.set_cons_zero, List.set_cons_succ]
      go_simp
      exact HKK.out _ _ ⟨_, by simp only [putAll, Act.put, List.setIfInBounds_toArray, List.set_cons_zero, List.set_cons_succ, d0] <;> rfl, h0, fun _ => rfl, h2, h3, h4, h5, h6, h7, h8, h9, h10, h11, h12, hB, hF, hG, hE12_2, fun _ => rfl, hE12_5, hE5_4, hE12_8, hE8_7, hE12_11, hE11_10, fun _ => rfl, hW2, hW4, hW5, hW7, hW8, hW10, hW11⟩
    · obtain rfl := Option.some.inj hi
      clear hi hil
      have hap : b' 13 = false := by
        cases hz : b' 13 with
        | false => rfl
        | true => exact absurd (hW2 hz) (by rw [hun]; decide)
      have d1 := h1 (hall ⟨1, .data⟩ (by simp) rfl)
      refine wpOp_step rfl (fun K hK => ?_)
      have HKK := Lib.hid hK; clear hK
      simp only [putAll, Act.put, List.setIfInBounds_toArray, List.set_cons_zero, List.set_cons_succ]
      go_simp
      refine (HO1.out w').mono ?_
      rintro e w2 ⟨rfl, rfl⟩
      exact HKK.out _ _ ⟨_, by simp only [putAll, Act.put, List.setIfInBounds_toArray, List.set_cons_zero, List.set_cons_succ, d1] <;> rfl, h0, h1, fun _ => rfl, h3, h4, h5, h6, h7, h8, h9, h10, h11, h12, hB, hF, hG, fun _ => rfl, fun _ => hall ⟨1, .data⟩ (by simp) rfl, hE12_5, hE5_4, hE12_8, hE8_7, hE12_11, hE11_10, hW1, fun _ => rfl, hW4, hW5, hW7, hW8, hW10, hW11⟩
    · obtain rfl := Option.some.inj hi
      clear hi hil
      refine wpOp_step rfl (fun K hK => ?_)
      have HKK := Lib.hid hK; clear hK
      simp only [putAll, Act.put, List.setIfInBounds_toArray, List.set_cons_zero, List.set_cons_succ]
      go_simp
      exact HKK.out _ _ ⟨_, by simp only [putAll, Act.put, List.setIfInBounds_toArray, List.set_cons_zero, List.set_cons_succ] <;> rfl, h0, h1, h2, fun _ => rfl, h4, h5, h6, h7, h8, h9, h10, h11, h12, hB, hF, hG, hE12_2, hE2_1, hE12_5, hE5_4, hE12_8, hE8_7, hE12_11, hE11_10, hW1, hW2, hW4, hW5, hW7, hW8, hW10, hW11⟩
    · obtain rfl := Option.some.inj hi
      clear hi hil
      have hap : b' 13 = false := by
        cases hz : b' 13 with
        | false => rfl
        | true => exact absurd (hW4 hz) (by rw [hun]; decide)
      have d3 := h3 (hall ⟨3, .data⟩ (by simp) rfl)
      have x0 := (hF hap).out.1.b1
      refine wpOp_step rfl (fun K hK => ?_)
      have HKK := Lib.hid hK; clear hK
      simp only [putAll, Act.put, List.setIfInBounds_toArray, List.set_cons_zero, List.set_cons_succ]
      go_simp
      exact HKK.out _ _ ⟨_, by simp only [putAll, Act.put, List.setIfInBounds_toArray, List.set_cons_zero, List.set_cons_succ, d3] <;> rfl, h0, h1, h2, h3, fun _ => rfl, h5, h6, h7, h8, h9, h10, h11, h12, hB, hF, hG, hE12_2, hE2_1, hE12_5, fun _ => rfl, hE12_8, hE8_7, hE12_11, hE11_10, hW1, hW2, fun _ => rfl, hW5, hW7, hW8, hW10, hW11⟩
    · obtain rfl := Option.some.inj hi
      clear hi hil
      have hap : b' 13 = false := by
        cases hz : b' 13 with
        | false => rfl
        | true => exact absurd (hW5 hz) (by rw [hun]; decide)
      have d4 := h4 (hall ⟨4, .data⟩ (by simp) rfl)
      refine wpOp_step rfl (fun K hK => ?_)
      have HKK := Lib.hid hK; clear hK
      simp only [putAll, Act.put, List.setIfInBounds_toArray, List.set_cons_zero, List.set_cons_succ]
      go_simp
      refine (HO2.out w').mono ?_
      rintro e w2 ⟨rfl, rfl⟩
      exact HKK.out _ _ ⟨_, by simp only [putAll, Act.put, List.setIfInBounds_toArray, List.set_cons_zero, List.set_cons_succ, d4] <;> rfl, h0, h1, h2, h3, h4, fun _ => rfl, h6, h7, h8, h9, h10, h11, h12, hB, hF, hG, hE12_2, hE2_1, fun _ => rfl, fun _ => hall ⟨4, .data⟩ (by simp) rfl, hE12_8, hE8_7, hE12_11, hE11_10, hW1, hW2, hW4, fun _ => rfl, hW7, hW8, hW10, hW11⟩
    · obtain rfl := Option.some.inj hi
      clear hi hil
      refine wpOp_step rfl (fun K hK => ?_)
      have HKK := Lib.hid hK; clear hK
      simp only [putAll, Act.put, List.setIfInBounds_toArray, List.set_cons_zero, List.set_cons_succ]
      go_simp
      exact HKK.out _ _ ⟨_, by simp only [putAll, Act.put, List.setIfInBounds_toArray, List.set_cons_zero, List.set_cons_succ] <;> rfl, h0, h1, h2, h3, h4, h5, fun _ => rfl, h7, h8, h9, h10, h11, h12, hB, hF, hG, hE12_2, hE2_1, hE12_5, hE5_4, hE12_8, hE8_7, hE12_11, hE11_10, hW1, hW2, hW4, hW5, hW7, hW8, hW10, hW11⟩
    · obtain rfl := Option.some.inj hi
      clear hi hil
      have hap : b' 13 = false := by
        cases hz : b' 13 with
        | false => rfl
        | true => exact absurd (hW7 hz) (by rw [hun]; decide)
      have d6 := h6 (hall ⟨6, .data⟩ (by simp) rfl)
      have x0 := (hF hap).out.1.b2
      refine wpOp_step rfl (fun K hK => ?_)
      have HKK := Lib.hid hK; clear hK
      simp only [putAll, Act.put, List.setIfInBounds_toArray, List.set_cons_zero, List.set_cons_succ]
      go_simp
      exact HKK.out _ _ ⟨_, by simp only [putAll, Act.put, List.setIfInBounds_toArray, List.set_cons_zero, List.set_cons_succ, d6] <;> rfl, h0, h1, h2, h3, h4, h5, h6, fun _ => rfl, h8, h9, h10, h11, h12, hB, hF, hG, hE12_2, hE2_1, hE12_5, hE5_4, hE12_8, fun _ => rfl, hE12_11, hE11_10, hW1, hW2, hW4, hW5, fun _ => rfl, hW8, hW10, hW11⟩
    · obtain rfl := Option.some.inj hi
      clear hi hil
      have hap : b' 13 = false := by
        cases hz : b' 13 with
        | false => rfl
        | true => exact absurd (hW8 hz) (by rw [hun]; decide)
      have d7 := h7 (hall ⟨7, .data⟩ (by simp) rfl)
      refine wpOp_step rfl (fun K hK => ?_)
      have HKK := Lib.hid hK; clear hK
      simp only [putAll, Act.put, List.setIfInBounds_toArray, List.set_cons_zero, List.set_cons_succ]
      go_simp
      refine (HO3.out w').mono ?_
      rintro e w2 ⟨rfl, rfl⟩
      exact HKK.out _ _ ⟨_, by simp only [putAll, Act.put, List.setIfInBounds_toArray, List.set_cons_zero, List.set_cons_succ, d7] <;> rfl, h0, h1, h2, h3, h4, h5, h6, h7, fun _ => rfl, h9, h10, h11, h12, hB, hF, hG, hE12_2, hE2_1, hE12_5, hE5_4, fun _ => rfl, fun _ => hall ⟨7, .data⟩ (by simp) rfl, hE12_11, hE11_10, hW1, hW2, hW4, hW5, hW7, fun _ => rfl, hW10, hW11⟩
    · obtain rfl := Option.some.inj hi
      clear hi hil
      refine wpOp_step rfl (fun K hK => ?_)
      have HKK := Lib.hid hK; clear hK
      simp only [putAll, Act.put, List.setIfInBounds_toArray, List.set_cons_zero, List.set_cons_succ]
      go_simp
      exact HKK.out _ _ ⟨_, by simp only [putAll, Act.put, List.setIfInBounds_toArray, List.set_cons_zero, List.set_cons_succ] <;> rfl, h0, h1, h2, h3, h4, h5, h6, h7, h8, fun _ => rfl, h10, h11, h12, hB, hF, hG, hE12_2, hE2_1, hE12_5, hE5_4, hE12_8, hE8_7, hE12_11, hE11_10, hW1, hW2, hW4, hW5, hW7, hW8, hW10, hW11⟩
    · obtain rfl := Option.some.inj hi
      clear hi hil
      have hap : b' 13 = false := by
        cases hz : b' 13 with
        | false => rfl
        | true => exact absurd (hW10 hz) (by rw [hun]; decide)
      have d9 := h9 (hall ⟨9, .data⟩ (by simp) rfl)
      have x0 := (hF hap).out.1.b3
      refine wpOp_step rfl (fun K hK => ?_)
      have HKK := Lib.hid hK; clear hK
      simp only [putAll, Act.put, List.setIfInBounds_toArray, List.set_cons_zero, List.set_cons_succ]
      go_simp
      exact HKK.out _ _ ⟨_, by simp only [putAll, Act.put, List.setIfInBounds_toArray, List.set_cons_zero, List.set_cons_succ, d9] <;> rfl, h0, h1, h2, h3, h4, h5, h6, h7, h8, h9, fun _ => rfl, h11, h12, hB, hF, hG, hE12_2, hE2_1, hE12_5, hE5_4, hE12_8, hE8_7, hE12_11, fun _ => rfl, hW1, hW2, hW4, hW5, hW7, hW8, fun _ => rfl, hW11⟩
    · obtain rfl := Option.some.inj hi
      clear hi hil
      have hap : b' 13 = false := by
        cases hz : b' 13 with
        | false => rfl
        | true => exact absurd (hW11 hz) (by rw [hun]; decide)
      have d10 := h10 (hall ⟨10, .data⟩ (by simp) rfl)
      refine wpOp_step rfl (fun K hK => ?_)
      have HKK := Lib.hid hK; clear hK
      simp only [putAll, Act.put, List.setIfInBounds_toArray, List.set_cons_zero, List.set_cons_succ]
      go_simp
      refine (HO4.out w').mono ?_
      rintro e w2 ⟨rfl, rfl⟩
      exact HKK.out _ _ ⟨_, by simp only [putAll, Act.put, List.setIfInBounds_toArray, List.set_cons_zero, List.set_cons_succ, d10] <;> rfl, h0, h1, h2, h3, h4, h5, h6, h7, h8, h9, h10, fun _ => rfl, h12, hB, hF, hG, hE12_2, hE2_1, hE12_5, hE5_4, hE12_8, hE8_7, fun _ => rfl, fun _ => hall ⟨10, .data⟩ (by simp) rfl, hW1, hW2, hW4, hW5, hW7, hW8, hW10, fun _ => rfl⟩
    · obtain rfl := Option.some.inj hi
      clear hi hil
      have d2 := h2 (hall ⟨2, .data⟩ (by simp) rfl)
      have d5 := h5 (hall ⟨5, .data⟩ (by simp) rfl)
      have d8 := h8 (hall ⟨8, .data⟩ (by simp) rfl)
      have d11 := h11 (hall ⟨11, .data⟩ (by simp) rfl)
      refine wpOp_step rfl (fun K hK => ?_)
      have HKK := Lib.hid hK; clear hK
      simp only [putAll, Act.put, List.setIfInBounds_toArray, List.set_cons_zero, List.set_cons_succ]
      go_simp
      exact HKK.out _ _ ⟨_, by simp only [putAll, Act.put, List.setIfInBounds_toArray, List.set_cons_zero, List.set_cons_succ, d2, d5, d8, d11] <;> rfl, h0, h1, h2, h3, h4, h5, h6, h7, h8, h9, h10, h11, fun _ => rfl, hB, hF, hG, fun _ => hall ⟨2, .data⟩ (by simp) rfl, hE2_1, fun _ => hall ⟨5, .data⟩ (by simp) rfl, hE5_4, fun _ => hall ⟨8, .data⟩ (by simp) rfl, hE8_7, fun _ => hall ⟨11, .data⟩ (by simp) rfl, hE11_10, hW1, hW2, hW4, hW5, hW7, hW8, hW10, hW11⟩
    · obtain rfl := Option.some.inj hi
      clear hi hil
      have hap : b' 13 = false := hun
      have d12 := h12 (hall ⟨12, .data⟩ (by simp) rfl)
      have kr := (hF hap).out.2
      have c0 := kr.b0
      have c1 := kr.b1
      have c2 := kr.b2
      have c3 := kr.b3
      have f0 := kr.free 0
      have f1 := kr.free 1
      have f2 := kr.free 2
      have f3 := kr.free 3
      have lr := kr.lt
      clear kr
      refine wpOp_step rfl (fun K hK => ?_)
      have HKK := Lib.hid hK; clear hK
      simp only [putAll, Act.put, List.setIfInBounds_toArray, List.set_cons_zero, List.set_cons_succ]
      go_simp
      exact HKK.out _ _ ⟨undef, by simp only [putAll, Act.put, List.setIfInBounds_toArray, List.set_cons_zero, List.set_cons_succ, d12] <;> rfl, h0, h1, h2, h3, h4, h5, h6, h7, h8, h9, h10, h11, h12, fun h => Bool.noConfusion h, fun h => Bool.noConfusion h, fun _ => Lib.hid (⟨below_four (hB hap).out.1 (by omega) _ _ _ _, (hF hap).out.2.setB ⟨z1, z2, z3, z4⟩⟩), hE12_2, hE2_1, hE12_5, hE5_4, hE12_8, hE8_7, hE12_11, hE11_10, fun _ => hE2_1 (hE12_2 (hall ⟨12, .data⟩ (by simp) rfl)), fun _ => hE12_2 (hall ⟨12, .data⟩ (by simp) rfl), fun _ => hE5_4 (hE12_5 (hall ⟨12, .data⟩ (by simp) rfl)), fun _ => hE12_5 (hall ⟨12, .data⟩ (by simp) rfl), fun _ => hE8_7 (hE12_8 (hall ⟨12, .data⟩ (by simp) rfl)), fun _ => hE12_8 (hall ⟨12, .data⟩ (by simp) rfl), fun _ => hE11_10 (hE12_11 (hall ⟨12, .data⟩ (by simp) rfl)), fun _ => hE12_11 (hall ⟨12, .data⟩ (by simp) rfl)⟩
    · omega
  · rintro b' vs w2 hall ⟨h0, h1, h2, h3, h4, h5, h6, h7, h8, h9, h10, h11, h12, hB, hF, hG, hE12_2, hE2_1, hE12_5, hE5_4, hE12_8, hE8_7, hE12_11, hE11_10, hW1, hW2, hW4, hW5, hW7, hW8, hW10, hW11⟩
    have d0 := h0 (hall 0 (by simp))
    have d1 := h1 (hall 1 (by simp))
    have d2 := h2 (hall 2 (by simp))
    have d3 := h3 (hall 3 (by simp))
    have d4 := h4 (hall 4 (by simp))
    have d5 := h5 (hall 5 (by simp))
    have d6 := h6 (hall 6 (by simp))
    have d7 := h7 (hall 7 (by simp))
    have d8 := h8 (hall 8 (by simp))
    have d9 := h9 (hall 9 (by simp))
    have d10 := h10 (hall 10 (by simp))
    have d11 := h11 (hall 11 (by simp))
    have d12 := h12 (hall 12 (by simp))
    have GG := hG (hall 13 (by simp))
    simp only [putAll, Act.put, List.setIfInBounds_toArray, List.set_cons_zero, List.set_cons_succ, d0, d1, d2, d3, d4, d5, d6, d7, d8, d9, d10, d11, d12]
    clear hall h0 d0 h1 d1 h2 d2 h3 d3 h4 d4 h5 d5 h6 d6 h7 d7 h8 d8 h9 d9 h10 d10 h11 d11 h12 d12 hB hF hG hE12_2 hE2_1 hE12_5 hE5_4 hE12_8 hE8_7 hE12_11 hE11_10 hW1 hW2 hW4 hW5 hW7 hW8 hW10 hW11
    go_wp2_with fail
    exact bodyPost_ret (results_box 2 rfl rfl GG.out.2) rfl ⟨rfl, GG.out.1⟩
theorem around_c (b : Bx) (h1 : I64 b.x1) (h2 : I64 b.y1) (w : World) : Calls Try.prog 28 #[.agg #[.int .i64 b.x0, .int .i64 b.y0, .int .i64 b.x1, .int .i64 b.y1]] w fun e w' => e = .returned (.agg (four (aroundI b))) ∧ Below w.heap.size w w' :=
  around_walk b _ _ _ _ w (Lib.hid fun w => fixFloor_c _ w) (Lib.hid fun w => fixFloor_c _ w) (Lib.hid fun w => ceil_any _ w h1.1 h1.2) (Lib.hid fun w => ceil_any _ w h2.1 h2.2)
def pixelsI (b : Bx) : Bx := if (emptyI b || anyB (fun x => !room x) b) = true then ⟨0, 0, 0, 0⟩ else aroundI b
set_option maxHeartbeats 1000000 in
set_option maxRecDepth 100000 in
theorem pixels_none1 (b : Bx)  (w : World) (HE : Hid (∀ w, Calls Try.prog 37 #[.agg #[.int .i64 b.x0, .int .i64 b.y0, .int .i64 b.x1, .int .i64 b.y1]] w fun e w' => e = .returned (.bool true) ∧ Below w.heap.size w w')) :
    Calls Try.prog 21 #[.agg #[.int .i64 b.x0, .int .i64 b.y0, .int .i64 b.x1, .int .i64 b.y1]] w fun e w' => e = .returned (.agg (four ⟨0, 0, 0, 0⟩)) ∧ Below w.heap.size w w' := by
  go_enter Try.func21, Try.ntmps21
  go_wp2_with fail
  obtain ⟨w0, hw0⟩ : ∃ W, (w.alloc (.cells #[.int .i64 b.x0, .int .i64 b.y0, .int .i64 b.x1, .int .i64 b.y1] 24)).alloc (.cells #[.int .i64 0, .int .i64 0, .int .i64 0, .int .i64 0] 24) = W := ⟨_, rfl⟩
  have S0 : Hid (Below w.heap.size w w0 ∧ w.heap.size + 2 ≤ w0.heap.size ∧ Blk w0 w.heap.size 24 (four b) ∧ Blk w0 (w.heap.size + 1) 24 (four ⟨0, 0, 0, 0⟩)) := by
    rw [← hw0]
    exact ⟨((Below.refl _ _).alloc (Nat.le_refl _) _).alloc (by simp) _, by simp, (Blk.new _ _ _).alloc _, Blk.newAt _ _ _ (by simp)⟩
  rw [hw0]
  clear hw0
  have kr := S0.out.2.2.1
  have a0 := kr.b0
  have a1 := kr.b1
  have a2 := kr.b2
  have a3 := kr.b3
  clear kr
  refine (HE.out _).mono ?_
  rintro e w1 ⟨rfl, hb⟩
  have S1 : Hid (Below w.heap.size w w1 ∧ w.heap.size + 2 ≤ w1.heap.size ∧ Blk w1 w.heap.size 24 (four b) ∧ Blk w1 (w.heap.size + 1) 24 (four ⟨0, 0, 0, 0⟩)) := ⟨S0.out.1.trans (hb.mono (by have := S0.out.2.1; omega)), Nat.le_trans S0.out.2.1 hb.size, S0.out.2.2.1.grow hb, S0.out.2.2.2.grow hb⟩
  clear hb S0
  have kr := S1.out.2.2.1
  have a0 := kr.b0
  have a1 := kr.b1
  have a2 := kr.b2
  have a3 := kr.b3
  clear kr
  have kr := S1.out.2.2.2
  have c0 := kr.b0
  have c1 := kr.b1
  have c2 := kr.b2
  have c3 := kr.b3
  have f0 := kr.free 0
  have f1 := kr.free 1
  have f2 := kr.free 2
  have f3 := kr.free 3
  have lr := kr.lt
  clear kr
  go_wp2_with fail
  exact bodyPost_ret (results_box 2 rfl rfl (S1.out.2.2.2.setB ⟨0, 0, 0, 0⟩)) rfl ⟨rfl, below_four S1.out.1 (by omega) _ _ _ _⟩
set_option maxHeartbeats 1000000 in
set_option maxRecDepth 100000 in
theorem pixels_none2 (b : Bx)  (w : World) (HE : Hid (∀ w, Calls Try.prog 37 #[.agg #[.int .i64 b.x0, .int .i64 b.y0, .int .i64 b.x1, .int .i64 b.y1]] w fun e w' => e = .returned (.bool false) ∧ Below w.heap.size w w'))
    (HY : Hid (∀ w, Calls Try.prog 38 #[.agg #[.int .i64 b.x0, .int .i64 b.y0, .int .i64 b.x1, .int .i64 b.y1], .func (.func 39) #[] #[]] w fun e w' => e = .returned (.bool true) ∧ Below w.heap.size w w')) :
    Calls Try.prog 21 #[.agg #[.int .i64 b.x0, .int .i64 b.y0, .int .i64 b.x1, .int .i64 b.y1]] w fun e w' => e = .returned (.agg (four ⟨0, 0, 0, 0⟩)) ∧ Below w.heap.size w w' := by
  go_enter Try.func21, Try.ntmps21
  go_wp2_with fail
  obtain ⟨w0, hw0⟩ : ∃ W, (w.alloc (.cells #[.int .i64 b.x0, .int .i64 b.y0, .int .i64 b.x1, .int .i64 b.y1] 24)).alloc (.cells #[.int .i64 0, .int .i64 0, .int .i64 0, .int .i64 0] 24) = W := ⟨_, rfl⟩
  have S0 : Hid (Below w.heap.size w w0 ∧ w.heap.size + 2 ≤ w0.heap.size ∧ Blk w0 w.heap.size 24 (four b) ∧ Blk w0 (w.heap.size + 1) 24 (four ⟨0, 0, 0, 0⟩)) := by
    rw [← hw0]
    exact ⟨((Below.refl _ _).alloc (Nat.le_refl _) _).alloc (by simp) _, by simp, (Blk.new _ _ _).alloc _, Blk.newAt _ _ _ (by simp)⟩
  rw [hw0]
  clear hw0
  have kr := S0.out.2.2.1
  have a0 := kr.b0
  have a1 := kr.b1
  have a2 := kr.b2
  have a3 := kr.b3
  clear kr
  refine (HE.out _).mono ?_
  rintro e w1 ⟨rfl, hb⟩
  have S1 : Hid (Below w.heap.size w w1 ∧ w.heap.size + 2 ≤ w1.heap.size ∧ Blk w1 w.heap.size 24 (four b) ∧ Blk w1 (w.heap.size + 1) 24 (four ⟨0, 0, 0, 0⟩)) := ⟨S0.out.1.trans (hb.mono (by have := S0.out.2.1; omega)), Nat.le_trans S0.out.2.1 hb.size, S0.out.2.2.1.grow hb, S0.out.2.2.2.grow hb⟩
  clear hb S0
  clear a0 a1 a2 a3
  have kr := S1.out.2.2.1
  have a0 := kr.b0
  have a1 := kr.b1
  have a2 := kr.b2
  have a3 := kr.b3
  clear kr
  go_wp2_with fail
  refine (HY.out _).mono ?_
  rintro e w2 ⟨rfl, hb⟩
  have S2 : Hid (Below w.heap.size w w2 ∧ w.heap.size + 2 ≤ w2.heap.size ∧ Blk w2 w.heap.size 24 (four b) ∧ Blk w2 (w.heap.size + 1) 24 (four ⟨0, 0, 0, 0⟩)) := ⟨S1.out.1.trans (hb.mono (by have := S1.out.2.1; omega)), Nat.le_trans S1.out.2.1 hb.size, S1.out.2.2.1.grow hb, S1.out.2.2.2.grow hb⟩
  clear hb S1
  clear a0 a1 a2 a3
  have kr := S2.out.2.2.2
  have c0 := kr.b0
  have c1 := kr.b1
  have c2 := kr.b2
  have c3 := kr.b3
  have f0 := kr.free 0
  have f1 := kr.free 1
  have f2 := kr.free 2
  have f3 := kr.free 3
  have lr := kr.lt
  clear kr
  go_wp2_with fail
  exact bodyPost_ret (results_box 2 rfl rfl (S2.out.2.2.2.setB ⟨0, 0, 0, 0⟩)) rfl ⟨rfl, below_four S2.out.1 (by omega) _ _ _ _⟩
set_option maxHeartbeats 1000000 in
set_option maxRecDepth 100000 in
theorem pixels_some (b : Bx) (c : Bx) (w : World) (HE : Hid (∀ w, Calls Try.prog 37 #[.agg #[.int .i64 b.x0, .int .i64 b.y0, .int .i64 b.x1, .int .i64 b.y1]] w fun e w' => e = .returned (.bool false) ∧ Below w.heap.size w w'))
    (HY : Hid (∀ w, Calls Try.prog 38 #[.agg #[.int .i64 b.x0, .int .i64 b.y0, .int .i64 b.x1, .int .i64 b.y1], .func (.func 39) #[] #[]] w fun e w' => e = .returned (.bool false) ∧ Below w.heap.size w w'))
    (HA : Hid (∀ w, Calls Try.prog 28 #[.agg #[.int .i64 b.x0, .int .i64 b.y0, .int .i64 b.x1, .int .i64 b.y1]] w fun e w' => e = .returned (.agg (four c)) ∧ Below w.heap.size w w')) :
    Calls Try.prog 21 #[.agg #[.int .i64 b.x0, .int .i64 b.y0, .int .i64 b.x1, .int .i64 b.y1]] w fun e w' => e = .returned (.agg (four c)) ∧ Below w.heap.size w w' := by
  go_enter Try.func21, Try.ntmps21
  go_wp2_with fail
  obtain ⟨w0, hw0⟩ : ∃ W, (w.alloc (.cells #[.int .i64 b.x0, .int .i64 b.y0, .int .i64 b.x1, .int .i64 b.y1] 24)).alloc (.cells #[.int .i64 0, .int .i64 0, .int .i64 0, .int .i64 0] 24) = W := ⟨_, rfl⟩
  have S0 : Hid (Below w.heap.size w w0 ∧ w.heap.size + 2 ≤ w0.heap.size ∧ Blk w0 w.heap.size 24 (four b) ∧ Blk w0 (w.heap.size + 1) 24 (four ⟨0, 0, 0, 0⟩)) := by
    rw [← hw0]
    exact ⟨((Below.refl _ _).alloc (Nat.le_refl _) _).alloc (by simp) _, by simp, (Blk.new _ _ _).alloc _, Blk.newAt _ _ _ (by simp)⟩
  rw [hw0]
  clear hw0
  have kr := S0.out.2.2.1
  have a0 := kr.b0
  have a1 := kr.b1
  have a2 := kr.b2
  have a3 := kr.b3
  clear kr
  refine (HE.out _).mono ?_
  rintro e w1 ⟨rfl, hb⟩
  have S1 : Hid (Below w.heap.size w w1 ∧ w.heap.size + 2 ≤ w1.heap.size ∧ Blk w1 w.heap.size 24 (four b) ∧ Blk w1 (w.heap.size + 1) 24 (four ⟨0, 0, 0, 0⟩)) := ⟨S0.out.1.trans (hb.mono (by have := S0.out.2.1; omega)), Nat.le_trans S0.out.2.1 hb.size, S0.out.2.2.1.grow hb, S0.out.2.2.2.grow hb⟩
  clear hb S0
  clear a0 a1 a2 a3
  have kr := S1.out.2.2.1
  have a0 := kr.b0
  have a1 := kr.b1
  have a2 := kr.b2
  have a3 := kr.b3
  clear kr
  go_wp2_with fail
  refine (HY.out _).mono ?_
  rintro e w2 ⟨rfl, hb⟩
  have S2 : Hid (Below w.heap.size w w2 ∧ w.heap.size + 2 ≤ w2.heap.size ∧ Blk w2 w.heap.size 24 (four b) ∧ Blk w2 (w.heap.size + 1) 24 (four ⟨0, 0, 0, 0⟩)) := ⟨S1.out.1.trans (hb.mono (by have := S1.out.2.1; omega)), Nat.le_trans S1.out.2.1 hb.size, S1.out.2.2.1.grow hb, S1.out.2.2.2.grow hb⟩
  clear hb S1
  clear a0 a1 a2 a3
  have kr := S2.out.2.2.1
  have a0 := kr.b0
  have a1 := kr.b1
  have a2 := kr.b2
  have a3 := kr.b3
  clear kr
  go_wp2_with fail
  refine (HA.out _).mono ?_
  rintro e w3 ⟨rfl, hb⟩
  have S3 : Hid (Below w.heap.size w w3 ∧ w.heap.size + 2 ≤ w3.heap.size ∧ Blk w3 w.heap.size 24 (four b) ∧ Blk w3 (w.heap.size + 1) 24 (four ⟨0, 0, 0, 0⟩)) := ⟨S2.out.1.trans (hb.mono (by have := S2.out.2.1; omega)), Nat.le_trans S2.out.2.1 hb.size, S2.out.2.2.1.grow hb, S2.out.2.2.2.grow hb⟩
  clear hb S2
  clear a0 a1 a2 a3
  have kr := S3.out.2.2.2
  have c0 := kr.b0
  have c1 := kr.b1
  have c2 := kr.b2
  have c3 := kr.b3
  have f0 := kr.free 0
  have f1 := kr.free 1
  have f2 := kr.free 2
  have f3 := kr.free 3
  have lr := kr.lt
  clear kr
  go_wp2_with fail
  exact bodyPost_ret (results_box 2 rfl rfl (S3.out.2.2.2.setB c)) rfl ⟨rfl, below_four S3.out.1 (by omega) _ _ _ _⟩
theorem pixels_c (b : Bx) (w : World) : Calls Try.prog 21 #[.agg #[.int .i64 b.x0, .int .i64 b.y0, .int .i64 b.x1, .int .i64 b.y1]] w fun e w' => e = .returned (.agg (four (pixelsI b))) ∧ Below w.heap.size w w' := by
  have HE := Lib.hid (empty_c b)
  have HY := Lib.hid (any_out b)
  unfold pixelsI
  cases he : emptyI b
  · cases hy : anyB (fun x => !room x) b
    · rw [he] at HE
      rw [hy] at HY
      rw [if_neg (by decide)]
      have h : I64 b.x1 ∧ I64 b.y1 := by
        unfold anyB at hy
        simp only [Bool.or_eq_false_iff, Bool.not_eq_false', room_iff] at hy
        unfold I64; omega
      exact pixels_some b _ w HE HY (Lib.hid fun w => around_c b h.1 h.2 w)
    · rw [he] at HE
      rw [hy] at HY
      rw [if_pos (by decide)]
      exact pixels_none2 b w HE HY
  · rw [he] at HE
    rw [if_pos (by simp)]
    exact pixels_none1 b w HE
/-- The bound of the first polygons. -/
def bstepP (b : Bx) (l : List Pt) : Bx := joinI b (boundI l)
set_option maxHeartbeats 4000000 in
set_option maxRecDepth 100000 in
theorem boundP_c (s : Value) (S : List (Value × List Pt)) (w : World) (hS : S.length ≤ 1000) (hl : ∀ x ∈ S, x.2.length ≤ 1000) (hr : ∀ x ∈ S, x.2.all roomP = true) (row : PolyR w s S) :
    Calls Try.prog 29 #[s] w fun e w' => e = .returned (.agg (four (boundP (S.map Prod.snd)))) ∧ Below w.heap.size w w' := by
  obtain ⟨ao, c, rfl⟩ := row.shape
  obtain ⟨n, hn⟩ : ∃ n, S.length = n := ⟨_, rfl⟩
  rw [hn] at row hS ⊢
  have HN := Lib.hid hn
  have HROW := Lib.hid row
  have HS := Lib.hid hS
  have HLEN := Lib.hid hl
  have HR := Lib.hid hr
  clear hn row hS hl hr
  go_enter Try.func29, Try.ntmps29
  go_wp2_with fail
  go_loopw [8] (fun i wr => ∃ (k : Nat) (x : Bx), k ≤ n ∧ i = .int .i64 k ∧ Hid (((S.take k).map Prod.snd).foldl bstepP ⟨0, 0, 0, 0⟩ = x) ∧ Hid (Blk wr w.heap.size 24 (four ⟨0, 0, 0, 0⟩) ∧ Blk wr (w.heap.size + 1) 24 (four x) ∧ Below w.heap.size w wr)) (fun i _ => n - (intOf i).toNat)
  case atStart =>
    exact ⟨0, ⟨0, 0, 0, 0⟩, by omega, rfl, rfl, (Blk.newAt _ _ _ rfl).alloc _, Blk.newAt _ _ _ (by simp), ((Below.refl _ _).alloc (Nat.le_refl _) _).alloc (by simp) _⟩
  case round =>
    obtain ⟨k, x, hk, rfl, hf, hw⟩ := hrel
    by_cases hlt : k < n
    · have hd : decide ((k : Int) < (n : Int)) = true := by simp; omega
      obtain ⟨⟨v, l⟩, hq⟩ : ∃ p, S[k]? = some p := ⟨_, List.getElem?_eq_getElem (by rw [HN.out]; exact hlt)⟩
      have hm := List.mem_of_getElem? hq
      obtain ⟨b, o, rfl, hbs, c0⟩ := (HROW.out.on hw.out.2.2).at hq
      have hrow : Row wr v l := (HROW.out.2 _ hm).on hw.out.2.2
      have HB0 : Hid (∀ W, Below wr.heap.size wr W → Calls Try.prog 22 #[v] W fun e w' => e = .returned (.agg (four (boundI l))) ∧ Below W.heap.size W w') := fun W hW => bound_c v l W (HLEN.out _ hm) (hrow.on hW) (HR.out _ hm)
      have hnext : ((S.take (k + 1)).map Prod.snd).foldl bstepP ⟨0, 0, 0, 0⟩ = joinI x (boundI l) := by
        rw [List.take_add_one, List.map_append, List.foldl_append, hf.out, hq]; rfl
      have HF := Lib.hid hnext
      have HJ0 := Lib.hid (fun y => join_c x y)
      obtain ⟨y, hy⟩ : ∃ y, boundI l = y := ⟨_, rfl⟩
      rw [hy] at HF HB0
      obtain ⟨u, hu⟩ : ∃ u, joinI x y = u := ⟨_, rfl⟩
      have HJ := Lib.hid (join_c x y)
      rw [hu] at HJ HF
      have HV := Lib.hid hrow.shape
      simp only at c0
      have hS := HS.out
      clear hq hnext hy hu hrow hm HJ0
      go_wp2_with fail
      have HW := Lib.hid hw.out
      refine wp_region_put (by kernel_rfl) (by kernel_rfl) (by kernel_rfl) (fun b' vs w' => (b' 0 = true → vs 0 = .agg #[.int .i64 x.x0, .int .i64 x.y0, .int .i64 x.x1, .int .i64 x.y1]) ∧ (b' 1 = true → vs 1 = v) ∧ (b' 2 = true → vs 2 = .agg #[.int .i64 y.x0, .int .i64 y.y0, .int .i64 y.x1, .int .i64 y.y1]) ∧ (b' 3 = true → vs 3 = .agg #[.int .i64 u.x0, .int .i64 u.y0, .int .i64 u.x1, .int .i64 u.y1]) ∧ (b' 4 = false → Hid (Below w.heap.size w w' ∧ w.heap.size ≤ w'.heap.size)) ∧ (b' 4 = false → Hid (Blk w' w.heap.size 24 (four ⟨0, 0, 0, 0⟩) ∧ Blk w' (w.heap.size + 1) 24 (four x) ∧ Below wr.heap.size wr w')) ∧ (b' 4 = true → Hid (Below w.heap.size w w' ∧ Blk w' w.heap.size 24 (four ⟨0, 0, 0, 0⟩) ∧ Blk w' (w.heap.size + 1) 24 (four u))) ∧ (b' 3 = true → b' 0 = true) ∧ (b' 3 = true → b' 2 = true) ∧ (b' 4 = true → b' 0 = true) ∧ (b' 4 = true → b' 2 = true) ∧ (b' 4 = true → b' 3 = true)) ?_ ?_ ?_
      · intro vs
        exact ⟨fun h => Bool.noConfusion h, fun h => Bool.noConfusion h, fun h => Bool.noConfusion h, fun h => Bool.noConfusion h, fun _ => Lib.hid ⟨below_drewN HW.out.2.2 1, HW.out.2.2.size⟩, fun _ => Lib.hid ⟨HW.out.1.grow ⟨rfl, rfl, rfl, Nat.le_refl _, fun _ _ => rfl⟩, HW.out.2.1.grow ⟨rfl, rfl, rfl, Nat.le_refl _, fun _ _ => rfl⟩, ⟨rfl, rfl, rfl, Nat.le_refl _, fun _ _ => rfl⟩⟩, fun h => Bool.noConfusion h, fun h => Bool.noConfusion h, fun h => Bool.noConfusion h, fun h => Bool.noConfusion h, fun h => Bool.noConfusion h, fun h => Bool.noConfusion h⟩
      · rintro b' vs w' i op hi hun hall ⟨h0, h1, h2, h3, hB, hF, hG, hE3_0, hE3_2, hW0, hW2, hW3⟩
        have hil : i < 5 := (List.getElem?_eq_some_iff.1 hi).1
        rcases i with _ | _ | _ | _ | _ | i
        · obtain rfl := Option.some.inj hi
          clear hi hil
          have hap : b' 4 = false := by
            cases hz : b' 4 with
            | false => rfl
            | true => exact absurd (hW0 hz) (by rw [hun]; decide)
          have kx := (hF hap).out.2.1
          have x0 := kx.b0
          have x1 := kx.b1
          have x2 := kx.b2
          have x3 := kx.b3
          clear kx
          refine wpOp_step rfl (fun K hK => ?_)
          have HKK := Lib.hid hK; clear hK
          simp only [putAll, Act.put, List.setIfInBounds_toArray, List.set_cons_zero, List.set_cons_succ]
          go_simp
          exact HKK.out _ _ ⟨_, by simp only [putAll, Act.put, List.setIfInBounds_toArray, List.set_cons_zero, List.set_cons_succ] <;> rfl, fun _ => rfl, h1, h2, h3, hB, hF, hG, fun _ => rfl, hE3_2, fun _ => rfl, hW2, hW3⟩
        · obtain rfl := Option.some.inj hi
          clear hi hil
          refine wpOp_step rfl (fun K hK => ?_)
          have HKK := Lib.hid hK; clear hK
          simp only [putAll, Act.put, List.setIfInBounds_toArray, List.set_cons_zero, List.set_cons_succ]
          go_simp
          exact HKK.out _ _ ⟨_, by simp only [putAll, Act.put, List.setIfInBounds_toArray, List.set_cons_zero, List.set_cons_succ] <;> rfl, h0, fun _ => rfl, h2, h3, hB, hF, hG, hE3_0, hE3_2, hW0, hW2, hW3⟩
        · obtain rfl := Option.some.inj hi
          clear hi hil
          have hap : b' 4 = false := by
            cases hz : b' 4 with
            | false => rfl
            | true => exact absurd (hW2 hz) (by rw [hun]; decide)
          have d1 := h1 (hall ⟨1, .data⟩ (by simp) rfl)
          refine wpOp_step rfl (fun K hK => ?_)
          have HKK := Lib.hid hK; clear hK
          simp only [putAll, Act.put, List.setIfInBounds_toArray, List.set_cons_zero, List.set_cons_succ]
          go_simp
          refine (HB0.out w' (hF hap).out.2.2).mono ?_
          rintro e w2 ⟨rfl, hb2⟩
          exact HKK.out _ _ ⟨_, by simp only [putAll, Act.put, List.setIfInBounds_toArray, List.set_cons_zero, List.set_cons_succ, d1] <;> rfl, h0, h1, fun _ => rfl, h3, fun ha => Lib.hid ⟨(hB ha).out.1.trans (hb2.mono (hB ha).out.2), Nat.le_trans (hB ha).out.2 hb2.size⟩, fun ha => Lib.hid (⟨(hF ha).out.1.grow hb2, (hF ha).out.2.1.grow hb2, below_next (hF ha).out.2.2 hb2⟩), fun h => absurd (show b' 4 = true from h) (by rw [hap]; decide), hE3_0, fun _ => rfl, hW0, fun _ => rfl, hW3⟩
        · obtain rfl := Option.some.inj hi
          clear hi hil
          have hap : b' 4 = false := by
            cases hz : b' 4 with
            | false => rfl
            | true => exact absurd (hW3 hz) (by rw [hun]; decide)
          have d0 := h0 (hall ⟨0, .data⟩ (by simp) rfl)
          have d2 := h2 (hall ⟨2, .data⟩ (by simp) rfl)
          refine wpOp_step rfl (fun K hK => ?_)
          have HKK := Lib.hid hK; clear hK
          simp only [putAll, Act.put, List.setIfInBounds_toArray, List.set_cons_zero, List.set_cons_succ]
          go_simp
          refine (HJ.out w').mono ?_
          rintro e w2 ⟨rfl, hb2⟩
          exact HKK.out _ _ ⟨_, by simp only [putAll, Act.put, List.setIfInBounds_toArray, List.set_cons_zero, List.set_cons_succ, d0, d2] <;> rfl, h0, h1, h2, fun _ => rfl, fun ha => Lib.hid ⟨(hB ha).out.1.trans (hb2.mono (hB ha).out.2), Nat.le_trans (hB ha).out.2 hb2.size⟩, fun ha => Lib.hid (⟨(hF ha).out.1.grow hb2, (hF ha).out.2.1.grow hb2, below_next (hF ha).out.2.2 hb2⟩), fun h => absurd (show b' 4 = true from h) (by rw [hap]; decide), fun _ => hall ⟨0, .data⟩ (by simp) rfl, fun _ => hall ⟨2, .data⟩ (by simp) rfl, hW0, hW2, fun _ => rfl⟩
        · obtain rfl := Option.some.inj hi
          clear hi hil
          have hap : b' 4 = false := hun
          have d3 := h3 (hall ⟨3, .data⟩ (by simp) rfl)
          have kr := (hF hap).out.2.1
          have c0 := kr.b0
          have c1 := kr.b1
          have c2 := kr.b2
          have c3 := kr.b3
          have f0 := kr.free 0
          have f1 := kr.free 1
          have f2 := kr.free 2
          have f3 := kr.free 3
          have lr := kr.lt
          clear kr
          refine wpOp_step rfl (fun K hK => ?_)
          have HKK := Lib.hid hK; clear hK
          simp only [putAll, Act.put, List.setIfInBounds_toArray, List.set_cons_zero, List.set_cons_succ]
          go_simp
          exact HKK.out _ _ ⟨undef, by simp only [putAll, Act.put, List.setIfInBounds_toArray, List.set_cons_zero, List.set_cons_succ, d3] <;> rfl, h0, h1, h2, h3, fun h => Bool.noConfusion h, fun h => Bool.noConfusion h, fun _ => Lib.hid (⟨below_four (hB hap).out.1 (by omega) _ _ _ _, (hF hap).out.1.otherB (by omega) _ _ _ _, (hF hap).out.2.1.setB u⟩), hE3_0, hE3_2, fun _ => hE3_0 (hall ⟨3, .data⟩ (by simp) rfl), fun _ => hE3_2 (hall ⟨3, .data⟩ (by simp) rfl), fun _ => hall ⟨3, .data⟩ (by simp) rfl⟩
        · omega
      · rintro b' vs w2 hall ⟨h0, h1, h2, h3, hB, hF, hG, hE3_0, hE3_2, hW0, hW2, hW3⟩
        have d0 := h0 (hall 0 (by simp))
        have d1 := h1 (hall 1 (by simp))
        have d2 := h2 (hall 2 (by simp))
        have d3 := h3 (hall 3 (by simp))
        have GG := hG (hall 4 (by simp))
        simp only [putAll, Act.put, List.setIfInBounds_toArray, List.set_cons_zero, List.set_cons_succ, d0, d1, d2, d3]
        clear hall h0 d0 h1 d1 h2 d2 h3 d3 hB hF hG hE3_0 hE3_2 hW0 hW2 hW3
        go_wp2_with fail
        exact ⟨⟨k + 1, u, by omega, by go_num, HF, GG.out.2.1, GG.out.2.2, GG.out.1⟩, by simp [intOf]; omega⟩
    · have hd : decide ((k : Int) < (n : Int)) = false := by simp; omega
      have hv : Hid (x = boundP (S.map Prod.snd)) := by
        have := hf.out
        rw [show k = n by omega, ← HN.out, List.take_length] at this
        exact this.symm
      have k1 := hw.out.2.1
      have z0 := k1.b0
      have z1 := k1.b1
      have z2 := k1.b2
      have z3 := k1.b3
      have k0 := hw.out.1
      have y0 := k0.b0
      have y1 := k0.b1
      have y2 := k0.b2
      have y3 := k0.b3
      have f0 := k0.free 0
      have f1 := k0.free 1
      have f2 := k0.free 2
      have f3 := k0.free 3
      have l0 := k0.lt
      simp only at y0 y1 y2 y3
      have K0 := Lib.hid k0
      clear k0 k1
      go_wp2_with fail
      refine bodyPost_ret (v := .agg (four x)) (results_box 2 rfl rfl (K0.out.setB x)) rfl ⟨by rw [hv.out], below_four (g := w.heap.size) hw.out.2.2 (by omega) _ _ _ _⟩
end Go.Proofs.Ytopngjpgikpmaaa
