/- Layer 10: the document's Fade. -/
import Derived.Test.YtoppmlfibllhlaaPb
namespace Go.Proofs.Ytoppmlfibllhlaa
open Go.RowKit
def fadeC (c : Col) (b : Int) : Col := fun i => ofI (c i) b
theorem fade_ok {c : Col} {b : Int} (hc : OkC c) (hb : 0 ≤ b ∧ b ≤ 255) : OkC (fadeC c b) := fun i hi => by
  obtain ⟨h0, _, _, h3⟩ := ofI_in (hc i hi).1 (hc i hi).2 hb.1 hb.2
  exact ⟨h0, h3⟩
theorem below_four4 {w w' : World} {B g : Nat} (h : Below B w w') (hg : B ≤ g) (a b c d : Value) : Below B w ((((w'.setCell ⟨g, 0, none⟩ a).setCell ⟨g, 1, none⟩ b).setCell ⟨g, 2, none⟩ c).setCell ⟨g, 3, none⟩ d) :=
  (((h.setCell hg a).setCell hg b).setCell hg c).setCell hg d
theorem Blk.set4 {w : World} {g : Nat} {t : TypeId} {f : Nat → Value} (h : Blk w g t (four f)) (u : Nat → Value) : Blk ((((w.setCell ⟨g, 0, none⟩ (u 0)).setCell ⟨g, 1, none⟩ (u 1)).setCell ⟨g, 2, none⟩ (u 2)).setCell ⟨g, 3, none⟩ (u 3)) g t (four u) :=
  (((h.set 0 (u 0)).set 1 (u 1)).set 2 (u 2)).set 3 (u 3)
theorem Blk.other4 {w : World} {g g' : Nat} {t : TypeId} {cs : Array Value} (h : Blk w g t cs) (hne : g ≠ g') (a b c d : Value) : Blk ((((w.setCell ⟨g', 0, none⟩ a).setCell ⟨g', 1, none⟩ b).setCell ⟨g', 2, none⟩ c).setCell ⟨g', 3, none⟩ d) g t cs :=
  (((h.other _ _ hne).other _ _ hne).other _ _ hne).other _ _ hne
set_option maxHeartbeats 2000000 in
set_option maxRecDepth 100000 in
theorem refFade_c (c : Col) (b : Int) (hc : OkC c) (hb : 0 ≤ b ∧ b ≤ 255) (w : World) : Calls Try.prog 44 #[.agg #[.int .i64 (c 0), .int .i64 (c 1), .int .i64 (c 2), .int .i64 (c 3)], .int .i64 b] w fun e w' => e = .returned (.agg #[.int .i64 (fadeC c b 0), .int .i64 (fadeC c b 1), .int .i64 (fadeC c b 2), .int .i64 (fadeC c b 3)]) ∧ Below w.heap.size w w' := by
  have H0 : Hid (∀ w, Calls Try.prog 63 #[.int .i64 (c 0), .int .i64 b] w fun e w' => e = .returned (.int .i64 (fadeC c b 0)) ∧ w = w') := refOf_c (c 0) b (hc 0 (by decide)) hb
  have H1 : Hid (∀ w, Calls Try.prog 63 #[.int .i64 (c 1), .int .i64 b] w fun e w' => e = .returned (.int .i64 (fadeC c b 1)) ∧ w = w') := refOf_c (c 1) b (hc 1 (by decide)) hb
  have H2 : Hid (∀ w, Calls Try.prog 63 #[.int .i64 (c 2), .int .i64 b] w fun e w' => e = .returned (.int .i64 (fadeC c b 2)) ∧ w = w') := refOf_c (c 2) b (hc 2 (by decide)) hb
  have H3 : Hid (∀ w, Calls Try.prog 63 #[.int .i64 (c 3), .int .i64 b] w fun e w' => e = .returned (.int .i64 (fadeC c b 3)) ∧ w = w') := refOf_c (c 3) b (hc 3 (by decide)) hb
  clear hc hb
  go_enter Try.func44, Try.ntmps44
  go_wp2_with fail
  obtain ⟨w1, hw1⟩ : ∃ W, (w.alloc (.cells #[.int .i64 (c 0), .int .i64 (c 1), .int .i64 (c 2), .int .i64 (c 3)] 43)).alloc (.cells #[.int .i64 0, .int .i64 0, .int .i64 0, .int .i64 0] 43) = W := ⟨_, rfl⟩
  have S1 : Hid (Below w.heap.size w w1 ∧ Blk w1 w.heap.size 43 (c64 c) ∧ Blk w1 (w.heap.size + 1) 43 (four fun _ => .int .i64 0) ∧ w.heap.size ≤ w1.heap.size) := by
    rw [← hw1]
    exact ⟨((Below.refl _ _).alloc (Nat.le_refl _) _).alloc (by simp) _, (Blk.new _ _ _).alloc _, Blk.newAt _ _ _ (by simp), by simp; omega⟩
  rw [hw1]
  clear hw1
  refine wp_region_put (by kernel_rfl) (by kernel_rfl) (by kernel_rfl) (fun b' vs w' => (b' 0 = true → vs 0 = .pointer (some ⟨w.heap.size, 0, none⟩)) ∧ (b' 1 = true → vs 1 = .int .i64 (c 0)) ∧ (b' 2 = true → vs 2 = .int .i64 b) ∧ (b' 3 = true → vs 3 = .int .i64 (fadeC c b 0)) ∧ (b' 4 = true → vs 4 = .pointer (some ⟨w.heap.size, 1, none⟩)) ∧ (b' 5 = true → vs 5 = .int .i64 (c 1)) ∧ (b' 6 = true → vs 6 = .int .i64 b) ∧ (b' 7 = true → vs 7 = .int .i64 (fadeC c b 1)) ∧ (b' 8 = true → vs 8 = .pointer (some ⟨w.heap.size, 2, none⟩)) ∧ (b' 9 = true → vs 9 = .int .i64 (c 2)) ∧ (b' 10 = true → vs 10 = .int .i64 b) ∧ (b' 11 = true → vs 11 = .int .i64 (fadeC c b 2)) ∧ (b' 12 = true → vs 12 = .pointer (some ⟨w.heap.size, 3, none⟩)) ∧ (b' 13 = true → vs 13 = .int .i64 (c 3)) ∧ (b' 14 = true → vs 14 = .int .i64 b) ∧ (b' 15 = true → vs 15 = .int .i64 (fadeC c b 3)) ∧ (b' 16 = true → vs 16 = .agg #[.int .i64 (fadeC c b 0), .int .i64 (fadeC c b 1), .int .i64 (fadeC c b 2), .int .i64 (fadeC c b 3)]) ∧ (b' 17 = false → Hid (Below w.heap.size w w' ∧ w.heap.size ≤ w'.heap.size)) ∧ (b' 17 = false → Hid (Blk w' w.heap.size 43 (c64 c) ∧ Blk w' (w.heap.size + 1) 43 (four fun _ => .int .i64 0))) ∧ (b' 17 = true → Hid (Below w.heap.size w w' ∧ Blk w' (w.heap.size + 1) 43 (c64 (fadeC c b)))) ∧ (b' 16 = true → b' 3 = true) ∧ (b' 3 = true → b' 1 = true) ∧ (b' 16 = true → b' 7 = true) ∧ (b' 7 = true → b' 5 = true) ∧ (b' 16 = true → b' 11 = true) ∧ (b' 11 = true → b' 9 = true) ∧ (b' 16 = true → b' 15 = true) ∧ (b' 15 = true → b' 13 = true) ∧ (b' 17 = true → b' 1 = true) ∧ (b' 17 = true → b' 3 = true) ∧ (b' 17 = true → b' 5 = true) ∧ (b' 17 = true → b' 7 = true) ∧ (b' 17 = true → b' 9 = true) ∧ (b' 17 = true → b' 11 = true) ∧ (b' 17 = true → b' 13 = true) ∧ (b' 17 = true → b' 15 = true)) ?_ ?_ ?_
  · intro vs
    exact ⟨fun h => Bool.noConfusion h, fun h => Bool.noConfusion h, fun h => Bool.noConfusion h, fun h => Bool.noConfusion h, fun h => Bool.noConfusion h, fun h => Bool.noConfusion h, fun h => Bool.noConfusion h, fun h => Bool.noConfusion h, fun h => Bool.noConfusion h, fun h => Bool.noConfusion h, fun h => Bool.noConfusion h, fun h => Bool.noConfusion h, fun h => Bool.noConfusion h, fun h => Bool.noConfusion h, fun h => Bool.noConfusion h, fun h => Bool.noConfusion h, fun h => Bool.noConfusion h, fun _ => Lib.hid ⟨below_drewN S1.out.1 1, S1.out.2.2.2⟩, fun _ => Lib.hid ⟨S1.out.2.1.grow ⟨rfl, rfl, rfl, Nat.le_refl _, fun _ _ => rfl⟩, S1.out.2.2.1.grow ⟨rfl, rfl, rfl, Nat.le_refl _, fun _ _ => rfl⟩⟩, fun h => Bool.noConfusion h, fun h => Bool.noConfusion h, fun h => Bool.noConfusion h, fun h => Bool.noConfusion h, fun h => Bool.noConfusion h, fun h => Bool.noConfusion h, fun h => Bool.noConfusion h, fun h => Bool.noConfusion h, fun h => Bool.noConfusion h, fun h => Bool.noConfusion h, fun h => Bool.noConfusion h, fun h => Bool.noConfusion h, fun h => Bool.noConfusion h, fun h => Bool.noConfusion h, fun h => Bool.noConfusion h, fun h => Bool.noConfusion h, fun h => Bool.noConfusion h⟩
  · rintro b' vs w' i op hi hun hall ⟨h0, h1, h2, h3, h4, h5, h6, h7, h8, h9, h10, h11, h12, h13, h14, h15, h16, hB, hF, hG, hE16_3, hE3_1, hE16_7, hE7_5, hE16_11, hE11_9, hE16_15, hE15_13, hW1, hW3, hW5, hW7, hW9, hW11, hW13, hW15⟩
    have hil : i < 18 := (List.getElem?_eq_some_iff.1 hi).1
    rcases i with _ | _ | _ | _ | _ | _ | _ | _ | _ | _ | _ | _ | _ | _ | _ | _ | _ | _ | i
    · obtain rfl := Option.some.inj hi
      clear hi hil
      refine wpOp_step rfl (fun K hK => ?_)
      have HKK := Lib.hid hK; clear hK
      simp only [putAll, Act.put, List.setIfInBounds_toArray, List.set_cons_zero, List.set_cons_succ]
      go_simp
      exact HKK.out _ _ ⟨_, by simp only [putAll, Act.put, List.setIfInBounds_toArray, List.set_cons_zero, List.set_cons_succ] <;> rfl, fun _ => rfl, h1, h2, h3, h4, h5, h6, h7, h8, h9, h10, h11, h12, h13, h14, h15, h16, hB, hF, hG, hE16_3, hE3_1, hE16_7, hE7_5, hE16_11, hE11_9, hE16_15, hE15_13, hW1, hW3, hW5, hW7, hW9, hW11, hW13, hW15⟩
    · obtain rfl := Option.some.inj hi
      clear hi hil
      have hap : b' 17 = false := by
        cases hz : b' 17 with
        | false => rfl
        | true => exact absurd (hW1 hz) (by rw [hun]; decide)
      have d0 := h0 (hall ⟨0, .data⟩ (by simp) rfl)
      have cc := (hF hap).out.1.c0
      have c0 := cc.1
      clear cc
      refine wpOp_step rfl (fun K hK => ?_)
      have HKK := Lib.hid hK; clear hK
      simp only [putAll, Act.put, List.setIfInBounds_toArray, List.set_cons_zero, List.set_cons_succ]
      go_simp
      exact HKK.out _ _ ⟨_, by simp only [putAll, Act.put, List.setIfInBounds_toArray, List.set_cons_zero, List.set_cons_succ, d0] <;> rfl, h0, fun _ => rfl, h2, h3, h4, h5, h6, h7, h8, h9, h10, h11, h12, h13, h14, h15, h16, hB, hF, hG, hE16_3, fun _ => rfl, hE16_7, hE7_5, hE16_11, hE11_9, hE16_15, hE15_13, fun _ => rfl, hW3, hW5, hW7, hW9, hW11, hW13, hW15⟩
    · obtain rfl := Option.some.inj hi
      clear hi hil
      refine wpOp_step rfl (fun K hK => ?_)
      have HKK := Lib.hid hK; clear hK
      simp only [putAll, Act.put, List.setIfInBounds_toArray, List.set_cons_zero, List.set_cons_succ]
      go_simp
      exact HKK.out _ _ ⟨_, by simp only [putAll, Act.put, List.setIfInBounds_toArray, List.set_cons_zero, List.set_cons_succ] <;> rfl, h0, h1, fun _ => rfl, h3, h4, h5, h6, h7, h8, h9, h10, h11, h12, h13, h14, h15, h16, hB, hF, hG, hE16_3, hE3_1, hE16_7, hE7_5, hE16_11, hE11_9, hE16_15, hE15_13, hW1, hW3, hW5, hW7, hW9, hW11, hW13, hW15⟩
    · obtain rfl := Option.some.inj hi
      clear hi hil
      have hap : b' 17 = false := by
        cases hz : b' 17 with
        | false => rfl
        | true => exact absurd (hW3 hz) (by rw [hun]; decide)
      have d1 := h1 (hall ⟨1, .data⟩ (by simp) rfl)
      have d2 := h2 (hall ⟨2, .data⟩ (by simp) rfl)
      refine wpOp_step rfl (fun K hK => ?_)
      have HKK := Lib.hid hK; clear hK
      simp only [putAll, Act.put, List.setIfInBounds_toArray, List.set_cons_zero, List.set_cons_succ]
      go_simp
      refine (H0.out _).mono ?_
      rintro e w2 ⟨rfl, rfl⟩
      exact HKK.out _ _ ⟨_, by simp only [putAll, Act.put, List.setIfInBounds_toArray, List.set_cons_zero, List.set_cons_succ, d1, d2] <;> rfl, h0, h1, h2, fun _ => rfl, h4, h5, h6, h7, h8, h9, h10, h11, h12, h13, h14, h15, h16, hB, hF, hG, fun _ => rfl, fun _ => hall ⟨1, .data⟩ (by simp) rfl, hE16_7, hE7_5, hE16_11, hE11_9, hE16_15, hE15_13, hW1, fun _ => rfl, hW5, hW7, hW9, hW11, hW13, hW15⟩
    · obtain rfl := Option.some.inj hi
      clear hi hil
      refine wpOp_step rfl (fun K hK => ?_)
      have HKK := Lib.hid hK; clear hK
      simp only [putAll, Act.put, List.setIfInBounds_toArray, List.set_cons_zero, List.set_cons_succ]
      go_simp
      exact HKK.out _ _ ⟨_, by simp only [putAll, Act.put, List.setIfInBounds_toArray, List.set_cons_zero, List.set_cons_succ] <;> rfl, h0, h1, h2, h3, fun _ => rfl, h5, h6, h7, h8, h9, h10, h11, h12, h13, h14, h15, h16, hB, hF, hG, hE16_3, hE3_1, hE16_7, hE7_5, hE16_11, hE11_9, hE16_15, hE15_13, hW1, hW3, hW5, hW7, hW9, hW11, hW13, hW15⟩
    · obtain rfl := Option.some.inj hi
      clear hi hil
      have hap : b' 17 = false := by
        cases hz : b' 17 with
        | false => rfl
        | true => exact absurd (hW5 hz) (by rw [hun]; decide)
      have d4 := h4 (hall ⟨4, .data⟩ (by simp) rfl)
      have cc := (hF hap).out.1.c0
      have c1 := cc.2.1
      clear cc
      refine wpOp_step rfl (fun K hK => ?_)
      have HKK := Lib.hid hK; clear hK
      simp only [putAll, Act.put, List.setIfInBounds_toArray, List.set_cons_zero, List.set_cons_succ]
      go_simp
      exact HKK.out _ _ ⟨_, by simp only [putAll, Act.put, List.setIfInBounds_toArray, List.set_cons_zero, List.set_cons_succ, d4] <;> rfl, h0, h1, h2, h3, h4, fun _ => rfl, h6, h7, h8, h9, h10, h11, h12, h13, h14, h15, h16, hB, hF, hG, hE16_3, hE3_1, hE16_7, fun _ => rfl, hE16_11, hE11_9, hE16_15, hE15_13, hW1, hW3, fun _ => rfl, hW7, hW9, hW11, hW13, hW15⟩
    · obtain rfl := Option.some.inj hi
      clear hi hil
      refine wpOp_step rfl (fun K hK => ?_)
      have HKK := Lib.hid hK; clear hK
      simp only [putAll, Act.put, List.setIfInBounds_toArray, List.set_cons_zero, List.set_cons_succ]
      go_simp
      exact HKK.out _ _ ⟨_, by simp only [putAll, Act.put, List.setIfInBounds_toArray, List.set_cons_zero, List.set_cons_succ] <;> rfl, h0, h1, h2, h3, h4, h5, fun _ => rfl, h7, h8, h9, h10, h11, h12, h13, h14, h15, h16, hB, hF, hG, hE16_3, hE3_1, hE16_7, hE7_5, hE16_11, hE11_9, hE16_15, hE15_13, hW1, hW3, hW5, hW7, hW9, hW11, hW13, hW15⟩
    · obtain rfl := Option.some.inj hi
      clear hi hil
      have hap : b' 17 = false := by
        cases hz : b' 17 with
        | false => rfl
        | true => exact absurd (hW7 hz) (by rw [hun]; decide)
      have d5 := h5 (hall ⟨5, .data⟩ (by simp) rfl)
      have d6 := h6 (hall ⟨6, .data⟩ (by simp) rfl)
      refine wpOp_step rfl (fun K hK => ?_)
      have HKK := Lib.hid hK; clear hK
      simp only [putAll, Act.put, List.setIfInBounds_toArray, List.set_cons_zero, List.set_cons_succ]
      go_simp
      refine (H1.out _).mono ?_
      rintro e w2 ⟨rfl, rfl⟩
      exact HKK.out _ _ ⟨_, by simp only [putAll, Act.put, List.setIfInBounds_toArray, List.set_cons_zero, List.set_cons_succ, d5, d6] <;> rfl, h0, h1, h2, h3, h4, h5, h6, fun _ => rfl, h8, h9, h10, h11, h12, h13, h14, h15, h16, hB, hF, hG, hE16_3, hE3_1, fun _ => rfl, fun _ => hall ⟨5, .data⟩ (by simp) rfl, hE16_11, hE11_9, hE16_15, hE15_13, hW1, hW3, hW5, fun _ => rfl, hW9, hW11, hW13, hW15⟩
    · obtain rfl := Option.some.inj hi
      clear hi hil
      refine wpOp_step rfl (fun K hK => ?_)
      have HKK := Lib.hid hK; clear hK
      simp only [putAll, Act.put, List.setIfInBounds_toArray, List.set_cons_zero, List.set_cons_succ]
      go_simp
      exact HKK.out _ _ ⟨_, by simp only [putAll, Act.put, List.setIfInBounds_toArray, List.set_cons_zero, List.set_cons_succ] <;> rfl, h0, h1, h2, h3, h4, h5, h6, h7, fun _ => rfl, h9, h10, h11, h12, h13, h14, h15, h16, hB, hF, hG, hE16_3, hE3_1, hE16_7, hE7_5, hE16_11, hE11_9, hE16_15, hE15_13, hW1, hW3, hW5, hW7, hW9, hW11, hW13, hW15⟩
    · obtain rfl := Option.some.inj hi
      clear hi hil
      have hap : b' 17 = false := by
        cases hz : b' 17 with
        | false => rfl
        | true => exact absurd (hW9 hz) (by rw [hun]; decide)
      have d8 := h8 (hall ⟨8, .data⟩ (by simp) rfl)
      have cc := (hF hap).out.1.c0
      have c2 := cc.2.2.1
      clear cc
      refine wpOp_step rfl (fun K hK => ?_)
      have HKK := Lib.hid hK; clear hK
      simp only [putAll, Act.put, List.setIfInBounds_toArray, List.set_cons_zero, List.set_cons_succ]
      go_simp
      exact HKK.out _ _ ⟨_, by simp only [putAll, Act.put, List.setIfInBounds_toArray, List.set_cons_zero, List.set_cons_succ, d8] <;> rfl, h0, h1, h2, h3, h4, h5, h6, h7, h8, fun _ => rfl, h10, h11, h12, h13, h14, h15, h16, hB, hF, hG, hE16_3, hE3_1, hE16_7, hE7_5, hE16_11, fun _ => rfl, hE16_15, hE15_13, hW1, hW3, hW5, hW7, fun _ => rfl, hW11, hW13, hW15⟩
    · obtain rfl := Option.some.inj hi
      clear hi hil
      refine wpOp_step rfl (fun K hK => ?_)
      have HKK := Lib.hid hK; clear hK
      simp only [putAll, Act.put, List.setIfInBounds_toArray, List.set_cons_zero, List.set_cons_succ]
      go_simp
      exact HKK.out _ _ ⟨_, by simp only [putAll, Act.put, List.setIfInBounds_toArray, List.set_cons_zero, List.set_cons_succ] <;> rfl, h0, h1, h2, h3, h4, h5, h6, h7, h8, h9, fun _ => rfl, h11, h12, h13, h14, h15, h16, hB, hF, hG, hE16_3, hE3_1, hE16_7, hE7_5, hE16_11, hE11_9, hE16_15, hE15_13, hW1, hW3, hW5, hW7, hW9, hW11, hW13, hW15⟩
    · obtain rfl := Option.some.inj hi
      clear hi hil
      have hap : b' 17 = false := by
        cases hz : b' 17 with
        | false => rfl
        | true => exact absurd (hW11 hz) (by rw [hun]; decide)
      have d9 := h9 (hall ⟨9, .data⟩ (by simp) rfl)
      have d10 := h10 (hall ⟨10, .data⟩ (by simp) rfl)
      refine wpOp_step rfl (fun K hK => ?_)
      have HKK := Lib.hid hK; clear hK
      simp only [putAll, Act.put, List.setIfInBounds_toArray, List.set_cons_zero, List.set_cons_succ]
      go_simp
      refine (H2.out _).mono ?_
      rintro e w2 ⟨rfl, rfl⟩
      exact HKK.out _ _ ⟨_, by simp only [putAll, Act.put, List.setIfInBounds_toArray, List.set_cons_zero, List.set_cons_succ, d9, d10] <;> rfl, h0, h1, h2, h3, h4, h5, h6, h7, h8, h9, h10, fun _ => rfl, h12, h13, h14, h15, h16, hB, hF, hG, hE16_3, hE3_1, hE16_7, hE7_5, fun _ => rfl, fun _ => hall ⟨9, .data⟩ (by simp) rfl, hE16_15, hE15_13, hW1, hW3, hW5, hW7, hW9, fun _ => rfl, hW13, hW15⟩
    · obtain rfl := Option.some.inj hi
      clear hi hil
      refine wpOp_step rfl (fun K hK => ?_)
      have HKK := Lib.hid hK; clear hK
      simp only [putAll, Act.put, List.setIfInBounds_toArray, List.set_cons_zero, List.set_cons_succ]
      go_simp
      exact HKK.out _ _ ⟨_, by simp only [putAll, Act.put, List.setIfInBounds_toArray, List.set_cons_zero, List.set_cons_succ] <;> rfl, h0, h1, h2, h3, h4, h5, h6, h7, h8, h9, h10, h11, fun _ => rfl, h13, h14, h15, h16, hB, hF, hG, hE16_3, hE3_1, hE16_7, hE7_5, hE16_11, hE11_9, hE16_15, hE15_13, hW1, hW3, hW5, hW7, hW9, hW11, hW13, hW15⟩
    · obtain rfl := Option.some.inj hi
      clear hi hil
      have hap : b' 17 = false := by
        cases hz : b' 17 with
        | false => rfl
        | true => exact absurd (hW13 hz) (by rw [hun]; decide)
      have d12 := h12 (hall ⟨12, .data⟩ (by simp) rfl)
      have cc := (hF hap).out.1.c0
      have c3 := cc.2.2.2
      clear cc
      refine wpOp_step rfl (fun K hK => ?_)
      have HKK := Lib.hid hK; clear hK
      simp only [putAll, Act.put, List.setIfInBounds_toArray, List.set_cons_zero, List.set_cons_succ]
      go_simp
      exact HKK.out _ _ ⟨_, by simp only [putAll, Act.put, List.setIfInBounds_toArray, List.set_cons_zero, List.set_cons_succ, d12] <;> rfl, h0, h1, h2, h3, h4, h5, h6, h7, h8, h9, h10, h11, h12, fun _ => rfl, h14, h15, h16, hB, hF, hG, hE16_3, hE3_1, hE16_7, hE7_5, hE16_11, hE11_9, hE16_15, fun _ => rfl, hW1, hW3, hW5, hW7, hW9, hW11, fun _ => rfl, hW15⟩
    · obtain rfl := Option.some.inj hi
      clear hi hil
      refine wpOp_step rfl (fun K hK => ?_)
      have HKK := Lib.hid hK; clear hK
      simp only [putAll, Act.put, List.setIfInBounds_toArray, List.set_cons_zero, List.set_cons_succ]
      go_simp
      exact HKK.out _ _ ⟨_, by simp only [putAll, Act.put, List.setIfInBounds_toArray, List.set_cons_zero, List.set_cons_succ] <;> rfl, h0, h1, h2, h3, h4, h5, h6, h7, h8, h9, h10, h11, h12, h13, fun _ => rfl, h15, h16, hB, hF, hG, hE16_3, hE3_1, hE16_7, hE7_5, hE16_11, hE11_9, hE16_15, hE15_13, hW1, hW3, hW5, hW7, hW9, hW11, hW13, hW15⟩
    · obtain rfl := Option.some.inj hi
      clear hi hil
      have hap : b' 17 = false := by
        cases hz : b' 17 with
        | false => rfl
        | true => exact absurd (hW15 hz) (by rw [hun]; decide)
      have d13 := h13 (hall ⟨13, .data⟩ (by simp) rfl)
      have d14 := h14 (hall ⟨14, .data⟩ (by simp) rfl)
      refine wpOp_step rfl (fun K hK => ?_)
      have HKK := Lib.hid hK; clear hK
      simp only [putAll, Act.put, List.setIfInBounds_toArray, List.set_cons_zero, List.set_cons_succ]
      go_simp
      refine (H3.out _).mono ?_
      rintro e w2 ⟨rfl, rfl⟩
      exact HKK.out _ _ ⟨_, by simp only [putAll, Act.put, List.setIfInBounds_toArray, List.set_cons_zero, List.set_cons_succ, d13, d14] <;> rfl, h0, h1, h2, h3, h4, h5, h6, h7, h8, h9, h10, h11, h12, h13, h14, fun _ => rfl, h16, hB, hF, hG, hE16_3, hE3_1, hE16_7, hE7_5, hE16_11, hE11_9, fun _ => rfl, fun _ => hall ⟨13, .data⟩ (by simp) rfl, hW1, hW3, hW5, hW7, hW9, hW11, hW13, fun _ => rfl⟩
    · obtain rfl := Option.some.inj hi
      clear hi hil
      have d3 := h3 (hall ⟨3, .data⟩ (by simp) rfl)
      have d7 := h7 (hall ⟨7, .data⟩ (by simp) rfl)
      have d11 := h11 (hall ⟨11, .data⟩ (by simp) rfl)
      have d15 := h15 (hall ⟨15, .data⟩ (by simp) rfl)
      refine wpOp_step rfl (fun K hK => ?_)
      have HKK := Lib.hid hK; clear hK
      simp only [putAll, Act.put, List.setIfInBounds_toArray, List.set_cons_zero, List.set_cons_succ]
      go_simp
      exact HKK.out _ _ ⟨_, by simp only [putAll, Act.put, List.setIfInBounds_toArray, List.set_cons_zero, List.set_cons_succ, d3, d7, d11, d15] <;> rfl, h0, h1, h2, h3, h4, h5, h6, h7, h8, h9, h10, h11, h12, h13, h14, h15, fun _ => rfl, hB, hF, hG, fun _ => hall ⟨3, .data⟩ (by simp) rfl, hE3_1, fun _ => hall ⟨7, .data⟩ (by simp) rfl, hE7_5, fun _ => hall ⟨11, .data⟩ (by simp) rfl, hE11_9, fun _ => hall ⟨15, .data⟩ (by simp) rfl, hE15_13, hW1, hW3, hW5, hW7, hW9, hW11, hW13, hW15⟩
    · obtain rfl := Option.some.inj hi
      clear hi hil
      have hap : b' 17 = false := hun
      have d16 := h16 (hall ⟨16, .data⟩ (by simp) rfl)
      have k4 := (hF hap).out.2
      obtain ⟨c0, c1, c2, c3⟩ := k4.c0
      have f0 := k4.free 0
      have f1 := k4.free 1
      have f2 := k4.free 2
      have f3 := k4.free 3
      have lg := k4.lt
      clear k4
      refine wpOp_step rfl (fun K hK => ?_)
      have HKK := Lib.hid hK; clear hK
      simp only [putAll, Act.put, List.setIfInBounds_toArray, List.set_cons_zero, List.set_cons_succ]
      go_simp
      exact HKK.out _ _ ⟨undef, by simp only [putAll, Act.put, List.setIfInBounds_toArray, List.set_cons_zero, List.set_cons_succ, d16] <;> rfl, h0, h1, h2, h3, h4, h5, h6, h7, h8, h9, h10, h11, h12, h13, h14, h15, h16, fun h => Bool.noConfusion h, fun h => Bool.noConfusion h, fun _ => Lib.hid (⟨below_four4 (hB hap).out.1 (by omega) _ _ _ _, (hF hap).out.2.set4 fun i => .int .i64 (fadeC c b i)⟩), hE16_3, hE3_1, hE16_7, hE7_5, hE16_11, hE11_9, hE16_15, hE15_13, fun _ => hE3_1 (hE16_3 (hall ⟨16, .data⟩ (by simp) rfl)), fun _ => hE16_3 (hall ⟨16, .data⟩ (by simp) rfl), fun _ => hE7_5 (hE16_7 (hall ⟨16, .data⟩ (by simp) rfl)), fun _ => hE16_7 (hall ⟨16, .data⟩ (by simp) rfl), fun _ => hE11_9 (hE16_11 (hall ⟨16, .data⟩ (by simp) rfl)), fun _ => hE16_11 (hall ⟨16, .data⟩ (by simp) rfl), fun _ => hE15_13 (hE16_15 (hall ⟨16, .data⟩ (by simp) rfl)), fun _ => hE16_15 (hall ⟨16, .data⟩ (by simp) rfl)⟩
    · omega
  · rintro b' vs w2 hall ⟨h0, h1, h2, h3, h4, h5, h6, h7, h8, h9, h10, h11, h12, h13, h14, h15, h16, hB, hF, hG, hE16_3, hE3_1, hE16_7, hE7_5, hE16_11, hE11_9, hE16_15, hE15_13, hW1, hW3, hW5, hW7, hW9, hW11, hW13, hW15⟩
    have d0 := h0 (hall 0 (by simp))
    have d1 := h1 (hall 1 (by simp))
    have d2 := h2 (hall 2 (by simp))
    have d3 := h3 (hall 3 (by simp))
    have d4 := h4 (hall 4 (by simp))
    have d5 := h5 (hall 5 (by simp))
    have d6 := h6 (hall 6 (by simp))
    have d7 := h7 (hall 7 (by simp))
    have d8 := h8 (hall 8 (by simp))
    have d9 := h9 (hall 9 (by simp))
    have d10 := h10 (hall 10 (by simp))
    have d11 := h11 (hall 11 (by simp))
    have d12 := h12 (hall 12 (by simp))
    have d13 := h13 (hall 13 (by simp))
    have d14 := h14 (hall 14 (by simp))
    have d15 := h15 (hall 15 (by simp))
    have d16 := h16 (hall 16 (by simp))
    have GG := hG (hall 17 (by simp))
    simp only [putAll, Act.put, List.setIfInBounds_toArray, List.set_cons_zero, List.set_cons_succ, d0, d1, d2, d3, d4, d5, d6, d7, d8, d9, d10, d11, d12, d13, d14, d15, d16]
    clear hall h0 d0 h1 d1 h2 d2 h3 d3 h4 d4 h5 d5 h6 d6 h7 d7 h8 d8 h9 d9 h10 d10 h11 d11 h12 d12 h13 d13 h14 d14 h15 d15 h16 d16 hB hF hG hE16_3 hE3_1 hE16_7 hE7_5 hE16_11 hE11_9 hE16_15 hE15_13 hW1 hW3 hW5 hW7 hW9 hW11 hW13 hW15
    go_wp2_with fail
    exact bodyPost_ret (results_col (.inl rfl) 4 rfl rfl GG.out.2) rfl ⟨rfl, GG.out.1⟩
end Go.Proofs.Ytoppmlfibllhlaa

