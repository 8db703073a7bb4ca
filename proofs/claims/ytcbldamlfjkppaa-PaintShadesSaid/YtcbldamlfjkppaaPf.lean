/- Layer 10: the document's Mix. -/
import Derived.Test.YtcbldamlfjkppaaPe
namespace Go.Proofs.Ytcbldamlfjkppaa
open Go.RowKit
def mixC (c d : Col) (t : Int) : Col := fun i => (c i * (65536 - t) + d i * t + 32768) / 65536
theorem mix_between {x y t : Int} (ht : 0 ≤ t ∧ t ≤ 65536) : (x ≤ y → x ≤ (x * (65536 - t) + y * t + 32768) / 65536 ∧ (x * (65536 - t) + y * t + 32768) / 65536 ≤ y) ∧ (y ≤ x → y ≤ (x * (65536 - t) + y * t + 32768) / 65536 ∧ (x * (65536 - t) + y * t + 32768) / 65536 ≤ x) := by
  have e : x * (65536 - t) + y * t = 65536 * x + (y - x) * t := by grind
  rw [e]
  constructor
  · intro h
    have h1 := Int.mul_nonneg (show 0 ≤ y - x by omega) ht.1
    have h2 := Int.mul_le_mul_of_nonneg_left ht.2 (show 0 ≤ y - x by omega)
    generalize (y - x) * t = p at *
    omega
  · intro h
    have h1 := Int.mul_nonneg (show 0 ≤ x - y by omega) ht.1
    have h2 := Int.mul_le_mul_of_nonneg_left ht.2 (show 0 ≤ x - y by omega)
    have e2 : (x - y) * t = -((y - x) * t) := by grind
    rw [e2] at h1 h2
    generalize (y - x) * t = p at *
    omega
theorem mix_ok {c d : Col} {t : Int} (hc : OkC c) (hd : OkC d) (ht : 0 ≤ t ∧ t ≤ 65536) : OkC (mixC c d t) := fun i hi => by
  obtain ⟨h1, h2⟩ := mix_between (x := c i) (y := d i) ht
  have := hc i hi
  have := hd i hi
  unfold mixC
  rcases Int.le_total (c i) (d i) with h | h
  · have := h1 h; omega
  · have := h2 h; omega
set_option maxHeartbeats 2000000 in
set_option maxRecDepth 100000 in
theorem refMix_c (c d : Col) (t : Int) (hc : OkC c) (hd : OkC d) (ht : 0 ≤ t ∧ t ≤ 65536) (w : World) : Calls Try.prog 27 #[.agg #[.int .i64 (c 0), .int .i64 (c 1), .int .i64 (c 2), .int .i64 (c 3)], .agg #[.int .i64 (d 0), .int .i64 (d 1), .int .i64 (d 2), .int .i64 (d 3)], .int .i64 t] w fun e w' => e = .returned (.agg #[.int .i64 (mixC c d t 0), .int .i64 (mixC c d t 1), .int .i64 (mixC c d t 2), .int .i64 (mixC c d t 3)]) ∧ Below w.heap.size w w' := by
  have HC := Lib.hid hc
  have HD := Lib.hid hd
  have HT := Lib.hid ht
  clear hc hd ht
  go_enter Try.func27, Try.ntmps27
  go_wp2_with fail
  go_loopw [7] (fun i wr => ∃ k : Nat, k ≤ 4 ∧ i = .int .i64 (k : Int) ∧ Hid (Below w.heap.size w wr ∧ Blk wr w.heap.size 31 (c64 (upto k (mixC c d t) c)) ∧ Blk wr (w.heap.size + 1) 31 (c64 d) ∧ Blk wr (w.heap.size + 1 + 1) 31 (four fun _ => .int .i64 0))) (fun i _ => 4 - (intOf i).toNat)
  case atStart =>
    refine ⟨0, by omega, rfl, (((Below.refl _ _).alloc (Nat.le_refl _) _).alloc (by simp) _).alloc (by simp; omega) _, ?_, (Blk.newAt _ _ _ (by simp)).alloc _, Blk.newAt _ _ _ (by simp)⟩
    rw [upto_none64]
    exact ((Blk.new _ _ _).alloc _).alloc _
  case round =>
    obtain ⟨k, hk, rfl, hw⟩ := hrel
    by_cases hlt : k < 4
    · have hd : decide ((k : Int) < 4) = true := by simp; omega
      have hki : (k : Int) < 4 := by omega
      obtain ⟨u, hu⟩ : ∃ u, 65536 - t = u := ⟨_, rfl⟩
      have h0 := HT.out
      obtain ⟨p0, _, _, p3⟩ := prod_in (HC.out k hlt).1 (HC.out k hlt).2 (b := u) (B := 65536) (by omega) (by omega)
      obtain ⟨q0, _, _, q3⟩ := prod_in (HD.out k hlt).1 (HD.out k hlt).2 h0.1 h0.2
      obtain ⟨a, ha⟩ : ∃ a, c k * u = a := ⟨_, rfl⟩
      obtain ⟨b, hb⟩ : ∃ b, d k * t = b := ⟨_, rfl⟩
      rw [ha] at p0 p3
      rw [hb] at q0 q3
      obtain ⟨s, hs⟩ : ∃ s, a + b = s := ⟨_, rfl⟩
      have hv : mixC c d t k = (s + 32768) / 65536 := by unfold mixC; rw [hu, ha, hb, hs]
      have E1 : Hid (IntKind.i64.wrap (65536 - t) = u) := by unfold Hid; rw [hu, wrap_is]; exact wrapR _ (by omega) (by omega)
      have E2 : Hid (IntKind.i64.wrap (c k * u) = a) := by unfold Hid; rw [ha, wrap_is]; exact wrapR _ (by omega) (by omega)
      have E3 : Hid (IntKind.i64.wrap (d k * t) = b) := by unfold Hid; rw [hb, wrap_is]; exact wrapR _ (by omega) (by omega)
      have E4 : Hid (IntKind.i64.wrap (a + b) = s) := by unfold Hid; rw [hs, wrap_is]; exact wrapR _ (by omega) (by omega)
      have HO : Hid (∀ w, Calls Try.prog 32 #[.int .i64 s, .int .i64 65536] w fun e w' => e = .returned (.int .i64 (mixC c d t k)) ∧ w = w') := fun w => by
        have h := round_any s 65536 w (by omega) (by omega) (by omega) (by omega) (by omega) (by omega)
        rw [rnd_65536, ← hv] at h
        exact h
      clear hu h0 p0 p3 q0 q3 ha hb hs hv
      go_wp2_with fail
      refine wp_region_put (by kernel_rfl) (by kernel_rfl) (by kernel_rfl) (fun b' vs w' => (b' 0 = true → vs 0 = .int .i64 (k : Int)) ∧ (b' 1 = true → vs 1 = .int .i64 (k : Int)) ∧ (b' 2 = true → vs 2 = .pointer (some ⟨w.heap.size, k, none⟩)) ∧ (b' 3 = true → vs 3 = .int .i64 (c k)) ∧ (b' 4 = true → vs 4 = .int .i64 t) ∧ (b' 5 = true → vs 5 = .int .i64 u) ∧ (b' 6 = true → vs 6 = .int .i64 a) ∧ (b' 7 = true → vs 7 = .int .i64 (k : Int)) ∧ (b' 8 = true → vs 8 = .pointer (some ⟨w.heap.size + 1, k, none⟩)) ∧ (b' 9 = true → vs 9 = .int .i64 (d k)) ∧ (b' 10 = true → vs 10 = .int .i64 t) ∧ (b' 11 = true → vs 11 = .int .i64 b) ∧ (b' 12 = true → vs 12 = .int .i64 s) ∧ (b' 13 = true → vs 13 = .int .i64 (mixC c d t k)) ∧ (b' 14 = true → vs 14 = .pointer (some ⟨w.heap.size, k, none⟩)) ∧ (b' 15 = false → Hid (Below w.heap.size w w' ∧ w.heap.size ≤ w'.heap.size)) ∧ (b' 15 = false → Hid (Blk w' w.heap.size 31 (c64 (upto k (mixC c d t) c)) ∧ Blk w' (w.heap.size + 1) 31 (c64 d) ∧ Blk w' (w.heap.size + 1 + 1) 31 (four fun _ => .int .i64 0))) ∧ (b' 15 = true → Hid (Below w.heap.size w w' ∧ Blk w' w.heap.size 31 ((c64 (upto k (mixC c d t) c)).setIfInBounds k (.int .i64 (mixC c d t k))) ∧ Blk w' (w.heap.size + 1) 31 (c64 d) ∧ Blk w' (w.heap.size + 1 + 1) 31 (four fun _ => .int .i64 0))) ∧ (b' 13 = true → b' 12 = true) ∧ (b' 12 = true → b' 6 = true) ∧ (b' 6 = true → b' 3 = true) ∧ (b' 12 = true → b' 11 = true) ∧ (b' 11 = true → b' 9 = true) ∧ (b' 15 = true → b' 3 = true) ∧ (b' 15 = true → b' 9 = true) ∧ (b' 15 = true → b' 13 = true)) ?_ ?_ ?_
      · intro vs
        exact ⟨fun h => Bool.noConfusion h, fun h => Bool.noConfusion h, fun h => Bool.noConfusion h, fun h => Bool.noConfusion h, fun h => Bool.noConfusion h, fun h => Bool.noConfusion h, fun h => Bool.noConfusion h, fun h => Bool.noConfusion h, fun h => Bool.noConfusion h, fun h => Bool.noConfusion h, fun h => Bool.noConfusion h, fun h => Bool.noConfusion h, fun h => Bool.noConfusion h, fun h => Bool.noConfusion h, fun h => Bool.noConfusion h, fun _ => Lib.hid ⟨below_drewN hw.out.1 1, hw.out.1.size⟩, fun _ => Lib.hid ⟨hw.out.2.1.grow ⟨rfl, rfl, rfl, Nat.le_refl _, fun _ _ => rfl⟩, hw.out.2.2.1.grow ⟨rfl, rfl, rfl, Nat.le_refl _, fun _ _ => rfl⟩, hw.out.2.2.2.grow ⟨rfl, rfl, rfl, Nat.le_refl _, fun _ _ => rfl⟩⟩, fun h => Bool.noConfusion h, fun h => Bool.noConfusion h, fun h => Bool.noConfusion h, fun h => Bool.noConfusion h, fun h => Bool.noConfusion h, fun h => Bool.noConfusion h, fun h => Bool.noConfusion h, fun h => Bool.noConfusion h, fun h => Bool.noConfusion h⟩
      · rintro b' vs w' i op hi hun hall ⟨h0, h1, h2, h3, h4, h5, h6, h7, h8, h9, h10, h11, h12, h13, h14, hB, hF, hG, hE13_12, hE12_6, hE6_3, hE12_11, hE11_9, hW3, hW9, hW13⟩
        have hil : i < 16 := (List.getElem?_eq_some_iff.1 hi).1
        rcases i with _ | _ | _ | _ | _ | _ | _ | _ | _ | _ | _ | _ | _ | _ | _ | _ | i
        · obtain rfl := Option.some.inj hi
          clear hi hil
          refine wpOp_step rfl (fun K hK => ?_)
          have HKK := Lib.hid hK; clear hK
          simp only [putAll, Act.put, List.setIfInBounds_toArray, List.set_cons_zero, List.set_cons_succ]
          go_simp
          exact HKK.out _ _ ⟨_, by simp only [putAll, Act.put, List.setIfInBounds_toArray, List.set_cons_zero, List.set_cons_succ] <;> rfl, fun _ => rfl, h1, h2, h3, h4, h5, h6, h7, h8, h9, h10, h11, h12, h13, h14, hB, hF, hG, hE13_12, hE12_6, hE6_3, hE12_11, hE11_9, hW3, hW9, hW13⟩
        · obtain rfl := Option.some.inj hi
          clear hi hil
          refine wpOp_step rfl (fun K hK => ?_)
          have HKK := Lib.hid hK; clear hK
          simp only [putAll, Act.put, List.setIfInBounds_toArray, List.set_cons_zero, List.set_cons_succ]
          go_simp
          exact HKK.out _ _ ⟨_, by simp only [putAll, Act.put, List.setIfInBounds_toArray, List.set_cons_zero, List.set_cons_succ] <;> rfl, h0, fun _ => rfl, h2, h3, h4, h5, h6, h7, h8, h9, h10, h11, h12, h13, h14, hB, hF, hG, hE13_12, hE12_6, hE6_3, hE12_11, hE11_9, hW3, hW9, hW13⟩
        · obtain rfl := Option.some.inj hi
          clear hi hil
          have d1 := h1 (hall ⟨1, .data⟩ (by simp) rfl)
          refine wpOp_step rfl (fun K hK => ?_)
          have HKK := Lib.hid hK; clear hK
          simp only [putAll, Act.put, List.setIfInBounds_toArray, List.set_cons_zero, List.set_cons_succ]
          go_simp
          exact HKK.out _ _ ⟨_, by simp only [putAll, Act.put, List.setIfInBounds_toArray, List.set_cons_zero, List.set_cons_succ, d1] <;> rfl, h0, h1, fun _ => rfl, h3, h4, h5, h6, h7, h8, h9, h10, h11, h12, h13, h14, hB, hF, hG, hE13_12, hE12_6, hE6_3, hE12_11, hE11_9, hW3, hW9, hW13⟩
        · obtain rfl := Option.some.inj hi
          clear hi hil
          have hap : b' 15 = false := by
            cases hz : b' 15 with
            | false => rfl
            | true => exact absurd (hW3 hz) (by rw [hun]; decide)
          have d2 := h2 (hall ⟨2, .data⟩ (by simp) rfl)
          have ck := ((hF hap).out.1.ck hlt).trans (by rw [upto_at])
          refine wpOp_step rfl (fun K hK => ?_)
          have HKK := Lib.hid hK; clear hK
          simp only [putAll, Act.put, List.setIfInBounds_toArray, List.set_cons_zero, List.set_cons_succ]
          go_simp
          exact HKK.out _ _ ⟨_, by simp only [putAll, Act.put, List.setIfInBounds_toArray, List.set_cons_zero, List.set_cons_succ, d2] <;> rfl, h0, h1, h2, fun _ => rfl, h4, h5, h6, h7, h8, h9, h10, h11, h12, h13, h14, hB, hF, hG, hE13_12, hE12_6, fun _ => rfl, hE12_11, hE11_9, fun _ => rfl, hW9, hW13⟩
        · obtain rfl := Option.some.inj hi
          clear hi hil
          refine wpOp_step rfl (fun K hK => ?_)
          have HKK := Lib.hid hK; clear hK
          simp only [putAll, Act.put, List.setIfInBounds_toArray, List.set_cons_zero, List.set_cons_succ]
          go_simp
          exact HKK.out _ _ ⟨_, by simp only [putAll, Act.put, List.setIfInBounds_toArray, List.set_cons_zero, List.set_cons_succ] <;> rfl, h0, h1, h2, h3, fun _ => rfl, h5, h6, h7, h8, h9, h10, h11, h12, h13, h14, hB, hF, hG, hE13_12, hE12_6, hE6_3, hE12_11, hE11_9, hW3, hW9, hW13⟩
        · obtain rfl := Option.some.inj hi
          clear hi hil
          have d4 := h4 (hall ⟨4, .data⟩ (by simp) rfl)
          refine wpOp_step rfl (fun K hK => ?_)
          have HKK := Lib.hid hK; clear hK
          simp only [putAll, Act.put, List.setIfInBounds_toArray, List.set_cons_zero, List.set_cons_succ]
          go_simp
          exact HKK.out _ _ ⟨_, by simp only [putAll, Act.put, List.setIfInBounds_toArray, List.set_cons_zero, List.set_cons_succ, d4, E1.out] <;> rfl, h0, h1, h2, h3, h4, fun _ => rfl, h6, h7, h8, h9, h10, h11, h12, h13, h14, hB, hF, hG, hE13_12, hE12_6, hE6_3, hE12_11, hE11_9, hW3, hW9, hW13⟩
        · obtain rfl := Option.some.inj hi
          clear hi hil
          have d3 := h3 (hall ⟨3, .data⟩ (by simp) rfl)
          have d5 := h5 (hall ⟨5, .data⟩ (by simp) rfl)
          refine wpOp_step rfl (fun K hK => ?_)
          have HKK := Lib.hid hK; clear hK
          simp only [putAll, Act.put, List.setIfInBounds_toArray, List.set_cons_zero, List.set_cons_succ]
          go_simp
          exact HKK.out _ _ ⟨_, by simp only [putAll, Act.put, List.setIfInBounds_toArray, List.set_cons_zero, List.set_cons_succ, d3, d5, E2.out] <;> rfl, h0, h1, h2, h3, h4, h5, fun _ => rfl, h7, h8, h9, h10, h11, h12, h13, h14, hB, hF, hG, hE13_12, fun _ => rfl, fun _ => hall ⟨3, .data⟩ (by simp) rfl, hE12_11, hE11_9, hW3, hW9, hW13⟩
        · obtain rfl := Option.some.inj hi
          clear hi hil
          refine wpOp_step rfl (fun K hK => ?_)
          have HKK := Lib.hid hK; clear hK
          simp only [putAll, Act.put, List.setIfInBounds_toArray, List.set_cons_zero, List.set_cons_succ]
          go_simp
          exact HKK.out _ _ ⟨_, by simp only [putAll, Act.put, List.setIfInBounds_toArray, List.set_cons_zero, List.set_cons_succ] <;> rfl, h0, h1, h2, h3, h4, h5, h6, fun _ => rfl, h8, h9, h10, h11, h12, h13, h14, hB, hF, hG, hE13_12, hE12_6, hE6_3, hE12_11, hE11_9, hW3, hW9, hW13⟩
        · obtain rfl := Option.some.inj hi
          clear hi hil
          have d7 := h7 (hall ⟨7, .data⟩ (by simp) rfl)
          refine wpOp_step rfl (fun K hK => ?_)
          have HKK := Lib.hid hK; clear hK
          simp only [putAll, Act.put, List.setIfInBounds_toArray, List.set_cons_zero, List.set_cons_succ]
          go_simp
          exact HKK.out _ _ ⟨_, by simp only [putAll, Act.put, List.setIfInBounds_toArray, List.set_cons_zero, List.set_cons_succ, d7] <;> rfl, h0, h1, h2, h3, h4, h5, h6, h7, fun _ => rfl, h9, h10, h11, h12, h13, h14, hB, hF, hG, hE13_12, hE12_6, hE6_3, hE12_11, hE11_9, hW3, hW9, hW13⟩
        · obtain rfl := Option.some.inj hi
          clear hi hil
          have hap : b' 15 = false := by
            cases hz : b' 15 with
            | false => rfl
            | true => exact absurd (hW9 hz) (by rw [hun]; decide)
          have d8 := h8 (hall ⟨8, .data⟩ (by simp) rfl)
          have dk := (hF hap).out.2.1.ck hlt
          refine wpOp_step rfl (fun K hK => ?_)
          have HKK := Lib.hid hK; clear hK
          simp only [putAll, Act.put, List.setIfInBounds_toArray, List.set_cons_zero, List.set_cons_succ]
          go_simp
          exact HKK.out _ _ ⟨_, by simp only [putAll, Act.put, List.setIfInBounds_toArray, List.set_cons_zero, List.set_cons_succ, d8] <;> rfl, h0, h1, h2, h3, h4, h5, h6, h7, h8, fun _ => rfl, h10, h11, h12, h13, h14, hB, hF, hG, hE13_12, hE12_6, hE6_3, hE12_11, fun _ => rfl, hW3, fun _ => rfl, hW13⟩
        · obtain rfl := Option.some.inj hi
          clear hi hil
          refine wpOp_step rfl (fun K hK => ?_)
          have HKK := Lib.hid hK; clear hK
          simp only [putAll, Act.put, List.setIfInBounds_toArray, List.set_cons_zero, List.set_cons_succ]
          go_simp
          exact HKK.out _ _ ⟨_, by simp only [putAll, Act.put, List.setIfInBounds_toArray, List.set_cons_zero, List.set_cons_succ] <;> rfl, h0, h1, h2, h3, h4, h5, h6, h7, h8, h9, fun _ => rfl, h11, h12, h13, h14, hB, hF, hG, hE13_12, hE12_6, hE6_3, hE12_11, hE11_9, hW3, hW9, hW13⟩
        · obtain rfl := Option.some.inj hi
          clear hi hil
          have d9 := h9 (hall ⟨9, .data⟩ (by simp) rfl)
          have d10 := h10 (hall ⟨10, .data⟩ (by simp) rfl)
          refine wpOp_step rfl (fun K hK => ?_)
          have HKK := Lib.hid hK; clear hK
          simp only [putAll, Act.put, List.setIfInBounds_toArray, List.set_cons_zero, List.set_cons_succ]
          go_simp
          exact HKK.out _ _ ⟨_, by simp only [putAll, Act.put, List.setIfInBounds_toArray, List.set_cons_zero, List.set_cons_succ, d9, d10, E3.out] <;> rfl, h0, h1, h2, h3, h4, h5, h6, h7, h8, h9, h10, fun _ => rfl, h12, h13, h14, hB, hF, hG, hE13_12, hE12_6, hE6_3, fun _ => rfl, fun _ => hall ⟨9, .data⟩ (by simp) rfl, hW3, hW9, hW13⟩
        · obtain rfl := Option.some.inj hi
          clear hi hil
          have d6 := h6 (hall ⟨6, .data⟩ (by simp) rfl)
          have d11 := h11 (hall ⟨11, .data⟩ (by simp) rfl)
          refine wpOp_step rfl (fun K hK => ?_)
          have HKK := Lib.hid hK; clear hK
          simp only [putAll, Act.put, List.setIfInBounds_toArray, List.set_cons_zero, List.set_cons_succ]
          go_simp
          exact HKK.out _ _ ⟨_, by simp only [putAll, Act.put, List.setIfInBounds_toArray, List.set_cons_zero, List.set_cons_succ, d6, d11, E4.out] <;> rfl, h0, h1, h2, h3, h4, h5, h6, h7, h8, h9, h10, h11, fun _ => rfl, h13, h14, hB, hF, hG, fun _ => rfl, fun _ => hall ⟨6, .data⟩ (by simp) rfl, hE6_3, fun _ => hall ⟨11, .data⟩ (by simp) rfl, hE11_9, hW3, hW9, hW13⟩
        · obtain rfl := Option.some.inj hi
          clear hi hil
          have hap : b' 15 = false := by
            cases hz : b' 15 with
            | false => rfl
            | true => exact absurd (hW13 hz) (by rw [hun]; decide)
          have d12 := h12 (hall ⟨12, .data⟩ (by simp) rfl)
          refine wpOp_step rfl (fun K hK => ?_)
          have HKK := Lib.hid hK; clear hK
          simp only [putAll, Act.put, List.setIfInBounds_toArray, List.set_cons_zero, List.set_cons_succ]
          go_simp
          refine (HO.out _).mono ?_
          rintro e w2 ⟨rfl, rfl⟩
          exact HKK.out _ _ ⟨_, by simp only [putAll, Act.put, List.setIfInBounds_toArray, List.set_cons_zero, List.set_cons_succ, d12] <;> rfl, h0, h1, h2, h3, h4, h5, h6, h7, h8, h9, h10, h11, h12, fun _ => rfl, h14, hB, hF, hG, fun _ => hall ⟨12, .data⟩ (by simp) rfl, hE12_6, hE6_3, hE12_11, hE11_9, hW3, hW9, fun _ => rfl⟩
        · obtain rfl := Option.some.inj hi
          clear hi hil
          have d0 := h0 (hall ⟨0, .data⟩ (by simp) rfl)
          refine wpOp_step rfl (fun K hK => ?_)
          have HKK := Lib.hid hK; clear hK
          simp only [putAll, Act.put, List.setIfInBounds_toArray, List.set_cons_zero, List.set_cons_succ]
          go_simp
          exact HKK.out _ _ ⟨_, by simp only [putAll, Act.put, List.setIfInBounds_toArray, List.set_cons_zero, List.set_cons_succ, d0] <;> rfl, h0, h1, h2, h3, h4, h5, h6, h7, h8, h9, h10, h11, h12, h13, fun _ => rfl, hB, hF, hG, hE13_12, hE12_6, hE6_3, hE12_11, hE11_9, hW3, hW9, hW13⟩
        · obtain rfl := Option.some.inj hi
          clear hi hil
          have hap : b' 15 = false := hun
          have d14 := h14 (hall ⟨14, .data⟩ (by simp) rfl)
          have d13 := h13 (hall ⟨13, .data⟩ (by simp) rfl)
          have k4 := (hF hap).out.1
          have ck := (k4.ck hlt).trans (by rw [upto_at])
          have f0 := k4.free k
          have lg := k4.lt
          clear k4
          refine wpOp_step rfl (fun K hK => ?_)
          have HKK := Lib.hid hK; clear hK
          simp only [putAll, Act.put, List.setIfInBounds_toArray, List.set_cons_zero, List.set_cons_succ]
          go_simp
          exact HKK.out _ _ ⟨undef, by simp only [putAll, Act.put, List.setIfInBounds_toArray, List.set_cons_zero, List.set_cons_succ, d14, d13] <;> rfl, h0, h1, h2, h3, h4, h5, h6, h7, h8, h9, h10, h11, h12, h13, h14, fun h => Bool.noConfusion h, fun h => Bool.noConfusion h, fun _ => Lib.hid (⟨(hB hap).out.1.setCell (by simp) _, (hF hap).out.1.set k _, (hF hap).out.2.1.other _ _ (by simp), (hF hap).out.2.2.other _ _ (by simp; omega)⟩), hE13_12, hE12_6, hE6_3, hE12_11, hE11_9, fun _ => hE6_3 (hE12_6 (hE13_12 (hall ⟨13, .data⟩ (by simp) rfl))), fun _ => hE11_9 (hE12_11 (hE13_12 (hall ⟨13, .data⟩ (by simp) rfl))), fun _ => hall ⟨13, .data⟩ (by simp) rfl⟩
        · omega
      · rintro b' vs w2 hall ⟨h0, h1, h2, h3, h4, h5, h6, h7, h8, h9, h10, h11, h12, h13, h14, hB, hF, hG, hE13_12, hE12_6, hE6_3, hE12_11, hE11_9, hW3, hW9, hW13⟩
        have d0 := h0 (hall 0 (by simp))
        have d1 := h1 (hall 1 (by simp))
        have d2 := h2 (hall 2 (by simp))
        have d3 := h3 (hall 3 (by simp))
        have d4 := h4 (hall 4 (by simp))
        have d5 := h5 (hall 5 (by simp))
        have d6 := h6 (hall 6 (by simp))
        have d7 := h7 (hall 7 (by simp))
        have d8 := h8 (hall 8 (by simp))
        have d9 := h9 (hall 9 (by simp))
        have d10 := h10 (hall 10 (by simp))
        have d11 := h11 (hall 11 (by simp))
        have d12 := h12 (hall 12 (by simp))
        have d13 := h13 (hall 13 (by simp))
        have d14 := h14 (hall 14 (by simp))
        have GG := hG (hall 15 (by simp))
        simp only [putAll, Act.put, List.setIfInBounds_toArray, List.set_cons_zero, List.set_cons_succ, d0, d1, d2, d3, d4, d5, d6, d7, d8, d9, d10, d11, d12, d13, d14]
        clear hall h0 d0 h1 d1 h2 d2 h3 d3 h4 d4 h5 d5 h6 d6 h7 d7 h8 d8 h9 d9 h10 d10 h11 d11 h12 d12 h13 d13 h14 d14 hB hF hG hE13_12 hE12_6 hE6_3 hE12_11 hE11_9 hW3 hW9 hW13
        go_wp2_with fail
        refine ⟨⟨k + 1, by omega, by go_num, GG.out.1, ?_, GG.out.2.2⟩, by simp [intOf]; omega⟩
        rw [← upto_set64 _ _ hlt]
        exact GG.out.2.1
    · have hd : decide ((k : Int) < 4) = false := by simp; omega
      obtain rfl : k = 4 := by omega
      have hb4 := hw.out.2.1
      rw [upto_full64] at hb4
      have HB4 := Lib.hid hb4
      obtain ⟨c0, c1, c2, c3⟩ := HB4.out.c0
      obtain ⟨z0, z1, z2, z3⟩ := hw.out.2.2.2.c0
      have f0 := hw.out.2.2.2.free 0
      have f1 := hw.out.2.2.2.free 1
      have f2 := hw.out.2.2.2.free 2
      have f3 := hw.out.2.2.2.free 3
      have lg := hw.out.2.2.2.lt
      clear hb4
      go_wp2_with fail
      exact bodyPost_ret (results_col (.inl rfl) 6 rfl rfl (hw.out.2.2.2.set4 fun i => .int .i64 (mixC c d t i))) rfl ⟨rfl, below_four4 hw.out.1 (by omega) _ _ _ _⟩
end Go.Proofs.Ytcbldamlfjkppaa
