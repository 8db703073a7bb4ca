/- Layer 10: the document's Over. -/
import Derived.Test.YtoppmlfibllhlaaPd
namespace Go.Proofs.Ytoppmlfibllhlaa
open Go.RowKit
def overC (c d : Col) : Col := fun i => min (c i + ofI (255 - c 3) (d i)) 255
theorem over_ok {c d : Col} (hc : OkC c) (hd : OkC d) : OkC (overC c d) := fun i hi => by
  have h3 := hc 3 (by decide)
  obtain ⟨q0, _⟩ := ofI_in (a := 255 - c 3) (b := d i) (by omega) (by omega) (hd i hi).1 (hd i hi).2
  have := (hc i hi).1
  unfold overC
  omega
theorem set_set (f : Nat → Value) {k : Nat} (h : k < 4) (v u : Value) : ((four f).setIfInBounds k v).setIfInBounds k u = (four f).setIfInBounds k u := by
  rw [four_set _ h, four_set _ h, four_set _ h]
  refine four_congr fun i _ => ?_
  by_cases e : i = k
  · rw [if_pos e, if_pos e]
  · rw [if_neg e, if_neg e, if_neg e]
set_option maxHeartbeats 2000000 in
set_option maxRecDepth 100000 in
theorem refOver_c (c d : Col) (hc : OkC c) (hd : OkC d) (w : World) : Calls Try.prog 62 #[.agg #[.int .i64 (c 0), .int .i64 (c 1), .int .i64 (c 2), .int .i64 (c 3)], .agg #[.int .i64 (d 0), .int .i64 (d 1), .int .i64 (d 2), .int .i64 (d 3)]] w fun e w' => e = .returned (.agg #[.int .i64 (overC c d 0), .int .i64 (overC c d 1), .int .i64 (overC c d 2), .int .i64 (overC c d 3)]) ∧ Below w.heap.size w w' := by
  have HC := Lib.hid hc
  have HD := Lib.hid hd
  clear hc hd
  go_enter Try.func62, Try.ntmps62
  go_wp2_with fail
  go_loopw [5] (fun i wr => ∃ k : Nat, k ≤ 4 ∧ i = .int .i64 (k : Int) ∧ Hid (Below w.heap.size w wr ∧ Blk wr w.heap.size 43 (c64 c) ∧ Blk wr (w.heap.size + 1) 43 (c64 (upto k (overC c d) d)) ∧ Blk wr (w.heap.size + 1 + 1) 43 (four fun _ => .int .i64 0))) (fun i _ => 4 - (intOf i).toNat)
  case atStart =>
    refine ⟨0, by omega, rfl, (((Below.refl _ _).alloc (Nat.le_refl _) _).alloc (by simp) _).alloc (by simp; omega) _, ((Blk.new _ _ _).alloc _).alloc _, ?_, Blk.newAt _ _ _ (by simp)⟩
    rw [upto_none64]
    exact (Blk.newAt _ _ _ (by simp)).alloc _
  case round =>
    obtain ⟨k, hk, rfl, hw⟩ := hrel
    by_cases hlt : k < 4
    · have hd : decide ((k : Int) < 4) = true := by simp; omega
      have hki : (k : Int) < 4 := by omega
      have h3 := HC.out 3 (by decide)
      have hdk := HD.out k hlt
      have hck := HC.out k hlt
      obtain ⟨z, hz⟩ : ∃ z, 255 - c 3 = z := ⟨_, rfl⟩
      have HO : Hid (∀ w, Calls Try.prog 63 #[.int .i64 z, .int .i64 (d k)] w fun e w' => e = .returned (.int .i64 (ofI z (d k))) ∧ w = w') := refOf_c z (d k) (by omega) hdk
      obtain ⟨q0, q1⟩ := ofI_in (a := z) (b := d k) (by omega) (by omega) hdk.1 hdk.2
      obtain ⟨q, hq⟩ : ∃ q, ofI z (d k) = q := ⟨_, rfl⟩
      rw [hq] at HO q0 q1
      obtain ⟨s, hs⟩ : ∃ s, c k + q = s := ⟨_, rfl⟩
      have HV : Hid (overC c d k = min s 255) := by unfold Hid overC; rw [hz, hq, hs]
      have E1 : Hid (IntKind.i64.wrap (255 - c 3) = z) := by unfold Hid; rw [hz, wrap_is]; exact wrapR _ (by omega) (by omega)
      have E2 : Hid (IntKind.i64.wrap (c k + q) = s) := by unfold Hid; rw [hs, wrap_is]; exact wrapR _ (by omega) (by omega)
      have HS : Hid (0 ≤ s ∧ s ≤ 600) := ⟨by omega, by omega⟩
      clear h3 hdk hck hz q0 q1 hq hs
      go_wp2_with fail
      refine wp_region_put (by kernel_rfl) (by kernel_rfl) (by kernel_rfl) (fun b' vs w' => (b' 0 = true → vs 0 = .int .i64 (k : Int)) ∧ (b' 1 = true → vs 1 = .int .i64 (k : Int)) ∧ (b' 2 = true → vs 2 = .pointer (some ⟨w.heap.size, k, none⟩)) ∧ (b' 3 = true → vs 3 = .int .i64 (c k)) ∧ (b' 4 = true → vs 4 = .pointer (some ⟨w.heap.size, 3, none⟩)) ∧ (b' 5 = true → vs 5 = .int .i64 (c 3)) ∧ (b' 6 = true → vs 6 = .int .i64 z) ∧ (b' 7 = true → vs 7 = .int .i64 (k : Int)) ∧ (b' 8 = true → vs 8 = .pointer (some ⟨w.heap.size + 1, k, none⟩)) ∧ (b' 9 = true → vs 9 = .int .i64 (d k)) ∧ (b' 10 = true → vs 10 = .int .i64 q) ∧ (b' 11 = true → vs 11 = .int .i64 s) ∧ (b' 12 = true → vs 12 = .pointer (some ⟨w.heap.size + 1, k, none⟩)) ∧ (b' 13 = false → Hid (Below w.heap.size w w' ∧ w.heap.size ≤ w'.heap.size)) ∧ (b' 13 = false → Hid (Blk w' w.heap.size 43 (c64 c) ∧ Blk w' (w.heap.size + 1) 43 (c64 (upto k (overC c d) d)) ∧ Blk w' (w.heap.size + 1 + 1) 43 (four fun _ => .int .i64 0))) ∧ (b' 13 = true → Hid (Below w.heap.size w w' ∧ Blk w' w.heap.size 43 (c64 c) ∧ Blk w' (w.heap.size + 1) 43 ((c64 (upto k (overC c d) d)).setIfInBounds k (.int .i64 s)) ∧ Blk w' (w.heap.size + 1 + 1) 43 (four fun _ => .int .i64 0))) ∧ (b' 11 = true → b' 3 = true) ∧ (b' 11 = true → b' 10 = true) ∧ (b' 10 = true → b' 6 = true) ∧ (b' 6 = true → b' 5 = true) ∧ (b' 10 = true → b' 9 = true) ∧ (b' 13 = true → b' 3 = true) ∧ (b' 13 = true → b' 5 = true) ∧ (b' 13 = true → b' 9 = true) ∧ (b' 13 = true → b' 10 = true)) ?_ ?_ ?_
      · intro vs
        exact ⟨fun h => Bool.noConfusion h, fun h => Bool.noConfusion h, fun h => Bool.noConfusion h, fun h => Bool.noConfusion h, fun h => Bool.noConfusion h, fun h => Bool.noConfusion h, fun h => Bool.noConfusion h, fun h => Bool.noConfusion h, fun h => Bool.noConfusion h, fun h => Bool.noConfusion h, fun h => Bool.noConfusion h, fun h => Bool.noConfusion h, fun h => Bool.noConfusion h, fun _ => Lib.hid ⟨below_drewN hw.out.1 1, hw.out.1.size⟩, fun _ => Lib.hid ⟨hw.out.2.1.grow ⟨rfl, rfl, rfl, Nat.le_refl _, fun _ _ => rfl⟩, hw.out.2.2.1.grow ⟨rfl, rfl, rfl, Nat.le_refl _, fun _ _ => rfl⟩, hw.out.2.2.2.grow ⟨rfl, rfl, rfl, Nat.le_refl _, fun _ _ => rfl⟩⟩, fun h => Bool.noConfusion h, fun h => Bool.noConfusion h, fun h => Bool.noConfusion h, fun h => Bool.noConfusion h, fun h => Bool.noConfusion h, fun h => Bool.noConfusion h, fun h => Bool.noConfusion h, fun h => Bool.noConfusion h, fun h => Bool.noConfusion h, fun h => Bool.noConfusion h⟩
      · rintro b' vs w' i op hi hun hall ⟨h0, h1, h2, h3, h4, h5, h6, h7, h8, h9, h10, h11, h12, hB, hF, hG, hE11_3, hE11_10, hE10_6, hE6_5, hE10_9, hW3, hW5, hW9, hW10⟩
        have hil : i < 14 := (List.getElem?_eq_some_iff.1 hi).1
        rcases i with _ | _ | _ | _ | _ | _ | _ | _ | _ | _ | _ | _ | _ | _ | i
        · obtain rfl := Option.some.inj hi
          clear hi hil
          refine wpOp_step rfl (fun K hK => ?_)
          have HKK := Lib.hid hK; clear hK
          simp only [putAll, Act.put, List.setIfInBounds_toArray, List.set_cons_zero, List.set_cons_succ]
          go_simp
          exact HKK.out _ _ ⟨_, by simp only [putAll, Act.put, List.setIfInBounds_toArray, List.set_cons_zero, List.set_cons_succ] <;> rfl, fun _ => rfl, h1, h2, h3, h4, h5, h6, h7, h8, h9, h10, h11, h12, hB, hF, hG, hE11_3, hE11_10, hE10_6, hE6_5, hE10_9, hW3, hW5, hW9, hW10⟩
        · obtain rfl := Option.some.inj hi
          clear hi hil
          refine wpOp_step rfl (fun K hK => ?_)
          have HKK := Lib.hid hK; clear hK
          simp only [putAll, Act.put, List.setIfInBounds_toArray, List.set_cons_zero, List.set_cons_succ]
          go_simp
          exact HKK.out _ _ ⟨_, by simp only [putAll, Act.put, List.setIfInBounds_toArray, List.set_cons_zero, List.set_cons_succ] <;> rfl, h0, fun _ => rfl, h2, h3, h4, h5, h6, h7, h8, h9, h10, h11, h12, hB, hF, hG, hE11_3, hE11_10, hE10_6, hE6_5, hE10_9, hW3, hW5, hW9, hW10⟩
        · obtain rfl := Option.some.inj hi
          clear hi hil
          have d1 := h1 (hall ⟨1, .data⟩ (by simp) rfl)
          refine wpOp_step rfl (fun K hK => ?_)
          have HKK := Lib.hid hK; clear hK
          simp only [putAll, Act.put, List.setIfInBounds_toArray, List.set_cons_zero, List.set_cons_succ]
          go_simp
          exact HKK.out _ _ ⟨_, by simp only [putAll, Act.put, List.setIfInBounds_toArray, List.set_cons_zero, List.set_cons_succ, d1] <;> rfl, h0, h1, fun _ => rfl, h3, h4, h5, h6, h7, h8, h9, h10, h11, h12, hB, hF, hG, hE11_3, hE11_10, hE10_6, hE6_5, hE10_9, hW3, hW5, hW9, hW10⟩
        · obtain rfl := Option.some.inj hi
          clear hi hil
          have hap : b' 13 = false := by
            cases hz : b' 13 with
            | false => rfl
            | true => exact absurd (hW3 hz) (by rw [hun]; decide)
          have d2 := h2 (hall ⟨2, .data⟩ (by simp) rfl)
          have ck := (hF hap).out.1.ck hlt
          refine wpOp_step rfl (fun K hK => ?_)
          have HKK := Lib.hid hK; clear hK
          simp only [putAll, Act.put, List.setIfInBounds_toArray, List.set_cons_zero, List.set_cons_succ]
          go_simp
          exact HKK.out _ _ ⟨_, by simp only [putAll, Act.put, List.setIfInBounds_toArray, List.set_cons_zero, List.set_cons_succ, d2] <;> rfl, h0, h1, h2, fun _ => rfl, h4, h5, h6, h7, h8, h9, h10, h11, h12, hB, hF, hG, fun _ => rfl, hE11_10, hE10_6, hE6_5, hE10_9, fun _ => rfl, hW5, hW9, hW10⟩
        · obtain rfl := Option.some.inj hi
          clear hi hil
          refine wpOp_step rfl (fun K hK => ?_)
          have HKK := Lib.hid hK; clear hK
          simp only [putAll, Act.put, List.setIfInBounds_toArray, List.set_cons_zero, List.set_cons_succ]
          go_simp
          exact HKK.out _ _ ⟨_, by simp only [putAll, Act.put, List.setIfInBounds_toArray, List.set_cons_zero, List.set_cons_succ] <;> rfl, h0, h1, h2, h3, fun _ => rfl, h5, h6, h7, h8, h9, h10, h11, h12, hB, hF, hG, hE11_3, hE11_10, hE10_6, hE6_5, hE10_9, hW3, hW5, hW9, hW10⟩
        · obtain rfl := Option.some.inj hi
          clear hi hil
          have hap : b' 13 = false := by
            cases hz : b' 13 with
            | false => rfl
            | true => exact absurd (hW5 hz) (by rw [hun]; decide)
          have d4 := h4 (hall ⟨4, .data⟩ (by simp) rfl)
          have c3 := (hF hap).out.1.c0.2.2.2
          refine wpOp_step rfl (fun K hK => ?_)
          have HKK := Lib.hid hK; clear hK
          simp only [putAll, Act.put, List.setIfInBounds_toArray, List.set_cons_zero, List.set_cons_succ]
          go_simp
          exact HKK.out _ _ ⟨_, by simp only [putAll, Act.put, List.setIfInBounds_toArray, List.set_cons_zero, List.set_cons_succ, d4] <;> rfl, h0, h1, h2, h3, h4, fun _ => rfl, h6, h7, h8, h9, h10, h11, h12, hB, hF, hG, hE11_3, hE11_10, hE10_6, fun _ => rfl, hE10_9, hW3, fun _ => rfl, hW9, hW10⟩
        · obtain rfl := Option.some.inj hi
          clear hi hil
          have d5 := h5 (hall ⟨5, .data⟩ (by simp) rfl)
          refine wpOp_step rfl (fun K hK => ?_)
          have HKK := Lib.hid hK; clear hK
          simp only [putAll, Act.put, List.setIfInBounds_toArray, List.set_cons_zero, List.set_cons_succ]
          go_simp
          exact HKK.out _ _ ⟨_, by simp only [putAll, Act.put, List.setIfInBounds_toArray, List.set_cons_zero, List.set_cons_succ, d5, E1.out] <;> rfl, h0, h1, h2, h3, h4, h5, fun _ => rfl, h7, h8, h9, h10, h11, h12, hB, hF, hG, hE11_3, hE11_10, fun _ => rfl, fun _ => hall ⟨5, .data⟩ (by simp) rfl, hE10_9, hW3, hW5, hW9, hW10⟩
        · obtain rfl := Option.some.inj hi
          clear hi hil
          refine wpOp_step rfl (fun K hK => ?_)
          have HKK := Lib.hid hK; clear hK
          simp only [putAll, Act.put, List.setIfInBounds_toArray, List.set_cons_zero, List.set_cons_succ]
          go_simp
          exact HKK.out _ _ ⟨_, by simp only [putAll, Act.put, List.setIfInBounds_toArray, List.set_cons_zero, List.set_cons_succ] <;> rfl, h0, h1, h2, h3, h4, h5, h6, fun _ => rfl, h8, h9, h10, h11, h12, hB, hF, hG, hE11_3, hE11_10, hE10_6, hE6_5, hE10_9, hW3, hW5, hW9, hW10⟩
        · obtain rfl := Option.some.inj hi
          clear hi hil
          have d7 := h7 (hall ⟨7, .data⟩ (by simp) rfl)
          refine wpOp_step rfl (fun K hK => ?_)
          have HKK := Lib.hid hK; clear hK
          simp only [putAll, Act.put, List.setIfInBounds_toArray, List.set_cons_zero, List.set_cons_succ]
          go_simp
          exact HKK.out _ _ ⟨_, by simp only [putAll, Act.put, List.setIfInBounds_toArray, List.set_cons_zero, List.set_cons_succ, d7] <;> rfl, h0, h1, h2, h3, h4, h5, h6, h7, fun _ => rfl, h9, h10, h11, h12, hB, hF, hG, hE11_3, hE11_10, hE10_6, hE6_5, hE10_9, hW3, hW5, hW9, hW10⟩
        · obtain rfl := Option.some.inj hi
          clear hi hil
          have hap : b' 13 = false := by
            cases hz : b' 13 with
            | false => rfl
            | true => exact absurd (hW9 hz) (by rw [hun]; decide)
          have d8 := h8 (hall ⟨8, .data⟩ (by simp) rfl)
          have dk := ((hF hap).out.2.1.ck hlt).trans (by rw [upto_at])
          refine wpOp_step rfl (fun K hK => ?_)
          have HKK := Lib.hid hK; clear hK
          simp only [putAll, Act.put, List.setIfInBounds_toArray, List.set_cons_zero, List.set_cons_succ]
          go_simp
          exact HKK.out _ _ ⟨_, by simp only [putAll, Act.put, List.setIfInBounds_toArray, List.set_cons_zero, List.set_cons_succ, d8] <;> rfl, h0, h1, h2, h3, h4, h5, h6, h7, h8, fun _ => rfl, h10, h11, h12, hB, hF, hG, hE11_3, hE11_10, hE10_6, hE6_5, fun _ => rfl, hW3, hW5, fun _ => rfl, hW10⟩
        · obtain rfl := Option.some.inj hi
          clear hi hil
          have hap : b' 13 = false := by
            cases hz : b' 13 with
            | false => rfl
            | true => exact absurd (hW10 hz) (by rw [hun]; decide)
          have d6 := h6 (hall ⟨6, .data⟩ (by simp) rfl)
          have d9 := h9 (hall ⟨9, .data⟩ (by simp) rfl)
          refine wpOp_step rfl (fun K hK => ?_)
          have HKK := Lib.hid hK; clear hK
          simp only [putAll, Act.put, List.setIfInBounds_toArray, List.set_cons_zero, List.set_cons_succ]
          go_simp
          refine (HO.out _).mono ?_
          rintro e w2 ⟨rfl, rfl⟩
          exact HKK.out _ _ ⟨_, by simp only [putAll, Act.put, List.setIfInBounds_toArray, List.set_cons_zero, List.set_cons_succ, d6, d9] <;> rfl, h0, h1, h2, h3, h4, h5, h6, h7, h8, h9, fun _ => rfl, h11, h12, hB, hF, hG, hE11_3, fun _ => rfl, fun _ => hall ⟨6, .data⟩ (by simp) rfl, hE6_5, fun _ => hall ⟨9, .data⟩ (by simp) rfl, hW3, hW5, hW9, fun _ => rfl⟩
        · obtain rfl := Option.some.inj hi
          clear hi hil
          have d3 := h3 (hall ⟨3, .data⟩ (by simp) rfl)
          have d10 := h10 (hall ⟨10, .data⟩ (by simp) rfl)
          refine wpOp_step rfl (fun K hK => ?_)
          have HKK := Lib.hid hK; clear hK
          simp only [putAll, Act.put, List.setIfInBounds_toArray, List.set_cons_zero, List.set_cons_succ]
          go_simp
          exact HKK.out _ _ ⟨_, by simp only [putAll, Act.put, List.setIfInBounds_toArray, List.set_cons_zero, List.set_cons_succ, d3, d10, E2.out] <;> rfl, h0, h1, h2, h3, h4, h5, h6, h7, h8, h9, h10, fun _ => rfl, h12, hB, hF, hG, fun _ => hall ⟨3, .data⟩ (by simp) rfl, fun _ => hall ⟨10, .data⟩ (by simp) rfl, hE10_6, hE6_5, hE10_9, hW3, hW5, hW9, hW10⟩
        · obtain rfl := Option.some.inj hi
          clear hi hil
          have d0 := h0 (hall ⟨0, .data⟩ (by simp) rfl)
          refine wpOp_step rfl (fun K hK => ?_)
          have HKK := Lib.hid hK; clear hK
          simp only [putAll, Act.put, List.setIfInBounds_toArray, List.set_cons_zero, List.set_cons_succ]
          go_simp
          exact HKK.out _ _ ⟨_, by simp only [putAll, Act.put, List.setIfInBounds_toArray, List.set_cons_zero, List.set_cons_succ, d0] <;> rfl, h0, h1, h2, h3, h4, h5, h6, h7, h8, h9, h10, h11, fun _ => rfl, hB, hF, hG, hE11_3, hE11_10, hE10_6, hE6_5, hE10_9, hW3, hW5, hW9, hW10⟩
        · obtain rfl := Option.some.inj hi
          clear hi hil
          have hap : b' 13 = false := hun
          have d12 := h12 (hall ⟨12, .data⟩ (by simp) rfl)
          have d11 := h11 (hall ⟨11, .data⟩ (by simp) rfl)
          have k4 := (hF hap).out.2.1
          have ck := (k4.ck hlt).trans (by rw [upto_at])
          have f0 := k4.free k
          have lg := k4.lt
          clear k4
          refine wpOp_step rfl (fun K hK => ?_)
          have HKK := Lib.hid hK; clear hK
          simp only [putAll, Act.put, List.setIfInBounds_toArray, List.set_cons_zero, List.set_cons_succ]
          go_simp
          exact HKK.out _ _ ⟨undef, by simp only [putAll, Act.put, List.setIfInBounds_toArray, List.set_cons_zero, List.set_cons_succ, d12, d11] <;> rfl, h0, h1, h2, h3, h4, h5, h6, h7, h8, h9, h10, h11, h12, fun h => Bool.noConfusion h, fun h => Bool.noConfusion h, fun _ => Lib.hid (⟨(hB hap).out.1.setCell (by simp) _, (hF hap).out.1.other _ _ (by simp), (hF hap).out.2.1.set k _, (hF hap).out.2.2.other _ _ (by simp)⟩), hE11_3, hE11_10, hE10_6, hE6_5, hE10_9, fun _ => hE11_3 (hall ⟨11, .data⟩ (by simp) rfl), fun _ => hE6_5 (hE10_6 (hE11_10 (hall ⟨11, .data⟩ (by simp) rfl))), fun _ => hE10_9 (hE11_10 (hall ⟨11, .data⟩ (by simp) rfl)), fun _ => hE11_10 (hall ⟨11, .data⟩ (by simp) rfl)⟩
        · omega
      · rintro b' vs w2 hall ⟨h0, h1, h2, h3, h4, h5, h6, h7, h8, h9, h10, h11, h12, hB, hF, hG, hE11_3, hE11_10, hE10_6, hE6_5, hE10_9, hW3, hW5, hW9, hW10⟩
        have d0 := h0 (hall 0 (by simp))
        have d1 := h1 (hall 1 (by simp))
        have d2 := h2 (hall 2 (by simp))
        have d3 := h3 (hall 3 (by simp))
        have d4 := h4 (hall 4 (by simp))
        have d5 := h5 (hall 5 (by simp))
        have d6 := h6 (hall 6 (by simp))
        have d7 := h7 (hall 7 (by simp))
        have d8 := h8 (hall 8 (by simp))
        have d9 := h9 (hall 9 (by simp))
        have d10 := h10 (hall 10 (by simp))
        have d11 := h11 (hall 11 (by simp))
        have d12 := h12 (hall 12 (by simp))
        have GG := hG (hall 13 (by simp))
        simp only [putAll, Act.put, List.setIfInBounds_toArray, List.set_cons_zero, List.set_cons_succ, d0, d1, d2, d3, d4, d5, d6, d7, d8, d9, d10, d11, d12]
        clear hall h0 d0 h1 d1 h2 d2 h3 d3 h4 d4 h5 d5 h6 d6 h7 d7 h8 d8 h9 d9 h10 d10 h11 d11 h12 d12 hB hF hG hE11_3 hE11_10 hE10_6 hE6_5 hE10_9 hW3 hW5 hW9 hW10
        have G2 : Hid (Blk w2 (w.heap.size + 1) 43 ((c64 (upto k (overC c d) d)).setIfInBounds k (.int .i64 s))) := GG.out.2.2.1
        have dk : w2.cell? ⟨w.heap.size + 1, k, none⟩ = some (.int .i64 s) := by
          have h := G2.out
          rw [four_set _ hlt] at h
          exact (h.ck hlt).trans (by rw [if_pos rfl])
        have f0 := G2.out.free k
        have lg := G2.out.lt
        have hs := HS.out
        by_cases hgt : s > 255
        · have hdg : decide (s > 255) = true := by simp; omega
          clear hs
          go_wp2_with fail
          refine ⟨⟨k + 1, by omega, by go_num, GG.out.1.setCell (by simp) _, GG.out.2.1.other _ _ (by simp), ?_, GG.out.2.2.2.other _ _ (by simp)⟩, by simp [intOf]; omega⟩
          rw [← upto_set64 _ _ hlt, ← set_set _ hlt (.int .i64 s), show overC c d k = 255 by rw [HV.out]; omega]
          exact G2.out.set k _
        · have hdg : decide (s > 255) = false := by simp; omega
          clear hs
          go_wp2_with fail
          refine ⟨⟨k + 1, by omega, by go_num, GG.out.1, GG.out.2.1, ?_, GG.out.2.2.2⟩, by simp [intOf]; omega⟩
          rw [← upto_set64 _ _ hlt, show overC c d k = s by rw [HV.out]; omega]
          exact G2.out
    · have hd : decide ((k : Int) < 4) = false := by simp; omega
      obtain rfl : k = 4 := by omega
      have hb4 := hw.out.2.2.1
      rw [upto_full64] at hb4
      have HB4 := Lib.hid hb4
      obtain ⟨c0, c1, c2, c3⟩ := HB4.out.c0
      obtain ⟨z0, z1, z2, z3⟩ := hw.out.2.2.2.c0
      have f0 := hw.out.2.2.2.free 0
      have f1 := hw.out.2.2.2.free 1
      have f2 := hw.out.2.2.2.free 2
      have f3 := hw.out.2.2.2.free 3
      have lg := hw.out.2.2.2.lt
      clear hb4
      go_wp2_with fail
      exact bodyPost_ret (results_col (.inl rfl) 4 rfl rfl (hw.out.2.2.2.set4 fun i => .int .i64 (overC c d i))) rfl ⟨rfl, below_four4 hw.out.1 (by omega) _ _ _ _⟩
end Go.Proofs.Ytoppmlfibllhlaa

