/- Layer 7: the document's discs. -/
import Derived.Test.YtdidbejinfkhbaaDoorSj
namespace Go.Proofs.YtdidbejinfkhbaaDoor
open Go.RowKit
set_option maxHeartbeats 4000000 in
set_option maxRecDepth 100000 in
theorem rdisc_c (c : Pt) (h : Int) (hc : mid62 c) (hh : 1 ≤ h ∧ h ≤ 32768) (w : World) :
    Calls Tryd.prog 11 #[.agg #[.int .i64 c.1, .int .i64 c.2], .int .i64 h] w fun e w' => ∃ v, e = .returned v ∧ Own w' w.heap.size 32 v (discI c h) ∧ Below w.heap.size w w' := by
  have HH := Lib.hid hh
  have HC := Lib.hid hc
  clear hh hc
  go_enter Tryd.func11, Tryd.ntmps11
  go_wp2_with fail
  have S3 : Hid (Below w.heap.size w (w.alloc (.cells #[.int .i64 c.1, .int .i64 c.2] 32)) ∧ Blk (w.alloc (.cells #[.int .i64 c.1, .int .i64 c.2] 32)) w.heap.size 32 (two c)) := ⟨(Below.refl _ _).alloc (Nat.le_refl _) _, Blk.new _ _ _⟩
  go_loopw [5, 6] (fun x i wr => ∃ k : Nat, k ≤ 16 ∧ i = .int .i64 k ∧ Hid (Below w.heap.size w wr ∧ Blk wr w.heap.size 32 (two c) ∧ w.heap.size + 1 ≤ wr.heap.size ∧ Own wr (w.heap.size + 1) 32 x ((discI c h).take k))) (fun _ i _ => 16 - (intOf i).toNat)
  case atStart => exact ⟨0, by omega, rfl, S3.out.1, S3.out.2, by simp, Own.nil _ _ _⟩
  case round =>
    obtain ⟨k, hk, rfl, hw⟩ := hrel
    by_cases hlt : k < 16
    · have hd : decide ((k : Int) < 16) = true := by simp; omega
      have HK16 := Lib.hid hlt
      have hb1 := cosQ HH.out k
      have hb2 := cosQ HH.out (k + 12)
      have hdb := disc_bound HH.out k
      have hcm := HC.out
      have hhh := HH.out
      unfold mid62 at hcm
      have HE1 : Hid (IntKind.i64.wrap (cosI k * h) = cosI k * h) := (wrap_is _).trans (wrapR _ (by omega) (by omega))
      have HE2 : Hid (IntKind.i64.wrap (cosI (k + 12) * h) = cosI (k + 12) * h) := (wrap_is _).trans (wrapR _ (by omega) (by omega))
      have HE3 : Hid (IntKind.i64.wrap ((k : Int) + 12) = ((k + 12 : Nat) : Int)) := (wrap_is _).trans ((wrapR _ (by omega) (by omega)).trans (by omega))
      have HE4 : Hid (IntKind.i64.wrap (c.1 + (discQ h k).1) = (discP c h k).1) := (wrap_is _).trans (wrapR _ (by omega) (by omega))
      have HE5 : Hid (IntKind.i64.wrap (c.2 + (discQ h k).2) = (discP c h k).2) := (wrap_is _).trans (wrapR _ (by omega) (by omega))
      have HQ1 : Hid (∀ w, Calls Tryd.prog 33 #[.int .i64 (cosI k * h), .int .i64 65536] w fun e w' => e = .returned (.int .i64 (discQ h k).1) ∧ w = w') := Lib.hid fun w => round7_c _ _ (by omega) (by omega) (by decide) (by decide) w
      have HQ2 : Hid (∀ w, Calls Tryd.prog 33 #[.int .i64 (cosI (k + 12) * h), .int .i64 65536] w fun e w' => e = .returned (.int .i64 (discQ h k).2) ∧ w = w') := Lib.hid fun w => round7_c _ _ (by omega) (by omega) (by decide) (by decide) w
      clear hb1 hb2 hk hlt hdb hcm hhh
      go_wp2_with fail
      refine wp_region_put2 (by kernel_rfl) (by kernel_rfl) (by kernel_rfl) (fun b' vs w' => (b' 0 = true → vs 0 = u5) ∧ (b' 1 = true → vs 1 = .pointer (some ⟨w.heap.size, 0, none⟩)) ∧ (b' 2 = true → vs 2 = .int .i64 c.1) ∧ (b' 3 = true → vs 3 = .int .i64 (k : Int)) ∧ (b' 4 = true → vs 4 = .int .i64 (cosI k)) ∧ (b' 5 = true → vs 5 = .int .i64 h) ∧ (b' 6 = true → vs 6 = .int .i64 (cosI k * h)) ∧ (b' 7 = true → vs 7 = .int .i64 (discQ h k).1) ∧ (b' 8 = true → vs 8 = .int .i64 (discP c h k).1) ∧ (b' 9 = true → vs 9 = .pointer (some ⟨w.heap.size, 1, none⟩)) ∧ (b' 10 = true → vs 10 = .int .i64 c.2) ∧ (b' 11 = true → vs 11 = .int .i64 (k : Int)) ∧ (b' 12 = true → vs 12 = .int .i64 ((k + 12 : Nat) : Int)) ∧ (b' 13 = true → vs 13 = .int .i64 (cosI (k + 12))) ∧ (b' 14 = true → vs 14 = .int .i64 h) ∧ (b' 15 = true → vs 15 = .int .i64 (cosI (k + 12) * h)) ∧ (b' 16 = true → vs 16 = .int .i64 (discQ h k).2) ∧ (b' 17 = true → vs 17 = .int .i64 (discP c h k).2) ∧ (b' 18 = true → vs 18 = .agg #[.int .i64 (discP c h k).1, .int .i64 (discP c h k).2]) ∧ (b' 19 = true → b' 20 = false → Hid (Own w' w.heap.size 32 (vs 19) [discP c h k])) ∧ (b' 20 = false → Hid (Below w.heap.size w w' ∧ w.heap.size ≤ w'.heap.size)) ∧ (b' 20 = false → Hid (Blk w' w.heap.size 32 (two c) ∧ w.heap.size + 1 ≤ w'.heap.size ∧ Own w' (w.heap.size + 1) 32 u5 ((discI c h).take k))) ∧ (b' 20 = true → Hid (Below w.heap.size w w' ∧ Blk w' w.heap.size 32 (two c) ∧ w.heap.size + 1 ≤ w'.heap.size ∧ Own w' (w.heap.size + 1) 32 (vs 20) ((discI c h).take (k + 1)))) ∧ (b' 19 = true → b' 18 = true) ∧ (b' 18 = true → b' 8 = true) ∧ (b' 8 = true → b' 2 = true) ∧ (b' 8 = true → b' 7 = true) ∧ (b' 7 = true → b' 6 = true) ∧ (b' 6 = true → b' 4 = true) ∧ (b' 18 = true → b' 17 = true) ∧ (b' 17 = true → b' 10 = true) ∧ (b' 17 = true → b' 16 = true) ∧ (b' 16 = true → b' 15 = true) ∧ (b' 15 = true → b' 13 = true) ∧ (b' 20 = true → b' 0 = true) ∧ (b' 20 = true → b' 2 = true) ∧ (b' 20 = true → b' 4 = true) ∧ (b' 20 = true → b' 7 = true) ∧ (b' 20 = true → b' 10 = true) ∧ (b' 20 = true → b' 13 = true) ∧ (b' 20 = true → b' 16 = true) ∧ (b' 20 = true → b' 19 = true) ∧ (b' 21 = true → b' 20 = true ∧ vs 21 = vs 20) ∧ (b' 21 = false → vs 21 = u5) ∧ (b' 21 = true → b' 0 = true)) ?_ ?_ ?_
      · intro vs hvs
        exact ⟨fun h => Bool.noConfusion h, fun h => Bool.noConfusion h, fun h => Bool.noConfusion h, fun h => Bool.noConfusion h, fun h => Bool.noConfusion h, fun h => Bool.noConfusion h, fun h => Bool.noConfusion h, fun h => Bool.noConfusion h, fun h => Bool.noConfusion h, fun h => Bool.noConfusion h, fun h => Bool.noConfusion h, fun h => Bool.noConfusion h, fun h => Bool.noConfusion h, fun h => Bool.noConfusion h, fun h => Bool.noConfusion h, fun h => Bool.noConfusion h, fun h => Bool.noConfusion h, fun h => Bool.noConfusion h, fun h => Bool.noConfusion h, fun h => Bool.noConfusion h, fun _ => Lib.hid ⟨below_drewN hw.out.1 1, by have := hw.out.1.size; exact this⟩, fun _ => Lib.hid ⟨hw.out.2.1.grow ⟨rfl, rfl, rfl, Nat.le_refl _, fun _ _ => rfl⟩, hw.out.2.2.1, hw.out.2.2.2.grow ⟨rfl, rfl, rfl, Nat.le_refl _, fun _ _ => rfl⟩⟩, fun h => Bool.noConfusion h, fun h => Bool.noConfusion h, fun h => Bool.noConfusion h, fun h => Bool.noConfusion h, fun h => Bool.noConfusion h, fun h => Bool.noConfusion h, fun h => Bool.noConfusion h, fun h => Bool.noConfusion h, fun h => Bool.noConfusion h, fun h => Bool.noConfusion h, fun h => Bool.noConfusion h, fun h => Bool.noConfusion h, fun h => Bool.noConfusion h, fun h => Bool.noConfusion h, fun h => Bool.noConfusion h, fun h => Bool.noConfusion h, fun h => Bool.noConfusion h, fun h => Bool.noConfusion h, fun h => Bool.noConfusion h, fun h => Bool.noConfusion h, fun h => Bool.noConfusion h, fun _ => hvs 21 _ _ rfl rfl, fun h => Bool.noConfusion h⟩
      · rintro b' vs w' i op hi hun hall ⟨h0, h1, h2, h3, h4, h5, h6, h7, h8, h9, h10, h11, h12, h13, h14, h15, h16, h17, h18, y19, hB, hF, hG, hE19_18, hE18_8, hE8_2, hE8_7, hE7_6, hE6_4, hE18_17, hE17_10, hE17_16, hE16_15, hE15_13, hW0, hW2, hW4, hW7, hW10, hW13, hW16, hW19, hA, hR, hZ⟩
        have hil : i < 22 := (List.getElem?_eq_some_iff.1 hi).1
        rcases i with _ | _ | _ | _ | _ | _ | _ | _ | _ | _ | _ | _ | _ | _ | _ | _ | _ | _ | _ | _ | _ | _ | i
        · obtain rfl := Option.some.inj hi
          clear hi hil
          have hz : b' 21 = false := by
            cases hzz : b' 21 with
            | false => rfl
            | true => exact absurd (hZ hzz) (by rw [hun]; decide)
          have hx := hR hz
          refine wpOp_step rfl (fun K hK => ?_)
          have HKK := Lib.hid hK; clear hK
          simp only [putAll, Act.put, List.setIfInBounds_toArray, List.set_cons_zero, List.set_cons_succ]
          go_simp
          exact HKK.out _ _ ⟨_, by simp only [putAll, Act.put, List.setIfInBounds_toArray, List.set_cons_zero, List.set_cons_succ, hx] <;> rfl, fun _ => rfl, h1, h2, h3, h4, h5, h6, h7, h8, h9, h10, h11, h12, h13, h14, h15, h16, h17, h18, y19, hB, hF, hG, hE19_18, hE18_8, hE8_2, hE8_7, hE7_6, hE6_4, hE18_17, hE17_10, hE17_16, hE16_15, hE15_13, fun _ => rfl, hW2, hW4, hW7, hW10, hW13, hW16, hW19, hA, hR, fun _ => rfl⟩
        · obtain rfl := Option.some.inj hi
          clear hi hil
          refine wpOp_step rfl (fun K hK => ?_)
          have HKK := Lib.hid hK; clear hK
          simp only [putAll, Act.put, List.setIfInBounds_toArray, List.set_cons_zero, List.set_cons_succ]
          go_simp
          exact HKK.out _ _ ⟨_, by simp only [putAll, Act.put, List.setIfInBounds_toArray, List.set_cons_zero, List.set_cons_succ] <;> rfl, h0, fun _ => rfl, h2, h3, h4, h5, h6, h7, h8, h9, h10, h11, h12, h13, h14, h15, h16, h17, h18, y19, hB, hF, hG, hE19_18, hE18_8, hE8_2, hE8_7, hE7_6, hE6_4, hE18_17, hE17_10, hE17_16, hE16_15, hE15_13, hW0, hW2, hW4, hW7, hW10, hW13, hW16, hW19, hA, hR, hZ⟩
        · obtain rfl := Option.some.inj hi
          clear hi hil
          have hap : b' 20 = false := by
            cases hz : b' 20 with
            | false => rfl
            | true => exact absurd (hW2 hz) (by rw [hun]; decide)
          have d1 := h1 (hall ⟨1, .data⟩ (by simp) rfl)
          have kk := (hF hap).out.1
          have x0 := kk.p0
          have x1 := kk.p1
          clear kk
          refine wpOp_step rfl (fun K hK => ?_)
          have HKK := Lib.hid hK; clear hK
          simp only [putAll, Act.put, List.setIfInBounds_toArray, List.set_cons_zero, List.set_cons_succ]
          go_simp
          exact HKK.out _ _ ⟨_, by simp only [putAll, Act.put, List.setIfInBounds_toArray, List.set_cons_zero, List.set_cons_succ, d1] <;> rfl, h0, h1, fun _ => rfl, h3, h4, h5, h6, h7, h8, h9, h10, h11, h12, h13, h14, h15, h16, h17, h18, y19, hB, hF, hG, hE19_18, hE18_8, fun _ => rfl, hE8_7, hE7_6, hE6_4, hE18_17, hE17_10, hE17_16, hE16_15, hE15_13, hW0, fun _ => rfl, hW4, hW7, hW10, hW13, hW16, hW19, hA, hR, hZ⟩
        · obtain rfl := Option.some.inj hi
          clear hi hil
          refine wpOp_step rfl (fun K hK => ?_)
          have HKK := Lib.hid hK; clear hK
          simp only [putAll, Act.put, List.setIfInBounds_toArray, List.set_cons_zero, List.set_cons_succ]
          go_simp
          exact HKK.out _ _ ⟨_, by simp only [putAll, Act.put, List.setIfInBounds_toArray, List.set_cons_zero, List.set_cons_succ] <;> rfl, h0, h1, h2, fun _ => rfl, h4, h5, h6, h7, h8, h9, h10, h11, h12, h13, h14, h15, h16, h17, h18, y19, hB, hF, hG, hE19_18, hE18_8, hE8_2, hE8_7, hE7_6, hE6_4, hE18_17, hE17_10, hE17_16, hE16_15, hE15_13, hW0, hW2, hW4, hW7, hW10, hW13, hW16, hW19, hA, hR, hZ⟩
        · obtain rfl := Option.some.inj hi
          clear hi hil
          have hap : b' 20 = false := by
            cases hz : b' 20 with
            | false => rfl
            | true => exact absurd (hW4 hz) (by rw [hun]; decide)
          have d3 := h3 (hall ⟨3, .data⟩ (by simp) rfl)
          refine wpOp_step rfl (fun K hK => ?_)
          have HKK := Lib.hid hK; clear hK
          simp only [putAll, Act.put, List.setIfInBounds_toArray, List.set_cons_zero, List.set_cons_succ]
          go_simp
          refine (rcosine_c k (by have := HK16.out; omega) w').mono ?_
          rintro e w2 ⟨rfl, hb2⟩
          exact HKK.out _ _ ⟨_, by simp only [putAll, Act.put, List.setIfInBounds_toArray, List.set_cons_zero, List.set_cons_succ, d3] <;> rfl, h0, h1, h2, h3, fun _ => rfl, h5, h6, h7, h8, h9, h10, h11, h12, h13, h14, h15, h16, h17, h18, fun h ha => Lib.hid (Own.grow (y19 h ha).out hb2), fun ha => Lib.hid ⟨(hB ha).out.1.trans (hb2.mono (hB ha).out.2), Nat.le_trans (hB ha).out.2 hb2.size⟩, fun ha => Lib.hid (⟨(hF ha).out.1.grow hb2, Nat.le_trans (hF ha).out.2.1 hb2.size, (hF ha).out.2.2.grow hb2⟩), fun h => absurd (show b' 20 = true from h) (by rw [hap]; decide), hE19_18, hE18_8, hE8_2, hE8_7, hE7_6, fun _ => rfl, hE18_17, hE17_10, hE17_16, hE16_15, hE15_13, hW0, hW2, fun _ => rfl, hW7, hW10, hW13, hW16, hW19, hA, hR, hZ⟩
        · obtain rfl := Option.some.inj hi
          clear hi hil
          refine wpOp_step rfl (fun K hK => ?_)
          have HKK := Lib.hid hK; clear hK
          simp only [putAll, Act.put, List.setIfInBounds_toArray, List.set_cons_zero, List.set_cons_succ]
          go_simp
          exact HKK.out _ _ ⟨_, by simp only [putAll, Act.put, List.setIfInBounds_toArray, List.set_cons_zero, List.set_cons_succ] <;> rfl, h0, h1, h2, h3, h4, fun _ => rfl, h6, h7, h8, h9, h10, h11, h12, h13, h14, h15, h16, h17, h18, y19, hB, hF, hG, hE19_18, hE18_8, hE8_2, hE8_7, hE7_6, hE6_4, hE18_17, hE17_10, hE17_16, hE16_15, hE15_13, hW0, hW2, hW4, hW7, hW10, hW13, hW16, hW19, hA, hR, hZ⟩
        · obtain rfl := Option.some.inj hi
          clear hi hil
          have d4 := h4 (hall ⟨4, .data⟩ (by simp) rfl)
          have d5 := h5 (hall ⟨5, .data⟩ (by simp) rfl)
          refine wpOp_step rfl (fun K hK => ?_)
          have HKK := Lib.hid hK; clear hK
          simp only [putAll, Act.put, List.setIfInBounds_toArray, List.set_cons_zero, List.set_cons_succ]
          go_simp
          exact HKK.out _ _ ⟨_, by simp only [putAll, Act.put, List.setIfInBounds_toArray, List.set_cons_zero, List.set_cons_succ, d4, d5, HE1.out] <;> rfl, h0, h1, h2, h3, h4, h5, fun _ => rfl, h7, h8, h9, h10, h11, h12, h13, h14, h15, h16, h17, h18, y19, hB, hF, hG, hE19_18, hE18_8, hE8_2, hE8_7, fun _ => rfl, fun _ => hall ⟨4, .data⟩ (by simp) rfl, hE18_17, hE17_10, hE17_16, hE16_15, hE15_13, hW0, hW2, hW4, hW7, hW10, hW13, hW16, hW19, hA, hR, hZ⟩
        · obtain rfl := Option.some.inj hi
          clear hi hil
          have hap : b' 20 = false := by
            cases hz : b' 20 with
            | false => rfl
            | true => exact absurd (hW7 hz) (by rw [hun]; decide)
          have d6 := h6 (hall ⟨6, .data⟩ (by simp) rfl)
          refine wpOp_step rfl (fun K hK => ?_)
          have HKK := Lib.hid hK; clear hK
          simp only [putAll, Act.put, List.setIfInBounds_toArray, List.set_cons_zero, List.set_cons_succ]
          go_simp
          refine (HQ1.out w').mono ?_
          rintro e w2 ⟨rfl, rfl⟩
          exact HKK.out _ _ ⟨_, by simp only [putAll, Act.put, List.setIfInBounds_toArray, List.set_cons_zero, List.set_cons_succ, d6] <;> rfl, h0, h1, h2, h3, h4, h5, h6, fun _ => rfl, h8, h9, h10, h11, h12, h13, h14, h15, h16, h17, h18, y19, hB, hF, hG, hE19_18, hE18_8, hE8_2, fun _ => rfl, fun _ => hall ⟨6, .data⟩ (by simp) rfl, hE6_4, hE18_17, hE17_10, hE17_16, hE16_15, hE15_13, hW0, hW2, hW4, fun _ => rfl, hW10, hW13, hW16, hW19, hA, hR, hZ⟩
        · obtain rfl := Option.some.inj hi
          clear hi hil
          have d2 := h2 (hall ⟨2, .data⟩ (by simp) rfl)
          have d7 := h7 (hall ⟨7, .data⟩ (by simp) rfl)
          refine wpOp_step rfl (fun K hK => ?_)
          have HKK := Lib.hid hK; clear hK
          simp only [putAll, Act.put, List.setIfInBounds_toArray, List.set_cons_zero, List.set_cons_succ]
          go_simp
          exact HKK.out _ _ ⟨_, by simp only [putAll, Act.put, List.setIfInBounds_toArray, List.set_cons_zero, List.set_cons_succ, d2, d7, HE4.out] <;> rfl, h0, h1, h2, h3, h4, h5, h6, h7, fun _ => rfl, h9, h10, h11, h12, h13, h14, h15, h16, h17, h18, y19, hB, hF, hG, hE19_18, fun _ => rfl, fun _ => hall ⟨2, .data⟩ (by simp) rfl, fun _ => hall ⟨7, .data⟩ (by simp) rfl, hE7_6, hE6_4, hE18_17, hE17_10, hE17_16, hE16_15, hE15_13, hW0, hW2, hW4, hW7, hW10, hW13, hW16, hW19, hA, hR, hZ⟩
        · obtain rfl := Option.some.inj hi
          clear hi hil
          refine wpOp_step rfl (fun K hK => ?_)
          have HKK := Lib.hid hK; clear hK
          simp only [putAll, Act.put, List.setIfInBounds_toArray, List.set_cons_zero, List.set_cons_succ]
          go_simp
          exact HKK.out _ _ ⟨_, by simp only [putAll, Act.put, List.setIfInBounds_toArray, List.set_cons_zero, List.set_cons_succ] <;> rfl, h0, h1, h2, h3, h4, h5, h6, h7, h8, fun _ => rfl, h10, h11, h12, h13, h14, h15, h16, h17, h18, y19, hB, hF, hG, hE19_18, hE18_8, hE8_2, hE8_7, hE7_6, hE6_4, hE18_17, hE17_10, hE17_16, hE16_15, hE15_13, hW0, hW2, hW4, hW7, hW10, hW13, hW16, hW19, hA, hR, hZ⟩
        · obtain rfl := Option.some.inj hi
          clear hi hil
          have hap : b' 20 = false := by
            cases hz : b' 20 with
            | false => rfl
            | true => exact absurd (hW10 hz) (by rw [hun]; decide)
          have d9 := h9 (hall ⟨9, .data⟩ (by simp) rfl)
          have kk := (hF hap).out.1
          have x0 := kk.p0
          have x1 := kk.p1
          clear kk
          refine wpOp_step rfl (fun K hK => ?_)
          have HKK := Lib.hid hK; clear hK
          simp only [putAll, Act.put, List.setIfInBounds_toArray, List.set_cons_zero, List.set_cons_succ]
          go_simp
          exact HKK.out _ _ ⟨_, by simp only [putAll, Act.put, List.setIfInBounds_toArray, List.set_cons_zero, List.set_cons_succ, d9] <;> rfl, h0, h1, h2, h3, h4, h5, h6, h7, h8, h9, fun _ => rfl, h11, h12, h13, h14, h15, h16, h17, h18, y19, hB, hF, hG, hE19_18, hE18_8, hE8_2, hE8_7, hE7_6, hE6_4, hE18_17, fun _ => rfl, hE17_16, hE16_15, hE15_13, hW0, hW2, hW4, hW7, fun _ => rfl, hW13, hW16, hW19, hA, hR, hZ⟩
        · obtain rfl := Option.some.inj hi
          clear hi hil
          refine wpOp_step rfl (fun K hK => ?_)
          have HKK := Lib.hid hK; clear hK
          simp only [putAll, Act.put, List.setIfInBounds_toArray, List.set_cons_zero, List.set_cons_succ]
          go_simp
          exact HKK.out _ _ ⟨_, by simp only [putAll, Act.put, List.setIfInBounds_toArray, List.set_cons_zero, List.set_cons_succ] <;> rfl, h0, h1, h2, h3, h4, h5, h6, h7, h8, h9, h10, fun _ => rfl, h12, h13, h14, h15, h16, h17, h18, y19, hB, hF, hG, hE19_18, hE18_8, hE8_2, hE8_7, hE7_6, hE6_4, hE18_17, hE17_10, hE17_16, hE16_15, hE15_13, hW0, hW2, hW4, hW7, hW10, hW13, hW16, hW19, hA, hR, hZ⟩
        · obtain rfl := Option.some.inj hi
          clear hi hil
          have d11 := h11 (hall ⟨11, .data⟩ (by simp) rfl)
          refine wpOp_step rfl (fun K hK => ?_)
          have HKK := Lib.hid hK; clear hK
          simp only [putAll, Act.put, List.setIfInBounds_toArray, List.set_cons_zero, List.set_cons_succ]
          go_simp
          exact HKK.out _ _ ⟨_, by simp only [putAll, Act.put, List.setIfInBounds_toArray, List.set_cons_zero, List.set_cons_succ, d11, HE3.out] <;> rfl, h0, h1, h2, h3, h4, h5, h6, h7, h8, h9, h10, h11, fun _ => rfl, h13, h14, h15, h16, h17, h18, y19, hB, hF, hG, hE19_18, hE18_8, hE8_2, hE8_7, hE7_6, hE6_4, hE18_17, hE17_10, hE17_16, hE16_15, hE15_13, hW0, hW2, hW4, hW7, hW10, hW13, hW16, hW19, hA, hR, hZ⟩
        · obtain rfl := Option.some.inj hi
          clear hi hil
          have hap : b' 20 = false := by
            cases hz : b' 20 with
            | false => rfl
            | true => exact absurd (hW13 hz) (by rw [hun]; decide)
          have d12 := h12 (hall ⟨12, .data⟩ (by simp) rfl)
          refine wpOp_step rfl (fun K hK => ?_)
          have HKK := Lib.hid hK; clear hK
          simp only [putAll, Act.put, List.setIfInBounds_toArray, List.set_cons_zero, List.set_cons_succ]
          go_simp
          refine (rcosine_c (k + 12) (by have := HK16.out; omega) w').mono ?_
          rintro e w2 ⟨rfl, hb2⟩
          exact HKK.out _ _ ⟨_, by simp only [putAll, Act.put, List.setIfInBounds_toArray, List.set_cons_zero, List.set_cons_succ, d12] <;> rfl, h0, h1, h2, h3, h4, h5, h6, h7, h8, h9, h10, h11, h12, fun _ => rfl, h14, h15, h16, h17, h18, fun h ha => Lib.hid (Own.grow (y19 h ha).out hb2), fun ha => Lib.hid ⟨(hB ha).out.1.trans (hb2.mono (hB ha).out.2), Nat.le_trans (hB ha).out.2 hb2.size⟩, fun ha => Lib.hid (⟨(hF ha).out.1.grow hb2, Nat.le_trans (hF ha).out.2.1 hb2.size, (hF ha).out.2.2.grow hb2⟩), fun h => absurd (show b' 20 = true from h) (by rw [hap]; decide), hE19_18, hE18_8, hE8_2, hE8_7, hE7_6, hE6_4, hE18_17, hE17_10, hE17_16, hE16_15, fun _ => rfl, hW0, hW2, hW4, hW7, hW10, fun _ => rfl, hW16, hW19, hA, hR, hZ⟩
        · obtain rfl := Option.some.inj hi
          clear hi hil
          refine wpOp_step rfl (fun K hK => ?_)
          have HKK := Lib.hid hK; clear hK
          simp only [putAll, Act.put, List.setIfInBounds_toArray, List.set_cons_zero, List.set_cons_succ]
          go_simp
          exact HKK.out _ _ ⟨_, by simp only [putAll, Act.put, List.setIfInBounds_toArray, List.set_cons_zero, List.set_cons_succ] <;> rfl, h0, h1, h2, h3, h4, h5, h6, h7, h8, h9, h10, h11, h12, h13, fun _ => rfl, h15, h16, h17, h18, y19, hB, hF, hG, hE19_18, hE18_8, hE8_2, hE8_7, hE7_6, hE6_4, hE18_17, hE17_10, hE17_16, hE16_15, hE15_13, hW0, hW2, hW4, hW7, hW10, hW13, hW16, hW19, hA, hR, hZ⟩
        · obtain rfl := Option.some.inj hi
          clear hi hil
          have d13 := h13 (hall ⟨13, .data⟩ (by simp) rfl)
          have d14 := h14 (hall ⟨14, .data⟩ (by simp) rfl)
          refine wpOp_step rfl (fun K hK => ?_)
          have HKK := Lib.hid hK; clear hK
          simp only [putAll, Act.put, List.setIfInBounds_toArray, List.set_cons_zero, List.set_cons_succ]
          go_simp
          exact HKK.out _ _ ⟨_, by simp only [putAll, Act.put, List.setIfInBounds_toArray, List.set_cons_zero, List.set_cons_succ, d13, d14, HE2.out] <;> rfl, h0, h1, h2, h3, h4, h5, h6, h7, h8, h9, h10, h11, h12, h13, h14, fun _ => rfl, h16, h17, h18, y19, hB, hF, hG, hE19_18, hE18_8, hE8_2, hE8_7, hE7_6, hE6_4, hE18_17, hE17_10, hE17_16, fun _ => rfl, fun _ => hall ⟨13, .data⟩ (by simp) rfl, hW0, hW2, hW4, hW7, hW10, hW13, hW16, hW19, hA, hR, hZ⟩
        · obtain rfl := Option.some.inj hi
          clear hi hil
          have hap : b' 20 = false := by
            cases hz : b' 20 with
            | false => rfl
            | true => exact absurd (hW16 hz) (by rw [hun]; decide)
          have d15 := h15 (hall ⟨15, .data⟩ (by simp) rfl)
          refine wpOp_step rfl (fun K hK => ?_)
          have HKK := Lib.hid hK; clear hK
          simp only [putAll, Act.put, List.setIfInBounds_toArray, List.set_cons_zero, List.set_cons_succ]
          go_simp
          refine (HQ2.out w').mono ?_
          rintro e w2 ⟨rfl, rfl⟩
          exact HKK.out _ _ ⟨_, by simp only [putAll, Act.put, List.setIfInBounds_toArray, List.set_cons_zero, List.set_cons_succ, d15] <;> rfl, h0, h1, h2, h3, h4, h5, h6, h7, h8, h9, h10, h11, h12, h13, h14, h15, fun _ => rfl, h17, h18, y19, hB, hF, hG, hE19_18, hE18_8, hE8_2, hE8_7, hE7_6, hE6_4, hE18_17, hE17_10, fun _ => rfl, fun _ => hall ⟨15, .data⟩ (by simp) rfl, hE15_13, hW0, hW2, hW4, hW7, hW10, hW13, fun _ => rfl, hW19, hA, hR, hZ⟩
        · obtain rfl := Option.some.inj hi
          clear hi hil
          have d10 := h10 (hall ⟨10, .data⟩ (by simp) rfl)
          have d16 := h16 (hall ⟨16, .data⟩ (by simp) rfl)
          refine wpOp_step rfl (fun K hK => ?_)
          have HKK := Lib.hid hK; clear hK
          simp only [putAll, Act.put, List.setIfInBounds_toArray, List.set_cons_zero, List.set_cons_succ]
          go_simp
          exact HKK.out _ _ ⟨_, by simp only [putAll, Act.put, List.setIfInBounds_toArray, List.set_cons_zero, List.set_cons_succ, d10, d16, HE5.out] <;> rfl, h0, h1, h2, h3, h4, h5, h6, h7, h8, h9, h10, h11, h12, h13, h14, h15, h16, fun _ => rfl, h18, y19, hB, hF, hG, hE19_18, hE18_8, hE8_2, hE8_7, hE7_6, hE6_4, fun _ => rfl, fun _ => hall ⟨10, .data⟩ (by simp) rfl, fun _ => hall ⟨16, .data⟩ (by simp) rfl, hE16_15, hE15_13, hW0, hW2, hW4, hW7, hW10, hW13, hW16, hW19, hA, hR, hZ⟩
        · obtain rfl := Option.some.inj hi
          clear hi hil
          have d8 := h8 (hall ⟨8, .data⟩ (by simp) rfl)
          have d17 := h17 (hall ⟨17, .data⟩ (by simp) rfl)
          refine wpOp_step rfl (fun K hK => ?_)
          have HKK := Lib.hid hK; clear hK
          simp only [putAll, Act.put, List.setIfInBounds_toArray, List.set_cons_zero, List.set_cons_succ]
          go_simp
          exact HKK.out _ _ ⟨_, by simp only [putAll, Act.put, List.setIfInBounds_toArray, List.set_cons_zero, List.set_cons_succ, d8, d17] <;> rfl, h0, h1, h2, h3, h4, h5, h6, h7, h8, h9, h10, h11, h12, h13, h14, h15, h16, h17, fun _ => rfl, y19, hB, hF, hG, fun _ => rfl, fun _ => hall ⟨8, .data⟩ (by simp) rfl, hE8_2, hE8_7, hE7_6, hE6_4, fun _ => hall ⟨17, .data⟩ (by simp) rfl, hE17_10, hE17_16, hE16_15, hE15_13, hW0, hW2, hW4, hW7, hW10, hW13, hW16, hW19, hA, hR, hZ⟩
        · obtain rfl := Option.some.inj hi
          clear hi hil
          have hap : b' 20 = false := by
            cases hz : b' 20 with
            | false => rfl
            | true => exact absurd (hW19 hz) (by rw [hun]; decide)
          have d18 := h18 (hall ⟨18, .data⟩ (by simp) rfl)
          refine wpOp_step rfl (fun K hK => ?_)
          have HKK := Lib.hid hK; clear hK
          simp only [putAll, Act.put, List.setIfInBounds_toArray, List.set_cons_zero, List.set_cons_succ]
          go_simp
          have hb2 : Below w'.heap.size w' (w'.alloc (.cells (flat [discP c h k]) 32)) := (Below.refl _ _).alloc (Nat.le_refl _) _
          exact HKK.out _ _ ⟨_, by simp only [putAll, Act.put, List.setIfInBounds_toArray, List.set_cons_zero, List.set_cons_succ, d18] <;> rfl, h0, h1, h2, h3, h4, h5, h6, h7, h8, h9, h10, h11, h12, h13, h14, h15, h16, h17, h18, fun _ _ => Lib.hid (Own.made w' (hB hap).out.2 32 [discP c h k] _ 1 rfl rfl (by decide)), fun ha => Lib.hid ⟨(hB ha).out.1.trans (hb2.mono (hB ha).out.2), Nat.le_trans (hB ha).out.2 hb2.size⟩, fun ha => Lib.hid (⟨(hF ha).out.1.grow hb2, Nat.le_trans (hF ha).out.2.1 hb2.size, (hF ha).out.2.2.grow hb2⟩), fun h => absurd (show b' 20 = true from h) (by rw [hap]; decide), fun _ => hall ⟨18, .data⟩ (by simp) rfl, hE18_8, hE8_2, hE8_7, hE7_6, hE6_4, hE18_17, hE17_10, hE17_16, hE16_15, hE15_13, hW0, hW2, hW4, hW7, hW10, hW13, hW16, fun _ => rfl, hA, hR, hZ⟩
        · obtain rfl := Option.some.inj hi
          clear hi hil
          have hap : b' 20 = false := hun
          have d0 := h0 (hall ⟨0, .data⟩ (by simp) rfl)
          have o19 := y19 (hall ⟨19, .data⟩ (by simp) rfl) hap
          refine wpOp_step rfl (fun K hK => ?_)
          have HKK := Lib.hid hK; clear hK
          simp only [putAll, Act.put, List.setIfInBounds_toArray, List.set_cons_zero, List.set_cons_succ]
          refine (if_pos rfl).mpr (wp_append_pts _ _ 30 32 rfl Tryd.underlying30 infoR (w.heap.size + 1) _ _ d0 ((hF hap).out.2.2) _ _ rfl (o19.out.row) (by have := disc_len c h; simp; omega) ((hF hap).out.2.1) ?_)
          intro v' w2 ho2 hg2 hm2
          exact HKK.out _ _ ⟨_, by simp only [putAll, Act.put, List.setIfInBounds_toArray, List.set_cons_zero, List.set_cons_succ, d0] <;> rfl, h0, h1, h2, h3, h4, h5, h6, h7, h8, h9, h10, h11, h12, h13, h14, h15, h16, h17, h18, fun _ h => Bool.noConfusion h, fun h => Bool.noConfusion h, fun h => Bool.noConfusion h, fun _ => Lib.hid (⟨own_below (hF hap).out.2.2 hg2 (hB hap).out.1 (by omega) (hB hap).out.2, own_blk (hF hap).out.2.2 hg2 (hF hap).out.1 (by omega), Nat.le_trans (hF hap).out.2.1 hg2.size, by rw [discI_take c h k HK16.out]; exact ho2⟩), hE19_18, hE18_8, hE8_2, hE8_7, hE7_6, hE6_4, hE18_17, hE17_10, hE17_16, hE16_15, hE15_13, fun _ => hall ⟨0, .data⟩ (by simp) rfl, fun _ => hE8_2 (hE18_8 (hE19_18 (hall ⟨19, .data⟩ (by simp) rfl))), fun _ => hE6_4 (hE7_6 (hE8_7 (hE18_8 (hE19_18 (hall ⟨19, .data⟩ (by simp) rfl))))), fun _ => hE8_7 (hE18_8 (hE19_18 (hall ⟨19, .data⟩ (by simp) rfl))), fun _ => hE17_10 (hE18_17 (hE19_18 (hall ⟨19, .data⟩ (by simp) rfl))), fun _ => hE15_13 (hE16_15 (hE17_16 (hE18_17 (hE19_18 (hall ⟨19, .data⟩ (by simp) rfl))))), fun _ => hE17_16 (hE18_17 (hE19_18 (hall ⟨19, .data⟩ (by simp) rfl))), fun _ => hall ⟨19, .data⟩ (by simp) rfl, fun hq => absurd (hA hq).1 (by rw [hun]; decide), hR, hZ⟩
        · obtain rfl := Option.some.inj hi
          clear hi hil
          have gB := hG (hall ⟨20, .data⟩ (by simp) rfl)
          refine wpOp_step rfl (fun K hK => ?_)
          have HKK := Lib.hid hK; clear hK
          simp only [putAll, Act.put, List.setIfInBounds_toArray, List.set_cons_zero, List.set_cons_succ]
          go_simp
          exact HKK.out _ _ ⟨_, by simp only [putAll, Act.put, List.setIfInBounds_toArray, List.set_cons_zero, List.set_cons_succ] <;> rfl, h0, h1, h2, h3, h4, h5, h6, h7, h8, h9, h10, h11, h12, h13, h14, h15, h16, h17, h18, y19, hB, hF, hG, hE19_18, hE18_8, hE8_2, hE8_7, hE7_6, hE6_4, hE18_17, hE17_10, hE17_16, hE16_15, hE15_13, hW0, hW2, hW4, hW7, hW10, hW13, hW16, hW19, fun _ => ⟨hall ⟨20, .data⟩ (by simp) rfl, rfl⟩, fun h => Bool.noConfusion h, fun _ => hW0 (hall ⟨20, .data⟩ (by simp) rfl)⟩
        · omega
      · rintro b' vs w2 hall ⟨h0, h1, h2, h3, h4, h5, h6, h7, h8, h9, h10, h11, h12, h13, h14, h15, h16, h17, h18, y19, hB, hF, hG, hE19_18, hE18_8, hE8_2, hE8_7, hE7_6, hE6_4, hE18_17, hE17_10, hE17_16, hE16_15, hE15_13, hW0, hW2, hW4, hW7, hW10, hW13, hW16, hW19, hA, hR, hZ⟩
        have d0 := h0 (hall 0 (by simp))
        have d1 := h1 (hall 1 (by simp))
        have d2 := h2 (hall 2 (by simp))
        have d3 := h3 (hall 3 (by simp))
        have d4 := h4 (hall 4 (by simp))
        have d5 := h5 (hall 5 (by simp))
        have d6 := h6 (hall 6 (by simp))
        have d7 := h7 (hall 7 (by simp))
        have d8 := h8 (hall 8 (by simp))
        have d9 := h9 (hall 9 (by simp))
        have d10 := h10 (hall 10 (by simp))
        have d11 := h11 (hall 11 (by simp))
        have d12 := h12 (hall 12 (by simp))
        have d13 := h13 (hall 13 (by simp))
        have d14 := h14 (hall 14 (by simp))
        have d15 := h15 (hall 15 (by simp))
        have d16 := h16 (hall 16 (by simp))
        have d17 := h17 (hall 17 (by simp))
        have d18 := h18 (hall 18 (by simp))
        have GG := hG (hall 20 (by simp))
        have dA := (hA (hall 21 (by simp))).2
        simp only [putAll, Act.put, List.setIfInBounds_toArray, List.set_cons_zero, List.set_cons_succ, d0, d1, d2, d3, d4, d5, d6, d7, d8, d9, d10, d11, d12, d13, d14, d15, d16, d17, d18, dA]
        clear hall h0 d0 h1 d1 h2 d2 h3 d3 h4 d4 h5 d5 h6 d6 h7 d7 h8 d8 h9 d9 h10 d10 h11 d11 h12 d12 h13 d13 h14 d14 h15 d15 h16 d16 h17 d17 h18 d18 y19 hB hF hG hE19_18 hE18_8 hE8_2 hE8_7 hE7_6 hE6_4 hE18_17 hE17_10 hE17_16 hE16_15 hE15_13 hW0 hW2 hW4 hW7 hW10 hW13 hW16 hW19 hA dA hR hZ
        generalize vs 20 = va at *
        have hk16 := HK16.out
        go_wp2_with fail
        exact ⟨⟨k + 1, by omega, by go_num, GG.out⟩, by simp [intOf]; omega⟩
    · have hd : decide ((k : Int) < 16) = false := by simp; omega
      have hk16 : Hid (k = 16) := by unfold Hid; omega
      go_wp2_with fail
      go_ret
      have hfull : (discI c h).take k = discI c h := by rw [hk16.out]; exact List.take_of_length_le (by have := disc_len c h; omega)
      rw [hfull] at hw
      exact ⟨_, rfl, hw.out.2.2.2.base (by omega), hw.out.1⟩
end Go.Proofs.YtdidbejinfkhbaaDoor
