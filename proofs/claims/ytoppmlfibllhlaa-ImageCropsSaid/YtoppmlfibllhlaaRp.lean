/- Layer 11: package image's Crop, of parts within. -/
import Derived.Test.YtoppmlfibllhlaaRo
namespace Go.Proofs.Ytoppmlfibllhlaa
open Go.RowKit
set_option maxHeartbeats 4000000 in
set_option maxRecDepth 100000 in
theorem crop_y (W H x0 y0 x1 y1 : Int) (s : Value) (l : List Col) (w : World) (row : RowK .u8 w s l) (hok : ∀ c ∈ l, OkC c) (hl : l.length ≤ 400) (hcs : Hid (CapS s)) (hr : rightIm W H l = true) (hcb : cropB W H x0 y0 x1 y1 = false) : Calls Try.prog 22 #[.agg #[.int .i64 W, .int .i64 H, s], .agg #[.int .i64 x0, .int .i64 y0, .int .i64 x1, .int .i64 y1]] w fun e w' => ToldIm w (x1 - x0) (y1 - y0) (cropL W x0 y0 x1 y1 l) 0 e w' := by
  have hri := rightIm_iff.1 hr
  have hb := cropB_no.1 hcb
  have hs := mul_sides hri.1 hri.2.1 hri.2.2.1 hri.2.2.2.1
  have he : emptyI ⟨x0, y0, x1, y1⟩ = false := by unfold emptyI; simp only [Bool.or_eq_false_iff, decide_eq_false_iff_not]; omega
  have hm : meetI ⟨x0, y0, x1, y1⟩ ⟨0, 0, W, H⟩ = ⟨x0, y0, x1, y1⟩ := by
    have h2 := meet_other (W := W) (H := H) he
    rw [hcb] at h2
    generalize meetI ⟨x0, y0, x1, y1⟩ ⟨0, 0, W, H⟩ = m at *
    obtain ⟨a, b, c, d⟩ := m
    simp at h2
    rw [h2.1.1.1, h2.1.1.2, h2.1.2, h2.2]
  have HCK : Hid (∀ A, Below w.heap.size w A → Calls Try.prog 15 #[.agg #[.int .i64 W, .int .i64 H, s]] A fun e w' => e = .returned (.int .i64 0) ∧ Below A.heap.size A w') := fun A hA => by
    have h := checkOk W H s l A (row.on hA) hok (by omega)
    rw [hr] at h
    exact h
  have HEM : Hid (∀ A, Calls Try.prog 45 #[.agg #[.int .i64 x0, .int .i64 y0, .int .i64 x1, .int .i64 y1]] A fun e w' => e = .returned (.bool false) ∧ Below A.heap.size A w') := fun A => by
    have h := emptyB_c ⟨x0, y0, x1, y1⟩ A
    rw [he] at h
    exact h
  have HMT : Hid (∀ A, Calls Try.prog 35 #[.agg #[.int .i64 x0, .int .i64 y0, .int .i64 x1, .int .i64 y1], .agg #[.int .i64 0, .int .i64 0, .int .i64 W, .int .i64 H]] A fun e w' => e = .returned (.agg #[.int .i64 x0, .int .i64 y0, .int .i64 x1, .int .i64 y1]) ∧ Below A.heap.size A w') := fun A => by
    have h := meet_c ⟨x0, y0, x1, y1⟩ ⟨0, 0, W, H⟩ A
    rw [hm] at h
    exact h
  obtain ⟨ao, cp, rfl⟩ := row.shape
  obtain ⟨bo, oo, rfl, hbo, hcols⟩ := row.addr (by have := hri.2.2.2.2.1; omega)
  have hcap := hcs.out _ _ _ rfl
  obtain ⟨cw, hcw⟩ : ∃ cw : Nat, x1 - x0 = cw := ⟨(x1 - x0).toNat, by omega⟩
  obtain ⟨ch, hch⟩ : ∃ ch : Nat, y1 - y0 = ch := ⟨(y1 - y0).toNat, by omega⟩
  have HCR : Hid (crT W x0 y0 cw l (ch * cw) = cropL W x0 y0 x1 y1 l) := by
    unfold Hid crT cropL
    rw [hcw, hch, show ((cw : Int) * (ch : Int)).toNat = ch * cw by rw [Int.mul_comm, ← Int.natCast_mul]; exact Int.toNat_natCast _]
  have HBO : Hid (bo < w.heap.size ∧ ColsAt .u8 w bo oo l) := ⟨hbo, hcols⟩
  have HWH : Hid ((1 ≤ W ∧ W ≤ 256 ∧ 1 ≤ H ∧ H ≤ 256) ∧ (l.length : Int) = W * H ∧ l.length ≤ cp ∧ l.length ≤ 400 ∧ (0 ≤ x0 ∧ 0 ≤ y0 ∧ x1 ≤ W ∧ y1 ≤ H ∧ x0 < x1 ∧ y0 < y1) ∧ x1 = x0 + cw ∧ y1 = y0 + ch) := ⟨⟨hri.1, hri.2.1, hri.2.2.1, hri.2.2.2.1⟩, hri.2.2.2.2.1, hcap, hl, ⟨hb.1, hb.2.1, hb.2.2.1, hb.2.2.2.1, hb.2.2.2.2.1, hb.2.2.2.2.2⟩, by omega, by omega⟩
  have ew : wrap64 (x1 - x0) = (cw : Int) := by rw [hcw]; exact wrapR _ (by omega) (by omega)
  have eh : wrap64 (y1 - y0) = (ch : Int) := by rw [hch]; exact wrapR _ (by omega) (by omega)
  obtain ⟨n, hn⟩ : ∃ n, l.length = n := ⟨_, rfl⟩
  have HN := Lib.hid hn
  rw [hn] at HCK HWH
  rw [hn, hcw, hch, ← HCR.out]
  clear row hok hl hr hri hb hs he hm hbo hcols hcap hcs hcw hch hn hcb
  go_enter Try.func22, Try.ntmps22
  go_wp2_with fail
  obtain ⟨w1, hw1⟩ : ∃ WW, ((w.alloc (.cells #[.int .i64 W, .int .i64 H, .slice (some ⟨bo, oo, none⟩) n cp] 24)).alloc (.cells #[.int .i64 x0, .int .i64 y0, .int .i64 x1, .int .i64 y1] 26)).alloc (.cells #[.int .i64 0, .int .i64 0, .slice none 0 0] 24) = WW := ⟨_, rfl⟩
  have P1 : Hid (Below w.heap.size w w1 ∧ Blk w1 w.heap.size 24 #[.int .i64 W, .int .i64 H, .slice (some ⟨bo, oo, none⟩) n cp] ∧ Blk w1 (w.heap.size + 1) 26 (fourB ⟨x0, y0, x1, y1⟩) ∧ Blk w1 (w.heap.size + 2) 24 #[.int .i64 0, .int .i64 0, .slice none 0 0]) := by
    rw [← hw1]
    exact ⟨((((Below.refl _ _).alloc (Nat.le_refl _) _).alloc (by simp) _).alloc (by simp; omega) _), ((Blk.new _ _ _).alloc _).alloc _, (Blk.newAt _ _ _ (by simp)).alloc _, Blk.newAt _ _ _ (by simp)⟩
  rw [hw1]
  clear hw1
  refine wp_region_put3 (by kernel_rfl) (by kernel_rfl) (by kernel_rfl) (fun b' vs w' => (b' 0 = true → vs 0 = .agg #[.int .i64 W, .int .i64 H, .slice (some ⟨bo, oo, none⟩) n cp]) ∧ (b' 1 = true → vs 1 = .int .i64 0) ∧ (b' 2 = true → vs 2 = .bool false) ∧ (b' 3 = true → vs 3 = .bool false) ∧ (b' 4 = true → vs 4 = .agg #[.int .i64 x0, .int .i64 y0, .int .i64 x1, .int .i64 y1]) ∧ (b' 5 = true → vs 5 = .bool false) ∧ (b' 6 = true → vs 6 = .bool false) ∧ (b' 7 = true → vs 7 = .bool false) ∧ (b' 8 = true → vs 8 = .agg #[.int .i64 x0, .int .i64 y0, .int .i64 x1, .int .i64 y1]) ∧ (b' 9 = true → vs 9 = .agg #[.int .i64 W, .int .i64 H, .slice (some ⟨bo, oo, none⟩) n cp]) ∧ (b' 10 = true → vs 10 = .agg #[.int .i64 0, .int .i64 0, .int .i64 W, .int .i64 H]) ∧ (b' 11 = true → vs 11 = .agg #[.int .i64 x0, .int .i64 y0, .int .i64 x1, .int .i64 y1]) ∧ (b' 12 = true → vs 12 = .agg #[.int .i64 x0, .int .i64 y0, .int .i64 x1, .int .i64 y1]) ∧ (b' 13 = true → vs 13 = .bool false) ∧ (b' 14 = true → vs 14 = .bool false) ∧ (Hid (Below w.heap.size w w' ∧ w.heap.size ≤ w'.heap.size)) ∧ (Hid (Below w.heap.size w w' ∧ Blk w' w.heap.size 24 #[.int .i64 W, .int .i64 H, .slice (some ⟨bo, oo, none⟩) n cp] ∧ Blk w' (w.heap.size + 1) 26 (fourB ⟨x0, y0, x1, y1⟩) ∧ Blk w' (w.heap.size + 2) 24 #[.int .i64 0, .int .i64 0, .slice none 0 0]))) ?_ ?_ ?_
  · intro vs
    exact ⟨fun h => Bool.noConfusion h, fun h => Bool.noConfusion h, fun h => Bool.noConfusion h, fun h => Bool.noConfusion h, fun h => Bool.noConfusion h, fun h => Bool.noConfusion h, fun h => Bool.noConfusion h, fun h => Bool.noConfusion h, fun h => Bool.noConfusion h, fun h => Bool.noConfusion h, fun h => Bool.noConfusion h, fun h => Bool.noConfusion h, fun h => Bool.noConfusion h, fun h => Bool.noConfusion h, fun h => Bool.noConfusion h, ⟨P1.out.1.trans ⟨rfl, rfl, rfl, Nat.le_refl _, fun _ _ => rfl⟩, P1.out.1.size⟩, ⟨P1.out.1.trans ⟨rfl, rfl, rfl, Nat.le_refl _, fun _ _ => rfl⟩, P1.out.2.1, P1.out.2.2.1, P1.out.2.2.2⟩⟩
  · rintro b' vs w' i op hi hun hall ⟨h0, h1, h2, h3, h4, h5, h6, h7, h8, h9, h10, h11, h12, h13, h14, hB, hF⟩
    have hil : i < 15 := (List.getElem?_eq_some_iff.1 hi).1
    rcases i with _ | _ | _ | _ | _ | _ | _ | _ | _ | _ | _ | _ | _ | _ | _ | i
    · obtain rfl := Option.some.inj hi
      clear hi hil
      have kb := hF.out.2.1
      have c0 : w'.cell? ⟨w.heap.size, 0, none⟩ = some (.int .i64 W) := kb.cell 0
      have c1 : w'.cell? ⟨w.heap.size, 1, none⟩ = some (.int .i64 H) := kb.cell 1
      have c2 : w'.cell? ⟨w.heap.size, 2, none⟩ = some (.slice (some ⟨bo, oo, none⟩) n cp) := kb.cell 2
      refine StepOk.plain rfl (fun K hK => ?_)
      have HKK := Lib.hid hK; clear hK
      simp only [putAll, Act.put, List.setIfInBounds_toArray, List.set_cons_zero, List.set_cons_succ]
      go_simp
      exact HKK.out _ _ ⟨_, by simp only [putAll, Act.put, List.setIfInBounds_toArray, List.set_cons_zero, List.set_cons_succ] <;> rfl, fun _ => rfl, h1, h2, h3, h4, h5, h6, h7, h8, h9, h10, h11, h12, h13, h14, hB, hF⟩
    · obtain rfl := Option.some.inj hi
      clear hi hil
      have d0 := h0 (hall ⟨0, .data⟩ (by simp) rfl)
      refine StepOk.plain rfl (fun K hK => ?_)
      have HKK := Lib.hid hK; clear hK
      simp only [putAll, Act.put, List.setIfInBounds_toArray, List.set_cons_zero, List.set_cons_succ]
      go_simp
      refine (HCK.out w' hF.out.1).mono ?_
      rintro e w2 ⟨rfl, hb2⟩
      exact HKK.out _ _ ⟨_, by simp only [putAll, Act.put, List.setIfInBounds_toArray, List.set_cons_zero, List.set_cons_succ, d0] <;> rfl, h0, fun _ => rfl, h2, h3, h4, h5, h6, h7, h8, h9, h10, h11, h12, h13, h14, Lib.hid ⟨(hB).out.1.trans (hb2.mono (hB).out.2), Nat.le_trans (hB).out.2 hb2.size⟩, Lib.hid (⟨(hF).out.1.trans (hb2.mono (hF).out.1.size), (hF).out.2.1.grow hb2, (hF).out.2.2.1.grow hb2, (hF).out.2.2.2.grow hb2⟩)⟩
    · obtain rfl := Option.some.inj hi
      clear hi hil
      have d1 := h1 (hall ⟨1, .data⟩ (by simp) rfl)
      refine StepOk.plain rfl (fun K hK => ?_)
      have HKK := Lib.hid hK; clear hK
      simp only [putAll, Act.put, List.setIfInBounds_toArray, List.set_cons_zero, List.set_cons_succ]
      go_simp
      exact HKK.out _ _ ⟨_, by simp only [putAll, Act.put, List.setIfInBounds_toArray, List.set_cons_zero, List.set_cons_succ, d1] <;> rfl, h0, h1, fun _ => rfl, h3, h4, h5, h6, h7, h8, h9, h10, h11, h12, h13, h14, hB, hF⟩
    · obtain rfl := Option.some.inj hi
      clear hi hil
      have d2 := h2 (hall ⟨2, .data⟩ (by simp) rfl)
      refine StepOk.plain rfl (fun K hK => ?_)
      have HKK := Lib.hid hK; clear hK
      simp only [putAll, Act.put, List.setIfInBounds_toArray, List.set_cons_zero, List.set_cons_succ]
      go_simp
      exact HKK.out _ _ ⟨_, by simp only [putAll, Act.put, List.setIfInBounds_toArray, List.set_cons_zero, List.set_cons_succ, d2] <;> rfl, h0, h1, h2, fun _ => rfl, h4, h5, h6, h7, h8, h9, h10, h11, h12, h13, h14, hB, hF⟩
    · obtain rfl := Option.some.inj hi
      clear hi hil
      have d3 := h3 (hall ⟨3, .guard⟩ (by simp) rfl)
      have kb := hF.out.2.2.1
      have c0 := kb.b0
      have c1 := kb.b1
      have c2 := kb.b2
      have c3 := kb.b3
      simp only at c0 c1 c2 c3
      refine StepOk.on 3 false rfl rfl d3 (fun K hK => ?_)
      have HKK := Lib.hid hK; clear hK
      simp only [putAll, Act.put, List.setIfInBounds_toArray, List.set_cons_zero, List.set_cons_succ]
      go_simp
      exact HKK.out _ _ ⟨_, by simp only [putAll, Act.put, List.setIfInBounds_toArray, List.set_cons_zero, List.set_cons_succ, d3] <;> rfl, h0, h1, h2, h3, fun _ => rfl, h5, h6, h7, h8, h9, h10, h11, h12, h13, h14, hB, hF⟩
    · obtain rfl := Option.some.inj hi
      clear hi hil
      have d4 := h4 (hall ⟨4, .data⟩ (by simp) rfl)
      have d3 := h3 (hall ⟨3, .guard⟩ (by simp) rfl)
      refine StepOk.on 3 false rfl rfl d3 (fun K hK => ?_)
      have HKK := Lib.hid hK; clear hK
      simp only [putAll, Act.put, List.setIfInBounds_toArray, List.set_cons_zero, List.set_cons_succ]
      go_simp
      refine (HEM.out w').mono ?_
      rintro e w2 ⟨rfl, hb2⟩
      exact HKK.out _ _ ⟨_, by simp only [putAll, Act.put, List.setIfInBounds_toArray, List.set_cons_zero, List.set_cons_succ, d4, d3] <;> rfl, h0, h1, h2, h3, h4, fun _ => rfl, h6, h7, h8, h9, h10, h11, h12, h13, h14, Lib.hid ⟨(hB).out.1.trans (hb2.mono (hB).out.2), Nat.le_trans (hB).out.2 hb2.size⟩, Lib.hid (⟨(hF).out.1.trans (hb2.mono (hF).out.1.size), (hF).out.2.1.grow hb2, (hF).out.2.2.1.grow hb2, (hF).out.2.2.2.grow hb2⟩)⟩
    · obtain rfl := Option.some.inj hi
      clear hi hil
      have d3 := h3 (hall ⟨3, .data⟩ (by simp) rfl)
      have d5 := h5 (hall ⟨5, .data⟩ (by simp) rfl)
      refine StepOk.plain rfl (fun K hK => ?_)
      have HKK := Lib.hid hK; clear hK
      simp only [putAll, Act.put, List.setIfInBounds_toArray, List.set_cons_zero, List.set_cons_succ]
      go_simp
      exact HKK.out _ _ ⟨_, by simp only [putAll, Act.put, List.setIfInBounds_toArray, List.set_cons_zero, List.set_cons_succ, d3, d5] <;> rfl, h0, h1, h2, h3, h4, h5, fun _ => rfl, h7, h8, h9, h10, h11, h12, h13, h14, hB, hF⟩
    · obtain rfl := Option.some.inj hi
      clear hi hil
      have d6 := h6 (hall ⟨6, .data⟩ (by simp) rfl)
      refine StepOk.plain rfl (fun K hK => ?_)
      have HKK := Lib.hid hK; clear hK
      simp only [putAll, Act.put, List.setIfInBounds_toArray, List.set_cons_zero, List.set_cons_succ]
      go_simp
      exact HKK.out _ _ ⟨_, by simp only [putAll, Act.put, List.setIfInBounds_toArray, List.set_cons_zero, List.set_cons_succ, d6] <;> rfl, h0, h1, h2, h3, h4, h5, h6, fun _ => rfl, h8, h9, h10, h11, h12, h13, h14, hB, hF⟩
    · obtain rfl := Option.some.inj hi
      clear hi hil
      have d7 := h7 (hall ⟨7, .guard⟩ (by simp) rfl)
      have kb := hF.out.2.2.1
      have c0 := kb.b0
      have c1 := kb.b1
      have c2 := kb.b2
      have c3 := kb.b3
      simp only at c0 c1 c2 c3
      refine StepOk.on 7 false rfl rfl d7 (fun K hK => ?_)
      have HKK := Lib.hid hK; clear hK
      simp only [putAll, Act.put, List.setIfInBounds_toArray, List.set_cons_zero, List.set_cons_succ]
      go_simp
      exact HKK.out _ _ ⟨_, by simp only [putAll, Act.put, List.setIfInBounds_toArray, List.set_cons_zero, List.set_cons_succ, d7] <;> rfl, h0, h1, h2, h3, h4, h5, h6, h7, fun _ => rfl, h9, h10, h11, h12, h13, h14, hB, hF⟩
    · obtain rfl := Option.some.inj hi
      clear hi hil
      have d7 := h7 (hall ⟨7, .guard⟩ (by simp) rfl)
      have kb := hF.out.2.1
      have c0 : w'.cell? ⟨w.heap.size, 0, none⟩ = some (.int .i64 W) := kb.cell 0
      have c1 : w'.cell? ⟨w.heap.size, 1, none⟩ = some (.int .i64 H) := kb.cell 1
      have c2 : w'.cell? ⟨w.heap.size, 2, none⟩ = some (.slice (some ⟨bo, oo, none⟩) n cp) := kb.cell 2
      refine StepOk.on 7 false rfl rfl d7 (fun K hK => ?_)
      have HKK := Lib.hid hK; clear hK
      simp only [putAll, Act.put, List.setIfInBounds_toArray, List.set_cons_zero, List.set_cons_succ]
      go_simp
      exact HKK.out _ _ ⟨_, by simp only [putAll, Act.put, List.setIfInBounds_toArray, List.set_cons_zero, List.set_cons_succ, d7] <;> rfl, h0, h1, h2, h3, h4, h5, h6, h7, h8, fun _ => rfl, h10, h11, h12, h13, h14, hB, hF⟩
    · obtain rfl := Option.some.inj hi
      clear hi hil
      have d9 := h9 (hall ⟨9, .data⟩ (by simp) rfl)
      have d7 := h7 (hall ⟨7, .guard⟩ (by simp) rfl)
      refine StepOk.on 7 false rfl rfl d7 (fun K hK => ?_)
      have HKK := Lib.hid hK; clear hK
      simp only [putAll, Act.put, List.setIfInBounds_toArray, List.set_cons_zero, List.set_cons_succ]
      go_simp
      refine (imBox_c W H (.slice (some ⟨bo, oo, none⟩) n cp) w').mono ?_
      rintro e w2 ⟨rfl, hb2⟩
      exact HKK.out _ _ ⟨_, by simp only [putAll, Act.put, List.setIfInBounds_toArray, List.set_cons_zero, List.set_cons_succ, d9, d7] <;> rfl, h0, h1, h2, h3, h4, h5, h6, h7, h8, h9, fun _ => rfl, h11, h12, h13, h14, Lib.hid ⟨(hB).out.1.trans (hb2.mono (hB).out.2), Nat.le_trans (hB).out.2 hb2.size⟩, Lib.hid (⟨(hF).out.1.trans (hb2.mono (hF).out.1.size), (hF).out.2.1.grow hb2, (hF).out.2.2.1.grow hb2, (hF).out.2.2.2.grow hb2⟩)⟩
    · obtain rfl := Option.some.inj hi
      clear hi hil
      have d8 := h8 (hall ⟨8, .data⟩ (by simp) rfl)
      have d10 := h10 (hall ⟨10, .data⟩ (by simp) rfl)
      have d7 := h7 (hall ⟨7, .guard⟩ (by simp) rfl)
      refine StepOk.on 7 false rfl rfl d7 (fun K hK => ?_)
      have HKK := Lib.hid hK; clear hK
      simp only [putAll, Act.put, List.setIfInBounds_toArray, List.set_cons_zero, List.set_cons_succ]
      go_simp
      refine (HMT.out w').mono ?_
      rintro e w2 ⟨rfl, hb2⟩
      exact HKK.out _ _ ⟨_, by simp only [putAll, Act.put, List.setIfInBounds_toArray, List.set_cons_zero, List.set_cons_succ, d8, d10, d7] <;> rfl, h0, h1, h2, h3, h4, h5, h6, h7, h8, h9, h10, fun _ => rfl, h12, h13, h14, Lib.hid ⟨(hB).out.1.trans (hb2.mono (hB).out.2), Nat.le_trans (hB).out.2 hb2.size⟩, Lib.hid (⟨(hF).out.1.trans (hb2.mono (hF).out.1.size), (hF).out.2.1.grow hb2, (hF).out.2.2.1.grow hb2, (hF).out.2.2.2.grow hb2⟩)⟩
    · obtain rfl := Option.some.inj hi
      clear hi hil
      have d7 := h7 (hall ⟨7, .guard⟩ (by simp) rfl)
      have kb := hF.out.2.2.1
      have c0 := kb.b0
      have c1 := kb.b1
      have c2 := kb.b2
      have c3 := kb.b3
      simp only at c0 c1 c2 c3
      refine StepOk.on 7 false rfl rfl d7 (fun K hK => ?_)
      have HKK := Lib.hid hK; clear hK
      simp only [putAll, Act.put, List.setIfInBounds_toArray, List.set_cons_zero, List.set_cons_succ]
      go_simp
      exact HKK.out _ _ ⟨_, by simp only [putAll, Act.put, List.setIfInBounds_toArray, List.set_cons_zero, List.set_cons_succ, d7] <;> rfl, h0, h1, h2, h3, h4, h5, h6, h7, h8, h9, h10, h11, fun _ => rfl, h13, h14, hB, hF⟩
    · obtain rfl := Option.some.inj hi
      clear hi hil
      have d11 := h11 (hall ⟨11, .data⟩ (by simp) rfl)
      have d12 := h12 (hall ⟨12, .data⟩ (by simp) rfl)
      have d7 := h7 (hall ⟨7, .guard⟩ (by simp) rfl)
      refine StepOk.on 7 false rfl rfl d7 (fun K hK => ?_)
      have HKK := Lib.hid hK; clear hK
      simp only [putAll, Act.put, List.setIfInBounds_toArray, List.set_cons_zero, List.set_cons_succ]
      go_simp
      exact HKK.out _ _ ⟨_, by simp only [putAll, Act.put, List.setIfInBounds_toArray, List.set_cons_zero, List.set_cons_succ, d11, d12, d7] <;> rfl, h0, h1, h2, h3, h4, h5, h6, h7, h8, h9, h10, h11, h12, fun _ => rfl, h14, hB, hF⟩
    · obtain rfl := Option.some.inj hi
      clear hi hil
      have d7 := h7 (hall ⟨7, .data⟩ (by simp) rfl)
      have d13 := h13 (hall ⟨13, .data⟩ (by simp) rfl)
      refine StepOk.plain rfl (fun K hK => ?_)
      have HKK := Lib.hid hK; clear hK
      simp only [putAll, Act.put, List.setIfInBounds_toArray, List.set_cons_zero, List.set_cons_succ]
      go_simp
      exact HKK.out _ _ ⟨_, by simp only [putAll, Act.put, List.setIfInBounds_toArray, List.set_cons_zero, List.set_cons_succ, d7, d13] <;> rfl, h0, h1, h2, h3, h4, h5, h6, h7, h8, h9, h10, h11, h12, h13, fun _ => rfl, hB, hF⟩
    · omega
  · rintro b' vs w2 hall ⟨h0, h1, h2, h3, h4, h5, h6, h7, h8, h9, h10, h11, h12, h13, h14, hB, hF⟩
    have d0 := h0 (hall 0 (by simp))
    have d1 := h1 (hall 1 (by simp))
    have d2 := h2 (hall 2 (by simp))
    have d3 := h3 (hall 3 (by simp))
    have d4 := h4 (hall 4 (by simp))
    have d5 := h5 (hall 5 (by simp))
    have d6 := h6 (hall 6 (by simp))
    have d7 := h7 (hall 7 (by simp))
    have d8 := h8 (hall 8 (by simp))
    have d9 := h9 (hall 9 (by simp))
    have d10 := h10 (hall 10 (by simp))
    have d11 := h11 (hall 11 (by simp))
    have d12 := h12 (hall 12 (by simp))
    have d13 := h13 (hall 13 (by simp))
    have d14 := h14 (hall 14 (by simp))
    have BB := hB
    have FF := hF
    simp only [putAll, Act.put, List.setIfInBounds_toArray, List.set_cons_zero, List.set_cons_succ, d0, d1, d2, d3, d4, d5, d6, d7, d8, d9, d10, d11, d12, d13, d14]
    clear hall h0 d0 h1 d1 h2 d2 h3 d3 h4 d4 h5 d5 h6 d6 h7 d7 h8 d8 h9 d9 h10 d10 h11 d11 h12 d12 h13 d13 h14 d14 hB hF
    have P2 : Hid (Below w.heap.size w w2 ∧ Blk w2 w.heap.size 24 #[.int .i64 W, .int .i64 H, .slice (some ⟨bo, oo, none⟩) n cp] ∧ Blk w2 (w.heap.size + 1) 26 (fourB ⟨x0, y0, x1, y1⟩) ∧ Blk w2 (w.heap.size + 2) 24 #[.int .i64 0, .int .i64 0, .slice none 0 0]) := ⟨FF.out.1, FF.out.2.1, FF.out.2.2.1, FF.out.2.2.2⟩
    have c0 := P2.out.2.2.1.b0
    have c1 := P2.out.2.2.1.b1
    have c2 := P2.out.2.2.1.b2
    have c3 := P2.out.2.2.1.b3
    simp only at c0 c1 c2 c3
    clear FF BB P1 HCK HEM HMT
    go_upto_region 4 with fail
    obtain ⟨w3, hw3⟩ : ∃ WW, w2.alloc (.cells #[.int .i64 (cw : Int), .int .i64 (ch : Int), .slice none 0 0] 24) = WW := ⟨_, rfl⟩
    have P3 : Hid (Below w.heap.size w w3 ∧ Blk w3 w.heap.size 24 #[.int .i64 W, .int .i64 H, .slice (some ⟨bo, oo, none⟩) n cp] ∧ Blk w3 (w.heap.size + 1) 26 (fourB ⟨x0, y0, x1, y1⟩) ∧ Blk w3 (w.heap.size + 2) 24 #[.int .i64 0, .int .i64 0, .slice none 0 0]) := by
      rw [← hw3]
      exact ⟨P2.out.1.alloc P2.out.1.size _, P2.out.2.1.alloc _, P2.out.2.2.1.alloc _, P2.out.2.2.2.alloc _⟩
    have S3 : Hid (CrS w3 w2.heap.size (cw : Int) (ch : Int) (.slice none 0 0) [] w3) := by
      rw [← hw3]
      exact ⟨Blk.new _ _ _, OwnK.nil _ _ _ _, Keep.refl _ _, by simp⟩
    have HG : Hid (w.heap.size + 2 < w2.heap.size) := P2.out.2.2.2.lt
    rw [hw3]
    clear hw3 c0 c1 c2 c3 P2 ew eh
    have c1 := P3.out.2.2.1.b1
    simp only at c1
    go_wp2_with fail
    clear c1
    go_loopw [7] (fun y wr => ∃ j : Nat, j ≤ ch ∧ y = .int .i64 (y0 + (j : Int)) ∧ Hid (∃ u, CrS w3 w2.heap.size (cw : Int) (ch : Int) u (crT W x0 y0 cw l (j * cw)) wr)) (fun y _ => (y1 - intOf y).toNat)
    case atStart => exact ⟨0, by omega, by simp, Lib.hid ⟨_, by rw [Nat.zero_mul]; exact S3.out⟩⟩
    case round =>
      obtain ⟨j, hj, rfl, hst⟩ := hrel
      obtain ⟨u, hu⟩ := hst.out
      clear hst
      obtain ⟨w8, hw8⟩ : ∃ x, x = wr := ⟨_, rfl⟩
      rw [← hw8] at hu ⊢
      clear hw8
      obtain ⟨L, hL⟩ : ∃ L, crT W x0 y0 cw l (j * cw) = L := ⟨_, rfl⟩
      rw [hL] at hu
      obtain ⟨ua, uc, rfl⟩ := hu.row.shape
      obtain ⟨un, hun⟩ : ∃ un, L.length = un := ⟨_, rfl⟩
      rw [hun] at hu
      have S8 := Lib.hid hu
      have KM8 : Hid (Blk w8 w.heap.size 24 #[.int .i64 W, .int .i64 H, .slice (some ⟨bo, oo, none⟩) n cp] ∧ Blk w8 (w.heap.size + 1) 26 (fourB ⟨x0, y0, x1, y1⟩) ∧ Blk w8 (w.heap.size + 2) 24 #[.int .i64 0, .int .i64 0, .slice none 0 0]) :=
        ⟨hu.keep.blk P3.out.2.1 (by have := HG.out; omega), hu.keep.blk P3.out.2.2.1 (by have := HG.out; omega), hu.keep.blk P3.out.2.2.2 (by have := HG.out; omega)⟩
      have B8 : Hid (Below w.heap.size w w8) := P3.out.1.trans (hu.keep.below (fun k hk => by have := HG.out; omega) P3.out.1.size)
      have b3 := KM8.out.2.1.b3
      simp only at b3
      obtain ⟨yy, hyy⟩ : ∃ yy, y0 + (j : Int) = yy := ⟨_, rfl⟩
      rw [hyy]
      by_cases hlt : j < ch
      · have hd : decide (yy < y1) = true := by have := HWH.out; simp; omega
        have HLT := Lib.hid hlt
        obtain ⟨f, t, hfp⟩ : ∃ f t : Nat, Hid (yy * W + x0 = f ∧ yy * W + x1 = t ∧ f < t ∧ t ≤ n ∧ (0 ≤ yy * W ∧ yy * W ≤ 65536) ∧ t - f = cw ∧ yy = y0 + (j : Int) ∧ y1 = y0 + (ch : Int)) := by
          have h1 := HWH.out
          have h7 : 0 ≤ yy * W := Int.mul_nonneg (by omega) (by omega)
          have h8 : (yy + 1) * W ≤ H * W := Int.mul_le_mul_of_nonneg_right (by omega) (by omega)
          rw [Int.add_mul, Int.mul_comm H W] at h8
          generalize yy * W = p at *
          generalize W * H = q at *
          exact ⟨(p + x0).toNat, (p + x1).toNat, by unfold Hid; omega⟩
        obtain ⟨d, hd0⟩ : ∃ d, t - f = d := ⟨_, rfl⟩
        have HRW : Hid (∀ A, Calls Try.prog 36 #[.agg #[.int .i64 W, .int .i64 H, .slice (some ⟨bo, oo, none⟩) n cp], .agg #[.int .i64 x0, .int .i64 y0, .int .i64 x1, .int .i64 y1], .int .i64 yy] A fun e w' => e = .returned (.slice (some ⟨bo, oo + f * 4, none⟩) d d) ∧ Below A.heap.size A w') := fun A => by
          have h := row_c W H yy (yy * W) ⟨x0, y0, x1, y1⟩ bo oo n cp f t rfl (by have := hfp.out; omega) hfp.out.1 hfp.out.2.1 hfp.out.2.2.1 (by have := hfp.out; have := HWH.out; omega) (by have := hfp.out; have := HWH.out; omega) A
          rw [hd0] at h
          exact h
        obtain ⟨rowL, hrow⟩ : ∃ rowL, rowPx l f d = rowL := ⟨_, rfl⟩
        have HRL : Hid (rowL.length = d) := by unfold Hid; rw [← hrow]; simp [rowPx]
        obtain ⟨L2, hL2⟩ : ∃ L2, L ++ rowL = L2 := ⟨_, rfl⟩
        have HL2 := Lib.hid hL2
        have HSUC : Hid (crT W x0 y0 cw l ((j + 1) * cw) = L2) := by
          unfold Hid
          rw [← hL2, ← hL, ← hrow, ← hd0, hfp.out.2.2.2.2.2.1]
          exact crT_next (by have := HWH.out; omega) (by have := hfp.out; have := HWH.out; omega) (by rw [hyy]; exact hfp.out.1)
        have HCO : Hid (bo < w8.heap.size ∧ ColsAt .u8 w8 bo (oo + f * 4) rowL) := by
          refine ⟨Nat.lt_of_lt_of_le HBO.out.1 B8.out.size, ?_⟩
          rw [← hrow]
          exact rowPx_at (HBO.out.2.on8 (B8.out.mono (Nat.le_refl _)) HBO.out.1) (by have := hfp.out; rw [HN.out]; omega)
        have HLL : Hid (L.length + rowL.length ≤ 100000) := by
          unfold Hid
          have h1 := HWH.out
          have h3 : L.length = j * cw := by rw [← hL]; simp [crT]
          have h4 : j * cw ≤ 256 * 256 := Nat.mul_le_mul (by omega) (by omega)
          rw [h3, HRL.out, ← hd0, hfp.out.2.2.2.2.2.1]; omega
        have ey : wrap64 (yy + 1) = yy + 1 := by have := hfp.out; have := HWH.out; exact wrapR _ (by omega) (by omega)
        clear hL hun hu hd0 hrow hL2 hlt hyy
        go_wp2_with fail
        clear b3
        refine wp_region_put2 (by kernel_rfl) (by kernel_rfl) (by kernel_rfl) (fun b' vs w' => (b' 0 = true → vs 0 = .pointer (some ⟨w2.heap.size, 2, none⟩)) ∧ (b' 1 = true → vs 1 = .slice ua un uc) ∧ (b' 2 = true → vs 2 = .agg #[.int .i64 W, .int .i64 H, .slice (some ⟨bo, oo, none⟩) n cp]) ∧ (b' 3 = true → vs 3 = .agg #[.int .i64 x0, .int .i64 y0, .int .i64 x1, .int .i64 y1]) ∧ (b' 4 = true → vs 4 = .int .i64 yy) ∧ (b' 5 = true → vs 5 = .slice (some ⟨bo, oo + f * 4, none⟩) d d) ∧ (b' 7 = true → vs 7 = .pointer (some ⟨w2.heap.size, 2, none⟩)) ∧ (b' 6 = false → Hid (Below w8.heap.size w8 w')) ∧ (b' 6 = true → b' 8 = false → Hid (∃ A0, CrS w3 w2.heap.size (cw : Int) (ch : Int) (.slice ua un uc) L A0 ∧ OwnK .u8 w' (w2.heap.size + 1) 28 (vs 6) L2 ∧ A0.grownBy w' (Value.ownBlock (.slice ua un uc)))) ∧ (b' 8 = true → Hid (∃ u2, CrS w3 w2.heap.size (cw : Int) (ch : Int) u2 L2 w')) ∧ (b' 8 = true → b' 6 = true) ∧ (b' 1 = true → b' 0 = true) ∧ (b' 6 = true → b' 1 = true) ∧ (b' 5 = true → b' 2 = true) ∧ (b' 5 = true → b' 3 = true) ∧ (b' 5 = true → b' 4 = true) ∧ (b' 6 = true → b' 5 = true) ∧ (b' 8 = true → b' 7 = true)) ?_ ?_ ?_
        · intro vs hvs
          exact ⟨fun h => Bool.noConfusion h, fun h => Bool.noConfusion h, fun h => Bool.noConfusion h, fun h => Bool.noConfusion h, fun h => Bool.noConfusion h, fun h => Bool.noConfusion h, fun h => Bool.noConfusion h, fun _ => Lib.hid ⟨rfl, rfl, rfl, Nat.le_refl _, fun _ _ => rfl⟩, fun h => Bool.noConfusion h, fun h => Bool.noConfusion h, fun h => Bool.noConfusion h, fun h => Bool.noConfusion h, fun h => Bool.noConfusion h, fun h => Bool.noConfusion h, fun h => Bool.noConfusion h, fun h => Bool.noConfusion h, fun h => Bool.noConfusion h, fun h => Bool.noConfusion h⟩
        · rintro b' vs w' i op hi hun hall ⟨h0, h1, h2, h3, h4, h5, h7, yE, yA, yS, yT, e0, e1, e2, e3, e4, e5, e7⟩
          have hil : i < 9 := (List.getElem?_eq_some_iff.1 hi).1
          rcases i with _ | _ | _ | _ | _ | _ | _ | _ | _ | i
          · obtain rfl := Option.some.inj hi
            refine wpOp_step rfl (fun K hK => ?_)
            have HKK := Lib.hid hK; clear hK
            simp only [putAll, Act.put, List.setIfInBounds_toArray, List.set_cons_zero, List.set_cons_succ]
            go_simp
            exact HKK.out _ _ ⟨_, by simp only [putAll, Act.put, List.setIfInBounds_toArray, List.set_cons_zero, List.set_cons_succ] <;> rfl, fun _ => rfl, h1, h2, h3, h4, h5, h7, yE, yA, yS, yT, fun _ => rfl, e1, e2, e3, e4, e5, e7⟩
          · obtain rfl := Option.some.inj hi
            have h6f : b' 6 = false := Bool.eq_false_iff.2 (fun h => absurd (((e1 h)).symm.trans hun) (by decide))
            have d0 := h0 (hall ⟨0, .data⟩ (by simp) rfl)
            have kb := (S8.out.step (yE h6f).out).blk
            have c0 : w'.cell? ⟨w2.heap.size, 2, none⟩ = some (.slice ua un uc) := kb.cell 2
            refine wpOp_step rfl (fun K hK => ?_)
            have HKK := Lib.hid hK; clear hK
            simp only [putAll, Act.put, List.setIfInBounds_toArray, List.set_cons_zero, List.set_cons_succ, d0]
            go_simp
            exact HKK.out _ _ ⟨_, by simp only [putAll, Act.put, List.setIfInBounds_toArray, List.set_cons_zero, List.set_cons_succ, d0] <;> rfl, h0, fun _ => rfl, h2, h3, h4, h5, h7, yE, yA, yS, yT, fun _ => hall ⟨0, .data⟩ (by simp) rfl, fun _ => rfl, e2, e3, e4, e5, e7⟩
          · obtain rfl := Option.some.inj hi
            have h6f : b' 6 = false := Bool.eq_false_iff.2 (fun h => absurd (((e2 (e5 h))).symm.trans hun) (by decide))
            have kb := KM8.out.1.grow (yE h6f).out
            have c0 : w'.cell? ⟨w.heap.size, 0, none⟩ = some (.int .i64 W) := kb.cell 0
            have c1 : w'.cell? ⟨w.heap.size, 1, none⟩ = some (.int .i64 H) := kb.cell 1
            have c2 : w'.cell? ⟨w.heap.size, 2, none⟩ = some (.slice (some ⟨bo, oo, none⟩) n cp) := kb.cell 2
            refine wpOp_step rfl (fun K hK => ?_)
            have HKK := Lib.hid hK; clear hK
            simp only [putAll, Act.put, List.setIfInBounds_toArray, List.set_cons_zero, List.set_cons_succ]
            go_simp
            exact HKK.out _ _ ⟨_, by simp only [putAll, Act.put, List.setIfInBounds_toArray, List.set_cons_zero, List.set_cons_succ] <;> rfl, h0, h1, fun _ => rfl, h3, h4, h5, h7, yE, yA, yS, yT, e0, e1, fun _ => rfl, e3, e4, e5, e7⟩
          · obtain rfl := Option.some.inj hi
            have h6f : b' 6 = false := Bool.eq_false_iff.2 (fun h => absurd (((e3 (e5 h))).symm.trans hun) (by decide))
            have kb := KM8.out.2.1.grow (yE h6f).out
            have c0 := kb.b0
            have c1 := kb.b1
            have c2 := kb.b2
            have c3 := kb.b3
            simp only at c0 c1 c2 c3
            refine wpOp_step rfl (fun K hK => ?_)
            have HKK := Lib.hid hK; clear hK
            simp only [putAll, Act.put, List.setIfInBounds_toArray, List.set_cons_zero, List.set_cons_succ]
            go_simp
            exact HKK.out _ _ ⟨_, by simp only [putAll, Act.put, List.setIfInBounds_toArray, List.set_cons_zero, List.set_cons_succ] <;> rfl, h0, h1, h2, fun _ => rfl, h4, h5, h7, yE, yA, yS, yT, e0, e1, e2, fun _ => rfl, e4, e5, e7⟩
          · obtain rfl := Option.some.inj hi
            refine wpOp_step rfl (fun K hK => ?_)
            have HKK := Lib.hid hK; clear hK
            simp only [putAll, Act.put, List.setIfInBounds_toArray, List.set_cons_zero, List.set_cons_succ]
            go_simp
            exact HKK.out _ _ ⟨_, by simp only [putAll, Act.put, List.setIfInBounds_toArray, List.set_cons_zero, List.set_cons_succ] <;> rfl, h0, h1, h2, h3, fun _ => rfl, h5, h7, yE, yA, yS, yT, e0, e1, e2, e3, fun _ => rfl, e5, e7⟩
          · obtain rfl := Option.some.inj hi
            have h6f : b' 6 = false := Bool.eq_false_iff.2 (fun h => absurd (((e5 h)).symm.trans hun) (by decide))
            have g2 := hall ⟨2, .data⟩ (by simp) rfl
            have g3 := hall ⟨3, .data⟩ (by simp) rfl
            have g4 := hall ⟨4, .data⟩ (by simp) rfl
            have d2 := h2 (hall ⟨2, .data⟩ (by simp) rfl)
            have d3 := h3 (hall ⟨3, .data⟩ (by simp) rfl)
            have d4 := h4 (hall ⟨4, .data⟩ (by simp) rfl)
            refine wpOp_step rfl (fun K hK => ?_)
            have HKK := Lib.hid hK; clear hK
            simp only [putAll, Act.put, List.setIfInBounds_toArray, List.set_cons_zero, List.set_cons_succ, d2, d3, d4]
            go_simp
            refine (HRW.out w').mono ?_
            rintro e w'' ⟨rfl, hb2⟩
            exact HKK.out _ _ ⟨_, by simp only [putAll, Act.put, List.setIfInBounds_toArray, List.set_cons_zero, List.set_cons_succ, d2, d3, d4] <;> rfl, h0, h1, h2, h3, h4, fun _ => rfl, h7, fun h => Lib.hid ((yE h6f).out.trans (hb2.mono (yE h6f).out.size)), fun h => absurd (h6f.symm.trans h) (by decide), fun h => absurd (h6f.symm.trans (yT h)) (by decide), yT, e0, e1, fun _ => g2, fun _ => g3, fun _ => g4, fun _ => rfl, e7⟩
          · obtain rfl := Option.some.inj hi
            have g1 := hall ⟨1, .data⟩ (by simp) rfl
            have g5 := hall ⟨5, .data⟩ (by simp) rfl
            have h8f : b' 8 = false := Bool.eq_false_iff.2 (fun h => absurd ((yT h).symm.trans hun) (by decide))
            have d1 := h1 (hall ⟨1, .data⟩ (by simp) rfl)
            have d5 := h5 (hall ⟨5, .data⟩ (by simp) rfl)
            have hE := (yE hun).out
            have SA := Lib.hid (S8.out.step hE)
            refine wpOp_step rfl (fun K hK => ?_)
            have HKK := Lib.hid hK; clear hK
            simp only [putAll, Act.put, List.setIfInBounds_toArray, List.set_cons_zero, List.set_cons_succ]
            refine (if_pos rfl).mpr (wp_app_cols _ _ 22 28 rfl Try.underlying22 infoC8 (w2.heap.size + 1) _ L rowL d1 SA.out.row bo (oo + f * 4) d d HRL.out d5 (HCO.out.2.on8 hE HCO.out.1) HLL.out SA.out.size ?_)
            intro u2 w7 ho2 hg2 _
            rw [HL2.out] at ho2
            exact HKK.out _ _ ⟨_, by simp only [putAll, Act.put, List.setIfInBounds_toArray, List.set_cons_zero, List.set_cons_succ, d1, d5] <;> rfl, h0, h1, h2, h3, h4, h5, h7, fun h => Bool.noConfusion h, fun _ _ => Lib.hid ⟨_, SA.out, ho2, hg2⟩, fun h => absurd (h8f.symm.trans h) (by decide), fun _ => rfl, e0, fun _ => g1, e2, e3, e4, fun _ => g5, e7⟩
          · obtain rfl := Option.some.inj hi
            refine wpOp_step rfl (fun K hK => ?_)
            have HKK := Lib.hid hK; clear hK
            simp only [putAll, Act.put, List.setIfInBounds_toArray, List.set_cons_zero, List.set_cons_succ]
            go_simp
            exact HKK.out _ _ ⟨_, by simp only [putAll, Act.put, List.setIfInBounds_toArray, List.set_cons_zero, List.set_cons_succ] <;> rfl, h0, h1, h2, h3, h4, h5, fun _ => rfl, yE, yA, yS, yT, e0, e1, e2, e3, e4, e5, fun _ => rfl⟩
          · obtain rfl := Option.some.inj hi
            have g6 := hall ⟨6, .data⟩ (by simp) rfl
            have g7 := hall ⟨7, .data⟩ (by simp) rfl
            have d7 := h7 (hall ⟨7, .data⟩ (by simp) rfl)
            have x0 := h0 (e0 (e1 g6))
            have x1 := h1 (e1 g6)
            have x2 := h2 (e2 (e5 g6))
            have x3 := h3 (e3 (e5 g6))
            have x4 := h4 (e4 (e5 g6))
            have x5 := h5 (e5 g6)
            obtain ⟨A0, hA1, hA2, hA3⟩ := (yA g6 hun).out
            obtain ⟨va, vc, e6⟩ := hA2.shape
            rw [e6] at hA2
            have hF := Lib.hid (hA1.app hA2 hA3)
            have kv := hA1.var hA3
            have c0 : w'.cell? ⟨w2.heap.size, 2, none⟩ = some (.slice ua un uc) := kv.cell 2
            have f2 := kv.free 2
            have lg := kv.lt
            clear kv hA1 hA2 hA3
            refine wpOp_step rfl (fun K hK => ?_)
            have HKK := Lib.hid hK; clear hK
            simp only [putAll, Act.put, List.setIfInBounds_toArray, List.set_cons_zero, List.set_cons_succ, e6, d7, x0, x1, x2, x3, x4, x5]
            go_simp
            exact HKK.out _ _ ⟨undef, by simp only [putAll, Act.put, List.setIfInBounds_toArray, List.set_cons_zero, List.set_cons_succ, e6, d7, x0, x1, x2, x3, x4, x5] <;> rfl, h0, h1, h2, h3, h4, h5, h7, fun h => absurd (g6.symm.trans h) (by decide), fun _ h => Bool.noConfusion h, fun _ => Lib.hid ⟨_, hF.out⟩, fun _ => g6, e0, e1, e2, e3, e4, e5, fun _ => g7⟩
          · exact absurd hil (by omega)
        · rintro b' vs w' hb ⟨h0, h1, h2, h3, h4, h5, h7, yE, yA, yS, yT, e0, e1, e2, e3, e4, e5, e7⟩
          obtain ⟨u2, hu2⟩ := (yS (hb 8 (by decide))).out
          have S9 := Lib.hid hu2
          have v0 := h0 (hb 0 (by decide))
          have v1 := h1 (hb 1 (by decide))
          have v2 := h2 (hb 2 (by decide))
          have v3 := h3 (hb 3 (by decide))
          have v4 := h4 (hb 4 (by decide))
          have v5 := h5 (hb 5 (by decide))
          have v7 := h7 (hb 7 (by decide))
          simp only [putAll, Act.put, List.setIfInBounds_toArray, List.set_cons_zero, List.set_cons_succ, v0, v1, v2, v3, v4, v5, v7]
          clear h0 h1 h2 h3 h4 h5 h7 yE yA yS yT e0 e1 e2 e3 e4 e5 e7 hb hu2 v0 v1 v2 v3 v4 v5 v7
          go_wp2_with fail
          exact ⟨⟨j + 1, by have := HLT.out; omega, by have h := hfp.out; rw [ey]; exact congrArg (Value.int .i64) (by omega), Lib.hid ⟨_, by rw [HSUC.out]; exact S9.out⟩⟩, by have := HLT.out; have := hfp.out; simp [intOf]; omega⟩
      · have hd : decide (yy < y1) = false := by have := HWH.out; simp; omega
        have hjc : j = ch := by omega
        have hyn : ¬ yy < y1 := by have := HWH.out; omega
        have kp := S8.out.blk
        have a0 : w8.cell? ⟨w2.heap.size, 0, none⟩ = some (.int .i64 (cw : Int)) := kp.cell 0
        have a1 : w8.cell? ⟨w2.heap.size, 1, none⟩ = some (.int .i64 (ch : Int)) := kp.cell 1
        have a2 : w8.cell? ⟨w2.heap.size, 2, none⟩ = some (.slice ua un uc) := kp.cell 2
        have kz := KM8.out.2.2
        have z0 : w8.cell? ⟨w.heap.size + 2, 0, none⟩ = some (.int .i64 0) := kz.cell 0
        have z1 : w8.cell? ⟨w.heap.size + 2, 1, none⟩ = some (.int .i64 0) := kz.cell 1
        have z2 : w8.cell? ⟨w.heap.size + 2, 2, none⟩ = some (.slice none 0 0) := kz.cell 2
        have f0 := kz.free 0
        have f1 := kz.free 1
        have f2 := kz.free 2
        have lg := kz.lt
        have HLE : Hid (L = crT W x0 y0 cw l (ch * cw)) := by unfold Hid; rw [← hL, hjc]
        clear kp kz hL hun hu hjc hyy hlt
        go_wp2_with fail
        refine bodyPost_ret (results_imG rfl rfl rfl (KM8.out.2.2.set3 _ _ _)) rfl ⟨_, rfl, ?_, below_three B8.out (by omega) _ _ _⟩
        rw [← HLE.out]
        exact (OwnK.keep (S := fun k => k ≠ w.heap.size + 2) S8.out.row (Keep.set3 _ _ _ _ _ (fun e => e rfl)) (fun k hk e => by have := (World.ownsRow.lt S8.out.row k hk).1; have := HG.out; omega)).row
theorem cropOk : CropOk := by
  intro W H x0 y0 x1 y1 s l w row hcs hok hl
  cases hr : rightIm W H l with
  | false => exact (crop_n W H x0 y0 x1 y1 s l w row hok hl hr).mono fun e w' h => ⟨fun h2 => (by cases h2), fun _ => h⟩
  | true =>
    cases he : emptyI ⟨x0, y0, x1, y1⟩ with
    | true =>
      have hcb : cropB W H x0 y0 x1 y1 = true := by
        cases h : cropB W H x0 y0 x1 y1 with
        | true => rfl
        | false =>
          have := cropB_no.1 h
          unfold emptyI at he; simp only [Bool.or_eq_true, decide_eq_true_eq] at he; omega
      exact (crop_e W H x0 y0 x1 y1 s l w row hok hl hr he).mono fun e w' h => ⟨fun _ h2 => (by rw [hcb] at h2; cases h2), fun _ => h⟩
    | false =>
      cases hcb : cropB W H x0 y0 x1 y1 with
      | true => exact (crop_w W H x0 y0 x1 y1 s l w row hok hl hr he hcb).mono fun e w' h => ⟨fun _ h2 => (by cases h2), fun _ => h⟩
      | false => exact (crop_y W H x0 y0 x1 y1 s l w row hok hl hcs hr hcb).mono fun e w' h => ⟨fun _ _ => h, fun h2 => (by cases h2)⟩
end Go.Proofs.Ytoppmlfibllhlaa
