/- Layer 11: the law ImageParses. -/
import Derived.Test.YtoppmlfibllhlaaKa
import Derived.Test.YtoppmlfibllhlaaIg
import Derived.BigQuiet
namespace Go.Proofs.Ytoppmlfibllhlaa
open Go.RowKit
set_option maxHeartbeats 4000000 in
set_option maxRecDepth 100000 in
theorem imageParses_big (AW : AwakeOk) (s : Value) (E : List Int) (w : World) (row : RowB w s E) (h : 2000 < E.length) : Calls Try.prog 7 #[s] w fun e w' => e = .returned (.bool true) ∧ Below w.heap.size w w' := by
  have HAW := Lib.hid AW
  obtain ⟨ao, cp, rfl⟩ := row.shape
  obtain ⟨n, hn⟩ : ∃ n, E.length = n := ⟨_, rfl⟩
  rw [hn] at h ⊢
  have hd : decide ((n : Int) > 2000) = true := by simp; omega
  clear row hn h
  go_enter Try.func7, Try.ntmps7
  go_wp2_with fail
  refine (HAW.out _).mono ?_
  rintro e wa ⟨rfl, hb⟩
  have BA : Hid (Below w.heap.size w wa) := hb
  clear hb
  go_wp2_with fail
  go_ret
  exact ⟨rfl, BA.out⟩
set_option maxHeartbeats 4000000 in
set_option maxRecDepth 100000 in
theorem imageParses_small (AW : AwakeOk) (PA : ParseOk) (s : Value) (E : List Int) (w : World) (row : RowB w s E) (hE : OkB E) (h : E.length ≤ 2000) : Calls Try.prog 7 #[s] w fun e w' => e = .returned (.bool true) ∧ Below w.heap.size w w' := by
  have HAW := Lib.hid AW
  have HEM := Lib.hid empty_c
  have HPA := Lib.hid (PA s E w row hE (by omega))
  have HCV : Hid (∀ A, Below w.heap.size w A → (convert 58 9 s).run Try.prog A = .ok (.string (strI E)) A) := fun A hA => conv_b (row.on hA) hE
  have HOE := Lib.hid hE
  obtain ⟨ao, cp, rfl⟩ := row.shape
  have HLE := Lib.hid h
  obtain ⟨n, hn⟩ : ∃ n, E.length = n := ⟨_, rfl⟩
  rw [hn] at h HPA HCV ⊢
  have hd : decide ((n : Int) > 2000) = false := by simp; omega
  clear row hn h hE
  go_enter Try.func7, Try.ntmps7
  go_wp2_with fail
  refine (HPA.out).mono ?_
  rintro e w1 (⟨W, H, l, hI, v, rfl, hrow, hb⟩ | ⟨_, v, rfl, hrow, hb⟩)
  · have B1 := Lib.hid hb
    obtain ⟨hr, hok, hby⟩ := hI
    obtain ⟨q1, q2, q3, q4', q5, _⟩ := rightIm_iff.1 hr
    have hpr := side_prod (W := W) (H := H) (by omega) (by omega) (by omega) (by omega)
    have hll : l.length ≤ 70000 := by omega
    have HRF : Hid (∀ A, Below w1.heap.size w1 A → Calls Try.prog 11 #[.agg #[.int .i64 W, .int .i64 H, v]] A fun e w' => ∃ u, e = .returned (.agg #[.int .i64 W, .int .i64 H, u]) ∧ OwnK .i64 w' A.heap.size 43 u l ∧ Below A.heap.size A w') := fun A hA => lawRef_c W H _ l A (hrow.on hA) hok hll
    have HRT : Hid (∀ A u, RowK .i64 A u l → Calls Try.prog 13 #[.agg #[.int .i64 W, .int .i64 H, u]] A fun e w' => e = .returned (.bool true) ∧ Below A.heap.size A w') := fun A u hu => by
      have h2 := ref11Right_c W H u l A hu
      rw [hr] at h2
      exact h2
    have HBY : Hid (∀ A u, RowK .i64 A u l → Calls Try.prog 26 #[.agg #[.int .i64 W, .int .i64 H, u]] A fun e w' => ∃ v, e = .returned v ∧ OwnB w' A.heap.size v E ∧ Below A.heap.size A w') := fun A u hu => by
      have h2 := ref11Bytes_c W H u l A hu hok ⟨q1, q2⟩ ⟨q3, q4'⟩ hll (by rw [hby]; have := HLE.out; omega)
      rw [hby] at h2
      exact h2
    obtain ⟨va, vc, rfl⟩ := hrow.shape
    clear hb hr hok hby q1 q2 q3 q4' q5 hpr hll hrow
    generalize l.length = m at *
    go_upto_region 6 with fail
    obtain ⟨w2, hw⟩ : ∃ WW, w1.alloc (.cells #[.int .i64 W, .int .i64 H, .slice va m vc] 24) = WW := ⟨_, rfl⟩
    have HK : Hid (∀ A, Below w2.heap.size w2 A → Below w1.heap.size w1 A ∧ Below w.heap.size w A ∧ Blk A w1.heap.size 24 #[.int .i64 W, .int .i64 H, .slice va m vc]) := fun A hA => by
      rw [← hw] at hA
      have h1 : Below w1.heap.size w1 A := ((Below.refl _ _).alloc (Nat.le_refl _) _).trans (hA.mono (by simp))
      exact ⟨h1, B1.out.trans (h1.mono B1.out.size), (Blk.new _ _ _).grow hA⟩
    have BW2 : Hid (Below w.heap.size w w2) := by
      rw [← hw]
      exact B1.out.alloc B1.out.size _
    rw [hw]
    clear hw
    generalize w1.heap.size = g3 at *
    refine wp_region_put3 (by kernel_rfl) (by kernel_rfl) (by kernel_rfl) (fun b' vs w' => (b' 0 = true → vs 0 = .agg #[.int .i64 W, .int .i64 H, .slice va m vc]) ∧ (b' 2 = true → vs 2 = .bool true) ∧ (b' 3 = true → vs 3 = .bool true) ∧ (b' 4 = true → vs 4 = .agg #[.int .i64 W, .int .i64 H, .slice va m vc]) ∧ (b' 7 = true → vs 7 = .string (strI E)) ∧ (b' 8 = true → vs 8 = .slice ao n cp) ∧ (b' 9 = true → vs 9 = .string (strI E)) ∧ (b' 10 = true → vs 10 = .bool true) ∧ (b' 11 = true → vs 11 = .bool true) ∧ (b' 12 = true → vs 12 = .bool true) ∧ (b' 13 = true → vs 13 = .bool true) ∧ (b' 14 = true → vs 14 = .bool true) ∧ (b' 15 = true → vs 15 = .bool true) ∧ (b' 1 = true → Hid (∃ u, (vs 1) = .agg #[.int .i64 W, .int .i64 H, u] ∧ RowK .i64 w' u l)) ∧ (b' 5 = true → Hid (∃ u, (vs 5) = .agg #[.int .i64 W, .int .i64 H, u] ∧ RowK .i64 w' u l)) ∧ (b' 6 = true → Hid (RowB w' (vs 6) E)) ∧ (Hid (Below w2.heap.size w2 w' ∧ w2.heap.size ≤ w'.heap.size))) ?_ ?_ ?_
    · intro vs
      exact ⟨fun h => Bool.noConfusion h, fun h => Bool.noConfusion h, fun h => Bool.noConfusion h, fun h => Bool.noConfusion h, fun h => Bool.noConfusion h, fun h => Bool.noConfusion h, fun h => Bool.noConfusion h, fun h => Bool.noConfusion h, fun h => Bool.noConfusion h, fun h => Bool.noConfusion h, fun h => Bool.noConfusion h, fun h => Bool.noConfusion h, fun h => Bool.noConfusion h, fun h => Bool.noConfusion h, fun h => Bool.noConfusion h, fun h => Bool.noConfusion h, Lib.hid ⟨below_drewN (Below.refl _ _) 1, Nat.le_refl _⟩⟩
    · rintro b' vs w' i op hi hun hall ⟨h0, h2, h3, h4, h7, h8, h9, h10, h11, h12, h13, h14, h15, y1, y5, y6, hB⟩
      have hil : i < 16 := (List.getElem?_eq_some_iff.1 hi).1
      rcases i with _ | _ | _ | _ | _ | _ | _ | _ | _ | _ | _ | _ | _ | _ | _ | _ | i
      · obtain rfl := Option.some.inj hi
        clear hi hil
        have p0 := (HK.out w' hB.out.1).2.2.cell 0
        have p1 := (HK.out w' hB.out.1).2.2.cell 1
        have p2 := (HK.out w' hB.out.1).2.2.cell 2
        simp only [List.getElem?_toArray, List.getElem?_cons_zero, List.getElem?_cons_succ] at p0 p1 p2
        refine StepOk.plain rfl (fun K hK => ?_)
        have HKK := Lib.hid hK; clear hK
        simp only [putAll, Act.put, List.setIfInBounds_toArray, List.set_cons_zero, List.set_cons_succ]
        go_simp
        exact HKK.out _ _ ⟨_, by simp only [putAll, Act.put, List.setIfInBounds_toArray, List.set_cons_zero, List.set_cons_succ] <;> rfl, fun _ => rfl, h2, h3, h4, h7, h8, h9, h10, h11, h12, h13, h14, h15, y1, y5, y6, hB⟩
      · obtain rfl := Option.some.inj hi
        clear hi hil
        have d0 := h0 (hall ⟨0, .data⟩ (by simp) rfl)
        refine StepOk.plain rfl (fun K hK => ?_)
        have HKK := Lib.hid hK; clear hK
        simp only [putAll, Act.put, List.setIfInBounds_toArray, List.set_cons_zero, List.set_cons_succ]
        go_simp
        refine (HRF.out w' (HK.out w' hB.out.1).1).mono ?_
        rintro e w2 ⟨u2, rfl, ho2, hb2⟩
        exact HKK.out _ _ ⟨_, by simp only [putAll, Act.put, List.setIfInBounds_toArray, List.set_cons_zero, List.set_cons_succ, d0] <;> rfl, h0, h2, h3, h4, h7, h8, h9, h10, h11, h12, h13, h14, h15, fun _ => Lib.hid (⟨_, rfl, ho2.row⟩), fun h => Lib.hid (let ⟨u1, h1, h2⟩ := (y5 h).out; ⟨u1, h1, h2.on hb2⟩), fun h => Lib.hid ((y6 h).out.on hb2), Lib.hid ⟨(hB).out.1.trans (hb2.mono (hB).out.2), Nat.le_trans (hB).out.2 hb2.size⟩⟩
      · obtain rfl := Option.some.inj hi
        clear hi hil
        have o1 := y1 (hall ⟨1, .data⟩ (by simp) rfl)
        obtain ⟨u1, e1, hr1⟩ := o1.out
        refine StepOk.plain rfl (fun K hK => ?_)
        have HKK := Lib.hid hK; clear hK
        simp only [putAll, Act.put, List.setIfInBounds_toArray, List.set_cons_zero, List.set_cons_succ]
        go_simp
        refine (HRT.out w' _ hr1).mono ?_
        rintro e w2 ⟨rfl, hb2⟩
        exact HKK.out _ _ ⟨_, by simp only [putAll, Act.put, List.setIfInBounds_toArray, List.set_cons_zero, List.set_cons_succ, e1] <;> rfl, h0, fun _ => rfl, h3, h4, h7, h8, h9, h10, h11, h12, h13, h14, h15, fun h => Lib.hid (let ⟨u1, h1, h2⟩ := (y1 h).out; ⟨u1, h1, h2.on hb2⟩), fun h => Lib.hid (let ⟨u1, h1, h2⟩ := (y5 h).out; ⟨u1, h1, h2.on hb2⟩), fun h => Lib.hid ((y6 h).out.on hb2), Lib.hid ⟨(hB).out.1.trans (hb2.mono (hB).out.2), Nat.le_trans (hB).out.2 hb2.size⟩⟩
      · obtain rfl := Option.some.inj hi
        clear hi hil
        have d2 := h2 (hall ⟨2, .data⟩ (by simp) rfl)
        refine StepOk.plain rfl (fun K hK => ?_)
        have HKK := Lib.hid hK; clear hK
        simp only [putAll, Act.put, List.setIfInBounds_toArray, List.set_cons_zero, List.set_cons_succ]
        go_simp
        exact HKK.out _ _ ⟨_, by simp only [putAll, Act.put, List.setIfInBounds_toArray, List.set_cons_zero, List.set_cons_succ, d2] <;> rfl, h0, h2, fun _ => rfl, h4, h7, h8, h9, h10, h11, h12, h13, h14, h15, y1, y5, y6, hB⟩
      · obtain rfl := Option.some.inj hi
        clear hi hil
        have d3 := h3 (hall ⟨3, .guard⟩ (by simp) rfl)
        have p0 := (HK.out w' hB.out.1).2.2.cell 0
        have p1 := (HK.out w' hB.out.1).2.2.cell 1
        have p2 := (HK.out w' hB.out.1).2.2.cell 2
        simp only [List.getElem?_toArray, List.getElem?_cons_zero, List.getElem?_cons_succ] at p0 p1 p2
        refine StepOk.on 3 true rfl rfl d3 (fun K hK => ?_)
        have HKK := Lib.hid hK; clear hK
        simp only [putAll, Act.put, List.setIfInBounds_toArray, List.set_cons_zero, List.set_cons_succ]
        go_simp
        exact HKK.out _ _ ⟨_, by simp only [putAll, Act.put, List.setIfInBounds_toArray, List.set_cons_zero, List.set_cons_succ, d3] <;> rfl, h0, h2, h3, fun _ => rfl, h7, h8, h9, h10, h11, h12, h13, h14, h15, y1, y5, y6, hB⟩
      · obtain rfl := Option.some.inj hi
        clear hi hil
        have d4 := h4 (hall ⟨4, .data⟩ (by simp) rfl)
        have d3 := h3 (hall ⟨3, .guard⟩ (by simp) rfl)
        refine StepOk.on 3 true rfl rfl d3 (fun K hK => ?_)
        have HKK := Lib.hid hK; clear hK
        simp only [putAll, Act.put, List.setIfInBounds_toArray, List.set_cons_zero, List.set_cons_succ]
        go_simp
        refine (HRF.out w' (HK.out w' hB.out.1).1).mono ?_
        rintro e w2 ⟨u2, rfl, ho2, hb2⟩
        exact HKK.out _ _ ⟨_, by simp only [putAll, Act.put, List.setIfInBounds_toArray, List.set_cons_zero, List.set_cons_succ, d4, d3] <;> rfl, h0, h2, h3, h4, h7, h8, h9, h10, h11, h12, h13, h14, h15, fun h => Lib.hid (let ⟨u1, h1, h2⟩ := (y1 h).out; ⟨u1, h1, h2.on hb2⟩), fun _ => Lib.hid (⟨_, rfl, ho2.row⟩), fun h => Lib.hid ((y6 h).out.on hb2), Lib.hid ⟨(hB).out.1.trans (hb2.mono (hB).out.2), Nat.le_trans (hB).out.2 hb2.size⟩⟩
      · obtain rfl := Option.some.inj hi
        clear hi hil
        have o5 := y5 (hall ⟨5, .data⟩ (by simp) rfl)
        have d3 := h3 (hall ⟨3, .guard⟩ (by simp) rfl)
        obtain ⟨u1, e1, hr1⟩ := o5.out
        refine StepOk.on 3 true rfl rfl d3 (fun K hK => ?_)
        have HKK := Lib.hid hK; clear hK
        simp only [putAll, Act.put, List.setIfInBounds_toArray, List.set_cons_zero, List.set_cons_succ]
        go_simp
        refine (HBY.out w' _ hr1).mono ?_
        rintro e w2 ⟨u2, rfl, ho2, hb2⟩
        exact HKK.out _ _ ⟨_, by simp only [putAll, Act.put, List.setIfInBounds_toArray, List.set_cons_zero, List.set_cons_succ, d3, e1] <;> rfl, h0, h2, h3, h4, h7, h8, h9, h10, h11, h12, h13, h14, h15, fun h => Lib.hid (let ⟨u1, h1, h2⟩ := (y1 h).out; ⟨u1, h1, h2.on hb2⟩), fun h => Lib.hid (let ⟨u1, h1, h2⟩ := (y5 h).out; ⟨u1, h1, h2.on hb2⟩), fun _ => Lib.hid (ho2.row), Lib.hid ⟨(hB).out.1.trans (hb2.mono (hB).out.2), Nat.le_trans (hB).out.2 hb2.size⟩⟩
      · obtain rfl := Option.some.inj hi
        clear hi hil
        have o6 := y6 (hall ⟨6, .data⟩ (by simp) rfl)
        have d3 := h3 (hall ⟨3, .guard⟩ (by simp) rfl)
        have cv := conv_b o6.out HOE.out
        refine StepOk.on 3 true rfl rfl d3 (fun K hK => ?_)
        have HKK := Lib.hid hK; clear hK
        simp only [putAll, Act.put, List.setIfInBounds_toArray, List.set_cons_zero, List.set_cons_succ]
        go_simp
        exact HKK.out _ _ ⟨_, by simp only [putAll, Act.put, List.setIfInBounds_toArray, List.set_cons_zero, List.set_cons_succ, d3] <;> rfl, h0, h2, h3, h4, fun _ => rfl, h8, h9, h10, h11, h12, h13, h14, h15, y1, y5, y6, hB⟩
      · obtain rfl := Option.some.inj hi
        clear hi hil
        have d3 := h3 (hall ⟨3, .guard⟩ (by simp) rfl)
        refine StepOk.on 3 true rfl rfl d3 (fun K hK => ?_)
        have HKK := Lib.hid hK; clear hK
        simp only [putAll, Act.put, List.setIfInBounds_toArray, List.set_cons_zero, List.set_cons_succ]
        go_simp
        exact HKK.out _ _ ⟨_, by simp only [putAll, Act.put, List.setIfInBounds_toArray, List.set_cons_zero, List.set_cons_succ, d3] <;> rfl, h0, h2, h3, h4, h7, fun _ => rfl, h9, h10, h11, h12, h13, h14, h15, y1, y5, y6, hB⟩
      · obtain rfl := Option.some.inj hi
        clear hi hil
        have d8 := h8 (hall ⟨8, .data⟩ (by simp) rfl)
        have d3 := h3 (hall ⟨3, .guard⟩ (by simp) rfl)
        have cv := HCV.out w' (HK.out w' hB.out.1).2.1
        refine StepOk.on 3 true rfl rfl d3 (fun K hK => ?_)
        have HKK := Lib.hid hK; clear hK
        simp only [putAll, Act.put, List.setIfInBounds_toArray, List.set_cons_zero, List.set_cons_succ]
        go_simp
        exact HKK.out _ _ ⟨_, by simp only [putAll, Act.put, List.setIfInBounds_toArray, List.set_cons_zero, List.set_cons_succ, d8, d3] <;> rfl, h0, h2, h3, h4, h7, h8, fun _ => rfl, h10, h11, h12, h13, h14, h15, y1, y5, y6, hB⟩
      · obtain rfl := Option.some.inj hi
        clear hi hil
        have d7 := h7 (hall ⟨7, .data⟩ (by simp) rfl)
        have d9 := h9 (hall ⟨9, .data⟩ (by simp) rfl)
        have d3 := h3 (hall ⟨3, .guard⟩ (by simp) rfl)
        refine StepOk.on 3 true rfl rfl d3 (fun K hK => ?_)
        have HKK := Lib.hid hK; clear hK
        simp only [putAll, Act.put, List.setIfInBounds_toArray, List.set_cons_zero, List.set_cons_succ]
        go_simp
        exact HKK.out _ _ ⟨_, by simp only [putAll, Act.put, List.setIfInBounds_toArray, List.set_cons_zero, List.set_cons_succ, d7, d9, d3] <;> rfl, h0, h2, h3, h4, h7, h8, h9, fun _ => rfl, h11, h12, h13, h14, h15, y1, y5, y6, hB⟩
      · obtain rfl := Option.some.inj hi
        clear hi hil
        have d3 := h3 (hall ⟨3, .data⟩ (by simp) rfl)
        have d10 := h10 (hall ⟨10, .data⟩ (by simp) rfl)
        refine StepOk.plain rfl (fun K hK => ?_)
        have HKK := Lib.hid hK; clear hK
        simp only [putAll, Act.put, List.setIfInBounds_toArray, List.set_cons_zero, List.set_cons_succ]
        go_simp
        exact HKK.out _ _ ⟨_, by simp only [putAll, Act.put, List.setIfInBounds_toArray, List.set_cons_zero, List.set_cons_succ, d3, d10] <;> rfl, h0, h2, h3, h4, h7, h8, h9, h10, fun _ => rfl, h12, h13, h14, h15, y1, y5, y6, hB⟩
      · obtain rfl := Option.some.inj hi
        clear hi hil
        have d11 := h11 (hall ⟨11, .data⟩ (by simp) rfl)
        refine StepOk.plain rfl (fun K hK => ?_)
        have HKK := Lib.hid hK; clear hK
        simp only [putAll, Act.put, List.setIfInBounds_toArray, List.set_cons_zero, List.set_cons_succ]
        go_simp
        exact HKK.out _ _ ⟨_, by simp only [putAll, Act.put, List.setIfInBounds_toArray, List.set_cons_zero, List.set_cons_succ, d11] <;> rfl, h0, h2, h3, h4, h7, h8, h9, h10, h11, fun _ => rfl, h13, h14, h15, y1, y5, y6, hB⟩
      · obtain rfl := Option.some.inj hi
        clear hi hil
        have d12 := h12 (hall ⟨12, .guard⟩ (by simp) rfl)
        refine StepOk.on 12 true rfl rfl d12 (fun K hK => ?_)
        have HKK := Lib.hid hK; clear hK
        simp only [putAll, Act.put, List.setIfInBounds_toArray, List.set_cons_zero, List.set_cons_succ]
        go_simp
        refine (HAW.out _).mono ?_
        rintro e w2 ⟨rfl, hb2⟩
        exact HKK.out _ _ ⟨_, by simp only [putAll, Act.put, List.setIfInBounds_toArray, List.set_cons_zero, List.set_cons_succ, d12] <;> rfl, h0, h2, h3, h4, h7, h8, h9, h10, h11, h12, fun _ => rfl, h14, h15, fun h => Lib.hid (let ⟨u1, h1, h2⟩ := (y1 h).out; ⟨u1, h1, h2.on hb2⟩), fun h => Lib.hid (let ⟨u1, h1, h2⟩ := (y5 h).out; ⟨u1, h1, h2.on hb2⟩), fun h => Lib.hid ((y6 h).out.on hb2), Lib.hid ⟨(hB).out.1.trans (hb2.mono (hB).out.2), Nat.le_trans (hB).out.2 hb2.size⟩⟩
      · obtain rfl := Option.some.inj hi
        clear hi hil
        have d12 := h12 (hall ⟨12, .data⟩ (by simp) rfl)
        have d13 := h13 (hall ⟨13, .data⟩ (by simp) rfl)
        refine StepOk.plain rfl (fun K hK => ?_)
        have HKK := Lib.hid hK; clear hK
        simp only [putAll, Act.put, List.setIfInBounds_toArray, List.set_cons_zero, List.set_cons_succ]
        go_simp
        exact HKK.out _ _ ⟨_, by simp only [putAll, Act.put, List.setIfInBounds_toArray, List.set_cons_zero, List.set_cons_succ, d12, d13] <;> rfl, h0, h2, h3, h4, h7, h8, h9, h10, h11, h12, h13, fun _ => rfl, h15, y1, y5, y6, hB⟩
      · obtain rfl := Option.some.inj hi
        clear hi hil
        have d14 := h14 (hall ⟨14, .data⟩ (by simp) rfl)
        refine StepOk.plain rfl (fun K hK => ?_)
        have HKK := Lib.hid hK; clear hK
        simp only [putAll, Act.put, List.setIfInBounds_toArray, List.set_cons_zero, List.set_cons_succ]
        go_simp
        exact HKK.out _ _ ⟨_, by simp only [putAll, Act.put, List.setIfInBounds_toArray, List.set_cons_zero, List.set_cons_succ, d14] <;> rfl, h0, h2, h3, h4, h7, h8, h9, h10, h11, h12, h13, h14, fun _ => rfl, y1, y5, y6, hB⟩
      · omega
    · rintro b' vs wz hall ⟨h0, h2, h3, h4, h7, h8, h9, h10, h11, h12, h13, h14, h15, y1, y5, y6, hB⟩
      have d0 := h0 (hall 0 (by simp))
      have d2 := h2 (hall 2 (by simp))
      have d3 := h3 (hall 3 (by simp))
      have d4 := h4 (hall 4 (by simp))
      have d7 := h7 (hall 7 (by simp))
      have d8 := h8 (hall 8 (by simp))
      have d9 := h9 (hall 9 (by simp))
      have d10 := h10 (hall 10 (by simp))
      have d11 := h11 (hall 11 (by simp))
      have d12 := h12 (hall 12 (by simp))
      have d13 := h13 (hall 13 (by simp))
      have d14 := h14 (hall 14 (by simp))
      have d15 := h15 (hall 15 (by simp))
      have o1 := y1 (hall 1 (by simp))
      have o5 := y5 (hall 5 (by simp))
      have o6 := y6 (hall 6 (by simp))
      have BB := hB
      simp only [putAll, Act.put, List.setIfInBounds_toArray, List.set_cons_zero, List.set_cons_succ, d0, d2, d3, d4, d7, d8, d9, d10, d11, d12, d13, d14, d15]
      clear hall h0 d0 h2 d2 h3 d3 h4 d4 h7 d7 h8 d8 h9 d9 h10 d10 h11 d11 h12 d12 h13 d13 h14 d14 h15 d15 y1 y5 y6 hB
      have BWZ : Hid (Below w.heap.size w wz) := BW2.out.trans (BB.out.1.mono BW2.out.size)
      clear BB
      go_wp2_with fail
      go_ret
      exact ⟨rfl, BWZ.out⟩
  · have B1 := Lib.hid hb
    obtain ⟨va, vc, hv⟩ := hrow.shape
    simp only [List.length_nil] at hv
    subst hv
    clear hrow hb HPA
    go_wp2_with fail
    refine (HEM.out _ _ _).mono ?_
    rintro e w2 ⟨rfl, hb⟩
    have B2 : Hid (Below w.heap.size w w2) := (B1.out.alloc B1.out.size _).trans (hb.mono (by have := B1.out.size; simp; omega))
    clear hb
    go_wp2_with fail
    refine (HAW.out _).mono ?_
    rintro e wa ⟨rfl, hb⟩
    have BA : Hid (Below w.heap.size w wa) := B2.out.trans (hb.mono B2.out.size)
    clear hb
    go_wp2_with fail
    go_ret
    exact ⟨rfl, BA.out⟩
theorem imageParses_law (AW : AwakeOk) (PA : ParseOk) (s : Value) (E : List Int) (w : World) (row : RowB w s E) (hE : OkB E) : Calls Try.prog 7 #[s] w fun e w' => e = .returned (.bool true) ∧ Below w.heap.size w w' := by
  by_cases h : 2000 < E.length
  · exact imageParses_big AW s E w row h
  · exact imageParses_small AW PA s E w row hE (by omega)
end Go.Proofs.Ytoppmlfibllhlaa

