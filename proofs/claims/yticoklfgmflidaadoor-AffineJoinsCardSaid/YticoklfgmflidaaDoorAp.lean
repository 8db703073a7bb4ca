/- The law AffineJoins. -/
import Derived.Test.YticoklfgmflidaaDoorAo
namespace Go.Proofs.YticoklfgmflidaaDoor
open Go.RowKit

set_option maxHeartbeats 8000000 in
set_option maxRecDepth 100000 in
theorem joins_walk (m o k : Mx) (w : World) (r p q : Bool)
    (HA : Hid (∀ w, Calls Tryd.prog 16 #[.agg #[.int .i64 m.a, .int .i64 m.b, .int .i64 m.c, .int .i64 m.d, .int .i64 m.e, .int .i64 m.f], .agg #[.int .i64 o.a, .int .i64 o.b, .int .i64 o.c, .int .i64 o.d, .int .i64 o.e, .int .i64 o.f]] w fun e w' => e = .returned (.tuple #[.agg (six (if r && p && q then k else zeroM)), .int .i64 (if r && p && q then 0 else 10)]) ∧ Below w.heap.size w w'))
    (HFm : Hid (∀ w, Calls Tryd.prog 11 #[.agg #[.int .i64 m.a, .int .i64 m.b, .int .i64 m.c, .int .i64 m.d, .int .i64 m.e, .int .i64 m.f]] w fun e w' => e = .returned (.agg #[.int .i64 m.a, .int .i64 m.b, .int .i64 m.c, .int .i64 m.d, .int .i64 m.e, .int .i64 m.f]) ∧ Below w.heap.size w w'))
    (HFo : Hid (∀ w, Calls Tryd.prog 11 #[.agg #[.int .i64 o.a, .int .i64 o.b, .int .i64 o.c, .int .i64 o.d, .int .i64 o.e, .int .i64 o.f]] w fun e w' => e = .returned (.agg #[.int .i64 o.a, .int .i64 o.b, .int .i64 o.c, .int .i64 o.d, .int .i64 o.e, .int .i64 o.f]) ∧ Below w.heap.size w w'))
    (HFk : Hid (∀ w, Calls Tryd.prog 11 #[.agg #[.int .i64 k.a, .int .i64 k.b, .int .i64 k.c, .int .i64 k.d, .int .i64 k.e, .int .i64 k.f]] w fun e w' => e = .returned (.agg #[.int .i64 k.a, .int .i64 k.b, .int .i64 k.c, .int .i64 k.d, .int .i64 k.e, .int .i64 k.f]) ∧ Below w.heap.size w w'))
    (HRm : Hid (∀ w, Calls Tryd.prog 10 #[.agg #[.int .i64 m.a, .int .i64 m.b, .int .i64 m.c, .int .i64 m.d, .int .i64 m.e, .int .i64 m.f]] w fun e w' => e = .returned (.bool r) ∧ Below w.heap.size w w'))
    (HRo : Hid (∀ w, Calls Tryd.prog 10 #[.agg #[.int .i64 o.a, .int .i64 o.b, .int .i64 o.c, .int .i64 o.d, .int .i64 o.e, .int .i64 o.f]] w fun e w' => e = .returned (.bool p) ∧ Below w.heap.size w w'))
    (HT : Hid (r = true → p = true → ∀ w, Calls Tryd.prog 17 #[.agg #[.int .i64 m.a, .int .i64 m.b, .int .i64 m.c, .int .i64 m.d, .int .i64 m.e, .int .i64 m.f], .agg #[.int .i64 o.a, .int .i64 o.b, .int .i64 o.c, .int .i64 o.d, .int .i64 o.e, .int .i64 o.f]] w fun e w' => e = .returned (.tuple #[.agg #[.int .i64 k.a, .int .i64 k.b, .int .i64 k.c, .int .i64 k.d, .int .i64 k.e, .int .i64 k.f], .bool q]) ∧ Below w.heap.size w w'))
    (HAW : Hid (∀ w', Below w.heap.size w w' → Calls Tryd.prog 15 #[] w' fun e w'' => e = .returned (.bool true) ∧ Below w'.heap.size w' w'')) :
    Calls Tryd.prog 4 #[.agg (six m), .agg (six o)] w fun e w' => e = .returned (.bool true) ∧ Below w.heap.size w w' := by
  have S0 : Hid (Mem w ((w.alloc (.cells (six m) 23)).alloc (.cells (six o) 23)) [(w.heap.size + 1, 23, six o), (w.heap.size, 23, six m)]) := ((Mem.refl w).add _ _).addAt _ _ _ (by simp)
  obtain ⟨n, hn⟩ : ∃ n, w.heap.size = n := ⟨_, rfl⟩
  rw [hn] at S0
  cases r
  · go_enter Tryd.func4, Tryd.ntmps4
    go_wp2_with fail
    refine (HA.out _).mono ?_
    rintro e w1 ⟨rfl, hb⟩
    have S1 := Lib.hid (S0.out.next hb)
    clear hb
    have m0 := S1.out.lays.2.1.m0
    have m1 := S1.out.lays.2.1.m1
    have m2 := S1.out.lays.2.1.m2
    have m3 := S1.out.lays.2.1.m3
    have m4 := S1.out.lays.2.1.m4
    have m5 := S1.out.lays.2.1.m5
    have l0 := (S1.out.lays.2.1).lt
    go_wp2_with fail
    refine (HFm.out _).mono ?_
    rintro e w2 ⟨rfl, hb⟩
    have S2 := Lib.hid ((S1.out.add 23 (six zeroM)).next hb)
    clear hb l0 m0 m1 m2 m3 m4 m5
    generalize w1.heap.size = g at *
    go_wp2_with fail
    refine (HRm.out _).mono ?_
    rintro e w3 ⟨rfl, hb⟩
    have S3 := Lib.hid (S2.out.next hb)
    clear hb
    have q0 := S3.out.lays.1.m0
    have q1 := S3.out.lays.1.m1
    have q2 := S3.out.lays.1.m2
    have q3 := S3.out.lays.1.m3
    have q4 := S3.out.lays.1.m4
    have q5 := S3.out.lays.1.m5
    simp only at q0 q1 q2 q3 q4 q5
    go_wp2_with fail
    refine (HAW.out _ S3.out.below).mono ?_
    rintro e w6 ⟨rfl, hb⟩
    have B6 : Hid (Below w.heap.size w w6) := below_next S3.out.below hb
    clear hb
    go_wp2_with fail
    go_ret
    exact ⟨rfl, B6.out⟩
  · have HT1 := fun h => HT.out rfl h
    have HT2 := Lib.hid HT1
    clear HT HT1
    cases p
    · go_enter Tryd.func4, Tryd.ntmps4
      go_wp2_with fail
      refine (HA.out _).mono ?_
      rintro e w1 ⟨rfl, hb⟩
      have S1 := Lib.hid (S0.out.next hb)
      clear hb
      have m0 := S1.out.lays.2.1.m0
      have m1 := S1.out.lays.2.1.m1
      have m2 := S1.out.lays.2.1.m2
      have m3 := S1.out.lays.2.1.m3
      have m4 := S1.out.lays.2.1.m4
      have m5 := S1.out.lays.2.1.m5
      have l0 := (S1.out.lays.2.1).lt
      go_wp2_with fail
      refine (HFm.out _).mono ?_
      rintro e w2 ⟨rfl, hb⟩
      have S2 := Lib.hid ((S1.out.add 23 (six zeroM)).next hb)
      clear hb l0 m0 m1 m2 m3 m4 m5
      generalize w1.heap.size = g at *
      go_wp2_with fail
      refine (HRm.out _).mono ?_
      rintro e w3 ⟨rfl, hb⟩
      have S3 := Lib.hid (S2.out.next hb)
      clear hb
      have o0 := S3.out.lays.2.1.m0
      have o1 := S3.out.lays.2.1.m1
      have o2 := S3.out.lays.2.1.m2
      have o3 := S3.out.lays.2.1.m3
      have o4 := S3.out.lays.2.1.m4
      have o5 := S3.out.lays.2.1.m5
      go_wp2_with fail
      refine (HFo.out _).mono ?_
      rintro e w4 ⟨rfl, hb⟩
      have S4 := Lib.hid (S3.out.next hb)
      clear hb
      clear o0 o1 o2 o3 o4 o5
      go_wp2_with fail
      refine (HRo.out _).mono ?_
      rintro e w5 ⟨rfl, hb⟩
      have S5 := Lib.hid (S4.out.next hb)
      clear hb
      have q0 := S5.out.lays.1.m0
      have q1 := S5.out.lays.1.m1
      have q2 := S5.out.lays.1.m2
      have q3 := S5.out.lays.1.m3
      have q4 := S5.out.lays.1.m4
      have q5 := S5.out.lays.1.m5
      simp only at q0 q1 q2 q3 q4 q5
      go_wp2_with fail
      refine (HAW.out _ S5.out.below).mono ?_
      rintro e w6 ⟨rfl, hb⟩
      have B6 : Hid (Below w.heap.size w w6) := below_next S5.out.below hb
      clear hb
      go_wp2_with fail
      go_ret
      exact ⟨rfl, B6.out⟩
    · cases q
      · have HT3 := Lib.hid (HT2.out rfl)
        clear HT2
        go_enter Tryd.func4, Tryd.ntmps4
        go_wp2_with fail
        refine (HA.out _).mono ?_
        rintro e w1 ⟨rfl, hb⟩
        have S1 := Lib.hid (S0.out.next hb)
        clear hb
        have m0 := S1.out.lays.2.1.m0
        have m1 := S1.out.lays.2.1.m1
        have m2 := S1.out.lays.2.1.m2
        have m3 := S1.out.lays.2.1.m3
        have m4 := S1.out.lays.2.1.m4
        have m5 := S1.out.lays.2.1.m5
        have l0 := (S1.out.lays.2.1).lt
        go_wp2_with fail
        refine (HFm.out _).mono ?_
        rintro e w2 ⟨rfl, hb⟩
        have S2 := Lib.hid ((S1.out.add 23 (six zeroM)).next hb)
        clear hb l0 m0 m1 m2 m3 m4 m5
        generalize w1.heap.size = g at *
        go_wp2_with fail
        refine (HRm.out _).mono ?_
        rintro e w3 ⟨rfl, hb⟩
        have S3 := Lib.hid (S2.out.next hb)
        clear hb
        have o0 := S3.out.lays.2.1.m0
        have o1 := S3.out.lays.2.1.m1
        have o2 := S3.out.lays.2.1.m2
        have o3 := S3.out.lays.2.1.m3
        have o4 := S3.out.lays.2.1.m4
        have o5 := S3.out.lays.2.1.m5
        go_wp2_with fail
        refine (HFo.out _).mono ?_
        rintro e w4 ⟨rfl, hb⟩
        have S4 := Lib.hid (S3.out.next hb)
        clear hb
        clear o0 o1 o2 o3 o4 o5
        go_wp2_with fail
        refine (HRo.out _).mono ?_
        rintro e w5 ⟨rfl, hb⟩
        have S5 := Lib.hid (S4.out.next hb)
        clear hb
        go_wp2_with fail
        have HF : Hid (∀ w', Below w5.heap.size w5 w' → (w'.cell? ⟨n, 0, none⟩ = some (.int .i64 m.a) ∧ w'.cell? ⟨n, 1, none⟩ = some (.int .i64 m.b) ∧ w'.cell? ⟨n, 2, none⟩ = some (.int .i64 m.c) ∧ w'.cell? ⟨n, 3, none⟩ = some (.int .i64 m.d) ∧ w'.cell? ⟨n, 4, none⟩ = some (.int .i64 m.e) ∧ w'.cell? ⟨n, 5, none⟩ = some (.int .i64 m.f)) ∧ w'.cell? ⟨n + 1, 0, none⟩ = some (.int .i64 o.a) ∧ w'.cell? ⟨n + 1, 1, none⟩ = some (.int .i64 o.b) ∧ w'.cell? ⟨n + 1, 2, none⟩ = some (.int .i64 o.c) ∧ w'.cell? ⟨n + 1, 3, none⟩ = some (.int .i64 o.d) ∧ w'.cell? ⟨n + 1, 4, none⟩ = some (.int .i64 o.e) ∧ w'.cell? ⟨n + 1, 5, none⟩ = some (.int .i64 o.f)) := fun w' hw' => by
          have S := S5.out.next hw'
          exact ⟨⟨S.lays.2.2.1.m0, S.lays.2.2.1.m1, S.lays.2.2.1.m2, S.lays.2.2.1.m3, S.lays.2.2.1.m4, S.lays.2.2.1.m5⟩, S.lays.2.1.m0, S.lays.2.1.m1, S.lays.2.1.m2, S.lays.2.1.m3, S.lays.2.1.m4, S.lays.2.1.m5⟩
        refine wp_region_put (by kernel_rfl) (by kernel_rfl) (by kernel_rfl) (fun b' vs w' => (b' 0 = true → vs 0 = .agg #[.int .i64 m.a, .int .i64 m.b, .int .i64 m.c, .int .i64 m.d, .int .i64 m.e, .int .i64 m.f]) ∧ (b' 1 = true → vs 1 = .agg #[.int .i64 m.a, .int .i64 m.b, .int .i64 m.c, .int .i64 m.d, .int .i64 m.e, .int .i64 m.f]) ∧ (b' 2 = true → vs 2 = .agg #[.int .i64 o.a, .int .i64 o.b, .int .i64 o.c, .int .i64 o.d, .int .i64 o.e, .int .i64 o.f]) ∧ (b' 3 = true → vs 3 = .agg #[.int .i64 o.a, .int .i64 o.b, .int .i64 o.c, .int .i64 o.d, .int .i64 o.e, .int .i64 o.f]) ∧ (b' 4 = true → vs 4 = .tuple #[.agg #[.int .i64 k.a, .int .i64 k.b, .int .i64 k.c, .int .i64 k.d, .int .i64 k.e, .int .i64 k.f], .bool false]) ∧ (b' 5 = true → vs 5 = .tuple #[.agg #[.int .i64 k.a, .int .i64 k.b, .int .i64 k.c, .int .i64 k.d, .int .i64 k.e, .int .i64 k.f], .bool false]) ∧ (b' 6 = true → vs 6 = .agg #[.int .i64 k.a, .int .i64 k.b, .int .i64 k.c, .int .i64 k.d, .int .i64 k.e, .int .i64 k.f]) ∧ (b' 7 = true → vs 7 = .bool false) ∧ (b' 10 = true → vs 10 = .bool false) ∧ Hid (LayM w5 31 (six zeroM) [⟨8, 9, six k⟩] b' vs w')) ?_ ?_ ?_
        · intro vs
          exact ⟨fun h => Bool.noConfusion h, fun h => Bool.noConfusion h, fun h => Bool.noConfusion h, fun h => Bool.noConfusion h, fun h => Bool.noConfusion h, fun h => Bool.noConfusion h, fun h => Bool.noConfusion h, fun h => Bool.noConfusion h, fun h => Bool.noConfusion h, LayM.start vs⟩
        · rintro b' vs w' i op hi hun hall ⟨h0, h1, h2, h3, h4, h5, h6, h7, h10, hM⟩
          have hil : i < 11 := (List.getElem?_eq_some_iff.1 hi).1
          have hbelow := LayM.below hM.out
          rcases i with _ | _ | _ | _ | _ | _ | _ | _ | _ | _ | _ | i
          · obtain rfl := Option.some.inj hi
            obtain ⟨⟨a0, a1, a2, a3, a4, a5⟩, b0, b1, b2, b3, b4, b5⟩ := HF.out _ hbelow
            refine wpOp_step rfl (fun K hK => ?_)
            have HKK := Lib.hid hK; clear hK
            simp only [putAll, Act.put, List.setIfInBounds_toArray, List.set_cons_zero, List.set_cons_succ]
            go_simp
            exact HKK.out _ _ ⟨_, by simp only [putAll, Act.put, List.setIfInBounds_toArray, List.set_cons_zero, List.set_cons_succ] <;> rfl, fun _ => rfl, h1, h2, h3, h4, h5, h6, h7, h10, LayM.other hM.out 0 _ rfl⟩
          · obtain rfl := Option.some.inj hi
            have d0 := h0 (hall ⟨0, .data⟩ (by simp) rfl)
            refine wpOp_step rfl (fun K hK => ?_)
            have HKK := Lib.hid hK; clear hK
            simp only [putAll, Act.put, List.setIfInBounds_toArray, List.set_cons_zero, List.set_cons_succ]
            go_simp
            refine (HFm.out _).mono ?_
            rintro e w2 ⟨rfl, hb2⟩
            exact HKK.out _ _ ⟨_, by simp only [putAll, Act.put, List.setIfInBounds_toArray, List.set_cons_zero, List.set_cons_succ, d0] <;> rfl, h0, fun _ => rfl, h2, h3, h4, h5, h6, h7, h10, (LayM.other hM.out 1 _ rfl).grow hb2⟩
          · obtain rfl := Option.some.inj hi
            obtain ⟨⟨a0, a1, a2, a3, a4, a5⟩, b0, b1, b2, b3, b4, b5⟩ := HF.out _ hbelow
            refine wpOp_step rfl (fun K hK => ?_)
            have HKK := Lib.hid hK; clear hK
            simp only [putAll, Act.put, List.setIfInBounds_toArray, List.set_cons_zero, List.set_cons_succ]
            go_simp
            exact HKK.out _ _ ⟨_, by simp only [putAll, Act.put, List.setIfInBounds_toArray, List.set_cons_zero, List.set_cons_succ] <;> rfl, h0, h1, fun _ => rfl, h3, h4, h5, h6, h7, h10, LayM.other hM.out 2 _ rfl⟩
          · obtain rfl := Option.some.inj hi
            have d2 := h2 (hall ⟨2, .data⟩ (by simp) rfl)
            refine wpOp_step rfl (fun K hK => ?_)
            have HKK := Lib.hid hK; clear hK
            simp only [putAll, Act.put, List.setIfInBounds_toArray, List.set_cons_zero, List.set_cons_succ]
            go_simp
            refine (HFo.out _).mono ?_
            rintro e w2 ⟨rfl, hb2⟩
            exact HKK.out _ _ ⟨_, by simp only [putAll, Act.put, List.setIfInBounds_toArray, List.set_cons_zero, List.set_cons_succ, d2] <;> rfl, h0, h1, h2, fun _ => rfl, h4, h5, h6, h7, h10, (LayM.other hM.out 3 _ rfl).grow hb2⟩
          · obtain rfl := Option.some.inj hi
            have d1 := h1 (hall ⟨1, .data⟩ (by simp) rfl)
            have d3 := h3 (hall ⟨3, .data⟩ (by simp) rfl)
            refine wpOp_step rfl (fun K hK => ?_)
            have HKK := Lib.hid hK; clear hK
            simp only [putAll, Act.put, List.setIfInBounds_toArray, List.set_cons_zero, List.set_cons_succ]
            go_simp
            refine (HT3.out _).mono ?_
            rintro e w2 ⟨rfl, hb2⟩
            exact HKK.out _ _ ⟨_, by simp only [putAll, Act.put, List.setIfInBounds_toArray, List.set_cons_zero, List.set_cons_succ, d1, d3] <;> rfl, h0, h1, h2, h3, fun _ => rfl, h5, h6, h7, h10, (LayM.other hM.out 4 _ rfl).grow hb2⟩
          · obtain rfl := Option.some.inj hi
            have d4 := h4 (hall ⟨4, .data⟩ (by simp) rfl)
            refine wpOp_step rfl (fun K hK => ?_)
            have HKK := Lib.hid hK; clear hK
            simp only [putAll, Act.put, List.setIfInBounds_toArray, List.set_cons_zero, List.set_cons_succ]
            go_simp
            exact HKK.out _ _ ⟨_, by simp only [putAll, Act.put, List.setIfInBounds_toArray, List.set_cons_zero, List.set_cons_succ, d4] <;> rfl, h0, h1, h2, h3, h4, fun _ => rfl, h6, h7, h10, LayM.other hM.out 5 _ rfl⟩
          · obtain rfl := Option.some.inj hi
            have d5 := h5 (hall ⟨5, .data⟩ (by simp) rfl)
            refine wpOp_step rfl (fun K hK => ?_)
            have HKK := Lib.hid hK; clear hK
            simp only [putAll, Act.put, List.setIfInBounds_toArray, List.set_cons_zero, List.set_cons_succ]
            go_simp
            exact HKK.out _ _ ⟨_, by simp only [putAll, Act.put, List.setIfInBounds_toArray, List.set_cons_zero, List.set_cons_succ, d5] <;> rfl, h0, h1, h2, h3, h4, h5, fun _ => rfl, h7, h10, LayM.other hM.out 6 _ rfl⟩
          · obtain rfl := Option.some.inj hi
            have d5 := h5 (hall ⟨5, .data⟩ (by simp) rfl)
            refine wpOp_step rfl (fun K hK => ?_)
            have HKK := Lib.hid hK; clear hK
            simp only [putAll, Act.put, List.setIfInBounds_toArray, List.set_cons_zero, List.set_cons_succ]
            go_simp
            exact HKK.out _ _ ⟨_, by simp only [putAll, Act.put, List.setIfInBounds_toArray, List.set_cons_zero, List.set_cons_succ, d5] <;> rfl, h0, h1, h2, h3, h4, h5, h6, fun _ => rfl, h10, LayM.other hM.out 7 _ rfl⟩
          · obtain rfl := Option.some.inj hi
            refine wpOp_step rfl (fun K hK => ?_)
            have HKK := Lib.hid hK; clear hK
            simp only [putAll, Act.put, List.setIfInBounds_toArray, List.set_cons_zero, List.set_cons_succ]
            go_simp
            exact HKK.out _ _ ⟨_, by simp only [putAll, Act.put, List.setIfInBounds_toArray, List.set_cons_zero, List.set_cons_succ] <;> rfl, h0, h1, h2, h3, h4, h5, h6, h7, h10, LayM.made hM.out rfl ⟨8, 9, six k⟩ (by simp) hun⟩
          · obtain rfl := Option.some.inj hi
            have d6 := h6 (hall ⟨6, .data⟩ (by simp) rfl)
            have dal := hall ⟨8, .data⟩ (by simp) rfl
            obtain ⟨g, eg, lg, kg⟩ := LayM.at hM.out ⟨8, 9, six k⟩ (by simp) dal hun
            have kg' : Blk w' g 31 (six zeroM) := kg
            have c0 := kg'.m0; have c1 := kg'.m1; have c2 := kg'.m2; have c3 := kg'.m3; have c4 := kg'.m4; have c5 := kg'.m5
            have f0 := kg.free 0; have f1 := kg.free 1; have f2 := kg.free 2; have f3 := kg.free 3; have f4 := kg.free 4; have f5 := kg.free 5
            simp only at c0 c1 c2 c3 c4 c5
            have lgw := kg.lt
            refine wpOp_step rfl (fun K hK => ?_)
            have HKK := Lib.hid hK; clear hK
            simp only [putAll, Act.put, List.setIfInBounds_toArray, List.set_cons_zero, List.set_cons_succ]
            go_simp
            exact HKK.out _ _ ⟨_, by simp only [putAll, Act.put, List.setIfInBounds_toArray, List.set_cons_zero, List.set_cons_succ, d6, eg] <;> rfl, h0, h1, h2, h3, h4, h5, h6, h7, h10, LayM.stored hM.out rfl ⟨8, 9, six k⟩ (by simp) undef dal eg (below_six hbelow lg _ _ _ _ _ _) (Blk.setM kg' k) (fun g' cs hne k => k.otherM hne _ _ _ _ _ _)⟩
          · obtain rfl := Option.some.inj hi
            have d7 := h7 (hall ⟨7, .data⟩ (by simp) rfl)
            refine wpOp_step rfl (fun K hK => ?_)
            have HKK := Lib.hid hK; clear hK
            simp only [putAll, Act.put, List.setIfInBounds_toArray, List.set_cons_zero, List.set_cons_succ]
            go_simp
            exact HKK.out _ _ ⟨_, by simp only [putAll, Act.put, List.setIfInBounds_toArray, List.set_cons_zero, List.set_cons_succ, d7] <;> rfl, h0, h1, h2, h3, h4, h5, h6, h7, fun _ => rfl, LayM.other hM.out 10 _ rfl⟩
          · omega
        · rintro b' vs w6 hall ⟨h0, h1, h2, h3, h4, h5, h6, h7, h10, hM⟩
          have d0 := h0 (hall 0 (by simp)); have d1 := h1 (hall 1 (by simp)); have d2 := h2 (hall 2 (by simp)); have d3 := h3 (hall 3 (by simp)); have d4 := h4 (hall 4 (by simp)); have d5 := h5 (hall 5 (by simp)); have d6 := h6 (hall 6 (by simp)); have d7 := h7 (hall 7 (by simp)); have d10 := h10 (hall 10 (by simp))
          obtain ⟨g8, e8, _, k8⟩ := LayM.done hM.out ⟨8, 9, six k⟩ (by simp) (hall 8 (by simp)) (hall 9 (by simp))
          have S6 : Hid (Mem w w6 [(g8, 31, six k), (g, 23, six zeroM), (n + 1, 23, six o), (n, 23, six m)]) := by
            have S := S5.out.next (LayM.below hM.out)
            exact ⟨S.below, k8, S.lays⟩
          simp only [putAll, Act.put, List.setIfInBounds_toArray, List.set_cons_zero, List.set_cons_succ, d0, d1, d2, d3, d4, d5, d6, d7, d10, e8]
          clear h0 d0 h1 d1 h2 d2 h3 d3 h4 d4 h5 d5 h6 d6 h7 d7 h10 d10 hM hall e8 k8
          have q0 := S6.out.lays.2.1.m0
          have q1 := S6.out.lays.2.1.m1
          have q2 := S6.out.lays.2.1.m2
          have q3 := S6.out.lays.2.1.m3
          have q4 := S6.out.lays.2.1.m4
          have q5 := S6.out.lays.2.1.m5
          simp only at q0 q1 q2 q3 q4 q5
          go_wp2_with fail
          refine (HAW.out _ S6.out.below).mono ?_
          rintro e w7 ⟨rfl, hb⟩
          have B7 : Hid (Below w.heap.size w w7) := below_next S6.out.below hb
          clear hb
          go_wp2_with fail
          go_ret
          exact ⟨rfl, B7.out⟩
      · have HT3 := Lib.hid (HT2.out rfl)
        clear HT2
        go_enter Tryd.func4, Tryd.ntmps4
        go_wp2_with fail
        refine (HA.out _).mono ?_
        rintro e w1 ⟨rfl, hb⟩
        have S1 := Lib.hid (S0.out.next hb)
        clear hb
        have m0 := S1.out.lays.2.1.m0
        have m1 := S1.out.lays.2.1.m1
        have m2 := S1.out.lays.2.1.m2
        have m3 := S1.out.lays.2.1.m3
        have m4 := S1.out.lays.2.1.m4
        have m5 := S1.out.lays.2.1.m5
        have l0 := (S1.out.lays.2.1).lt
        go_wp2_with fail
        refine (HFm.out _).mono ?_
        rintro e w2 ⟨rfl, hb⟩
        have S2 := Lib.hid ((S1.out.add 23 (six k)).next hb)
        clear hb l0 m0 m1 m2 m3 m4 m5
        generalize w1.heap.size = g at *
        go_wp2_with fail
        refine (HRm.out _).mono ?_
        rintro e w3 ⟨rfl, hb⟩
        have S3 := Lib.hid (S2.out.next hb)
        clear hb
        have o0 := S3.out.lays.2.1.m0
        have o1 := S3.out.lays.2.1.m1
        have o2 := S3.out.lays.2.1.m2
        have o3 := S3.out.lays.2.1.m3
        have o4 := S3.out.lays.2.1.m4
        have o5 := S3.out.lays.2.1.m5
        go_wp2_with fail
        refine (HFo.out _).mono ?_
        rintro e w4 ⟨rfl, hb⟩
        have S4 := Lib.hid (S3.out.next hb)
        clear hb
        clear o0 o1 o2 o3 o4 o5
        go_wp2_with fail
        refine (HRo.out _).mono ?_
        rintro e w5 ⟨rfl, hb⟩
        have S5 := Lib.hid (S4.out.next hb)
        clear hb
        go_wp2_with fail
        have HF : Hid (∀ w', Below w5.heap.size w5 w' → (w'.cell? ⟨n, 0, none⟩ = some (.int .i64 m.a) ∧ w'.cell? ⟨n, 1, none⟩ = some (.int .i64 m.b) ∧ w'.cell? ⟨n, 2, none⟩ = some (.int .i64 m.c) ∧ w'.cell? ⟨n, 3, none⟩ = some (.int .i64 m.d) ∧ w'.cell? ⟨n, 4, none⟩ = some (.int .i64 m.e) ∧ w'.cell? ⟨n, 5, none⟩ = some (.int .i64 m.f)) ∧ w'.cell? ⟨n + 1, 0, none⟩ = some (.int .i64 o.a) ∧ w'.cell? ⟨n + 1, 1, none⟩ = some (.int .i64 o.b) ∧ w'.cell? ⟨n + 1, 2, none⟩ = some (.int .i64 o.c) ∧ w'.cell? ⟨n + 1, 3, none⟩ = some (.int .i64 o.d) ∧ w'.cell? ⟨n + 1, 4, none⟩ = some (.int .i64 o.e) ∧ w'.cell? ⟨n + 1, 5, none⟩ = some (.int .i64 o.f)) := fun w' hw' => by
          have S := S5.out.next hw'
          exact ⟨⟨S.lays.2.2.1.m0, S.lays.2.2.1.m1, S.lays.2.2.1.m2, S.lays.2.2.1.m3, S.lays.2.2.1.m4, S.lays.2.2.1.m5⟩, S.lays.2.1.m0, S.lays.2.1.m1, S.lays.2.1.m2, S.lays.2.1.m3, S.lays.2.1.m4, S.lays.2.1.m5⟩
        refine wp_region_put (by kernel_rfl) (by kernel_rfl) (by kernel_rfl) (fun b' vs w' => (b' 0 = true → vs 0 = .agg #[.int .i64 m.a, .int .i64 m.b, .int .i64 m.c, .int .i64 m.d, .int .i64 m.e, .int .i64 m.f]) ∧ (b' 1 = true → vs 1 = .agg #[.int .i64 m.a, .int .i64 m.b, .int .i64 m.c, .int .i64 m.d, .int .i64 m.e, .int .i64 m.f]) ∧ (b' 2 = true → vs 2 = .agg #[.int .i64 o.a, .int .i64 o.b, .int .i64 o.c, .int .i64 o.d, .int .i64 o.e, .int .i64 o.f]) ∧ (b' 3 = true → vs 3 = .agg #[.int .i64 o.a, .int .i64 o.b, .int .i64 o.c, .int .i64 o.d, .int .i64 o.e, .int .i64 o.f]) ∧ (b' 4 = true → vs 4 = .tuple #[.agg #[.int .i64 k.a, .int .i64 k.b, .int .i64 k.c, .int .i64 k.d, .int .i64 k.e, .int .i64 k.f], .bool true]) ∧ (b' 5 = true → vs 5 = .tuple #[.agg #[.int .i64 k.a, .int .i64 k.b, .int .i64 k.c, .int .i64 k.d, .int .i64 k.e, .int .i64 k.f], .bool true]) ∧ (b' 6 = true → vs 6 = .agg #[.int .i64 k.a, .int .i64 k.b, .int .i64 k.c, .int .i64 k.d, .int .i64 k.e, .int .i64 k.f]) ∧ (b' 7 = true → vs 7 = .bool true) ∧ (b' 10 = true → vs 10 = .bool true) ∧ Hid (LayM w5 31 (six zeroM) [⟨8, 9, six k⟩] b' vs w')) ?_ ?_ ?_
        · intro vs
          exact ⟨fun h => Bool.noConfusion h, fun h => Bool.noConfusion h, fun h => Bool.noConfusion h, fun h => Bool.noConfusion h, fun h => Bool.noConfusion h, fun h => Bool.noConfusion h, fun h => Bool.noConfusion h, fun h => Bool.noConfusion h, fun h => Bool.noConfusion h, LayM.start vs⟩
        · rintro b' vs w' i op hi hun hall ⟨h0, h1, h2, h3, h4, h5, h6, h7, h10, hM⟩
          have hil : i < 11 := (List.getElem?_eq_some_iff.1 hi).1
          have hbelow := LayM.below hM.out
          rcases i with _ | _ | _ | _ | _ | _ | _ | _ | _ | _ | _ | i
          · obtain rfl := Option.some.inj hi
            obtain ⟨⟨a0, a1, a2, a3, a4, a5⟩, b0, b1, b2, b3, b4, b5⟩ := HF.out _ hbelow
            refine wpOp_step rfl (fun K hK => ?_)
            have HKK := Lib.hid hK; clear hK
            simp only [putAll, Act.put, List.setIfInBounds_toArray, List.set_cons_zero, List.set_cons_succ]
            go_simp
            exact HKK.out _ _ ⟨_, by simp only [putAll, Act.put, List.setIfInBounds_toArray, List.set_cons_zero, List.set_cons_succ] <;> rfl, fun _ => rfl, h1, h2, h3, h4, h5, h6, h7, h10, LayM.other hM.out 0 _ rfl⟩
          · obtain rfl := Option.some.inj hi
            have d0 := h0 (hall ⟨0, .data⟩ (by simp) rfl)
            refine wpOp_step rfl (fun K hK => ?_)
            have HKK := Lib.hid hK; clear hK
            simp only [putAll, Act.put, List.setIfInBounds_toArray, List.set_cons_zero, List.set_cons_succ]
            go_simp
            refine (HFm.out _).mono ?_
            rintro e w2 ⟨rfl, hb2⟩
            exact HKK.out _ _ ⟨_, by simp only [putAll, Act.put, List.setIfInBounds_toArray, List.set_cons_zero, List.set_cons_succ, d0] <;> rfl, h0, fun _ => rfl, h2, h3, h4, h5, h6, h7, h10, (LayM.other hM.out 1 _ rfl).grow hb2⟩
          · obtain rfl := Option.some.inj hi
            obtain ⟨⟨a0, a1, a2, a3, a4, a5⟩, b0, b1, b2, b3, b4, b5⟩ := HF.out _ hbelow
            refine wpOp_step rfl (fun K hK => ?_)
            have HKK := Lib.hid hK; clear hK
            simp only [putAll, Act.put, List.setIfInBounds_toArray, List.set_cons_zero, List.set_cons_succ]
            go_simp
            exact HKK.out _ _ ⟨_, by simp only [putAll, Act.put, List.setIfInBounds_toArray, List.set_cons_zero, List.set_cons_succ] <;> rfl, h0, h1, fun _ => rfl, h3, h4, h5, h6, h7, h10, LayM.other hM.out 2 _ rfl⟩
          · obtain rfl := Option.some.inj hi
            have d2 := h2 (hall ⟨2, .data⟩ (by simp) rfl)
            refine wpOp_step rfl (fun K hK => ?_)
            have HKK := Lib.hid hK; clear hK
            simp only [putAll, Act.put, List.setIfInBounds_toArray, List.set_cons_zero, List.set_cons_succ]
            go_simp
            refine (HFo.out _).mono ?_
            rintro e w2 ⟨rfl, hb2⟩
            exact HKK.out _ _ ⟨_, by simp only [putAll, Act.put, List.setIfInBounds_toArray, List.set_cons_zero, List.set_cons_succ, d2] <;> rfl, h0, h1, h2, fun _ => rfl, h4, h5, h6, h7, h10, (LayM.other hM.out 3 _ rfl).grow hb2⟩
          · obtain rfl := Option.some.inj hi
            have d1 := h1 (hall ⟨1, .data⟩ (by simp) rfl)
            have d3 := h3 (hall ⟨3, .data⟩ (by simp) rfl)
            refine wpOp_step rfl (fun K hK => ?_)
            have HKK := Lib.hid hK; clear hK
            simp only [putAll, Act.put, List.setIfInBounds_toArray, List.set_cons_zero, List.set_cons_succ]
            go_simp
            refine (HT3.out _).mono ?_
            rintro e w2 ⟨rfl, hb2⟩
            exact HKK.out _ _ ⟨_, by simp only [putAll, Act.put, List.setIfInBounds_toArray, List.set_cons_zero, List.set_cons_succ, d1, d3] <;> rfl, h0, h1, h2, h3, fun _ => rfl, h5, h6, h7, h10, (LayM.other hM.out 4 _ rfl).grow hb2⟩
          · obtain rfl := Option.some.inj hi
            have d4 := h4 (hall ⟨4, .data⟩ (by simp) rfl)
            refine wpOp_step rfl (fun K hK => ?_)
            have HKK := Lib.hid hK; clear hK
            simp only [putAll, Act.put, List.setIfInBounds_toArray, List.set_cons_zero, List.set_cons_succ]
            go_simp
            exact HKK.out _ _ ⟨_, by simp only [putAll, Act.put, List.setIfInBounds_toArray, List.set_cons_zero, List.set_cons_succ, d4] <;> rfl, h0, h1, h2, h3, h4, fun _ => rfl, h6, h7, h10, LayM.other hM.out 5 _ rfl⟩
          · obtain rfl := Option.some.inj hi
            have d5 := h5 (hall ⟨5, .data⟩ (by simp) rfl)
            refine wpOp_step rfl (fun K hK => ?_)
            have HKK := Lib.hid hK; clear hK
            simp only [putAll, Act.put, List.setIfInBounds_toArray, List.set_cons_zero, List.set_cons_succ]
            go_simp
            exact HKK.out _ _ ⟨_, by simp only [putAll, Act.put, List.setIfInBounds_toArray, List.set_cons_zero, List.set_cons_succ, d5] <;> rfl, h0, h1, h2, h3, h4, h5, fun _ => rfl, h7, h10, LayM.other hM.out 6 _ rfl⟩
          · obtain rfl := Option.some.inj hi
            have d5 := h5 (hall ⟨5, .data⟩ (by simp) rfl)
            refine wpOp_step rfl (fun K hK => ?_)
            have HKK := Lib.hid hK; clear hK
            simp only [putAll, Act.put, List.setIfInBounds_toArray, List.set_cons_zero, List.set_cons_succ]
            go_simp
            exact HKK.out _ _ ⟨_, by simp only [putAll, Act.put, List.setIfInBounds_toArray, List.set_cons_zero, List.set_cons_succ, d5] <;> rfl, h0, h1, h2, h3, h4, h5, h6, fun _ => rfl, h10, LayM.other hM.out 7 _ rfl⟩
          · obtain rfl := Option.some.inj hi
            refine wpOp_step rfl (fun K hK => ?_)
            have HKK := Lib.hid hK; clear hK
            simp only [putAll, Act.put, List.setIfInBounds_toArray, List.set_cons_zero, List.set_cons_succ]
            go_simp
            exact HKK.out _ _ ⟨_, by simp only [putAll, Act.put, List.setIfInBounds_toArray, List.set_cons_zero, List.set_cons_succ] <;> rfl, h0, h1, h2, h3, h4, h5, h6, h7, h10, LayM.made hM.out rfl ⟨8, 9, six k⟩ (by simp) hun⟩
          · obtain rfl := Option.some.inj hi
            have d6 := h6 (hall ⟨6, .data⟩ (by simp) rfl)
            have dal := hall ⟨8, .data⟩ (by simp) rfl
            obtain ⟨g, eg, lg, kg⟩ := LayM.at hM.out ⟨8, 9, six k⟩ (by simp) dal hun
            have kg' : Blk w' g 31 (six zeroM) := kg
            have c0 := kg'.m0; have c1 := kg'.m1; have c2 := kg'.m2; have c3 := kg'.m3; have c4 := kg'.m4; have c5 := kg'.m5
            have f0 := kg.free 0; have f1 := kg.free 1; have f2 := kg.free 2; have f3 := kg.free 3; have f4 := kg.free 4; have f5 := kg.free 5
            simp only at c0 c1 c2 c3 c4 c5
            have lgw := kg.lt
            refine wpOp_step rfl (fun K hK => ?_)
            have HKK := Lib.hid hK; clear hK
            simp only [putAll, Act.put, List.setIfInBounds_toArray, List.set_cons_zero, List.set_cons_succ]
            go_simp
            exact HKK.out _ _ ⟨_, by simp only [putAll, Act.put, List.setIfInBounds_toArray, List.set_cons_zero, List.set_cons_succ, d6, eg] <;> rfl, h0, h1, h2, h3, h4, h5, h6, h7, h10, LayM.stored hM.out rfl ⟨8, 9, six k⟩ (by simp) undef dal eg (below_six hbelow lg _ _ _ _ _ _) (Blk.setM kg' k) (fun g' cs hne k => k.otherM hne _ _ _ _ _ _)⟩
          · obtain rfl := Option.some.inj hi
            have d7 := h7 (hall ⟨7, .data⟩ (by simp) rfl)
            refine wpOp_step rfl (fun K hK => ?_)
            have HKK := Lib.hid hK; clear hK
            simp only [putAll, Act.put, List.setIfInBounds_toArray, List.set_cons_zero, List.set_cons_succ]
            go_simp
            exact HKK.out _ _ ⟨_, by simp only [putAll, Act.put, List.setIfInBounds_toArray, List.set_cons_zero, List.set_cons_succ, d7] <;> rfl, h0, h1, h2, h3, h4, h5, h6, h7, fun _ => rfl, LayM.other hM.out 10 _ rfl⟩
          · omega
        · rintro b' vs w6 hall ⟨h0, h1, h2, h3, h4, h5, h6, h7, h10, hM⟩
          have d0 := h0 (hall 0 (by simp)); have d1 := h1 (hall 1 (by simp)); have d2 := h2 (hall 2 (by simp)); have d3 := h3 (hall 3 (by simp)); have d4 := h4 (hall 4 (by simp)); have d5 := h5 (hall 5 (by simp)); have d6 := h6 (hall 6 (by simp)); have d7 := h7 (hall 7 (by simp)); have d10 := h10 (hall 10 (by simp))
          obtain ⟨g8, e8, _, k8⟩ := LayM.done hM.out ⟨8, 9, six k⟩ (by simp) (hall 8 (by simp)) (hall 9 (by simp))
          have S6 : Hid (Mem w w6 [(g8, 31, six k), (g, 23, six k), (n + 1, 23, six o), (n, 23, six m)]) := by
            have S := S5.out.next (LayM.below hM.out)
            exact ⟨S.below, k8, S.lays⟩
          simp only [putAll, Act.put, List.setIfInBounds_toArray, List.set_cons_zero, List.set_cons_succ, d0, d1, d2, d3, d4, d5, d6, d7, d10, e8]
          clear h0 d0 h1 d1 h2 d2 h3 d3 h4 d4 h5 d5 h6 d6 h7 d7 h10 d10 hM hall e8 k8
          go_wp2_with fail
          have HV : Hid (∀ w', Out w6 w' → (w'.cell? ⟨g, 0, none⟩ = some (.int .i64 k.a) ∧ w'.cell? ⟨g, 1, none⟩ = some (.int .i64 k.b) ∧ w'.cell? ⟨g, 2, none⟩ = some (.int .i64 k.c) ∧ w'.cell? ⟨g, 3, none⟩ = some (.int .i64 k.d) ∧ w'.cell? ⟨g, 4, none⟩ = some (.int .i64 k.e) ∧ w'.cell? ⟨g, 5, none⟩ = some (.int .i64 k.f)) ∧ w'.cell? ⟨g8, 0, none⟩ = some (.int .i64 k.a) ∧ w'.cell? ⟨g8, 1, none⟩ = some (.int .i64 k.b) ∧ w'.cell? ⟨g8, 2, none⟩ = some (.int .i64 k.c) ∧ w'.cell? ⟨g8, 3, none⟩ = some (.int .i64 k.d) ∧ w'.cell? ⟨g8, 4, none⟩ = some (.int .i64 k.e) ∧ w'.cell? ⟨g8, 5, none⟩ = some (.int .i64 k.f)) := fun w' hw' => by
            have S := S6.out.next hw'
            exact ⟨⟨S.lays.2.1.m0, S.lays.2.1.m1, S.lays.2.1.m2, S.lays.2.1.m3, S.lays.2.1.m4, S.lays.2.1.m5⟩, S.lays.1.m0, S.lays.1.m1, S.lays.1.m2, S.lays.1.m3, S.lays.1.m4, S.lays.1.m5⟩
          have EQ := equal_six k.a k.b k.c k.d k.e k.f
          refine wp_region_quiet (C := Out w6) (by kernel_rfl) (by kernel_rfl) ⟨rfl, rfl, rfl, Nat.le_refl _, fun _ _ => rfl⟩ ?_
          refine BigFrame.wpQuiet_want rfl (fun K hK => ?_)
          refine quiet_val (.int .i64 0) (fun w' hw' => by go_simp) (hK _ ?_)
          clear hK K
          simp only [Act.put, List.setIfInBounds_toArray, List.set_cons_zero, List.set_cons_succ]
          refine BigFrame.wpQuiet_want rfl (fun K hK => ?_)
          refine quiet_val (.bool true) (fun w' hw' => by go_simp) (hK _ ?_)
          clear hK K
          simp only [Act.put, List.setIfInBounds_toArray, List.set_cons_zero, List.set_cons_succ]
          refine BigFrame.wpQuiet_want rfl (fun K hK => ?_)
          refine quiet_val (.bool true) (fun w' hw' => by go_simp) (hK _ ?_)
          clear hK K
          simp only [Act.put, List.setIfInBounds_toArray, List.set_cons_zero, List.set_cons_succ]
          refine BigFrame.wpQuiet_want rfl (fun K hK => ?_)
          refine quiet_val (.agg #[.int .i64 k.a, .int .i64 k.b, .int .i64 k.c, .int .i64 k.d, .int .i64 k.e, .int .i64 k.f]) (fun w' hw' => by obtain ⟨⟨a0, a1, a2, a3, a4, a5⟩, b0, b1, b2, b3, b4, b5⟩ := HV.out w' hw'; go_simp) (hK _ ?_)
          clear hK K
          simp only [Act.put, List.setIfInBounds_toArray, List.set_cons_zero, List.set_cons_succ]
          refine BigFrame.wpQuiet_want rfl (fun K hK => ?_)
          refine quiet_call 11 #[.agg #[.int .i64 k.a, .int .i64 k.b, .int .i64 k.c, .int .i64 k.d, .int .i64 k.e, .int .i64 k.f]] (.agg #[.int .i64 k.a, .int .i64 k.b, .int .i64 k.c, .int .i64 k.d, .int .i64 k.e, .int .i64 k.f]) (fun w' _ => by go_simp) (fun w' hw' => Calls.out hw' (HFk.out _)) (hK _ ?_)
          clear hK K
          simp only [Act.put, List.setIfInBounds_toArray, List.set_cons_zero, List.set_cons_succ]
          refine BigFrame.wpQuiet_want rfl (fun K hK => ?_)
          refine quiet_val (.agg #[.int .i64 k.a, .int .i64 k.b, .int .i64 k.c, .int .i64 k.d, .int .i64 k.e, .int .i64 k.f]) (fun w' hw' => by obtain ⟨⟨a0, a1, a2, a3, a4, a5⟩, b0, b1, b2, b3, b4, b5⟩ := HV.out w' hw'; go_simp) (hK _ ?_)
          clear hK K
          simp only [Act.put, List.setIfInBounds_toArray, List.set_cons_zero, List.set_cons_succ]
          refine BigFrame.wpQuiet_want rfl (fun K hK => ?_)
          refine quiet_val (.bool true) (fun w' hw' => by go_simp) (hK _ ?_)
          clear hK K
          simp only [Act.put, List.setIfInBounds_toArray, List.set_cons_zero, List.set_cons_succ]
          refine BigFrame.wpQuiet_want rfl (fun K hK => ?_)
          refine quiet_val (.bool true) (fun w' hw' => by go_simp) (hK _ ?_)
          clear hK K
          simp only [Act.put, List.setIfInBounds_toArray, List.set_cons_zero, List.set_cons_succ]
          refine BigFrame.wpQuiet_want rfl (fun K hK => ?_)
          refine quiet_val (.bool true) (fun w' hw' => by go_simp) (hK _ ?_)
          clear hK K
          simp only [Act.put, List.setIfInBounds_toArray, List.set_cons_zero, List.set_cons_succ]
          refine BigFrame.wpQuiet_want rfl (fun K hK => ?_)
          refine quiet_call 15 #[] (.bool true) (fun w' _ => by go_simp) (fun w' hw' => Calls.out hw' (HAW.out _ (S6.out.next hw').below)) (hK _ ?_)
          clear hK K
          simp only [Act.put, List.setIfInBounds_toArray, List.set_cons_zero, List.set_cons_succ]
          refine BigFrame.wpQuiet_want rfl (fun K hK => ?_)
          refine quiet_val (.bool true) (fun w' hw' => by go_simp) (hK _ ?_)
          clear hK K
          simp only [Act.put, List.setIfInBounds_toArray, List.set_cons_zero, List.set_cons_succ]
          refine BigFrame.wpQuiet_want rfl (fun K hK => ?_)
          refine quiet_val (.bool true) (fun w' hw' => by go_simp) (hK _ ?_)
          clear hK K
          simp only [Act.put, List.setIfInBounds_toArray, List.set_cons_zero, List.set_cons_succ]
          refine wpQuiet_nil ?_
          intro w7 hb
          have S7 := Lib.hid (S6.out.next hb)
          clear hb
          go_wp2_with fail
          go_ret
          exact ⟨rfl, S7.out.below⟩
theorem joins_law (m o : Mx) (w : World) (hr : Rd w) : Calls Tryd.prog 4 #[.agg (six m), .agg (six o)] w fun e w' => e = .returned (.bool true) ∧ Below w.heap.size w w' := by
  refine joins_walk m o (thenI m o) w (rightI m) (rightI o) (rightI (thenI m o)) (Lib.hid (then_c m o)) (Lib.hid (ref_c m)) (Lib.hid (ref_c o)) (Lib.hid (ref_c _)) (Lib.hid (refRight_c m)) (Lib.hid (refRight_c o)) (Lib.hid fun h k w => ?_) (Lib.hid fun w' hb => awake4_c w' (hr.on hb))
  have hq : ((room (thenI m o).e && room (thenI m o).f) && rightI (thenI m o)) = rightI (thenI m o) := by
    unfold rightI
    cases room (thenI m o).e <;> cases room (thenI m o).f <;> simp
  have := refThen_c m o w h k
  rw [hq] at this
  exact this
end Go.Proofs.YticoklfgmflidaaDoor
