/- The law AffineApplies. -/
import Derived.Test.YticoklfgmflidaaDoorAk
namespace Go.Proofs.YticoklfgmflidaaDoor
open Go.RowKit

set_option maxHeartbeats 4000000 in
set_option maxRecDepth 100000 in
theorem applies_walk (m : Mx) (x y X Y : Int) (w : World) (r p q : Bool)
    (HA : Hid (∀ w, Calls Tryd.prog 9 #[.agg #[.int .i64 m.a, .int .i64 m.b, .int .i64 m.c, .int .i64 m.d, .int .i64 m.e, .int .i64 m.f], .agg #[.int .i64 x, .int .i64 y]] w fun e w' => e = .returned (.tuple #[.agg #[.int .i64 (if r && p && q then X else 0), .int .i64 (if r && p && q then Y else 0)], .int .i64 (if r && p && q then 0 else 10)]) ∧ Below w.heap.size w w'))
    (HF : Hid (∀ w, Calls Tryd.prog 11 #[.agg #[.int .i64 m.a, .int .i64 m.b, .int .i64 m.c, .int .i64 m.d, .int .i64 m.e, .int .i64 m.f]] w fun e w' => e = .returned (.agg #[.int .i64 m.a, .int .i64 m.b, .int .i64 m.c, .int .i64 m.d, .int .i64 m.e, .int .i64 m.f]) ∧ Below w.heap.size w w'))
    (HRR : Hid (∀ w, Calls Tryd.prog 10 #[.agg #[.int .i64 m.a, .int .i64 m.b, .int .i64 m.c, .int .i64 m.d, .int .i64 m.e, .int .i64 m.f]] w fun e w' => e = .returned (.bool r) ∧ Below w.heap.size w w'))
    (HR : Hid (∀ w, Calls Tryd.prog 12 #[.agg #[.int .i64 m.a, .int .i64 m.b, .int .i64 m.c, .int .i64 m.d, .int .i64 m.e, .int .i64 m.f]] w fun e w' => e = .returned (.bool r) ∧ Below w.heap.size w w'))
    (HI : Hid (∀ w, Calls Tryd.prog 13 #[.agg #[.int .i64 x, .int .i64 y]] w fun e w' => e = .returned (.bool p) ∧ Below w.heap.size w w'))
    (HRA : Hid (r = true → p = true → ∀ w, Calls Tryd.prog 14 #[.agg #[.int .i64 m.a, .int .i64 m.b, .int .i64 m.c, .int .i64 m.d, .int .i64 m.e, .int .i64 m.f], .int .i64 x, .int .i64 y] w fun e w' => e = .returned (.tuple #[.int .i64 X, .int .i64 Y, .bool q]) ∧ Below w.heap.size w w'))
    (HAW : Hid (∀ w', Below w.heap.size w w' → Calls Tryd.prog 15 #[] w' fun e w'' => e = .returned (.bool true) ∧ Below w'.heap.size w' w'')) :
    Calls Tryd.prog 3 #[.agg (six m), .agg #[.int .i64 x, .int .i64 y]] w fun e w' => e = .returned (.bool true) ∧ Below w.heap.size w w' := by
  have S0 : Hid (Mem w ((w.alloc (.cells (six m) 23)).alloc (.cells (two (x, y)) 25)) [(w.heap.size + 1, 25, two (x, y)), (w.heap.size, 23, six m)]) := ((Mem.refl w).add _ _).addAt _ _ _ (by simp)
  obtain ⟨n, hn⟩ : ∃ n, w.heap.size = n := ⟨_, rfl⟩
  rw [hn] at S0
  cases r
  · go_enter Tryd.func3, Tryd.ntmps3
    go_wp2_with fail
    refine (HA.out _).mono ?_
    rintro e w1 ⟨rfl, hb⟩
    have S1 := Lib.hid (S0.out.next hb)
    clear hb
    have m0 := S1.out.lays.2.1.m0
    have m1 := S1.out.lays.2.1.m1
    have m2 := S1.out.lays.2.1.m2
    have m3 := S1.out.lays.2.1.m3
    have m4 := S1.out.lays.2.1.m4
    have m5 := S1.out.lays.2.1.m5
    have l0 := (S1.out.lays.2.1).lt
    go_wp2_with fail
    refine (HF.out _).mono ?_
    rintro e w2 ⟨rfl, hb⟩
    have S2 := Lib.hid ((S1.out.add 25 (two (0, 0))).next hb)
    clear hb l0 m0 m1 m2 m3 m4 m5
    generalize w1.heap.size = g at *
    go_wp2_with fail
    refine (HRR.out _).mono ?_
    rintro e w3 ⟨rfl, hb⟩
    have S3 := Lib.hid (S2.out.next hb)
    clear hb
    have m0 := S3.out.lays.2.2.1.m0
    have m1 := S3.out.lays.2.2.1.m1
    have m2 := S3.out.lays.2.2.1.m2
    have m3 := S3.out.lays.2.2.1.m3
    have m4 := S3.out.lays.2.2.1.m4
    have m5 := S3.out.lays.2.2.1.m5
    go_wp2_with fail
    refine (HR.out _).mono ?_
    rintro e w4 ⟨rfl, hb⟩
    have S4 := Lib.hid (S3.out.next hb)
    clear hb
    clear m0 m1 m2 m3 m4 m5
    have q0 := S4.out.lays.1.p0
    have q1 := S4.out.lays.1.p1
    go_wp2_with fail
    refine (HAW.out _ S4.out.below).mono ?_
    rintro e w5 ⟨rfl, hb⟩
    have B5 : Hid (Below w.heap.size w w5) := below_next S4.out.below hb
    clear hb
    go_wp2_with fail
    go_ret
    exact ⟨rfl, B5.out⟩
  · cases p
    · go_enter Tryd.func3, Tryd.ntmps3
      go_wp2_with fail
      refine (HA.out _).mono ?_
      rintro e w1 ⟨rfl, hb⟩
      have S1 := Lib.hid (S0.out.next hb)
      clear hb
      have m0 := S1.out.lays.2.1.m0
      have m1 := S1.out.lays.2.1.m1
      have m2 := S1.out.lays.2.1.m2
      have m3 := S1.out.lays.2.1.m3
      have m4 := S1.out.lays.2.1.m4
      have m5 := S1.out.lays.2.1.m5
      have l0 := (S1.out.lays.2.1).lt
      go_wp2_with fail
      refine (HF.out _).mono ?_
      rintro e w2 ⟨rfl, hb⟩
      have S2 := Lib.hid ((S1.out.add 25 (two (0, 0))).next hb)
      clear hb l0 m0 m1 m2 m3 m4 m5
      generalize w1.heap.size = g at *
      go_wp2_with fail
      refine (HRR.out _).mono ?_
      rintro e w3 ⟨rfl, hb⟩
      have S3 := Lib.hid (S2.out.next hb)
      clear hb
      have m0 := S3.out.lays.2.2.1.m0
      have m1 := S3.out.lays.2.2.1.m1
      have m2 := S3.out.lays.2.2.1.m2
      have m3 := S3.out.lays.2.2.1.m3
      have m4 := S3.out.lays.2.2.1.m4
      have m5 := S3.out.lays.2.2.1.m5
      go_wp2_with fail
      refine (HR.out _).mono ?_
      rintro e w4 ⟨rfl, hb⟩
      have S4 := Lib.hid (S3.out.next hb)
      clear hb
      clear m0 m1 m2 m3 m4 m5
      have p0 := S4.out.lays.2.1.p0
      have p1 := S4.out.lays.2.1.p1
      go_wp2_with fail
      refine (HI.out _).mono ?_
      rintro e w5 ⟨rfl, hb⟩
      have S5 := Lib.hid (S4.out.next hb)
      clear hb
      clear p0 p1
      have q0 := S5.out.lays.1.p0
      have q1 := S5.out.lays.1.p1
      go_wp2_with fail
      refine (HAW.out _ S5.out.below).mono ?_
      rintro e w6 ⟨rfl, hb⟩
      have B6 : Hid (Below w.heap.size w w6) := below_next S5.out.below hb
      clear hb
      go_wp2_with fail
      go_ret
      exact ⟨rfl, B6.out⟩
    · have HT := Lib.hid (HRA.out rfl rfl)
      clear HRA
      cases q
      · go_enter Tryd.func3, Tryd.ntmps3
        go_wp2_with fail
        refine (HA.out _).mono ?_
        rintro e w1 ⟨rfl, hb⟩
        have S1 := Lib.hid (S0.out.next hb)
        clear hb
        have m0 := S1.out.lays.2.1.m0
        have m1 := S1.out.lays.2.1.m1
        have m2 := S1.out.lays.2.1.m2
        have m3 := S1.out.lays.2.1.m3
        have m4 := S1.out.lays.2.1.m4
        have m5 := S1.out.lays.2.1.m5
        have l0 := (S1.out.lays.2.1).lt
        go_wp2_with fail
        refine (HF.out _).mono ?_
        rintro e w2 ⟨rfl, hb⟩
        have S2 := Lib.hid ((S1.out.add 25 (two (0, 0))).next hb)
        clear hb l0 m0 m1 m2 m3 m4 m5
        generalize w1.heap.size = g at *
        go_wp2_with fail
        refine (HRR.out _).mono ?_
        rintro e w3 ⟨rfl, hb⟩
        have S3 := Lib.hid (S2.out.next hb)
        clear hb
        have m0 := S3.out.lays.2.2.1.m0
        have m1 := S3.out.lays.2.2.1.m1
        have m2 := S3.out.lays.2.2.1.m2
        have m3 := S3.out.lays.2.2.1.m3
        have m4 := S3.out.lays.2.2.1.m4
        have m5 := S3.out.lays.2.2.1.m5
        go_wp2_with fail
        refine (HR.out _).mono ?_
        rintro e w4 ⟨rfl, hb⟩
        have S4 := Lib.hid (S3.out.next hb)
        clear hb
        clear m0 m1 m2 m3 m4 m5
        have p0 := S4.out.lays.2.1.p0
        have p1 := S4.out.lays.2.1.p1
        go_wp2_with fail
        refine (HI.out _).mono ?_
        rintro e w5 ⟨rfl, hb⟩
        have S5 := Lib.hid (S4.out.next hb)
        clear hb
        clear p0 p1
        go_wp2_with fail
        have HV : Hid (∀ w', Out w5 w' → w'.cell? ⟨n, 0, none⟩ = some (.int .i64 m.a) ∧ w'.cell? ⟨n, 1, none⟩ = some (.int .i64 m.b) ∧ w'.cell? ⟨n, 2, none⟩ = some (.int .i64 m.c) ∧ w'.cell? ⟨n, 3, none⟩ = some (.int .i64 m.d) ∧ w'.cell? ⟨n, 4, none⟩ = some (.int .i64 m.e) ∧ w'.cell? ⟨n, 5, none⟩ = some (.int .i64 m.f) ∧ w'.cell? ⟨n + 1, 0, none⟩ = some (.int .i64 x) ∧ w'.cell? ⟨n + 1, 1, none⟩ = some (.int .i64 y)) := fun w' hw' => by
          have S := S5.out.next hw'
          exact ⟨S.lays.2.2.1.m0, S.lays.2.2.1.m1, S.lays.2.2.1.m2, S.lays.2.2.1.m3, S.lays.2.2.1.m4, S.lays.2.2.1.m5, S.lays.2.1.p0, S.lays.2.1.p1⟩
        refine wp_region_quiet (C := Out w5) (by kernel_rfl) (by kernel_rfl) ⟨rfl, rfl, rfl, Nat.le_refl _, fun _ _ => rfl⟩ ?_
        refine BigFrame.wpQuiet_want rfl (fun K hK => ?_)
        refine quiet_val (.agg #[.int .i64 m.a, .int .i64 m.b, .int .i64 m.c, .int .i64 m.d, .int .i64 m.e, .int .i64 m.f]) (fun w' hw' => by obtain ⟨c0, c1, c2, c3, c4, c5, d0, d1⟩ := HV.out w' hw'; go_simp) (hK _ ?_)
        clear hK K
        simp only [Act.put, List.setIfInBounds_toArray, List.set_cons_zero, List.set_cons_succ]
        refine BigFrame.wpQuiet_want rfl (fun K hK => ?_)
        refine quiet_call 11 #[.agg #[.int .i64 m.a, .int .i64 m.b, .int .i64 m.c, .int .i64 m.d, .int .i64 m.e, .int .i64 m.f]] (.agg #[.int .i64 m.a, .int .i64 m.b, .int .i64 m.c, .int .i64 m.d, .int .i64 m.e, .int .i64 m.f]) (fun w' _ => by go_simp) (fun w' hw' => Calls.out hw' (HF.out _)) (hK _ ?_)
        clear hK K
        simp only [Act.put, List.setIfInBounds_toArray, List.set_cons_zero, List.set_cons_succ]
        refine BigFrame.wpQuiet_want rfl (fun K hK => ?_)
        refine quiet_val (.pointer (some ⟨n + 1, 0, none⟩)) (fun w' hw' => by go_simp) (hK _ ?_)
        clear hK K
        simp only [Act.put, List.setIfInBounds_toArray, List.set_cons_zero, List.set_cons_succ]
        refine BigFrame.wpQuiet_want rfl (fun K hK => ?_)
        refine quiet_val (.int .i64 x) (fun w' hw' => by obtain ⟨c0, c1, c2, c3, c4, c5, d0, d1⟩ := HV.out w' hw'; go_simp) (hK _ ?_)
        clear hK K
        simp only [Act.put, List.setIfInBounds_toArray, List.set_cons_zero, List.set_cons_succ]
        refine BigFrame.wpQuiet_want rfl (fun K hK => ?_)
        refine quiet_val (.pointer (some ⟨n + 1, 1, none⟩)) (fun w' hw' => by go_simp) (hK _ ?_)
        clear hK K
        simp only [Act.put, List.setIfInBounds_toArray, List.set_cons_zero, List.set_cons_succ]
        refine BigFrame.wpQuiet_want rfl (fun K hK => ?_)
        refine quiet_val (.int .i64 y) (fun w' hw' => by obtain ⟨c0, c1, c2, c3, c4, c5, d0, d1⟩ := HV.out w' hw'; go_simp) (hK _ ?_)
        clear hK K
        simp only [Act.put, List.setIfInBounds_toArray, List.set_cons_zero, List.set_cons_succ]
        refine BigFrame.wpQuiet_want rfl (fun K hK => ?_)
        refine quiet_call 14 #[.agg #[.int .i64 m.a, .int .i64 m.b, .int .i64 m.c, .int .i64 m.d, .int .i64 m.e, .int .i64 m.f], .int .i64 x, .int .i64 y] (.tuple #[.int .i64 X, .int .i64 Y, .bool false]) (fun w' _ => by go_simp) (fun w' hw' => Calls.out hw' (HT.out _)) (hK _ ?_)
        clear hK K
        simp only [Act.put, List.setIfInBounds_toArray, List.set_cons_zero, List.set_cons_succ]
        refine BigFrame.wpQuiet_want rfl (fun K hK => ?_)
        refine quiet_val (.tuple #[.int .i64 X, .int .i64 Y, .bool false]) (fun w' hw' => by go_simp) (hK _ ?_)
        clear hK K
        simp only [Act.put, List.setIfInBounds_toArray, List.set_cons_zero, List.set_cons_succ]
        refine BigFrame.wpQuiet_want rfl (fun K hK => ?_)
        refine quiet_val (.int .i64 X) (fun w' hw' => by go_simp) (hK _ ?_)
        clear hK K
        simp only [Act.put, List.setIfInBounds_toArray, List.set_cons_zero, List.set_cons_succ]
        refine BigFrame.wpQuiet_want rfl (fun K hK => ?_)
        refine quiet_val (.int .i64 Y) (fun w' hw' => by go_simp) (hK _ ?_)
        clear hK K
        simp only [Act.put, List.setIfInBounds_toArray, List.set_cons_zero, List.set_cons_succ]
        refine BigFrame.wpQuiet_want rfl (fun K hK => ?_)
        refine quiet_val (.bool false) (fun w' hw' => by go_simp) (hK _ ?_)
        clear hK K
        simp only [Act.put, List.setIfInBounds_toArray, List.set_cons_zero, List.set_cons_succ]
        refine BigFrame.wpQuiet_want rfl (fun K hK => ?_)
        refine quiet_val (.int .i64 X) (fun w' hw' => by go_simp) (hK _ ?_)
        clear hK K
        simp only [Act.put, List.setIfInBounds_toArray, List.set_cons_zero, List.set_cons_succ]
        refine BigFrame.wpQuiet_want rfl (fun K hK => ?_)
        refine quiet_val (.int .i64 Y) (fun w' hw' => by go_simp) (hK _ ?_)
        clear hK K
        simp only [Act.put, List.setIfInBounds_toArray, List.set_cons_zero, List.set_cons_succ]
        refine BigFrame.wpQuiet_want rfl (fun K hK => ?_)
        refine quiet_val (.bool false) (fun w' hw' => by go_simp) (hK _ ?_)
        clear hK K
        simp only [Act.put, List.setIfInBounds_toArray, List.set_cons_zero, List.set_cons_succ]
        refine wpQuiet_nil ?_
        intro w6 hb
        have S6 := Lib.hid (S5.out.next hb)
        clear hb
        have q0 := S6.out.lays.1.p0
        have q1 := S6.out.lays.1.p1
        go_wp2_with fail
        refine (HAW.out _ S6.out.below).mono ?_
        rintro e w7 ⟨rfl, hb⟩
        have B7 : Hid (Below w.heap.size w w7) := below_next S6.out.below hb
        clear hb
        go_wp2_with fail
        go_ret
        exact ⟨rfl, B7.out⟩
      · go_enter Tryd.func3, Tryd.ntmps3
        go_wp2_with fail
        refine (HA.out _).mono ?_
        rintro e w1 ⟨rfl, hb⟩
        have S1 := Lib.hid (S0.out.next hb)
        clear hb
        have m0 := S1.out.lays.2.1.m0
        have m1 := S1.out.lays.2.1.m1
        have m2 := S1.out.lays.2.1.m2
        have m3 := S1.out.lays.2.1.m3
        have m4 := S1.out.lays.2.1.m4
        have m5 := S1.out.lays.2.1.m5
        have l0 := (S1.out.lays.2.1).lt
        go_wp2_with fail
        refine (HF.out _).mono ?_
        rintro e w2 ⟨rfl, hb⟩
        have S2 := Lib.hid ((S1.out.add 25 (two (X, Y))).next hb)
        clear hb l0 m0 m1 m2 m3 m4 m5
        generalize w1.heap.size = g at *
        go_wp2_with fail
        refine (HRR.out _).mono ?_
        rintro e w3 ⟨rfl, hb⟩
        have S3 := Lib.hid (S2.out.next hb)
        clear hb
        have m0 := S3.out.lays.2.2.1.m0
        have m1 := S3.out.lays.2.2.1.m1
        have m2 := S3.out.lays.2.2.1.m2
        have m3 := S3.out.lays.2.2.1.m3
        have m4 := S3.out.lays.2.2.1.m4
        have m5 := S3.out.lays.2.2.1.m5
        go_wp2_with fail
        refine (HR.out _).mono ?_
        rintro e w4 ⟨rfl, hb⟩
        have S4 := Lib.hid (S3.out.next hb)
        clear hb
        clear m0 m1 m2 m3 m4 m5
        have p0 := S4.out.lays.2.1.p0
        have p1 := S4.out.lays.2.1.p1
        go_wp2_with fail
        refine (HI.out _).mono ?_
        rintro e w5 ⟨rfl, hb⟩
        have S5 := Lib.hid (S4.out.next hb)
        clear hb
        clear p0 p1
        go_wp2_with fail
        have HV : Hid (∀ w', Out w5 w' → w'.cell? ⟨n, 0, none⟩ = some (.int .i64 m.a) ∧ w'.cell? ⟨n, 1, none⟩ = some (.int .i64 m.b) ∧ w'.cell? ⟨n, 2, none⟩ = some (.int .i64 m.c) ∧ w'.cell? ⟨n, 3, none⟩ = some (.int .i64 m.d) ∧ w'.cell? ⟨n, 4, none⟩ = some (.int .i64 m.e) ∧ w'.cell? ⟨n, 5, none⟩ = some (.int .i64 m.f) ∧ w'.cell? ⟨n + 1, 0, none⟩ = some (.int .i64 x) ∧ w'.cell? ⟨n + 1, 1, none⟩ = some (.int .i64 y)) := fun w' hw' => by
          have S := S5.out.next hw'
          exact ⟨S.lays.2.2.1.m0, S.lays.2.2.1.m1, S.lays.2.2.1.m2, S.lays.2.2.1.m3, S.lays.2.2.1.m4, S.lays.2.2.1.m5, S.lays.2.1.p0, S.lays.2.1.p1⟩
        refine wp_region_quiet (C := Out w5) (by kernel_rfl) (by kernel_rfl) ⟨rfl, rfl, rfl, Nat.le_refl _, fun _ _ => rfl⟩ ?_
        refine BigFrame.wpQuiet_want rfl (fun K hK => ?_)
        refine quiet_val (.agg #[.int .i64 m.a, .int .i64 m.b, .int .i64 m.c, .int .i64 m.d, .int .i64 m.e, .int .i64 m.f]) (fun w' hw' => by obtain ⟨c0, c1, c2, c3, c4, c5, d0, d1⟩ := HV.out w' hw'; go_simp) (hK _ ?_)
        clear hK K
        simp only [Act.put, List.setIfInBounds_toArray, List.set_cons_zero, List.set_cons_succ]
        refine BigFrame.wpQuiet_want rfl (fun K hK => ?_)
        refine quiet_call 11 #[.agg #[.int .i64 m.a, .int .i64 m.b, .int .i64 m.c, .int .i64 m.d, .int .i64 m.e, .int .i64 m.f]] (.agg #[.int .i64 m.a, .int .i64 m.b, .int .i64 m.c, .int .i64 m.d, .int .i64 m.e, .int .i64 m.f]) (fun w' _ => by go_simp) (fun w' hw' => Calls.out hw' (HF.out _)) (hK _ ?_)
        clear hK K
        simp only [Act.put, List.setIfInBounds_toArray, List.set_cons_zero, List.set_cons_succ]
        refine BigFrame.wpQuiet_want rfl (fun K hK => ?_)
        refine quiet_val (.pointer (some ⟨n + 1, 0, none⟩)) (fun w' hw' => by go_simp) (hK _ ?_)
        clear hK K
        simp only [Act.put, List.setIfInBounds_toArray, List.set_cons_zero, List.set_cons_succ]
        refine BigFrame.wpQuiet_want rfl (fun K hK => ?_)
        refine quiet_val (.int .i64 x) (fun w' hw' => by obtain ⟨c0, c1, c2, c3, c4, c5, d0, d1⟩ := HV.out w' hw'; go_simp) (hK _ ?_)
        clear hK K
        simp only [Act.put, List.setIfInBounds_toArray, List.set_cons_zero, List.set_cons_succ]
        refine BigFrame.wpQuiet_want rfl (fun K hK => ?_)
        refine quiet_val (.pointer (some ⟨n + 1, 1, none⟩)) (fun w' hw' => by go_simp) (hK _ ?_)
        clear hK K
        simp only [Act.put, List.setIfInBounds_toArray, List.set_cons_zero, List.set_cons_succ]
        refine BigFrame.wpQuiet_want rfl (fun K hK => ?_)
        refine quiet_val (.int .i64 y) (fun w' hw' => by obtain ⟨c0, c1, c2, c3, c4, c5, d0, d1⟩ := HV.out w' hw'; go_simp) (hK _ ?_)
        clear hK K
        simp only [Act.put, List.setIfInBounds_toArray, List.set_cons_zero, List.set_cons_succ]
        refine BigFrame.wpQuiet_want rfl (fun K hK => ?_)
        refine quiet_call 14 #[.agg #[.int .i64 m.a, .int .i64 m.b, .int .i64 m.c, .int .i64 m.d, .int .i64 m.e, .int .i64 m.f], .int .i64 x, .int .i64 y] (.tuple #[.int .i64 X, .int .i64 Y, .bool true]) (fun w' _ => by go_simp) (fun w' hw' => Calls.out hw' (HT.out _)) (hK _ ?_)
        clear hK K
        simp only [Act.put, List.setIfInBounds_toArray, List.set_cons_zero, List.set_cons_succ]
        refine BigFrame.wpQuiet_want rfl (fun K hK => ?_)
        refine quiet_val (.tuple #[.int .i64 X, .int .i64 Y, .bool true]) (fun w' hw' => by go_simp) (hK _ ?_)
        clear hK K
        simp only [Act.put, List.setIfInBounds_toArray, List.set_cons_zero, List.set_cons_succ]
        refine BigFrame.wpQuiet_want rfl (fun K hK => ?_)
        refine quiet_val (.int .i64 X) (fun w' hw' => by go_simp) (hK _ ?_)
        clear hK K
        simp only [Act.put, List.setIfInBounds_toArray, List.set_cons_zero, List.set_cons_succ]
        refine BigFrame.wpQuiet_want rfl (fun K hK => ?_)
        refine quiet_val (.int .i64 Y) (fun w' hw' => by go_simp) (hK _ ?_)
        clear hK K
        simp only [Act.put, List.setIfInBounds_toArray, List.set_cons_zero, List.set_cons_succ]
        refine BigFrame.wpQuiet_want rfl (fun K hK => ?_)
        refine quiet_val (.bool true) (fun w' hw' => by go_simp) (hK _ ?_)
        clear hK K
        simp only [Act.put, List.setIfInBounds_toArray, List.set_cons_zero, List.set_cons_succ]
        refine BigFrame.wpQuiet_want rfl (fun K hK => ?_)
        refine quiet_val (.int .i64 X) (fun w' hw' => by go_simp) (hK _ ?_)
        clear hK K
        simp only [Act.put, List.setIfInBounds_toArray, List.set_cons_zero, List.set_cons_succ]
        refine BigFrame.wpQuiet_want rfl (fun K hK => ?_)
        refine quiet_val (.int .i64 Y) (fun w' hw' => by go_simp) (hK _ ?_)
        clear hK K
        simp only [Act.put, List.setIfInBounds_toArray, List.set_cons_zero, List.set_cons_succ]
        refine BigFrame.wpQuiet_want rfl (fun K hK => ?_)
        refine quiet_val (.bool true) (fun w' hw' => by go_simp) (hK _ ?_)
        clear hK K
        simp only [Act.put, List.setIfInBounds_toArray, List.set_cons_zero, List.set_cons_succ]
        refine wpQuiet_nil ?_
        intro w6 hb
        have S6 := Lib.hid (S5.out.next hb)
        clear hb
        have q0 := S6.out.lays.1.p0
        have q1 := S6.out.lays.1.p1
        go_wp2_with fail
        refine (HAW.out _ S6.out.below).mono ?_
        rintro e w7 ⟨rfl, hb⟩
        have B7 : Hid (Below w.heap.size w w7) := below_next S6.out.below hb
        clear hb
        go_wp2_with fail
        go_ret
        exact ⟨rfl, B7.out⟩
theorem applies_law (m : Mx) (x y : Int) (w : World) (hr : Rd w) : Calls Tryd.prog 3 #[.agg (six m), .agg #[.int .i64 x, .int .i64 y]] w fun e w' => e = .returned (.bool true) ∧ Below w.heap.size w w' :=
  applies_walk m x y (apX m x y) (apY m x y) w (rightI m) (room x && room y) (room (apX m x y) && room (apY m x y)) (Lib.hid (apply_c m x y)) (Lib.hid (ref_c m)) (Lib.hid (refRight_c m)) (Lib.hid (right_c m)) (Lib.hid (in4_c x y))
    (Lib.hid fun h k w => by rw [Bool.and_eq_true, room_iff, room_iff] at k; exact refApply_c m x y w h k.1 k.2) (Lib.hid fun w' hb => awake4_c w' (hr.on hb))
end Go.Proofs.YticoklfgmflidaaDoor
