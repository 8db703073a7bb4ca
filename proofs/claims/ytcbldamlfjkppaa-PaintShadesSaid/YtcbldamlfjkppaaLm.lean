/- Layer 10: the law PaintMixes. -/
import Derived.Test.YtcbldamlfjkppaaLb
import Derived.BigQuiet
namespace Go.Proofs.Ytcbldamlfjkppaa
open Go.RowKit
theorem mix_0 (c d : Col) : ∀ i, i < 4 → mixC c d 0 i = c i := fun i _ => by unfold mixC; omega
theorem mix_1 (c d : Col) : ∀ i, i < 4 → mixC c d 65536 i = d i := fun i _ => by unfold mixC; omega
theorem mix_same (c : Col) (t : Int) : ∀ i, i < 4 → mixC c c t i = c i := fun i _ => by
  unfold mixC
  have e : c i * (65536 - t) + c i * t = 65536 * c i := by grind
  rw [e]; omega
theorem mix_right {c d : Col} {t : Int} (ht : 0 ≤ t ∧ t ≤ 65536) (h : rightC c = true) (k : rightC d = true) : rightC (mixC c d t) = true := by
  obtain ⟨h0, h1, h2⟩ := rightC_iff.1 h
  obtain ⟨k0, k1, k2⟩ := rightC_iff.1 k
  have key : ∀ i, c i ≤ c 3 → d i ≤ d 3 → mixC c d t i ≤ mixC c d t 3 := fun i hi ki => by
    have a := Int.mul_le_mul_of_nonneg_right hi (show 0 ≤ 65536 - t by omega)
    have b := Int.mul_le_mul_of_nonneg_right ki ht.1
    unfold mixC
    generalize c i * (65536 - t) = p at *
    generalize c 3 * (65536 - t) = q at *
    generalize d i * t = r at *
    generalize d 3 * t = s at *
    omega
  exact rightC_iff.2 ⟨key 0 h0 k0, key 1 h1 k1, key 2 h2 k2⟩
theorem mix_mid (c d : Col) {t : Int} (ht : 0 ≤ t ∧ t ≤ 65536) (i : Nat) : min (c i) (d i) ≤ mixC c d t i ∧ mixC c d t i ≤ max (c i) (d i) := by
  obtain ⟨h1, h2⟩ := mix_between (x := c i) (y := d i) ht
  unfold mixC
  rcases Int.le_total (c i) (d i) with h | h
  · have := h1 h; omega
  · have := h2 h; omega
set_option maxHeartbeats 4000000 in
set_option maxRecDepth 100000 in
theorem paintMixes_n (P : PaintOk) (c d : Col) (t : Int) (hc : OkC c) (hd : OkC d) (w : World) (hrc : rightC c = false) : Calls Try.prog 7 #[.agg #[.int .u8 (c 0), .int .u8 (c 1), .int .u8 (c 2), .int .u8 (c 3)], .agg #[.int .u8 (d 0), .int .u8 (d 1), .int .u8 (d 2), .int .u8 (d 3)], .int .i64 t] w fun e w' => e = .returned (.bool true) ∧ Below w.heap.size w w' := by
  have HAW := Lib.hid (law_awake_c P)
  have HRC := Lib.hid (law_ref_c c hc)
  have HRD := Lib.hid (law_ref_c d hd)
  have hT := clamp_in t 65536 (by decide)
  have HMX := Lib.hid (fun w => P.mix c d t w hc hd)
  have HM0 : Hid (∀ w, Calls Try.prog 26 #[.agg #[.int .u8 (c 0), .int .u8 (c 1), .int .u8 (c 2), .int .u8 (c 3)], .agg #[.int .u8 (d 0), .int .u8 (d 1), .int .u8 (d 2), .int .u8 (d 3)], .int .i64 0] w fun e w' => e = .returned (.agg #[.int .u8 (c 0), .int .u8 (c 1), .int .u8 (c 2), .int .u8 (c 3)]) ∧ Below w.heap.size w w') := fun w => by
    have h := P.mix c d 0 w hc hd
    rw [show clampI 0 65536 = 0 by decide, eq8 (mix_0 c d)] at h
    exact h
  have HM1 : Hid (∀ w, Calls Try.prog 26 #[.agg #[.int .u8 (c 0), .int .u8 (c 1), .int .u8 (c 2), .int .u8 (c 3)], .agg #[.int .u8 (d 0), .int .u8 (d 1), .int .u8 (d 2), .int .u8 (d 3)], .int .i64 65536] w fun e w' => e = .returned (.agg #[.int .u8 (d 0), .int .u8 (d 1), .int .u8 (d 2), .int .u8 (d 3)]) ∧ Below w.heap.size w w') := fun w => by
    have h := P.mix c d 65536 w hc hd
    rw [show clampI 65536 65536 = 65536 by decide, eq8 (mix_1 c d)] at h
    exact h
  have HM2 : Hid (∀ w, Calls Try.prog 26 #[.agg #[.int .u8 (c 0), .int .u8 (c 1), .int .u8 (c 2), .int .u8 (c 3)], .agg #[.int .u8 (c 0), .int .u8 (c 1), .int .u8 (c 2), .int .u8 (c 3)], .int .i64 t] w fun e w' => e = .returned (.agg #[.int .u8 (c 0), .int .u8 (c 1), .int .u8 (c 2), .int .u8 (c 3)]) ∧ Below w.heap.size w w') := fun w => by
    have h := P.mix c c t w hc hc
    rw [eq8 (mix_same c _)] at h
    exact h
  have HRM := Lib.hid (refMix_c c d (clampI t 65536) hc hd hT)
  have okM := mix_ok hc hd hT
  have HIS := Lib.hid (law_is_c _ okM)
  have HMID := Lib.hid (mix_mid c d hT)
  have HRI := Lib.hid (fun w => P.right c w hc)
  have HRJ := Lib.hid (fun w => P.right d w hd)
  have HRX := Lib.hid (fun w => P.right _ w okM)
  have EQc := equal_c8 c
  have EQd := equal_c8 d
  rw [hrc] at HRI
  clear hrc
  obtain ⟨T, hTT⟩ : ∃ T, clampI t 65536 = T := ⟨_, rfl⟩
  rw [hTT] at HRM HMX HIS HMID HRX
  have HTN : Hid (min (max t 0) 65536 = T) := hTT
  generalize mixC c d T = Mx at *
  clear hTT hT okM hc hd
  go_enter Try.func7, Try.ntmps7
  go_wp2_with fail
  obtain ⟨w1, hw1⟩ : ∃ W, (w.alloc (.cells #[.int .u8 (c 0), .int .u8 (c 1), .int .u8 (c 2), .int .u8 (c 3)] 26)).alloc (.cells #[.int .u8 (d 0), .int .u8 (d 1), .int .u8 (d 2), .int .u8 (d 3)] 26) = W := ⟨_, rfl⟩
  have BW1 : Hid (Below w.heap.size w w1) := by
    rw [← hw1]
    exact ((Below.refl _ _).alloc (Nat.le_refl _) _).alloc (by simp) _
  have HB1 : Hid (∀ A, Below w1.heap.size w1 A → Blk A w.heap.size 26 (c8 c) ∧ Blk A (w.heap.size + 1) 26 (c8 d)) := fun A hA => by
      rw [← hw1] at hA
      exact ⟨((Blk.new _ _ _).alloc _).grow hA, (Blk.newAt _ _ _ (by simp)).grow hA⟩
  rw [hw1]
  clear hw1
  obtain ⟨c00, c01, c02, c03⟩ := (HB1.out w1 (Below.refl _ _)).1.c0
  obtain ⟨c10, c11, c12, c13⟩ := (HB1.out w1 (Below.refl _ _)).2.c0
  refine (HMX.out _).mono ?_
  rintro e w2 ⟨rfl, hb⟩
  have HB2 : Hid (∀ A, Below w2.heap.size w2 A → Blk A w.heap.size 26 (c8 c) ∧ Blk A (w.heap.size + 1) 26 (c8 d)) := fun A hA => HB1.out A (hb.trans (hA.mono hb.size))
  have BW2 : Hid (Below w.heap.size w w2) := BW1.out.trans (hb.mono BW1.out.size)
  clear hb c00 c01 c02 c03 c10 c11 c12 c13
  go_wp2_with fail
  obtain ⟨w3, hw⟩ : ∃ W, w2.alloc (.cells #[.int .u8 (Mx 0), .int .u8 (Mx 1), .int .u8 (Mx 2), .int .u8 (Mx 3)] 26) = W := ⟨_, rfl⟩
  have HB3 : Hid (∀ A, Below w3.heap.size w3 A → Blk A w.heap.size 26 (c8 c) ∧ Blk A (w.heap.size + 1) 26 (c8 d) ∧ Blk A w2.heap.size 26 (c8 Mx)) := fun A hA => by
      rw [← hw] at hA
      exact ⟨((HB2.out w2 (Below.refl _ _)).1.alloc _).grow hA, ((HB2.out w2 (Below.refl _ _)).2.alloc _).grow hA, (Blk.new _ _ _).grow hA⟩
  have BW3 : Hid (Below w.heap.size w w3) := by
    rw [← hw]
    exact BW2.out.alloc BW2.out.size _
  rw [hw]
  clear hw
  generalize w2.heap.size = g7 at *
  refine wp_region_quiet (C := Out w3) (by kernel_rfl) (by kernel_rfl) ⟨rfl, rfl, rfl, Nat.le_refl _, fun _ _ => rfl⟩ ?_
  refine BigFrame.wpQuiet_want rfl (fun K hK => ?_)
  refine quiet_val (.agg #[.int .u8 (Mx 0), .int .u8 (Mx 1), .int .u8 (Mx 2), .int .u8 (Mx 3)]) (fun w' hw' => by obtain ⟨c0, c1, c2, c3⟩ := (HB3.out w' hw').2.2.c0; go_simp) (hK _ ?_)
  clear hK K
  simp only [Act.put, List.setIfInBounds_toArray, List.set_cons_zero, List.set_cons_succ]
  refine BigFrame.wpQuiet_want rfl (fun K hK => ?_)
  refine quiet_val (.agg #[.int .u8 (c 0), .int .u8 (c 1), .int .u8 (c 2), .int .u8 (c 3)]) (fun w' hw' => by obtain ⟨c0, c1, c2, c3⟩ := (HB3.out w' hw').1.c0; go_simp) (hK _ ?_)
  clear hK K
  simp only [Act.put, List.setIfInBounds_toArray, List.set_cons_zero, List.set_cons_succ]
  refine BigFrame.wpQuiet_want rfl (fun K hK => ?_)
  refine quiet_call 17 #[.agg #[.int .u8 (c 0), .int .u8 (c 1), .int .u8 (c 2), .int .u8 (c 3)]] (.agg #[.int .i64 (c 0), .int .i64 (c 1), .int .i64 (c 2), .int .i64 (c 3)]) (fun w' _ => by go_simp) (fun w' hw' => Calls.out hw' (HRC.out w')) (hK _ ?_)
  clear hK K
  simp only [Act.put, List.setIfInBounds_toArray, List.set_cons_zero, List.set_cons_succ]
  refine BigFrame.wpQuiet_want rfl (fun K hK => ?_)
  refine quiet_val (.agg #[.int .u8 (d 0), .int .u8 (d 1), .int .u8 (d 2), .int .u8 (d 3)]) (fun w' hw' => by obtain ⟨c0, c1, c2, c3⟩ := (HB3.out w' hw').2.1.c0; go_simp) (hK _ ?_)
  clear hK K
  simp only [Act.put, List.setIfInBounds_toArray, List.set_cons_zero, List.set_cons_succ]
  refine BigFrame.wpQuiet_want rfl (fun K hK => ?_)
  refine quiet_call 17 #[.agg #[.int .u8 (d 0), .int .u8 (d 1), .int .u8 (d 2), .int .u8 (d 3)]] (.agg #[.int .i64 (d 0), .int .i64 (d 1), .int .i64 (d 2), .int .i64 (d 3)]) (fun w' _ => by go_simp) (fun w' hw' => Calls.out hw' (HRD.out w')) (hK _ ?_)
  clear hK K
  simp only [Act.put, List.setIfInBounds_toArray, List.set_cons_zero, List.set_cons_succ]
  refine BigFrame.wpQuiet_want rfl (fun K hK => ?_)
  refine quiet_val (.int .i64 t) (fun w' hw' => by go_simp) (hK _ ?_)
  clear hK K
  simp only [Act.put, List.setIfInBounds_toArray, List.set_cons_zero, List.set_cons_succ]
  refine BigFrame.wpQuiet_want rfl (fun K hK => ?_)
  refine quiet_val (.int .i64 (max t 0)) (fun w' hw' => by go_simp) (hK _ ?_)
  clear hK K
  simp only [Act.put, List.setIfInBounds_toArray, List.set_cons_zero, List.set_cons_succ]
  refine BigFrame.wpQuiet_want rfl (fun K hK => ?_)
  refine quiet_val (.int .i64 T) (fun w' hw' => by have e := HTN.out; go_simp) (hK _ ?_)
  clear hK K
  simp only [Act.put, List.setIfInBounds_toArray, List.set_cons_zero, List.set_cons_succ]
  refine BigFrame.wpQuiet_want rfl (fun K hK => ?_)
  refine quiet_call 27 #[.agg #[.int .i64 (c 0), .int .i64 (c 1), .int .i64 (c 2), .int .i64 (c 3)], .agg #[.int .i64 (d 0), .int .i64 (d 1), .int .i64 (d 2), .int .i64 (d 3)], .int .i64 T] (.agg #[.int .i64 (Mx 0), .int .i64 (Mx 1), .int .i64 (Mx 2), .int .i64 (Mx 3)]) (fun w' _ => by go_simp) (fun w' hw' => Calls.out hw' (HRM.out w')) (hK _ ?_)
  clear hK K
  simp only [Act.put, List.setIfInBounds_toArray, List.set_cons_zero, List.set_cons_succ]
  refine BigFrame.wpQuiet_want rfl (fun K hK => ?_)
  refine quiet_call 15 #[.agg #[.int .u8 (Mx 0), .int .u8 (Mx 1), .int .u8 (Mx 2), .int .u8 (Mx 3)], .agg #[.int .i64 (Mx 0), .int .i64 (Mx 1), .int .i64 (Mx 2), .int .i64 (Mx 3)]] (.bool true) (fun w' _ => by go_simp) (fun w' hw' => Calls.out hw' (HIS.out w')) (hK _ ?_)
  clear hK K
  simp only [Act.put, List.setIfInBounds_toArray, List.set_cons_zero, List.set_cons_succ]
  refine BigFrame.wpQuiet_want rfl (fun K hK => ?_)
  refine quiet_val (.bool false) (fun w' hw' => by go_simp) (hK _ ?_)
  clear hK K
  simp only [Act.put, List.setIfInBounds_toArray, List.set_cons_zero, List.set_cons_succ]
  refine BigFrame.wpQuiet_want rfl (fun K hK => ?_)
  refine quiet_val (.bool false) (fun w' hw' => by go_simp) (hK _ ?_)
  clear hK K
  simp only [Act.put, List.setIfInBounds_toArray, List.set_cons_zero, List.set_cons_succ]
  refine BigFrame.wpQuiet_want rfl (fun K hK => ?_)
  refine quiet_val (.agg #[.int .u8 (c 0), .int .u8 (c 1), .int .u8 (c 2), .int .u8 (c 3)]) (fun w' hw' => by obtain ⟨c0, c1, c2, c3⟩ := (HB3.out w' hw').1.c0; go_simp) (hK _ ?_)
  clear hK K
  simp only [Act.put, List.setIfInBounds_toArray, List.set_cons_zero, List.set_cons_succ]
  refine BigFrame.wpQuiet_want rfl (fun K hK => ?_)
  refine quiet_val (.agg #[.int .u8 (d 0), .int .u8 (d 1), .int .u8 (d 2), .int .u8 (d 3)]) (fun w' hw' => by obtain ⟨c0, c1, c2, c3⟩ := (HB3.out w' hw').2.1.c0; go_simp) (hK _ ?_)
  clear hK K
  simp only [Act.put, List.setIfInBounds_toArray, List.set_cons_zero, List.set_cons_succ]
  refine BigFrame.wpQuiet_want rfl (fun K hK => ?_)
  refine quiet_call 26 #[.agg #[.int .u8 (c 0), .int .u8 (c 1), .int .u8 (c 2), .int .u8 (c 3)], .agg #[.int .u8 (d 0), .int .u8 (d 1), .int .u8 (d 2), .int .u8 (d 3)], .int .i64 0] (.agg #[.int .u8 (c 0), .int .u8 (c 1), .int .u8 (c 2), .int .u8 (c 3)]) (fun w' _ => by go_simp) (fun w' hw' => Calls.out hw' (HM0.out w')) (hK _ ?_)
  clear hK K
  simp only [Act.put, List.setIfInBounds_toArray, List.set_cons_zero, List.set_cons_succ]
  refine BigFrame.wpQuiet_want rfl (fun K hK => ?_)
  refine quiet_val (.agg #[.int .u8 (c 0), .int .u8 (c 1), .int .u8 (c 2), .int .u8 (c 3)]) (fun w' hw' => by obtain ⟨c0, c1, c2, c3⟩ := (HB3.out w' hw').1.c0; go_simp) (hK _ ?_)
  clear hK K
  simp only [Act.put, List.setIfInBounds_toArray, List.set_cons_zero, List.set_cons_succ]
  refine BigFrame.wpQuiet_want rfl (fun K hK => ?_)
  refine quiet_val (.bool false) (fun w' hw' => by go_simp) (hK _ ?_)
  clear hK K
  simp only [Act.put, List.setIfInBounds_toArray, List.set_cons_zero, List.set_cons_succ]
  refine BigFrame.wpQuiet_want rfl (fun K hK => ?_)
  refine quiet_val (.bool false) (fun w' hw' => by go_simp) (hK _ ?_)
  clear hK K
  simp only [Act.put, List.setIfInBounds_toArray, List.set_cons_zero, List.set_cons_succ]
  refine BigFrame.wpQuiet_want rfl (fun K hK => ?_)
  refine quiet_val (.bool false) (fun w' hw' => by go_simp) (hK _ ?_)
  clear hK K
  simp only [Act.put, List.setIfInBounds_toArray, List.set_cons_zero, List.set_cons_succ]
  refine BigFrame.wpQuiet_want rfl (fun K hK => ?_)
  refine quiet_val (.agg #[.int .u8 (c 0), .int .u8 (c 1), .int .u8 (c 2), .int .u8 (c 3)]) (fun w' hw' => by obtain ⟨c0, c1, c2, c3⟩ := (HB3.out w' hw').1.c0; go_simp) (hK _ ?_)
  clear hK K
  simp only [Act.put, List.setIfInBounds_toArray, List.set_cons_zero, List.set_cons_succ]
  refine BigFrame.wpQuiet_want rfl (fun K hK => ?_)
  refine quiet_val (.agg #[.int .u8 (d 0), .int .u8 (d 1), .int .u8 (d 2), .int .u8 (d 3)]) (fun w' hw' => by obtain ⟨c0, c1, c2, c3⟩ := (HB3.out w' hw').2.1.c0; go_simp) (hK _ ?_)
  clear hK K
  simp only [Act.put, List.setIfInBounds_toArray, List.set_cons_zero, List.set_cons_succ]
  refine BigFrame.wpQuiet_want rfl (fun K hK => ?_)
  refine quiet_call 26 #[.agg #[.int .u8 (c 0), .int .u8 (c 1), .int .u8 (c 2), .int .u8 (c 3)], .agg #[.int .u8 (d 0), .int .u8 (d 1), .int .u8 (d 2), .int .u8 (d 3)], .int .i64 65536] (.agg #[.int .u8 (d 0), .int .u8 (d 1), .int .u8 (d 2), .int .u8 (d 3)]) (fun w' _ => by go_simp) (fun w' hw' => Calls.out hw' (HM1.out w')) (hK _ ?_)
  clear hK K
  simp only [Act.put, List.setIfInBounds_toArray, List.set_cons_zero, List.set_cons_succ]
  refine BigFrame.wpQuiet_want rfl (fun K hK => ?_)
  refine quiet_val (.agg #[.int .u8 (d 0), .int .u8 (d 1), .int .u8 (d 2), .int .u8 (d 3)]) (fun w' hw' => by obtain ⟨c0, c1, c2, c3⟩ := (HB3.out w' hw').2.1.c0; go_simp) (hK _ ?_)
  clear hK K
  simp only [Act.put, List.setIfInBounds_toArray, List.set_cons_zero, List.set_cons_succ]
  refine BigFrame.wpQuiet_want rfl (fun K hK => ?_)
  refine quiet_val (.bool false) (fun w' hw' => by go_simp) (hK _ ?_)
  clear hK K
  simp only [Act.put, List.setIfInBounds_toArray, List.set_cons_zero, List.set_cons_succ]
  refine BigFrame.wpQuiet_want rfl (fun K hK => ?_)
  refine quiet_val (.bool false) (fun w' hw' => by go_simp) (hK _ ?_)
  clear hK K
  simp only [Act.put, List.setIfInBounds_toArray, List.set_cons_zero, List.set_cons_succ]
  refine BigFrame.wpQuiet_want rfl (fun K hK => ?_)
  refine quiet_val (.bool false) (fun w' hw' => by go_simp) (hK _ ?_)
  clear hK K
  simp only [Act.put, List.setIfInBounds_toArray, List.set_cons_zero, List.set_cons_succ]
  refine BigFrame.wpQuiet_want rfl (fun K hK => ?_)
  refine quiet_val (.agg #[.int .u8 (c 0), .int .u8 (c 1), .int .u8 (c 2), .int .u8 (c 3)]) (fun w' hw' => by obtain ⟨c0, c1, c2, c3⟩ := (HB3.out w' hw').1.c0; go_simp) (hK _ ?_)
  clear hK K
  simp only [Act.put, List.setIfInBounds_toArray, List.set_cons_zero, List.set_cons_succ]
  refine BigFrame.wpQuiet_want rfl (fun K hK => ?_)
  refine quiet_val (.agg #[.int .u8 (c 0), .int .u8 (c 1), .int .u8 (c 2), .int .u8 (c 3)]) (fun w' hw' => by obtain ⟨c0, c1, c2, c3⟩ := (HB3.out w' hw').1.c0; go_simp) (hK _ ?_)
  clear hK K
  simp only [Act.put, List.setIfInBounds_toArray, List.set_cons_zero, List.set_cons_succ]
  refine BigFrame.wpQuiet_want rfl (fun K hK => ?_)
  refine quiet_val (.int .i64 t) (fun w' hw' => by go_simp) (hK _ ?_)
  clear hK K
  simp only [Act.put, List.setIfInBounds_toArray, List.set_cons_zero, List.set_cons_succ]
  refine BigFrame.wpQuiet_want rfl (fun K hK => ?_)
  refine quiet_call 26 #[.agg #[.int .u8 (c 0), .int .u8 (c 1), .int .u8 (c 2), .int .u8 (c 3)], .agg #[.int .u8 (c 0), .int .u8 (c 1), .int .u8 (c 2), .int .u8 (c 3)], .int .i64 t] (.agg #[.int .u8 (c 0), .int .u8 (c 1), .int .u8 (c 2), .int .u8 (c 3)]) (fun w' _ => by go_simp) (fun w' hw' => Calls.out hw' (HM2.out w')) (hK _ ?_)
  clear hK K
  simp only [Act.put, List.setIfInBounds_toArray, List.set_cons_zero, List.set_cons_succ]
  refine BigFrame.wpQuiet_want rfl (fun K hK => ?_)
  refine quiet_val (.agg #[.int .u8 (c 0), .int .u8 (c 1), .int .u8 (c 2), .int .u8 (c 3)]) (fun w' hw' => by obtain ⟨c0, c1, c2, c3⟩ := (HB3.out w' hw').1.c0; go_simp) (hK _ ?_)
  clear hK K
  simp only [Act.put, List.setIfInBounds_toArray, List.set_cons_zero, List.set_cons_succ]
  refine BigFrame.wpQuiet_want rfl (fun K hK => ?_)
  refine quiet_val (.bool false) (fun w' hw' => by go_simp) (hK _ ?_)
  clear hK K
  simp only [Act.put, List.setIfInBounds_toArray, List.set_cons_zero, List.set_cons_succ]
  refine BigFrame.wpQuiet_want rfl (fun K hK => ?_)
  refine quiet_val (.bool false) (fun w' hw' => by go_simp) (hK _ ?_)
  clear hK K
  simp only [Act.put, List.setIfInBounds_toArray, List.set_cons_zero, List.set_cons_succ]
  refine wpQuiet_nil ?_
  intro w4 hb
  have HB4 : Hid (∀ A, Below w4.heap.size w4 A → Blk A w.heap.size 26 (c8 c) ∧ Blk A (w.heap.size + 1) 26 (c8 d) ∧ Blk A g7 26 (c8 Mx)) := fun A hA => HB3.out A (hb.trans (hA.mono hb.size))
  have BW4 : Hid (Below w.heap.size w w4) := BW3.out.trans (hb.mono BW3.out.size)
  clear hb
  go_wp2_with fail
  go_loopw [46] (fun s wr => ∃ k : Nat, k ≤ 4 ∧ s = .int .i64 (k : Int) ∧ Hid (∀ A, Below wr.heap.size wr A → Blk A w.heap.size 26 (c8 c) ∧ Blk A (w.heap.size + 1) 26 (c8 d) ∧ Blk A g7 26 (c8 Mx)) ∧ Hid (Below w.heap.size w wr)) (fun s _ => 4 - (intOf s).toNat)
  case atStart => exact ⟨0, by omega, rfl, HB4, BW4⟩
  case round =>
    obtain ⟨k, hk, rfl, HB20, BW20⟩ := hrel
    obtain ⟨w20, rfl⟩ : ∃ x, x = wr := ⟨_, rfl⟩
    by_cases hlt : k < 4
    · have hd : decide ((k : Int) < 4) = true := by simp; omega
      have hki : (k : Int) < 4 := by omega
      have E1 : Hid (decide (Mx k < min (c k) (d k)) = false) := by have := HMID.out k; unfold Hid; simp; omega
      have E2 : Hid (decide (Mx k > max (c k) (d k)) = false) := by have := HMID.out k; unfold Hid; simp; omega
      go_wp2_with fail
      refine wp_region_quiet (C := Out w20) (by kernel_rfl) (by kernel_rfl) ⟨rfl, rfl, rfl, Nat.le_refl _, fun _ _ => rfl⟩ ?_
      refine BigFrame.wpQuiet_want rfl (fun K hK => ?_)
      refine quiet_val (.int .i64 (k : Int)) (fun w' hw' => by go_simp) (hK _ ?_)
      clear hK K
      simp only [Act.put, List.setIfInBounds_toArray, List.set_cons_zero, List.set_cons_succ]
      refine BigFrame.wpQuiet_want rfl (fun K hK => ?_)
      refine quiet_val (.pointer (some ⟨g7, k, none⟩)) (fun w' hw' => by go_simp) (hK _ ?_)
      clear hK K
      simp only [Act.put, List.setIfInBounds_toArray, List.set_cons_zero, List.set_cons_succ]
      refine BigFrame.wpQuiet_want rfl (fun K hK => ?_)
      refine quiet_val (.int .u8 (Mx k)) (fun w' hw' => by have ck := (HB20.out w' hw').2.2.ck hlt; go_simp) (hK _ ?_)
      clear hK K
      simp only [Act.put, List.setIfInBounds_toArray, List.set_cons_zero, List.set_cons_succ]
      refine BigFrame.wpQuiet_want rfl (fun K hK => ?_)
      refine quiet_val (.int .i64 (k : Int)) (fun w' hw' => by go_simp) (hK _ ?_)
      clear hK K
      simp only [Act.put, List.setIfInBounds_toArray, List.set_cons_zero, List.set_cons_succ]
      refine BigFrame.wpQuiet_want rfl (fun K hK => ?_)
      refine quiet_val (.pointer (some ⟨w.heap.size, k, none⟩)) (fun w' hw' => by go_simp) (hK _ ?_)
      clear hK K
      simp only [Act.put, List.setIfInBounds_toArray, List.set_cons_zero, List.set_cons_succ]
      refine BigFrame.wpQuiet_want rfl (fun K hK => ?_)
      refine quiet_val (.int .u8 (c k)) (fun w' hw' => by have ck := (HB20.out w' hw').1.ck hlt; go_simp) (hK _ ?_)
      clear hK K
      simp only [Act.put, List.setIfInBounds_toArray, List.set_cons_zero, List.set_cons_succ]
      refine BigFrame.wpQuiet_want rfl (fun K hK => ?_)
      refine quiet_val (.int .i64 (k : Int)) (fun w' hw' => by go_simp) (hK _ ?_)
      clear hK K
      simp only [Act.put, List.setIfInBounds_toArray, List.set_cons_zero, List.set_cons_succ]
      refine BigFrame.wpQuiet_want rfl (fun K hK => ?_)
      refine quiet_val (.pointer (some ⟨w.heap.size + 1, k, none⟩)) (fun w' hw' => by go_simp) (hK _ ?_)
      clear hK K
      simp only [Act.put, List.setIfInBounds_toArray, List.set_cons_zero, List.set_cons_succ]
      refine BigFrame.wpQuiet_want rfl (fun K hK => ?_)
      refine quiet_val (.int .u8 (d k)) (fun w' hw' => by have ck := (HB20.out w' hw').2.1.ck hlt; go_simp) (hK _ ?_)
      clear hK K
      simp only [Act.put, List.setIfInBounds_toArray, List.set_cons_zero, List.set_cons_succ]
      refine BigFrame.wpQuiet_want rfl (fun K hK => ?_)
      refine quiet_val (.int .u8 (min (c k) (d k))) (fun w' hw' => by go_simp) (hK _ ?_)
      clear hK K
      simp only [Act.put, List.setIfInBounds_toArray, List.set_cons_zero, List.set_cons_succ]
      refine BigFrame.wpQuiet_want rfl (fun K hK => ?_)
      refine quiet_val (.bool false) (fun w' hw' => by have e := E1.out; go_simp) (hK _ ?_)
      clear hK K
      simp only [Act.put, List.setIfInBounds_toArray, List.set_cons_zero, List.set_cons_succ]
      refine BigFrame.wpQuiet_want rfl (fun K hK => ?_)
      refine quiet_val (.bool false) (fun w' hw' => by go_simp) (hK _ ?_)
      clear hK K
      simp only [Act.put, List.setIfInBounds_toArray, List.set_cons_zero, List.set_cons_succ]
      refine BigFrame.wpQuiet_want rfl (fun K hK => ?_)
      refine quiet_val (.int .i64 (k : Int)) (fun w' hw' => by go_simp) (hK _ ?_)
      clear hK K
      simp only [Act.put, List.setIfInBounds_toArray, List.set_cons_zero, List.set_cons_succ]
      refine BigFrame.wpQuiet_want rfl (fun K hK => ?_)
      refine quiet_val (.pointer (some ⟨g7, k, none⟩)) (fun w' hw' => by go_simp) (hK _ ?_)
      clear hK K
      simp only [Act.put, List.setIfInBounds_toArray, List.set_cons_zero, List.set_cons_succ]
      refine BigFrame.wpQuiet_want rfl (fun K hK => ?_)
      refine quiet_val (.int .u8 (Mx k)) (fun w' hw' => by have ck := (HB20.out w' hw').2.2.ck hlt; go_simp) (hK _ ?_)
      clear hK K
      simp only [Act.put, List.setIfInBounds_toArray, List.set_cons_zero, List.set_cons_succ]
      refine BigFrame.wpQuiet_want rfl (fun K hK => ?_)
      refine quiet_val (.int .i64 (k : Int)) (fun w' hw' => by go_simp) (hK _ ?_)
      clear hK K
      simp only [Act.put, List.setIfInBounds_toArray, List.set_cons_zero, List.set_cons_succ]
      refine BigFrame.wpQuiet_want rfl (fun K hK => ?_)
      refine quiet_val (.pointer (some ⟨w.heap.size, k, none⟩)) (fun w' hw' => by go_simp) (hK _ ?_)
      clear hK K
      simp only [Act.put, List.setIfInBounds_toArray, List.set_cons_zero, List.set_cons_succ]
      refine BigFrame.wpQuiet_want rfl (fun K hK => ?_)
      refine quiet_val (.int .u8 (c k)) (fun w' hw' => by have ck := (HB20.out w' hw').1.ck hlt; go_simp) (hK _ ?_)
      clear hK K
      simp only [Act.put, List.setIfInBounds_toArray, List.set_cons_zero, List.set_cons_succ]
      refine BigFrame.wpQuiet_want rfl (fun K hK => ?_)
      refine quiet_val (.int .i64 (k : Int)) (fun w' hw' => by go_simp) (hK _ ?_)
      clear hK K
      simp only [Act.put, List.setIfInBounds_toArray, List.set_cons_zero, List.set_cons_succ]
      refine BigFrame.wpQuiet_want rfl (fun K hK => ?_)
      refine quiet_val (.pointer (some ⟨w.heap.size + 1, k, none⟩)) (fun w' hw' => by go_simp) (hK _ ?_)
      clear hK K
      simp only [Act.put, List.setIfInBounds_toArray, List.set_cons_zero, List.set_cons_succ]
      refine BigFrame.wpQuiet_want rfl (fun K hK => ?_)
      refine quiet_val (.int .u8 (d k)) (fun w' hw' => by have ck := (HB20.out w' hw').2.1.ck hlt; go_simp) (hK _ ?_)
      clear hK K
      simp only [Act.put, List.setIfInBounds_toArray, List.set_cons_zero, List.set_cons_succ]
      refine BigFrame.wpQuiet_want rfl (fun K hK => ?_)
      refine quiet_val (.int .u8 (max (c k) (d k))) (fun w' hw' => by go_simp) (hK _ ?_)
      clear hK K
      simp only [Act.put, List.setIfInBounds_toArray, List.set_cons_zero, List.set_cons_succ]
      refine BigFrame.wpQuiet_want rfl (fun K hK => ?_)
      refine quiet_val (.bool false) (fun w' hw' => by have e := E2.out; go_simp) (hK _ ?_)
      clear hK K
      simp only [Act.put, List.setIfInBounds_toArray, List.set_cons_zero, List.set_cons_succ]
      refine BigFrame.wpQuiet_want rfl (fun K hK => ?_)
      refine quiet_val (.bool false) (fun w' hw' => by go_simp) (hK _ ?_)
      clear hK K
      simp only [Act.put, List.setIfInBounds_toArray, List.set_cons_zero, List.set_cons_succ]
      refine wpQuiet_nil ?_
      intro w21 hb
      have HB21 : Hid (∀ A, Below w21.heap.size w21 A → Blk A w.heap.size 26 (c8 c) ∧ Blk A (w.heap.size + 1) 26 (c8 d) ∧ Blk A g7 26 (c8 Mx)) := fun A hA => HB20.out A (hb.trans (hA.mono hb.size))
      have BW21 : Hid (Below w.heap.size w w21) := BW20.out.trans (hb.mono BW20.out.size)
      clear hb
      go_wp2_with fail
      exact ⟨⟨k + 1, by omega, by go_num, HB21, BW21⟩, by simp [intOf]; omega⟩
    · have hd : decide ((k : Int) < 4) = false := by simp; omega
      obtain ⟨c00, c01, c02, c03⟩ := (HB20.out w20 (Below.refl _ _)).1.c0
      go_wp2_with fail
      refine (HRI.out _).mono ?_
      rintro e w21 ⟨rfl, hb⟩
      have HB21 : Hid (∀ A, Below w21.heap.size w21 A → Blk A w.heap.size 26 (c8 c) ∧ Blk A (w.heap.size + 1) 26 (c8 d) ∧ Blk A g7 26 (c8 Mx)) := fun A hA => HB20.out A (hb.trans (hA.mono hb.size))
      have BW21 : Hid (Below w.heap.size w w21) := BW20.out.trans (hb.mono BW20.out.size)
      clear hb c00 c01 c02 c03
      go_wp2_with fail
      refine (HAW.out _).mono ?_
      rintro e w22 ⟨rfl, hb⟩
      have HB22 : Hid (∀ A, Below w22.heap.size w22 A → Blk A w.heap.size 26 (c8 c) ∧ Blk A (w.heap.size + 1) 26 (c8 d) ∧ Blk A g7 26 (c8 Mx)) := fun A hA => HB21.out A (hb.trans (hA.mono hb.size))
      have BW22 : Hid (Below w.heap.size w w22) := BW21.out.trans (hb.mono BW21.out.size)
      clear hb
      go_wp2_with fail
      go_ret
      exact ⟨rfl, BW22.out⟩
set_option maxHeartbeats 4000000 in
set_option maxRecDepth 100000 in
theorem paintMixes_c (P : PaintOk) (c d : Col) (t : Int) (hc : OkC c) (hd : OkC d) (w : World) (hrc : rightC c = true) (hrd : rightC d = false) : Calls Try.prog 7 #[.agg #[.int .u8 (c 0), .int .u8 (c 1), .int .u8 (c 2), .int .u8 (c 3)], .agg #[.int .u8 (d 0), .int .u8 (d 1), .int .u8 (d 2), .int .u8 (d 3)], .int .i64 t] w fun e w' => e = .returned (.bool true) ∧ Below w.heap.size w w' := by
  have HAW := Lib.hid (law_awake_c P)
  have HRC := Lib.hid (law_ref_c c hc)
  have HRD := Lib.hid (law_ref_c d hd)
  have hT := clamp_in t 65536 (by decide)
  have HMX := Lib.hid (fun w => P.mix c d t w hc hd)
  have HM0 : Hid (∀ w, Calls Try.prog 26 #[.agg #[.int .u8 (c 0), .int .u8 (c 1), .int .u8 (c 2), .int .u8 (c 3)], .agg #[.int .u8 (d 0), .int .u8 (d 1), .int .u8 (d 2), .int .u8 (d 3)], .int .i64 0] w fun e w' => e = .returned (.agg #[.int .u8 (c 0), .int .u8 (c 1), .int .u8 (c 2), .int .u8 (c 3)]) ∧ Below w.heap.size w w') := fun w => by
    have h := P.mix c d 0 w hc hd
    rw [show clampI 0 65536 = 0 by decide, eq8 (mix_0 c d)] at h
    exact h
  have HM1 : Hid (∀ w, Calls Try.prog 26 #[.agg #[.int .u8 (c 0), .int .u8 (c 1), .int .u8 (c 2), .int .u8 (c 3)], .agg #[.int .u8 (d 0), .int .u8 (d 1), .int .u8 (d 2), .int .u8 (d 3)], .int .i64 65536] w fun e w' => e = .returned (.agg #[.int .u8 (d 0), .int .u8 (d 1), .int .u8 (d 2), .int .u8 (d 3)]) ∧ Below w.heap.size w w') := fun w => by
    have h := P.mix c d 65536 w hc hd
    rw [show clampI 65536 65536 = 65536 by decide, eq8 (mix_1 c d)] at h
    exact h
  have HM2 : Hid (∀ w, Calls Try.prog 26 #[.agg #[.int .u8 (c 0), .int .u8 (c 1), .int .u8 (c 2), .int .u8 (c 3)], .agg #[.int .u8 (c 0), .int .u8 (c 1), .int .u8 (c 2), .int .u8 (c 3)], .int .i64 t] w fun e w' => e = .returned (.agg #[.int .u8 (c 0), .int .u8 (c 1), .int .u8 (c 2), .int .u8 (c 3)]) ∧ Below w.heap.size w w') := fun w => by
    have h := P.mix c c t w hc hc
    rw [eq8 (mix_same c _)] at h
    exact h
  have HRM := Lib.hid (refMix_c c d (clampI t 65536) hc hd hT)
  have okM := mix_ok hc hd hT
  have HIS := Lib.hid (law_is_c _ okM)
  have HMID := Lib.hid (mix_mid c d hT)
  have HRI := Lib.hid (fun w => P.right c w hc)
  have HRJ := Lib.hid (fun w => P.right d w hd)
  have HRX := Lib.hid (fun w => P.right _ w okM)
  have EQc := equal_c8 c
  have EQd := equal_c8 d
  rw [hrc] at HRI
  rw [hrd] at HRJ
  clear hrc hrd
  obtain ⟨T, hTT⟩ : ∃ T, clampI t 65536 = T := ⟨_, rfl⟩
  rw [hTT] at HRM HMX HIS HMID HRX
  have HTN : Hid (min (max t 0) 65536 = T) := hTT
  generalize mixC c d T = Mx at *
  clear hTT hT okM hc hd
  go_enter Try.func7, Try.ntmps7
  go_wp2_with fail
  obtain ⟨w1, hw1⟩ : ∃ W, (w.alloc (.cells #[.int .u8 (c 0), .int .u8 (c 1), .int .u8 (c 2), .int .u8 (c 3)] 26)).alloc (.cells #[.int .u8 (d 0), .int .u8 (d 1), .int .u8 (d 2), .int .u8 (d 3)] 26) = W := ⟨_, rfl⟩
  have BW1 : Hid (Below w.heap.size w w1) := by
    rw [← hw1]
    exact ((Below.refl _ _).alloc (Nat.le_refl _) _).alloc (by simp) _
  have HB1 : Hid (∀ A, Below w1.heap.size w1 A → Blk A w.heap.size 26 (c8 c) ∧ Blk A (w.heap.size + 1) 26 (c8 d)) := fun A hA => by
      rw [← hw1] at hA
      exact ⟨((Blk.new _ _ _).alloc _).grow hA, (Blk.newAt _ _ _ (by simp)).grow hA⟩
  rw [hw1]
  clear hw1
  obtain ⟨c00, c01, c02, c03⟩ := (HB1.out w1 (Below.refl _ _)).1.c0
  obtain ⟨c10, c11, c12, c13⟩ := (HB1.out w1 (Below.refl _ _)).2.c0
  refine (HMX.out _).mono ?_
  rintro e w2 ⟨rfl, hb⟩
  have HB2 : Hid (∀ A, Below w2.heap.size w2 A → Blk A w.heap.size 26 (c8 c) ∧ Blk A (w.heap.size + 1) 26 (c8 d)) := fun A hA => HB1.out A (hb.trans (hA.mono hb.size))
  have BW2 : Hid (Below w.heap.size w w2) := BW1.out.trans (hb.mono BW1.out.size)
  clear hb c00 c01 c02 c03 c10 c11 c12 c13
  go_wp2_with fail
  obtain ⟨w3, hw⟩ : ∃ W, w2.alloc (.cells #[.int .u8 (Mx 0), .int .u8 (Mx 1), .int .u8 (Mx 2), .int .u8 (Mx 3)] 26) = W := ⟨_, rfl⟩
  have HB3 : Hid (∀ A, Below w3.heap.size w3 A → Blk A w.heap.size 26 (c8 c) ∧ Blk A (w.heap.size + 1) 26 (c8 d) ∧ Blk A w2.heap.size 26 (c8 Mx)) := fun A hA => by
      rw [← hw] at hA
      exact ⟨((HB2.out w2 (Below.refl _ _)).1.alloc _).grow hA, ((HB2.out w2 (Below.refl _ _)).2.alloc _).grow hA, (Blk.new _ _ _).grow hA⟩
  have BW3 : Hid (Below w.heap.size w w3) := by
    rw [← hw]
    exact BW2.out.alloc BW2.out.size _
  rw [hw]
  clear hw
  generalize w2.heap.size = g7 at *
  refine wp_region_quiet (C := Out w3) (by kernel_rfl) (by kernel_rfl) ⟨rfl, rfl, rfl, Nat.le_refl _, fun _ _ => rfl⟩ ?_
  refine BigFrame.wpQuiet_want rfl (fun K hK => ?_)
  refine quiet_val (.agg #[.int .u8 (Mx 0), .int .u8 (Mx 1), .int .u8 (Mx 2), .int .u8 (Mx 3)]) (fun w' hw' => by obtain ⟨c0, c1, c2, c3⟩ := (HB3.out w' hw').2.2.c0; go_simp) (hK _ ?_)
  clear hK K
  simp only [Act.put, List.setIfInBounds_toArray, List.set_cons_zero, List.set_cons_succ]
  refine BigFrame.wpQuiet_want rfl (fun K hK => ?_)
  refine quiet_val (.agg #[.int .u8 (c 0), .int .u8 (c 1), .int .u8 (c 2), .int .u8 (c 3)]) (fun w' hw' => by obtain ⟨c0, c1, c2, c3⟩ := (HB3.out w' hw').1.c0; go_simp) (hK _ ?_)
  clear hK K
  simp only [Act.put, List.setIfInBounds_toArray, List.set_cons_zero, List.set_cons_succ]
  refine BigFrame.wpQuiet_want rfl (fun K hK => ?_)
  refine quiet_call 17 #[.agg #[.int .u8 (c 0), .int .u8 (c 1), .int .u8 (c 2), .int .u8 (c 3)]] (.agg #[.int .i64 (c 0), .int .i64 (c 1), .int .i64 (c 2), .int .i64 (c 3)]) (fun w' _ => by go_simp) (fun w' hw' => Calls.out hw' (HRC.out w')) (hK _ ?_)
  clear hK K
  simp only [Act.put, List.setIfInBounds_toArray, List.set_cons_zero, List.set_cons_succ]
  refine BigFrame.wpQuiet_want rfl (fun K hK => ?_)
  refine quiet_val (.agg #[.int .u8 (d 0), .int .u8 (d 1), .int .u8 (d 2), .int .u8 (d 3)]) (fun w' hw' => by obtain ⟨c0, c1, c2, c3⟩ := (HB3.out w' hw').2.1.c0; go_simp) (hK _ ?_)
  clear hK K
  simp only [Act.put, List.setIfInBounds_toArray, List.set_cons_zero, List.set_cons_succ]
  refine BigFrame.wpQuiet_want rfl (fun K hK => ?_)
  refine quiet_call 17 #[.agg #[.int .u8 (d 0), .int .u8 (d 1), .int .u8 (d 2), .int .u8 (d 3)]] (.agg #[.int .i64 (d 0), .int .i64 (d 1), .int .i64 (d 2), .int .i64 (d 3)]) (fun w' _ => by go_simp) (fun w' hw' => Calls.out hw' (HRD.out w')) (hK _ ?_)
  clear hK K
  simp only [Act.put, List.setIfInBounds_toArray, List.set_cons_zero, List.set_cons_succ]
  refine BigFrame.wpQuiet_want rfl (fun K hK => ?_)
  refine quiet_val (.int .i64 t) (fun w' hw' => by go_simp) (hK _ ?_)
  clear hK K
  simp only [Act.put, List.setIfInBounds_toArray, List.set_cons_zero, List.set_cons_succ]
  refine BigFrame.wpQuiet_want rfl (fun K hK => ?_)
  refine quiet_val (.int .i64 (max t 0)) (fun w' hw' => by go_simp) (hK _ ?_)
  clear hK K
  simp only [Act.put, List.setIfInBounds_toArray, List.set_cons_zero, List.set_cons_succ]
  refine BigFrame.wpQuiet_want rfl (fun K hK => ?_)
  refine quiet_val (.int .i64 T) (fun w' hw' => by have e := HTN.out; go_simp) (hK _ ?_)
  clear hK K
  simp only [Act.put, List.setIfInBounds_toArray, List.set_cons_zero, List.set_cons_succ]
  refine BigFrame.wpQuiet_want rfl (fun K hK => ?_)
  refine quiet_call 27 #[.agg #[.int .i64 (c 0), .int .i64 (c 1), .int .i64 (c 2), .int .i64 (c 3)], .agg #[.int .i64 (d 0), .int .i64 (d 1), .int .i64 (d 2), .int .i64 (d 3)], .int .i64 T] (.agg #[.int .i64 (Mx 0), .int .i64 (Mx 1), .int .i64 (Mx 2), .int .i64 (Mx 3)]) (fun w' _ => by go_simp) (fun w' hw' => Calls.out hw' (HRM.out w')) (hK _ ?_)
  clear hK K
  simp only [Act.put, List.setIfInBounds_toArray, List.set_cons_zero, List.set_cons_succ]
  refine BigFrame.wpQuiet_want rfl (fun K hK => ?_)
  refine quiet_call 15 #[.agg #[.int .u8 (Mx 0), .int .u8 (Mx 1), .int .u8 (Mx 2), .int .u8 (Mx 3)], .agg #[.int .i64 (Mx 0), .int .i64 (Mx 1), .int .i64 (Mx 2), .int .i64 (Mx 3)]] (.bool true) (fun w' _ => by go_simp) (fun w' hw' => Calls.out hw' (HIS.out w')) (hK _ ?_)
  clear hK K
  simp only [Act.put, List.setIfInBounds_toArray, List.set_cons_zero, List.set_cons_succ]
  refine BigFrame.wpQuiet_want rfl (fun K hK => ?_)
  refine quiet_val (.bool false) (fun w' hw' => by go_simp) (hK _ ?_)
  clear hK K
  simp only [Act.put, List.setIfInBounds_toArray, List.set_cons_zero, List.set_cons_succ]
  refine BigFrame.wpQuiet_want rfl (fun K hK => ?_)
  refine quiet_val (.bool false) (fun w' hw' => by go_simp) (hK _ ?_)
  clear hK K
  simp only [Act.put, List.setIfInBounds_toArray, List.set_cons_zero, List.set_cons_succ]
  refine BigFrame.wpQuiet_want rfl (fun K hK => ?_)
  refine quiet_val (.agg #[.int .u8 (c 0), .int .u8 (c 1), .int .u8 (c 2), .int .u8 (c 3)]) (fun w' hw' => by obtain ⟨c0, c1, c2, c3⟩ := (HB3.out w' hw').1.c0; go_simp) (hK _ ?_)
  clear hK K
  simp only [Act.put, List.setIfInBounds_toArray, List.set_cons_zero, List.set_cons_succ]
  refine BigFrame.wpQuiet_want rfl (fun K hK => ?_)
  refine quiet_val (.agg #[.int .u8 (d 0), .int .u8 (d 1), .int .u8 (d 2), .int .u8 (d 3)]) (fun w' hw' => by obtain ⟨c0, c1, c2, c3⟩ := (HB3.out w' hw').2.1.c0; go_simp) (hK _ ?_)
  clear hK K
  simp only [Act.put, List.setIfInBounds_toArray, List.set_cons_zero, List.set_cons_succ]
  refine BigFrame.wpQuiet_want rfl (fun K hK => ?_)
  refine quiet_call 26 #[.agg #[.int .u8 (c 0), .int .u8 (c 1), .int .u8 (c 2), .int .u8 (c 3)], .agg #[.int .u8 (d 0), .int .u8 (d 1), .int .u8 (d 2), .int .u8 (d 3)], .int .i64 0] (.agg #[.int .u8 (c 0), .int .u8 (c 1), .int .u8 (c 2), .int .u8 (c 3)]) (fun w' _ => by go_simp) (fun w' hw' => Calls.out hw' (HM0.out w')) (hK _ ?_)
  clear hK K
  simp only [Act.put, List.setIfInBounds_toArray, List.set_cons_zero, List.set_cons_succ]
  refine BigFrame.wpQuiet_want rfl (fun K hK => ?_)
  refine quiet_val (.agg #[.int .u8 (c 0), .int .u8 (c 1), .int .u8 (c 2), .int .u8 (c 3)]) (fun w' hw' => by obtain ⟨c0, c1, c2, c3⟩ := (HB3.out w' hw').1.c0; go_simp) (hK _ ?_)
  clear hK K
  simp only [Act.put, List.setIfInBounds_toArray, List.set_cons_zero, List.set_cons_succ]
  refine BigFrame.wpQuiet_want rfl (fun K hK => ?_)
  refine quiet_val (.bool false) (fun w' hw' => by go_simp) (hK _ ?_)
  clear hK K
  simp only [Act.put, List.setIfInBounds_toArray, List.set_cons_zero, List.set_cons_succ]
  refine BigFrame.wpQuiet_want rfl (fun K hK => ?_)
  refine quiet_val (.bool false) (fun w' hw' => by go_simp) (hK _ ?_)
  clear hK K
  simp only [Act.put, List.setIfInBounds_toArray, List.set_cons_zero, List.set_cons_succ]
  refine BigFrame.wpQuiet_want rfl (fun K hK => ?_)
  refine quiet_val (.bool false) (fun w' hw' => by go_simp) (hK _ ?_)
  clear hK K
  simp only [Act.put, List.setIfInBounds_toArray, List.set_cons_zero, List.set_cons_succ]
  refine BigFrame.wpQuiet_want rfl (fun K hK => ?_)
  refine quiet_val (.agg #[.int .u8 (c 0), .int .u8 (c 1), .int .u8 (c 2), .int .u8 (c 3)]) (fun w' hw' => by obtain ⟨c0, c1, c2, c3⟩ := (HB3.out w' hw').1.c0; go_simp) (hK _ ?_)
  clear hK K
  simp only [Act.put, List.setIfInBounds_toArray, List.set_cons_zero, List.set_cons_succ]
  refine BigFrame.wpQuiet_want rfl (fun K hK => ?_)
  refine quiet_val (.agg #[.int .u8 (d 0), .int .u8 (d 1), .int .u8 (d 2), .int .u8 (d 3)]) (fun w' hw' => by obtain ⟨c0, c1, c2, c3⟩ := (HB3.out w' hw').2.1.c0; go_simp) (hK _ ?_)
  clear hK K
  simp only [Act.put, List.setIfInBounds_toArray, List.set_cons_zero, List.set_cons_succ]
  refine BigFrame.wpQuiet_want rfl (fun K hK => ?_)
  refine quiet_call 26 #[.agg #[.int .u8 (c 0), .int .u8 (c 1), .int .u8 (c 2), .int .u8 (c 3)], .agg #[.int .u8 (d 0), .int .u8 (d 1), .int .u8 (d 2), .int .u8 (d 3)], .int .i64 65536] (.agg #[.int .u8 (d 0), .int .u8 (d 1), .int .u8 (d 2), .int .u8 (d 3)]) (fun w' _ => by go_simp) (fun w' hw' => Calls.out hw' (HM1.out w')) (hK _ ?_)
  clear hK K
  simp only [Act.put, List.setIfInBounds_toArray, List.set_cons_zero, List.set_cons_succ]
  refine BigFrame.wpQuiet_want rfl (fun K hK => ?_)
  refine quiet_val (.agg #[.int .u8 (d 0), .int .u8 (d 1), .int .u8 (d 2), .int .u8 (d 3)]) (fun w' hw' => by obtain ⟨c0, c1, c2, c3⟩ := (HB3.out w' hw').2.1.c0; go_simp) (hK _ ?_)
  clear hK K
  simp only [Act.put, List.setIfInBounds_toArray, List.set_cons_zero, List.set_cons_succ]
  refine BigFrame.wpQuiet_want rfl (fun K hK => ?_)
  refine quiet_val (.bool false) (fun w' hw' => by go_simp) (hK _ ?_)
  clear hK K
  simp only [Act.put, List.setIfInBounds_toArray, List.set_cons_zero, List.set_cons_succ]
  refine BigFrame.wpQuiet_want rfl (fun K hK => ?_)
  refine quiet_val (.bool false) (fun w' hw' => by go_simp) (hK _ ?_)
  clear hK K
  simp only [Act.put, List.setIfInBounds_toArray, List.set_cons_zero, List.set_cons_succ]
  refine BigFrame.wpQuiet_want rfl (fun K hK => ?_)
  refine quiet_val (.bool false) (fun w' hw' => by go_simp) (hK _ ?_)
  clear hK K
  simp only [Act.put, List.setIfInBounds_toArray, List.set_cons_zero, List.set_cons_succ]
  refine BigFrame.wpQuiet_want rfl (fun K hK => ?_)
  refine quiet_val (.agg #[.int .u8 (c 0), .int .u8 (c 1), .int .u8 (c 2), .int .u8 (c 3)]) (fun w' hw' => by obtain ⟨c0, c1, c2, c3⟩ := (HB3.out w' hw').1.c0; go_simp) (hK _ ?_)
  clear hK K
  simp only [Act.put, List.setIfInBounds_toArray, List.set_cons_zero, List.set_cons_succ]
  refine BigFrame.wpQuiet_want rfl (fun K hK => ?_)
  refine quiet_val (.agg #[.int .u8 (c 0), .int .u8 (c 1), .int .u8 (c 2), .int .u8 (c 3)]) (fun w' hw' => by obtain ⟨c0, c1, c2, c3⟩ := (HB3.out w' hw').1.c0; go_simp) (hK _ ?_)
  clear hK K
  simp only [Act.put, List.setIfInBounds_toArray, List.set_cons_zero, List.set_cons_succ]
  refine BigFrame.wpQuiet_want rfl (fun K hK => ?_)
  refine quiet_val (.int .i64 t) (fun w' hw' => by go_simp) (hK _ ?_)
  clear hK K
  simp only [Act.put, List.setIfInBounds_toArray, List.set_cons_zero, List.set_cons_succ]
  refine BigFrame.wpQuiet_want rfl (fun K hK => ?_)
  refine quiet_call 26 #[.agg #[.int .u8 (c 0), .int .u8 (c 1), .int .u8 (c 2), .int .u8 (c 3)], .agg #[.int .u8 (c 0), .int .u8 (c 1), .int .u8 (c 2), .int .u8 (c 3)], .int .i64 t] (.agg #[.int .u8 (c 0), .int .u8 (c 1), .int .u8 (c 2), .int .u8 (c 3)]) (fun w' _ => by go_simp) (fun w' hw' => Calls.out hw' (HM2.out w')) (hK _ ?_)
  clear hK K
  simp only [Act.put, List.setIfInBounds_toArray, List.set_cons_zero, List.set_cons_succ]
  refine BigFrame.wpQuiet_want rfl (fun K hK => ?_)
  refine quiet_val (.agg #[.int .u8 (c 0), .int .u8 (c 1), .int .u8 (c 2), .int .u8 (c 3)]) (fun w' hw' => by obtain ⟨c0, c1, c2, c3⟩ := (HB3.out w' hw').1.c0; go_simp) (hK _ ?_)
  clear hK K
  simp only [Act.put, List.setIfInBounds_toArray, List.set_cons_zero, List.set_cons_succ]
  refine BigFrame.wpQuiet_want rfl (fun K hK => ?_)
  refine quiet_val (.bool false) (fun w' hw' => by go_simp) (hK _ ?_)
  clear hK K
  simp only [Act.put, List.setIfInBounds_toArray, List.set_cons_zero, List.set_cons_succ]
  refine BigFrame.wpQuiet_want rfl (fun K hK => ?_)
  refine quiet_val (.bool false) (fun w' hw' => by go_simp) (hK _ ?_)
  clear hK K
  simp only [Act.put, List.setIfInBounds_toArray, List.set_cons_zero, List.set_cons_succ]
  refine wpQuiet_nil ?_
  intro w4 hb
  have HB4 : Hid (∀ A, Below w4.heap.size w4 A → Blk A w.heap.size 26 (c8 c) ∧ Blk A (w.heap.size + 1) 26 (c8 d) ∧ Blk A g7 26 (c8 Mx)) := fun A hA => HB3.out A (hb.trans (hA.mono hb.size))
  have BW4 : Hid (Below w.heap.size w w4) := BW3.out.trans (hb.mono BW3.out.size)
  clear hb
  go_wp2_with fail
  go_loopw [46] (fun s wr => ∃ k : Nat, k ≤ 4 ∧ s = .int .i64 (k : Int) ∧ Hid (∀ A, Below wr.heap.size wr A → Blk A w.heap.size 26 (c8 c) ∧ Blk A (w.heap.size + 1) 26 (c8 d) ∧ Blk A g7 26 (c8 Mx)) ∧ Hid (Below w.heap.size w wr)) (fun s _ => 4 - (intOf s).toNat)
  case atStart => exact ⟨0, by omega, rfl, HB4, BW4⟩
  case round =>
    obtain ⟨k, hk, rfl, HB20, BW20⟩ := hrel
    obtain ⟨w20, rfl⟩ : ∃ x, x = wr := ⟨_, rfl⟩
    by_cases hlt : k < 4
    · have hd : decide ((k : Int) < 4) = true := by simp; omega
      have hki : (k : Int) < 4 := by omega
      have E1 : Hid (decide (Mx k < min (c k) (d k)) = false) := by have := HMID.out k; unfold Hid; simp; omega
      have E2 : Hid (decide (Mx k > max (c k) (d k)) = false) := by have := HMID.out k; unfold Hid; simp; omega
      go_wp2_with fail
      refine wp_region_quiet (C := Out w20) (by kernel_rfl) (by kernel_rfl) ⟨rfl, rfl, rfl, Nat.le_refl _, fun _ _ => rfl⟩ ?_
      refine BigFrame.wpQuiet_want rfl (fun K hK => ?_)
      refine quiet_val (.int .i64 (k : Int)) (fun w' hw' => by go_simp) (hK _ ?_)
      clear hK K
      simp only [Act.put, List.setIfInBounds_toArray, List.set_cons_zero, List.set_cons_succ]
      refine BigFrame.wpQuiet_want rfl (fun K hK => ?_)
      refine quiet_val (.pointer (some ⟨g7, k, none⟩)) (fun w' hw' => by go_simp) (hK _ ?_)
      clear hK K
      simp only [Act.put, List.setIfInBounds_toArray, List.set_cons_zero, List.set_cons_succ]
      refine BigFrame.wpQuiet_want rfl (fun K hK => ?_)
      refine quiet_val (.int .u8 (Mx k)) (fun w' hw' => by have ck := (HB20.out w' hw').2.2.ck hlt; go_simp) (hK _ ?_)
      clear hK K
      simp only [Act.put, List.setIfInBounds_toArray, List.set_cons_zero, List.set_cons_succ]
      refine BigFrame.wpQuiet_want rfl (fun K hK => ?_)
      refine quiet_val (.int .i64 (k : Int)) (fun w' hw' => by go_simp) (hK _ ?_)
      clear hK K
      simp only [Act.put, List.setIfInBounds_toArray, List.set_cons_zero, List.set_cons_succ]
      refine BigFrame.wpQuiet_want rfl (fun K hK => ?_)
      refine quiet_val (.pointer (some ⟨w.heap.size, k, none⟩)) (fun w' hw' => by go_simp) (hK _ ?_)
      clear hK K
      simp only [Act.put, List.setIfInBounds_toArray, List.set_cons_zero, List.set_cons_succ]
      refine BigFrame.wpQuiet_want rfl (fun K hK => ?_)
      refine quiet_val (.int .u8 (c k)) (fun w' hw' => by have ck := (HB20.out w' hw').1.ck hlt; go_simp) (hK _ ?_)
      clear hK K
      simp only [Act.put, List.setIfInBounds_toArray, List.set_cons_zero, List.set_cons_succ]
      refine BigFrame.wpQuiet_want rfl (fun K hK => ?_)
      refine quiet_val (.int .i64 (k : Int)) (fun w' hw' => by go_simp) (hK _ ?_)
      clear hK K
      simp only [Act.put, List.setIfInBounds_toArray, List.set_cons_zero, List.set_cons_succ]
      refine BigFrame.wpQuiet_want rfl (fun K hK => ?_)
      refine quiet_val (.pointer (some ⟨w.heap.size + 1, k, none⟩)) (fun w' hw' => by go_simp) (hK _ ?_)
      clear hK K
      simp only [Act.put, List.setIfInBounds_toArray, List.set_cons_zero, List.set_cons_succ]
      refine BigFrame.wpQuiet_want rfl (fun K hK => ?_)
      refine quiet_val (.int .u8 (d k)) (fun w' hw' => by have ck := (HB20.out w' hw').2.1.ck hlt; go_simp) (hK _ ?_)
      clear hK K
      simp only [Act.put, List.setIfInBounds_toArray, List.set_cons_zero, List.set_cons_succ]
      refine BigFrame.wpQuiet_want rfl (fun K hK => ?_)
      refine quiet_val (.int .u8 (min (c k) (d k))) (fun w' hw' => by go_simp) (hK _ ?_)
      clear hK K
      simp only [Act.put, List.setIfInBounds_toArray, List.set_cons_zero, List.set_cons_succ]
      refine BigFrame.wpQuiet_want rfl (fun K hK => ?_)
      refine quiet_val (.bool false) (fun w' hw' => by have e := E1.out; go_simp) (hK _ ?_)
      clear hK K
      simp only [Act.put, List.setIfInBounds_toArray, List.set_cons_zero, List.set_cons_succ]
      refine BigFrame.wpQuiet_want rfl (fun K hK => ?_)
      refine quiet_val (.bool false) (fun w' hw' => by go_simp) (hK _ ?_)
      clear hK K
      simp only [Act.put, List.setIfInBounds_toArray, List.set_cons_zero, List.set_cons_succ]
      refine BigFrame.wpQuiet_want rfl (fun K hK => ?_)
      refine quiet_val (.int .i64 (k : Int)) (fun w' hw' => by go_simp) (hK _ ?_)
      clear hK K
      simp only [Act.put, List.setIfInBounds_toArray, List.set_cons_zero, List.set_cons_succ]
      refine BigFrame.wpQuiet_want rfl (fun K hK => ?_)
      refine quiet_val (.pointer (some ⟨g7, k, none⟩)) (fun w' hw' => by go_simp) (hK _ ?_)
      clear hK K
      simp only [Act.put, List.setIfInBounds_toArray, List.set_cons_zero, List.set_cons_succ]
      refine BigFrame.wpQuiet_want rfl (fun K hK => ?_)
      refine quiet_val (.int .u8 (Mx k)) (fun w' hw' => by have ck := (HB20.out w' hw').2.2.ck hlt; go_simp) (hK _ ?_)
      clear hK K
      simp only [Act.put, List.setIfInBounds_toArray, List.set_cons_zero, List.set_cons_succ]
      refine BigFrame.wpQuiet_want rfl (fun K hK => ?_)
      refine quiet_val (.int .i64 (k : Int)) (fun w' hw' => by go_simp) (hK _ ?_)
      clear hK K
      simp only [Act.put, List.setIfInBounds_toArray, List.set_cons_zero, List.set_cons_succ]
      refine BigFrame.wpQuiet_want rfl (fun K hK => ?_)
      refine quiet_val (.pointer (some ⟨w.heap.size, k, none⟩)) (fun w' hw' => by go_simp) (hK _ ?_)
      clear hK K
      simp only [Act.put, List.setIfInBounds_toArray, List.set_cons_zero, List.set_cons_succ]
      refine BigFrame.wpQuiet_want rfl (fun K hK => ?_)
      refine quiet_val (.int .u8 (c k)) (fun w' hw' => by have ck := (HB20.out w' hw').1.ck hlt; go_simp) (hK _ ?_)
      clear hK K
      simp only [Act.put, List.setIfInBounds_toArray, List.set_cons_zero, List.set_cons_succ]
      refine BigFrame.wpQuiet_want rfl (fun K hK => ?_)
      refine quiet_val (.int .i64 (k : Int)) (fun w' hw' => by go_simp) (hK _ ?_)
      clear hK K
      simp only [Act.put, List.setIfInBounds_toArray, List.set_cons_zero, List.set_cons_succ]
      refine BigFrame.wpQuiet_want rfl (fun K hK => ?_)
      refine quiet_val (.pointer (some ⟨w.heap.size + 1, k, none⟩)) (fun w' hw' => by go_simp) (hK _ ?_)
      clear hK K
      simp only [Act.put, List.setIfInBounds_toArray, List.set_cons_zero, List.set_cons_succ]
      refine BigFrame.wpQuiet_want rfl (fun K hK => ?_)
      refine quiet_val (.int .u8 (d k)) (fun w' hw' => by have ck := (HB20.out w' hw').2.1.ck hlt; go_simp) (hK _ ?_)
      clear hK K
      simp only [Act.put, List.setIfInBounds_toArray, List.set_cons_zero, List.set_cons_succ]
      refine BigFrame.wpQuiet_want rfl (fun K hK => ?_)
      refine quiet_val (.int .u8 (max (c k) (d k))) (fun w' hw' => by go_simp) (hK _ ?_)
      clear hK K
      simp only [Act.put, List.setIfInBounds_toArray, List.set_cons_zero, List.set_cons_succ]
      refine BigFrame.wpQuiet_want rfl (fun K hK => ?_)
      refine quiet_val (.bool false) (fun w' hw' => by have e := E2.out; go_simp) (hK _ ?_)
      clear hK K
      simp only [Act.put, List.setIfInBounds_toArray, List.set_cons_zero, List.set_cons_succ]
      refine BigFrame.wpQuiet_want rfl (fun K hK => ?_)
      refine quiet_val (.bool false) (fun w' hw' => by go_simp) (hK _ ?_)
      clear hK K
      simp only [Act.put, List.setIfInBounds_toArray, List.set_cons_zero, List.set_cons_succ]
      refine wpQuiet_nil ?_
      intro w21 hb
      have HB21 : Hid (∀ A, Below w21.heap.size w21 A → Blk A w.heap.size 26 (c8 c) ∧ Blk A (w.heap.size + 1) 26 (c8 d) ∧ Blk A g7 26 (c8 Mx)) := fun A hA => HB20.out A (hb.trans (hA.mono hb.size))
      have BW21 : Hid (Below w.heap.size w w21) := BW20.out.trans (hb.mono BW20.out.size)
      clear hb
      go_wp2_with fail
      exact ⟨⟨k + 1, by omega, by go_num, HB21, BW21⟩, by simp [intOf]; omega⟩
    · have hd : decide ((k : Int) < 4) = false := by simp; omega
      obtain ⟨c00, c01, c02, c03⟩ := (HB20.out w20 (Below.refl _ _)).1.c0
      go_wp2_with fail
      refine (HRI.out _).mono ?_
      rintro e w21 ⟨rfl, hb⟩
      have HB21 : Hid (∀ A, Below w21.heap.size w21 A → Blk A w.heap.size 26 (c8 c) ∧ Blk A (w.heap.size + 1) 26 (c8 d) ∧ Blk A g7 26 (c8 Mx)) := fun A hA => HB20.out A (hb.trans (hA.mono hb.size))
      have BW21 : Hid (Below w.heap.size w w21) := BW20.out.trans (hb.mono BW20.out.size)
      clear hb c00 c01 c02 c03
      obtain ⟨c00, c01, c02, c03⟩ := (HB21.out w21 (Below.refl _ _)).2.1.c0
      go_wp2_with fail
      refine (HRJ.out _).mono ?_
      rintro e w22 ⟨rfl, hb⟩
      have HB22 : Hid (∀ A, Below w22.heap.size w22 A → Blk A w.heap.size 26 (c8 c) ∧ Blk A (w.heap.size + 1) 26 (c8 d) ∧ Blk A g7 26 (c8 Mx)) := fun A hA => HB21.out A (hb.trans (hA.mono hb.size))
      have BW22 : Hid (Below w.heap.size w w22) := BW21.out.trans (hb.mono BW21.out.size)
      clear hb c00 c01 c02 c03
      go_wp2_with fail
      refine (HAW.out _).mono ?_
      rintro e w23 ⟨rfl, hb⟩
      have HB23 : Hid (∀ A, Below w23.heap.size w23 A → Blk A w.heap.size 26 (c8 c) ∧ Blk A (w.heap.size + 1) 26 (c8 d) ∧ Blk A g7 26 (c8 Mx)) := fun A hA => HB22.out A (hb.trans (hA.mono hb.size))
      have BW23 : Hid (Below w.heap.size w w23) := BW22.out.trans (hb.mono BW22.out.size)
      clear hb
      go_wp2_with fail
      go_ret
      exact ⟨rfl, BW23.out⟩
set_option maxHeartbeats 4000000 in
set_option maxRecDepth 100000 in
theorem paintMixes_b (P : PaintOk) (c d : Col) (t : Int) (hc : OkC c) (hd : OkC d) (w : World) (hrc : rightC c = true) (hrd : rightC d = true) : Calls Try.prog 7 #[.agg #[.int .u8 (c 0), .int .u8 (c 1), .int .u8 (c 2), .int .u8 (c 3)], .agg #[.int .u8 (d 0), .int .u8 (d 1), .int .u8 (d 2), .int .u8 (d 3)], .int .i64 t] w fun e w' => e = .returned (.bool true) ∧ Below w.heap.size w w' := by
  have HAW := Lib.hid (law_awake_c P)
  have HRC := Lib.hid (law_ref_c c hc)
  have HRD := Lib.hid (law_ref_c d hd)
  have hT := clamp_in t 65536 (by decide)
  have HMX := Lib.hid (fun w => P.mix c d t w hc hd)
  have HM0 : Hid (∀ w, Calls Try.prog 26 #[.agg #[.int .u8 (c 0), .int .u8 (c 1), .int .u8 (c 2), .int .u8 (c 3)], .agg #[.int .u8 (d 0), .int .u8 (d 1), .int .u8 (d 2), .int .u8 (d 3)], .int .i64 0] w fun e w' => e = .returned (.agg #[.int .u8 (c 0), .int .u8 (c 1), .int .u8 (c 2), .int .u8 (c 3)]) ∧ Below w.heap.size w w') := fun w => by
    have h := P.mix c d 0 w hc hd
    rw [show clampI 0 65536 = 0 by decide, eq8 (mix_0 c d)] at h
    exact h
  have HM1 : Hid (∀ w, Calls Try.prog 26 #[.agg #[.int .u8 (c 0), .int .u8 (c 1), .int .u8 (c 2), .int .u8 (c 3)], .agg #[.int .u8 (d 0), .int .u8 (d 1), .int .u8 (d 2), .int .u8 (d 3)], .int .i64 65536] w fun e w' => e = .returned (.agg #[.int .u8 (d 0), .int .u8 (d 1), .int .u8 (d 2), .int .u8 (d 3)]) ∧ Below w.heap.size w w') := fun w => by
    have h := P.mix c d 65536 w hc hd
    rw [show clampI 65536 65536 = 65536 by decide, eq8 (mix_1 c d)] at h
    exact h
  have HM2 : Hid (∀ w, Calls Try.prog 26 #[.agg #[.int .u8 (c 0), .int .u8 (c 1), .int .u8 (c 2), .int .u8 (c 3)], .agg #[.int .u8 (c 0), .int .u8 (c 1), .int .u8 (c 2), .int .u8 (c 3)], .int .i64 t] w fun e w' => e = .returned (.agg #[.int .u8 (c 0), .int .u8 (c 1), .int .u8 (c 2), .int .u8 (c 3)]) ∧ Below w.heap.size w w') := fun w => by
    have h := P.mix c c t w hc hc
    rw [eq8 (mix_same c _)] at h
    exact h
  have HRM := Lib.hid (refMix_c c d (clampI t 65536) hc hd hT)
  have okM := mix_ok hc hd hT
  have HIS := Lib.hid (law_is_c _ okM)
  have HMID := Lib.hid (mix_mid c d hT)
  have HRI := Lib.hid (fun w => P.right c w hc)
  have HRJ := Lib.hid (fun w => P.right d w hd)
  have HRX := Lib.hid (fun w => P.right _ w okM)
  have EQc := equal_c8 c
  have EQd := equal_c8 d
  rw [hrc] at HRI
  rw [hrd] at HRJ
  rw [mix_right hT hrc hrd] at HRX
  clear hrc hrd
  obtain ⟨T, hTT⟩ : ∃ T, clampI t 65536 = T := ⟨_, rfl⟩
  rw [hTT] at HRM HMX HIS HMID HRX
  have HTN : Hid (min (max t 0) 65536 = T) := hTT
  generalize mixC c d T = Mx at *
  clear hTT hT okM hc hd
  go_enter Try.func7, Try.ntmps7
  go_wp2_with fail
  obtain ⟨w1, hw1⟩ : ∃ W, (w.alloc (.cells #[.int .u8 (c 0), .int .u8 (c 1), .int .u8 (c 2), .int .u8 (c 3)] 26)).alloc (.cells #[.int .u8 (d 0), .int .u8 (d 1), .int .u8 (d 2), .int .u8 (d 3)] 26) = W := ⟨_, rfl⟩
  have BW1 : Hid (Below w.heap.size w w1) := by
    rw [← hw1]
    exact ((Below.refl _ _).alloc (Nat.le_refl _) _).alloc (by simp) _
  have HB1 : Hid (∀ A, Below w1.heap.size w1 A → Blk A w.heap.size 26 (c8 c) ∧ Blk A (w.heap.size + 1) 26 (c8 d)) := fun A hA => by
      rw [← hw1] at hA
      exact ⟨((Blk.new _ _ _).alloc _).grow hA, (Blk.newAt _ _ _ (by simp)).grow hA⟩
  rw [hw1]
  clear hw1
  obtain ⟨c00, c01, c02, c03⟩ := (HB1.out w1 (Below.refl _ _)).1.c0
  obtain ⟨c10, c11, c12, c13⟩ := (HB1.out w1 (Below.refl _ _)).2.c0
  refine (HMX.out _).mono ?_
  rintro e w2 ⟨rfl, hb⟩
  have HB2 : Hid (∀ A, Below w2.heap.size w2 A → Blk A w.heap.size 26 (c8 c) ∧ Blk A (w.heap.size + 1) 26 (c8 d)) := fun A hA => HB1.out A (hb.trans (hA.mono hb.size))
  have BW2 : Hid (Below w.heap.size w w2) := BW1.out.trans (hb.mono BW1.out.size)
  clear hb c00 c01 c02 c03 c10 c11 c12 c13
  go_wp2_with fail
  obtain ⟨w3, hw⟩ : ∃ W, w2.alloc (.cells #[.int .u8 (Mx 0), .int .u8 (Mx 1), .int .u8 (Mx 2), .int .u8 (Mx 3)] 26) = W := ⟨_, rfl⟩
  have HB3 : Hid (∀ A, Below w3.heap.size w3 A → Blk A w.heap.size 26 (c8 c) ∧ Blk A (w.heap.size + 1) 26 (c8 d) ∧ Blk A w2.heap.size 26 (c8 Mx)) := fun A hA => by
      rw [← hw] at hA
      exact ⟨((HB2.out w2 (Below.refl _ _)).1.alloc _).grow hA, ((HB2.out w2 (Below.refl _ _)).2.alloc _).grow hA, (Blk.new _ _ _).grow hA⟩
  have BW3 : Hid (Below w.heap.size w w3) := by
    rw [← hw]
    exact BW2.out.alloc BW2.out.size _
  rw [hw]
  clear hw
  generalize w2.heap.size = g7 at *
  refine wp_region_quiet (C := Out w3) (by kernel_rfl) (by kernel_rfl) ⟨rfl, rfl, rfl, Nat.le_refl _, fun _ _ => rfl⟩ ?_
  refine BigFrame.wpQuiet_want rfl (fun K hK => ?_)
  refine quiet_val (.agg #[.int .u8 (Mx 0), .int .u8 (Mx 1), .int .u8 (Mx 2), .int .u8 (Mx 3)]) (fun w' hw' => by obtain ⟨c0, c1, c2, c3⟩ := (HB3.out w' hw').2.2.c0; go_simp) (hK _ ?_)
  clear hK K
  simp only [Act.put, List.setIfInBounds_toArray, List.set_cons_zero, List.set_cons_succ]
  refine BigFrame.wpQuiet_want rfl (fun K hK => ?_)
  refine quiet_val (.agg #[.int .u8 (c 0), .int .u8 (c 1), .int .u8 (c 2), .int .u8 (c 3)]) (fun w' hw' => by obtain ⟨c0, c1, c2, c3⟩ := (HB3.out w' hw').1.c0; go_simp) (hK _ ?_)
  clear hK K
  simp only [Act.put, List.setIfInBounds_toArray, List.set_cons_zero, List.set_cons_succ]
  refine BigFrame.wpQuiet_want rfl (fun K hK => ?_)
  refine quiet_call 17 #[.agg #[.int .u8 (c 0), .int .u8 (c 1), .int .u8 (c 2), .int .u8 (c 3)]] (.agg #[.int .i64 (c 0), .int .i64 (c 1), .int .i64 (c 2), .int .i64 (c 3)]) (fun w' _ => by go_simp) (fun w' hw' => Calls.out hw' (HRC.out w')) (hK _ ?_)
  clear hK K
  simp only [Act.put, List.setIfInBounds_toArray, List.set_cons_zero, List.set_cons_succ]
  refine BigFrame.wpQuiet_want rfl (fun K hK => ?_)
  refine quiet_val (.agg #[.int .u8 (d 0), .int .u8 (d 1), .int .u8 (d 2), .int .u8 (d 3)]) (fun w' hw' => by obtain ⟨c0, c1, c2, c3⟩ := (HB3.out w' hw').2.1.c0; go_simp) (hK _ ?_)
  clear hK K
  simp only [Act.put, List.setIfInBounds_toArray, List.set_cons_zero, List.set_cons_succ]
  refine BigFrame.wpQuiet_want rfl (fun K hK => ?_)
  refine quiet_call 17 #[.agg #[.int .u8 (d 0), .int .u8 (d 1), .int .u8 (d 2), .int .u8 (d 3)]] (.agg #[.int .i64 (d 0), .int .i64 (d 1), .int .i64 (d 2), .int .i64 (d 3)]) (fun w' _ => by go_simp) (fun w' hw' => Calls.out hw' (HRD.out w')) (hK _ ?_)
  clear hK K
  simp only [Act.put, List.setIfInBounds_toArray, List.set_cons_zero, List.set_cons_succ]
  refine BigFrame.wpQuiet_want rfl (fun K hK => ?_)
  refine quiet_val (.int .i64 t) (fun w' hw' => by go_simp) (hK _ ?_)
  clear hK K
  simp only [Act.put, List.setIfInBounds_toArray, List.set_cons_zero, List.set_cons_succ]
  refine BigFrame.wpQuiet_want rfl (fun K hK => ?_)
  refine quiet_val (.int .i64 (max t 0)) (fun w' hw' => by go_simp) (hK _ ?_)
  clear hK K
  simp only [Act.put, List.setIfInBounds_toArray, List.set_cons_zero, List.set_cons_succ]
  refine BigFrame.wpQuiet_want rfl (fun K hK => ?_)
  refine quiet_val (.int .i64 T) (fun w' hw' => by have e := HTN.out; go_simp) (hK _ ?_)
  clear hK K
  simp only [Act.put, List.setIfInBounds_toArray, List.set_cons_zero, List.set_cons_succ]
  refine BigFrame.wpQuiet_want rfl (fun K hK => ?_)
  refine quiet_call 27 #[.agg #[.int .i64 (c 0), .int .i64 (c 1), .int .i64 (c 2), .int .i64 (c 3)], .agg #[.int .i64 (d 0), .int .i64 (d 1), .int .i64 (d 2), .int .i64 (d 3)], .int .i64 T] (.agg #[.int .i64 (Mx 0), .int .i64 (Mx 1), .int .i64 (Mx 2), .int .i64 (Mx 3)]) (fun w' _ => by go_simp) (fun w' hw' => Calls.out hw' (HRM.out w')) (hK _ ?_)
  clear hK K
  simp only [Act.put, List.setIfInBounds_toArray, List.set_cons_zero, List.set_cons_succ]
  refine BigFrame.wpQuiet_want rfl (fun K hK => ?_)
  refine quiet_call 15 #[.agg #[.int .u8 (Mx 0), .int .u8 (Mx 1), .int .u8 (Mx 2), .int .u8 (Mx 3)], .agg #[.int .i64 (Mx 0), .int .i64 (Mx 1), .int .i64 (Mx 2), .int .i64 (Mx 3)]] (.bool true) (fun w' _ => by go_simp) (fun w' hw' => Calls.out hw' (HIS.out w')) (hK _ ?_)
  clear hK K
  simp only [Act.put, List.setIfInBounds_toArray, List.set_cons_zero, List.set_cons_succ]
  refine BigFrame.wpQuiet_want rfl (fun K hK => ?_)
  refine quiet_val (.bool false) (fun w' hw' => by go_simp) (hK _ ?_)
  clear hK K
  simp only [Act.put, List.setIfInBounds_toArray, List.set_cons_zero, List.set_cons_succ]
  refine BigFrame.wpQuiet_want rfl (fun K hK => ?_)
  refine quiet_val (.bool false) (fun w' hw' => by go_simp) (hK _ ?_)
  clear hK K
  simp only [Act.put, List.setIfInBounds_toArray, List.set_cons_zero, List.set_cons_succ]
  refine BigFrame.wpQuiet_want rfl (fun K hK => ?_)
  refine quiet_val (.agg #[.int .u8 (c 0), .int .u8 (c 1), .int .u8 (c 2), .int .u8 (c 3)]) (fun w' hw' => by obtain ⟨c0, c1, c2, c3⟩ := (HB3.out w' hw').1.c0; go_simp) (hK _ ?_)
  clear hK K
  simp only [Act.put, List.setIfInBounds_toArray, List.set_cons_zero, List.set_cons_succ]
  refine BigFrame.wpQuiet_want rfl (fun K hK => ?_)
  refine quiet_val (.agg #[.int .u8 (d 0), .int .u8 (d 1), .int .u8 (d 2), .int .u8 (d 3)]) (fun w' hw' => by obtain ⟨c0, c1, c2, c3⟩ := (HB3.out w' hw').2.1.c0; go_simp) (hK _ ?_)
  clear hK K
  simp only [Act.put, List.setIfInBounds_toArray, List.set_cons_zero, List.set_cons_succ]
  refine BigFrame.wpQuiet_want rfl (fun K hK => ?_)
  refine quiet_call 26 #[.agg #[.int .u8 (c 0), .int .u8 (c 1), .int .u8 (c 2), .int .u8 (c 3)], .agg #[.int .u8 (d 0), .int .u8 (d 1), .int .u8 (d 2), .int .u8 (d 3)], .int .i64 0] (.agg #[.int .u8 (c 0), .int .u8 (c 1), .int .u8 (c 2), .int .u8 (c 3)]) (fun w' _ => by go_simp) (fun w' hw' => Calls.out hw' (HM0.out w')) (hK _ ?_)
  clear hK K
  simp only [Act.put, List.setIfInBounds_toArray, List.set_cons_zero, List.set_cons_succ]
  refine BigFrame.wpQuiet_want rfl (fun K hK => ?_)
  refine quiet_val (.agg #[.int .u8 (c 0), .int .u8 (c 1), .int .u8 (c 2), .int .u8 (c 3)]) (fun w' hw' => by obtain ⟨c0, c1, c2, c3⟩ := (HB3.out w' hw').1.c0; go_simp) (hK _ ?_)
  clear hK K
  simp only [Act.put, List.setIfInBounds_toArray, List.set_cons_zero, List.set_cons_succ]
  refine BigFrame.wpQuiet_want rfl (fun K hK => ?_)
  refine quiet_val (.bool false) (fun w' hw' => by go_simp) (hK _ ?_)
  clear hK K
  simp only [Act.put, List.setIfInBounds_toArray, List.set_cons_zero, List.set_cons_succ]
  refine BigFrame.wpQuiet_want rfl (fun K hK => ?_)
  refine quiet_val (.bool false) (fun w' hw' => by go_simp) (hK _ ?_)
  clear hK K
  simp only [Act.put, List.setIfInBounds_toArray, List.set_cons_zero, List.set_cons_succ]
  refine BigFrame.wpQuiet_want rfl (fun K hK => ?_)
  refine quiet_val (.bool false) (fun w' hw' => by go_simp) (hK _ ?_)
  clear hK K
  simp only [Act.put, List.setIfInBounds_toArray, List.set_cons_zero, List.set_cons_succ]
  refine BigFrame.wpQuiet_want rfl (fun K hK => ?_)
  refine quiet_val (.agg #[.int .u8 (c 0), .int .u8 (c 1), .int .u8 (c 2), .int .u8 (c 3)]) (fun w' hw' => by obtain ⟨c0, c1, c2, c3⟩ := (HB3.out w' hw').1.c0; go_simp) (hK _ ?_)
  clear hK K
  simp only [Act.put, List.setIfInBounds_toArray, List.set_cons_zero, List.set_cons_succ]
  refine BigFrame.wpQuiet_want rfl (fun K hK => ?_)
  refine quiet_val (.agg #[.int .u8 (d 0), .int .u8 (d 1), .int .u8 (d 2), .int .u8 (d 3)]) (fun w' hw' => by obtain ⟨c0, c1, c2, c3⟩ := (HB3.out w' hw').2.1.c0; go_simp) (hK _ ?_)
  clear hK K
  simp only [Act.put, List.setIfInBounds_toArray, List.set_cons_zero, List.set_cons_succ]
  refine BigFrame.wpQuiet_want rfl (fun K hK => ?_)
  refine quiet_call 26 #[.agg #[.int .u8 (c 0), .int .u8 (c 1), .int .u8 (c 2), .int .u8 (c 3)], .agg #[.int .u8 (d 0), .int .u8 (d 1), .int .u8 (d 2), .int .u8 (d 3)], .int .i64 65536] (.agg #[.int .u8 (d 0), .int .u8 (d 1), .int .u8 (d 2), .int .u8 (d 3)]) (fun w' _ => by go_simp) (fun w' hw' => Calls.out hw' (HM1.out w')) (hK _ ?_)
  clear hK K
  simp only [Act.put, List.setIfInBounds_toArray, List.set_cons_zero, List.set_cons_succ]
  refine BigFrame.wpQuiet_want rfl (fun K hK => ?_)
  refine quiet_val (.agg #[.int .u8 (d 0), .int .u8 (d 1), .int .u8 (d 2), .int .u8 (d 3)]) (fun w' hw' => by obtain ⟨c0, c1, c2, c3⟩ := (HB3.out w' hw').2.1.c0; go_simp) (hK _ ?_)
  clear hK K
  simp only [Act.put, List.setIfInBounds_toArray, List.set_cons_zero, List.set_cons_succ]
  refine BigFrame.wpQuiet_want rfl (fun K hK => ?_)
  refine quiet_val (.bool false) (fun w' hw' => by go_simp) (hK _ ?_)
  clear hK K
  simp only [Act.put, List.setIfInBounds_toArray, List.set_cons_zero, List.set_cons_succ]
  refine BigFrame.wpQuiet_want rfl (fun K hK => ?_)
  refine quiet_val (.bool false) (fun w' hw' => by go_simp) (hK _ ?_)
  clear hK K
  simp only [Act.put, List.setIfInBounds_toArray, List.set_cons_zero, List.set_cons_succ]
  refine BigFrame.wpQuiet_want rfl (fun K hK => ?_)
  refine quiet_val (.bool false) (fun w' hw' => by go_simp) (hK _ ?_)
  clear hK K
  simp only [Act.put, List.setIfInBounds_toArray, List.set_cons_zero, List.set_cons_succ]
  refine BigFrame.wpQuiet_want rfl (fun K hK => ?_)
  refine quiet_val (.agg #[.int .u8 (c 0), .int .u8 (c 1), .int .u8 (c 2), .int .u8 (c 3)]) (fun w' hw' => by obtain ⟨c0, c1, c2, c3⟩ := (HB3.out w' hw').1.c0; go_simp) (hK _ ?_)
  clear hK K
  simp only [Act.put, List.setIfInBounds_toArray, List.set_cons_zero, List.set_cons_succ]
  refine BigFrame.wpQuiet_want rfl (fun K hK => ?_)
  refine quiet_val (.agg #[.int .u8 (c 0), .int .u8 (c 1), .int .u8 (c 2), .int .u8 (c 3)]) (fun w' hw' => by obtain ⟨c0, c1, c2, c3⟩ := (HB3.out w' hw').1.c0; go_simp) (hK _ ?_)
  clear hK K
  simp only [Act.put, List.setIfInBounds_toArray, List.set_cons_zero, List.set_cons_succ]
  refine BigFrame.wpQuiet_want rfl (fun K hK => ?_)
  refine quiet_val (.int .i64 t) (fun w' hw' => by go_simp) (hK _ ?_)
  clear hK K
  simp only [Act.put, List.setIfInBounds_toArray, List.set_cons_zero, List.set_cons_succ]
  refine BigFrame.wpQuiet_want rfl (fun K hK => ?_)
  refine quiet_call 26 #[.agg #[.int .u8 (c 0), .int .u8 (c 1), .int .u8 (c 2), .int .u8 (c 3)], .agg #[.int .u8 (c 0), .int .u8 (c 1), .int .u8 (c 2), .int .u8 (c 3)], .int .i64 t] (.agg #[.int .u8 (c 0), .int .u8 (c 1), .int .u8 (c 2), .int .u8 (c 3)]) (fun w' _ => by go_simp) (fun w' hw' => Calls.out hw' (HM2.out w')) (hK _ ?_)
  clear hK K
  simp only [Act.put, List.setIfInBounds_toArray, List.set_cons_zero, List.set_cons_succ]
  refine BigFrame.wpQuiet_want rfl (fun K hK => ?_)
  refine quiet_val (.agg #[.int .u8 (c 0), .int .u8 (c 1), .int .u8 (c 2), .int .u8 (c 3)]) (fun w' hw' => by obtain ⟨c0, c1, c2, c3⟩ := (HB3.out w' hw').1.c0; go_simp) (hK _ ?_)
  clear hK K
  simp only [Act.put, List.setIfInBounds_toArray, List.set_cons_zero, List.set_cons_succ]
  refine BigFrame.wpQuiet_want rfl (fun K hK => ?_)
  refine quiet_val (.bool false) (fun w' hw' => by go_simp) (hK _ ?_)
  clear hK K
  simp only [Act.put, List.setIfInBounds_toArray, List.set_cons_zero, List.set_cons_succ]
  refine BigFrame.wpQuiet_want rfl (fun K hK => ?_)
  refine quiet_val (.bool false) (fun w' hw' => by go_simp) (hK _ ?_)
  clear hK K
  simp only [Act.put, List.setIfInBounds_toArray, List.set_cons_zero, List.set_cons_succ]
  refine wpQuiet_nil ?_
  intro w4 hb
  have HB4 : Hid (∀ A, Below w4.heap.size w4 A → Blk A w.heap.size 26 (c8 c) ∧ Blk A (w.heap.size + 1) 26 (c8 d) ∧ Blk A g7 26 (c8 Mx)) := fun A hA => HB3.out A (hb.trans (hA.mono hb.size))
  have BW4 : Hid (Below w.heap.size w w4) := BW3.out.trans (hb.mono BW3.out.size)
  clear hb
  go_wp2_with fail
  go_loopw [46] (fun s wr => ∃ k : Nat, k ≤ 4 ∧ s = .int .i64 (k : Int) ∧ Hid (∀ A, Below wr.heap.size wr A → Blk A w.heap.size 26 (c8 c) ∧ Blk A (w.heap.size + 1) 26 (c8 d) ∧ Blk A g7 26 (c8 Mx)) ∧ Hid (Below w.heap.size w wr)) (fun s _ => 4 - (intOf s).toNat)
  case atStart => exact ⟨0, by omega, rfl, HB4, BW4⟩
  case round =>
    obtain ⟨k, hk, rfl, HB20, BW20⟩ := hrel
    obtain ⟨w20, rfl⟩ : ∃ x, x = wr := ⟨_, rfl⟩
    by_cases hlt : k < 4
    · have hd : decide ((k : Int) < 4) = true := by simp; omega
      have hki : (k : Int) < 4 := by omega
      have E1 : Hid (decide (Mx k < min (c k) (d k)) = false) := by have := HMID.out k; unfold Hid; simp; omega
      have E2 : Hid (decide (Mx k > max (c k) (d k)) = false) := by have := HMID.out k; unfold Hid; simp; omega
      go_wp2_with fail
      refine wp_region_quiet (C := Out w20) (by kernel_rfl) (by kernel_rfl) ⟨rfl, rfl, rfl, Nat.le_refl _, fun _ _ => rfl⟩ ?_
      refine BigFrame.wpQuiet_want rfl (fun K hK => ?_)
      refine quiet_val (.int .i64 (k : Int)) (fun w' hw' => by go_simp) (hK _ ?_)
      clear hK K
      simp only [Act.put, List.setIfInBounds_toArray, List.set_cons_zero, List.set_cons_succ]
      refine BigFrame.wpQuiet_want rfl (fun K hK => ?_)
      refine quiet_val (.pointer (some ⟨g7, k, none⟩)) (fun w' hw' => by go_simp) (hK _ ?_)
      clear hK K
      simp only [Act.put, List.setIfInBounds_toArray, List.set_cons_zero, List.set_cons_succ]
      refine BigFrame.wpQuiet_want rfl (fun K hK => ?_)
      refine quiet_val (.int .u8 (Mx k)) (fun w' hw' => by have ck := (HB20.out w' hw').2.2.ck hlt; go_simp) (hK _ ?_)
      clear hK K
      simp only [Act.put, List.setIfInBounds_toArray, List.set_cons_zero, List.set_cons_succ]
      refine BigFrame.wpQuiet_want rfl (fun K hK => ?_)
      refine quiet_val (.int .i64 (k : Int)) (fun w' hw' => by go_simp) (hK _ ?_)
      clear hK K
      simp only [Act.put, List.setIfInBounds_toArray, List.set_cons_zero, List.set_cons_succ]
      refine BigFrame.wpQuiet_want rfl (fun K hK => ?_)
      refine quiet_val (.pointer (some ⟨w.heap.size, k, none⟩)) (fun w' hw' => by go_simp) (hK _ ?_)
      clear hK K
      simp only [Act.put, List.setIfInBounds_toArray, List.set_cons_zero, List.set_cons_succ]
      refine BigFrame.wpQuiet_want rfl (fun K hK => ?_)
      refine quiet_val (.int .u8 (c k)) (fun w' hw' => by have ck := (HB20.out w' hw').1.ck hlt; go_simp) (hK _ ?_)
      clear hK K
      simp only [Act.put, List.setIfInBounds_toArray, List.set_cons_zero, List.set_cons_succ]
      refine BigFrame.wpQuiet_want rfl (fun K hK => ?_)
      refine quiet_val (.int .i64 (k : Int)) (fun w' hw' => by go_simp) (hK _ ?_)
      clear hK K
      simp only [Act.put, List.setIfInBounds_toArray, List.set_cons_zero, List.set_cons_succ]
      refine BigFrame.wpQuiet_want rfl (fun K hK => ?_)
      refine quiet_val (.pointer (some ⟨w.heap.size + 1, k, none⟩)) (fun w' hw' => by go_simp) (hK _ ?_)
      clear hK K
      simp only [Act.put, List.setIfInBounds_toArray, List.set_cons_zero, List.set_cons_succ]
      refine BigFrame.wpQuiet_want rfl (fun K hK => ?_)
      refine quiet_val (.int .u8 (d k)) (fun w' hw' => by have ck := (HB20.out w' hw').2.1.ck hlt; go_simp) (hK _ ?_)
      clear hK K
      simp only [Act.put, List.setIfInBounds_toArray, List.set_cons_zero, List.set_cons_succ]
      refine BigFrame.wpQuiet_want rfl (fun K hK => ?_)
      refine quiet_val (.int .u8 (min (c k) (d k))) (fun w' hw' => by go_simp) (hK _ ?_)
      clear hK K
      simp only [Act.put, List.setIfInBounds_toArray, List.set_cons_zero, List.set_cons_succ]
      refine BigFrame.wpQuiet_want rfl (fun K hK => ?_)
      refine quiet_val (.bool false) (fun w' hw' => by have e := E1.out; go_simp) (hK _ ?_)
      clear hK K
      simp only [Act.put, List.setIfInBounds_toArray, List.set_cons_zero, List.set_cons_succ]
      refine BigFrame.wpQuiet_want rfl (fun K hK => ?_)
      refine quiet_val (.bool false) (fun w' hw' => by go_simp) (hK _ ?_)
      clear hK K
      simp only [Act.put, List.setIfInBounds_toArray, List.set_cons_zero, List.set_cons_succ]
      refine BigFrame.wpQuiet_want rfl (fun K hK => ?_)
      refine quiet_val (.int .i64 (k : Int)) (fun w' hw' => by go_simp) (hK _ ?_)
      clear hK K
      simp only [Act.put, List.setIfInBounds_toArray, List.set_cons_zero, List.set_cons_succ]
      refine BigFrame.wpQuiet_want rfl (fun K hK => ?_)
      refine quiet_val (.pointer (some ⟨g7, k, none⟩)) (fun w' hw' => by go_simp) (hK _ ?_)
      clear hK K
      simp only [Act.put, List.setIfInBounds_toArray, List.set_cons_zero, List.set_cons_succ]
      refine BigFrame.wpQuiet_want rfl (fun K hK => ?_)
      refine quiet_val (.int .u8 (Mx k)) (fun w' hw' => by have ck := (HB20.out w' hw').2.2.ck hlt; go_simp) (hK _ ?_)
      clear hK K
      simp only [Act.put, List.setIfInBounds_toArray, List.set_cons_zero, List.set_cons_succ]
      refine BigFrame.wpQuiet_want rfl (fun K hK => ?_)
      refine quiet_val (.int .i64 (k : Int)) (fun w' hw' => by go_simp) (hK _ ?_)
      clear hK K
      simp only [Act.put, List.setIfInBounds_toArray, List.set_cons_zero, List.set_cons_succ]
      refine BigFrame.wpQuiet_want rfl (fun K hK => ?_)
      refine quiet_val (.pointer (some ⟨w.heap.size, k, none⟩)) (fun w' hw' => by go_simp) (hK _ ?_)
      clear hK K
      simp only [Act.put, List.setIfInBounds_toArray, List.set_cons_zero, List.set_cons_succ]
      refine BigFrame.wpQuiet_want rfl (fun K hK => ?_)
      refine quiet_val (.int .u8 (c k)) (fun w' hw' => by have ck := (HB20.out w' hw').1.ck hlt; go_simp) (hK _ ?_)
      clear hK K
      simp only [Act.put, List.setIfInBounds_toArray, List.set_cons_zero, List.set_cons_succ]
      refine BigFrame.wpQuiet_want rfl (fun K hK => ?_)
      refine quiet_val (.int .i64 (k : Int)) (fun w' hw' => by go_simp) (hK _ ?_)
      clear hK K
      simp only [Act.put, List.setIfInBounds_toArray, List.set_cons_zero, List.set_cons_succ]
      refine BigFrame.wpQuiet_want rfl (fun K hK => ?_)
      refine quiet_val (.pointer (some ⟨w.heap.size + 1, k, none⟩)) (fun w' hw' => by go_simp) (hK _ ?_)
      clear hK K
      simp only [Act.put, List.setIfInBounds_toArray, List.set_cons_zero, List.set_cons_succ]
      refine BigFrame.wpQuiet_want rfl (fun K hK => ?_)
      refine quiet_val (.int .u8 (d k)) (fun w' hw' => by have ck := (HB20.out w' hw').2.1.ck hlt; go_simp) (hK _ ?_)
      clear hK K
      simp only [Act.put, List.setIfInBounds_toArray, List.set_cons_zero, List.set_cons_succ]
      refine BigFrame.wpQuiet_want rfl (fun K hK => ?_)
      refine quiet_val (.int .u8 (max (c k) (d k))) (fun w' hw' => by go_simp) (hK _ ?_)
      clear hK K
      simp only [Act.put, List.setIfInBounds_toArray, List.set_cons_zero, List.set_cons_succ]
      refine BigFrame.wpQuiet_want rfl (fun K hK => ?_)
      refine quiet_val (.bool false) (fun w' hw' => by have e := E2.out; go_simp) (hK _ ?_)
      clear hK K
      simp only [Act.put, List.setIfInBounds_toArray, List.set_cons_zero, List.set_cons_succ]
      refine BigFrame.wpQuiet_want rfl (fun K hK => ?_)
      refine quiet_val (.bool false) (fun w' hw' => by go_simp) (hK _ ?_)
      clear hK K
      simp only [Act.put, List.setIfInBounds_toArray, List.set_cons_zero, List.set_cons_succ]
      refine wpQuiet_nil ?_
      intro w21 hb
      have HB21 : Hid (∀ A, Below w21.heap.size w21 A → Blk A w.heap.size 26 (c8 c) ∧ Blk A (w.heap.size + 1) 26 (c8 d) ∧ Blk A g7 26 (c8 Mx)) := fun A hA => HB20.out A (hb.trans (hA.mono hb.size))
      have BW21 : Hid (Below w.heap.size w w21) := BW20.out.trans (hb.mono BW20.out.size)
      clear hb
      go_wp2_with fail
      exact ⟨⟨k + 1, by omega, by go_num, HB21, BW21⟩, by simp [intOf]; omega⟩
    · have hd : decide ((k : Int) < 4) = false := by simp; omega
      obtain ⟨c00, c01, c02, c03⟩ := (HB20.out w20 (Below.refl _ _)).1.c0
      go_wp2_with fail
      refine (HRI.out _).mono ?_
      rintro e w21 ⟨rfl, hb⟩
      have HB21 : Hid (∀ A, Below w21.heap.size w21 A → Blk A w.heap.size 26 (c8 c) ∧ Blk A (w.heap.size + 1) 26 (c8 d) ∧ Blk A g7 26 (c8 Mx)) := fun A hA => HB20.out A (hb.trans (hA.mono hb.size))
      have BW21 : Hid (Below w.heap.size w w21) := BW20.out.trans (hb.mono BW20.out.size)
      clear hb c00 c01 c02 c03
      obtain ⟨c00, c01, c02, c03⟩ := (HB21.out w21 (Below.refl _ _)).2.1.c0
      go_wp2_with fail
      refine (HRJ.out _).mono ?_
      rintro e w22 ⟨rfl, hb⟩
      have HB22 : Hid (∀ A, Below w22.heap.size w22 A → Blk A w.heap.size 26 (c8 c) ∧ Blk A (w.heap.size + 1) 26 (c8 d) ∧ Blk A g7 26 (c8 Mx)) := fun A hA => HB21.out A (hb.trans (hA.mono hb.size))
      have BW22 : Hid (Below w.heap.size w w22) := BW21.out.trans (hb.mono BW21.out.size)
      clear hb c00 c01 c02 c03
      obtain ⟨c00, c01, c02, c03⟩ := (HB22.out w22 (Below.refl _ _)).2.2.c0
      go_wp2_with fail
      refine (HRX.out _).mono ?_
      rintro e w23 ⟨rfl, hb⟩
      have HB23 : Hid (∀ A, Below w23.heap.size w23 A → Blk A w.heap.size 26 (c8 c) ∧ Blk A (w.heap.size + 1) 26 (c8 d) ∧ Blk A g7 26 (c8 Mx)) := fun A hA => HB22.out A (hb.trans (hA.mono hb.size))
      have BW23 : Hid (Below w.heap.size w w23) := BW22.out.trans (hb.mono BW22.out.size)
      clear hb c00 c01 c02 c03
      go_wp2_with fail
      refine (HAW.out _).mono ?_
      rintro e w24 ⟨rfl, hb⟩
      have HB24 : Hid (∀ A, Below w24.heap.size w24 A → Blk A w.heap.size 26 (c8 c) ∧ Blk A (w.heap.size + 1) 26 (c8 d) ∧ Blk A g7 26 (c8 Mx)) := fun A hA => HB23.out A (hb.trans (hA.mono hb.size))
      have BW24 : Hid (Below w.heap.size w w24) := BW23.out.trans (hb.mono BW23.out.size)
      clear hb
      go_wp2_with fail
      go_ret
      exact ⟨rfl, BW24.out⟩
theorem paintMixes_law (P : PaintOk) (c d : Col) (t : Int) (hc : OkC c) (hd : OkC d) (w : World) : Calls Try.prog 7 #[.agg #[.int .u8 (c 0), .int .u8 (c 1), .int .u8 (c 2), .int .u8 (c 3)], .agg #[.int .u8 (d 0), .int .u8 (d 1), .int .u8 (d 2), .int .u8 (d 3)], .int .i64 t] w fun e w' => e = .returned (.bool true) ∧ Below w.heap.size w w' := by
  cases hrc : rightC c
  case false => exact paintMixes_n P c d t hc hd w hrc
  cases hrd : rightC d
  case false => exact paintMixes_c P c d t hc hd w hrc hrd
  exact paintMixes_b P c d t hc hd w hrc hrd
end Go.Proofs.Ytcbldamlfjkppaa
