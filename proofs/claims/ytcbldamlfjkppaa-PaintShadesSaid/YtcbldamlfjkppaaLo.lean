/- Layer 10: the law PaintOvers. -/
import Derived.Test.YtcbldamlfjkppaaLf
import Derived.BigQuiet
namespace Go.Proofs.Ytcbldamlfjkppaa
open Go.RowKit
theorem over_zero (d : Col) (hd : OkC d) : ∀ i, i < 4 → overC zeroC d i = d i := fun i hi => by
  show min (0 + ofI (255 - 0) (d i)) 255 = d i
  have := hd i hi
  rw [show (255 : Int) - 0 = 255 by rfl, ofI_comm, ofI_255]
  omega
theorem over_hides {c d : Col} (hc : OkC c) (h : c 3 = 255) : ∀ i, i < 4 → overC c d i = c i := fun i hi => by
  have := hc i hi
  unfold overC
  rw [h, show (255 : Int) - 255 = 0 by rfl, ofI_comm, ofI_0]
  omega
theorem over_right {c d : Col} (hc : OkC c) (h : rightC c = true) (k : rightC d = true) : rightC (overC c d) = true := by
  obtain ⟨h0, h1, h2⟩ := rightC_iff.1 h
  obtain ⟨k0, k1, k2⟩ := rightC_iff.1 k
  have h3 := (hc 3 (by decide))
  have key : ∀ i, c i ≤ c 3 → d i ≤ d 3 → overC c d i ≤ overC c d 3 := fun i hi ki => by
    have := ofI_mono (t := 255 - c 3) ki (by omega)
    unfold overC
    omega
  exact rightC_iff.2 ⟨key 0 h0 k0, key 1 h1 k1, key 2 h2 k2⟩
theorem eq8 {c d : Col} (h : ∀ i, i < 4 → c i = d i) : (Value.agg #[.int .u8 (c 0), .int .u8 (c 1), .int .u8 (c 2), .int .u8 (c 3)] : Value) = .agg #[.int .u8 (d 0), .int .u8 (d 1), .int .u8 (d 2), .int .u8 (d 3)] := by rw [h 0 (by decide), h 1 (by decide), h 2 (by decide), h 3 (by decide)]
theorem eq64 {c d : Col} (h : ∀ i, i < 4 → c i = d i) : (Value.agg #[.int .i64 (c 0), .int .i64 (c 1), .int .i64 (c 2), .int .i64 (c 3)] : Value) = .agg #[.int .i64 (d 0), .int .i64 (d 1), .int .i64 (d 2), .int .i64 (d 3)] := by rw [h 0 (by decide), h 1 (by decide), h 2 (by decide), h 3 (by decide)]
set_option maxHeartbeats 4000000 in
set_option maxRecDepth 100000 in
theorem paintOvers_A1 (P : PaintOk) (c d : Col) (hc : OkC c) (hd : OkC d) (w : World) (hrc : rightC c = true) (hrd : rightC d = true) (h255 : c 3 = 255) : Calls Try.prog 5 #[.agg #[.int .u8 (c 0), .int .u8 (c 1), .int .u8 (c 2), .int .u8 (c 3)], .agg #[.int .u8 (d 0), .int .u8 (d 1), .int .u8 (d 2), .int .u8 (d 3)]] w fun e w' => e = .returned (.bool true) ∧ Below w.heap.size w w' := by
  have HAW := Lib.hid (law_awake_c P)
  have HRC := Lib.hid (law_ref_c c hc)
  have HRD := Lib.hid (law_ref_c d hd)
  have HOV := Lib.hid (fun w => P.over c d w hc hd)
  have HROV := Lib.hid (refOver_c c d hc hd)
  have HZ : Hid (∀ w, Calls Try.prog 22 #[.agg #[.int .u8 0, .int .u8 0, .int .u8 0, .int .u8 0], .agg #[.int .u8 (d 0), .int .u8 (d 1), .int .u8 (d 2), .int .u8 (d 3)]] w fun e w' => e = .returned (.agg #[.int .u8 (d 0), .int .u8 (d 1), .int .u8 (d 2), .int .u8 (d 3)]) ∧ Below w.heap.size w w') := fun w => by
    have h := P.over zeroC d w (fun i hi => ⟨by unfold zeroC; decide, by unfold zeroC; decide⟩) hd
    rw [eq8 (over_zero d hd)] at h
    exact h
  have EQd := equal_c8 d
  have HRI := Lib.hid (fun w => P.right c w hc)
  have HRJ := Lib.hid (fun w => P.right d w hd)
  have okO := over_ok hc hd
  have HRO := Lib.hid (fun w => P.right _ w okO)
  rw [hrc] at HRI
  rw [hrd] at HRJ
  rw [eq8 (over_hides hc h255)] at HOV HRO
  rw [eq64 (over_hides hc h255)] at HROV
  have HIS := Lib.hid (law_is_c c hc)
  have EQc := equal_c8 c
  have hq : (c 3 == 255) = true := by rw [h255]; rfl
  rw [over_right hc hrc hrd] at HRO
  clear hrc hrd h255 okO
  clear hc hd
  go_enter Try.func5, Try.ntmps5
  go_wp2_with fail
  obtain ⟨w1, hw1⟩ : ∃ W, (w.alloc (.cells #[.int .u8 (c 0), .int .u8 (c 1), .int .u8 (c 2), .int .u8 (c 3)] 26)).alloc (.cells #[.int .u8 (d 0), .int .u8 (d 1), .int .u8 (d 2), .int .u8 (d 3)] 26) = W := ⟨_, rfl⟩
  have BW1 : Hid (Below w.heap.size w w1) := by
    rw [← hw1]
    exact ((Below.refl _ _).alloc (Nat.le_refl _) _).alloc (by simp) _
  have HB1 : Hid (∀ A, Below w1.heap.size w1 A → Blk A w.heap.size 26 (c8 c) ∧ Blk A (w.heap.size + 1) 26 (c8 d)) := fun A hA => by
      rw [← hw1] at hA
      exact ⟨((Blk.new _ _ _).alloc _).grow hA, (Blk.newAt _ _ _ (by simp)).grow hA⟩
  rw [hw1]
  clear hw1
  obtain ⟨c00, c01, c02, c03⟩ := (HB1.out w1 (Below.refl _ _)).1.c0
  obtain ⟨c10, c11, c12, c13⟩ := (HB1.out w1 (Below.refl _ _)).2.c0
  refine (HOV.out _).mono ?_
  rintro e w2 ⟨rfl, hb⟩
  have HB2 : Hid (∀ A, Below w2.heap.size w2 A → Blk A w.heap.size 26 (c8 c) ∧ Blk A (w.heap.size + 1) 26 (c8 d)) := fun A hA => HB1.out A (hb.trans (hA.mono hb.size))
  have BW2 : Hid (Below w.heap.size w w2) := BW1.out.trans (hb.mono BW1.out.size)
  clear hb c00 c01 c02 c03 c10 c11 c12 c13
  go_wp2_with fail
  obtain ⟨w3, hw⟩ : ∃ W, w2.alloc (.cells #[.int .u8 (c 0), .int .u8 (c 1), .int .u8 (c 2), .int .u8 (c 3)] 26) = W := ⟨_, rfl⟩
  have HB3 : Hid (∀ A, Below w3.heap.size w3 A → Blk A w.heap.size 26 (c8 c) ∧ Blk A (w.heap.size + 1) 26 (c8 d) ∧ Blk A w2.heap.size 26 (c8 c)) := fun A hA => by
      rw [← hw] at hA
      exact ⟨((HB2.out w2 (Below.refl _ _)).1.alloc _).grow hA, ((HB2.out w2 (Below.refl _ _)).2.alloc _).grow hA, (Blk.new _ _ _).grow hA⟩
  have BW3 : Hid (Below w.heap.size w w3) := by
    rw [← hw]
    exact BW2.out.alloc BW2.out.size _
  rw [hw]
  clear hw
  generalize w2.heap.size = g5 at *
  refine wp_region_quiet (C := Out w3) (by kernel_rfl) (by kernel_rfl) ⟨rfl, rfl, rfl, Nat.le_refl _, fun _ _ => rfl⟩ ?_
  refine BigFrame.wpQuiet_want rfl (fun K hK => ?_)
  refine quiet_val (.agg #[.int .u8 (c 0), .int .u8 (c 1), .int .u8 (c 2), .int .u8 (c 3)]) (fun w' hw' => by obtain ⟨c0, c1, c2, c3⟩ := (HB3.out w' hw').2.2.c0; go_simp) (hK _ ?_)
  clear hK K
  simp only [Act.put, List.setIfInBounds_toArray, List.set_cons_zero, List.set_cons_succ]
  refine BigFrame.wpQuiet_want rfl (fun K hK => ?_)
  refine quiet_val (.agg #[.int .u8 (c 0), .int .u8 (c 1), .int .u8 (c 2), .int .u8 (c 3)]) (fun w' hw' => by obtain ⟨c0, c1, c2, c3⟩ := (HB3.out w' hw').1.c0; go_simp) (hK _ ?_)
  clear hK K
  simp only [Act.put, List.setIfInBounds_toArray, List.set_cons_zero, List.set_cons_succ]
  refine BigFrame.wpQuiet_want rfl (fun K hK => ?_)
  refine quiet_call 17 #[.agg #[.int .u8 (c 0), .int .u8 (c 1), .int .u8 (c 2), .int .u8 (c 3)]] (.agg #[.int .i64 (c 0), .int .i64 (c 1), .int .i64 (c 2), .int .i64 (c 3)]) (fun w' _ => by go_simp) (fun w' hw' => Calls.out hw' (HRC.out w')) (hK _ ?_)
  clear hK K
  simp only [Act.put, List.setIfInBounds_toArray, List.set_cons_zero, List.set_cons_succ]
  refine BigFrame.wpQuiet_want rfl (fun K hK => ?_)
  refine quiet_val (.agg #[.int .u8 (d 0), .int .u8 (d 1), .int .u8 (d 2), .int .u8 (d 3)]) (fun w' hw' => by obtain ⟨c0, c1, c2, c3⟩ := (HB3.out w' hw').2.1.c0; go_simp) (hK _ ?_)
  clear hK K
  simp only [Act.put, List.setIfInBounds_toArray, List.set_cons_zero, List.set_cons_succ]
  refine BigFrame.wpQuiet_want rfl (fun K hK => ?_)
  refine quiet_call 17 #[.agg #[.int .u8 (d 0), .int .u8 (d 1), .int .u8 (d 2), .int .u8 (d 3)]] (.agg #[.int .i64 (d 0), .int .i64 (d 1), .int .i64 (d 2), .int .i64 (d 3)]) (fun w' _ => by go_simp) (fun w' hw' => Calls.out hw' (HRD.out w')) (hK _ ?_)
  clear hK K
  simp only [Act.put, List.setIfInBounds_toArray, List.set_cons_zero, List.set_cons_succ]
  refine BigFrame.wpQuiet_want rfl (fun K hK => ?_)
  refine quiet_call 23 #[.agg #[.int .i64 (c 0), .int .i64 (c 1), .int .i64 (c 2), .int .i64 (c 3)], .agg #[.int .i64 (d 0), .int .i64 (d 1), .int .i64 (d 2), .int .i64 (d 3)]] (.agg #[.int .i64 (c 0), .int .i64 (c 1), .int .i64 (c 2), .int .i64 (c 3)]) (fun w' _ => by go_simp) (fun w' hw' => Calls.out hw' (HROV.out w')) (hK _ ?_)
  clear hK K
  simp only [Act.put, List.setIfInBounds_toArray, List.set_cons_zero, List.set_cons_succ]
  refine BigFrame.wpQuiet_want rfl (fun K hK => ?_)
  refine quiet_call 15 #[.agg #[.int .u8 (c 0), .int .u8 (c 1), .int .u8 (c 2), .int .u8 (c 3)], .agg #[.int .i64 (c 0), .int .i64 (c 1), .int .i64 (c 2), .int .i64 (c 3)]] (.bool true) (fun w' _ => by go_simp) (fun w' hw' => Calls.out hw' (HIS.out w')) (hK _ ?_)
  clear hK K
  simp only [Act.put, List.setIfInBounds_toArray, List.set_cons_zero, List.set_cons_succ]
  refine BigFrame.wpQuiet_want rfl (fun K hK => ?_)
  refine quiet_val (.bool false) (fun w' hw' => by go_simp) (hK _ ?_)
  clear hK K
  simp only [Act.put, List.setIfInBounds_toArray, List.set_cons_zero, List.set_cons_succ]
  refine BigFrame.wpQuiet_want rfl (fun K hK => ?_)
  refine quiet_val (.bool false) (fun w' hw' => by go_simp) (hK _ ?_)
  clear hK K
  simp only [Act.put, List.setIfInBounds_toArray, List.set_cons_zero, List.set_cons_succ]
  refine BigFrame.wpQuiet_want rfl (fun K hK => ?_)
  refine quiet_val (.agg #[.int .u8 0, .int .u8 0, .int .u8 0, .int .u8 0]) (fun w' hw' => by go_simp) (hK _ ?_)
  clear hK K
  simp only [Act.put, List.setIfInBounds_toArray, List.set_cons_zero, List.set_cons_succ]
  refine BigFrame.wpQuiet_want rfl (fun K hK => ?_)
  refine quiet_val (.agg #[.int .u8 (d 0), .int .u8 (d 1), .int .u8 (d 2), .int .u8 (d 3)]) (fun w' hw' => by obtain ⟨c0, c1, c2, c3⟩ := (HB3.out w' hw').2.1.c0; go_simp) (hK _ ?_)
  clear hK K
  simp only [Act.put, List.setIfInBounds_toArray, List.set_cons_zero, List.set_cons_succ]
  refine BigFrame.wpQuiet_want rfl (fun K hK => ?_)
  refine quiet_call 22 #[.agg #[.int .u8 0, .int .u8 0, .int .u8 0, .int .u8 0], .agg #[.int .u8 (d 0), .int .u8 (d 1), .int .u8 (d 2), .int .u8 (d 3)]] (.agg #[.int .u8 (d 0), .int .u8 (d 1), .int .u8 (d 2), .int .u8 (d 3)]) (fun w' _ => by go_simp) (fun w' hw' => Calls.out hw' (HZ.out w')) (hK _ ?_)
  clear hK K
  simp only [Act.put, List.setIfInBounds_toArray, List.set_cons_zero, List.set_cons_succ]
  refine BigFrame.wpQuiet_want rfl (fun K hK => ?_)
  refine quiet_val (.agg #[.int .u8 (d 0), .int .u8 (d 1), .int .u8 (d 2), .int .u8 (d 3)]) (fun w' hw' => by obtain ⟨c0, c1, c2, c3⟩ := (HB3.out w' hw').2.1.c0; go_simp) (hK _ ?_)
  clear hK K
  simp only [Act.put, List.setIfInBounds_toArray, List.set_cons_zero, List.set_cons_succ]
  refine BigFrame.wpQuiet_want rfl (fun K hK => ?_)
  refine quiet_val (.bool false) (fun w' hw' => by go_simp) (hK _ ?_)
  clear hK K
  simp only [Act.put, List.setIfInBounds_toArray, List.set_cons_zero, List.set_cons_succ]
  refine BigFrame.wpQuiet_want rfl (fun K hK => ?_)
  refine quiet_val (.bool false) (fun w' hw' => by go_simp) (hK _ ?_)
  clear hK K
  simp only [Act.put, List.setIfInBounds_toArray, List.set_cons_zero, List.set_cons_succ]
  refine wpQuiet_nil ?_
  intro w4 hb
  have HB4 : Hid (∀ A, Below w4.heap.size w4 A → Blk A w.heap.size 26 (c8 c) ∧ Blk A (w.heap.size + 1) 26 (c8 d) ∧ Blk A g5 26 (c8 c)) := fun A hA => HB3.out A (hb.trans (hA.mono hb.size))
  have BW4 : Hid (Below w.heap.size w w4) := BW3.out.trans (hb.mono BW3.out.size)
  clear hb
  obtain ⟨c00, c01, c02, c03⟩ := (HB4.out w4 (Below.refl _ _)).1.c0
  go_wp2_with fail
  refine (HRI.out _).mono ?_
  rintro e w5 ⟨rfl, hb⟩
  have HB5 : Hid (∀ A, Below w5.heap.size w5 A → Blk A w.heap.size 26 (c8 c) ∧ Blk A (w.heap.size + 1) 26 (c8 d) ∧ Blk A g5 26 (c8 c)) := fun A hA => HB4.out A (hb.trans (hA.mono hb.size))
  have BW5 : Hid (Below w.heap.size w w5) := BW4.out.trans (hb.mono BW4.out.size)
  clear hb c00 c01 c02 c03
  obtain ⟨c00, c01, c02, c03⟩ := (HB5.out w5 (Below.refl _ _)).1.c0
  obtain ⟨c10, c11, c12, c13⟩ := (HB5.out w5 (Below.refl _ _)).2.2.c0
  go_wp2_with fail
  refine (HRI.out _).mono ?_
  rintro e w6 ⟨rfl, hb⟩
  have HB6 : Hid (∀ A, Below w6.heap.size w6 A → Blk A w.heap.size 26 (c8 c) ∧ Blk A (w.heap.size + 1) 26 (c8 d) ∧ Blk A g5 26 (c8 c)) := fun A hA => HB5.out A (hb.trans (hA.mono hb.size))
  have BW6 : Hid (Below w.heap.size w w6) := BW5.out.trans (hb.mono BW5.out.size)
  clear hb c00 c01 c02 c03 c10 c11 c12 c13
  obtain ⟨c00, c01, c02, c03⟩ := (HB6.out w6 (Below.refl _ _)).2.1.c0
  go_wp2_with fail
  refine (HRJ.out _).mono ?_
  rintro e w7 ⟨rfl, hb⟩
  have HB7 : Hid (∀ A, Below w7.heap.size w7 A → Blk A w.heap.size 26 (c8 c) ∧ Blk A (w.heap.size + 1) 26 (c8 d) ∧ Blk A g5 26 (c8 c)) := fun A hA => HB6.out A (hb.trans (hA.mono hb.size))
  have BW7 : Hid (Below w.heap.size w w7) := BW6.out.trans (hb.mono BW6.out.size)
  clear hb c00 c01 c02 c03
  obtain ⟨c00, c01, c02, c03⟩ := (HB7.out w7 (Below.refl _ _)).2.2.c0
  go_wp2_with fail
  refine (HRO.out _).mono ?_
  rintro e w8 ⟨rfl, hb⟩
  have HB8 : Hid (∀ A, Below w8.heap.size w8 A → Blk A w.heap.size 26 (c8 c) ∧ Blk A (w.heap.size + 1) 26 (c8 d) ∧ Blk A g5 26 (c8 c)) := fun A hA => HB7.out A (hb.trans (hA.mono hb.size))
  have BW8 : Hid (Below w.heap.size w w8) := BW7.out.trans (hb.mono BW7.out.size)
  clear hb c00 c01 c02 c03
  go_wp2_with fail
  refine (HAW.out _).mono ?_
  rintro e w9 ⟨rfl, hb⟩
  have HB9 : Hid (∀ A, Below w9.heap.size w9 A → Blk A w.heap.size 26 (c8 c) ∧ Blk A (w.heap.size + 1) 26 (c8 d) ∧ Blk A g5 26 (c8 c)) := fun A hA => HB8.out A (hb.trans (hA.mono hb.size))
  have BW9 : Hid (Below w.heap.size w w9) := BW8.out.trans (hb.mono BW8.out.size)
  clear hb
  go_wp2_with fail
  go_ret
  exact ⟨rfl, BW9.out⟩
set_option maxHeartbeats 4000000 in
set_option maxRecDepth 100000 in
theorem paintOvers_A0 (P : PaintOk) (c d : Col) (hc : OkC c) (hd : OkC d) (w : World) (hrc : rightC c = true) (hrd : rightC d = false) (h255 : c 3 = 255) : Calls Try.prog 5 #[.agg #[.int .u8 (c 0), .int .u8 (c 1), .int .u8 (c 2), .int .u8 (c 3)], .agg #[.int .u8 (d 0), .int .u8 (d 1), .int .u8 (d 2), .int .u8 (d 3)]] w fun e w' => e = .returned (.bool true) ∧ Below w.heap.size w w' := by
  have HAW := Lib.hid (law_awake_c P)
  have HRC := Lib.hid (law_ref_c c hc)
  have HRD := Lib.hid (law_ref_c d hd)
  have HOV := Lib.hid (fun w => P.over c d w hc hd)
  have HROV := Lib.hid (refOver_c c d hc hd)
  have HZ : Hid (∀ w, Calls Try.prog 22 #[.agg #[.int .u8 0, .int .u8 0, .int .u8 0, .int .u8 0], .agg #[.int .u8 (d 0), .int .u8 (d 1), .int .u8 (d 2), .int .u8 (d 3)]] w fun e w' => e = .returned (.agg #[.int .u8 (d 0), .int .u8 (d 1), .int .u8 (d 2), .int .u8 (d 3)]) ∧ Below w.heap.size w w') := fun w => by
    have h := P.over zeroC d w (fun i hi => ⟨by unfold zeroC; decide, by unfold zeroC; decide⟩) hd
    rw [eq8 (over_zero d hd)] at h
    exact h
  have EQd := equal_c8 d
  have HRI := Lib.hid (fun w => P.right c w hc)
  have HRJ := Lib.hid (fun w => P.right d w hd)
  have okO := over_ok hc hd
  have HRO := Lib.hid (fun w => P.right _ w okO)
  rw [hrc] at HRI
  rw [hrd] at HRJ
  rw [eq8 (over_hides hc h255)] at HOV HRO
  rw [eq64 (over_hides hc h255)] at HROV
  have HIS := Lib.hid (law_is_c c hc)
  have EQc := equal_c8 c
  have hq : (c 3 == 255) = true := by rw [h255]; rfl
  clear hrc hrd h255 okO
  clear hc hd
  go_enter Try.func5, Try.ntmps5
  go_wp2_with fail
  obtain ⟨w1, hw1⟩ : ∃ W, (w.alloc (.cells #[.int .u8 (c 0), .int .u8 (c 1), .int .u8 (c 2), .int .u8 (c 3)] 26)).alloc (.cells #[.int .u8 (d 0), .int .u8 (d 1), .int .u8 (d 2), .int .u8 (d 3)] 26) = W := ⟨_, rfl⟩
  have BW1 : Hid (Below w.heap.size w w1) := by
    rw [← hw1]
    exact ((Below.refl _ _).alloc (Nat.le_refl _) _).alloc (by simp) _
  have HB1 : Hid (∀ A, Below w1.heap.size w1 A → Blk A w.heap.size 26 (c8 c) ∧ Blk A (w.heap.size + 1) 26 (c8 d)) := fun A hA => by
      rw [← hw1] at hA
      exact ⟨((Blk.new _ _ _).alloc _).grow hA, (Blk.newAt _ _ _ (by simp)).grow hA⟩
  rw [hw1]
  clear hw1
  obtain ⟨c00, c01, c02, c03⟩ := (HB1.out w1 (Below.refl _ _)).1.c0
  obtain ⟨c10, c11, c12, c13⟩ := (HB1.out w1 (Below.refl _ _)).2.c0
  refine (HOV.out _).mono ?_
  rintro e w2 ⟨rfl, hb⟩
  have HB2 : Hid (∀ A, Below w2.heap.size w2 A → Blk A w.heap.size 26 (c8 c) ∧ Blk A (w.heap.size + 1) 26 (c8 d)) := fun A hA => HB1.out A (hb.trans (hA.mono hb.size))
  have BW2 : Hid (Below w.heap.size w w2) := BW1.out.trans (hb.mono BW1.out.size)
  clear hb c00 c01 c02 c03 c10 c11 c12 c13
  go_wp2_with fail
  obtain ⟨w3, hw⟩ : ∃ W, w2.alloc (.cells #[.int .u8 (c 0), .int .u8 (c 1), .int .u8 (c 2), .int .u8 (c 3)] 26) = W := ⟨_, rfl⟩
  have HB3 : Hid (∀ A, Below w3.heap.size w3 A → Blk A w.heap.size 26 (c8 c) ∧ Blk A (w.heap.size + 1) 26 (c8 d) ∧ Blk A w2.heap.size 26 (c8 c)) := fun A hA => by
      rw [← hw] at hA
      exact ⟨((HB2.out w2 (Below.refl _ _)).1.alloc _).grow hA, ((HB2.out w2 (Below.refl _ _)).2.alloc _).grow hA, (Blk.new _ _ _).grow hA⟩
  have BW3 : Hid (Below w.heap.size w w3) := by
    rw [← hw]
    exact BW2.out.alloc BW2.out.size _
  rw [hw]
  clear hw
  generalize w2.heap.size = g5 at *
  refine wp_region_quiet (C := Out w3) (by kernel_rfl) (by kernel_rfl) ⟨rfl, rfl, rfl, Nat.le_refl _, fun _ _ => rfl⟩ ?_
  refine BigFrame.wpQuiet_want rfl (fun K hK => ?_)
  refine quiet_val (.agg #[.int .u8 (c 0), .int .u8 (c 1), .int .u8 (c 2), .int .u8 (c 3)]) (fun w' hw' => by obtain ⟨c0, c1, c2, c3⟩ := (HB3.out w' hw').2.2.c0; go_simp) (hK _ ?_)
  clear hK K
  simp only [Act.put, List.setIfInBounds_toArray, List.set_cons_zero, List.set_cons_succ]
  refine BigFrame.wpQuiet_want rfl (fun K hK => ?_)
  refine quiet_val (.agg #[.int .u8 (c 0), .int .u8 (c 1), .int .u8 (c 2), .int .u8 (c 3)]) (fun w' hw' => by obtain ⟨c0, c1, c2, c3⟩ := (HB3.out w' hw').1.c0; go_simp) (hK _ ?_)
  clear hK K
  simp only [Act.put, List.setIfInBounds_toArray, List.set_cons_zero, List.set_cons_succ]
  refine BigFrame.wpQuiet_want rfl (fun K hK => ?_)
  refine quiet_call 17 #[.agg #[.int .u8 (c 0), .int .u8 (c 1), .int .u8 (c 2), .int .u8 (c 3)]] (.agg #[.int .i64 (c 0), .int .i64 (c 1), .int .i64 (c 2), .int .i64 (c 3)]) (fun w' _ => by go_simp) (fun w' hw' => Calls.out hw' (HRC.out w')) (hK _ ?_)
  clear hK K
  simp only [Act.put, List.setIfInBounds_toArray, List.set_cons_zero, List.set_cons_succ]
  refine BigFrame.wpQuiet_want rfl (fun K hK => ?_)
  refine quiet_val (.agg #[.int .u8 (d 0), .int .u8 (d 1), .int .u8 (d 2), .int .u8 (d 3)]) (fun w' hw' => by obtain ⟨c0, c1, c2, c3⟩ := (HB3.out w' hw').2.1.c0; go_simp) (hK _ ?_)
  clear hK K
  simp only [Act.put, List.setIfInBounds_toArray, List.set_cons_zero, List.set_cons_succ]
  refine BigFrame.wpQuiet_want rfl (fun K hK => ?_)
  refine quiet_call 17 #[.agg #[.int .u8 (d 0), .int .u8 (d 1), .int .u8 (d 2), .int .u8 (d 3)]] (.agg #[.int .i64 (d 0), .int .i64 (d 1), .int .i64 (d 2), .int .i64 (d 3)]) (fun w' _ => by go_simp) (fun w' hw' => Calls.out hw' (HRD.out w')) (hK _ ?_)
  clear hK K
  simp only [Act.put, List.setIfInBounds_toArray, List.set_cons_zero, List.set_cons_succ]
  refine BigFrame.wpQuiet_want rfl (fun K hK => ?_)
  refine quiet_call 23 #[.agg #[.int .i64 (c 0), .int .i64 (c 1), .int .i64 (c 2), .int .i64 (c 3)], .agg #[.int .i64 (d 0), .int .i64 (d 1), .int .i64 (d 2), .int .i64 (d 3)]] (.agg #[.int .i64 (c 0), .int .i64 (c 1), .int .i64 (c 2), .int .i64 (c 3)]) (fun w' _ => by go_simp) (fun w' hw' => Calls.out hw' (HROV.out w')) (hK _ ?_)
  clear hK K
  simp only [Act.put, List.setIfInBounds_toArray, List.set_cons_zero, List.set_cons_succ]
  refine BigFrame.wpQuiet_want rfl (fun K hK => ?_)
  refine quiet_call 15 #[.agg #[.int .u8 (c 0), .int .u8 (c 1), .int .u8 (c 2), .int .u8 (c 3)], .agg #[.int .i64 (c 0), .int .i64 (c 1), .int .i64 (c 2), .int .i64 (c 3)]] (.bool true) (fun w' _ => by go_simp) (fun w' hw' => Calls.out hw' (HIS.out w')) (hK _ ?_)
  clear hK K
  simp only [Act.put, List.setIfInBounds_toArray, List.set_cons_zero, List.set_cons_succ]
  refine BigFrame.wpQuiet_want rfl (fun K hK => ?_)
  refine quiet_val (.bool false) (fun w' hw' => by go_simp) (hK _ ?_)
  clear hK K
  simp only [Act.put, List.setIfInBounds_toArray, List.set_cons_zero, List.set_cons_succ]
  refine BigFrame.wpQuiet_want rfl (fun K hK => ?_)
  refine quiet_val (.bool false) (fun w' hw' => by go_simp) (hK _ ?_)
  clear hK K
  simp only [Act.put, List.setIfInBounds_toArray, List.set_cons_zero, List.set_cons_succ]
  refine BigFrame.wpQuiet_want rfl (fun K hK => ?_)
  refine quiet_val (.agg #[.int .u8 0, .int .u8 0, .int .u8 0, .int .u8 0]) (fun w' hw' => by go_simp) (hK _ ?_)
  clear hK K
  simp only [Act.put, List.setIfInBounds_toArray, List.set_cons_zero, List.set_cons_succ]
  refine BigFrame.wpQuiet_want rfl (fun K hK => ?_)
  refine quiet_val (.agg #[.int .u8 (d 0), .int .u8 (d 1), .int .u8 (d 2), .int .u8 (d 3)]) (fun w' hw' => by obtain ⟨c0, c1, c2, c3⟩ := (HB3.out w' hw').2.1.c0; go_simp) (hK _ ?_)
  clear hK K
  simp only [Act.put, List.setIfInBounds_toArray, List.set_cons_zero, List.set_cons_succ]
  refine BigFrame.wpQuiet_want rfl (fun K hK => ?_)
  refine quiet_call 22 #[.agg #[.int .u8 0, .int .u8 0, .int .u8 0, .int .u8 0], .agg #[.int .u8 (d 0), .int .u8 (d 1), .int .u8 (d 2), .int .u8 (d 3)]] (.agg #[.int .u8 (d 0), .int .u8 (d 1), .int .u8 (d 2), .int .u8 (d 3)]) (fun w' _ => by go_simp) (fun w' hw' => Calls.out hw' (HZ.out w')) (hK _ ?_)
  clear hK K
  simp only [Act.put, List.setIfInBounds_toArray, List.set_cons_zero, List.set_cons_succ]
  refine BigFrame.wpQuiet_want rfl (fun K hK => ?_)
  refine quiet_val (.agg #[.int .u8 (d 0), .int .u8 (d 1), .int .u8 (d 2), .int .u8 (d 3)]) (fun w' hw' => by obtain ⟨c0, c1, c2, c3⟩ := (HB3.out w' hw').2.1.c0; go_simp) (hK _ ?_)
  clear hK K
  simp only [Act.put, List.setIfInBounds_toArray, List.set_cons_zero, List.set_cons_succ]
  refine BigFrame.wpQuiet_want rfl (fun K hK => ?_)
  refine quiet_val (.bool false) (fun w' hw' => by go_simp) (hK _ ?_)
  clear hK K
  simp only [Act.put, List.setIfInBounds_toArray, List.set_cons_zero, List.set_cons_succ]
  refine BigFrame.wpQuiet_want rfl (fun K hK => ?_)
  refine quiet_val (.bool false) (fun w' hw' => by go_simp) (hK _ ?_)
  clear hK K
  simp only [Act.put, List.setIfInBounds_toArray, List.set_cons_zero, List.set_cons_succ]
  refine wpQuiet_nil ?_
  intro w4 hb
  have HB4 : Hid (∀ A, Below w4.heap.size w4 A → Blk A w.heap.size 26 (c8 c) ∧ Blk A (w.heap.size + 1) 26 (c8 d) ∧ Blk A g5 26 (c8 c)) := fun A hA => HB3.out A (hb.trans (hA.mono hb.size))
  have BW4 : Hid (Below w.heap.size w w4) := BW3.out.trans (hb.mono BW3.out.size)
  clear hb
  obtain ⟨c00, c01, c02, c03⟩ := (HB4.out w4 (Below.refl _ _)).1.c0
  go_wp2_with fail
  refine (HRI.out _).mono ?_
  rintro e w5 ⟨rfl, hb⟩
  have HB5 : Hid (∀ A, Below w5.heap.size w5 A → Blk A w.heap.size 26 (c8 c) ∧ Blk A (w.heap.size + 1) 26 (c8 d) ∧ Blk A g5 26 (c8 c)) := fun A hA => HB4.out A (hb.trans (hA.mono hb.size))
  have BW5 : Hid (Below w.heap.size w w5) := BW4.out.trans (hb.mono BW4.out.size)
  clear hb c00 c01 c02 c03
  obtain ⟨c00, c01, c02, c03⟩ := (HB5.out w5 (Below.refl _ _)).1.c0
  obtain ⟨c10, c11, c12, c13⟩ := (HB5.out w5 (Below.refl _ _)).2.2.c0
  go_wp2_with fail
  refine (HRI.out _).mono ?_
  rintro e w6 ⟨rfl, hb⟩
  have HB6 : Hid (∀ A, Below w6.heap.size w6 A → Blk A w.heap.size 26 (c8 c) ∧ Blk A (w.heap.size + 1) 26 (c8 d) ∧ Blk A g5 26 (c8 c)) := fun A hA => HB5.out A (hb.trans (hA.mono hb.size))
  have BW6 : Hid (Below w.heap.size w w6) := BW5.out.trans (hb.mono BW5.out.size)
  clear hb c00 c01 c02 c03 c10 c11 c12 c13
  obtain ⟨c00, c01, c02, c03⟩ := (HB6.out w6 (Below.refl _ _)).2.1.c0
  go_wp2_with fail
  refine (HRJ.out _).mono ?_
  rintro e w7 ⟨rfl, hb⟩
  have HB7 : Hid (∀ A, Below w7.heap.size w7 A → Blk A w.heap.size 26 (c8 c) ∧ Blk A (w.heap.size + 1) 26 (c8 d) ∧ Blk A g5 26 (c8 c)) := fun A hA => HB6.out A (hb.trans (hA.mono hb.size))
  have BW7 : Hid (Below w.heap.size w w7) := BW6.out.trans (hb.mono BW6.out.size)
  clear hb c00 c01 c02 c03
  go_wp2_with fail
  refine (HAW.out _).mono ?_
  rintro e w8 ⟨rfl, hb⟩
  have HB8 : Hid (∀ A, Below w8.heap.size w8 A → Blk A w.heap.size 26 (c8 c) ∧ Blk A (w.heap.size + 1) 26 (c8 d) ∧ Blk A g5 26 (c8 c)) := fun A hA => HB7.out A (hb.trans (hA.mono hb.size))
  have BW8 : Hid (Below w.heap.size w w8) := BW7.out.trans (hb.mono BW7.out.size)
  clear hb
  go_wp2_with fail
  go_ret
  exact ⟨rfl, BW8.out⟩
set_option maxHeartbeats 4000000 in
set_option maxRecDepth 100000 in
theorem paintOvers_B1 (P : PaintOk) (c d : Col) (hc : OkC c) (hd : OkC d) (w : World) (hrc : rightC c = true) (hrd : rightC d = true) (h255 : ¬ c 3 = 255) : Calls Try.prog 5 #[.agg #[.int .u8 (c 0), .int .u8 (c 1), .int .u8 (c 2), .int .u8 (c 3)], .agg #[.int .u8 (d 0), .int .u8 (d 1), .int .u8 (d 2), .int .u8 (d 3)]] w fun e w' => e = .returned (.bool true) ∧ Below w.heap.size w w' := by
  have HAW := Lib.hid (law_awake_c P)
  have HRC := Lib.hid (law_ref_c c hc)
  have HRD := Lib.hid (law_ref_c d hd)
  have HOV := Lib.hid (fun w => P.over c d w hc hd)
  have HROV := Lib.hid (refOver_c c d hc hd)
  have HZ : Hid (∀ w, Calls Try.prog 22 #[.agg #[.int .u8 0, .int .u8 0, .int .u8 0, .int .u8 0], .agg #[.int .u8 (d 0), .int .u8 (d 1), .int .u8 (d 2), .int .u8 (d 3)]] w fun e w' => e = .returned (.agg #[.int .u8 (d 0), .int .u8 (d 1), .int .u8 (d 2), .int .u8 (d 3)]) ∧ Below w.heap.size w w') := fun w => by
    have h := P.over zeroC d w (fun i hi => ⟨by unfold zeroC; decide, by unfold zeroC; decide⟩) hd
    rw [eq8 (over_zero d hd)] at h
    exact h
  have EQd := equal_c8 d
  have HRI := Lib.hid (fun w => P.right c w hc)
  have HRJ := Lib.hid (fun w => P.right d w hd)
  have okO := over_ok hc hd
  have HRO := Lib.hid (fun w => P.right _ w okO)
  rw [hrc] at HRI
  rw [hrd] at HRJ
  have HIS := Lib.hid (law_is_c _ okO)
  have hq : (c 3 == 255) = false := by simp; exact h255
  rw [over_right hc hrc hrd] at HRO
  generalize overC c d = O at *
  clear hrc hrd h255 okO
  clear hc hd
  go_enter Try.func5, Try.ntmps5
  go_wp2_with fail
  obtain ⟨w1, hw1⟩ : ∃ W, (w.alloc (.cells #[.int .u8 (c 0), .int .u8 (c 1), .int .u8 (c 2), .int .u8 (c 3)] 26)).alloc (.cells #[.int .u8 (d 0), .int .u8 (d 1), .int .u8 (d 2), .int .u8 (d 3)] 26) = W := ⟨_, rfl⟩
  have BW1 : Hid (Below w.heap.size w w1) := by
    rw [← hw1]
    exact ((Below.refl _ _).alloc (Nat.le_refl _) _).alloc (by simp) _
  have HB1 : Hid (∀ A, Below w1.heap.size w1 A → Blk A w.heap.size 26 (c8 c) ∧ Blk A (w.heap.size + 1) 26 (c8 d)) := fun A hA => by
      rw [← hw1] at hA
      exact ⟨((Blk.new _ _ _).alloc _).grow hA, (Blk.newAt _ _ _ (by simp)).grow hA⟩
  rw [hw1]
  clear hw1
  obtain ⟨c00, c01, c02, c03⟩ := (HB1.out w1 (Below.refl _ _)).1.c0
  obtain ⟨c10, c11, c12, c13⟩ := (HB1.out w1 (Below.refl _ _)).2.c0
  refine (HOV.out _).mono ?_
  rintro e w2 ⟨rfl, hb⟩
  have HB2 : Hid (∀ A, Below w2.heap.size w2 A → Blk A w.heap.size 26 (c8 c) ∧ Blk A (w.heap.size + 1) 26 (c8 d)) := fun A hA => HB1.out A (hb.trans (hA.mono hb.size))
  have BW2 : Hid (Below w.heap.size w w2) := BW1.out.trans (hb.mono BW1.out.size)
  clear hb c00 c01 c02 c03 c10 c11 c12 c13
  go_wp2_with fail
  obtain ⟨w3, hw⟩ : ∃ W, w2.alloc (.cells #[.int .u8 (O 0), .int .u8 (O 1), .int .u8 (O 2), .int .u8 (O 3)] 26) = W := ⟨_, rfl⟩
  have HB3 : Hid (∀ A, Below w3.heap.size w3 A → Blk A w.heap.size 26 (c8 c) ∧ Blk A (w.heap.size + 1) 26 (c8 d) ∧ Blk A w2.heap.size 26 (c8 O)) := fun A hA => by
      rw [← hw] at hA
      exact ⟨((HB2.out w2 (Below.refl _ _)).1.alloc _).grow hA, ((HB2.out w2 (Below.refl _ _)).2.alloc _).grow hA, (Blk.new _ _ _).grow hA⟩
  have BW3 : Hid (Below w.heap.size w w3) := by
    rw [← hw]
    exact BW2.out.alloc BW2.out.size _
  rw [hw]
  clear hw
  generalize w2.heap.size = g5 at *
  refine wp_region_quiet (C := Out w3) (by kernel_rfl) (by kernel_rfl) ⟨rfl, rfl, rfl, Nat.le_refl _, fun _ _ => rfl⟩ ?_
  refine BigFrame.wpQuiet_want rfl (fun K hK => ?_)
  refine quiet_val (.agg #[.int .u8 (O 0), .int .u8 (O 1), .int .u8 (O 2), .int .u8 (O 3)]) (fun w' hw' => by obtain ⟨c0, c1, c2, c3⟩ := (HB3.out w' hw').2.2.c0; go_simp) (hK _ ?_)
  clear hK K
  simp only [Act.put, List.setIfInBounds_toArray, List.set_cons_zero, List.set_cons_succ]
  refine BigFrame.wpQuiet_want rfl (fun K hK => ?_)
  refine quiet_val (.agg #[.int .u8 (c 0), .int .u8 (c 1), .int .u8 (c 2), .int .u8 (c 3)]) (fun w' hw' => by obtain ⟨c0, c1, c2, c3⟩ := (HB3.out w' hw').1.c0; go_simp) (hK _ ?_)
  clear hK K
  simp only [Act.put, List.setIfInBounds_toArray, List.set_cons_zero, List.set_cons_succ]
  refine BigFrame.wpQuiet_want rfl (fun K hK => ?_)
  refine quiet_call 17 #[.agg #[.int .u8 (c 0), .int .u8 (c 1), .int .u8 (c 2), .int .u8 (c 3)]] (.agg #[.int .i64 (c 0), .int .i64 (c 1), .int .i64 (c 2), .int .i64 (c 3)]) (fun w' _ => by go_simp) (fun w' hw' => Calls.out hw' (HRC.out w')) (hK _ ?_)
  clear hK K
  simp only [Act.put, List.setIfInBounds_toArray, List.set_cons_zero, List.set_cons_succ]
  refine BigFrame.wpQuiet_want rfl (fun K hK => ?_)
  refine quiet_val (.agg #[.int .u8 (d 0), .int .u8 (d 1), .int .u8 (d 2), .int .u8 (d 3)]) (fun w' hw' => by obtain ⟨c0, c1, c2, c3⟩ := (HB3.out w' hw').2.1.c0; go_simp) (hK _ ?_)
  clear hK K
  simp only [Act.put, List.setIfInBounds_toArray, List.set_cons_zero, List.set_cons_succ]
  refine BigFrame.wpQuiet_want rfl (fun K hK => ?_)
  refine quiet_call 17 #[.agg #[.int .u8 (d 0), .int .u8 (d 1), .int .u8 (d 2), .int .u8 (d 3)]] (.agg #[.int .i64 (d 0), .int .i64 (d 1), .int .i64 (d 2), .int .i64 (d 3)]) (fun w' _ => by go_simp) (fun w' hw' => Calls.out hw' (HRD.out w')) (hK _ ?_)
  clear hK K
  simp only [Act.put, List.setIfInBounds_toArray, List.set_cons_zero, List.set_cons_succ]
  refine BigFrame.wpQuiet_want rfl (fun K hK => ?_)
  refine quiet_call 23 #[.agg #[.int .i64 (c 0), .int .i64 (c 1), .int .i64 (c 2), .int .i64 (c 3)], .agg #[.int .i64 (d 0), .int .i64 (d 1), .int .i64 (d 2), .int .i64 (d 3)]] (.agg #[.int .i64 (O 0), .int .i64 (O 1), .int .i64 (O 2), .int .i64 (O 3)]) (fun w' _ => by go_simp) (fun w' hw' => Calls.out hw' (HROV.out w')) (hK _ ?_)
  clear hK K
  simp only [Act.put, List.setIfInBounds_toArray, List.set_cons_zero, List.set_cons_succ]
  refine BigFrame.wpQuiet_want rfl (fun K hK => ?_)
  refine quiet_call 15 #[.agg #[.int .u8 (O 0), .int .u8 (O 1), .int .u8 (O 2), .int .u8 (O 3)], .agg #[.int .i64 (O 0), .int .i64 (O 1), .int .i64 (O 2), .int .i64 (O 3)]] (.bool true) (fun w' _ => by go_simp) (fun w' hw' => Calls.out hw' (HIS.out w')) (hK _ ?_)
  clear hK K
  simp only [Act.put, List.setIfInBounds_toArray, List.set_cons_zero, List.set_cons_succ]
  refine BigFrame.wpQuiet_want rfl (fun K hK => ?_)
  refine quiet_val (.bool false) (fun w' hw' => by go_simp) (hK _ ?_)
  clear hK K
  simp only [Act.put, List.setIfInBounds_toArray, List.set_cons_zero, List.set_cons_succ]
  refine BigFrame.wpQuiet_want rfl (fun K hK => ?_)
  refine quiet_val (.bool false) (fun w' hw' => by go_simp) (hK _ ?_)
  clear hK K
  simp only [Act.put, List.setIfInBounds_toArray, List.set_cons_zero, List.set_cons_succ]
  refine BigFrame.wpQuiet_want rfl (fun K hK => ?_)
  refine quiet_val (.agg #[.int .u8 0, .int .u8 0, .int .u8 0, .int .u8 0]) (fun w' hw' => by go_simp) (hK _ ?_)
  clear hK K
  simp only [Act.put, List.setIfInBounds_toArray, List.set_cons_zero, List.set_cons_succ]
  refine BigFrame.wpQuiet_want rfl (fun K hK => ?_)
  refine quiet_val (.agg #[.int .u8 (d 0), .int .u8 (d 1), .int .u8 (d 2), .int .u8 (d 3)]) (fun w' hw' => by obtain ⟨c0, c1, c2, c3⟩ := (HB3.out w' hw').2.1.c0; go_simp) (hK _ ?_)
  clear hK K
  simp only [Act.put, List.setIfInBounds_toArray, List.set_cons_zero, List.set_cons_succ]
  refine BigFrame.wpQuiet_want rfl (fun K hK => ?_)
  refine quiet_call 22 #[.agg #[.int .u8 0, .int .u8 0, .int .u8 0, .int .u8 0], .agg #[.int .u8 (d 0), .int .u8 (d 1), .int .u8 (d 2), .int .u8 (d 3)]] (.agg #[.int .u8 (d 0), .int .u8 (d 1), .int .u8 (d 2), .int .u8 (d 3)]) (fun w' _ => by go_simp) (fun w' hw' => Calls.out hw' (HZ.out w')) (hK _ ?_)
  clear hK K
  simp only [Act.put, List.setIfInBounds_toArray, List.set_cons_zero, List.set_cons_succ]
  refine BigFrame.wpQuiet_want rfl (fun K hK => ?_)
  refine quiet_val (.agg #[.int .u8 (d 0), .int .u8 (d 1), .int .u8 (d 2), .int .u8 (d 3)]) (fun w' hw' => by obtain ⟨c0, c1, c2, c3⟩ := (HB3.out w' hw').2.1.c0; go_simp) (hK _ ?_)
  clear hK K
  simp only [Act.put, List.setIfInBounds_toArray, List.set_cons_zero, List.set_cons_succ]
  refine BigFrame.wpQuiet_want rfl (fun K hK => ?_)
  refine quiet_val (.bool false) (fun w' hw' => by go_simp) (hK _ ?_)
  clear hK K
  simp only [Act.put, List.setIfInBounds_toArray, List.set_cons_zero, List.set_cons_succ]
  refine BigFrame.wpQuiet_want rfl (fun K hK => ?_)
  refine quiet_val (.bool false) (fun w' hw' => by go_simp) (hK _ ?_)
  clear hK K
  simp only [Act.put, List.setIfInBounds_toArray, List.set_cons_zero, List.set_cons_succ]
  refine wpQuiet_nil ?_
  intro w4 hb
  have HB4 : Hid (∀ A, Below w4.heap.size w4 A → Blk A w.heap.size 26 (c8 c) ∧ Blk A (w.heap.size + 1) 26 (c8 d) ∧ Blk A g5 26 (c8 O)) := fun A hA => HB3.out A (hb.trans (hA.mono hb.size))
  have BW4 : Hid (Below w.heap.size w w4) := BW3.out.trans (hb.mono BW3.out.size)
  clear hb
  obtain ⟨c00, c01, c02, c03⟩ := (HB4.out w4 (Below.refl _ _)).1.c0
  go_wp2_with fail
  refine (HRI.out _).mono ?_
  rintro e w5 ⟨rfl, hb⟩
  have HB5 : Hid (∀ A, Below w5.heap.size w5 A → Blk A w.heap.size 26 (c8 c) ∧ Blk A (w.heap.size + 1) 26 (c8 d) ∧ Blk A g5 26 (c8 O)) := fun A hA => HB4.out A (hb.trans (hA.mono hb.size))
  have BW5 : Hid (Below w.heap.size w w5) := BW4.out.trans (hb.mono BW4.out.size)
  clear hb c00 c01 c02 c03
  obtain ⟨c00, c01, c02, c03⟩ := (HB5.out w5 (Below.refl _ _)).1.c0
  go_wp2_with fail
  refine (HRI.out _).mono ?_
  rintro e w6 ⟨rfl, hb⟩
  have HB6 : Hid (∀ A, Below w6.heap.size w6 A → Blk A w.heap.size 26 (c8 c) ∧ Blk A (w.heap.size + 1) 26 (c8 d) ∧ Blk A g5 26 (c8 O)) := fun A hA => HB5.out A (hb.trans (hA.mono hb.size))
  have BW6 : Hid (Below w.heap.size w w6) := BW5.out.trans (hb.mono BW5.out.size)
  clear hb c00 c01 c02 c03
  obtain ⟨c00, c01, c02, c03⟩ := (HB6.out w6 (Below.refl _ _)).2.1.c0
  go_wp2_with fail
  refine (HRJ.out _).mono ?_
  rintro e w7 ⟨rfl, hb⟩
  have HB7 : Hid (∀ A, Below w7.heap.size w7 A → Blk A w.heap.size 26 (c8 c) ∧ Blk A (w.heap.size + 1) 26 (c8 d) ∧ Blk A g5 26 (c8 O)) := fun A hA => HB6.out A (hb.trans (hA.mono hb.size))
  have BW7 : Hid (Below w.heap.size w w7) := BW6.out.trans (hb.mono BW6.out.size)
  clear hb c00 c01 c02 c03
  obtain ⟨c00, c01, c02, c03⟩ := (HB7.out w7 (Below.refl _ _)).2.2.c0
  go_wp2_with fail
  refine (HRO.out _).mono ?_
  rintro e w8 ⟨rfl, hb⟩
  have HB8 : Hid (∀ A, Below w8.heap.size w8 A → Blk A w.heap.size 26 (c8 c) ∧ Blk A (w.heap.size + 1) 26 (c8 d) ∧ Blk A g5 26 (c8 O)) := fun A hA => HB7.out A (hb.trans (hA.mono hb.size))
  have BW8 : Hid (Below w.heap.size w w8) := BW7.out.trans (hb.mono BW7.out.size)
  clear hb c00 c01 c02 c03
  go_wp2_with fail
  refine (HAW.out _).mono ?_
  rintro e w9 ⟨rfl, hb⟩
  have HB9 : Hid (∀ A, Below w9.heap.size w9 A → Blk A w.heap.size 26 (c8 c) ∧ Blk A (w.heap.size + 1) 26 (c8 d) ∧ Blk A g5 26 (c8 O)) := fun A hA => HB8.out A (hb.trans (hA.mono hb.size))
  have BW9 : Hid (Below w.heap.size w w9) := BW8.out.trans (hb.mono BW8.out.size)
  clear hb
  go_wp2_with fail
  go_ret
  exact ⟨rfl, BW9.out⟩
set_option maxHeartbeats 4000000 in
set_option maxRecDepth 100000 in
theorem paintOvers_B0 (P : PaintOk) (c d : Col) (hc : OkC c) (hd : OkC d) (w : World) (hrc : rightC c = true) (hrd : rightC d = false) (h255 : ¬ c 3 = 255) : Calls Try.prog 5 #[.agg #[.int .u8 (c 0), .int .u8 (c 1), .int .u8 (c 2), .int .u8 (c 3)], .agg #[.int .u8 (d 0), .int .u8 (d 1), .int .u8 (d 2), .int .u8 (d 3)]] w fun e w' => e = .returned (.bool true) ∧ Below w.heap.size w w' := by
  have HAW := Lib.hid (law_awake_c P)
  have HRC := Lib.hid (law_ref_c c hc)
  have HRD := Lib.hid (law_ref_c d hd)
  have HOV := Lib.hid (fun w => P.over c d w hc hd)
  have HROV := Lib.hid (refOver_c c d hc hd)
  have HZ : Hid (∀ w, Calls Try.prog 22 #[.agg #[.int .u8 0, .int .u8 0, .int .u8 0, .int .u8 0], .agg #[.int .u8 (d 0), .int .u8 (d 1), .int .u8 (d 2), .int .u8 (d 3)]] w fun e w' => e = .returned (.agg #[.int .u8 (d 0), .int .u8 (d 1), .int .u8 (d 2), .int .u8 (d 3)]) ∧ Below w.heap.size w w') := fun w => by
    have h := P.over zeroC d w (fun i hi => ⟨by unfold zeroC; decide, by unfold zeroC; decide⟩) hd
    rw [eq8 (over_zero d hd)] at h
    exact h
  have EQd := equal_c8 d
  have HRI := Lib.hid (fun w => P.right c w hc)
  have HRJ := Lib.hid (fun w => P.right d w hd)
  have okO := over_ok hc hd
  have HRO := Lib.hid (fun w => P.right _ w okO)
  rw [hrc] at HRI
  rw [hrd] at HRJ
  have HIS := Lib.hid (law_is_c _ okO)
  have hq : (c 3 == 255) = false := by simp; exact h255
  generalize overC c d = O at *
  clear hrc hrd h255 okO
  clear hc hd
  go_enter Try.func5, Try.ntmps5
  go_wp2_with fail
  obtain ⟨w1, hw1⟩ : ∃ W, (w.alloc (.cells #[.int .u8 (c 0), .int .u8 (c 1), .int .u8 (c 2), .int .u8 (c 3)] 26)).alloc (.cells #[.int .u8 (d 0), .int .u8 (d 1), .int .u8 (d 2), .int .u8 (d 3)] 26) = W := ⟨_, rfl⟩
  have BW1 : Hid (Below w.heap.size w w1) := by
    rw [← hw1]
    exact ((Below.refl _ _).alloc (Nat.le_refl _) _).alloc (by simp) _
  have HB1 : Hid (∀ A, Below w1.heap.size w1 A → Blk A w.heap.size 26 (c8 c) ∧ Blk A (w.heap.size + 1) 26 (c8 d)) := fun A hA => by
      rw [← hw1] at hA
      exact ⟨((Blk.new _ _ _).alloc _).grow hA, (Blk.newAt _ _ _ (by simp)).grow hA⟩
  rw [hw1]
  clear hw1
  obtain ⟨c00, c01, c02, c03⟩ := (HB1.out w1 (Below.refl _ _)).1.c0
  obtain ⟨c10, c11, c12, c13⟩ := (HB1.out w1 (Below.refl _ _)).2.c0
  refine (HOV.out _).mono ?_
  rintro e w2 ⟨rfl, hb⟩
  have HB2 : Hid (∀ A, Below w2.heap.size w2 A → Blk A w.heap.size 26 (c8 c) ∧ Blk A (w.heap.size + 1) 26 (c8 d)) := fun A hA => HB1.out A (hb.trans (hA.mono hb.size))
  have BW2 : Hid (Below w.heap.size w w2) := BW1.out.trans (hb.mono BW1.out.size)
  clear hb c00 c01 c02 c03 c10 c11 c12 c13
  go_wp2_with fail
  obtain ⟨w3, hw⟩ : ∃ W, w2.alloc (.cells #[.int .u8 (O 0), .int .u8 (O 1), .int .u8 (O 2), .int .u8 (O 3)] 26) = W := ⟨_, rfl⟩
  have HB3 : Hid (∀ A, Below w3.heap.size w3 A → Blk A w.heap.size 26 (c8 c) ∧ Blk A (w.heap.size + 1) 26 (c8 d) ∧ Blk A w2.heap.size 26 (c8 O)) := fun A hA => by
      rw [← hw] at hA
      exact ⟨((HB2.out w2 (Below.refl _ _)).1.alloc _).grow hA, ((HB2.out w2 (Below.refl _ _)).2.alloc _).grow hA, (Blk.new _ _ _).grow hA⟩
  have BW3 : Hid (Below w.heap.size w w3) := by
    rw [← hw]
    exact BW2.out.alloc BW2.out.size _
  rw [hw]
  clear hw
  generalize w2.heap.size = g5 at *
  refine wp_region_quiet (C := Out w3) (by kernel_rfl) (by kernel_rfl) ⟨rfl, rfl, rfl, Nat.le_refl _, fun _ _ => rfl⟩ ?_
  refine BigFrame.wpQuiet_want rfl (fun K hK => ?_)
  refine quiet_val (.agg #[.int .u8 (O 0), .int .u8 (O 1), .int .u8 (O 2), .int .u8 (O 3)]) (fun w' hw' => by obtain ⟨c0, c1, c2, c3⟩ := (HB3.out w' hw').2.2.c0; go_simp) (hK _ ?_)
  clear hK K
  simp only [Act.put, List.setIfInBounds_toArray, List.set_cons_zero, List.set_cons_succ]
  refine BigFrame.wpQuiet_want rfl (fun K hK => ?_)
  refine quiet_val (.agg #[.int .u8 (c 0), .int .u8 (c 1), .int .u8 (c 2), .int .u8 (c 3)]) (fun w' hw' => by obtain ⟨c0, c1, c2, c3⟩ := (HB3.out w' hw').1.c0; go_simp) (hK _ ?_)
  clear hK K
  simp only [Act.put, List.setIfInBounds_toArray, List.set_cons_zero, List.set_cons_succ]
  refine BigFrame.wpQuiet_want rfl (fun K hK => ?_)
  refine quiet_call 17 #[.agg #[.int .u8 (c 0), .int .u8 (c 1), .int .u8 (c 2), .int .u8 (c 3)]] (.agg #[.int .i64 (c 0), .int .i64 (c 1), .int .i64 (c 2), .int .i64 (c 3)]) (fun w' _ => by go_simp) (fun w' hw' => Calls.out hw' (HRC.out w')) (hK _ ?_)
  clear hK K
  simp only [Act.put, List.setIfInBounds_toArray, List.set_cons_zero, List.set_cons_succ]
  refine BigFrame.wpQuiet_want rfl (fun K hK => ?_)
  refine quiet_val (.agg #[.int .u8 (d 0), .int .u8 (d 1), .int .u8 (d 2), .int .u8 (d 3)]) (fun w' hw' => by obtain ⟨c0, c1, c2, c3⟩ := (HB3.out w' hw').2.1.c0; go_simp) (hK _ ?_)
  clear hK K
  simp only [Act.put, List.setIfInBounds_toArray, List.set_cons_zero, List.set_cons_succ]
  refine BigFrame.wpQuiet_want rfl (fun K hK => ?_)
  refine quiet_call 17 #[.agg #[.int .u8 (d 0), .int .u8 (d 1), .int .u8 (d 2), .int .u8 (d 3)]] (.agg #[.int .i64 (d 0), .int .i64 (d 1), .int .i64 (d 2), .int .i64 (d 3)]) (fun w' _ => by go_simp) (fun w' hw' => Calls.out hw' (HRD.out w')) (hK _ ?_)
  clear hK K
  simp only [Act.put, List.setIfInBounds_toArray, List.set_cons_zero, List.set_cons_succ]
  refine BigFrame.wpQuiet_want rfl (fun K hK => ?_)
  refine quiet_call 23 #[.agg #[.int .i64 (c 0), .int .i64 (c 1), .int .i64 (c 2), .int .i64 (c 3)], .agg #[.int .i64 (d 0), .int .i64 (d 1), .int .i64 (d 2), .int .i64 (d 3)]] (.agg #[.int .i64 (O 0), .int .i64 (O 1), .int .i64 (O 2), .int .i64 (O 3)]) (fun w' _ => by go_simp) (fun w' hw' => Calls.out hw' (HROV.out w')) (hK _ ?_)
  clear hK K
  simp only [Act.put, List.setIfInBounds_toArray, List.set_cons_zero, List.set_cons_succ]
  refine BigFrame.wpQuiet_want rfl (fun K hK => ?_)
  refine quiet_call 15 #[.agg #[.int .u8 (O 0), .int .u8 (O 1), .int .u8 (O 2), .int .u8 (O 3)], .agg #[.int .i64 (O 0), .int .i64 (O 1), .int .i64 (O 2), .int .i64 (O 3)]] (.bool true) (fun w' _ => by go_simp) (fun w' hw' => Calls.out hw' (HIS.out w')) (hK _ ?_)
  clear hK K
  simp only [Act.put, List.setIfInBounds_toArray, List.set_cons_zero, List.set_cons_succ]
  refine BigFrame.wpQuiet_want rfl (fun K hK => ?_)
  refine quiet_val (.bool false) (fun w' hw' => by go_simp) (hK _ ?_)
  clear hK K
  simp only [Act.put, List.setIfInBounds_toArray, List.set_cons_zero, List.set_cons_succ]
  refine BigFrame.wpQuiet_want rfl (fun K hK => ?_)
  refine quiet_val (.bool false) (fun w' hw' => by go_simp) (hK _ ?_)
  clear hK K
  simp only [Act.put, List.setIfInBounds_toArray, List.set_cons_zero, List.set_cons_succ]
  refine BigFrame.wpQuiet_want rfl (fun K hK => ?_)
  refine quiet_val (.agg #[.int .u8 0, .int .u8 0, .int .u8 0, .int .u8 0]) (fun w' hw' => by go_simp) (hK _ ?_)
  clear hK K
  simp only [Act.put, List.setIfInBounds_toArray, List.set_cons_zero, List.set_cons_succ]
  refine BigFrame.wpQuiet_want rfl (fun K hK => ?_)
  refine quiet_val (.agg #[.int .u8 (d 0), .int .u8 (d 1), .int .u8 (d 2), .int .u8 (d 3)]) (fun w' hw' => by obtain ⟨c0, c1, c2, c3⟩ := (HB3.out w' hw').2.1.c0; go_simp) (hK _ ?_)
  clear hK K
  simp only [Act.put, List.setIfInBounds_toArray, List.set_cons_zero, List.set_cons_succ]
  refine BigFrame.wpQuiet_want rfl (fun K hK => ?_)
  refine quiet_call 22 #[.agg #[.int .u8 0, .int .u8 0, .int .u8 0, .int .u8 0], .agg #[.int .u8 (d 0), .int .u8 (d 1), .int .u8 (d 2), .int .u8 (d 3)]] (.agg #[.int .u8 (d 0), .int .u8 (d 1), .int .u8 (d 2), .int .u8 (d 3)]) (fun w' _ => by go_simp) (fun w' hw' => Calls.out hw' (HZ.out w')) (hK _ ?_)
  clear hK K
  simp only [Act.put, List.setIfInBounds_toArray, List.set_cons_zero, List.set_cons_succ]
  refine BigFrame.wpQuiet_want rfl (fun K hK => ?_)
  refine quiet_val (.agg #[.int .u8 (d 0), .int .u8 (d 1), .int .u8 (d 2), .int .u8 (d 3)]) (fun w' hw' => by obtain ⟨c0, c1, c2, c3⟩ := (HB3.out w' hw').2.1.c0; go_simp) (hK _ ?_)
  clear hK K
  simp only [Act.put, List.setIfInBounds_toArray, List.set_cons_zero, List.set_cons_succ]
  refine BigFrame.wpQuiet_want rfl (fun K hK => ?_)
  refine quiet_val (.bool false) (fun w' hw' => by go_simp) (hK _ ?_)
  clear hK K
  simp only [Act.put, List.setIfInBounds_toArray, List.set_cons_zero, List.set_cons_succ]
  refine BigFrame.wpQuiet_want rfl (fun K hK => ?_)
  refine quiet_val (.bool false) (fun w' hw' => by go_simp) (hK _ ?_)
  clear hK K
  simp only [Act.put, List.setIfInBounds_toArray, List.set_cons_zero, List.set_cons_succ]
  refine wpQuiet_nil ?_
  intro w4 hb
  have HB4 : Hid (∀ A, Below w4.heap.size w4 A → Blk A w.heap.size 26 (c8 c) ∧ Blk A (w.heap.size + 1) 26 (c8 d) ∧ Blk A g5 26 (c8 O)) := fun A hA => HB3.out A (hb.trans (hA.mono hb.size))
  have BW4 : Hid (Below w.heap.size w w4) := BW3.out.trans (hb.mono BW3.out.size)
  clear hb
  obtain ⟨c00, c01, c02, c03⟩ := (HB4.out w4 (Below.refl _ _)).1.c0
  go_wp2_with fail
  refine (HRI.out _).mono ?_
  rintro e w5 ⟨rfl, hb⟩
  have HB5 : Hid (∀ A, Below w5.heap.size w5 A → Blk A w.heap.size 26 (c8 c) ∧ Blk A (w.heap.size + 1) 26 (c8 d) ∧ Blk A g5 26 (c8 O)) := fun A hA => HB4.out A (hb.trans (hA.mono hb.size))
  have BW5 : Hid (Below w.heap.size w w5) := BW4.out.trans (hb.mono BW4.out.size)
  clear hb c00 c01 c02 c03
  obtain ⟨c00, c01, c02, c03⟩ := (HB5.out w5 (Below.refl _ _)).1.c0
  go_wp2_with fail
  refine (HRI.out _).mono ?_
  rintro e w6 ⟨rfl, hb⟩
  have HB6 : Hid (∀ A, Below w6.heap.size w6 A → Blk A w.heap.size 26 (c8 c) ∧ Blk A (w.heap.size + 1) 26 (c8 d) ∧ Blk A g5 26 (c8 O)) := fun A hA => HB5.out A (hb.trans (hA.mono hb.size))
  have BW6 : Hid (Below w.heap.size w w6) := BW5.out.trans (hb.mono BW5.out.size)
  clear hb c00 c01 c02 c03
  obtain ⟨c00, c01, c02, c03⟩ := (HB6.out w6 (Below.refl _ _)).2.1.c0
  go_wp2_with fail
  refine (HRJ.out _).mono ?_
  rintro e w7 ⟨rfl, hb⟩
  have HB7 : Hid (∀ A, Below w7.heap.size w7 A → Blk A w.heap.size 26 (c8 c) ∧ Blk A (w.heap.size + 1) 26 (c8 d) ∧ Blk A g5 26 (c8 O)) := fun A hA => HB6.out A (hb.trans (hA.mono hb.size))
  have BW7 : Hid (Below w.heap.size w w7) := BW6.out.trans (hb.mono BW6.out.size)
  clear hb c00 c01 c02 c03
  go_wp2_with fail
  refine (HAW.out _).mono ?_
  rintro e w8 ⟨rfl, hb⟩
  have HB8 : Hid (∀ A, Below w8.heap.size w8 A → Blk A w.heap.size 26 (c8 c) ∧ Blk A (w.heap.size + 1) 26 (c8 d) ∧ Blk A g5 26 (c8 O)) := fun A hA => HB7.out A (hb.trans (hA.mono hb.size))
  have BW8 : Hid (Below w.heap.size w w8) := BW7.out.trans (hb.mono BW7.out.size)
  clear hb
  go_wp2_with fail
  go_ret
  exact ⟨rfl, BW8.out⟩
set_option maxHeartbeats 4000000 in
set_option maxRecDepth 100000 in
theorem paintOvers_C0 (P : PaintOk) (c d : Col) (hc : OkC c) (hd : OkC d) (w : World) (hrc : rightC c = false) : Calls Try.prog 5 #[.agg #[.int .u8 (c 0), .int .u8 (c 1), .int .u8 (c 2), .int .u8 (c 3)], .agg #[.int .u8 (d 0), .int .u8 (d 1), .int .u8 (d 2), .int .u8 (d 3)]] w fun e w' => e = .returned (.bool true) ∧ Below w.heap.size w w' := by
  have HAW := Lib.hid (law_awake_c P)
  have HRC := Lib.hid (law_ref_c c hc)
  have HRD := Lib.hid (law_ref_c d hd)
  have HOV := Lib.hid (fun w => P.over c d w hc hd)
  have HROV := Lib.hid (refOver_c c d hc hd)
  have HZ : Hid (∀ w, Calls Try.prog 22 #[.agg #[.int .u8 0, .int .u8 0, .int .u8 0, .int .u8 0], .agg #[.int .u8 (d 0), .int .u8 (d 1), .int .u8 (d 2), .int .u8 (d 3)]] w fun e w' => e = .returned (.agg #[.int .u8 (d 0), .int .u8 (d 1), .int .u8 (d 2), .int .u8 (d 3)]) ∧ Below w.heap.size w w') := fun w => by
    have h := P.over zeroC d w (fun i hi => ⟨by unfold zeroC; decide, by unfold zeroC; decide⟩) hd
    rw [eq8 (over_zero d hd)] at h
    exact h
  have EQd := equal_c8 d
  have HRI := Lib.hid (fun w => P.right c w hc)
  have HRJ := Lib.hid (fun w => P.right d w hd)
  have okO := over_ok hc hd
  have HRO := Lib.hid (fun w => P.right _ w okO)
  rw [hrc] at HRI
  have HIS := Lib.hid (law_is_c _ okO)
  generalize overC c d = O at *
  clear hrc okO
  clear hc hd
  go_enter Try.func5, Try.ntmps5
  go_wp2_with fail
  obtain ⟨w1, hw1⟩ : ∃ W, (w.alloc (.cells #[.int .u8 (c 0), .int .u8 (c 1), .int .u8 (c 2), .int .u8 (c 3)] 26)).alloc (.cells #[.int .u8 (d 0), .int .u8 (d 1), .int .u8 (d 2), .int .u8 (d 3)] 26) = W := ⟨_, rfl⟩
  have BW1 : Hid (Below w.heap.size w w1) := by
    rw [← hw1]
    exact ((Below.refl _ _).alloc (Nat.le_refl _) _).alloc (by simp) _
  have HB1 : Hid (∀ A, Below w1.heap.size w1 A → Blk A w.heap.size 26 (c8 c) ∧ Blk A (w.heap.size + 1) 26 (c8 d)) := fun A hA => by
      rw [← hw1] at hA
      exact ⟨((Blk.new _ _ _).alloc _).grow hA, (Blk.newAt _ _ _ (by simp)).grow hA⟩
  rw [hw1]
  clear hw1
  obtain ⟨c00, c01, c02, c03⟩ := (HB1.out w1 (Below.refl _ _)).1.c0
  obtain ⟨c10, c11, c12, c13⟩ := (HB1.out w1 (Below.refl _ _)).2.c0
  refine (HOV.out _).mono ?_
  rintro e w2 ⟨rfl, hb⟩
  have HB2 : Hid (∀ A, Below w2.heap.size w2 A → Blk A w.heap.size 26 (c8 c) ∧ Blk A (w.heap.size + 1) 26 (c8 d)) := fun A hA => HB1.out A (hb.trans (hA.mono hb.size))
  have BW2 : Hid (Below w.heap.size w w2) := BW1.out.trans (hb.mono BW1.out.size)
  clear hb c00 c01 c02 c03 c10 c11 c12 c13
  go_wp2_with fail
  obtain ⟨w3, hw⟩ : ∃ W, w2.alloc (.cells #[.int .u8 (O 0), .int .u8 (O 1), .int .u8 (O 2), .int .u8 (O 3)] 26) = W := ⟨_, rfl⟩
  have HB3 : Hid (∀ A, Below w3.heap.size w3 A → Blk A w.heap.size 26 (c8 c) ∧ Blk A (w.heap.size + 1) 26 (c8 d) ∧ Blk A w2.heap.size 26 (c8 O)) := fun A hA => by
      rw [← hw] at hA
      exact ⟨((HB2.out w2 (Below.refl _ _)).1.alloc _).grow hA, ((HB2.out w2 (Below.refl _ _)).2.alloc _).grow hA, (Blk.new _ _ _).grow hA⟩
  have BW3 : Hid (Below w.heap.size w w3) := by
    rw [← hw]
    exact BW2.out.alloc BW2.out.size _
  rw [hw]
  clear hw
  generalize w2.heap.size = g5 at *
  refine wp_region_quiet (C := Out w3) (by kernel_rfl) (by kernel_rfl) ⟨rfl, rfl, rfl, Nat.le_refl _, fun _ _ => rfl⟩ ?_
  refine BigFrame.wpQuiet_want rfl (fun K hK => ?_)
  refine quiet_val (.agg #[.int .u8 (O 0), .int .u8 (O 1), .int .u8 (O 2), .int .u8 (O 3)]) (fun w' hw' => by obtain ⟨c0, c1, c2, c3⟩ := (HB3.out w' hw').2.2.c0; go_simp) (hK _ ?_)
  clear hK K
  simp only [Act.put, List.setIfInBounds_toArray, List.set_cons_zero, List.set_cons_succ]
  refine BigFrame.wpQuiet_want rfl (fun K hK => ?_)
  refine quiet_val (.agg #[.int .u8 (c 0), .int .u8 (c 1), .int .u8 (c 2), .int .u8 (c 3)]) (fun w' hw' => by obtain ⟨c0, c1, c2, c3⟩ := (HB3.out w' hw').1.c0; go_simp) (hK _ ?_)
  clear hK K
  simp only [Act.put, List.setIfInBounds_toArray, List.set_cons_zero, List.set_cons_succ]
  refine BigFrame.wpQuiet_want rfl (fun K hK => ?_)
  refine quiet_call 17 #[.agg #[.int .u8 (c 0), .int .u8 (c 1), .int .u8 (c 2), .int .u8 (c 3)]] (.agg #[.int .i64 (c 0), .int .i64 (c 1), .int .i64 (c 2), .int .i64 (c 3)]) (fun w' _ => by go_simp) (fun w' hw' => Calls.out hw' (HRC.out w')) (hK _ ?_)
  clear hK K
  simp only [Act.put, List.setIfInBounds_toArray, List.set_cons_zero, List.set_cons_succ]
  refine BigFrame.wpQuiet_want rfl (fun K hK => ?_)
  refine quiet_val (.agg #[.int .u8 (d 0), .int .u8 (d 1), .int .u8 (d 2), .int .u8 (d 3)]) (fun w' hw' => by obtain ⟨c0, c1, c2, c3⟩ := (HB3.out w' hw').2.1.c0; go_simp) (hK _ ?_)
  clear hK K
  simp only [Act.put, List.setIfInBounds_toArray, List.set_cons_zero, List.set_cons_succ]
  refine BigFrame.wpQuiet_want rfl (fun K hK => ?_)
  refine quiet_call 17 #[.agg #[.int .u8 (d 0), .int .u8 (d 1), .int .u8 (d 2), .int .u8 (d 3)]] (.agg #[.int .i64 (d 0), .int .i64 (d 1), .int .i64 (d 2), .int .i64 (d 3)]) (fun w' _ => by go_simp) (fun w' hw' => Calls.out hw' (HRD.out w')) (hK _ ?_)
  clear hK K
  simp only [Act.put, List.setIfInBounds_toArray, List.set_cons_zero, List.set_cons_succ]
  refine BigFrame.wpQuiet_want rfl (fun K hK => ?_)
  refine quiet_call 23 #[.agg #[.int .i64 (c 0), .int .i64 (c 1), .int .i64 (c 2), .int .i64 (c 3)], .agg #[.int .i64 (d 0), .int .i64 (d 1), .int .i64 (d 2), .int .i64 (d 3)]] (.agg #[.int .i64 (O 0), .int .i64 (O 1), .int .i64 (O 2), .int .i64 (O 3)]) (fun w' _ => by go_simp) (fun w' hw' => Calls.out hw' (HROV.out w')) (hK _ ?_)
  clear hK K
  simp only [Act.put, List.setIfInBounds_toArray, List.set_cons_zero, List.set_cons_succ]
  refine BigFrame.wpQuiet_want rfl (fun K hK => ?_)
  refine quiet_call 15 #[.agg #[.int .u8 (O 0), .int .u8 (O 1), .int .u8 (O 2), .int .u8 (O 3)], .agg #[.int .i64 (O 0), .int .i64 (O 1), .int .i64 (O 2), .int .i64 (O 3)]] (.bool true) (fun w' _ => by go_simp) (fun w' hw' => Calls.out hw' (HIS.out w')) (hK _ ?_)
  clear hK K
  simp only [Act.put, List.setIfInBounds_toArray, List.set_cons_zero, List.set_cons_succ]
  refine BigFrame.wpQuiet_want rfl (fun K hK => ?_)
  refine quiet_val (.bool false) (fun w' hw' => by go_simp) (hK _ ?_)
  clear hK K
  simp only [Act.put, List.setIfInBounds_toArray, List.set_cons_zero, List.set_cons_succ]
  refine BigFrame.wpQuiet_want rfl (fun K hK => ?_)
  refine quiet_val (.bool false) (fun w' hw' => by go_simp) (hK _ ?_)
  clear hK K
  simp only [Act.put, List.setIfInBounds_toArray, List.set_cons_zero, List.set_cons_succ]
  refine BigFrame.wpQuiet_want rfl (fun K hK => ?_)
  refine quiet_val (.agg #[.int .u8 0, .int .u8 0, .int .u8 0, .int .u8 0]) (fun w' hw' => by go_simp) (hK _ ?_)
  clear hK K
  simp only [Act.put, List.setIfInBounds_toArray, List.set_cons_zero, List.set_cons_succ]
  refine BigFrame.wpQuiet_want rfl (fun K hK => ?_)
  refine quiet_val (.agg #[.int .u8 (d 0), .int .u8 (d 1), .int .u8 (d 2), .int .u8 (d 3)]) (fun w' hw' => by obtain ⟨c0, c1, c2, c3⟩ := (HB3.out w' hw').2.1.c0; go_simp) (hK _ ?_)
  clear hK K
  simp only [Act.put, List.setIfInBounds_toArray, List.set_cons_zero, List.set_cons_succ]
  refine BigFrame.wpQuiet_want rfl (fun K hK => ?_)
  refine quiet_call 22 #[.agg #[.int .u8 0, .int .u8 0, .int .u8 0, .int .u8 0], .agg #[.int .u8 (d 0), .int .u8 (d 1), .int .u8 (d 2), .int .u8 (d 3)]] (.agg #[.int .u8 (d 0), .int .u8 (d 1), .int .u8 (d 2), .int .u8 (d 3)]) (fun w' _ => by go_simp) (fun w' hw' => Calls.out hw' (HZ.out w')) (hK _ ?_)
  clear hK K
  simp only [Act.put, List.setIfInBounds_toArray, List.set_cons_zero, List.set_cons_succ]
  refine BigFrame.wpQuiet_want rfl (fun K hK => ?_)
  refine quiet_val (.agg #[.int .u8 (d 0), .int .u8 (d 1), .int .u8 (d 2), .int .u8 (d 3)]) (fun w' hw' => by obtain ⟨c0, c1, c2, c3⟩ := (HB3.out w' hw').2.1.c0; go_simp) (hK _ ?_)
  clear hK K
  simp only [Act.put, List.setIfInBounds_toArray, List.set_cons_zero, List.set_cons_succ]
  refine BigFrame.wpQuiet_want rfl (fun K hK => ?_)
  refine quiet_val (.bool false) (fun w' hw' => by go_simp) (hK _ ?_)
  clear hK K
  simp only [Act.put, List.setIfInBounds_toArray, List.set_cons_zero, List.set_cons_succ]
  refine BigFrame.wpQuiet_want rfl (fun K hK => ?_)
  refine quiet_val (.bool false) (fun w' hw' => by go_simp) (hK _ ?_)
  clear hK K
  simp only [Act.put, List.setIfInBounds_toArray, List.set_cons_zero, List.set_cons_succ]
  refine wpQuiet_nil ?_
  intro w4 hb
  have HB4 : Hid (∀ A, Below w4.heap.size w4 A → Blk A w.heap.size 26 (c8 c) ∧ Blk A (w.heap.size + 1) 26 (c8 d) ∧ Blk A g5 26 (c8 O)) := fun A hA => HB3.out A (hb.trans (hA.mono hb.size))
  have BW4 : Hid (Below w.heap.size w w4) := BW3.out.trans (hb.mono BW3.out.size)
  clear hb
  obtain ⟨c00, c01, c02, c03⟩ := (HB4.out w4 (Below.refl _ _)).1.c0
  go_wp2_with fail
  refine (HRI.out _).mono ?_
  rintro e w5 ⟨rfl, hb⟩
  have HB5 : Hid (∀ A, Below w5.heap.size w5 A → Blk A w.heap.size 26 (c8 c) ∧ Blk A (w.heap.size + 1) 26 (c8 d) ∧ Blk A g5 26 (c8 O)) := fun A hA => HB4.out A (hb.trans (hA.mono hb.size))
  have BW5 : Hid (Below w.heap.size w w5) := BW4.out.trans (hb.mono BW4.out.size)
  clear hb c00 c01 c02 c03
  obtain ⟨c00, c01, c02, c03⟩ := (HB5.out w5 (Below.refl _ _)).1.c0
  go_wp2_with fail
  refine (HRI.out _).mono ?_
  rintro e w6 ⟨rfl, hb⟩
  have HB6 : Hid (∀ A, Below w6.heap.size w6 A → Blk A w.heap.size 26 (c8 c) ∧ Blk A (w.heap.size + 1) 26 (c8 d) ∧ Blk A g5 26 (c8 O)) := fun A hA => HB5.out A (hb.trans (hA.mono hb.size))
  have BW6 : Hid (Below w.heap.size w w6) := BW5.out.trans (hb.mono BW5.out.size)
  clear hb c00 c01 c02 c03
  go_wp2_with fail
  refine (HAW.out _).mono ?_
  rintro e w7 ⟨rfl, hb⟩
  have HB7 : Hid (∀ A, Below w7.heap.size w7 A → Blk A w.heap.size 26 (c8 c) ∧ Blk A (w.heap.size + 1) 26 (c8 d) ∧ Blk A g5 26 (c8 O)) := fun A hA => HB6.out A (hb.trans (hA.mono hb.size))
  have BW7 : Hid (Below w.heap.size w w7) := BW6.out.trans (hb.mono BW6.out.size)
  clear hb
  go_wp2_with fail
  go_ret
  exact ⟨rfl, BW7.out⟩
theorem paintOvers_law (P : PaintOk) (c d : Col) (hc : OkC c) (hd : OkC d) (w : World) : Calls Try.prog 5 #[.agg #[.int .u8 (c 0), .int .u8 (c 1), .int .u8 (c 2), .int .u8 (c 3)], .agg #[.int .u8 (d 0), .int .u8 (d 1), .int .u8 (d 2), .int .u8 (d 3)]] w fun e w' => e = .returned (.bool true) ∧ Below w.heap.size w w' := by
  cases hrc : rightC c
  case false => exact paintOvers_C0 P c d hc hd w hrc
  by_cases h255 : c 3 = 255
  · cases hrd : rightC d
    · exact paintOvers_A0 P c d hc hd w hrc hrd h255
    · exact paintOvers_A1 P c d hc hd w hrc hrd h255
  · cases hrd : rightC d
    · exact paintOvers_B0 P c d hc hd w hrc hrd h255
    · exact paintOvers_B1 P c d hc hd w hrc hrd h255
end Go.Proofs.Ytcbldamlfjkppaa
