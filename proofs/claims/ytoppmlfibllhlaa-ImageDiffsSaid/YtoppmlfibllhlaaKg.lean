/- Layer 11: the law ImageDiffs. -/
import Derived.Test.YtoppmlfibllhlaaKf
import Derived.BigQuiet
namespace Go.Proofs.Ytoppmlfibllhlaa
open Go.RowKit
set_option maxHeartbeats 8000000 in
set_option maxRecDepth 100000 in
theorem imageDiffs_y (AW : AwakeOk) (DI : DiffOk) (CO : CountOk) (EQ : EqualOk) (W H : Int) (s so : Value) (l ol : List Col) (w : World) (row : RowK .u8 w s l) (rov : RowK .u8 w so ol) (hok : ∀ c ∈ l, OkC c) (hoko : ∀ c ∈ ol, OkC c) (h1 : l.length ≤ 400) (h2 : ol.length ≤ 400) (hr : rightIm W H l = true) (hq : rightIm W H ol = true) : Calls Try.prog 8 #[.agg #[.int .i64 W, .int .i64 H, s], .agg #[.int .i64 W, .int .i64 H, so]] w fun e w' => e = .returned (.bool true) ∧ Below w.heap.size w w' := by
  have HAW := Lib.hid AW
  have HDI : Hid (∀ A, Below w.heap.size w A → Calls Try.prog 29 #[.agg #[.int .i64 W, .int .i64 H, s], .agg #[.int .i64 W, .int .i64 H, so]] A fun e w' => e = .returned (.tuple #[.agg (fourB (boundI (diffP W l ol l.length))), .int .i64 0]) ∧ Below A.heap.size A w') := fun A hA => (DI W H W H s so l ol A (row.on hA) (rov.on hA) hok hoko h1 h2).mono fun e w' h' => ⟨h'.1 (by unfold sizeB; rw [hr, hq]; simp), h'.2.2⟩
  have HRF : Hid (∀ A, Below w.heap.size w A → Calls Try.prog 11 #[.agg #[.int .i64 W, .int .i64 H, s]] A fun e w' => ∃ u, e = .returned (.agg #[.int .i64 W, .int .i64 H, u]) ∧ OwnK .i64 w' A.heap.size 43 u l ∧ Below A.heap.size A w') := fun A hA => lawRef_c W H _ l A (row.on hA) hok (by omega)
  have HRO : Hid (∀ A, Below w.heap.size w A → Calls Try.prog 11 #[.agg #[.int .i64 W, .int .i64 H, so]] A fun e w' => ∃ u, e = .returned (.agg #[.int .i64 W, .int .i64 H, u]) ∧ OwnK .i64 w' A.heap.size 43 u ol ∧ Below A.heap.size A w') := fun A hA => lawRef_c W H _ ol A (rov.on hA) hoko (by omega)
  have HRT : Hid (∀ A u, RowK .i64 A u l → Calls Try.prog 13 #[.agg #[.int .i64 W, .int .i64 H, u]] A fun e w' => e = .returned (.bool (rightIm W H l)) ∧ Below A.heap.size A w') := fun A u hu => ref11Right_c W H u l A hu
  have HRU : Hid (∀ A u, RowK .i64 A u ol → Calls Try.prog 13 #[.agg #[.int .i64 W, .int .i64 H, u]] A fun e w' => e = .returned (.bool (rightIm W H ol)) ∧ Below A.heap.size A w') := fun A u hu => ref11Right_c W H u ol A hu
  rw [hr] at HRT
  rw [hq] at HRU
  obtain ⟨q1, q2, q3, q4', q5, q6⟩ := rightIm_iff.1 hr
  obtain ⟨_, _, _, _, r5, _⟩ := rightIm_iff.1 hq
  have hlen : l.length = ol.length := by have := q5.trans r5.symm; omega
  have hpr := side_prod (W := W) (H := H) (by omega) (by omega) (by omega) (by omega)
  have hpos : 0 < l.length := by omega
  have HEQ : Hid (∀ A, Below w.heap.size w A → Calls Try.prog 28 #[.agg #[.int .i64 W, .int .i64 H, s], .agg #[.int .i64 W, .int .i64 H, so]] A fun e w' => e = .returned (.bool (decide ((diffP W l ol l.length).length = 0))) ∧ Below A.heap.size A w') := fun A hA => by
    have h := EQ W H W H s so l ol A (row.on hA) (rov.on hA) hok hoko (by omega) (by omega) hr hq
    rw [same_diff hlen] at h
    exact h
  have HCO : Hid (∀ A, Below w.heap.size w A → Calls Try.prog 31 #[.agg #[.int .i64 W, .int .i64 H, s], .agg #[.int .u8 ((cAt l 0) 0), .int .u8 ((cAt l 0) 1), .int .u8 ((cAt l 0) 2), .int .u8 ((cAt l 0) 3)]] A fun e w' => e = .returned (.int .i64 ((cntTo l (cAt l 0) l.length : Nat) : Int)) ∧ Below A.heap.size A w') := fun A hA => by
    have h := CO W H s l (cAt l 0) A (row.on hA) hok (hok _ (List.mem_of_getElem? (cAt_some hpos))) h1 hr
    rw [count_is] at h
    exact h
  have HBD : Hid (∀ A v, Row A v (diffP W l ol l.length) → Calls Try.prog 30 #[v] A fun e w' => e = .returned (.agg (fourB (boundI (diffP W l ol l.length)))) ∧ Below A.heap.size A w') := fun A v hv => bound_c v _ A (by have := diffP_len W l ol l.length; omega) hv (diffP_room ⟨q1, q2⟩ l ol _ (by omega))
  obtain ⟨bb, hbb⟩ : ∃ b, (boundI (diffP W l ol l.length)) = b := ⟨_, rfl⟩
  rw [hbb] at HDI HBD
  have HW : Hid (1 ≤ W ∧ W ≤ 256) := ⟨q1, q2⟩
  obtain ⟨ao, cp, rfl⟩ := row.shape
  obtain ⟨bo, bc, rfl⟩ := rov.shape
  obtain ⟨rb, ro, rfl, hrb, hrq⟩ := RowK.addr row hpos
  obtain ⟨qb, qo, rfl, hqb, hqq⟩ := RowK.addr rov (by omega)
  have HRC : Hid (rb < w.heap.size ∧ ∀ i p, l[i]? = some p → ColAt .u8 w rb (ro + i * 4) p) := ⟨hrb, hrq⟩
  have HQC : Hid (qb < w.heap.size ∧ ∀ i p, ol[i]? = some p → ColAt .u8 w qb (qo + i * 4) p) := ⟨hqb, hqq⟩
  obtain ⟨n, hn⟩ : ∃ n, l.length = n := ⟨_, rfl⟩
  have HSM := Lib.hid (small_c W H (some ⟨rb, ro, none⟩) n cp)
  have HSO := Lib.hid (small_c W H (some ⟨qb, qo, none⟩) n bc)
  rw [decide_eq_true (by omega)] at HSM
  rw [decide_eq_true (by omega)] at HSO
  have HN : Hid (l.length = n ∧ ol.length = n ∧ n ≤ 400 ∧ 0 < n) := ⟨hn, hlen ▸ hn, by omega, by omega⟩
  rw [← hlen, hn] at HDI HEQ
  rw [← hlen] at HRO
  rw [hn] at HRF HRO HCO HBD ⊢
  rw [← hlen, hn]
  clear row rov hok hoko h1 h2 hn hlen hpos hpr hr hq q1 q2 q3 q4' q5 q6 r5 hbb hrb hrq hqb hqq
  go_enter Try.func8, Try.ntmps8
  go_wp2_with fail
  refine (HSM.out _).mono ?_
  rintro e w1 ⟨rfl, hb⟩
  have M1 : Hid (DifM w W H W H (.slice (some ⟨rb, ro, none⟩) n cp) (.slice (some ⟨qb, qo, none⟩) n bc) w1) := (DifM.start w W H W H (.slice (some ⟨rb, ro, none⟩) n cp) (.slice (some ⟨qb, qo, none⟩) n bc)).grow hb
  clear hb
  obtain ⟨o0, o1, o2⟩ := Blk.im3 (M1.out).2.2
  go_wp2_with fail
  refine (HSO.out _).mono ?_
  rintro e w2 ⟨rfl, hb⟩
  have M2 := Lib.hid (M1.out.grow hb)
  clear hb o0 o1 o2 M1
  obtain ⟨m0, m1, m2⟩ := Blk.im3 (M2.out).2.1
  obtain ⟨o0, o1, o2⟩ := Blk.im3 (M2.out).2.2
  go_wp2_with fail
  refine (HDI.out _ M2.out.1).mono ?_
  rintro e w3 ⟨rfl, hb⟩
  have M3 := Lib.hid (M2.out.grow hb)
  clear hb m0 m1 m2 o0 o1 o2 M2
  go_upto_region 4 with fail
  obtain ⟨w4, hw⟩ : ∃ WW, w3.alloc (.cells (fourB bb) 26) = WW := ⟨_, rfl⟩
  have M4 : Hid (DifM w W H W H (.slice (some ⟨rb, ro, none⟩) n cp) (.slice (some ⟨qb, qo, none⟩) n bc) w4 ∧ Blk w4 w3.heap.size 26 (fourB bb) ∧ w.heap.size + 1 < w3.heap.size) := by
    rw [← hw]
    exact ⟨M3.out.grow ((Below.refl _ _).alloc (Nat.le_refl _) _), Blk.new _ _ _, M3.out.2.2.lt⟩
  rw [hw]
  clear hw M3
  generalize w3.heap.size = g5 at *
  obtain ⟨m0, m1, m2⟩ := Blk.im3 (M4.out.1).2.1
  go_wp2_with fail
  refine (HRF.out _ M4.out.1.1).mono ?_
  rintro e w5 ⟨u, rfl, hu, hb⟩
  have M5 : Hid (DifM w W H W H (.slice (some ⟨rb, ro, none⟩) n cp) (.slice (some ⟨qb, qo, none⟩) n bc) w5 ∧ Blk w5 g5 26 (fourB bb) ∧ w.heap.size + 1 < g5) := ⟨M4.out.1.grow hb, M4.out.2.1.grow hb, M4.out.2.2⟩
  have HU := Lib.hid hu.row
  clear hb hu m0 m1 m2 M4
  go_wp2_with fail
  refine (HRT.out _ _ HU.out).mono ?_
  rintro e w6 ⟨rfl, hb⟩
  have M6 : Hid (DifM w W H W H (.slice (some ⟨rb, ro, none⟩) n cp) (.slice (some ⟨qb, qo, none⟩) n bc) w6 ∧ Blk w6 g5 26 (fourB bb) ∧ w.heap.size + 1 < g5) := ⟨M5.out.1.grow hb, M5.out.2.1.grow hb, M5.out.2.2⟩
  clear hb HU M5
  obtain ⟨o0, o1, o2⟩ := Blk.im3 (M6.out.1).2.2
  go_wp2_with fail
  refine (HRO.out _ M6.out.1.1).mono ?_
  rintro e w7 ⟨u, rfl, hu, hb⟩
  have M7 : Hid (DifM w W H W H (.slice (some ⟨rb, ro, none⟩) n cp) (.slice (some ⟨qb, qo, none⟩) n bc) w7 ∧ Blk w7 g5 26 (fourB bb) ∧ w.heap.size + 1 < g5) := ⟨M6.out.1.grow hb, M6.out.2.1.grow hb, M6.out.2.2⟩
  have HU := Lib.hid hu.row
  clear hb hu o0 o1 o2 M6
  go_wp2_with fail
  refine (HRU.out _ _ HU.out).mono ?_
  rintro e w8 ⟨rfl, hb⟩
  have M8 : Hid (DifM w W H W H (.slice (some ⟨rb, ro, none⟩) n cp) (.slice (some ⟨qb, qo, none⟩) n bc) w8 ∧ Blk w8 g5 26 (fourB bb) ∧ w.heap.size + 1 < g5) := ⟨M7.out.1.grow hb, M7.out.2.1.grow hb, M7.out.2.2⟩
  clear hb HU M7
  obtain ⟨m0, m1, m2⟩ := Blk.im3 (M8.out.1).2.1
  obtain ⟨o0, o1, o2⟩ := Blk.im3 (M8.out.1).2.2
  go_wp2_with fail
  clear m0 m1 m2 o0 o1 o2
  obtain ⟨N, hNw⟩ : ∃ N, w8.heap.size = N := ⟨_, rfl⟩
  have NB : Hid (w.heap.size + 1 < N ∧ g5 < N ∧ w8.heap.size = N) := ⟨by rw [← hNw]; exact M8.out.1.2.2.lt, by rw [← hNw]; exact M8.out.2.1.lt, hNw⟩
  clear hNw
  have hn4 := HN.out.2.2
  go_loopw [7, 64] (fun v i wr => ∃ k : Nat, k ≤ n ∧ i = .int .i64 (k : Int) ∧ Hid (DifM w W H W H (.slice (some ⟨rb, ro, none⟩) n cp) (.slice (some ⟨qb, qo, none⟩) n bc) wr ∧ Blk wr g5 26 (fourB bb) ∧ N ≤ wr.heap.size ∧ Own wr N 52 v (diffP W l ol k))) (fun _ i _ => n - (intOf i).toNat)
  case atStart => exact ⟨0, by omega, rfl, M8.out.1, M8.out.2.1, by have := NB.out.2.2; omega, World.ownsRow_nil _ _ _ _⟩
  case round =>
    obtain ⟨k, hk, rfl, hw⟩ := hrel
    by_cases hlt : k < n
    · have hd : decide ((k : Int) < (n : Int)) = true := by simp; omega
      obtain ⟨x, hx⟩ : ∃ x, cAt l k = x := ⟨_, rfl⟩
      obtain ⟨y, hy⟩ : ∃ y, cAt ol k = y := ⟨_, rfl⟩
      have hki : (k : Int) < (n : Int) := by omega
      have HKL := Lib.hid hlt
      have hn5 := HN.out
      have HA9 : Hid (∀ A, Below wr.heap.size wr A → DifM w W H W H (.slice (some ⟨rb, ro, none⟩) n cp) (.slice (some ⟨qb, qo, none⟩) n bc) A ∧ Blk A g5 26 (fourB bb)) := fun A hA => ⟨hw.out.1.grow hA, hw.out.2.1.grow hA⟩
      have HXA : Hid (∀ A, Below wr.heap.size wr A → ColAt .u8 A rb (ro + k * 4) x) := fun A hA => (HRC.out.2 k x (by rw [← hx]; exact cAt_some (by omega))).on (HA9.out A hA).1.1 HRC.out.1
      have HXB : Hid (∀ A, Below wr.heap.size wr A → ColAt .u8 A qb (qo + k * 4) y) := fun A hA => (HQC.out.2 k y (by rw [← hy]; exact cAt_some (by omega))).on (HA9.out A hA).1.1 HQC.out.1
      have EQ8 := equal8 x y
      have HDF0 : Hid (diffP W l ol (k + 1) = diffP W l ol k ++ (if eqC x y then [] else [ptAt W k])) := by rw [← hx, ← hy]; rfl
      clear hx hy hn5
      cases he : eqC x y
      · rw [he] at EQ8
        have HDF : Hid (diffP W l ol (k + 1) = diffP W l ol k ++ [ptAt W k]) := by
          rw [HDF0.out, he]; rfl
        clear he HDF0
        go_upto_region 10 with fail
        refine wp_region_quiet (C := Out wr) (by kernel_rfl) (by kernel_rfl) ⟨rfl, rfl, rfl, Nat.le_refl _, fun _ _ => rfl⟩ ?_
        refine BigFrame.wpQuiet_want rfl (fun K hK => ?_)
        refine quiet_val (.pointer (some ⟨w.heap.size, 2, none⟩)) (fun w' hw' => by go_simp) (hK _ ?_)
        clear hK K
        simp only [Act.put, List.setIfInBounds_toArray, List.set_cons_zero, List.set_cons_succ]
        refine BigFrame.wpQuiet_want rfl (fun K hK => ?_)
        refine quiet_val (.slice (some ⟨rb, ro, none⟩) n cp) (fun w' hw' => by obtain ⟨m0, m1, m2⟩ := Blk.im3 (HA9.out w' hw').1.2.1; go_simp) (hK _ ?_)
        clear hK K
        simp only [Act.put, List.setIfInBounds_toArray, List.set_cons_zero, List.set_cons_succ]
        refine BigFrame.wpQuiet_want rfl (fun K hK => ?_)
        refine quiet_val (.int .i64 (k : Int)) (fun w' hw' => by go_simp) (hK _ ?_)
        clear hK K
        simp only [Act.put, List.setIfInBounds_toArray, List.set_cons_zero, List.set_cons_succ]
        refine BigFrame.wpQuiet_want rfl (fun K hK => ?_)
        refine quiet_val (.pointer (some ⟨rb, ro + k * 4, none⟩)) (fun w' hw' => by go_simp) (hK _ ?_)
        clear hK K
        simp only [Act.put, List.setIfInBounds_toArray, List.set_cons_zero, List.set_cons_succ]
        refine BigFrame.wpQuiet_want rfl (fun K hK => ?_)
        refine quiet_val (.agg #[.int .u8 (x 0), .int .u8 (x 1), .int .u8 (x 2), .int .u8 (x 3)]) (fun w' hw' => by obtain ⟨c0, c1, c2, c3⟩ := HXA.out w' hw'; go_simp) (hK _ ?_)
        clear hK K
        simp only [Act.put, List.setIfInBounds_toArray, List.set_cons_zero, List.set_cons_succ]
        refine BigFrame.wpQuiet_want rfl (fun K hK => ?_)
        refine quiet_val (.pointer (some ⟨w.heap.size + 1, 2, none⟩)) (fun w' hw' => by go_simp) (hK _ ?_)
        clear hK K
        simp only [Act.put, List.setIfInBounds_toArray, List.set_cons_zero, List.set_cons_succ]
        refine BigFrame.wpQuiet_want rfl (fun K hK => ?_)
        refine quiet_val (.slice (some ⟨qb, qo, none⟩) n bc) (fun w' hw' => by obtain ⟨m0, m1, m2⟩ := Blk.im3 (HA9.out w' hw').1.2.2; go_simp) (hK _ ?_)
        clear hK K
        simp only [Act.put, List.setIfInBounds_toArray, List.set_cons_zero, List.set_cons_succ]
        refine BigFrame.wpQuiet_want rfl (fun K hK => ?_)
        refine quiet_val (.int .i64 (k : Int)) (fun w' hw' => by go_simp) (hK _ ?_)
        clear hK K
        simp only [Act.put, List.setIfInBounds_toArray, List.set_cons_zero, List.set_cons_succ]
        refine BigFrame.wpQuiet_want rfl (fun K hK => ?_)
        refine quiet_val (.pointer (some ⟨qb, qo + k * 4, none⟩)) (fun w' hw' => by go_simp) (hK _ ?_)
        clear hK K
        simp only [Act.put, List.setIfInBounds_toArray, List.set_cons_zero, List.set_cons_succ]
        refine BigFrame.wpQuiet_want rfl (fun K hK => ?_)
        refine quiet_val (.agg #[.int .u8 (y 0), .int .u8 (y 1), .int .u8 (y 2), .int .u8 (y 3)]) (fun w' hw' => by obtain ⟨c0, c1, c2, c3⟩ := HXB.out w' hw'; go_simp) (hK _ ?_)
        clear hK K
        simp only [Act.put, List.setIfInBounds_toArray, List.set_cons_zero, List.set_cons_succ]
        refine BigFrame.wpQuiet_want rfl (fun K hK => ?_)
        refine quiet_val (.bool true) (fun w' hw' => by go_simp) (hK _ ?_)
        clear hK K
        simp only [Act.put, List.setIfInBounds_toArray, List.set_cons_zero, List.set_cons_succ]
        refine wpQuiet_nil ?_
        intro w9 hb
        have M9 : Hid (DifM w W H W H (.slice (some ⟨rb, ro, none⟩) n cp) (.slice (some ⟨qb, qo, none⟩) n bc) w9 ∧ Blk w9 g5 26 (fourB bb) ∧ N ≤ w9.heap.size ∧ Own w9 N 52 u7 (diffP W l ol k)) := ⟨hw.out.1.grow hb, hw.out.2.1.grow hb, Nat.le_trans hw.out.2.2.1 hb.size, hw.out.2.2.2.grow hb⟩
        obtain ⟨r1, r2, r3, r4, r5, r6⟩ := rem_quo (k := k) HW.out.1
        have HRQ : Hid ((k : Int).tmod W = (ptAt W k).1 ∧ (k : Int).tdiv W = (ptAt W k).2 ∧ (W == 0) = false ∧ ¬ W = 0 ∧ wrap64 (ptAt W k).2 = (ptAt W k).2 ∧ IntKind.i64.wrap (ptAt W k).2 = (ptAt W k).2) := ⟨r1, r2, by have := HW.out; simp; omega, by have := HW.out; omega, wrapR _ (by simp only [ptAt]; omega) (by have := HN.out; simp only [ptAt]; omega), by rw [wrap_is]; exact wrapR _ (by simp only [ptAt]; omega) (by have := HN.out; simp only [ptAt]; omega)⟩
        clear hb HA9 HXA HXB EQ8 hw r1 r2 r3 r4 r5 r6 hki hlt
        go_upto_region 11 with fail
        refine wp_region_put2 (by kernel_rfl) (by kernel_rfl) (by kernel_rfl) (fun b' vs w' => (b' 0 = true → vs 0 = u7) ∧ (b' 1 = true → vs 1 = .int .i64 (k : Int)) ∧ (b' 2 = true → vs 2 = .pointer (some ⟨w.heap.size, 0, none⟩)) ∧ (b' 3 = true → vs 3 = .int .i64 W) ∧ (b' 4 = true → vs 4 = .int .i64 (ptAt W k).1) ∧ (b' 5 = true → vs 5 = .int .i64 (k : Int)) ∧ (b' 6 = true → vs 6 = .pointer (some ⟨w.heap.size, 0, none⟩)) ∧ (b' 7 = true → vs 7 = .int .i64 W) ∧ (b' 8 = true → vs 8 = .int .i64 (ptAt W k).2) ∧ (b' 9 = true → vs 9 = .agg #[.int .i64 (ptAt W k).1, .int .i64 (ptAt W k).2]) ∧ (b' 10 = true → b' 11 = false → Hid (Own w' w.heap.size 52 (vs 10) [ptAt W k])) ∧ (b' 11 = false → Hid (Below w.heap.size w w' ∧ w.heap.size ≤ w'.heap.size)) ∧ (b' 11 = false → Hid (DifM w W H W H (.slice (some ⟨rb, ro, none⟩) n cp) (.slice (some ⟨qb, qo, none⟩) n bc) w' ∧ Blk w' g5 26 (fourB bb) ∧ N ≤ w'.heap.size ∧ Own w' N 52 u7 (diffP W l ol k))) ∧ (b' 11 = true → Hid (DifM w W H W H (.slice (some ⟨rb, ro, none⟩) n cp) (.slice (some ⟨qb, qo, none⟩) n bc) w' ∧ Blk w' g5 26 (fourB bb) ∧ N ≤ w'.heap.size ∧ Own w' N 52 (vs 11) (diffP W l ol (k + 1)))) ∧ (b' 10 = true → b' 9 = true) ∧ (b' 9 = true → b' 4 = true) ∧ (b' 4 = true → b' 3 = true) ∧ (b' 9 = true → b' 8 = true) ∧ (b' 8 = true → b' 7 = true) ∧ (b' 11 = true → b' 0 = true) ∧ (b' 11 = true → b' 3 = true) ∧ (b' 11 = true → b' 7 = true) ∧ (b' 11 = true → b' 10 = true) ∧ (b' 12 = true → b' 11 = true ∧ vs 12 = vs 11) ∧ (b' 12 = false → vs 12 = u7) ∧ (b' 12 = true → b' 0 = true)) ?_ ?_ ?_
        · intro vs hvs
          exact ⟨fun h => Bool.noConfusion h, fun h => Bool.noConfusion h, fun h => Bool.noConfusion h, fun h => Bool.noConfusion h, fun h => Bool.noConfusion h, fun h => Bool.noConfusion h, fun h => Bool.noConfusion h, fun h => Bool.noConfusion h, fun h => Bool.noConfusion h, fun h => Bool.noConfusion h, fun h => Bool.noConfusion h, fun _ => Lib.hid ⟨below_drewN M9.out.1.1 1, M9.out.1.1.size⟩, fun _ => Lib.hid ⟨M9.out.1.grow ⟨rfl, rfl, rfl, Nat.le_refl _, fun _ _ => rfl⟩, M9.out.2.1.grow ⟨rfl, rfl, rfl, Nat.le_refl _, fun _ _ => rfl⟩, M9.out.2.2.1, M9.out.2.2.2.grow ⟨rfl, rfl, rfl, Nat.le_refl _, fun _ _ => rfl⟩⟩, fun h => Bool.noConfusion h, fun h => Bool.noConfusion h, fun h => Bool.noConfusion h, fun h => Bool.noConfusion h, fun h => Bool.noConfusion h, fun h => Bool.noConfusion h, fun h => Bool.noConfusion h, fun h => Bool.noConfusion h, fun h => Bool.noConfusion h, fun h => Bool.noConfusion h, fun h => Bool.noConfusion h, fun _ => hvs 12 _ _ rfl rfl, fun h => Bool.noConfusion h⟩
        · rintro b' vs w' i op hi hun hall ⟨h0, h1, h2, h3, h4, h5, h6, h7, h8, h9, y10, hB, hF, hG, hE10_9, hE9_4, hE4_3, hE9_8, hE8_7, hW0, hW3, hW7, hW10, hA, hR, hZ0⟩
          have hil : i < 13 := (List.getElem?_eq_some_iff.1 hi).1
          rcases i with _ | _ | _ | _ | _ | _ | _ | _ | _ | _ | _ | _ | _ | i
          · obtain rfl := Option.some.inj hi
            clear hi hil
            have hz : b' 12 = false := by
              cases hzz : b' 12 with
              | false => rfl
              | true => exact absurd (hZ0 hzz) (by rw [hun]; decide)
            have hx := hR hz
            refine wpOp_step rfl (fun K hK => ?_)
            have HKK := Lib.hid hK; clear hK
            simp only [putAll, Act.put, List.setIfInBounds_toArray, List.set_cons_zero, List.set_cons_succ]
            go_simp
            exact HKK.out _ _ ⟨_, by simp only [putAll, Act.put, List.setIfInBounds_toArray, List.set_cons_zero, List.set_cons_succ, hx] <;> rfl, fun _ => rfl, h1, h2, h3, h4, h5, h6, h7, h8, h9, y10, hB, hF, hG, hE10_9, hE9_4, hE4_3, hE9_8, hE8_7, fun _ => rfl, hW3, hW7, hW10, hA, hR, fun _ => rfl⟩
          · obtain rfl := Option.some.inj hi
            clear hi hil
            refine wpOp_step rfl (fun K hK => ?_)
            have HKK := Lib.hid hK; clear hK
            simp only [putAll, Act.put, List.setIfInBounds_toArray, List.set_cons_zero, List.set_cons_succ]
            go_simp
            exact HKK.out _ _ ⟨_, by simp only [putAll, Act.put, List.setIfInBounds_toArray, List.set_cons_zero, List.set_cons_succ] <;> rfl, h0, fun _ => rfl, h2, h3, h4, h5, h6, h7, h8, h9, y10, hB, hF, hG, hE10_9, hE9_4, hE4_3, hE9_8, hE8_7, hW0, hW3, hW7, hW10, hA, hR, hZ0⟩
          · obtain rfl := Option.some.inj hi
            clear hi hil
            refine wpOp_step rfl (fun K hK => ?_)
            have HKK := Lib.hid hK; clear hK
            simp only [putAll, Act.put, List.setIfInBounds_toArray, List.set_cons_zero, List.set_cons_succ]
            go_simp
            exact HKK.out _ _ ⟨_, by simp only [putAll, Act.put, List.setIfInBounds_toArray, List.set_cons_zero, List.set_cons_succ] <;> rfl, h0, h1, fun _ => rfl, h3, h4, h5, h6, h7, h8, h9, y10, hB, hF, hG, hE10_9, hE9_4, hE4_3, hE9_8, hE8_7, hW0, hW3, hW7, hW10, hA, hR, hZ0⟩
          · obtain rfl := Option.some.inj hi
            clear hi hil
            have hap : b' 11 = false := by
              cases hz : b' 11 with
              | false => rfl
              | true => exact absurd (hW3 hz) (by rw [hun]; decide)
            have d2 := h2 (hall ⟨2, .data⟩ (by simp) rfl)
            obtain ⟨m0, m1, m2⟩ := Blk.im3 (hF hap).out.1.2.1
            refine wpOp_step rfl (fun K hK => ?_)
            have HKK := Lib.hid hK; clear hK
            simp only [putAll, Act.put, List.setIfInBounds_toArray, List.set_cons_zero, List.set_cons_succ]
            go_simp
            exact HKK.out _ _ ⟨_, by simp only [putAll, Act.put, List.setIfInBounds_toArray, List.set_cons_zero, List.set_cons_succ, d2] <;> rfl, h0, h1, h2, fun _ => rfl, h4, h5, h6, h7, h8, h9, y10, hB, hF, hG, hE10_9, hE9_4, fun _ => rfl, hE9_8, hE8_7, hW0, fun _ => rfl, hW7, hW10, hA, hR, hZ0⟩
          · obtain rfl := Option.some.inj hi
            clear hi hil
            have d1 := h1 (hall ⟨1, .data⟩ (by simp) rfl)
            have d3 := h3 (hall ⟨3, .data⟩ (by simp) rfl)
            obtain ⟨e1, e2, e3, e4, e5, e6⟩ := HRQ.out
            refine wpOp_step rfl (fun K hK => ?_)
            have HKK := Lib.hid hK; clear hK
            simp only [putAll, Act.put, List.setIfInBounds_toArray, List.set_cons_zero, List.set_cons_succ]
            go_simp
            exact HKK.out _ _ ⟨_, by simp only [putAll, Act.put, List.setIfInBounds_toArray, List.set_cons_zero, List.set_cons_succ, d1, d3] <;> rfl, h0, h1, h2, h3, fun _ => rfl, h5, h6, h7, h8, h9, y10, hB, hF, hG, hE10_9, fun _ => rfl, fun _ => hall ⟨3, .data⟩ (by simp) rfl, hE9_8, hE8_7, hW0, hW3, hW7, hW10, hA, hR, hZ0⟩
          · obtain rfl := Option.some.inj hi
            clear hi hil
            refine wpOp_step rfl (fun K hK => ?_)
            have HKK := Lib.hid hK; clear hK
            simp only [putAll, Act.put, List.setIfInBounds_toArray, List.set_cons_zero, List.set_cons_succ]
            go_simp
            exact HKK.out _ _ ⟨_, by simp only [putAll, Act.put, List.setIfInBounds_toArray, List.set_cons_zero, List.set_cons_succ] <;> rfl, h0, h1, h2, h3, h4, fun _ => rfl, h6, h7, h8, h9, y10, hB, hF, hG, hE10_9, hE9_4, hE4_3, hE9_8, hE8_7, hW0, hW3, hW7, hW10, hA, hR, hZ0⟩
          · obtain rfl := Option.some.inj hi
            clear hi hil
            refine wpOp_step rfl (fun K hK => ?_)
            have HKK := Lib.hid hK; clear hK
            simp only [putAll, Act.put, List.setIfInBounds_toArray, List.set_cons_zero, List.set_cons_succ]
            go_simp
            exact HKK.out _ _ ⟨_, by simp only [putAll, Act.put, List.setIfInBounds_toArray, List.set_cons_zero, List.set_cons_succ] <;> rfl, h0, h1, h2, h3, h4, h5, fun _ => rfl, h7, h8, h9, y10, hB, hF, hG, hE10_9, hE9_4, hE4_3, hE9_8, hE8_7, hW0, hW3, hW7, hW10, hA, hR, hZ0⟩
          · obtain rfl := Option.some.inj hi
            clear hi hil
            have hap : b' 11 = false := by
              cases hz : b' 11 with
              | false => rfl
              | true => exact absurd (hW7 hz) (by rw [hun]; decide)
            have d6 := h6 (hall ⟨6, .data⟩ (by simp) rfl)
            obtain ⟨m0, m1, m2⟩ := Blk.im3 (hF hap).out.1.2.1
            refine wpOp_step rfl (fun K hK => ?_)
            have HKK := Lib.hid hK; clear hK
            simp only [putAll, Act.put, List.setIfInBounds_toArray, List.set_cons_zero, List.set_cons_succ]
            go_simp
            exact HKK.out _ _ ⟨_, by simp only [putAll, Act.put, List.setIfInBounds_toArray, List.set_cons_zero, List.set_cons_succ, d6] <;> rfl, h0, h1, h2, h3, h4, h5, h6, fun _ => rfl, h8, h9, y10, hB, hF, hG, hE10_9, hE9_4, hE4_3, hE9_8, fun _ => rfl, hW0, hW3, fun _ => rfl, hW10, hA, hR, hZ0⟩
          · obtain rfl := Option.some.inj hi
            clear hi hil
            have d5 := h5 (hall ⟨5, .data⟩ (by simp) rfl)
            have d7 := h7 (hall ⟨7, .data⟩ (by simp) rfl)
            obtain ⟨e1, e2, e3, e4, e5, e6⟩ := HRQ.out
            refine wpOp_step rfl (fun K hK => ?_)
            have HKK := Lib.hid hK; clear hK
            simp only [putAll, Act.put, List.setIfInBounds_toArray, List.set_cons_zero, List.set_cons_succ]
            go_simp
            exact HKK.out _ _ ⟨_, by simp only [putAll, Act.put, List.setIfInBounds_toArray, List.set_cons_zero, List.set_cons_succ, d5, d7] <;> rfl, h0, h1, h2, h3, h4, h5, h6, h7, fun _ => rfl, h9, y10, hB, hF, hG, hE10_9, hE9_4, hE4_3, fun _ => rfl, fun _ => hall ⟨7, .data⟩ (by simp) rfl, hW0, hW3, hW7, hW10, hA, hR, hZ0⟩
          · obtain rfl := Option.some.inj hi
            clear hi hil
            have d4 := h4 (hall ⟨4, .data⟩ (by simp) rfl)
            have d8 := h8 (hall ⟨8, .data⟩ (by simp) rfl)
            refine wpOp_step rfl (fun K hK => ?_)
            have HKK := Lib.hid hK; clear hK
            simp only [putAll, Act.put, List.setIfInBounds_toArray, List.set_cons_zero, List.set_cons_succ]
            go_simp
            exact HKK.out _ _ ⟨_, by simp only [putAll, Act.put, List.setIfInBounds_toArray, List.set_cons_zero, List.set_cons_succ, d4, d8] <;> rfl, h0, h1, h2, h3, h4, h5, h6, h7, h8, fun _ => rfl, y10, hB, hF, hG, fun _ => rfl, fun _ => hall ⟨4, .data⟩ (by simp) rfl, hE4_3, fun _ => hall ⟨8, .data⟩ (by simp) rfl, hE8_7, hW0, hW3, hW7, hW10, hA, hR, hZ0⟩
          · obtain rfl := Option.some.inj hi
            clear hi hil
            have hap : b' 11 = false := by
              cases hz : b' 11 with
              | false => rfl
              | true => exact absurd (hW10 hz) (by rw [hun]; decide)
            have d9 := h9 (hall ⟨9, .data⟩ (by simp) rfl)
            refine wpOp_step rfl (fun K hK => ?_)
            have HKK := Lib.hid hK; clear hK
            simp only [putAll, Act.put, List.setIfInBounds_toArray, List.set_cons_zero, List.set_cons_succ]
            go_simp
            have hb2 : Below w'.heap.size w' (w'.alloc (.cells (flat [ptAt W k]) 52)) := (Below.refl _ _).alloc (Nat.le_refl _) _
            exact HKK.out _ _ ⟨_, by simp only [putAll, Act.put, List.setIfInBounds_toArray, List.set_cons_zero, List.set_cons_succ, d9] <;> rfl, h0, h1, h2, h3, h4, h5, h6, h7, h8, h9, fun _ _ => Lib.hid (Own.made w' (hB hap).out.2 52 [ptAt W k] _ 1 rfl rfl (by decide)), fun ha => Lib.hid ⟨(hB ha).out.1.trans (hb2.mono (hB ha).out.2), Nat.le_trans (hB ha).out.2 hb2.size⟩, fun ha => Lib.hid (⟨(hF ha).out.1.grow hb2, (hF ha).out.2.1.grow hb2, Nat.le_trans (hF ha).out.2.2.1 hb2.size, (hF ha).out.2.2.2.grow hb2⟩), fun h => absurd (show b' 11 = true from h) (by rw [hap]; decide), fun _ => hall ⟨9, .data⟩ (by simp) rfl, hE9_4, hE4_3, hE9_8, hE8_7, hW0, hW3, hW7, fun _ => rfl, hA, hR, hZ0⟩
          · obtain rfl := Option.some.inj hi
            clear hi hil
            have hap : b' 11 = false := hun
            have d0 := h0 (hall ⟨0, .data⟩ (by simp) rfl)
            have o10 := y10 (hall ⟨10, .data⟩ (by simp) rfl) hap
            refine wpOp_step rfl (fun K hK => ?_)
            have HKK := Lib.hid hK; clear hK
            simp only [putAll, Act.put, List.setIfInBounds_toArray, List.set_cons_zero, List.set_cons_succ]
            refine (if_pos rfl).mpr (wp_append_pts _ _ 66 52 rfl Try.underlying66 infoP N _ _ d0 ((hF hap).out.2.2.2) _ _ rfl (o10.out.row) (by have := diffP_len W l ol k; have := HN.out; simp; omega) ((hF hap).out.2.2.1) ?_)
            intro v' w2 ho2 hg2 hm2
            exact HKK.out _ _ ⟨_, by simp only [putAll, Act.put, List.setIfInBounds_toArray, List.set_cons_zero, List.set_cons_succ, d0] <;> rfl, h0, h1, h2, h3, h4, h5, h6, h7, h8, h9, fun _ h => Bool.noConfusion h, fun h => Bool.noConfusion h, fun h => Bool.noConfusion h, fun _ => Lib.hid (⟨⟨(own_below (hF hap).out.2.2.2 hg2 (hB hap).out.1 (by have := NB.out; omega) (hB hap).out.2), own_blk (hF hap).out.2.2.2 hg2 (hF hap).out.1.2.1 (by have := NB.out; omega), own_blk (hF hap).out.2.2.2 hg2 (hF hap).out.1.2.2 (by have := NB.out; omega)⟩, own_blk (hF hap).out.2.2.2 hg2 (hF hap).out.2.1 (by have := NB.out; omega), Nat.le_trans (hF hap).out.2.2.1 hg2.size, by rw [HDF.out]; exact ho2⟩), hE10_9, hE9_4, hE4_3, hE9_8, hE8_7, fun _ => hall ⟨0, .data⟩ (by simp) rfl, fun _ => hE4_3 (hE9_4 (hE10_9 (hall ⟨10, .data⟩ (by simp) rfl))), fun _ => hE8_7 (hE9_8 (hE10_9 (hall ⟨10, .data⟩ (by simp) rfl))), fun _ => hall ⟨10, .data⟩ (by simp) rfl, fun hq => absurd (hA hq).1 (by rw [hun]; decide), hR, hZ0⟩
          · obtain rfl := Option.some.inj hi
            clear hi hil
            have gB := hG (hall ⟨11, .data⟩ (by simp) rfl)
            refine wpOp_step rfl (fun K hK => ?_)
            have HKK := Lib.hid hK; clear hK
            simp only [putAll, Act.put, List.setIfInBounds_toArray, List.set_cons_zero, List.set_cons_succ]
            go_simp
            exact HKK.out _ _ ⟨_, by simp only [putAll, Act.put, List.setIfInBounds_toArray, List.set_cons_zero, List.set_cons_succ] <;> rfl, h0, h1, h2, h3, h4, h5, h6, h7, h8, h9, y10, hB, hF, hG, hE10_9, hE9_4, hE4_3, hE9_8, hE8_7, hW0, hW3, hW7, hW10, fun _ => ⟨hall ⟨11, .data⟩ (by simp) rfl, rfl⟩, fun h => Bool.noConfusion h, fun _ => hW0 (hall ⟨11, .data⟩ (by simp) rfl)⟩
          · omega
        · rintro b' vs w2 hall ⟨h0, h1, h2, h3, h4, h5, h6, h7, h8, h9, y10, hB, hF, hG, hE10_9, hE9_4, hE4_3, hE9_8, hE8_7, hW0, hW3, hW7, hW10, hA, hR, hZ0⟩
          have d0 := h0 (hall 0 (by simp))
          have d1 := h1 (hall 1 (by simp))
          have d2 := h2 (hall 2 (by simp))
          have d3 := h3 (hall 3 (by simp))
          have d4 := h4 (hall 4 (by simp))
          have d5 := h5 (hall 5 (by simp))
          have d6 := h6 (hall 6 (by simp))
          have d7 := h7 (hall 7 (by simp))
          have d8 := h8 (hall 8 (by simp))
          have d9 := h9 (hall 9 (by simp))
          have GG := hG (hall 11 (by simp))
          have dA := (hA (hall 12 (by simp))).2
          simp only [putAll, Act.put, List.setIfInBounds_toArray, List.set_cons_zero, List.set_cons_succ, d0, d1, d2, d3, d4, d5, d6, d7, d8, d9, dA]
          clear hall h0 d0 h1 d1 h2 d2 h3 d3 h4 d4 h5 d5 h6 d6 h7 d7 h8 d8 h9 d9 y10 hB hF hG hE10_9 hE9_4 hE4_3 hE9_8 hE8_7 hW0 hW3 hW7 hW10 hA dA hR hZ0
          generalize vs 11 = va at *
          have hk1 := HKL.out
          have hn4 := HN.out
          go_wp2_with fail
          exact ⟨⟨k + 1, by omega, by go_num, GG.out⟩, by simp [intOf]; omega⟩
      · rw [he] at EQ8
        have HDF : Hid (diffP W l ol (k + 1) = diffP W l ol k) := by
          rw [HDF0.out, he]; exact List.append_nil _
        clear he HDF0
        go_upto_region 10 with fail
        refine wp_region_quiet (C := Out wr) (by kernel_rfl) (by kernel_rfl) ⟨rfl, rfl, rfl, Nat.le_refl _, fun _ _ => rfl⟩ ?_
        refine BigFrame.wpQuiet_want rfl (fun K hK => ?_)
        refine quiet_val (.pointer (some ⟨w.heap.size, 2, none⟩)) (fun w' hw' => by go_simp) (hK _ ?_)
        clear hK K
        simp only [Act.put, List.setIfInBounds_toArray, List.set_cons_zero, List.set_cons_succ]
        refine BigFrame.wpQuiet_want rfl (fun K hK => ?_)
        refine quiet_val (.slice (some ⟨rb, ro, none⟩) n cp) (fun w' hw' => by obtain ⟨m0, m1, m2⟩ := Blk.im3 (HA9.out w' hw').1.2.1; go_simp) (hK _ ?_)
        clear hK K
        simp only [Act.put, List.setIfInBounds_toArray, List.set_cons_zero, List.set_cons_succ]
        refine BigFrame.wpQuiet_want rfl (fun K hK => ?_)
        refine quiet_val (.int .i64 (k : Int)) (fun w' hw' => by go_simp) (hK _ ?_)
        clear hK K
        simp only [Act.put, List.setIfInBounds_toArray, List.set_cons_zero, List.set_cons_succ]
        refine BigFrame.wpQuiet_want rfl (fun K hK => ?_)
        refine quiet_val (.pointer (some ⟨rb, ro + k * 4, none⟩)) (fun w' hw' => by go_simp) (hK _ ?_)
        clear hK K
        simp only [Act.put, List.setIfInBounds_toArray, List.set_cons_zero, List.set_cons_succ]
        refine BigFrame.wpQuiet_want rfl (fun K hK => ?_)
        refine quiet_val (.agg #[.int .u8 (x 0), .int .u8 (x 1), .int .u8 (x 2), .int .u8 (x 3)]) (fun w' hw' => by obtain ⟨c0, c1, c2, c3⟩ := HXA.out w' hw'; go_simp) (hK _ ?_)
        clear hK K
        simp only [Act.put, List.setIfInBounds_toArray, List.set_cons_zero, List.set_cons_succ]
        refine BigFrame.wpQuiet_want rfl (fun K hK => ?_)
        refine quiet_val (.pointer (some ⟨w.heap.size + 1, 2, none⟩)) (fun w' hw' => by go_simp) (hK _ ?_)
        clear hK K
        simp only [Act.put, List.setIfInBounds_toArray, List.set_cons_zero, List.set_cons_succ]
        refine BigFrame.wpQuiet_want rfl (fun K hK => ?_)
        refine quiet_val (.slice (some ⟨qb, qo, none⟩) n bc) (fun w' hw' => by obtain ⟨m0, m1, m2⟩ := Blk.im3 (HA9.out w' hw').1.2.2; go_simp) (hK _ ?_)
        clear hK K
        simp only [Act.put, List.setIfInBounds_toArray, List.set_cons_zero, List.set_cons_succ]
        refine BigFrame.wpQuiet_want rfl (fun K hK => ?_)
        refine quiet_val (.int .i64 (k : Int)) (fun w' hw' => by go_simp) (hK _ ?_)
        clear hK K
        simp only [Act.put, List.setIfInBounds_toArray, List.set_cons_zero, List.set_cons_succ]
        refine BigFrame.wpQuiet_want rfl (fun K hK => ?_)
        refine quiet_val (.pointer (some ⟨qb, qo + k * 4, none⟩)) (fun w' hw' => by go_simp) (hK _ ?_)
        clear hK K
        simp only [Act.put, List.setIfInBounds_toArray, List.set_cons_zero, List.set_cons_succ]
        refine BigFrame.wpQuiet_want rfl (fun K hK => ?_)
        refine quiet_val (.agg #[.int .u8 (y 0), .int .u8 (y 1), .int .u8 (y 2), .int .u8 (y 3)]) (fun w' hw' => by obtain ⟨c0, c1, c2, c3⟩ := HXB.out w' hw'; go_simp) (hK _ ?_)
        clear hK K
        simp only [Act.put, List.setIfInBounds_toArray, List.set_cons_zero, List.set_cons_succ]
        refine BigFrame.wpQuiet_want rfl (fun K hK => ?_)
        refine quiet_val (.bool false) (fun w' hw' => by go_simp) (hK _ ?_)
        clear hK K
        simp only [Act.put, List.setIfInBounds_toArray, List.set_cons_zero, List.set_cons_succ]
        refine wpQuiet_nil ?_
        intro w9 hb
        have M9 : Hid (DifM w W H W H (.slice (some ⟨rb, ro, none⟩) n cp) (.slice (some ⟨qb, qo, none⟩) n bc) w9 ∧ Blk w9 g5 26 (fourB bb) ∧ N ≤ w9.heap.size ∧ Own w9 N 52 u7 (diffP W l ol (k + 1))) := ⟨hw.out.1.grow hb, hw.out.2.1.grow hb, Nat.le_trans hw.out.2.2.1 hb.size, by rw [HDF.out]; exact hw.out.2.2.2.grow hb⟩
        clear hb HA9 HXA HXB EQ8
        have hn5 := HN.out
        go_wp2_with fail
        exact ⟨⟨k + 1, by omega, by go_num, M9.out⟩, by simp [intOf]; omega⟩
    · have hd : decide ((k : Int) < (n : Int)) = false := by simp; omega
      have hkn : n = k := by omega
      subst hkn
      obtain ⟨wa, rfl⟩ : ∃ x, x = wr := ⟨_, rfl⟩
      have hpt := Own.row hw.out.2.2.2
      obtain ⟨la, lc, rfl⟩ := Row.shapeP hpt
      obtain ⟨ln, hln⟩ : ∃ m, (diffP W l ol n).length = m := ⟨_, rfl⟩
      rw [hln] at hpt hw ⊢
      have HP := Lib.hid hpt
      obtain ⟨q, hq⟩ : ∃ q, decide (ln = 0) = q := ⟨_, rfl⟩
      have hq2 : ((ln : Int) == 0) = q := by rw [← hq, Bool.eq_iff_iff]; simp
      have hq3 : decide ((ln : Int) = 0) = q := by rw [← hq, Bool.eq_iff_iff]; simp
      have HEQ2 : Hid (∀ A, Below w.heap.size w A → Calls Try.prog 28 #[.agg #[.int .i64 W, .int .i64 H, .slice (some ⟨rb, ro, none⟩) n cp], .agg #[.int .i64 W, .int .i64 H, .slice (some ⟨qb, qo, none⟩) n bc]] A fun e w' => e = .returned (.bool q) ∧ Below A.heap.size A w') := fun A hA => by
        have h := HEQ.out A hA
        rw [hln, hq] at h
        exact h
      obtain ⟨z, hz⟩ : ∃ z, cAt l 0 = z := ⟨_, rfl⟩
      rw [hz] at HCO
      have HZ : Hid (cAt l 0 = z) := hz
      have W0 : Hid (DifM w W H W H (.slice (some ⟨rb, ro, none⟩) n cp) (.slice (some ⟨qb, qo, none⟩) n bc) wa ∧ Blk wa g5 26 (fourB bb) ∧ Below wa.heap.size wa wa) := ⟨hw.out.1, hw.out.2.1, Below.refl _ _⟩
      clear hpt hln hz hw hk hlt hd hn4
      have hn4 := HN.out.2.2
      obtain ⟨m0, m1, m2⟩ := Blk.im3 W0.out.1.2.1
      go_wp2_with fail
      clear m0 m1 m2
      go_loopw [9, 94] (fun s9 i wr => ∃ k c : Nat, k ≤ n ∧ c = cntTo l z k ∧ c ≤ k ∧ i = .int .i64 (k : Int) ∧ s9 = .int .i64 (c : Int) ∧ Hid (DifM w W H W H (.slice (some ⟨rb, ro, none⟩) n cp) (.slice (some ⟨qb, qo, none⟩) n bc) wr ∧ Blk wr g5 26 (fourB bb) ∧ Below wa.heap.size wa wr)) (fun _ i _ => n - (intOf i).toNat)
      case atStart => exact ⟨0, 0, by omega, rfl, by omega, rfl, rfl, W0.out⟩
      case round =>
        obtain ⟨k, c, hk, hc, hck, rfl, rfl, hv⟩ := hrel
        by_cases hlt : k < n
        · have hd : decide ((k : Int) < (n : Int)) = true := by simp; omega
          obtain ⟨x, hx⟩ : ∃ x, cAt l k = x := ⟨_, rfl⟩
          have hki : (k : Int) < (n : Int) := by omega
          have hk0 : (0 : Int) < (n : Int) := by omega
          have hn5 := HN.out
          obtain ⟨c0, c1, c2, c3⟩ := (HRC.out.2 k x (by rw [← hx]; exact cAt_some (by omega))).on hv.out.1.1 HRC.out.1
          have EQ8 := equal8 x z
          have HCT : Hid (cntTo l z (k + 1) = cntTo l z k + (if eqC x z then 1 else 0)) := by rw [← hx]; rfl
          clear hx
          go_upto_region 17 with fail
          obtain ⟨w2, hw2⟩ : ∃ WW, wr.alloc (.cells #[.int .u8 (x 0), .int .u8 (x 1), .int .u8 (x 2), .int .u8 (x 3)] 28) = WW := ⟨_, rfl⟩
          have HA9 : Hid (∀ A, Below w2.heap.size w2 A → DifM w W H W H (.slice (some ⟨rb, ro, none⟩) n cp) (.slice (some ⟨qb, qo, none⟩) n bc) A ∧ Blk A g5 26 (fourB bb) ∧ Below wa.heap.size wa A) := fun A hA => by
            rw [← hw2] at hA
            have h1 : Below wr.heap.size wr A := ((Below.refl _ _).alloc (Nat.le_refl _) _).trans (hA.mono (by simp))
            exact ⟨hv.out.1.grow h1, hv.out.2.1.grow h1, hv.out.2.2.trans (h1.mono hv.out.2.2.size)⟩
          have HX9 : Hid (∀ A, Below w2.heap.size w2 A → Blk A wr.heap.size 28 (c8 x)) := fun A hA => by
            rw [← hw2] at hA
            exact (Blk.new _ _ _).grow hA
          have HZ9 : Hid (∀ A, Below w2.heap.size w2 A → ColAt .u8 A rb ro z) := fun A hA => by
            have h := (HRC.out.2 0 z (by rw [← HZ.out]; exact cAt_some (by omega))).on (HA9.out A hA).1.1 HRC.out.1
            rw [Nat.zero_mul, Nat.add_zero] at h
            exact h
          rw [hw2]
          clear hw2 c0 c1 c2 c3
          generalize wr.heap.size = g11 at *
          cases he : eqC x z
          · rw [he] at EQ8
            have HCT2 : Hid (cntTo l z (k + 1) = cntTo l z k) := by
              rw [HCT.out, he]; rfl
            clear he HCT
            refine wp_region_quiet (C := Out w2) (by kernel_rfl) (by kernel_rfl) ⟨rfl, rfl, rfl, Nat.le_refl _, fun _ _ => rfl⟩ ?_
            refine BigFrame.wpQuiet_want rfl (fun K hK => ?_)
            refine quiet_val (.agg #[.int .u8 (x 0), .int .u8 (x 1), .int .u8 (x 2), .int .u8 (x 3)]) (fun w' hw' => by obtain ⟨c0, c1, c2, c3⟩ := Blk.c8 (HX9.out w' hw'); go_simp) (hK _ ?_)
            clear hK K
            simp only [Act.put, List.setIfInBounds_toArray, List.set_cons_zero, List.set_cons_succ]
            refine BigFrame.wpQuiet_want rfl (fun K hK => ?_)
            refine quiet_val (.pointer (some ⟨w.heap.size, 2, none⟩)) (fun w' hw' => by go_simp) (hK _ ?_)
            clear hK K
            simp only [Act.put, List.setIfInBounds_toArray, List.set_cons_zero, List.set_cons_succ]
            refine BigFrame.wpQuiet_want rfl (fun K hK => ?_)
            refine quiet_val (.slice (some ⟨rb, ro, none⟩) n cp) (fun w' hw' => by obtain ⟨m0, m1, m2⟩ := Blk.im3 (HA9.out w' hw').1.2.1; go_simp) (hK _ ?_)
            clear hK K
            simp only [Act.put, List.setIfInBounds_toArray, List.set_cons_zero, List.set_cons_succ]
            refine BigFrame.wpQuiet_want rfl (fun K hK => ?_)
            refine quiet_val (.pointer (some ⟨rb, ro, none⟩)) (fun w' hw' => by go_simp) (hK _ ?_)
            clear hK K
            simp only [Act.put, List.setIfInBounds_toArray, List.set_cons_zero, List.set_cons_succ]
            refine BigFrame.wpQuiet_want rfl (fun K hK => ?_)
            refine quiet_val (.agg #[.int .u8 (z 0), .int .u8 (z 1), .int .u8 (z 2), .int .u8 (z 3)]) (fun w' hw' => by obtain ⟨c0, c1, c2, c3⟩ := HZ9.out w' hw'; go_simp) (hK _ ?_)
            clear hK K
            simp only [Act.put, List.setIfInBounds_toArray, List.set_cons_zero, List.set_cons_succ]
            refine BigFrame.wpQuiet_want rfl (fun K hK => ?_)
            refine quiet_val (.bool false) (fun w' hw' => by go_simp) (hK _ ?_)
            clear hK K
            simp only [Act.put, List.setIfInBounds_toArray, List.set_cons_zero, List.set_cons_succ]
            refine wpQuiet_nil ?_
            intro w9 hb
            have M9 := Lib.hid (HA9.out w9 hb)
            clear hb HA9 HX9 HZ9 EQ8
            go_wp2_with fail
            exact ⟨⟨k + 1, c, by omega, by rw [HCT2.out]; exact hc, by omega, by go_num, rfl, M9.out⟩, by simp [intOf]; omega⟩
          · rw [he] at EQ8
            have HCT2 : Hid (cntTo l z (k + 1) = cntTo l z k + 1) := by
              rw [HCT.out, he]; rfl
            clear he HCT
            refine wp_region_quiet (C := Out w2) (by kernel_rfl) (by kernel_rfl) ⟨rfl, rfl, rfl, Nat.le_refl _, fun _ _ => rfl⟩ ?_
            refine BigFrame.wpQuiet_want rfl (fun K hK => ?_)
            refine quiet_val (.agg #[.int .u8 (x 0), .int .u8 (x 1), .int .u8 (x 2), .int .u8 (x 3)]) (fun w' hw' => by obtain ⟨c0, c1, c2, c3⟩ := Blk.c8 (HX9.out w' hw'); go_simp) (hK _ ?_)
            clear hK K
            simp only [Act.put, List.setIfInBounds_toArray, List.set_cons_zero, List.set_cons_succ]
            refine BigFrame.wpQuiet_want rfl (fun K hK => ?_)
            refine quiet_val (.pointer (some ⟨w.heap.size, 2, none⟩)) (fun w' hw' => by go_simp) (hK _ ?_)
            clear hK K
            simp only [Act.put, List.setIfInBounds_toArray, List.set_cons_zero, List.set_cons_succ]
            refine BigFrame.wpQuiet_want rfl (fun K hK => ?_)
            refine quiet_val (.slice (some ⟨rb, ro, none⟩) n cp) (fun w' hw' => by obtain ⟨m0, m1, m2⟩ := Blk.im3 (HA9.out w' hw').1.2.1; go_simp) (hK _ ?_)
            clear hK K
            simp only [Act.put, List.setIfInBounds_toArray, List.set_cons_zero, List.set_cons_succ]
            refine BigFrame.wpQuiet_want rfl (fun K hK => ?_)
            refine quiet_val (.pointer (some ⟨rb, ro, none⟩)) (fun w' hw' => by go_simp) (hK _ ?_)
            clear hK K
            simp only [Act.put, List.setIfInBounds_toArray, List.set_cons_zero, List.set_cons_succ]
            refine BigFrame.wpQuiet_want rfl (fun K hK => ?_)
            refine quiet_val (.agg #[.int .u8 (z 0), .int .u8 (z 1), .int .u8 (z 2), .int .u8 (z 3)]) (fun w' hw' => by obtain ⟨c0, c1, c2, c3⟩ := HZ9.out w' hw'; go_simp) (hK _ ?_)
            clear hK K
            simp only [Act.put, List.setIfInBounds_toArray, List.set_cons_zero, List.set_cons_succ]
            refine BigFrame.wpQuiet_want rfl (fun K hK => ?_)
            refine quiet_val (.bool true) (fun w' hw' => by go_simp) (hK _ ?_)
            clear hK K
            simp only [Act.put, List.setIfInBounds_toArray, List.set_cons_zero, List.set_cons_succ]
            refine wpQuiet_nil ?_
            intro w9 hb
            have M9 := Lib.hid (HA9.out w9 hb)
            clear hb HA9 HX9 HZ9 EQ8
            go_wp2_with fail
            exact ⟨⟨k + 1, c + 1, by omega, by rw [HCT2.out, ← hc], by omega, by go_num, by go_num, M9.out⟩, by simp [intOf]; omega⟩
        · have hd : decide ((k : Int) < (n : Int)) = false := by simp; omega
          have hkn : n = k := by omega
          subst hkn
          have HA9 : Hid (∀ A, Below wr.heap.size wr A → DifM w W H W H (.slice (some ⟨rb, ro, none⟩) n cp) (.slice (some ⟨qb, qo, none⟩) n bc) A ∧ Blk A g5 26 (fourB bb) ∧ Below wa.heap.size wa A) := fun A hA => ⟨hv.out.1.grow hA, hv.out.2.1.grow hA, hv.out.2.2.trans (hA.mono hv.out.2.2.size)⟩
          have HPT : Hid (∀ A, Below wr.heap.size wr A → Row A (.slice la ln lc) (diffP W l ol n)) := fun A hA => HP.out.on (HA9.out A hA).2.2
          have HCO2 : Hid (∀ A, Below w.heap.size w A → Calls Try.prog 31 #[.agg #[.int .i64 W, .int .i64 H, .slice (some ⟨rb, ro, none⟩) n cp], .agg #[.int .u8 (z 0), .int .u8 (z 1), .int .u8 (z 2), .int .u8 (z 3)]] A fun e w' => e = .returned (.int .i64 (c : Int)) ∧ Below A.heap.size A w') := fun A hA => by
            have h := HCO.out A hA
            rw [← hc] at h
            exact h
          have HZ9 : Hid (∀ A, Below wr.heap.size wr A → ColAt .u8 A rb ro z) := fun A hA => by
            have h := (HRC.out.2 0 z (by rw [← HZ.out]; exact cAt_some (by have := HN.out; omega))).on (HA9.out A hA).1.1 HRC.out.1
            rw [Nat.zero_mul, Nat.add_zero] at h
            exact h
          have hk0 : (0 : Int) < (n : Int) := by have := HN.out; omega
          clear hc hck HCO HEQ
          go_upto_region 20 with fail
          refine wp_region_quiet (C := Out wr) (by kernel_rfl) (by kernel_rfl) ⟨rfl, rfl, rfl, Nat.le_refl _, fun _ _ => rfl⟩ ?_
          refine BigFrame.wpQuiet_want rfl (fun K hK => ?_)
          refine quiet_val (.int .i64 0) (fun w' hw' => by go_simp) (hK _ ?_)
          clear hK K
          simp only [Act.put, List.setIfInBounds_toArray, List.set_cons_zero, List.set_cons_succ]
          refine BigFrame.wpQuiet_want rfl (fun K hK => ?_)
          refine quiet_val (.bool true) (fun w' hw' => by go_simp) (hK _ ?_)
          clear hK K
          simp only [Act.put, List.setIfInBounds_toArray, List.set_cons_zero, List.set_cons_succ]
          refine BigFrame.wpQuiet_want rfl (fun K hK => ?_)
          refine quiet_val (.bool true) (fun w' hw' => by go_simp) (hK _ ?_)
          clear hK K
          simp only [Act.put, List.setIfInBounds_toArray, List.set_cons_zero, List.set_cons_succ]
          refine BigFrame.wpQuiet_want rfl (fun K hK => ?_)
          refine quiet_val (.agg #[.int .i64 bb.x0, .int .i64 bb.y0, .int .i64 bb.x1, .int .i64 bb.y1]) (fun w' hw' => by have b0 := Blk.b0 (HA9.out w' hw').2.1; have b1 := Blk.b1 (HA9.out w' hw').2.1; have b2 := Blk.b2 (HA9.out w' hw').2.1; have b3 := Blk.b3 (HA9.out w' hw').2.1; go_simp) (hK _ ?_)
          clear hK K
          simp only [Act.put, List.setIfInBounds_toArray, List.set_cons_zero, List.set_cons_succ]
          refine BigFrame.wpQuiet_want rfl (fun K hK => ?_)
          refine quiet_val (.slice la ln lc) (fun w' hw' => by go_simp) (hK _ ?_)
          clear hK K
          simp only [Act.put, List.setIfInBounds_toArray, List.set_cons_zero, List.set_cons_succ]
          refine BigFrame.wpQuiet_want rfl (fun K hK => ?_)
          refine quiet_call 30 #[.slice la ln lc] (.agg #[.int .i64 bb.x0, .int .i64 bb.y0, .int .i64 bb.x1, .int .i64 bb.y1]) (fun w' _ => by go_simp) (fun w' hw' => Calls.out hw' (HBD.out w' _ (HPT.out w' hw'))) (hK _ ?_)
          clear hK K
          simp only [Act.put, List.setIfInBounds_toArray, List.set_cons_zero, List.set_cons_succ]
          refine BigFrame.wpQuiet_want rfl (fun K hK => ?_)
          refine quiet_val (.bool true) (fun w' hw' => by go_simp) (hK _ ?_)
          clear hK K
          simp only [Act.put, List.setIfInBounds_toArray, List.set_cons_zero, List.set_cons_succ]
          refine BigFrame.wpQuiet_want rfl (fun K hK => ?_)
          refine quiet_val (.bool true) (fun w' hw' => by go_simp) (hK _ ?_)
          clear hK K
          simp only [Act.put, List.setIfInBounds_toArray, List.set_cons_zero, List.set_cons_succ]
          refine BigFrame.wpQuiet_want rfl (fun K hK => ?_)
          refine quiet_val (.bool true) (fun w' hw' => by go_simp) (hK _ ?_)
          clear hK K
          simp only [Act.put, List.setIfInBounds_toArray, List.set_cons_zero, List.set_cons_succ]
          refine BigFrame.wpQuiet_want rfl (fun K hK => ?_)
          refine quiet_val (.agg #[.int .i64 W, .int .i64 H, .slice (some ⟨rb, ro, none⟩) n cp]) (fun w' hw' => by obtain ⟨m0, m1, m2⟩ := Blk.im3 (HA9.out w' hw').1.2.1; go_simp) (hK _ ?_)
          clear hK K
          simp only [Act.put, List.setIfInBounds_toArray, List.set_cons_zero, List.set_cons_succ]
          refine BigFrame.wpQuiet_want rfl (fun K hK => ?_)
          refine quiet_val (.agg #[.int .i64 W, .int .i64 H, .slice (some ⟨qb, qo, none⟩) n bc]) (fun w' hw' => by obtain ⟨m0, m1, m2⟩ := Blk.im3 (HA9.out w' hw').1.2.2; go_simp) (hK _ ?_)
          clear hK K
          simp only [Act.put, List.setIfInBounds_toArray, List.set_cons_zero, List.set_cons_succ]
          refine BigFrame.wpQuiet_want rfl (fun K hK => ?_)
          refine quiet_call 28 #[.agg #[.int .i64 W, .int .i64 H, .slice (some ⟨rb, ro, none⟩) n cp], .agg #[.int .i64 W, .int .i64 H, .slice (some ⟨qb, qo, none⟩) n bc]] (.bool q) (fun w' _ => by go_simp) (fun w' hw' => Calls.out hw' (HEQ2.out w' (HA9.out w' hw').1.1)) (hK _ ?_)
          clear hK K
          simp only [Act.put, List.setIfInBounds_toArray, List.set_cons_zero, List.set_cons_succ]
          refine BigFrame.wpQuiet_want rfl (fun K hK => ?_)
          refine quiet_val (.slice la ln lc) (fun w' hw' => by go_simp) (hK _ ?_)
          clear hK K
          simp only [Act.put, List.setIfInBounds_toArray, List.set_cons_zero, List.set_cons_succ]
          refine BigFrame.wpQuiet_want rfl (fun K hK => ?_)
          refine quiet_val (.int .i64 (ln : Int)) (fun w' hw' => by go_simp) (hK _ ?_)
          clear hK K
          simp only [Act.put, List.setIfInBounds_toArray, List.set_cons_zero, List.set_cons_succ]
          refine BigFrame.wpQuiet_want rfl (fun K hK => ?_)
          refine quiet_val (.bool q) (fun w' hw' => by go_simp) (hK _ ?_)
          clear hK K
          simp only [Act.put, List.setIfInBounds_toArray, List.set_cons_zero, List.set_cons_succ]
          refine BigFrame.wpQuiet_want rfl (fun K hK => ?_)
          refine quiet_val (.bool true) (fun w' hw' => by go_simp) (hK _ ?_)
          clear hK K
          simp only [Act.put, List.setIfInBounds_toArray, List.set_cons_zero, List.set_cons_succ]
          refine BigFrame.wpQuiet_want rfl (fun K hK => ?_)
          refine quiet_val (.bool true) (fun w' hw' => by go_simp) (hK _ ?_)
          clear hK K
          simp only [Act.put, List.setIfInBounds_toArray, List.set_cons_zero, List.set_cons_succ]
          refine BigFrame.wpQuiet_want rfl (fun K hK => ?_)
          refine quiet_val (.bool true) (fun w' hw' => by go_simp) (hK _ ?_)
          clear hK K
          simp only [Act.put, List.setIfInBounds_toArray, List.set_cons_zero, List.set_cons_succ]
          refine BigFrame.wpQuiet_want rfl (fun K hK => ?_)
          refine quiet_val (.agg #[.int .i64 W, .int .i64 H, .slice (some ⟨rb, ro, none⟩) n cp]) (fun w' hw' => by obtain ⟨m0, m1, m2⟩ := Blk.im3 (HA9.out w' hw').1.2.1; go_simp) (hK _ ?_)
          clear hK K
          simp only [Act.put, List.setIfInBounds_toArray, List.set_cons_zero, List.set_cons_succ]
          refine BigFrame.wpQuiet_want rfl (fun K hK => ?_)
          refine quiet_val (.pointer (some ⟨w.heap.size, 2, none⟩)) (fun w' hw' => by go_simp) (hK _ ?_)
          clear hK K
          simp only [Act.put, List.setIfInBounds_toArray, List.set_cons_zero, List.set_cons_succ]
          refine BigFrame.wpQuiet_want rfl (fun K hK => ?_)
          refine quiet_val (.slice (some ⟨rb, ro, none⟩) n cp) (fun w' hw' => by obtain ⟨m0, m1, m2⟩ := Blk.im3 (HA9.out w' hw').1.2.1; go_simp) (hK _ ?_)
          clear hK K
          simp only [Act.put, List.setIfInBounds_toArray, List.set_cons_zero, List.set_cons_succ]
          refine BigFrame.wpQuiet_want rfl (fun K hK => ?_)
          refine quiet_val (.pointer (some ⟨rb, ro, none⟩)) (fun w' hw' => by go_simp) (hK _ ?_)
          clear hK K
          simp only [Act.put, List.setIfInBounds_toArray, List.set_cons_zero, List.set_cons_succ]
          refine BigFrame.wpQuiet_want rfl (fun K hK => ?_)
          refine quiet_val (.agg #[.int .u8 (z 0), .int .u8 (z 1), .int .u8 (z 2), .int .u8 (z 3)]) (fun w' hw' => by obtain ⟨c0, c1, c2, c3⟩ := HZ9.out w' hw'; go_simp) (hK _ ?_)
          clear hK K
          simp only [Act.put, List.setIfInBounds_toArray, List.set_cons_zero, List.set_cons_succ]
          refine BigFrame.wpQuiet_want rfl (fun K hK => ?_)
          refine quiet_call 31 #[.agg #[.int .i64 W, .int .i64 H, .slice (some ⟨rb, ro, none⟩) n cp], .agg #[.int .u8 (z 0), .int .u8 (z 1), .int .u8 (z 2), .int .u8 (z 3)]] (.int .i64 (c : Int)) (fun w' _ => by go_simp) (fun w' hw' => Calls.out hw' (HCO2.out w' (HA9.out w' hw').1.1)) (hK _ ?_)
          clear hK K
          simp only [Act.put, List.setIfInBounds_toArray, List.set_cons_zero, List.set_cons_succ]
          refine BigFrame.wpQuiet_want rfl (fun K hK => ?_)
          refine quiet_val (.int .i64 (c : Int)) (fun w' hw' => by go_simp) (hK _ ?_)
          clear hK K
          simp only [Act.put, List.setIfInBounds_toArray, List.set_cons_zero, List.set_cons_succ]
          refine BigFrame.wpQuiet_want rfl (fun K hK => ?_)
          refine quiet_val (.bool true) (fun w' hw' => by go_simp) (hK _ ?_)
          clear hK K
          simp only [Act.put, List.setIfInBounds_toArray, List.set_cons_zero, List.set_cons_succ]
          refine BigFrame.wpQuiet_want rfl (fun K hK => ?_)
          refine quiet_val (.bool true) (fun w' hw' => by go_simp) (hK _ ?_)
          clear hK K
          simp only [Act.put, List.setIfInBounds_toArray, List.set_cons_zero, List.set_cons_succ]
          refine BigFrame.wpQuiet_want rfl (fun K hK => ?_)
          refine quiet_val (.bool true) (fun w' hw' => by go_simp) (hK _ ?_)
          clear hK K
          simp only [Act.put, List.setIfInBounds_toArray, List.set_cons_zero, List.set_cons_succ]
          refine BigFrame.wpQuiet_want rfl (fun K hK => ?_)
          refine quiet_call 10 #[] (.bool true) (fun w' _ => by go_simp) (fun w' hw' => Calls.out hw' (HAW.out w')) (hK _ ?_)
          clear hK K
          simp only [Act.put, List.setIfInBounds_toArray, List.set_cons_zero, List.set_cons_succ]
          refine BigFrame.wpQuiet_want rfl (fun K hK => ?_)
          refine quiet_val (.bool true) (fun w' hw' => by go_simp) (hK _ ?_)
          clear hK K
          simp only [Act.put, List.setIfInBounds_toArray, List.set_cons_zero, List.set_cons_succ]
          refine BigFrame.wpQuiet_want rfl (fun K hK => ?_)
          refine quiet_val (.bool true) (fun w' hw' => by go_simp) (hK _ ?_)
          clear hK K
          simp only [Act.put, List.setIfInBounds_toArray, List.set_cons_zero, List.set_cons_succ]
          refine wpQuiet_nil ?_
          intro w9 hb
          have M9 := Lib.hid (HA9.out w9 hb)
          clear hb HA9 HPT
          go_wp2_with fail
          go_ret
          exact ⟨rfl, M9.out.1.1⟩
theorem imageDiffs_law (AW : AwakeOk) (DI : DiffOk) (CO : CountOk) (EQ : EqualOk) (W H oW oH : Int) (s so : Value) (l ol : List Col) (w : World) (row : RowK .u8 w s l) (rov : RowK .u8 w so ol) (hok : ∀ c ∈ l, OkC c) (hoko : ∀ c ∈ ol, OkC c) : Calls Try.prog 8 #[.agg #[.int .i64 W, .int .i64 H, s], .agg #[.int .i64 oW, .int .i64 oH, so]] w fun e w' => e = .returned (.bool true) ∧ Below w.heap.size w w' := by
  by_cases h1 : 400 < l.length
  · exact imageDiffs_b1 AW W H oW oH s so l ol w row rov h1
  by_cases h2 : 400 < ol.length
  · exact imageDiffs_b2 AW W H oW oH s so l ol w row rov (by omega) h2
  have h3 : l.length ≤ 400 := by omega
  have h4 : ol.length ≤ 400 := by omega
  cases hr : rightIm W H l with
  | false => exact imageDiffs_n1 AW DI W H oW oH s so l ol w row rov hok hoko h3 h4 hr
  | true =>
    cases hq : rightIm oW oH ol with
    | false => exact imageDiffs_n2 AW DI W H oW oH s so l ol w row rov hok hoko h3 h4 hr hq
    | true =>
      by_cases hw : W = oW
      · subst hw
        by_cases hh : H = oH
        · subst hh
          exact imageDiffs_y AW DI CO EQ W H s so l ol w row rov hok hoko h3 h4 hr hq
        · exact imageDiffs_n4 AW DI W H oH s so l ol w row rov hok hoko h3 h4 hr hq hh
      · exact imageDiffs_n3 AW DI W H oW oH s so l ol w row rov hok hoko h3 h4 hr hq hw
end Go.Proofs.Ytoppmlfibllhlaa

