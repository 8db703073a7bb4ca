/- Layer 11: the law ImageCrops. -/
import Derived.Test.YtoppmlfibllhlaaKd
import Derived.BigQuiet
import Derived.Deep.CutRange
namespace Go.Proofs.Ytoppmlfibllhlaa
open Go.RowKit
set_option maxHeartbeats 8000000 in
set_option maxRecDepth 100000 in
theorem imageCrops_good (AW : AwakeOk) (CK : CheckOk) (AT : AtOk) (BX : BoxOk) (CR : CropOk) (W H x0 y0 x1 y1 px py : Int) (s : Value) (l : List Col) (w : World) (row : RowK .u8 w s l) (hcs : Hid (CapS s)) (hok : ∀ c ∈ l, OkC c) (h : l.length ≤ 400) (hr : rightIm W H l = true) (hcb : cropB W H x0 y0 x1 y1 = false) : Calls Try.prog 5 #[.agg #[.int .i64 W, .int .i64 H, s], .agg #[.int .i64 x0, .int .i64 y0, .int .i64 x1, .int .i64 y1], .agg #[.int .i64 px, .int .i64 py]] w fun e w' => e = .returned (.bool true) ∧ Below w.heap.size w w' := by
  have HAW := Lib.hid AW
  have HRF : Hid (∀ A, Below w.heap.size w A → Calls Try.prog 11 #[.agg #[.int .i64 W, .int .i64 H, s]] A fun e w' => ∃ u, e = .returned (.agg #[.int .i64 W, .int .i64 H, u]) ∧ OwnK .i64 w' A.heap.size 43 u l ∧ Below A.heap.size A w') := fun A hA => lawRef_c W H _ l A (row.on hA) hok (by omega)
  have HRT : Hid (∀ A u, RowK .i64 A u l → Calls Try.prog 13 #[.agg #[.int .i64 W, .int .i64 H, u]] A fun e w' => e = .returned (.bool true) ∧ Below A.heap.size A w') := fun A u hu => by
    have h2 := ref11Right_c W H u l A hu
    rw [hr] at h2
    exact h2
  have HCR : Hid (∀ A, Below w.heap.size w A → Calls Try.prog 22 #[.agg #[.int .i64 W, .int .i64 H, s], .agg #[.int .i64 x0, .int .i64 y0, .int .i64 x1, .int .i64 y1]] A fun e w' => ToldIm A (x1 - x0) (y1 - y0) (cropL W x0 y0 x1 y1 l) 0 e w') := fun A hA => (CR W H x0 y0 x1 y1 s l A (row.on hA) hcs hok h).mono fun e w' h' => h'.1 hr hcb
  have HAT : Hid (∀ A, Below w.heap.size w A → Calls Try.prog 23 #[.agg #[.int .i64 W, .int .i64 H, s], .int .i64 px, .int .i64 py] A fun e w' => e = .returned (.tuple #[.agg #[.int .u8 (atC W H px py l 0), .int .u8 (atC W H px py l 1), .int .u8 (atC W H px py l 2), .int .u8 (atC W H px py l 3)], .bool (inIm W H px py)]) ∧ Below A.heap.size A w') := fun A hA => AT W H px py s l A (row.on hA) hok h hr
  have HBX : Hid (∀ A, Below w.heap.size w A → Calls Try.prog 24 #[.agg #[.int .i64 W, .int .i64 H, s]] A fun e w' => e = .returned (.agg #[.int .i64 0, .int .i64 0, .int .i64 W, .int .i64 H]) ∧ Below A.heap.size A w') := fun A hA => BX W H s l A (row.on hA) hok h hr
  have HROW := Lib.hid row
  have HSD : Hid (W ≤ 256 ∧ H ≤ 256 ∧ (l.length : Int) = W * H ∧ l.length ≤ 400) := by
    obtain ⟨q1, q2, q3, q4', q5, _⟩ := rightIm_iff.1 hr
    exact ⟨q2, q4', q5, h⟩
  obtain ⟨ib, hib⟩ : ∃ b, inIm W H px py = b := ⟨_, rfl⟩
  obtain ⟨ca, hca⟩ : ∃ c, atC W H px py l = c := ⟨_, rfl⟩
  rw [hib, hca] at HAT
  have HIB : Hid (inIm W H px py = ib) := hib
  have HCA : Hid (atC W H px py l = ca) := hca
  have HBB : Hid (0 ≤ x0 ∧ 0 ≤ y0 ∧ x1 ≤ W ∧ y1 ≤ H ∧ x0 < x1 ∧ y0 < y1) := cropB_no.1 hcb
  have hpos : 0 < l.length := by
    obtain ⟨q1, q2, q3, q4', q5, _⟩ := rightIm_iff.1 hr
    have := side_prod (W := W) (H := H) (by omega) (by omega) (by omega) (by omega)
    omega
  have hrc := crop_right hr hcb
  have hco := crop_okC hr hcb hok
  have HCK : Hid (∀ A v, RowK .u8 A v (cropL W x0 y0 x1 y1 l) → Calls Try.prog 15 #[.agg #[.int .i64 (x1 - x0), .int .i64 (y1 - y0), v]] A fun e w' => e = .returned (.int .i64 0) ∧ Below A.heap.size A w') := fun A v hv => by
    have h2 := CK (x1 - x0) (y1 - y0) v _ A hv hco (by
      obtain ⟨q1, q2, q3, q4', q5, _⟩ := rightIm_iff.1 hrc
      have := side_prod (W := x1 - x0) (H := y1 - y0) (by omega) (by omega) (by omega) (by omega)
      omega)
    rw [hrc] at h2
    exact h2
  have HPX : Hid (∀ i j : Int, 0 ≤ i ∧ i < x1 - x0 → 0 ≤ j ∧ j < y1 - y0 → 0 ≤ j * (x1 - x0) + i ∧ j * (x1 - x0) + i < (x1 - x0) * (y1 - y0) ∧ cAt (cropL W x0 y0 x1 y1 l) (j * (x1 - x0) + i).toNat = cAt l ((y0 + j) * W + x0 + i).toNat) := fun i j hi hj => crop_at hi hj
  have hlen : ((cropL W x0 y0 x1 y1 l).length : Int) = (x1 - x0) * (y1 - y0) := cropL_len HBB.out.2.2.2.2.1 HBB.out.2.2.2.2.2
  have hprod := side_prod (W := x1 - x0) (H := y1 - y0) (by have := HBB.out; omega) (by have := HBB.out; have := HSD.out; omega) (by have := HBB.out; omega) (by have := HBB.out; have := HSD.out; omega)
  have HCW0 : Hid (wrap64 (x1 - x0) = x1 - x0) := Lib.hid (wrapR _ (by have := HBB.out; have := HSD.out; omega) (by have := HBB.out; have := HSD.out; omega))
  have HCH0 : Hid (wrap64 (y1 - y0) = y1 - y0) := Lib.hid (wrapR _ (by have := HBB.out; have := HSD.out; omega) (by have := HBB.out; have := HSD.out; omega))
  have HPC : Hid (0 < x1 - x0 ∧ 0 < y1 - y0) := ⟨by have := HBB.out; omega, by have := HBB.out; omega⟩
  have HCX : Hid (∀ a b : Int, a = x1 - x0 → b = y1 - y0 → True) := fun _ _ _ _ => trivial
  have HWD : Hid (x1 - x0 ≤ W ∧ y1 - y0 ≤ H) := ⟨by have := HBB.out; omega, by have := HBB.out; omega⟩
  obtain ⟨CL, hCL⟩ : ∃ L, cropL W x0 y0 x1 y1 l = L := ⟨_, rfl⟩
  obtain ⟨cw, hcw⟩ : ∃ y, x1 - x0 = y := ⟨_, rfl⟩
  obtain ⟨ch, hch⟩ : ∃ y, y1 - y0 = y := ⟨_, rfl⟩
  rw [hCL, hcw, hch] at HCR HCK HPX hlen
  rw [hcw, hch] at hprod HPC HWD
  have HCW : Hid (wrap64 (x1 - x0) = cw) := Lib.hid (HCW0.out.trans hcw)
  have HCH : Hid (wrap64 (y1 - y0) = ch) := Lib.hid (HCH0.out.trans hch)
  have HDX : Hid (x1 = x0 + cw ∧ y1 = y0 + ch) := ⟨by omega, by omega⟩
  obtain ⟨pn, hpn⟩ : ∃ m, CL.length = m := ⟨_, rfl⟩
  rw [hpn] at hlen
  have HPL : Hid (CL.length = pn) := hpn
  have HPN : Hid ((pn : Int) = cw * ch ∧ 1 ≤ cw * ch ∧ cw * ch ≤ 65536) := ⟨hlen, hprod.1, hprod.2⟩
  have HPP : Hid (0 < pn) := by
    have := HPN.out
    show 0 < pn
    omega
  obtain ⟨ao, cp, rfl⟩ := row.shape
  obtain ⟨rb, ro, rfl, hrb, hrq⟩ := RowK.addr row hpos
  have HRC : Hid (rb < w.heap.size ∧ ∀ i p, l[i]? = some p → ColAt .u8 w rb (ro + i * 4) p) := ⟨hrb, hrq⟩
  obtain ⟨n, hn⟩ : ∃ n, l.length = n := ⟨_, rfl⟩
  have HSM := Lib.hid (small_c W H (some ⟨rb, ro, none⟩) n cp)
  rw [decide_eq_true (by omega)] at HSM
  have HN := Lib.hid hn
  rw [hn] at HRF HCR HAT HBX HSD ⊢
  clear row hok h hr hn hcb hib hca hpos hrc hco hlen hprod hCL hcw hch hpn hrb hrq HROW HCX HCW0 HCH0
  go_enter Try.func5, Try.ntmps5
  go_wp2_with fail
  refine (HSM.out _).mono ?_
  rintro e w1 ⟨rfl, hb⟩
  have M1 : Hid (CropM w W H (.slice (some ⟨rb, ro, none⟩) n cp) x0 y0 x1 y1 px py w1) := (CropM.start w W H (.slice (some ⟨rb, ro, none⟩) n cp) x0 y0 x1 y1 px py).grow hb
  clear hb
  obtain ⟨m0, m1, m2⟩ := CropM.im M1.out
  go_wp2_with fail
  refine (HRF.out _ M1.out.1).mono ?_
  rintro e w2 ⟨u, rfl, hu, hb⟩
  have M2 := Lib.hid (M1.out.grow hb)
  have HU := Lib.hid hu.row
  clear hb hu m0 m1 m2 M1
  go_wp2_with fail
  refine (HRT.out _ _ HU.out).mono ?_
  rintro e w3 ⟨rfl, hb⟩
  have M3 := Lib.hid (M2.out.grow hb)
  clear hb HU M2
  obtain ⟨m0, m1, m2⟩ := CropM.im M3.out
  obtain ⟨p0, p1⟩ := CropM.pt M3.out
  go_wp2_with fail
  refine (HAT.out _ M3.out.1).mono ?_
  rintro e w4 ⟨rfl, hb⟩
  have M4 := Lib.hid (M3.out.grow hb)
  clear hb m0 m1 m2 p0 p1 M3
  go_upto_region 7 with fail
  obtain ⟨w5, hw⟩ : ∃ WW, w4.alloc (.cells #[.int .u8 (ca 0), .int .u8 (ca 1), .int .u8 (ca 2), .int .u8 (ca 3)] 28) = WW := ⟨_, rfl⟩
  have M5 : Hid (CropM w W H (.slice (some ⟨rb, ro, none⟩) n cp) x0 y0 x1 y1 px py w5 ∧ Blk w5 w4.heap.size 28 (c8 ca)) := by
    rw [← hw]
    have h1 : Below w4.heap.size w4 (w4.alloc (.cells #[.int .u8 (ca 0), .int .u8 (ca 1), .int .u8 (ca 2), .int .u8 (ca 3)] 28)) := (Below.refl _ _).alloc (Nat.le_refl _) _
    exact ⟨M4.out.grow h1, Blk.new _ _ _⟩
  rw [hw]
  clear hw M4
  generalize w4.heap.size = g9 at *
  go_cut [11] from 44 to 65 (fun sb wr => sb = .bool ib ∧ Hid (wr = w5))
  case first =>
    have e0 := HIB.out
    unfold inIm at e0
    obtain ⟨m0, m1, m2⟩ := CropM.im M5.out.1
    obtain ⟨p0, p1⟩ := CropM.pt M5.out.1
    cases q0 : decide (px ≥ 0)
    · rw [q0] at e0
      go_wp2_with fail
      go_meet
      case rel => exact ⟨by rw [← e0]; rfl, rfl⟩
    · cases q1 : decide (px < W)
      · rw [q0, q1] at e0
        go_wp2_with fail
        go_meet
        case rel => exact ⟨by rw [← e0]; rfl, rfl⟩
      · cases q2 : decide (py ≥ 0)
        · rw [q0, q1, q2] at e0
          go_wp2_with fail
          go_meet
          case rel => exact ⟨by rw [← e0]; rfl, rfl⟩
        · cases q3 : decide (py < H)
          · rw [q0, q1, q2, q3] at e0
            go_wp2_with fail
            go_meet
            case rel => exact ⟨by rw [← e0]; rfl, rfl⟩
          · rw [q0, q1, q2, q3] at e0
            go_wp2_with fail
            go_meet
            case rel => exact ⟨by rw [← e0]; rfl, rfl⟩
  case rest =>
    obtain ⟨rfl, hwc⟩ := hcut
    obtain rfl := hwc.out
    clear hwc
    have HA8 : Hid (∀ A, Below wc.heap.size wc A → CropM w W H (.slice (some ⟨rb, ro, none⟩) n cp) x0 y0 x1 y1 px py A ∧ Blk A g9 28 (c8 ca)) := fun A hA => ⟨M5.out.1.grow hA, M5.out.2.grow hA⟩
    cases ib
    · obtain rfl : zeroK = ca := by
        rw [← HCA.out]
        unfold atC
        rw [if_neg (by rw [HIB.out]; decide)]
      have EQ8 := equal_c8 zeroK
      simp only [zeroK] at EQ8
      go_upto_region 8 with fail
      refine wp_region_quiet (C := Out wc) (by kernel_rfl) (by kernel_rfl) ⟨rfl, rfl, rfl, Nat.le_refl _, fun _ _ => rfl⟩ ?_
      refine BigFrame.wpQuiet_want rfl (fun K hK => ?_)
      refine quiet_val (.bool false) (fun w' hw' => by go_simp) (hK _ ?_)
      clear hK K
      simp only [Act.put, List.setIfInBounds_toArray, List.set_cons_zero, List.set_cons_succ]
      refine BigFrame.wpQuiet_want rfl (fun K hK => ?_)
      refine quiet_val (.bool false) (fun w' hw' => by go_simp) (hK _ ?_)
      clear hK K
      simp only [Act.put, List.setIfInBounds_toArray, List.set_cons_zero, List.set_cons_succ]
      refine BigFrame.wpQuiet_want rfl (fun K hK => ?_)
      refine quiet_val (.bool false) (fun w' hw' => by go_simp) (hK _ ?_)
      clear hK K
      simp only [Act.put, List.setIfInBounds_toArray, List.set_cons_zero, List.set_cons_succ]
      refine BigFrame.wpQuiet_want rfl (fun K hK => ?_)
      refine quiet_val (.bool false) (fun w' hw' => by go_simp) (hK _ ?_)
      clear hK K
      simp only [Act.put, List.setIfInBounds_toArray, List.set_cons_zero, List.set_cons_succ]
      refine BigFrame.wpQuiet_want rfl (fun K hK => ?_)
      refine quiet_val (.bool false) (fun w' hw' => by go_simp) (hK _ ?_)
      clear hK K
      simp only [Act.put, List.setIfInBounds_toArray, List.set_cons_zero, List.set_cons_succ]
      refine BigFrame.wpQuiet_want rfl (fun K hK => ?_)
      refine quiet_val (.bool false) (fun w' hw' => by go_simp) (hK _ ?_)
      clear hK K
      simp only [Act.put, List.setIfInBounds_toArray, List.set_cons_zero, List.set_cons_succ]
      go_big_quiet_skip
      go_big_quiet_skip
      go_big_quiet_skip
      go_big_quiet_skip
      go_big_quiet_skip
      go_big_quiet_skip
      go_big_quiet_skip
      go_big_quiet_skip
      go_big_quiet_skip
      go_big_quiet_skip
      go_big_quiet_skip
      go_big_quiet_skip
      go_big_quiet_skip
      go_big_quiet_skip
      refine BigFrame.wpQuiet_want rfl (fun K hK => ?_)
      refine quiet_val (.bool false) (fun w' hw' => by go_simp) (hK _ ?_)
      clear hK K
      simp only [Act.put, List.setIfInBounds_toArray, List.set_cons_zero, List.set_cons_succ]
      refine BigFrame.wpQuiet_want rfl (fun K hK => ?_)
      refine quiet_val (.bool false) (fun w' hw' => by go_simp) (hK _ ?_)
      clear hK K
      simp only [Act.put, List.setIfInBounds_toArray, List.set_cons_zero, List.set_cons_succ]
      refine BigFrame.wpQuiet_want rfl (fun K hK => ?_)
      refine quiet_val (.bool false) (fun w' hw' => by go_simp) (hK _ ?_)
      clear hK K
      simp only [Act.put, List.setIfInBounds_toArray, List.set_cons_zero, List.set_cons_succ]
      refine BigFrame.wpQuiet_want rfl (fun K hK => ?_)
      refine quiet_val (.bool false) (fun w' hw' => by go_simp) (hK _ ?_)
      clear hK K
      simp only [Act.put, List.setIfInBounds_toArray, List.set_cons_zero, List.set_cons_succ]
      refine BigFrame.wpQuiet_want rfl (fun K hK => ?_)
      refine quiet_val (.bool true) (fun w' hw' => by go_simp) (hK _ ?_)
      clear hK K
      simp only [Act.put, List.setIfInBounds_toArray, List.set_cons_zero, List.set_cons_succ]
      refine BigFrame.wpQuiet_want rfl (fun K hK => ?_)
      refine quiet_val (.bool true) (fun w' hw' => by go_simp) (hK _ ?_)
      clear hK K
      simp only [Act.put, List.setIfInBounds_toArray, List.set_cons_zero, List.set_cons_succ]
      refine BigFrame.wpQuiet_want rfl (fun K hK => ?_)
      refine quiet_val (.agg #[.int .u8 0, .int .u8 0, .int .u8 0, .int .u8 0]) (fun w' hw' => by obtain ⟨c0, c1, c2, c3⟩ := Blk.c8 (HA8.out w' hw').2; simp only [zeroK] at c0 c1 c2 c3; go_simp) (hK _ ?_)
      clear hK K
      simp only [Act.put, List.setIfInBounds_toArray, List.set_cons_zero, List.set_cons_succ]
      refine BigFrame.wpQuiet_want rfl (fun K hK => ?_)
      refine quiet_val (.agg #[.int .u8 0, .int .u8 0, .int .u8 0, .int .u8 0]) (fun w' hw' => by go_simp) (hK _ ?_)
      clear hK K
      simp only [Act.put, List.setIfInBounds_toArray, List.set_cons_zero, List.set_cons_succ]
      refine BigFrame.wpQuiet_want rfl (fun K hK => ?_)
      refine quiet_val (.bool false) (fun w' hw' => by go_simp) (hK _ ?_)
      clear hK K
      simp only [Act.put, List.setIfInBounds_toArray, List.set_cons_zero, List.set_cons_succ]
      refine BigFrame.wpQuiet_want rfl (fun K hK => ?_)
      refine quiet_val (.bool false) (fun w' hw' => by go_simp) (hK _ ?_)
      clear hK K
      simp only [Act.put, List.setIfInBounds_toArray, List.set_cons_zero, List.set_cons_succ]
      refine BigFrame.wpQuiet_want rfl (fun K hK => ?_)
      refine quiet_val (.bool false) (fun w' hw' => by go_simp) (hK _ ?_)
      clear hK K
      simp only [Act.put, List.setIfInBounds_toArray, List.set_cons_zero, List.set_cons_succ]
      refine BigFrame.wpQuiet_want rfl (fun K hK => ?_)
      refine quiet_val (.bool false) (fun w' hw' => by go_simp) (hK _ ?_)
      clear hK K
      simp only [Act.put, List.setIfInBounds_toArray, List.set_cons_zero, List.set_cons_succ]
      refine BigFrame.wpQuiet_want rfl (fun K hK => ?_)
      refine quiet_val (.agg #[.int .i64 W, .int .i64 H, .slice (some ⟨rb, ro, none⟩) n cp]) (fun w' hw' => by obtain ⟨m0, m1, m2⟩ := CropM.im (HA8.out w' hw').1; go_simp) (hK _ ?_)
      clear hK K
      simp only [Act.put, List.setIfInBounds_toArray, List.set_cons_zero, List.set_cons_succ]
      refine BigFrame.wpQuiet_want rfl (fun K hK => ?_)
      refine quiet_call 24 #[.agg #[.int .i64 W, .int .i64 H, .slice (some ⟨rb, ro, none⟩) n cp]] (.agg #[.int .i64 0, .int .i64 0, .int .i64 W, .int .i64 H]) (fun w' _ => by go_simp) (fun w' hw' => Calls.out hw' (HBX.out w' (HA8.out w' hw').1.1)) (hK _ ?_)
      clear hK K
      simp only [Act.put, List.setIfInBounds_toArray, List.set_cons_zero, List.set_cons_succ]
      refine BigFrame.wpQuiet_want rfl (fun K hK => ?_)
      refine quiet_val (.pointer (some ⟨w.heap.size, 0, none⟩)) (fun w' hw' => by go_simp) (hK _ ?_)
      clear hK K
      simp only [Act.put, List.setIfInBounds_toArray, List.set_cons_zero, List.set_cons_succ]
      refine BigFrame.wpQuiet_want rfl (fun K hK => ?_)
      refine quiet_val (.int .i64 W) (fun w' hw' => by obtain ⟨m0, m1, m2⟩ := CropM.im (HA8.out w' hw').1; go_simp) (hK _ ?_)
      clear hK K
      simp only [Act.put, List.setIfInBounds_toArray, List.set_cons_zero, List.set_cons_succ]
      refine BigFrame.wpQuiet_want rfl (fun K hK => ?_)
      refine quiet_val (.pointer (some ⟨w.heap.size, 1, none⟩)) (fun w' hw' => by go_simp) (hK _ ?_)
      clear hK K
      simp only [Act.put, List.setIfInBounds_toArray, List.set_cons_zero, List.set_cons_succ]
      refine BigFrame.wpQuiet_want rfl (fun K hK => ?_)
      refine quiet_val (.int .i64 H) (fun w' hw' => by obtain ⟨m0, m1, m2⟩ := CropM.im (HA8.out w' hw').1; go_simp) (hK _ ?_)
      clear hK K
      simp only [Act.put, List.setIfInBounds_toArray, List.set_cons_zero, List.set_cons_succ]
      refine BigFrame.wpQuiet_want rfl (fun K hK => ?_)
      refine quiet_val (.agg #[.int .i64 0, .int .i64 0, .int .i64 W, .int .i64 H]) (fun w' hw' => by go_simp) (hK _ ?_)
      clear hK K
      simp only [Act.put, List.setIfInBounds_toArray, List.set_cons_zero, List.set_cons_succ]
      refine BigFrame.wpQuiet_want rfl (fun K hK => ?_)
      refine quiet_val (.bool false) (fun w' hw' => by go_simp) (hK _ ?_)
      clear hK K
      simp only [Act.put, List.setIfInBounds_toArray, List.set_cons_zero, List.set_cons_succ]
      refine BigFrame.wpQuiet_want rfl (fun K hK => ?_)
      refine quiet_val (.bool false) (fun w' hw' => by go_simp) (hK _ ?_)
      clear hK K
      simp only [Act.put, List.setIfInBounds_toArray, List.set_cons_zero, List.set_cons_succ]
      refine wpQuiet_nil ?_
      intro w6 hb
      have M6 := Lib.hid (M5.out.1.grow hb)
      clear hb M5 HA8
      obtain ⟨m0, m1, m2⟩ := CropM.im M6.out
      obtain ⟨b0, b1, b2, b3⟩ := CropM.bx M6.out
      go_wp2_with fail
      refine (HCR.out _ M6.out.1).mono ?_
      rintro e w7 ⟨v, rfl, hv, hb⟩
      have M7 := Lib.hid (M6.out.grow hb)
      obtain ⟨va, vc, e0⟩ := hv.shape
      rw [HPL.out] at e0
      subst e0
      obtain ⟨qb, qo, hqa, hqb, hqc⟩ := RowK.addr (show RowK .u8 w7 (.slice va CL.length vc) CL by rw [HPL.out]; exact hv) (by rw [HPL.out]; exact HPP.out)
      subst hqa
      have HQC : Hid (qb < w7.heap.size ∧ ∀ i p, CL[i]? = some p → ColAt .u8 w7 qb (qo + i * 4) p) := ⟨hqb, hqc⟩
      have HCK7 := Lib.hid (fun A (hA : Below w7.heap.size w7 A) => HCK.out A _ (hv.on hA))
      clear hb hv hqb hqc m0 m1 m2 b0 b1 b2 b3 M6
      go_upto_region 11 with fail
      obtain ⟨w8, hw⟩ : ∃ WW, w7.alloc (.cells #[.int .i64 cw, .int .i64 ch, .slice (some ⟨qb, qo, none⟩) pn vc] 24) = WW := ⟨_, rfl⟩
      have B78 : Hid (Below w7.heap.size w7 w8) := by
        rw [← hw]
        exact (Below.refl _ _).alloc (Nat.le_refl _) _
      have M8 : Hid (CropM w W H (.slice (some ⟨rb, ro, none⟩) n cp) x0 y0 x1 y1 px py w8 ∧ Blk w8 w7.heap.size 24 #[.int .i64 cw, .int .i64 ch, .slice (some ⟨qb, qo, none⟩) pn vc] ∧ Below w7.heap.size w7 w8) := ⟨M7.out.grow B78.out, by rw [← hw]; exact Blk.new _ _ _, B78.out⟩
      rw [hw]
      clear hw M7 B78
      generalize hg12 : w7.heap.size = g12 at *
      have M8 : Hid (CropM w W H (.slice (some ⟨rb, ro, none⟩) n cp) x0 y0 x1 y1 px py w8 ∧ Blk w8 g12 24 #[.int .i64 cw, .int .i64 ch, .slice (some ⟨qb, qo, none⟩) pn vc] ∧ Below w7.heap.size w7 w8) := by
        rw [hg12]
        exact M8.out
      rw [← hg12] at HQC HCK7
      obtain ⟨t1, t2, t3, t4, t5, t6⟩ := HBB.out
      have d1 : decide (x0 < 0) = false := by simp; omega
      have d2 : decide (y0 < 0) = false := by simp; omega
      have d3 : decide (x1 > W) = false := by simp; omega
      have d4 : decide (y1 > H) = false := by simp; omega
      have d5 : decide (x0 ≥ x1) = false := by simp; omega
      have d6 : decide (y0 ≥ y1) = false := by simp; omega
      have E1 := HCW.out
      have E2 := HCH.out
      clear t1 t2 t3 t4 t5 t6 hg12
      obtain ⟨m0, m1, m2⟩ := CropM.im M8.out.1
      obtain ⟨b0, b1, b2, b3⟩ := CropM.bx M8.out.1
      obtain ⟨i0, i1, i2⟩ := Blk.im3 M8.out.2.1
      go_wp2_with fail
      refine (HCK7.out _ M8.out.2.2).mono ?_
      rintro e w9 ⟨rfl, hb⟩
      have M9 : Hid (CropM w W H (.slice (some ⟨rb, ro, none⟩) n cp) x0 y0 x1 y1 px py w9 ∧ Blk w9 g12 24 #[.int .i64 cw, .int .i64 ch, .slice (some ⟨qb, qo, none⟩) pn vc] ∧ Below w7.heap.size w7 w9) := ⟨M8.out.1.grow hb, M8.out.2.1.grow hb, M8.out.2.2.trans (hb.mono M8.out.2.2.size)⟩
      clear hb i0 i1 i2 m0 m1 m2 b0 b1 b2 b3 d1 d2 d3 d4 d5 d6 E1 E2 M8
      obtain ⟨i0, i1, i2⟩ := Blk.im3 M9.out.2.1
      go_wp2_with fail
      clear i0 i1 i2
      have hch9 : ch ≤ 256 := by have := HWD.out; have := HSD.out; omega
      have hcw9 : cw ≤ 256 := by have := HWD.out; have := HSD.out; omega
      go_loopw [187] (fun i wr => ∃ j : Nat, (j : Int) ≤ ch ∧ i = .int .i64 (j : Int) ∧ Hid (CropM w W H (.slice (some ⟨rb, ro, none⟩) n cp) x0 y0 x1 y1 px py wr ∧ Blk wr g12 24 #[.int .i64 cw, .int .i64 ch, .slice (some ⟨qb, qo, none⟩) pn vc] ∧ Below w7.heap.size w7 wr)) (fun i _ => ch.toNat - (intOf i).toNat)
      case atStart => exact ⟨0, by have := HPC.out; omega, rfl, M9.out⟩
      case round =>
        obtain ⟨j, hj, rfl, hw⟩ := hrel
        obtain ⟨w2, rfl⟩ : ∃ x, x = wr := ⟨_, rfl⟩
        by_cases hlt : (j : Int) < ch
        · have hd : decide ((j : Int) < ch) = true := by simpa using hlt
          have hji : 0 ≤ (j : Int) ∧ (j : Int) < ch := by omega
          obtain ⟨i0, i1, i2⟩ := Blk.im3 hw.out.2.1
          go_wp2_with fail
          clear i0 i1 i2
          go_loopw [192] (fun i wr => ∃ k : Nat, (k : Int) ≤ cw ∧ i = .int .i64 (k : Int) ∧ Hid (CropM w W H (.slice (some ⟨rb, ro, none⟩) n cp) x0 y0 x1 y1 px py wr ∧ Blk wr g12 24 #[.int .i64 cw, .int .i64 ch, .slice (some ⟨qb, qo, none⟩) pn vc] ∧ Below w7.heap.size w7 wr)) (fun i _ => cw.toNat - (intOf i).toNat)
          case atStart => exact ⟨0, by have := HPC.out; omega, rfl, hw.out⟩
          case round =>
            obtain ⟨k, hk, rfl, hv⟩ := hrel
            by_cases hkl : (k : Int) < cw
            · have hd2 : decide ((k : Int) < cw) = true := by simpa using hkl
              have hki2 : 0 ≤ (k : Int) ∧ (k : Int) < cw := by omega
              obtain ⟨g1, g2, g3⟩ := HPX.out (k : Int) (j : Int) hki2 hji
              obtain ⟨h1, h2, h3, h4, h5, h6⟩ := HBB.out
              have hdx := HDX.out
              have hwd := HWD.out
              have hsd := HSD.out
              obtain ⟨u1, u2, u3, u4⟩ := at_prod (px := x0 + (k : Int)) (py := y0 + (j : Int)) (oW := W) (oH := H) (by omega) (by omega) (by omega) (by omega) hsd.1 hsd.2.1
              obtain ⟨a1, ha1⟩ : ∃ y, (j : Int) * cw = y := ⟨_, rfl⟩
              obtain ⟨a2, ha2⟩ : ∃ y, y0 + (j : Int) = y := ⟨_, rfl⟩
              rw [ha2] at g3 u1 u2 u3 u4
              obtain ⟨a3, ha3⟩ : ∃ y, a2 * W = y := ⟨_, rfl⟩
              rw [ha3] at g3 u1 u2 u3 u4
              obtain ⟨a4, ha4⟩ : ∃ y, a3 + x0 = y := ⟨_, rfl⟩
              rw [ha4] at g3
              rw [ha1] at g1 g2 g3
              have hlp := HPN.out
              have v1 : 0 ≤ a1 := by rw [← ha1]; exact Int.mul_nonneg (by omega) (by omega)
              obtain ⟨ka, hka⟩ : ∃ i, (a1 + (k : Int)).toNat = i := ⟨_, rfl⟩
              obtain ⟨kb, hkb⟩ : ∃ i, (a4 + (k : Int)).toNat = i := ⟨_, rfl⟩
              rw [hka, hkb] at g3
              have F1 : Hid (IntKind.i64.wrap ((j : Int) * cw) = a1) := Lib.hid (by rw [wrap_is, ha1]; exact wrapR _ (by omega) (by omega))
              have F2 : Hid (IntKind.i64.wrap (a1 + (k : Int)) = (ka : Int)) := Lib.hid (by rw [wrap_is, wrapR _ (by omega) (by omega)]; omega)
              have F3 : Hid (IntKind.i64.wrap (y0 + (j : Int)) = a2) := Lib.hid (by rw [wrap_is, ha2]; exact wrapR _ (by omega) (by omega))
              have F4 : Hid (IntKind.i64.wrap (a2 * W) = a3) := Lib.hid (by rw [wrap_is, ha3]; exact wrapR _ (by omega) (by omega))
              have F5 : Hid (IntKind.i64.wrap (a3 + x0) = a4) := Lib.hid (by rw [wrap_is, ha4]; exact wrapR _ (by omega) (by omega))
              have F6 : Hid (IntKind.i64.wrap (a4 + (k : Int)) = (kb : Int)) := Lib.hid (by rw [wrap_is, wrapR _ (by omega) (by omega)]; omega)
              have i1 : (ka : Int) < (pn : Int) := by omega
              have i2 : (kb : Int) < (n : Int) := by omega
              have i3 : (0 : Int) ≤ (ka : Int) := by omega
              have i4 : (0 : Int) ≤ (kb : Int) := by omega
              obtain ⟨x, hx⟩ : ∃ x, cAt l kb = x := ⟨_, rfl⟩
              rw [hx] at g3
              have HA9 : Hid (∀ A, Below wr.heap.size wr A → (CropM w W H (.slice (some ⟨rb, ro, none⟩) n cp) x0 y0 x1 y1 px py A ∧ Blk A g12 24 #[.int .i64 cw, .int .i64 ch, .slice (some ⟨qb, qo, none⟩) pn vc] ∧ Below w7.heap.size w7 A)) := fun A hA => ⟨hv.out.1.grow hA, hv.out.2.1.grow hA, hv.out.2.2.trans (hA.mono hv.out.2.2.size)⟩
              have HXA : Hid (∀ A, Below wr.heap.size wr A → ColAt .u8 A qb (qo + ka * 4) x) := fun A hA => (HQC.out.2 ka x (by rw [← g3]; exact cAt_some (by rw [HPL.out]; omega))).on (HA9.out A hA).2.2 HQC.out.1
              have HXB : Hid (∀ A, Below wr.heap.size wr A → ColAt .u8 A rb (ro + kb * 4) x) := fun A hA => (HRC.out.2 kb x (by rw [← hx]; exact cAt_some (by rw [HN.out]; omega))).on (HA9.out A hA).1.1 HRC.out.1
              have EQ8 := equal_c8 x
              clear hdx hwd hki2 g1 g2 g3 h1 h2 h3 h4 h5 h6 hsd u1 u2 u3 u4 ha1 ha2 ha3 ha4 hlp v1 hka hkb hx
              go_upto_region 21 with fail
              refine wp_region_quiet (C := Out wr) (by kernel_rfl) (by kernel_rfl) ⟨rfl, rfl, rfl, Nat.le_refl _, fun _ _ => rfl⟩ ?_
              refine BigFrame.wpQuiet_want rfl (fun K hK => ?_)
              refine quiet_val (.pointer (some ⟨g12, 2, none⟩)) (fun w' hw' => by go_simp) (hK _ ?_)
              clear hK K
              simp only [Act.put, List.setIfInBounds_toArray, List.set_cons_zero, List.set_cons_succ]
              refine BigFrame.wpQuiet_want rfl (fun K hK => ?_)
              refine quiet_val (.slice (some ⟨qb, qo, none⟩) pn vc) (fun w' hw' => by obtain ⟨m0, m1, m2⟩ := Blk.im3 (HA9.out w' hw').2.1; go_simp) (hK _ ?_)
              clear hK K
              simp only [Act.put, List.setIfInBounds_toArray, List.set_cons_zero, List.set_cons_succ]
              refine BigFrame.wpQuiet_want rfl (fun K hK => ?_)
              refine quiet_val (.int .i64 (j : Int)) (fun w' hw' => by go_simp) (hK _ ?_)
              clear hK K
              simp only [Act.put, List.setIfInBounds_toArray, List.set_cons_zero, List.set_cons_succ]
              refine BigFrame.wpQuiet_want rfl (fun K hK => ?_)
              refine quiet_val (.pointer (some ⟨g12, 0, none⟩)) (fun w' hw' => by go_simp) (hK _ ?_)
              clear hK K
              simp only [Act.put, List.setIfInBounds_toArray, List.set_cons_zero, List.set_cons_succ]
              refine BigFrame.wpQuiet_want rfl (fun K hK => ?_)
              refine quiet_val (.int .i64 cw) (fun w' hw' => by obtain ⟨m0, m1, m2⟩ := Blk.im3 (HA9.out w' hw').2.1; go_simp) (hK _ ?_)
              clear hK K
              simp only [Act.put, List.setIfInBounds_toArray, List.set_cons_zero, List.set_cons_succ]
              refine BigFrame.wpQuiet_want rfl (fun K hK => ?_)
              refine quiet_val (.int .i64 a1) (fun w' hw' => by have e := F1.out; go_simp) (hK _ ?_)
              clear hK K
              simp only [Act.put, List.setIfInBounds_toArray, List.set_cons_zero, List.set_cons_succ]
              refine BigFrame.wpQuiet_want rfl (fun K hK => ?_)
              refine quiet_val (.int .i64 (k : Int)) (fun w' hw' => by go_simp) (hK _ ?_)
              clear hK K
              simp only [Act.put, List.setIfInBounds_toArray, List.set_cons_zero, List.set_cons_succ]
              refine BigFrame.wpQuiet_want rfl (fun K hK => ?_)
              refine quiet_val (.int .i64 (ka : Int)) (fun w' hw' => by have e := F2.out; go_simp) (hK _ ?_)
              clear hK K
              simp only [Act.put, List.setIfInBounds_toArray, List.set_cons_zero, List.set_cons_succ]
              refine BigFrame.wpQuiet_want rfl (fun K hK => ?_)
              refine quiet_val (.pointer (some ⟨qb, qo + ka * 4, none⟩)) (fun w' hw' => by go_simp) (hK _ ?_)
              clear hK K
              simp only [Act.put, List.setIfInBounds_toArray, List.set_cons_zero, List.set_cons_succ]
              refine BigFrame.wpQuiet_want rfl (fun K hK => ?_)
              refine quiet_val (.agg #[.int .u8 (x 0), .int .u8 (x 1), .int .u8 (x 2), .int .u8 (x 3)]) (fun w' hw' => by obtain ⟨c0, c1, c2, c3⟩ := HXA.out w' hw'; go_simp) (hK _ ?_)
              clear hK K
              simp only [Act.put, List.setIfInBounds_toArray, List.set_cons_zero, List.set_cons_succ]
              refine BigFrame.wpQuiet_want rfl (fun K hK => ?_)
              refine quiet_val (.pointer (some ⟨w.heap.size, 2, none⟩)) (fun w' hw' => by go_simp) (hK _ ?_)
              clear hK K
              simp only [Act.put, List.setIfInBounds_toArray, List.set_cons_zero, List.set_cons_succ]
              refine BigFrame.wpQuiet_want rfl (fun K hK => ?_)
              refine quiet_val (.slice (some ⟨rb, ro, none⟩) n cp) (fun w' hw' => by obtain ⟨m0, m1, m2⟩ := CropM.im (HA9.out w' hw').1; go_simp) (hK _ ?_)
              clear hK K
              simp only [Act.put, List.setIfInBounds_toArray, List.set_cons_zero, List.set_cons_succ]
              refine BigFrame.wpQuiet_want rfl (fun K hK => ?_)
              refine quiet_val (.pointer (some ⟨w.heap.size + 1, 1, none⟩)) (fun w' hw' => by go_simp) (hK _ ?_)
              clear hK K
              simp only [Act.put, List.setIfInBounds_toArray, List.set_cons_zero, List.set_cons_succ]
              refine BigFrame.wpQuiet_want rfl (fun K hK => ?_)
              refine quiet_val (.int .i64 y0) (fun w' hw' => by obtain ⟨b0, b1, b2, b3⟩ := CropM.bx (HA9.out w' hw').1; go_simp) (hK _ ?_)
              clear hK K
              simp only [Act.put, List.setIfInBounds_toArray, List.set_cons_zero, List.set_cons_succ]
              refine BigFrame.wpQuiet_want rfl (fun K hK => ?_)
              refine quiet_val (.int .i64 (j : Int)) (fun w' hw' => by go_simp) (hK _ ?_)
              clear hK K
              simp only [Act.put, List.setIfInBounds_toArray, List.set_cons_zero, List.set_cons_succ]
              refine BigFrame.wpQuiet_want rfl (fun K hK => ?_)
              refine quiet_val (.int .i64 a2) (fun w' hw' => by have e := F3.out; go_simp) (hK _ ?_)
              clear hK K
              simp only [Act.put, List.setIfInBounds_toArray, List.set_cons_zero, List.set_cons_succ]
              refine BigFrame.wpQuiet_want rfl (fun K hK => ?_)
              refine quiet_val (.pointer (some ⟨w.heap.size, 0, none⟩)) (fun w' hw' => by go_simp) (hK _ ?_)
              clear hK K
              simp only [Act.put, List.setIfInBounds_toArray, List.set_cons_zero, List.set_cons_succ]
              refine BigFrame.wpQuiet_want rfl (fun K hK => ?_)
              refine quiet_val (.int .i64 W) (fun w' hw' => by obtain ⟨m0, m1, m2⟩ := CropM.im (HA9.out w' hw').1; go_simp) (hK _ ?_)
              clear hK K
              simp only [Act.put, List.setIfInBounds_toArray, List.set_cons_zero, List.set_cons_succ]
              refine BigFrame.wpQuiet_want rfl (fun K hK => ?_)
              refine quiet_val (.int .i64 a3) (fun w' hw' => by have e := F4.out; go_simp) (hK _ ?_)
              clear hK K
              simp only [Act.put, List.setIfInBounds_toArray, List.set_cons_zero, List.set_cons_succ]
              refine BigFrame.wpQuiet_want rfl (fun K hK => ?_)
              refine quiet_val (.pointer (some ⟨w.heap.size + 1, 0, none⟩)) (fun w' hw' => by go_simp) (hK _ ?_)
              clear hK K
              simp only [Act.put, List.setIfInBounds_toArray, List.set_cons_zero, List.set_cons_succ]
              refine BigFrame.wpQuiet_want rfl (fun K hK => ?_)
              refine quiet_val (.int .i64 x0) (fun w' hw' => by obtain ⟨b0, b1, b2, b3⟩ := CropM.bx (HA9.out w' hw').1; go_simp) (hK _ ?_)
              clear hK K
              simp only [Act.put, List.setIfInBounds_toArray, List.set_cons_zero, List.set_cons_succ]
              refine BigFrame.wpQuiet_want rfl (fun K hK => ?_)
              refine quiet_val (.int .i64 a4) (fun w' hw' => by have e := F5.out; go_simp) (hK _ ?_)
              clear hK K
              simp only [Act.put, List.setIfInBounds_toArray, List.set_cons_zero, List.set_cons_succ]
              refine BigFrame.wpQuiet_want rfl (fun K hK => ?_)
              refine quiet_val (.int .i64 (k : Int)) (fun w' hw' => by go_simp) (hK _ ?_)
              clear hK K
              simp only [Act.put, List.setIfInBounds_toArray, List.set_cons_zero, List.set_cons_succ]
              refine BigFrame.wpQuiet_want rfl (fun K hK => ?_)
              refine quiet_val (.int .i64 (kb : Int)) (fun w' hw' => by have e := F6.out; go_simp) (hK _ ?_)
              clear hK K
              simp only [Act.put, List.setIfInBounds_toArray, List.set_cons_zero, List.set_cons_succ]
              refine BigFrame.wpQuiet_want rfl (fun K hK => ?_)
              refine quiet_val (.pointer (some ⟨rb, ro + kb * 4, none⟩)) (fun w' hw' => by go_simp) (hK _ ?_)
              clear hK K
              simp only [Act.put, List.setIfInBounds_toArray, List.set_cons_zero, List.set_cons_succ]
              refine BigFrame.wpQuiet_want rfl (fun K hK => ?_)
              refine quiet_val (.agg #[.int .u8 (x 0), .int .u8 (x 1), .int .u8 (x 2), .int .u8 (x 3)]) (fun w' hw' => by obtain ⟨c0, c1, c2, c3⟩ := HXB.out w' hw'; go_simp) (hK _ ?_)
              clear hK K
              simp only [Act.put, List.setIfInBounds_toArray, List.set_cons_zero, List.set_cons_succ]
              refine BigFrame.wpQuiet_want rfl (fun K hK => ?_)
              refine quiet_val (.bool false) (fun w' hw' => by go_simp) (hK _ ?_)
              clear hK K
              simp only [Act.put, List.setIfInBounds_toArray, List.set_cons_zero, List.set_cons_succ]
              refine wpQuiet_nil ?_
              intro w9 hb
              have M9 : Hid (CropM w W H (.slice (some ⟨rb, ro, none⟩) n cp) x0 y0 x1 y1 px py w9 ∧ Blk w9 g12 24 #[.int .i64 cw, .int .i64 ch, .slice (some ⟨qb, qo, none⟩) pn vc] ∧ Below w7.heap.size w7 w9) := HA9.out w9 hb
              clear hb HA9 HXA HXB
              go_wp2_with fail
              exact ⟨⟨k + 1, by omega, by go_num, M9.out⟩, by simp [intOf]; omega⟩
            · have hd2 : decide ((k : Int) < cw) = false := by simpa using hkl
              go_wp2_with fail
              exact ⟨⟨j + 1, by omega, by go_num, hv.out⟩, by simp [intOf]; omega⟩
        · have hd : decide ((j : Int) < ch) = false := by simpa using hlt
          go_wp2_with fail
          refine (HAW.out _).mono ?_
          rintro e wa ⟨rfl, hb⟩
          have BA : Hid (Below w.heap.size w wa) := hw.out.1.1.trans (hb.mono hw.out.1.1.size)
          clear hb
          go_wp2_with fail
          go_ret
          exact ⟨rfl, BA.out⟩
    · obtain ⟨hp0, hp1, hp2, hp3⟩ := inIm_iff.1 HIB.out
      obtain ⟨f1, f2, f3, f4⟩ := at_prod hp0 hp1 hp2 hp3 HSD.out.1 HSD.out.2.1
      obtain ⟨ka, hka⟩ : ∃ k, (py * W + px).toNat = k := ⟨_, rfl⟩
      obtain ⟨a1, ha1⟩ : ∃ y, py * W = y := ⟨_, rfl⟩
      rw [ha1] at f1 f2 f3 f4 hka
      have hn4 := HSD.out.2.2.2
      have hkn : ka < n := by have := HSD.out.2.2.1; omega
      have F1 : Hid (IntKind.i64.wrap (py * W) = a1) := Lib.hid (by rw [wrap_is, ha1]; exact wrapR _ (by omega) (by omega))
      have F2 : Hid (IntKind.i64.wrap (a1 + px) = (ka : Int)) := Lib.hid (by rw [wrap_is, wrapR _ (by omega) (by omega)]; omega)
      obtain ⟨x, hx⟩ : ∃ x, cAt l ka = x := ⟨_, rfl⟩
      obtain rfl : x = ca := by
        rw [← HCA.out, ← hx]
        unfold atC
        rw [if_pos HIB.out, ha1, hka]
      have hki : (ka : Int) < (n : Int) := by omega
      have hk0 : (0 : Int) ≤ (ka : Int) := by omega
      have hcell := HRC.out.2 ka x (by rw [← hx]; exact cAt_some (by rw [HN.out]; exact hkn))
      have HX8 : Hid (∀ A, Below wc.heap.size wc A → ColAt .u8 A rb (ro + ka * 4) x) := fun A hA => hcell.on (HA8.out A hA).1.1 HRC.out.1
      have EQ8 := equal_c8 x
      clear hn4 hp0 hp1 hp2 hp3 f1 f2 f3 f4 hka ha1 hkn hx hcell
      go_upto_region 8 with fail
      refine wp_region_quiet (C := Out wc) (by kernel_rfl) (by kernel_rfl) ⟨rfl, rfl, rfl, Nat.le_refl _, fun _ _ => rfl⟩ ?_
      refine BigFrame.wpQuiet_want rfl (fun K hK => ?_)
      refine quiet_val (.bool true) (fun w' hw' => by go_simp) (hK _ ?_)
      clear hK K
      simp only [Act.put, List.setIfInBounds_toArray, List.set_cons_zero, List.set_cons_succ]
      refine BigFrame.wpQuiet_want rfl (fun K hK => ?_)
      refine quiet_val (.bool true) (fun w' hw' => by go_simp) (hK _ ?_)
      clear hK K
      simp only [Act.put, List.setIfInBounds_toArray, List.set_cons_zero, List.set_cons_succ]
      refine BigFrame.wpQuiet_want rfl (fun K hK => ?_)
      refine quiet_val (.bool false) (fun w' hw' => by go_simp) (hK _ ?_)
      clear hK K
      simp only [Act.put, List.setIfInBounds_toArray, List.set_cons_zero, List.set_cons_succ]
      refine BigFrame.wpQuiet_want rfl (fun K hK => ?_)
      refine quiet_val (.bool false) (fun w' hw' => by go_simp) (hK _ ?_)
      clear hK K
      simp only [Act.put, List.setIfInBounds_toArray, List.set_cons_zero, List.set_cons_succ]
      refine BigFrame.wpQuiet_want rfl (fun K hK => ?_)
      refine quiet_val (.bool true) (fun w' hw' => by go_simp) (hK _ ?_)
      clear hK K
      simp only [Act.put, List.setIfInBounds_toArray, List.set_cons_zero, List.set_cons_succ]
      refine BigFrame.wpQuiet_want rfl (fun K hK => ?_)
      refine quiet_val (.bool true) (fun w' hw' => by go_simp) (hK _ ?_)
      clear hK K
      simp only [Act.put, List.setIfInBounds_toArray, List.set_cons_zero, List.set_cons_succ]
      refine BigFrame.wpQuiet_want rfl (fun K hK => ?_)
      refine quiet_val (.agg #[.int .u8 (x 0), .int .u8 (x 1), .int .u8 (x 2), .int .u8 (x 3)]) (fun w' hw' => by obtain ⟨c0, c1, c2, c3⟩ := Blk.c8 (HA8.out w' hw').2; go_simp) (hK _ ?_)
      clear hK K
      simp only [Act.put, List.setIfInBounds_toArray, List.set_cons_zero, List.set_cons_succ]
      refine BigFrame.wpQuiet_want rfl (fun K hK => ?_)
      refine quiet_val (.pointer (some ⟨w.heap.size, 2, none⟩)) (fun w' hw' => by go_simp) (hK _ ?_)
      clear hK K
      simp only [Act.put, List.setIfInBounds_toArray, List.set_cons_zero, List.set_cons_succ]
      refine BigFrame.wpQuiet_want rfl (fun K hK => ?_)
      refine quiet_val (.slice (some ⟨rb, ro, none⟩) n cp) (fun w' hw' => by obtain ⟨m0, m1, m2⟩ := CropM.im (HA8.out w' hw').1; go_simp) (hK _ ?_)
      clear hK K
      simp only [Act.put, List.setIfInBounds_toArray, List.set_cons_zero, List.set_cons_succ]
      refine BigFrame.wpQuiet_want rfl (fun K hK => ?_)
      refine quiet_val (.pointer (some ⟨w.heap.size + 1 + 1, 1, none⟩)) (fun w' hw' => by go_simp) (hK _ ?_)
      clear hK K
      simp only [Act.put, List.setIfInBounds_toArray, List.set_cons_zero, List.set_cons_succ]
      refine BigFrame.wpQuiet_want rfl (fun K hK => ?_)
      refine quiet_val (.int .i64 py) (fun w' hw' => by obtain ⟨p0, p1⟩ := CropM.pt (HA8.out w' hw').1; go_simp) (hK _ ?_)
      clear hK K
      simp only [Act.put, List.setIfInBounds_toArray, List.set_cons_zero, List.set_cons_succ]
      refine BigFrame.wpQuiet_want rfl (fun K hK => ?_)
      refine quiet_val (.pointer (some ⟨w.heap.size, 0, none⟩)) (fun w' hw' => by go_simp) (hK _ ?_)
      clear hK K
      simp only [Act.put, List.setIfInBounds_toArray, List.set_cons_zero, List.set_cons_succ]
      refine BigFrame.wpQuiet_want rfl (fun K hK => ?_)
      refine quiet_val (.int .i64 W) (fun w' hw' => by obtain ⟨m0, m1, m2⟩ := CropM.im (HA8.out w' hw').1; go_simp) (hK _ ?_)
      clear hK K
      simp only [Act.put, List.setIfInBounds_toArray, List.set_cons_zero, List.set_cons_succ]
      refine BigFrame.wpQuiet_want rfl (fun K hK => ?_)
      refine quiet_val (.int .i64 a1) (fun w' hw' => by have e := F1.out; go_simp) (hK _ ?_)
      clear hK K
      simp only [Act.put, List.setIfInBounds_toArray, List.set_cons_zero, List.set_cons_succ]
      refine BigFrame.wpQuiet_want rfl (fun K hK => ?_)
      refine quiet_val (.pointer (some ⟨w.heap.size + 1 + 1, 0, none⟩)) (fun w' hw' => by go_simp) (hK _ ?_)
      clear hK K
      simp only [Act.put, List.setIfInBounds_toArray, List.set_cons_zero, List.set_cons_succ]
      refine BigFrame.wpQuiet_want rfl (fun K hK => ?_)
      refine quiet_val (.int .i64 px) (fun w' hw' => by obtain ⟨p0, p1⟩ := CropM.pt (HA8.out w' hw').1; go_simp) (hK _ ?_)
      clear hK K
      simp only [Act.put, List.setIfInBounds_toArray, List.set_cons_zero, List.set_cons_succ]
      refine BigFrame.wpQuiet_want rfl (fun K hK => ?_)
      refine quiet_val (.int .i64 (ka : Int)) (fun w' hw' => by have e := F2.out; go_simp) (hK _ ?_)
      clear hK K
      simp only [Act.put, List.setIfInBounds_toArray, List.set_cons_zero, List.set_cons_succ]
      refine BigFrame.wpQuiet_want rfl (fun K hK => ?_)
      refine quiet_val (.pointer (some ⟨rb, ro + ka * 4, none⟩)) (fun w' hw' => by go_simp) (hK _ ?_)
      clear hK K
      simp only [Act.put, List.setIfInBounds_toArray, List.set_cons_zero, List.set_cons_succ]
      refine BigFrame.wpQuiet_want rfl (fun K hK => ?_)
      refine quiet_val (.agg #[.int .u8 (x 0), .int .u8 (x 1), .int .u8 (x 2), .int .u8 (x 3)]) (fun w' hw' => by obtain ⟨c0, c1, c2, c3⟩ := HX8.out w' hw'; go_simp) (hK _ ?_)
      clear hK K
      simp only [Act.put, List.setIfInBounds_toArray, List.set_cons_zero, List.set_cons_succ]
      refine BigFrame.wpQuiet_want rfl (fun K hK => ?_)
      refine quiet_val (.bool false) (fun w' hw' => by go_simp) (hK _ ?_)
      clear hK K
      simp only [Act.put, List.setIfInBounds_toArray, List.set_cons_zero, List.set_cons_succ]
      refine BigFrame.wpQuiet_want rfl (fun K hK => ?_)
      refine quiet_val (.bool false) (fun w' hw' => by go_simp) (hK _ ?_)
      clear hK K
      simp only [Act.put, List.setIfInBounds_toArray, List.set_cons_zero, List.set_cons_succ]
      refine BigFrame.wpQuiet_want rfl (fun K hK => ?_)
      refine quiet_val (.bool false) (fun w' hw' => by go_simp) (hK _ ?_)
      clear hK K
      simp only [Act.put, List.setIfInBounds_toArray, List.set_cons_zero, List.set_cons_succ]
      refine BigFrame.wpQuiet_want rfl (fun K hK => ?_)
      refine quiet_val (.bool false) (fun w' hw' => by go_simp) (hK _ ?_)
      clear hK K
      simp only [Act.put, List.setIfInBounds_toArray, List.set_cons_zero, List.set_cons_succ]
      refine BigFrame.wpQuiet_want rfl (fun K hK => ?_)
      refine quiet_val (.bool true) (fun w' hw' => by go_simp) (hK _ ?_)
      clear hK K
      simp only [Act.put, List.setIfInBounds_toArray, List.set_cons_zero, List.set_cons_succ]
      refine BigFrame.wpQuiet_want rfl (fun K hK => ?_)
      refine quiet_val (.bool false) (fun w' hw' => by go_simp) (hK _ ?_)
      clear hK K
      simp only [Act.put, List.setIfInBounds_toArray, List.set_cons_zero, List.set_cons_succ]
      refine BigFrame.wpQuiet_want rfl (fun K hK => ?_)
      refine quiet_val (.bool false) (fun w' hw' => by go_simp) (hK _ ?_)
      clear hK K
      simp only [Act.put, List.setIfInBounds_toArray, List.set_cons_zero, List.set_cons_succ]
      go_big_quiet_skip
      go_big_quiet_skip
      go_big_quiet_skip
      refine BigFrame.wpQuiet_want rfl (fun K hK => ?_)
      refine quiet_val (.bool false) (fun w' hw' => by go_simp) (hK _ ?_)
      clear hK K
      simp only [Act.put, List.setIfInBounds_toArray, List.set_cons_zero, List.set_cons_succ]
      refine BigFrame.wpQuiet_want rfl (fun K hK => ?_)
      refine quiet_val (.bool false) (fun w' hw' => by go_simp) (hK _ ?_)
      clear hK K
      simp only [Act.put, List.setIfInBounds_toArray, List.set_cons_zero, List.set_cons_succ]
      refine BigFrame.wpQuiet_want rfl (fun K hK => ?_)
      refine quiet_val (.bool false) (fun w' hw' => by go_simp) (hK _ ?_)
      clear hK K
      simp only [Act.put, List.setIfInBounds_toArray, List.set_cons_zero, List.set_cons_succ]
      refine BigFrame.wpQuiet_want rfl (fun K hK => ?_)
      refine quiet_val (.agg #[.int .i64 W, .int .i64 H, .slice (some ⟨rb, ro, none⟩) n cp]) (fun w' hw' => by obtain ⟨m0, m1, m2⟩ := CropM.im (HA8.out w' hw').1; go_simp) (hK _ ?_)
      clear hK K
      simp only [Act.put, List.setIfInBounds_toArray, List.set_cons_zero, List.set_cons_succ]
      refine BigFrame.wpQuiet_want rfl (fun K hK => ?_)
      refine quiet_call 24 #[.agg #[.int .i64 W, .int .i64 H, .slice (some ⟨rb, ro, none⟩) n cp]] (.agg #[.int .i64 0, .int .i64 0, .int .i64 W, .int .i64 H]) (fun w' _ => by go_simp) (fun w' hw' => Calls.out hw' (HBX.out w' (HA8.out w' hw').1.1)) (hK _ ?_)
      clear hK K
      simp only [Act.put, List.setIfInBounds_toArray, List.set_cons_zero, List.set_cons_succ]
      refine BigFrame.wpQuiet_want rfl (fun K hK => ?_)
      refine quiet_val (.pointer (some ⟨w.heap.size, 0, none⟩)) (fun w' hw' => by go_simp) (hK _ ?_)
      clear hK K
      simp only [Act.put, List.setIfInBounds_toArray, List.set_cons_zero, List.set_cons_succ]
      refine BigFrame.wpQuiet_want rfl (fun K hK => ?_)
      refine quiet_val (.int .i64 W) (fun w' hw' => by obtain ⟨m0, m1, m2⟩ := CropM.im (HA8.out w' hw').1; go_simp) (hK _ ?_)
      clear hK K
      simp only [Act.put, List.setIfInBounds_toArray, List.set_cons_zero, List.set_cons_succ]
      refine BigFrame.wpQuiet_want rfl (fun K hK => ?_)
      refine quiet_val (.pointer (some ⟨w.heap.size, 1, none⟩)) (fun w' hw' => by go_simp) (hK _ ?_)
      clear hK K
      simp only [Act.put, List.setIfInBounds_toArray, List.set_cons_zero, List.set_cons_succ]
      refine BigFrame.wpQuiet_want rfl (fun K hK => ?_)
      refine quiet_val (.int .i64 H) (fun w' hw' => by obtain ⟨m0, m1, m2⟩ := CropM.im (HA8.out w' hw').1; go_simp) (hK _ ?_)
      clear hK K
      simp only [Act.put, List.setIfInBounds_toArray, List.set_cons_zero, List.set_cons_succ]
      refine BigFrame.wpQuiet_want rfl (fun K hK => ?_)
      refine quiet_val (.agg #[.int .i64 0, .int .i64 0, .int .i64 W, .int .i64 H]) (fun w' hw' => by go_simp) (hK _ ?_)
      clear hK K
      simp only [Act.put, List.setIfInBounds_toArray, List.set_cons_zero, List.set_cons_succ]
      refine BigFrame.wpQuiet_want rfl (fun K hK => ?_)
      refine quiet_val (.bool false) (fun w' hw' => by go_simp) (hK _ ?_)
      clear hK K
      simp only [Act.put, List.setIfInBounds_toArray, List.set_cons_zero, List.set_cons_succ]
      refine BigFrame.wpQuiet_want rfl (fun K hK => ?_)
      refine quiet_val (.bool false) (fun w' hw' => by go_simp) (hK _ ?_)
      clear hK K
      simp only [Act.put, List.setIfInBounds_toArray, List.set_cons_zero, List.set_cons_succ]
      refine wpQuiet_nil ?_
      intro w6 hb
      have M6 := Lib.hid (M5.out.1.grow hb)
      clear hb M5 HA8
      obtain ⟨m0, m1, m2⟩ := CropM.im M6.out
      obtain ⟨b0, b1, b2, b3⟩ := CropM.bx M6.out
      go_wp2_with fail
      refine (HCR.out _ M6.out.1).mono ?_
      rintro e w7 ⟨v, rfl, hv, hb⟩
      have M7 := Lib.hid (M6.out.grow hb)
      obtain ⟨va, vc, e0⟩ := hv.shape
      rw [HPL.out] at e0
      subst e0
      obtain ⟨qb, qo, hqa, hqb, hqc⟩ := RowK.addr (show RowK .u8 w7 (.slice va CL.length vc) CL by rw [HPL.out]; exact hv) (by rw [HPL.out]; exact HPP.out)
      subst hqa
      have HQC : Hid (qb < w7.heap.size ∧ ∀ i p, CL[i]? = some p → ColAt .u8 w7 qb (qo + i * 4) p) := ⟨hqb, hqc⟩
      have HCK7 := Lib.hid (fun A (hA : Below w7.heap.size w7 A) => HCK.out A _ (hv.on hA))
      clear hb hv hqb hqc m0 m1 m2 b0 b1 b2 b3 M6
      go_upto_region 11 with fail
      obtain ⟨w8, hw⟩ : ∃ WW, w7.alloc (.cells #[.int .i64 cw, .int .i64 ch, .slice (some ⟨qb, qo, none⟩) pn vc] 24) = WW := ⟨_, rfl⟩
      have B78 : Hid (Below w7.heap.size w7 w8) := by
        rw [← hw]
        exact (Below.refl _ _).alloc (Nat.le_refl _) _
      have M8 : Hid (CropM w W H (.slice (some ⟨rb, ro, none⟩) n cp) x0 y0 x1 y1 px py w8 ∧ Blk w8 w7.heap.size 24 #[.int .i64 cw, .int .i64 ch, .slice (some ⟨qb, qo, none⟩) pn vc] ∧ Below w7.heap.size w7 w8) := ⟨M7.out.grow B78.out, by rw [← hw]; exact Blk.new _ _ _, B78.out⟩
      rw [hw]
      clear hw M7 B78
      generalize hg12 : w7.heap.size = g12 at *
      have M8 : Hid (CropM w W H (.slice (some ⟨rb, ro, none⟩) n cp) x0 y0 x1 y1 px py w8 ∧ Blk w8 g12 24 #[.int .i64 cw, .int .i64 ch, .slice (some ⟨qb, qo, none⟩) pn vc] ∧ Below w7.heap.size w7 w8) := by
        rw [hg12]
        exact M8.out
      rw [← hg12] at HQC HCK7
      obtain ⟨t1, t2, t3, t4, t5, t6⟩ := HBB.out
      have d1 : decide (x0 < 0) = false := by simp; omega
      have d2 : decide (y0 < 0) = false := by simp; omega
      have d3 : decide (x1 > W) = false := by simp; omega
      have d4 : decide (y1 > H) = false := by simp; omega
      have d5 : decide (x0 ≥ x1) = false := by simp; omega
      have d6 : decide (y0 ≥ y1) = false := by simp; omega
      have E1 := HCW.out
      have E2 := HCH.out
      clear t1 t2 t3 t4 t5 t6 hg12
      obtain ⟨m0, m1, m2⟩ := CropM.im M8.out.1
      obtain ⟨b0, b1, b2, b3⟩ := CropM.bx M8.out.1
      obtain ⟨i0, i1, i2⟩ := Blk.im3 M8.out.2.1
      go_wp2_with fail
      refine (HCK7.out _ M8.out.2.2).mono ?_
      rintro e w9 ⟨rfl, hb⟩
      have M9 : Hid (CropM w W H (.slice (some ⟨rb, ro, none⟩) n cp) x0 y0 x1 y1 px py w9 ∧ Blk w9 g12 24 #[.int .i64 cw, .int .i64 ch, .slice (some ⟨qb, qo, none⟩) pn vc] ∧ Below w7.heap.size w7 w9) := ⟨M8.out.1.grow hb, M8.out.2.1.grow hb, M8.out.2.2.trans (hb.mono M8.out.2.2.size)⟩
      clear hb i0 i1 i2 m0 m1 m2 b0 b1 b2 b3 d1 d2 d3 d4 d5 d6 E1 E2 M8
      obtain ⟨i0, i1, i2⟩ := Blk.im3 M9.out.2.1
      go_wp2_with fail
      clear i0 i1 i2
      have hch9 : ch ≤ 256 := by have := HWD.out; have := HSD.out; omega
      have hcw9 : cw ≤ 256 := by have := HWD.out; have := HSD.out; omega
      go_loopw [187] (fun i wr => ∃ j : Nat, (j : Int) ≤ ch ∧ i = .int .i64 (j : Int) ∧ Hid (CropM w W H (.slice (some ⟨rb, ro, none⟩) n cp) x0 y0 x1 y1 px py wr ∧ Blk wr g12 24 #[.int .i64 cw, .int .i64 ch, .slice (some ⟨qb, qo, none⟩) pn vc] ∧ Below w7.heap.size w7 wr)) (fun i _ => ch.toNat - (intOf i).toNat)
      case atStart => exact ⟨0, by have := HPC.out; omega, rfl, M9.out⟩
      case round =>
        obtain ⟨j, hj, rfl, hw⟩ := hrel
        obtain ⟨w2, rfl⟩ : ∃ x, x = wr := ⟨_, rfl⟩
        by_cases hlt : (j : Int) < ch
        · have hd : decide ((j : Int) < ch) = true := by simpa using hlt
          have hji : 0 ≤ (j : Int) ∧ (j : Int) < ch := by omega
          obtain ⟨i0, i1, i2⟩ := Blk.im3 hw.out.2.1
          go_wp2_with fail
          clear i0 i1 i2
          go_loopw [192] (fun i wr => ∃ k : Nat, (k : Int) ≤ cw ∧ i = .int .i64 (k : Int) ∧ Hid (CropM w W H (.slice (some ⟨rb, ro, none⟩) n cp) x0 y0 x1 y1 px py wr ∧ Blk wr g12 24 #[.int .i64 cw, .int .i64 ch, .slice (some ⟨qb, qo, none⟩) pn vc] ∧ Below w7.heap.size w7 wr)) (fun i _ => cw.toNat - (intOf i).toNat)
          case atStart => exact ⟨0, by have := HPC.out; omega, rfl, hw.out⟩
          case round =>
            obtain ⟨k, hk, rfl, hv⟩ := hrel
            by_cases hkl : (k : Int) < cw
            · have hd2 : decide ((k : Int) < cw) = true := by simpa using hkl
              have hki2 : 0 ≤ (k : Int) ∧ (k : Int) < cw := by omega
              obtain ⟨g1, g2, g3⟩ := HPX.out (k : Int) (j : Int) hki2 hji
              obtain ⟨h1, h2, h3, h4, h5, h6⟩ := HBB.out
              have hdx := HDX.out
              have hwd := HWD.out
              have hsd := HSD.out
              obtain ⟨u1, u2, u3, u4⟩ := at_prod (px := x0 + (k : Int)) (py := y0 + (j : Int)) (oW := W) (oH := H) (by omega) (by omega) (by omega) (by omega) hsd.1 hsd.2.1
              obtain ⟨a1, ha1⟩ : ∃ y, (j : Int) * cw = y := ⟨_, rfl⟩
              obtain ⟨a2, ha2⟩ : ∃ y, y0 + (j : Int) = y := ⟨_, rfl⟩
              rw [ha2] at g3 u1 u2 u3 u4
              obtain ⟨a3, ha3⟩ : ∃ y, a2 * W = y := ⟨_, rfl⟩
              rw [ha3] at g3 u1 u2 u3 u4
              obtain ⟨a4, ha4⟩ : ∃ y, a3 + x0 = y := ⟨_, rfl⟩
              rw [ha4] at g3
              rw [ha1] at g1 g2 g3
              have hlp := HPN.out
              have v1 : 0 ≤ a1 := by rw [← ha1]; exact Int.mul_nonneg (by omega) (by omega)
              obtain ⟨ka, hka⟩ : ∃ i, (a1 + (k : Int)).toNat = i := ⟨_, rfl⟩
              obtain ⟨kb, hkb⟩ : ∃ i, (a4 + (k : Int)).toNat = i := ⟨_, rfl⟩
              rw [hka, hkb] at g3
              have F1 : Hid (IntKind.i64.wrap ((j : Int) * cw) = a1) := Lib.hid (by rw [wrap_is, ha1]; exact wrapR _ (by omega) (by omega))
              have F2 : Hid (IntKind.i64.wrap (a1 + (k : Int)) = (ka : Int)) := Lib.hid (by rw [wrap_is, wrapR _ (by omega) (by omega)]; omega)
              have F3 : Hid (IntKind.i64.wrap (y0 + (j : Int)) = a2) := Lib.hid (by rw [wrap_is, ha2]; exact wrapR _ (by omega) (by omega))
              have F4 : Hid (IntKind.i64.wrap (a2 * W) = a3) := Lib.hid (by rw [wrap_is, ha3]; exact wrapR _ (by omega) (by omega))
              have F5 : Hid (IntKind.i64.wrap (a3 + x0) = a4) := Lib.hid (by rw [wrap_is, ha4]; exact wrapR _ (by omega) (by omega))
              have F6 : Hid (IntKind.i64.wrap (a4 + (k : Int)) = (kb : Int)) := Lib.hid (by rw [wrap_is, wrapR _ (by omega) (by omega)]; omega)
              have i1 : (ka : Int) < (pn : Int) := by omega
              have i2 : (kb : Int) < (n : Int) := by omega
              have i3 : (0 : Int) ≤ (ka : Int) := by omega
              have i4 : (0 : Int) ≤ (kb : Int) := by omega
              obtain ⟨x, hx⟩ : ∃ x, cAt l kb = x := ⟨_, rfl⟩
              rw [hx] at g3
              have HA9 : Hid (∀ A, Below wr.heap.size wr A → (CropM w W H (.slice (some ⟨rb, ro, none⟩) n cp) x0 y0 x1 y1 px py A ∧ Blk A g12 24 #[.int .i64 cw, .int .i64 ch, .slice (some ⟨qb, qo, none⟩) pn vc] ∧ Below w7.heap.size w7 A)) := fun A hA => ⟨hv.out.1.grow hA, hv.out.2.1.grow hA, hv.out.2.2.trans (hA.mono hv.out.2.2.size)⟩
              have HXA : Hid (∀ A, Below wr.heap.size wr A → ColAt .u8 A qb (qo + ka * 4) x) := fun A hA => (HQC.out.2 ka x (by rw [← g3]; exact cAt_some (by rw [HPL.out]; omega))).on (HA9.out A hA).2.2 HQC.out.1
              have HXB : Hid (∀ A, Below wr.heap.size wr A → ColAt .u8 A rb (ro + kb * 4) x) := fun A hA => (HRC.out.2 kb x (by rw [← hx]; exact cAt_some (by rw [HN.out]; omega))).on (HA9.out A hA).1.1 HRC.out.1
              have EQ8 := equal_c8 x
              clear hdx hwd hki2 g1 g2 g3 h1 h2 h3 h4 h5 h6 hsd u1 u2 u3 u4 ha1 ha2 ha3 ha4 hlp v1 hka hkb hx
              go_upto_region 21 with fail
              refine wp_region_quiet (C := Out wr) (by kernel_rfl) (by kernel_rfl) ⟨rfl, rfl, rfl, Nat.le_refl _, fun _ _ => rfl⟩ ?_
              refine BigFrame.wpQuiet_want rfl (fun K hK => ?_)
              refine quiet_val (.pointer (some ⟨g12, 2, none⟩)) (fun w' hw' => by go_simp) (hK _ ?_)
              clear hK K
              simp only [Act.put, List.setIfInBounds_toArray, List.set_cons_zero, List.set_cons_succ]
              refine BigFrame.wpQuiet_want rfl (fun K hK => ?_)
              refine quiet_val (.slice (some ⟨qb, qo, none⟩) pn vc) (fun w' hw' => by obtain ⟨m0, m1, m2⟩ := Blk.im3 (HA9.out w' hw').2.1; go_simp) (hK _ ?_)
              clear hK K
              simp only [Act.put, List.setIfInBounds_toArray, List.set_cons_zero, List.set_cons_succ]
              refine BigFrame.wpQuiet_want rfl (fun K hK => ?_)
              refine quiet_val (.int .i64 (j : Int)) (fun w' hw' => by go_simp) (hK _ ?_)
              clear hK K
              simp only [Act.put, List.setIfInBounds_toArray, List.set_cons_zero, List.set_cons_succ]
              refine BigFrame.wpQuiet_want rfl (fun K hK => ?_)
              refine quiet_val (.pointer (some ⟨g12, 0, none⟩)) (fun w' hw' => by go_simp) (hK _ ?_)
              clear hK K
              simp only [Act.put, List.setIfInBounds_toArray, List.set_cons_zero, List.set_cons_succ]
              refine BigFrame.wpQuiet_want rfl (fun K hK => ?_)
              refine quiet_val (.int .i64 cw) (fun w' hw' => by obtain ⟨m0, m1, m2⟩ := Blk.im3 (HA9.out w' hw').2.1; go_simp) (hK _ ?_)
              clear hK K
              simp only [Act.put, List.setIfInBounds_toArray, List.set_cons_zero, List.set_cons_succ]
              refine BigFrame.wpQuiet_want rfl (fun K hK => ?_)
              refine quiet_val (.int .i64 a1) (fun w' hw' => by have e := F1.out; go_simp) (hK _ ?_)
              clear hK K
              simp only [Act.put, List.setIfInBounds_toArray, List.set_cons_zero, List.set_cons_succ]
              refine BigFrame.wpQuiet_want rfl (fun K hK => ?_)
              refine quiet_val (.int .i64 (k : Int)) (fun w' hw' => by go_simp) (hK _ ?_)
              clear hK K
              simp only [Act.put, List.setIfInBounds_toArray, List.set_cons_zero, List.set_cons_succ]
              refine BigFrame.wpQuiet_want rfl (fun K hK => ?_)
              refine quiet_val (.int .i64 (ka : Int)) (fun w' hw' => by have e := F2.out; go_simp) (hK _ ?_)
              clear hK K
              simp only [Act.put, List.setIfInBounds_toArray, List.set_cons_zero, List.set_cons_succ]
              refine BigFrame.wpQuiet_want rfl (fun K hK => ?_)
              refine quiet_val (.pointer (some ⟨qb, qo + ka * 4, none⟩)) (fun w' hw' => by go_simp) (hK _ ?_)
              clear hK K
              simp only [Act.put, List.setIfInBounds_toArray, List.set_cons_zero, List.set_cons_succ]
              refine BigFrame.wpQuiet_want rfl (fun K hK => ?_)
              refine quiet_val (.agg #[.int .u8 (x 0), .int .u8 (x 1), .int .u8 (x 2), .int .u8 (x 3)]) (fun w' hw' => by obtain ⟨c0, c1, c2, c3⟩ := HXA.out w' hw'; go_simp) (hK _ ?_)
              clear hK K
              simp only [Act.put, List.setIfInBounds_toArray, List.set_cons_zero, List.set_cons_succ]
              refine BigFrame.wpQuiet_want rfl (fun K hK => ?_)
              refine quiet_val (.pointer (some ⟨w.heap.size, 2, none⟩)) (fun w' hw' => by go_simp) (hK _ ?_)
              clear hK K
              simp only [Act.put, List.setIfInBounds_toArray, List.set_cons_zero, List.set_cons_succ]
              refine BigFrame.wpQuiet_want rfl (fun K hK => ?_)
              refine quiet_val (.slice (some ⟨rb, ro, none⟩) n cp) (fun w' hw' => by obtain ⟨m0, m1, m2⟩ := CropM.im (HA9.out w' hw').1; go_simp) (hK _ ?_)
              clear hK K
              simp only [Act.put, List.setIfInBounds_toArray, List.set_cons_zero, List.set_cons_succ]
              refine BigFrame.wpQuiet_want rfl (fun K hK => ?_)
              refine quiet_val (.pointer (some ⟨w.heap.size + 1, 1, none⟩)) (fun w' hw' => by go_simp) (hK _ ?_)
              clear hK K
              simp only [Act.put, List.setIfInBounds_toArray, List.set_cons_zero, List.set_cons_succ]
              refine BigFrame.wpQuiet_want rfl (fun K hK => ?_)
              refine quiet_val (.int .i64 y0) (fun w' hw' => by obtain ⟨b0, b1, b2, b3⟩ := CropM.bx (HA9.out w' hw').1; go_simp) (hK _ ?_)
              clear hK K
              simp only [Act.put, List.setIfInBounds_toArray, List.set_cons_zero, List.set_cons_succ]
              refine BigFrame.wpQuiet_want rfl (fun K hK => ?_)
              refine quiet_val (.int .i64 (j : Int)) (fun w' hw' => by go_simp) (hK _ ?_)
              clear hK K
              simp only [Act.put, List.setIfInBounds_toArray, List.set_cons_zero, List.set_cons_succ]
              refine BigFrame.wpQuiet_want rfl (fun K hK => ?_)
              refine quiet_val (.int .i64 a2) (fun w' hw' => by have e := F3.out; go_simp) (hK _ ?_)
              clear hK K
              simp only [Act.put, List.setIfInBounds_toArray, List.set_cons_zero, List.set_cons_succ]
              refine BigFrame.wpQuiet_want rfl (fun K hK => ?_)
              refine quiet_val (.pointer (some ⟨w.heap.size, 0, none⟩)) (fun w' hw' => by go_simp) (hK _ ?_)
              clear hK K
              simp only [Act.put, List.setIfInBounds_toArray, List.set_cons_zero, List.set_cons_succ]
              refine BigFrame.wpQuiet_want rfl (fun K hK => ?_)
              refine quiet_val (.int .i64 W) (fun w' hw' => by obtain ⟨m0, m1, m2⟩ := CropM.im (HA9.out w' hw').1; go_simp) (hK _ ?_)
              clear hK K
              simp only [Act.put, List.setIfInBounds_toArray, List.set_cons_zero, List.set_cons_succ]
              refine BigFrame.wpQuiet_want rfl (fun K hK => ?_)
              refine quiet_val (.int .i64 a3) (fun w' hw' => by have e := F4.out; go_simp) (hK _ ?_)
              clear hK K
              simp only [Act.put, List.setIfInBounds_toArray, List.set_cons_zero, List.set_cons_succ]
              refine BigFrame.wpQuiet_want rfl (fun K hK => ?_)
              refine quiet_val (.pointer (some ⟨w.heap.size + 1, 0, none⟩)) (fun w' hw' => by go_simp) (hK _ ?_)
              clear hK K
              simp only [Act.put, List.setIfInBounds_toArray, List.set_cons_zero, List.set_cons_succ]
              refine BigFrame.wpQuiet_want rfl (fun K hK => ?_)
              refine quiet_val (.int .i64 x0) (fun w' hw' => by obtain ⟨b0, b1, b2, b3⟩ := CropM.bx (HA9.out w' hw').1; go_simp) (hK _ ?_)
              clear hK K
              simp only [Act.put, List.setIfInBounds_toArray, List.set_cons_zero, List.set_cons_succ]
              refine BigFrame.wpQuiet_want rfl (fun K hK => ?_)
              refine quiet_val (.int .i64 a4) (fun w' hw' => by have e := F5.out; go_simp) (hK _ ?_)
              clear hK K
              simp only [Act.put, List.setIfInBounds_toArray, List.set_cons_zero, List.set_cons_succ]
              refine BigFrame.wpQuiet_want rfl (fun K hK => ?_)
              refine quiet_val (.int .i64 (k : Int)) (fun w' hw' => by go_simp) (hK _ ?_)
              clear hK K
              simp only [Act.put, List.setIfInBounds_toArray, List.set_cons_zero, List.set_cons_succ]
              refine BigFrame.wpQuiet_want rfl (fun K hK => ?_)
              refine quiet_val (.int .i64 (kb : Int)) (fun w' hw' => by have e := F6.out; go_simp) (hK _ ?_)
              clear hK K
              simp only [Act.put, List.setIfInBounds_toArray, List.set_cons_zero, List.set_cons_succ]
              refine BigFrame.wpQuiet_want rfl (fun K hK => ?_)
              refine quiet_val (.pointer (some ⟨rb, ro + kb * 4, none⟩)) (fun w' hw' => by go_simp) (hK _ ?_)
              clear hK K
              simp only [Act.put, List.setIfInBounds_toArray, List.set_cons_zero, List.set_cons_succ]
              refine BigFrame.wpQuiet_want rfl (fun K hK => ?_)
              refine quiet_val (.agg #[.int .u8 (x 0), .int .u8 (x 1), .int .u8 (x 2), .int .u8 (x 3)]) (fun w' hw' => by obtain ⟨c0, c1, c2, c3⟩ := HXB.out w' hw'; go_simp) (hK _ ?_)
              clear hK K
              simp only [Act.put, List.setIfInBounds_toArray, List.set_cons_zero, List.set_cons_succ]
              refine BigFrame.wpQuiet_want rfl (fun K hK => ?_)
              refine quiet_val (.bool false) (fun w' hw' => by go_simp) (hK _ ?_)
              clear hK K
              simp only [Act.put, List.setIfInBounds_toArray, List.set_cons_zero, List.set_cons_succ]
              refine wpQuiet_nil ?_
              intro w9 hb
              have M9 : Hid (CropM w W H (.slice (some ⟨rb, ro, none⟩) n cp) x0 y0 x1 y1 px py w9 ∧ Blk w9 g12 24 #[.int .i64 cw, .int .i64 ch, .slice (some ⟨qb, qo, none⟩) pn vc] ∧ Below w7.heap.size w7 w9) := HA9.out w9 hb
              clear hb HA9 HXA HXB
              go_wp2_with fail
              exact ⟨⟨k + 1, by omega, by go_num, M9.out⟩, by simp [intOf]; omega⟩
            · have hd2 : decide ((k : Int) < cw) = false := by simpa using hkl
              go_wp2_with fail
              exact ⟨⟨j + 1, by omega, by go_num, hv.out⟩, by simp [intOf]; omega⟩
        · have hd : decide ((j : Int) < ch) = false := by simpa using hlt
          go_wp2_with fail
          refine (HAW.out _).mono ?_
          rintro e wa ⟨rfl, hb⟩
          have BA : Hid (Below w.heap.size w wa) := hw.out.1.1.trans (hb.mono hw.out.1.1.size)
          clear hb
          go_wp2_with fail
          go_ret
          exact ⟨rfl, BA.out⟩
theorem imageCrops_law (AW : AwakeOk) (CK : CheckOk) (AT : AtOk) (BX : BoxOk) (CR : CropOk) (W H x0 y0 x1 y1 px py : Int) (s : Value) (l : List Col) (w : World) (row : RowK .u8 w s l) (hcs : Hid (CapS s)) (hok : ∀ c ∈ l, OkC c) : Calls Try.prog 5 #[.agg #[.int .i64 W, .int .i64 H, s], .agg #[.int .i64 x0, .int .i64 y0, .int .i64 x1, .int .i64 y1], .agg #[.int .i64 px, .int .i64 py]] w fun e w' => e = .returned (.bool true) ∧ Below w.heap.size w w' := by
  by_cases h : 400 < l.length
  · exact imageCrops_big AW W H x0 y0 x1 y1 px py s l w row h
  have h4 : l.length ≤ 400 := by omega
  cases hr : rightIm W H l with
  | false => exact imageCrops_n AW CR W H x0 y0 x1 y1 px py s l w row hcs hok h4 hr
  | true =>
    cases hcb : cropB W H x0 y0 x1 y1 with
    | true => exact imageCrops_bad AW AT BX CR W H x0 y0 x1 y1 px py s l w row hcs hok h4 hr hcb
    | false => exact imageCrops_good AW CK AT BX CR W H x0 y0 x1 y1 px py s l w row hcs hok h4 hr hcb
end Go.Proofs.Ytoppmlfibllhlaa

