/- Layer 11: the law ImageCrops, its refused cases. -/
import Derived.Test.YtoppmlfibllhlaaKc
import Derived.BigQuiet
import Derived.Deep.CutRange
namespace Go.Proofs.Ytoppmlfibllhlaa
open Go.RowKit
def CropM (w : World) (W H : Int) (s : Value) (x0 y0 x1 y1 px py : Int) (A : World) : Prop := Below w.heap.size w A ∧ Blk A w.heap.size 24 #[.int .i64 W, .int .i64 H, s] ∧ Blk A (w.heap.size + 1) 26 #[.int .i64 x0, .int .i64 y0, .int .i64 x1, .int .i64 y1] ∧ Blk A (w.heap.size + 1 + 1) 52 #[.int .i64 px, .int .i64 py]
theorem CropM.grow {w A B : World} {W H x0 y0 x1 y1 px py : Int} {s : Value} (h : CropM w W H s x0 y0 x1 y1 px py A) (hb : Below A.heap.size A B) : CropM w W H s x0 y0 x1 y1 px py B := ⟨h.1.trans (hb.mono h.1.size), h.2.1.grow hb, h.2.2.1.grow hb, h.2.2.2.grow hb⟩
theorem CropM.start (w : World) (W H : Int) (s : Value) (x0 y0 x1 y1 px py : Int) : CropM w W H s x0 y0 x1 y1 px py (((w.alloc (.cells #[.int .i64 W, .int .i64 H, s] 24)).alloc (.cells #[.int .i64 x0, .int .i64 y0, .int .i64 x1, .int .i64 y1] 26)).alloc (.cells #[.int .i64 px, .int .i64 py] 52)) :=
  ⟨(((Below.refl _ _).alloc (Nat.le_refl _) _).alloc (by simp) _).alloc (by simp; omega) _, ((Blk.new _ _ _).alloc _).alloc _, (Blk.newAt _ _ _ (by simp)).alloc _, Blk.newAt _ _ _ (by simp)⟩
theorem CropM.im {w A : World} {W H x0 y0 x1 y1 px py : Int} {s : Value} (h : CropM w W H s x0 y0 x1 y1 px py A) : A.cell? ⟨w.heap.size, 0, none⟩ = some (.int .i64 W) ∧ A.cell? ⟨w.heap.size, 1, none⟩ = some (.int .i64 H) ∧ A.cell? ⟨w.heap.size, 2, none⟩ = some s := ⟨h.2.1.cell 0, h.2.1.cell 1, h.2.1.cell 2⟩
theorem CropM.bx {w A : World} {W H x0 y0 x1 y1 px py : Int} {s : Value} (h : CropM w W H s x0 y0 x1 y1 px py A) : A.cell? ⟨w.heap.size + 1, 0, none⟩ = some (.int .i64 x0) ∧ A.cell? ⟨w.heap.size + 1, 1, none⟩ = some (.int .i64 y0) ∧ A.cell? ⟨w.heap.size + 1, 2, none⟩ = some (.int .i64 x1) ∧ A.cell? ⟨w.heap.size + 1, 3, none⟩ = some (.int .i64 y1) := ⟨h.2.2.1.cell 0, h.2.2.1.cell 1, h.2.2.1.cell 2, h.2.2.1.cell 3⟩
theorem CropM.pt {w A : World} {W H x0 y0 x1 y1 px py : Int} {s : Value} (h : CropM w W H s x0 y0 x1 y1 px py A) : A.cell? ⟨w.heap.size + 1 + 1, 0, none⟩ = some (.int .i64 px) ∧ A.cell? ⟨w.heap.size + 1 + 1, 1, none⟩ = some (.int .i64 py) := ⟨h.2.2.2.cell 0, h.2.2.2.cell 1⟩
theorem Blk.im3 {w : World} {g : Nat} {t : TypeId} {x y z : Value} (h : Blk w g t #[x, y, z]) : w.cell? ⟨g, 0, none⟩ = some x ∧ w.cell? ⟨g, 1, none⟩ = some y ∧ w.cell? ⟨g, 2, none⟩ = some z := ⟨h.cell 0, h.cell 1, h.cell 2⟩
theorem Blk.c8 {w : World} {g : Nat} {t : TypeId} {c : Col} (h : Blk w g t (c8 c)) : w.cell? ⟨g, 0, none⟩ = some (.int .u8 (c 0)) ∧ w.cell? ⟨g, 1, none⟩ = some (.int .u8 (c 1)) ∧ w.cell? ⟨g, 2, none⟩ = some (.int .u8 (c 2)) ∧ w.cell? ⟨g, 3, none⟩ = some (.int .u8 (c 3)) := ⟨h.cell 0, h.cell 1, h.cell 2, h.cell 3⟩
set_option maxHeartbeats 8000000 in
set_option maxRecDepth 100000 in
theorem imageCrops_big (AW : AwakeOk) (W H x0 y0 x1 y1 px py : Int) (s : Value) (l : List Col) (w : World) (row : RowK .u8 w s l) (h : 400 < l.length) : Calls Try.prog 5 #[.agg #[.int .i64 W, .int .i64 H, s], .agg #[.int .i64 x0, .int .i64 y0, .int .i64 x1, .int .i64 y1], .agg #[.int .i64 px, .int .i64 py]] w fun e w' => e = .returned (.bool true) ∧ Below w.heap.size w w' := by
  have HAW := Lib.hid AW
  obtain ⟨ao, cp, rfl⟩ := row.shape
  obtain ⟨n, hn⟩ : ∃ n, l.length = n := ⟨_, rfl⟩
  rw [hn] at h ⊢
  have HSM := Lib.hid (small_c W H ao n cp)
  rw [decide_eq_false (by omega)] at HSM
  clear row hn h
  go_enter Try.func5, Try.ntmps5
  go_wp2_with fail
  refine (HSM.out _).mono ?_
  rintro e w1 ⟨rfl, hb⟩
  have M1 : Hid (CropM w W H (.slice ao n cp) x0 y0 x1 y1 px py w1) := (CropM.start w W H (.slice ao n cp) x0 y0 x1 y1 px py).grow hb
  clear hb
  go_wp2_with fail
  refine (HAW.out _).mono ?_
  rintro e wa ⟨rfl, hb⟩
  have BA : Hid (Below w.heap.size w wa) := M1.out.1.trans (hb.mono M1.out.1.size)
  clear hb
  go_wp2_with fail
  go_ret
  exact ⟨rfl, BA.out⟩
set_option maxHeartbeats 8000000 in
set_option maxRecDepth 100000 in
theorem imageCrops_n (AW : AwakeOk) (CR : CropOk) (W H x0 y0 x1 y1 px py : Int) (s : Value) (l : List Col) (w : World) (row : RowK .u8 w s l) (hcs : Hid (CapS s)) (hok : ∀ c ∈ l, OkC c) (h : l.length ≤ 400) (hr : rightIm W H l = false) : Calls Try.prog 5 #[.agg #[.int .i64 W, .int .i64 H, s], .agg #[.int .i64 x0, .int .i64 y0, .int .i64 x1, .int .i64 y1], .agg #[.int .i64 px, .int .i64 py]] w fun e w' => e = .returned (.bool true) ∧ Below w.heap.size w w' := by
  have HAW := Lib.hid AW
  have HRF : Hid (∀ A, Below w.heap.size w A → Calls Try.prog 11 #[.agg #[.int .i64 W, .int .i64 H, s]] A fun e w' => ∃ u, e = .returned (.agg #[.int .i64 W, .int .i64 H, u]) ∧ OwnK .i64 w' A.heap.size 43 u l ∧ Below A.heap.size A w') := fun A hA => lawRef_c W H _ l A (row.on hA) hok (by omega)
  have HRT : Hid (∀ A u, RowK .i64 A u l → Calls Try.prog 13 #[.agg #[.int .i64 W, .int .i64 H, u]] A fun e w' => e = .returned (.bool false) ∧ Below A.heap.size A w') := fun A u hu => by
    have h2 := ref11Right_c W H u l A hu
    rw [hr] at h2
    exact h2
  have HCR : Hid (∀ A, Below w.heap.size w A → Calls Try.prog 22 #[.agg #[.int .i64 W, .int .i64 H, s], .agg #[.int .i64 x0, .int .i64 y0, .int .i64 x1, .int .i64 y1]] A fun e w' => ToldIm A 0 0 [] 30 e w') := fun A hA => (CR W H x0 y0 x1 y1 s l A (row.on hA) hcs hok h).mono fun e w' h' => h'.2 (by rw [hr]; rfl)
  obtain ⟨ao, cp, rfl⟩ := row.shape
  obtain ⟨n, hn⟩ : ∃ n, l.length = n := ⟨_, rfl⟩
  have HSM := Lib.hid (small_c W H ao n cp)
  rw [decide_eq_true (by omega)] at HSM
  have HN := Lib.hid hn
  rw [hn] at HRF HCR ⊢
  clear row hok h hr hn
  go_enter Try.func5, Try.ntmps5
  go_wp2_with fail
  refine (HSM.out _).mono ?_
  rintro e w1 ⟨rfl, hb⟩
  have M1 : Hid (CropM w W H (.slice ao n cp) x0 y0 x1 y1 px py w1) := (CropM.start w W H (.slice ao n cp) x0 y0 x1 y1 px py).grow hb
  clear hb
  obtain ⟨m0, m1, m2⟩ := CropM.im M1.out
  go_wp2_with fail
  refine (HRF.out _ M1.out.1).mono ?_
  rintro e w2 ⟨u, rfl, hu, hb⟩
  have M2 := Lib.hid (M1.out.grow hb)
  have HU := Lib.hid hu.row
  clear hb hu m0 m1 m2 M1
  go_wp2_with fail
  refine (HRT.out _ _ HU.out).mono ?_
  rintro e w3 ⟨rfl, hb⟩
  have M3 := Lib.hid (M2.out.grow hb)
  clear hb HU M2
  obtain ⟨m0, m1, m2⟩ := CropM.im M3.out
  obtain ⟨b0, b1, b2, b3⟩ := CropM.bx M3.out
  go_wp2_with fail
  refine (HCR.out _ M3.out.1).mono ?_
  rintro e w4 ⟨v, rfl, hv, hb⟩
  have B4' := Lib.hid (M3.out.1.trans (hb.mono M3.out.1.size))
  obtain ⟨va, vc, e0⟩ := hv.shape
  simp only [List.length_nil] at e0
  subst e0
  clear hb hv m0 m1 m2 b0 b1 b2 b3
  go_wp2_with fail
  refine (HAW.out _).mono ?_
  rintro e wa ⟨rfl, hb⟩
  have BA : Hid (Below w.heap.size w wa) := (B4'.out.alloc B4'.out.size _).trans (hb.mono (by have := B4'.out.size; simp; omega))
  clear hb
  go_wp2_with fail
  go_ret
  exact ⟨rfl, BA.out⟩
theorem inIm_iff {W H x y : Int} : inIm W H x y = true ↔ 0 ≤ x ∧ x < W ∧ 0 ≤ y ∧ y < H := by unfold inIm; simp [and_assoc]
set_option maxHeartbeats 8000000 in
set_option maxRecDepth 100000 in
theorem imageCrops_bad (AW : AwakeOk) (AT : AtOk) (BX : BoxOk) (CR : CropOk) (W H x0 y0 x1 y1 px py : Int) (s : Value) (l : List Col) (w : World) (row : RowK .u8 w s l) (hcs : Hid (CapS s)) (hok : ∀ c ∈ l, OkC c) (h : l.length ≤ 400) (hr : rightIm W H l = true) (hcb : cropB W H x0 y0 x1 y1 = true) : Calls Try.prog 5 #[.agg #[.int .i64 W, .int .i64 H, s], .agg #[.int .i64 x0, .int .i64 y0, .int .i64 x1, .int .i64 y1], .agg #[.int .i64 px, .int .i64 py]] w fun e w' => e = .returned (.bool true) ∧ Below w.heap.size w w' := by
  have HAW := Lib.hid AW
  have HRF : Hid (∀ A, Below w.heap.size w A → Calls Try.prog 11 #[.agg #[.int .i64 W, .int .i64 H, s]] A fun e w' => ∃ u, e = .returned (.agg #[.int .i64 W, .int .i64 H, u]) ∧ OwnK .i64 w' A.heap.size 43 u l ∧ Below A.heap.size A w') := fun A hA => lawRef_c W H _ l A (row.on hA) hok (by omega)
  have HRT : Hid (∀ A u, RowK .i64 A u l → Calls Try.prog 13 #[.agg #[.int .i64 W, .int .i64 H, u]] A fun e w' => e = .returned (.bool true) ∧ Below A.heap.size A w') := fun A u hu => by
    have h2 := ref11Right_c W H u l A hu
    rw [hr] at h2
    exact h2
  have HCR : Hid (∀ A, Below w.heap.size w A → Calls Try.prog 22 #[.agg #[.int .i64 W, .int .i64 H, s], .agg #[.int .i64 x0, .int .i64 y0, .int .i64 x1, .int .i64 y1]] A fun e w' => ToldIm A 0 0 [] 30 e w') := fun A hA => (CR W H x0 y0 x1 y1 s l A (row.on hA) hcs hok h).mono fun e w' h' => h'.2 (by rw [hr, hcb]; rfl)
  have HAT : Hid (∀ A, Below w.heap.size w A → Calls Try.prog 23 #[.agg #[.int .i64 W, .int .i64 H, s], .int .i64 px, .int .i64 py] A fun e w' => e = .returned (.tuple #[.agg #[.int .u8 (atC W H px py l 0), .int .u8 (atC W H px py l 1), .int .u8 (atC W H px py l 2), .int .u8 (atC W H px py l 3)], .bool (inIm W H px py)]) ∧ Below A.heap.size A w') := fun A hA => AT W H px py s l A (row.on hA) hok h hr
  have HBX : Hid (∀ A, Below w.heap.size w A → Calls Try.prog 24 #[.agg #[.int .i64 W, .int .i64 H, s]] A fun e w' => e = .returned (.agg #[.int .i64 0, .int .i64 0, .int .i64 W, .int .i64 H]) ∧ Below A.heap.size A w') := fun A hA => BX W H s l A (row.on hA) hok h hr
  have HROW := Lib.hid row
  have HSD : Hid (W ≤ 256 ∧ H ≤ 256 ∧ (l.length : Int) = W * H ∧ l.length ≤ 400) := by
    obtain ⟨q1, q2, q3, q4', q5, _⟩ := rightIm_iff.1 hr
    exact ⟨q2, q4', q5, h⟩
  obtain ⟨ib, hib⟩ : ∃ b, inIm W H px py = b := ⟨_, rfl⟩
  obtain ⟨ca, hca⟩ : ∃ c, atC W H px py l = c := ⟨_, rfl⟩
  rw [hib, hca] at HAT
  have HIB : Hid (inIm W H px py = ib) := hib
  have HCA : Hid (atC W H px py l = ca) := hca
  have HCB : Hid (cropB W H x0 y0 x1 y1 = true) := hcb
  have HEM := Lib.hid empty_c
  obtain ⟨ao, cp, rfl⟩ := row.shape
  obtain ⟨n, hn⟩ : ∃ n, l.length = n := ⟨_, rfl⟩
  have HSM := Lib.hid (small_c W H ao n cp)
  rw [decide_eq_true (by omega)] at HSM
  have HN := Lib.hid hn
  rw [hn] at HRF HCR HAT HBX HROW HSD ⊢
  clear row hok h hr hn hcb hib hca
  go_enter Try.func5, Try.ntmps5
  go_wp2_with fail
  refine (HSM.out _).mono ?_
  rintro e w1 ⟨rfl, hb⟩
  have M1 : Hid (CropM w W H (.slice ao n cp) x0 y0 x1 y1 px py w1) := (CropM.start w W H (.slice ao n cp) x0 y0 x1 y1 px py).grow hb
  clear hb
  obtain ⟨m0, m1, m2⟩ := CropM.im M1.out
  go_wp2_with fail
  refine (HRF.out _ M1.out.1).mono ?_
  rintro e w2 ⟨u, rfl, hu, hb⟩
  have M2 := Lib.hid (M1.out.grow hb)
  have HU := Lib.hid hu.row
  clear hb hu m0 m1 m2 M1
  go_wp2_with fail
  refine (HRT.out _ _ HU.out).mono ?_
  rintro e w3 ⟨rfl, hb⟩
  have M3 := Lib.hid (M2.out.grow hb)
  clear hb HU M2
  obtain ⟨m0, m1, m2⟩ := CropM.im M3.out
  obtain ⟨p0, p1⟩ := CropM.pt M3.out
  go_wp2_with fail
  refine (HAT.out _ M3.out.1).mono ?_
  rintro e w4 ⟨rfl, hb⟩
  have M4 := Lib.hid (M3.out.grow hb)
  clear hb m0 m1 m2 p0 p1 M3
  go_upto_region 7 with fail
  obtain ⟨w5, hw⟩ : ∃ WW, w4.alloc (.cells #[.int .u8 (ca 0), .int .u8 (ca 1), .int .u8 (ca 2), .int .u8 (ca 3)] 28) = WW := ⟨_, rfl⟩
  have M5 : Hid (CropM w W H (.slice ao n cp) x0 y0 x1 y1 px py w5 ∧ Blk w5 w4.heap.size 28 (c8 ca)) := by
    rw [← hw]
    have h1 : Below w4.heap.size w4 (w4.alloc (.cells #[.int .u8 (ca 0), .int .u8 (ca 1), .int .u8 (ca 2), .int .u8 (ca 3)] 28)) := (Below.refl _ _).alloc (Nat.le_refl _) _
    exact ⟨M4.out.grow h1, Blk.new _ _ _⟩
  rw [hw]
  clear hw M4
  generalize w4.heap.size = g9 at *
  go_cut [11] from 44 to 65 (fun sb wr => sb = .bool ib ∧ Hid (wr = w5))
  case first =>
    have e0 := HIB.out
    unfold inIm at e0
    obtain ⟨m0, m1, m2⟩ := CropM.im M5.out.1
    obtain ⟨p0, p1⟩ := CropM.pt M5.out.1
    cases q0 : decide (px ≥ 0)
    · rw [q0] at e0
      go_wp2_with fail
      go_meet
      case rel => exact ⟨by rw [← e0]; rfl, rfl⟩
    · cases q1 : decide (px < W)
      · rw [q0, q1] at e0
        go_wp2_with fail
        go_meet
        case rel => exact ⟨by rw [← e0]; rfl, rfl⟩
      · cases q2 : decide (py ≥ 0)
        · rw [q0, q1, q2] at e0
          go_wp2_with fail
          go_meet
          case rel => exact ⟨by rw [← e0]; rfl, rfl⟩
        · cases q3 : decide (py < H)
          · rw [q0, q1, q2, q3] at e0
            go_wp2_with fail
            go_meet
            case rel => exact ⟨by rw [← e0]; rfl, rfl⟩
          · rw [q0, q1, q2, q3] at e0
            go_wp2_with fail
            go_meet
            case rel => exact ⟨by rw [← e0]; rfl, rfl⟩
  case rest =>
    obtain ⟨rfl, hwc⟩ := hcut
    obtain rfl := hwc.out
    clear hwc
    have HA8 : Hid (∀ A, Below wc.heap.size wc A → CropM w W H (.slice ao n cp) x0 y0 x1 y1 px py A ∧ Blk A g9 28 (c8 ca)) := fun A hA => ⟨M5.out.1.grow hA, M5.out.2.grow hA⟩
    cases ib
    · obtain rfl : zeroK = ca := by
        rw [← HCA.out]
        unfold atC
        rw [if_neg (by rw [HIB.out]; decide)]
      have EQ8 := equal_c8 zeroK
      simp only [zeroK] at EQ8
      go_upto_region 8 with fail
      refine wp_region_quiet (C := Out wc) (by kernel_rfl) (by kernel_rfl) ⟨rfl, rfl, rfl, Nat.le_refl _, fun _ _ => rfl⟩ ?_
      refine BigFrame.wpQuiet_want rfl (fun K hK => ?_)
      refine quiet_val (.bool false) (fun w' hw' => by go_simp) (hK _ ?_)
      clear hK K
      simp only [Act.put, List.setIfInBounds_toArray, List.set_cons_zero, List.set_cons_succ]
      refine BigFrame.wpQuiet_want rfl (fun K hK => ?_)
      refine quiet_val (.bool false) (fun w' hw' => by go_simp) (hK _ ?_)
      clear hK K
      simp only [Act.put, List.setIfInBounds_toArray, List.set_cons_zero, List.set_cons_succ]
      refine BigFrame.wpQuiet_want rfl (fun K hK => ?_)
      refine quiet_val (.bool false) (fun w' hw' => by go_simp) (hK _ ?_)
      clear hK K
      simp only [Act.put, List.setIfInBounds_toArray, List.set_cons_zero, List.set_cons_succ]
      refine BigFrame.wpQuiet_want rfl (fun K hK => ?_)
      refine quiet_val (.bool false) (fun w' hw' => by go_simp) (hK _ ?_)
      clear hK K
      simp only [Act.put, List.setIfInBounds_toArray, List.set_cons_zero, List.set_cons_succ]
      refine BigFrame.wpQuiet_want rfl (fun K hK => ?_)
      refine quiet_val (.bool false) (fun w' hw' => by go_simp) (hK _ ?_)
      clear hK K
      simp only [Act.put, List.setIfInBounds_toArray, List.set_cons_zero, List.set_cons_succ]
      refine BigFrame.wpQuiet_want rfl (fun K hK => ?_)
      refine quiet_val (.bool false) (fun w' hw' => by go_simp) (hK _ ?_)
      clear hK K
      simp only [Act.put, List.setIfInBounds_toArray, List.set_cons_zero, List.set_cons_succ]
      go_big_quiet_skip
      go_big_quiet_skip
      go_big_quiet_skip
      go_big_quiet_skip
      go_big_quiet_skip
      go_big_quiet_skip
      go_big_quiet_skip
      go_big_quiet_skip
      go_big_quiet_skip
      go_big_quiet_skip
      go_big_quiet_skip
      go_big_quiet_skip
      go_big_quiet_skip
      go_big_quiet_skip
      refine BigFrame.wpQuiet_want rfl (fun K hK => ?_)
      refine quiet_val (.bool false) (fun w' hw' => by go_simp) (hK _ ?_)
      clear hK K
      simp only [Act.put, List.setIfInBounds_toArray, List.set_cons_zero, List.set_cons_succ]
      refine BigFrame.wpQuiet_want rfl (fun K hK => ?_)
      refine quiet_val (.bool false) (fun w' hw' => by go_simp) (hK _ ?_)
      clear hK K
      simp only [Act.put, List.setIfInBounds_toArray, List.set_cons_zero, List.set_cons_succ]
      refine BigFrame.wpQuiet_want rfl (fun K hK => ?_)
      refine quiet_val (.bool false) (fun w' hw' => by go_simp) (hK _ ?_)
      clear hK K
      simp only [Act.put, List.setIfInBounds_toArray, List.set_cons_zero, List.set_cons_succ]
      refine BigFrame.wpQuiet_want rfl (fun K hK => ?_)
      refine quiet_val (.bool false) (fun w' hw' => by go_simp) (hK _ ?_)
      clear hK K
      simp only [Act.put, List.setIfInBounds_toArray, List.set_cons_zero, List.set_cons_succ]
      refine BigFrame.wpQuiet_want rfl (fun K hK => ?_)
      refine quiet_val (.bool true) (fun w' hw' => by go_simp) (hK _ ?_)
      clear hK K
      simp only [Act.put, List.setIfInBounds_toArray, List.set_cons_zero, List.set_cons_succ]
      refine BigFrame.wpQuiet_want rfl (fun K hK => ?_)
      refine quiet_val (.bool true) (fun w' hw' => by go_simp) (hK _ ?_)
      clear hK K
      simp only [Act.put, List.setIfInBounds_toArray, List.set_cons_zero, List.set_cons_succ]
      refine BigFrame.wpQuiet_want rfl (fun K hK => ?_)
      refine quiet_val (.agg #[.int .u8 0, .int .u8 0, .int .u8 0, .int .u8 0]) (fun w' hw' => by obtain ⟨c0, c1, c2, c3⟩ := Blk.c8 (HA8.out w' hw').2; simp only [zeroK] at c0 c1 c2 c3; go_simp) (hK _ ?_)
      clear hK K
      simp only [Act.put, List.setIfInBounds_toArray, List.set_cons_zero, List.set_cons_succ]
      refine BigFrame.wpQuiet_want rfl (fun K hK => ?_)
      refine quiet_val (.agg #[.int .u8 0, .int .u8 0, .int .u8 0, .int .u8 0]) (fun w' hw' => by go_simp) (hK _ ?_)
      clear hK K
      simp only [Act.put, List.setIfInBounds_toArray, List.set_cons_zero, List.set_cons_succ]
      refine BigFrame.wpQuiet_want rfl (fun K hK => ?_)
      refine quiet_val (.bool false) (fun w' hw' => by go_simp) (hK _ ?_)
      clear hK K
      simp only [Act.put, List.setIfInBounds_toArray, List.set_cons_zero, List.set_cons_succ]
      refine BigFrame.wpQuiet_want rfl (fun K hK => ?_)
      refine quiet_val (.bool false) (fun w' hw' => by go_simp) (hK _ ?_)
      clear hK K
      simp only [Act.put, List.setIfInBounds_toArray, List.set_cons_zero, List.set_cons_succ]
      refine BigFrame.wpQuiet_want rfl (fun K hK => ?_)
      refine quiet_val (.bool false) (fun w' hw' => by go_simp) (hK _ ?_)
      clear hK K
      simp only [Act.put, List.setIfInBounds_toArray, List.set_cons_zero, List.set_cons_succ]
      refine BigFrame.wpQuiet_want rfl (fun K hK => ?_)
      refine quiet_val (.bool false) (fun w' hw' => by go_simp) (hK _ ?_)
      clear hK K
      simp only [Act.put, List.setIfInBounds_toArray, List.set_cons_zero, List.set_cons_succ]
      refine BigFrame.wpQuiet_want rfl (fun K hK => ?_)
      refine quiet_val (.agg #[.int .i64 W, .int .i64 H, .slice ao n cp]) (fun w' hw' => by obtain ⟨m0, m1, m2⟩ := CropM.im (HA8.out w' hw').1; go_simp) (hK _ ?_)
      clear hK K
      simp only [Act.put, List.setIfInBounds_toArray, List.set_cons_zero, List.set_cons_succ]
      refine BigFrame.wpQuiet_want rfl (fun K hK => ?_)
      refine quiet_call 24 #[.agg #[.int .i64 W, .int .i64 H, .slice ao n cp]] (.agg #[.int .i64 0, .int .i64 0, .int .i64 W, .int .i64 H]) (fun w' _ => by go_simp) (fun w' hw' => Calls.out hw' (HBX.out w' (HA8.out w' hw').1.1)) (hK _ ?_)
      clear hK K
      simp only [Act.put, List.setIfInBounds_toArray, List.set_cons_zero, List.set_cons_succ]
      refine BigFrame.wpQuiet_want rfl (fun K hK => ?_)
      refine quiet_val (.pointer (some ⟨w.heap.size, 0, none⟩)) (fun w' hw' => by go_simp) (hK _ ?_)
      clear hK K
      simp only [Act.put, List.setIfInBounds_toArray, List.set_cons_zero, List.set_cons_succ]
      refine BigFrame.wpQuiet_want rfl (fun K hK => ?_)
      refine quiet_val (.int .i64 W) (fun w' hw' => by obtain ⟨m0, m1, m2⟩ := CropM.im (HA8.out w' hw').1; go_simp) (hK _ ?_)
      clear hK K
      simp only [Act.put, List.setIfInBounds_toArray, List.set_cons_zero, List.set_cons_succ]
      refine BigFrame.wpQuiet_want rfl (fun K hK => ?_)
      refine quiet_val (.pointer (some ⟨w.heap.size, 1, none⟩)) (fun w' hw' => by go_simp) (hK _ ?_)
      clear hK K
      simp only [Act.put, List.setIfInBounds_toArray, List.set_cons_zero, List.set_cons_succ]
      refine BigFrame.wpQuiet_want rfl (fun K hK => ?_)
      refine quiet_val (.int .i64 H) (fun w' hw' => by obtain ⟨m0, m1, m2⟩ := CropM.im (HA8.out w' hw').1; go_simp) (hK _ ?_)
      clear hK K
      simp only [Act.put, List.setIfInBounds_toArray, List.set_cons_zero, List.set_cons_succ]
      refine BigFrame.wpQuiet_want rfl (fun K hK => ?_)
      refine quiet_val (.agg #[.int .i64 0, .int .i64 0, .int .i64 W, .int .i64 H]) (fun w' hw' => by go_simp) (hK _ ?_)
      clear hK K
      simp only [Act.put, List.setIfInBounds_toArray, List.set_cons_zero, List.set_cons_succ]
      refine BigFrame.wpQuiet_want rfl (fun K hK => ?_)
      refine quiet_val (.bool false) (fun w' hw' => by go_simp) (hK _ ?_)
      clear hK K
      simp only [Act.put, List.setIfInBounds_toArray, List.set_cons_zero, List.set_cons_succ]
      refine BigFrame.wpQuiet_want rfl (fun K hK => ?_)
      refine quiet_val (.bool false) (fun w' hw' => by go_simp) (hK _ ?_)
      clear hK K
      simp only [Act.put, List.setIfInBounds_toArray, List.set_cons_zero, List.set_cons_succ]
      refine wpQuiet_nil ?_
      intro w6 hb
      have M6 := Lib.hid (M5.out.1.grow hb)
      clear hb M5 HA8
      obtain ⟨m0, m1, m2⟩ := CropM.im M6.out
      obtain ⟨b0, b1, b2, b3⟩ := CropM.bx M6.out
      go_wp2_with fail
      refine (HCR.out _ M6.out.1).mono ?_
      rintro e w7 ⟨v, rfl, hv, hb⟩
      have M7 := Lib.hid (M6.out.grow hb)
      obtain ⟨va, vc, e0⟩ := hv.shape
      simp only [List.length_nil] at e0
      subst e0
      clear hb hv m0 m1 m2 b0 b1 b2 b3 M6
      go_upto_region 11 with fail
      obtain ⟨w8, hw⟩ : ∃ WW, w7.alloc (.cells #[.int .i64 0, .int .i64 0, .slice va 0 vc] 24) = WW := ⟨_, rfl⟩
      have M8 : Hid (CropM w W H (.slice ao n cp) x0 y0 x1 y1 px py w8 ∧ Blk w8 w7.heap.size 24 #[.int .i64 0, .int .i64 0, .slice va 0 vc]) := by
        rw [← hw]
        have h1 : Below w7.heap.size w7 (w7.alloc (.cells #[.int .i64 0, .int .i64 0, .slice va 0 vc] 24)) := (Below.refl _ _).alloc (Nat.le_refl _) _
        exact ⟨M7.out.grow h1, Blk.new _ _ _⟩
      rw [hw]
      clear hw M7
      generalize w7.heap.size = g12 at *
      go_cut [148] from 113 to 147 (fun sb wr => sb = .bool true ∧ Hid (wr = w8))
      case first =>
        have e0 := HCB.out
        unfold cropB at e0
        obtain ⟨m0, m1, m2⟩ := CropM.im M8.out.1
        obtain ⟨b0, b1, b2, b3⟩ := CropM.bx M8.out.1
        cases q0 : decide (x0 < 0)
        · cases q1 : decide (y0 < 0)
          · cases q2 : decide (x1 > W)
            · cases q3 : decide (y1 > H)
              · cases q4 : decide (x0 ≥ x1)
                · cases q5 : decide (y0 ≥ y1)
                  · rw [q0, q1, q2, q3, q4, q5] at e0
                    cases e0
                  · go_wp2_with fail
                    go_meet
                    case rel => exact ⟨rfl, rfl⟩
                · go_wp2_with fail
                  go_meet
                  case rel => exact ⟨rfl, rfl⟩
              · go_wp2_with fail
                go_meet
                case rel => exact ⟨rfl, rfl⟩
            · go_wp2_with fail
              go_meet
              case rel => exact ⟨rfl, rfl⟩
          · go_wp2_with fail
            go_meet
            case rel => exact ⟨rfl, rfl⟩
        · go_wp2_with fail
          go_meet
          case rel => exact ⟨rfl, rfl⟩
      case rest =>
        obtain ⟨rfl, hwc⟩ := hcut
        obtain rfl := hwc.out
        clear hwc
        obtain ⟨i0, i1, i2⟩ := Blk.im3 M8.out.2
        go_wp2_with fail
        refine (HEM.out _ _ _).mono ?_
        rintro e w9 ⟨rfl, hb⟩
        have M9 := Lib.hid (M8.out.1.grow hb)
        clear hb i0 i1 i2 M8
        go_wp2_with fail
        refine (HAW.out _).mono ?_
        rintro e wa ⟨rfl, hb⟩
        have BA : Hid (Below w.heap.size w wa) := M9.out.1.trans (hb.mono M9.out.1.size)
        clear hb
        go_wp2_with fail
        go_ret
        exact ⟨rfl, BA.out⟩
    · obtain ⟨hp0, hp1, hp2, hp3⟩ := inIm_iff.1 HIB.out
      obtain ⟨f1, f2, f3, f4⟩ := at_prod hp0 hp1 hp2 hp3 HSD.out.1 HSD.out.2.1
      obtain ⟨ka, hka⟩ : ∃ k, (py * W + px).toNat = k := ⟨_, rfl⟩
      obtain ⟨a1, ha1⟩ : ∃ y, py * W = y := ⟨_, rfl⟩
      rw [ha1] at f1 f2 f3 f4 hka
      have hn4 := HSD.out.2.2.2
      have hkn : ka < n := by have := HSD.out.2.2.1; omega
      have F1 : Hid (IntKind.i64.wrap (py * W) = a1) := Lib.hid (by rw [wrap_is, ha1]; exact wrapR _ (by omega) (by omega))
      have F2 : Hid (IntKind.i64.wrap (a1 + px) = (ka : Int)) := Lib.hid (by rw [wrap_is, wrapR _ (by omega) (by omega)]; omega)
      obtain ⟨x, hx⟩ : ∃ x, cAt l ka = x := ⟨_, rfl⟩
      obtain rfl : x = ca := by
        rw [← HCA.out, ← hx]
        unfold atC
        rw [if_pos HIB.out, ha1, hka]
      have hki : (ka : Int) < (n : Int) := by omega
      have hk0 : (0 : Int) ≤ (ka : Int) := by omega
      obtain ⟨rb, ro, hao, hrb, hrc⟩ := RowK.addr HROW.out (by rw [HN.out]; omega)
      have hcell := hrc ka x (by rw [← hx]; exact cAt_some (by rw [HN.out]; exact hkn))
      have HX8 : Hid (∀ A, Below wc.heap.size wc A → ColAt .u8 A rb (ro + ka * 4) x) := fun A hA => hcell.on (HA8.out A hA).1.1 hrb
      have EQ8 := equal_c8 x
      subst hao
      clear hn4 hp0 hp1 hp2 hp3 f1 f2 f3 f4 hka ha1 hkn hx hrb hrc hcell
      go_upto_region 8 with fail
      refine wp_region_quiet (C := Out wc) (by kernel_rfl) (by kernel_rfl) ⟨rfl, rfl, rfl, Nat.le_refl _, fun _ _ => rfl⟩ ?_
      refine BigFrame.wpQuiet_want rfl (fun K hK => ?_)
      refine quiet_val (.bool true) (fun w' hw' => by go_simp) (hK _ ?_)
      clear hK K
      simp only [Act.put, List.setIfInBounds_toArray, List.set_cons_zero, List.set_cons_succ]
      refine BigFrame.wpQuiet_want rfl (fun K hK => ?_)
      refine quiet_val (.bool true) (fun w' hw' => by go_simp) (hK _ ?_)
      clear hK K
      simp only [Act.put, List.setIfInBounds_toArray, List.set_cons_zero, List.set_cons_succ]
      refine BigFrame.wpQuiet_want rfl (fun K hK => ?_)
      refine quiet_val (.bool false) (fun w' hw' => by go_simp) (hK _ ?_)
      clear hK K
      simp only [Act.put, List.setIfInBounds_toArray, List.set_cons_zero, List.set_cons_succ]
      refine BigFrame.wpQuiet_want rfl (fun K hK => ?_)
      refine quiet_val (.bool false) (fun w' hw' => by go_simp) (hK _ ?_)
      clear hK K
      simp only [Act.put, List.setIfInBounds_toArray, List.set_cons_zero, List.set_cons_succ]
      refine BigFrame.wpQuiet_want rfl (fun K hK => ?_)
      refine quiet_val (.bool true) (fun w' hw' => by go_simp) (hK _ ?_)
      clear hK K
      simp only [Act.put, List.setIfInBounds_toArray, List.set_cons_zero, List.set_cons_succ]
      refine BigFrame.wpQuiet_want rfl (fun K hK => ?_)
      refine quiet_val (.bool true) (fun w' hw' => by go_simp) (hK _ ?_)
      clear hK K
      simp only [Act.put, List.setIfInBounds_toArray, List.set_cons_zero, List.set_cons_succ]
      refine BigFrame.wpQuiet_want rfl (fun K hK => ?_)
      refine quiet_val (.agg #[.int .u8 (x 0), .int .u8 (x 1), .int .u8 (x 2), .int .u8 (x 3)]) (fun w' hw' => by obtain ⟨c0, c1, c2, c3⟩ := Blk.c8 (HA8.out w' hw').2; go_simp) (hK _ ?_)
      clear hK K
      simp only [Act.put, List.setIfInBounds_toArray, List.set_cons_zero, List.set_cons_succ]
      refine BigFrame.wpQuiet_want rfl (fun K hK => ?_)
      refine quiet_val (.pointer (some ⟨w.heap.size, 2, none⟩)) (fun w' hw' => by go_simp) (hK _ ?_)
      clear hK K
      simp only [Act.put, List.setIfInBounds_toArray, List.set_cons_zero, List.set_cons_succ]
      refine BigFrame.wpQuiet_want rfl (fun K hK => ?_)
      refine quiet_val (.slice (some ⟨rb, ro, none⟩) n cp) (fun w' hw' => by obtain ⟨m0, m1, m2⟩ := CropM.im (HA8.out w' hw').1; go_simp) (hK _ ?_)
      clear hK K
      simp only [Act.put, List.setIfInBounds_toArray, List.set_cons_zero, List.set_cons_succ]
      refine BigFrame.wpQuiet_want rfl (fun K hK => ?_)
      refine quiet_val (.pointer (some ⟨w.heap.size + 1 + 1, 1, none⟩)) (fun w' hw' => by go_simp) (hK _ ?_)
      clear hK K
      simp only [Act.put, List.setIfInBounds_toArray, List.set_cons_zero, List.set_cons_succ]
      refine BigFrame.wpQuiet_want rfl (fun K hK => ?_)
      refine quiet_val (.int .i64 py) (fun w' hw' => by obtain ⟨p0, p1⟩ := CropM.pt (HA8.out w' hw').1; go_simp) (hK _ ?_)
      clear hK K
      simp only [Act.put, List.setIfInBounds_toArray, List.set_cons_zero, List.set_cons_succ]
      refine BigFrame.wpQuiet_want rfl (fun K hK => ?_)
      refine quiet_val (.pointer (some ⟨w.heap.size, 0, none⟩)) (fun w' hw' => by go_simp) (hK _ ?_)
      clear hK K
      simp only [Act.put, List.setIfInBounds_toArray, List.set_cons_zero, List.set_cons_succ]
      refine BigFrame.wpQuiet_want rfl (fun K hK => ?_)
      refine quiet_val (.int .i64 W) (fun w' hw' => by obtain ⟨m0, m1, m2⟩ := CropM.im (HA8.out w' hw').1; go_simp) (hK _ ?_)
      clear hK K
      simp only [Act.put, List.setIfInBounds_toArray, List.set_cons_zero, List.set_cons_succ]
      refine BigFrame.wpQuiet_want rfl (fun K hK => ?_)
      refine quiet_val (.int .i64 a1) (fun w' hw' => by have e := F1.out; go_simp) (hK _ ?_)
      clear hK K
      simp only [Act.put, List.setIfInBounds_toArray, List.set_cons_zero, List.set_cons_succ]
      refine BigFrame.wpQuiet_want rfl (fun K hK => ?_)
      refine quiet_val (.pointer (some ⟨w.heap.size + 1 + 1, 0, none⟩)) (fun w' hw' => by go_simp) (hK _ ?_)
      clear hK K
      simp only [Act.put, List.setIfInBounds_toArray, List.set_cons_zero, List.set_cons_succ]
      refine BigFrame.wpQuiet_want rfl (fun K hK => ?_)
      refine quiet_val (.int .i64 px) (fun w' hw' => by obtain ⟨p0, p1⟩ := CropM.pt (HA8.out w' hw').1; go_simp) (hK _ ?_)
      clear hK K
      simp only [Act.put, List.setIfInBounds_toArray, List.set_cons_zero, List.set_cons_succ]
      refine BigFrame.wpQuiet_want rfl (fun K hK => ?_)
      refine quiet_val (.int .i64 (ka : Int)) (fun w' hw' => by have e := F2.out; go_simp) (hK _ ?_)
      clear hK K
      simp only [Act.put, List.setIfInBounds_toArray, List.set_cons_zero, List.set_cons_succ]
      refine BigFrame.wpQuiet_want rfl (fun K hK => ?_)
      refine quiet_val (.pointer (some ⟨rb, ro + ka * 4, none⟩)) (fun w' hw' => by go_simp) (hK _ ?_)
      clear hK K
      simp only [Act.put, List.setIfInBounds_toArray, List.set_cons_zero, List.set_cons_succ]
      refine BigFrame.wpQuiet_want rfl (fun K hK => ?_)
      refine quiet_val (.agg #[.int .u8 (x 0), .int .u8 (x 1), .int .u8 (x 2), .int .u8 (x 3)]) (fun w' hw' => by obtain ⟨c0, c1, c2, c3⟩ := HX8.out w' hw'; go_simp) (hK _ ?_)
      clear hK K
      simp only [Act.put, List.setIfInBounds_toArray, List.set_cons_zero, List.set_cons_succ]
      refine BigFrame.wpQuiet_want rfl (fun K hK => ?_)
      refine quiet_val (.bool false) (fun w' hw' => by go_simp) (hK _ ?_)
      clear hK K
      simp only [Act.put, List.setIfInBounds_toArray, List.set_cons_zero, List.set_cons_succ]
      refine BigFrame.wpQuiet_want rfl (fun K hK => ?_)
      refine quiet_val (.bool false) (fun w' hw' => by go_simp) (hK _ ?_)
      clear hK K
      simp only [Act.put, List.setIfInBounds_toArray, List.set_cons_zero, List.set_cons_succ]
      refine BigFrame.wpQuiet_want rfl (fun K hK => ?_)
      refine quiet_val (.bool false) (fun w' hw' => by go_simp) (hK _ ?_)
      clear hK K
      simp only [Act.put, List.setIfInBounds_toArray, List.set_cons_zero, List.set_cons_succ]
      refine BigFrame.wpQuiet_want rfl (fun K hK => ?_)
      refine quiet_val (.bool false) (fun w' hw' => by go_simp) (hK _ ?_)
      clear hK K
      simp only [Act.put, List.setIfInBounds_toArray, List.set_cons_zero, List.set_cons_succ]
      refine BigFrame.wpQuiet_want rfl (fun K hK => ?_)
      refine quiet_val (.bool true) (fun w' hw' => by go_simp) (hK _ ?_)
      clear hK K
      simp only [Act.put, List.setIfInBounds_toArray, List.set_cons_zero, List.set_cons_succ]
      refine BigFrame.wpQuiet_want rfl (fun K hK => ?_)
      refine quiet_val (.bool false) (fun w' hw' => by go_simp) (hK _ ?_)
      clear hK K
      simp only [Act.put, List.setIfInBounds_toArray, List.set_cons_zero, List.set_cons_succ]
      refine BigFrame.wpQuiet_want rfl (fun K hK => ?_)
      refine quiet_val (.bool false) (fun w' hw' => by go_simp) (hK _ ?_)
      clear hK K
      simp only [Act.put, List.setIfInBounds_toArray, List.set_cons_zero, List.set_cons_succ]
      go_big_quiet_skip
      go_big_quiet_skip
      go_big_quiet_skip
      refine BigFrame.wpQuiet_want rfl (fun K hK => ?_)
      refine quiet_val (.bool false) (fun w' hw' => by go_simp) (hK _ ?_)
      clear hK K
      simp only [Act.put, List.setIfInBounds_toArray, List.set_cons_zero, List.set_cons_succ]
      refine BigFrame.wpQuiet_want rfl (fun K hK => ?_)
      refine quiet_val (.bool false) (fun w' hw' => by go_simp) (hK _ ?_)
      clear hK K
      simp only [Act.put, List.setIfInBounds_toArray, List.set_cons_zero, List.set_cons_succ]
      refine BigFrame.wpQuiet_want rfl (fun K hK => ?_)
      refine quiet_val (.bool false) (fun w' hw' => by go_simp) (hK _ ?_)
      clear hK K
      simp only [Act.put, List.setIfInBounds_toArray, List.set_cons_zero, List.set_cons_succ]
      refine BigFrame.wpQuiet_want rfl (fun K hK => ?_)
      refine quiet_val (.agg #[.int .i64 W, .int .i64 H, .slice (some ⟨rb, ro, none⟩) n cp]) (fun w' hw' => by obtain ⟨m0, m1, m2⟩ := CropM.im (HA8.out w' hw').1; go_simp) (hK _ ?_)
      clear hK K
      simp only [Act.put, List.setIfInBounds_toArray, List.set_cons_zero, List.set_cons_succ]
      refine BigFrame.wpQuiet_want rfl (fun K hK => ?_)
      refine quiet_call 24 #[.agg #[.int .i64 W, .int .i64 H, .slice (some ⟨rb, ro, none⟩) n cp]] (.agg #[.int .i64 0, .int .i64 0, .int .i64 W, .int .i64 H]) (fun w' _ => by go_simp) (fun w' hw' => Calls.out hw' (HBX.out w' (HA8.out w' hw').1.1)) (hK _ ?_)
      clear hK K
      simp only [Act.put, List.setIfInBounds_toArray, List.set_cons_zero, List.set_cons_succ]
      refine BigFrame.wpQuiet_want rfl (fun K hK => ?_)
      refine quiet_val (.pointer (some ⟨w.heap.size, 0, none⟩)) (fun w' hw' => by go_simp) (hK _ ?_)
      clear hK K
      simp only [Act.put, List.setIfInBounds_toArray, List.set_cons_zero, List.set_cons_succ]
      refine BigFrame.wpQuiet_want rfl (fun K hK => ?_)
      refine quiet_val (.int .i64 W) (fun w' hw' => by obtain ⟨m0, m1, m2⟩ := CropM.im (HA8.out w' hw').1; go_simp) (hK _ ?_)
      clear hK K
      simp only [Act.put, List.setIfInBounds_toArray, List.set_cons_zero, List.set_cons_succ]
      refine BigFrame.wpQuiet_want rfl (fun K hK => ?_)
      refine quiet_val (.pointer (some ⟨w.heap.size, 1, none⟩)) (fun w' hw' => by go_simp) (hK _ ?_)
      clear hK K
      simp only [Act.put, List.setIfInBounds_toArray, List.set_cons_zero, List.set_cons_succ]
      refine BigFrame.wpQuiet_want rfl (fun K hK => ?_)
      refine quiet_val (.int .i64 H) (fun w' hw' => by obtain ⟨m0, m1, m2⟩ := CropM.im (HA8.out w' hw').1; go_simp) (hK _ ?_)
      clear hK K
      simp only [Act.put, List.setIfInBounds_toArray, List.set_cons_zero, List.set_cons_succ]
      refine BigFrame.wpQuiet_want rfl (fun K hK => ?_)
      refine quiet_val (.agg #[.int .i64 0, .int .i64 0, .int .i64 W, .int .i64 H]) (fun w' hw' => by go_simp) (hK _ ?_)
      clear hK K
      simp only [Act.put, List.setIfInBounds_toArray, List.set_cons_zero, List.set_cons_succ]
      refine BigFrame.wpQuiet_want rfl (fun K hK => ?_)
      refine quiet_val (.bool false) (fun w' hw' => by go_simp) (hK _ ?_)
      clear hK K
      simp only [Act.put, List.setIfInBounds_toArray, List.set_cons_zero, List.set_cons_succ]
      refine BigFrame.wpQuiet_want rfl (fun K hK => ?_)
      refine quiet_val (.bool false) (fun w' hw' => by go_simp) (hK _ ?_)
      clear hK K
      simp only [Act.put, List.setIfInBounds_toArray, List.set_cons_zero, List.set_cons_succ]
      refine wpQuiet_nil ?_
      intro w6 hb
      have M6 := Lib.hid (M5.out.1.grow hb)
      clear hb M5 HA8
      obtain ⟨m0, m1, m2⟩ := CropM.im M6.out
      obtain ⟨b0, b1, b2, b3⟩ := CropM.bx M6.out
      go_wp2_with fail
      refine (HCR.out _ M6.out.1).mono ?_
      rintro e w7 ⟨v, rfl, hv, hb⟩
      have M7 := Lib.hid (M6.out.grow hb)
      obtain ⟨va, vc, e0⟩ := hv.shape
      simp only [List.length_nil] at e0
      subst e0
      clear hb hv m0 m1 m2 b0 b1 b2 b3 M6
      go_upto_region 11 with fail
      obtain ⟨w8, hw⟩ : ∃ WW, w7.alloc (.cells #[.int .i64 0, .int .i64 0, .slice va 0 vc] 24) = WW := ⟨_, rfl⟩
      have M8 : Hid (CropM w W H (.slice (some ⟨rb, ro, none⟩) n cp) x0 y0 x1 y1 px py w8 ∧ Blk w8 w7.heap.size 24 #[.int .i64 0, .int .i64 0, .slice va 0 vc]) := by
        rw [← hw]
        have h1 : Below w7.heap.size w7 (w7.alloc (.cells #[.int .i64 0, .int .i64 0, .slice va 0 vc] 24)) := (Below.refl _ _).alloc (Nat.le_refl _) _
        exact ⟨M7.out.grow h1, Blk.new _ _ _⟩
      rw [hw]
      clear hw M7
      generalize w7.heap.size = g12 at *
      go_cut [148] from 113 to 147 (fun sb wr => sb = .bool true ∧ Hid (wr = w8))
      case first =>
        have e0 := HCB.out
        unfold cropB at e0
        obtain ⟨m0, m1, m2⟩ := CropM.im M8.out.1
        obtain ⟨b0, b1, b2, b3⟩ := CropM.bx M8.out.1
        cases q0 : decide (x0 < 0)
        · cases q1 : decide (y0 < 0)
          · cases q2 : decide (x1 > W)
            · cases q3 : decide (y1 > H)
              · cases q4 : decide (x0 ≥ x1)
                · cases q5 : decide (y0 ≥ y1)
                  · rw [q0, q1, q2, q3, q4, q5] at e0
                    cases e0
                  · go_wp2_with fail
                    go_meet
                    case rel => exact ⟨rfl, rfl⟩
                · go_wp2_with fail
                  go_meet
                  case rel => exact ⟨rfl, rfl⟩
              · go_wp2_with fail
                go_meet
                case rel => exact ⟨rfl, rfl⟩
            · go_wp2_with fail
              go_meet
              case rel => exact ⟨rfl, rfl⟩
          · go_wp2_with fail
            go_meet
            case rel => exact ⟨rfl, rfl⟩
        · go_wp2_with fail
          go_meet
          case rel => exact ⟨rfl, rfl⟩
      case rest =>
        obtain ⟨rfl, hwc⟩ := hcut
        obtain rfl := hwc.out
        clear hwc
        obtain ⟨i0, i1, i2⟩ := Blk.im3 M8.out.2
        go_wp2_with fail
        refine (HEM.out _ _ _).mono ?_
        rintro e w9 ⟨rfl, hb⟩
        have M9 := Lib.hid (M8.out.1.grow hb)
        clear hb i0 i1 i2 M8
        go_wp2_with fail
        refine (HAW.out _).mono ?_
        rintro e wa ⟨rfl, hb⟩
        have BA : Hid (Below w.heap.size w wa) := M9.out.1.trans (hb.mono M9.out.1.size)
        clear hb
        go_wp2_with fail
        go_ret
        exact ⟨rfl, BA.out⟩
end Go.Proofs.Ytoppmlfibllhlaa

