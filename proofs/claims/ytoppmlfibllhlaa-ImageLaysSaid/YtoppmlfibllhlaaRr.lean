/- Layer 11: package image's Lay. -/
import Derived.Test.YtoppmlfibllhlaaRq
import Derived.Test.YtoppmlfibllhlaaKc
namespace Go.Proofs.Ytoppmlfibllhlaa
open Go.RowKit
/-- A pixel with another one laid over it. -/
def onPx (W oW x y b md : Int) (l ol : List Col) (k : Nat) : Col := blendC (fadeC (cAt ol (layAt W oW x y k)) b) (cAt l k) md
theorem wrap_lo {x oW : Int} (hx : rngI x) (h : 0 ≤ oW ∧ oW ≤ 256) : wrap64 (x + oW) = x + oW ∨ (256 < x ∧ wrap64 (x + oW) < 0) := by
  unfold rngI at hx
  unfold wrap64
  omega
theorem lay_is {W H oW oH x y b md xe ye : Int} {l ol : List Col} {m : Bx} (hW : 1 ≤ W ∧ W ≤ 256) (hH : 1 ≤ H ∧ H ≤ 256) (ho : (0 ≤ oW ∧ oW ≤ 256) ∧ (0 ≤ oH ∧ oH ≤ 256)) (hx : rngI x) (hy : rngI y) (he : wrap64 (x + oW) = xe) (hf : wrap64 (y + oH) = ye) (hn : (l.length : Int) = W * H) (hm : MeetIn W H x y xe ye m) :
    mixL (onPx W oW x y b md l ol) (cAt l) (doneQ W m m.y1 0) l.length = layL W oW oH x y b md l ol l.length := by
  refine mixL_all fun k hk => ?_
  rw [doneQ_last]
  unfold layPx onPx
  have h1 : 0 ≤ (k : Int) % W ∧ (k : Int) % W < W := ⟨Int.emod_nonneg _ (by omega), Int.emod_lt_of_pos _ (by omega)⟩
  have h2 : 0 ≤ (k : Int) / W ∧ (k : Int) / W < H := ⟨Int.ediv_nonneg (by omega) (by omega), Int.ediv_lt_of_lt_mul (by omega) (by rw [Int.mul_comm, ← hn]; omega)⟩
  have h3 := hm.is _ _ h1.1 h1.2 h2.1 h2.2
  have g1 := wrap_lo hx ho.1
  have g2 := wrap_lo hy ho.2
  rw [he] at g1
  rw [hf] at g2
  have e : inM W m k = layIn W oW oH x y k := by
    unfold inM layIn
    rw [Bool.eq_iff_iff, decide_eq_true_eq, h3]
    simp only [Bool.and_eq_true, decide_eq_true_eq]
    generalize (k : Int) % W = a at *
    generalize (k : Int) / W = c at *
    omega
  rw [e]
/-- What the two boxes are, as numbers, where they have pixels. -/
structure LayN (W H oW oH x y : Int) (m : Bx) (ax0 ay0 ax1 ay1 : Int) : Prop where
  rows : ay1 = ay0 + (m.y1 - m.y0)
  room : -9223372036854775808 ≤ ay0 ∧ ay1 ≤ 9223372036854775807
  full : m.y0 < m.y1 → ax0 = m.x0 - x ∧ ay0 = m.y0 - y ∧ ax1 = m.x1 - x ∧ ay1 = m.y1 - y ∧ 0 ≤ ax0 ∧ ax1 ≤ oW ∧ 0 ≤ ay0 ∧ ay1 ≤ oH ∧ (-256 ≤ x ∧ x ≤ 256) ∧ (-256 ≤ y ∧ y ≤ 256)
theorem lay_n {W H oW oH x y xe ye ax0 ay0 ax1 ay1 : Int} {m : Bx} (hW : 1 ≤ W ∧ W ≤ 256) (hH : 1 ≤ H ∧ H ≤ 256) (ho : (0 ≤ oW ∧ oW ≤ 256) ∧ (0 ≤ oH ∧ oH ≤ 256)) (hx : rngI x) (hy : rngI y) (he : wrap64 (x + oW) = xe) (hf : wrap64 (y + oH) = ye) (hm : MeetIn W H x y xe ye m) (hz : m.y1 ≤ m.y0 → m = ⟨0, 0, 0, 0⟩)
    (e0 : wrap64 (m.x0 - x) = ax0) (e1 : wrap64 (m.y0 - y) = ay0) (e2 : wrap64 (m.x1 - x) = ax1) (e3 : wrap64 (m.y1 - y) = ay1) : LayN W H oW oH x y m ax0 ay0 ax1 ay1 := by
  have g1 := wrap_lo hx ho.1
  have g2 := wrap_lo hy ho.2
  rw [he] at g1
  rw [hf] at g2
  by_cases h : m.y0 < m.y1
  · have hb := hm.both h
    have hfu := hm.full hb
    have hxs := hm.xs
    have hys := hm.ys
    rw [wrapR _ (by omega) (by omega)] at e0 e1 e2 e3
    exact ⟨by omega, by omega, fun _ => by omega⟩
  · have h0 := hz (by omega)
    subst h0
    simp only at e0 e1 e2 e3 h
    have r1 : -9223372036854775808 ≤ wrap64 (0 - y) ∧ wrap64 (0 - y) ≤ 9223372036854775807 := by unfold wrap64; omega
    exact ⟨by simp only; omega, by omega, fun h' => absurd h' (by simp)⟩
set_option maxHeartbeats 4000000 in
set_option maxRecDepth 100000 in
theorem lay_y (W H oW oH x y b md : Int) (s so : Value) (l ol : List Col) (w : World) (row : RowK .u8 w s l) (rov : RowK .u8 w so ol) (hok : ∀ c ∈ l, OkC c) (hoko : ∀ c ∈ ol, OkC c) (hl : l.length ≤ 70000) (hol : ol.length ≤ 70000) (hcs : Hid (CapS so)) (hxy : Hid (rngI x ∧ rngI y)) (hb : byteI b) (hr : rightIm W H l = true) (hq : rightIm oW oH ol = true) (hm4 : decide (0 ≤ md ∧ md ≤ 4) = true) : Calls Try.prog 20 #[.agg #[.int .i64 W, .int .i64 H, s], .agg #[.int .i64 oW, .int .i64 oH, so], .int .i64 x, .int .i64 y, .int .u8 b, .int .i64 md] w fun e w' => ToldIm w W H (layL W oW oH x y b md l ol l.length) 0 e w' := by
  have HCK : Hid (∀ A, Below w.heap.size w A → Calls Try.prog 15 #[.agg #[.int .i64 W, .int .i64 H, s]] A fun e w' => e = .returned (.int .i64 0) ∧ Below A.heap.size A w') := fun A hA => by
    have h := checkOk W H s _ A (row.on hA) hok (by omega)
    rw [hr] at h
    exact h
  have HCO : Hid (∀ A, Below w.heap.size w A → Calls Try.prog 15 #[.agg #[.int .i64 oW, .int .i64 oH, so]] A fun e w' => e = .returned (.int .i64 0) ∧ Below A.heap.size A w') := fun A hA => by
    have h := checkOk oW oH so _ A (rov.on hA) hoko (by omega)
    rw [hq] at h
    exact h
  have HMD : Hid (∀ A, Calls Try.prog 40 #[.int .i64 md] A fun e w' => e = .returned (.bool true) ∧ Below A.heap.size A w') := fun A => by
    have h := isMode_c md A
    rw [hm4] at h
    exact h
  have hri := rightIm_iff.1 hr
  have hqi := rightIm_iff.1 hq
  have hs := mul_sides hri.1 hri.2.1 hri.2.2.1 hri.2.2.2.1
  have hs2 := mul_sides hqi.1 hqi.2.1 hqi.2.2.1 hqi.2.2.2.1
  have h0 : 0 < l.length := by have := hri.2.2.2.2.1; omega
  have HCL := Lib.hid (fun A (hA : Below w.heap.size w A) => clone8_c s l A (row.on hA) hl h0)
  obtain ⟨xe, hxe⟩ : ∃ xe, wrap64 (x + oW) = xe := ⟨_, rfl⟩
  obtain ⟨ye, hye⟩ : ∃ ye, wrap64 (y + oH) = ye := ⟨_, rfl⟩
  have HXE : Hid (wrap64 (x + oW) = xe ∧ wrap64 (y + oH) = ye) := ⟨hxe, hye⟩
  obtain ⟨m, hm⟩ : ∃ m, meetI ⟨x, y, xe, ye⟩ ⟨0, 0, W, H⟩ = m := ⟨_, rfl⟩
  have HMI : Hid (MeetIn W H x y xe ye m) := by rw [← hm]; exact meet_in hri.1 hri.2.2.1
  have hz : m.y1 ≤ m.y0 → m = ⟨0, 0, 0, 0⟩ := by
    rw [← hm]; unfold meetI
    split
    · exact fun _ => rfl
    · rename_i h
      intro h2
      exfalso
      apply h
      unfold emptyI
      simp only [Bool.or_eq_true, decide_eq_true_eq]
      exact .inr (by omega)
  have HMT : Hid (∀ A, Calls Try.prog 35 #[.agg #[.int .i64 x, .int .i64 y, .int .i64 xe, .int .i64 ye], .agg #[.int .i64 0, .int .i64 0, .int .i64 W, .int .i64 H]] A fun e w' => e = .returned (.agg #[.int .i64 m.x0, .int .i64 m.y0, .int .i64 m.x1, .int .i64 m.y1]) ∧ Below A.heap.size A w') := fun A => by
    have h := meet_c ⟨x, y, xe, ye⟩ ⟨0, 0, W, H⟩ A
    rw [hm] at h
    exact h
  obtain ⟨ax0, e0⟩ : ∃ v, wrap64 (m.x0 - x) = v := ⟨_, rfl⟩
  obtain ⟨ay0, e1⟩ : ∃ v, wrap64 (m.y0 - y) = v := ⟨_, rfl⟩
  obtain ⟨ax1, e2⟩ : ∃ v, wrap64 (m.x1 - x) = v := ⟨_, rfl⟩
  obtain ⟨ay1, e3⟩ : ∃ v, wrap64 (m.y1 - y) = v := ⟨_, rfl⟩
  have HLN : Hid (LayN W H oW oH x y m ax0 ay0 ax1 ay1) := lay_n ⟨hri.1, hri.2.1⟩ ⟨hri.2.2.1, hri.2.2.2.1⟩ ⟨⟨by omega, hqi.2.1⟩, by omega, hqi.2.2.2.1⟩ hxy.out.1 hxy.out.2 hxe hye HMI.out hz e0 e1 e2 e3
  have HE4 : Hid (wrap64 (m.x0 - x) = ax0 ∧ wrap64 (m.y0 - y) = ay0 ∧ wrap64 (m.x1 - x) = ax1 ∧ wrap64 (m.y1 - y) = ay1) := ⟨e0, e1, e2, e3⟩
  have HFI : Hid (mixL (onPx W oW x y b md l ol) (cAt l) (doneQ W m m.y1 0) l.length = layL W oW oH x y b md l ol l.length) := lay_is ⟨hri.1, hri.2.1⟩ ⟨hri.2.2.1, hri.2.2.2.1⟩ ⟨⟨by omega, hqi.2.1⟩, by omega, hqi.2.2.2.1⟩ hxy.out.1 hxy.out.2 hxe hye hri.2.2.2.2.1 HMI.out
  have HNO : Hid (mixL (onPx W oW x y b md l ol) (cAt l) (doneQ W m m.y0 0) l.length = l) := mixL_none fun k _ => doneQ_first W m k
  have HSD : Hid ((1 ≤ W ∧ W ≤ 256 ∧ 1 ≤ H ∧ H ≤ 256) ∧ (l.length : Int) = W * H ∧ W * H ≤ 65536) := ⟨⟨hri.1, hri.2.1, hri.2.2.1, hri.2.2.2.1⟩, hri.2.2.2.2.1, hs.2⟩
  obtain ⟨av, cv, rfl⟩ := rov.shape
  obtain ⟨bo, oo, rfl, hbo, hcols⟩ := rov.addr (by have := hqi.2.2.2.2.1; omega)
  have hcap := hcs.out _ _ _ rfl
  have HSO : Hid ((1 ≤ oW ∧ oW ≤ 256 ∧ 1 ≤ oH ∧ oH ≤ 256) ∧ (ol.length : Int) = oW * oH ∧ oW * oH ≤ 65536 ∧ ol.length ≤ cv) := ⟨⟨hqi.1, hqi.2.1, hqi.2.2.1, hqi.2.2.2.1⟩, hqi.2.2.2.2.1, hs2.2, hcap⟩
  have HBO : Hid (bo < w.heap.size ∧ ColsAt .u8 w bo oo ol) := ⟨hbo, hcols⟩
  have HPC : Hid (byteI b ∧ (0 ≤ md ∧ md ≤ 4) ∧ (∀ k, k < l.length → OkC (cAt l k) ∧ rightC (cAt l k) = true) ∧ (∀ k, k < ol.length → OkC (cAt ol k) ∧ rightC (cAt ol k) = true)) :=
    ⟨hb, by simpa using hm4, fun k hk => ⟨hok _ (List.mem_of_getElem? (cAt_some hk)), all_at hri.2.2.2.2.2 hk⟩, fun k hk => ⟨hoko _ (List.mem_of_getElem? (cAt_some hk)), all_at hqi.2.2.2.2.2 hk⟩⟩
  obtain ⟨ao, cp, rfl⟩ := row.shape
  generalize layL W oW oH x y b md l ol l.length = FL at *
  obtain ⟨n, hn⟩ : ∃ n, l.length = n := ⟨_, rfl⟩
  obtain ⟨on, hon⟩ : ∃ on, ol.length = on := ⟨_, rfl⟩
  have HN := Lib.hid hn
  have HON := Lib.hid hon
  rw [hn] at HCK HCL HFI HNO HSD HPC ⊢
  rw [hon] at HCO HSO HPC ⊢
  clear row rov hok hoko hl hol hr hq hm4 hri hqi hs hs2 h0 hm hz e0 e1 e2 e3 hxe hye hb hcs hcap hbo hcols hxy hn hon
  go_enter Try.func20, Try.ntmps20
  go_wp2_with fail
  obtain ⟨w1, hw1⟩ : ∃ WW, ((w.alloc (.cells #[.int .i64 W, .int .i64 H, .slice ao n cp] 24)).alloc (.cells #[.int .i64 oW, .int .i64 oH, .slice (some ⟨bo, oo, none⟩) on cv] 24)).alloc (.cells #[.int .i64 0, .int .i64 0, .slice none 0 0] 24) = WW := ⟨_, rfl⟩
  have P1 : Hid (Below w.heap.size w w1 ∧ Blk w1 w.heap.size 24 #[.int .i64 W, .int .i64 H, .slice ao n cp] ∧ Blk w1 (w.heap.size + 1) 24 #[.int .i64 oW, .int .i64 oH, .slice (some ⟨bo, oo, none⟩) on cv] ∧ Blk w1 (w.heap.size + 2) 24 #[.int .i64 0, .int .i64 0, .slice none 0 0]) := by
    rw [← hw1]
    exact ⟨((((Below.refl _ _).alloc (Nat.le_refl _) _).alloc (by simp) _).alloc (by simp; omega) _), ((Blk.new _ _ _).alloc _).alloc _, (Blk.newAt _ _ _ (by simp)).alloc _, Blk.newAt _ _ _ (by simp)⟩
  rw [hw1]
  clear hw1
  refine (HCK.out w1 P1.out.1).mono ?_
  rintro e w2 ⟨rfl, hb⟩
  have P2 : Hid (Below w.heap.size w w2 ∧ Blk w2 w.heap.size 24 #[.int .i64 W, .int .i64 H, .slice ao n cp] ∧ Blk w2 (w.heap.size + 1) 24 #[.int .i64 oW, .int .i64 oH, .slice (some ⟨bo, oo, none⟩) on cv] ∧ Blk w2 (w.heap.size + 2) 24 #[.int .i64 0, .int .i64 0, .slice none 0 0]) := ⟨P1.out.1.trans (hb.mono P1.out.1.size), P1.out.2.1.grow hb, P1.out.2.2.1.grow hb, P1.out.2.2.2.grow hb⟩
  clear hb P1
  have k0 : w2.cell? ⟨w.heap.size + 1, 0, none⟩ = some (.int .i64 oW) := P2.out.2.2.1.cell 0
  have k1 : w2.cell? ⟨w.heap.size + 1, 1, none⟩ = some (.int .i64 oH) := P2.out.2.2.1.cell 1
  have k2 : w2.cell? ⟨w.heap.size + 1, 2, none⟩ = some (.slice (some ⟨bo, oo, none⟩) on cv) := P2.out.2.2.1.cell 2
  go_wp2_with fail
  refine (HCO.out w2 P2.out.1).mono ?_
  rintro e w3 ⟨rfl, hb⟩
  clear k0 k1 k2
  have P3 : Hid (Below w.heap.size w w3 ∧ Blk w3 w.heap.size 24 #[.int .i64 W, .int .i64 H, .slice ao n cp] ∧ Blk w3 (w.heap.size + 1) 24 #[.int .i64 oW, .int .i64 oH, .slice (some ⟨bo, oo, none⟩) on cv] ∧ Blk w3 (w.heap.size + 2) 24 #[.int .i64 0, .int .i64 0, .slice none 0 0]) := ⟨P2.out.1.trans (hb.mono P2.out.1.size), P2.out.2.1.grow hb, P2.out.2.2.1.grow hb, P2.out.2.2.2.grow hb⟩
  clear hb P2
  go_wp2_with fail
  refine (HMD.out w3).mono ?_
  rintro e w4 ⟨rfl, hb⟩
  have P4 : Hid (Below w.heap.size w w4 ∧ Blk w4 w.heap.size 24 #[.int .i64 W, .int .i64 H, .slice ao n cp] ∧ Blk w4 (w.heap.size + 1) 24 #[.int .i64 oW, .int .i64 oH, .slice (some ⟨bo, oo, none⟩) on cv] ∧ Blk w4 (w.heap.size + 2) 24 #[.int .i64 0, .int .i64 0, .slice none 0 0]) := ⟨P3.out.1.trans (hb.mono P3.out.1.size), P3.out.2.1.grow hb, P3.out.2.2.1.grow hb, P3.out.2.2.2.grow hb⟩
  clear hb P3
  have k2 : w4.cell? ⟨w.heap.size, 2, none⟩ = some (.slice ao n cp) := P4.out.2.1.cell 2
  go_wp2_with fail
  refine (HCL.out w4 P4.out.1).mono ?_
  rintro e w5 ⟨gq, cap, rfl, hq1, hq2, hown, hb⟩
  have P5 : Hid (Below w.heap.size w w5 ∧ Blk w5 w.heap.size 24 #[.int .i64 W, .int .i64 H, .slice ao n cp] ∧ Blk w5 (w.heap.size + 1) 24 #[.int .i64 oW, .int .i64 oH, .slice (some ⟨bo, oo, none⟩) on cv] ∧ Blk w5 (w.heap.size + 2) 24 #[.int .i64 0, .int .i64 0, .slice none 0 0]) := ⟨P4.out.1.trans (hb.mono P4.out.1.size), P4.out.2.1.grow hb, P4.out.2.2.1.grow hb, P4.out.2.2.2.grow hb⟩
  have HQ : Hid (w.heap.size + 2 < gq ∧ n ≤ cap) := ⟨by have := P4.out.2.2.2.lt; omega, hq2⟩
  have HOW : Hid (OwnK .u8 w5 w.heap.size 28 (.slice (some ⟨gq, 0, none⟩) n cap) l) := hown.base P4.out.1.size
  clear hb P4 k2 hq1 hq2 hown
  have k2 : w5.cell? ⟨w.heap.size, 2, none⟩ = some (.slice ao n cp) := P5.out.2.1.cell 2
  have f2 := P5.out.2.1.free 2
  have lg := P5.out.2.1.lt
  go_wp2_with fail
  obtain ⟨w6, hw6⟩ : ∃ WW, w5.setCell ⟨w.heap.size, 2, none⟩ (.slice (some ⟨gq, 0, none⟩) n cap) = WW := ⟨_, rfl⟩
  have P6 : Hid (Below w.heap.size w w6 ∧ Blk w6 w.heap.size 24 #[.int .i64 W, .int .i64 H, .slice (some ⟨gq, 0, none⟩) n cap] ∧ Blk w6 (w.heap.size + 1) 24 #[.int .i64 oW, .int .i64 oH, .slice (some ⟨bo, oo, none⟩) on cv] ∧ Blk w6 (w.heap.size + 2) 24 #[.int .i64 0, .int .i64 0, .slice none 0 0] ∧ OwnK .u8 w6 w.heap.size 28 (.slice (some ⟨gq, 0, none⟩) n cap) l ∧ w.heap.size + 2 < gq ∧ n ≤ cap) := by
    rw [← hw6]
    exact ⟨P5.out.1.setCell (Nat.le_refl _) _, P5.out.2.1.put 2 _ _ rfl, P5.out.2.2.1.other _ _ (by simp), P5.out.2.2.2.other _ _ (by simp),
      HOW.out.keep (S := fun k => k ≠ w.heap.size) (Keep.setCell _ _ _ (fun e => e rfl)) (fun k hk => by cases hk; have := HQ.out.1; simp only; omega), HQ.out.1, HQ.out.2⟩
  rw [hw6]
  clear hw6 P5 HOW k2 f2 lg HCK HCO HMD HCL
  refine wp_region_put2 (by kernel_rfl) (by kernel_rfl) (by kernel_rfl) (fun b' vs w' => (b' 0 = true → vs 0 = .int .i64 x) ∧ (b' 1 = true → vs 1 = .int .i64 y) ∧ (b' 2 = true → vs 2 = .int .i64 x) ∧ (b' 3 = true → vs 3 = .pointer (some ⟨w.heap.size + 1, 0, none⟩)) ∧ (b' 4 = true → vs 4 = .int .i64 oW) ∧ (b' 5 = true → vs 5 = .int .i64 xe) ∧ (b' 6 = true → vs 6 = .int .i64 y) ∧ (b' 7 = true → vs 7 = .pointer (some ⟨w.heap.size + 1, 1, none⟩)) ∧ (b' 8 = true → vs 8 = .int .i64 oH) ∧ (b' 9 = true → vs 9 = .int .i64 ye) ∧ (b' 10 = true → vs 10 = .agg #[.int .i64 x, .int .i64 y, .int .i64 xe, .int .i64 ye]) ∧ (b' 11 = true → vs 11 = .agg #[.int .i64 W, .int .i64 H, .slice (some ⟨gq, 0, none⟩) n cap]) ∧ (b' 12 = true → vs 12 = .agg #[.int .i64 0, .int .i64 0, .int .i64 W, .int .i64 H]) ∧ (b' 13 = true → vs 13 = .agg #[.int .i64 m.x0, .int .i64 m.y0, .int .i64 m.x1, .int .i64 m.y1]) ∧ Hid (LayG w6 [⟨14, 15, 26, (fourB ⟨0, 0, 0, 0⟩), (fourB m)⟩] b' vs w')) ?_ ?_ ?_
  · intro vs hvs
    exact ⟨fun h => Bool.noConfusion h, fun h => Bool.noConfusion h, fun h => Bool.noConfusion h, fun h => Bool.noConfusion h, fun h => Bool.noConfusion h, fun h => Bool.noConfusion h, fun h => Bool.noConfusion h, fun h => Bool.noConfusion h, fun h => Bool.noConfusion h, fun h => Bool.noConfusion h, fun h => Bool.noConfusion h, fun h => Bool.noConfusion h, fun h => Bool.noConfusion h, fun h => Bool.noConfusion h, LayG.start vs⟩
  · rintro b' vs w' i op hi hun hall ⟨h0, h1, h2, h3, h4, h5, h6, h7, h8, h9, h10, h11, h12, h13, hM⟩
    have hil : i < 16 := (List.getElem?_eq_some_iff.1 hi).1
    rcases i with _ | _ | _ | _ | _ | _ | _ | _ | _ | _ | _ | _ | _ | _ | _ | _ | i
    · obtain rfl := Option.some.inj hi
      refine wpOp_step rfl (fun K hK => ?_)
      have HKK := Lib.hid hK; clear hK
      simp only [putAll, Act.put, List.setIfInBounds_toArray, List.set_cons_zero, List.set_cons_succ]
      go_simp
      exact HKK.out _ _ ⟨_, by simp only [putAll, Act.put, List.setIfInBounds_toArray, List.set_cons_zero, List.set_cons_succ] <;> rfl, fun _ => rfl, h1, h2, h3, h4, h5, h6, h7, h8, h9, h10, h11, h12, h13, LayG.other hM.out 0 _ rfl⟩
    · obtain rfl := Option.some.inj hi
      refine wpOp_step rfl (fun K hK => ?_)
      have HKK := Lib.hid hK; clear hK
      simp only [putAll, Act.put, List.setIfInBounds_toArray, List.set_cons_zero, List.set_cons_succ]
      go_simp
      exact HKK.out _ _ ⟨_, by simp only [putAll, Act.put, List.setIfInBounds_toArray, List.set_cons_zero, List.set_cons_succ] <;> rfl, h0, fun _ => rfl, h2, h3, h4, h5, h6, h7, h8, h9, h10, h11, h12, h13, LayG.other hM.out 1 _ rfl⟩
    · obtain rfl := Option.some.inj hi
      refine wpOp_step rfl (fun K hK => ?_)
      have HKK := Lib.hid hK; clear hK
      simp only [putAll, Act.put, List.setIfInBounds_toArray, List.set_cons_zero, List.set_cons_succ]
      go_simp
      exact HKK.out _ _ ⟨_, by simp only [putAll, Act.put, List.setIfInBounds_toArray, List.set_cons_zero, List.set_cons_succ] <;> rfl, h0, h1, fun _ => rfl, h3, h4, h5, h6, h7, h8, h9, h10, h11, h12, h13, LayG.other hM.out 2 _ rfl⟩
    · obtain rfl := Option.some.inj hi
      refine wpOp_step rfl (fun K hK => ?_)
      have HKK := Lib.hid hK; clear hK
      simp only [putAll, Act.put, List.setIfInBounds_toArray, List.set_cons_zero, List.set_cons_succ]
      go_simp
      exact HKK.out _ _ ⟨_, by simp only [putAll, Act.put, List.setIfInBounds_toArray, List.set_cons_zero, List.set_cons_succ] <;> rfl, h0, h1, h2, fun _ => rfl, h4, h5, h6, h7, h8, h9, h10, h11, h12, h13, LayG.other hM.out 3 _ rfl⟩
    · obtain rfl := Option.some.inj hi
      have d3 := h3 (hall ⟨3, .data⟩ (by simp) rfl)
      have kb := P6.out.2.2.1.grow (LayG.below hM.out)
      have c0 : w'.cell? ⟨w.heap.size + 1, 0, none⟩ = some (.int .i64 oW) := kb.cell 0
      refine wpOp_step rfl (fun K hK => ?_)
      have HKK := Lib.hid hK; clear hK
      simp only [putAll, Act.put, List.setIfInBounds_toArray, List.set_cons_zero, List.set_cons_succ, d3]
      go_simp
      exact HKK.out _ _ ⟨_, by simp only [putAll, Act.put, List.setIfInBounds_toArray, List.set_cons_zero, List.set_cons_succ, d3] <;> rfl, h0, h1, h2, h3, fun _ => rfl, h5, h6, h7, h8, h9, h10, h11, h12, h13, LayG.other hM.out 4 _ rfl⟩
    · obtain rfl := Option.some.inj hi
      have d2 := h2 (hall ⟨2, .data⟩ (by simp) rfl)
      have d4 := h4 (hall ⟨4, .data⟩ (by simp) rfl)
      have exe := (wrap_is _).trans HXE.out.1
      refine wpOp_step rfl (fun K hK => ?_)
      have HKK := Lib.hid hK; clear hK
      simp only [putAll, Act.put, List.setIfInBounds_toArray, List.set_cons_zero, List.set_cons_succ, d2, d4]
      go_simp
      exact HKK.out _ _ ⟨_, by simp only [putAll, Act.put, List.setIfInBounds_toArray, List.set_cons_zero, List.set_cons_succ, d2, d4] <;> rfl, h0, h1, h2, h3, h4, fun _ => rfl, h6, h7, h8, h9, h10, h11, h12, h13, LayG.other hM.out 5 _ rfl⟩
    · obtain rfl := Option.some.inj hi
      refine wpOp_step rfl (fun K hK => ?_)
      have HKK := Lib.hid hK; clear hK
      simp only [putAll, Act.put, List.setIfInBounds_toArray, List.set_cons_zero, List.set_cons_succ]
      go_simp
      exact HKK.out _ _ ⟨_, by simp only [putAll, Act.put, List.setIfInBounds_toArray, List.set_cons_zero, List.set_cons_succ] <;> rfl, h0, h1, h2, h3, h4, h5, fun _ => rfl, h7, h8, h9, h10, h11, h12, h13, LayG.other hM.out 6 _ rfl⟩
    · obtain rfl := Option.some.inj hi
      refine wpOp_step rfl (fun K hK => ?_)
      have HKK := Lib.hid hK; clear hK
      simp only [putAll, Act.put, List.setIfInBounds_toArray, List.set_cons_zero, List.set_cons_succ]
      go_simp
      exact HKK.out _ _ ⟨_, by simp only [putAll, Act.put, List.setIfInBounds_toArray, List.set_cons_zero, List.set_cons_succ] <;> rfl, h0, h1, h2, h3, h4, h5, h6, fun _ => rfl, h8, h9, h10, h11, h12, h13, LayG.other hM.out 7 _ rfl⟩
    · obtain rfl := Option.some.inj hi
      have d7 := h7 (hall ⟨7, .data⟩ (by simp) rfl)
      have kb := P6.out.2.2.1.grow (LayG.below hM.out)
      have c0 : w'.cell? ⟨w.heap.size + 1, 1, none⟩ = some (.int .i64 oH) := kb.cell 1
      refine wpOp_step rfl (fun K hK => ?_)
      have HKK := Lib.hid hK; clear hK
      simp only [putAll, Act.put, List.setIfInBounds_toArray, List.set_cons_zero, List.set_cons_succ, d7]
      go_simp
      exact HKK.out _ _ ⟨_, by simp only [putAll, Act.put, List.setIfInBounds_toArray, List.set_cons_zero, List.set_cons_succ, d7] <;> rfl, h0, h1, h2, h3, h4, h5, h6, h7, fun _ => rfl, h9, h10, h11, h12, h13, LayG.other hM.out 8 _ rfl⟩
    · obtain rfl := Option.some.inj hi
      have d6 := h6 (hall ⟨6, .data⟩ (by simp) rfl)
      have d8 := h8 (hall ⟨8, .data⟩ (by simp) rfl)
      have eye := (wrap_is _).trans HXE.out.2
      refine wpOp_step rfl (fun K hK => ?_)
      have HKK := Lib.hid hK; clear hK
      simp only [putAll, Act.put, List.setIfInBounds_toArray, List.set_cons_zero, List.set_cons_succ, d6, d8]
      go_simp
      exact HKK.out _ _ ⟨_, by simp only [putAll, Act.put, List.setIfInBounds_toArray, List.set_cons_zero, List.set_cons_succ, d6, d8] <;> rfl, h0, h1, h2, h3, h4, h5, h6, h7, h8, fun _ => rfl, h10, h11, h12, h13, LayG.other hM.out 9 _ rfl⟩
    · obtain rfl := Option.some.inj hi
      have d0 := h0 (hall ⟨0, .data⟩ (by simp) rfl)
      have d1 := h1 (hall ⟨1, .data⟩ (by simp) rfl)
      have d5 := h5 (hall ⟨5, .data⟩ (by simp) rfl)
      have d9 := h9 (hall ⟨9, .data⟩ (by simp) rfl)
      refine wpOp_step rfl (fun K hK => ?_)
      have HKK := Lib.hid hK; clear hK
      simp only [putAll, Act.put, List.setIfInBounds_toArray, List.set_cons_zero, List.set_cons_succ, d0, d1, d5, d9]
      go_simp
      exact HKK.out _ _ ⟨_, by simp only [putAll, Act.put, List.setIfInBounds_toArray, List.set_cons_zero, List.set_cons_succ, d0, d1, d5, d9] <;> rfl, h0, h1, h2, h3, h4, h5, h6, h7, h8, h9, fun _ => rfl, h11, h12, h13, LayG.other hM.out 10 _ rfl⟩
    · obtain rfl := Option.some.inj hi
      have kb := P6.out.2.1.grow (LayG.below hM.out)
      have c0 : w'.cell? ⟨w.heap.size, 0, none⟩ = some (.int .i64 W) := kb.cell 0
      have c1 : w'.cell? ⟨w.heap.size, 1, none⟩ = some (.int .i64 H) := kb.cell 1
      have c2 : w'.cell? ⟨w.heap.size, 2, none⟩ = some (.slice (some ⟨gq, 0, none⟩) n cap) := kb.cell 2
      refine wpOp_step rfl (fun K hK => ?_)
      have HKK := Lib.hid hK; clear hK
      simp only [putAll, Act.put, List.setIfInBounds_toArray, List.set_cons_zero, List.set_cons_succ]
      go_simp
      exact HKK.out _ _ ⟨_, by simp only [putAll, Act.put, List.setIfInBounds_toArray, List.set_cons_zero, List.set_cons_succ] <;> rfl, h0, h1, h2, h3, h4, h5, h6, h7, h8, h9, h10, fun _ => rfl, h12, h13, LayG.other hM.out 11 _ rfl⟩
    · obtain rfl := Option.some.inj hi
      have d11 := h11 (hall ⟨11, .data⟩ (by simp) rfl)
      refine wpOp_step rfl (fun K hK => ?_)
      have HKK := Lib.hid hK; clear hK
      simp only [putAll, Act.put, List.setIfInBounds_toArray, List.set_cons_zero, List.set_cons_succ, d11]
      go_simp
      refine (imBox_c W H (.slice (some ⟨gq, 0, none⟩) n cap) w').mono ?_
      rintro e w'' ⟨rfl, hb2⟩
      exact HKK.out _ _ ⟨_, by simp only [putAll, Act.put, List.setIfInBounds_toArray, List.set_cons_zero, List.set_cons_succ, d11] <;> rfl, h0, h1, h2, h3, h4, h5, h6, h7, h8, h9, h10, h11, fun _ => rfl, h13, Lib.hid ((LayG.grow hM.out hb2).other 12 _ rfl)⟩
    · obtain rfl := Option.some.inj hi
      have d10 := h10 (hall ⟨10, .data⟩ (by simp) rfl)
      have d12 := h12 (hall ⟨12, .data⟩ (by simp) rfl)
      refine wpOp_step rfl (fun K hK => ?_)
      have HKK := Lib.hid hK; clear hK
      simp only [putAll, Act.put, List.setIfInBounds_toArray, List.set_cons_zero, List.set_cons_succ, d10, d12]
      go_simp
      refine (HMT.out w').mono ?_
      rintro e w'' ⟨rfl, hb2⟩
      exact HKK.out _ _ ⟨_, by simp only [putAll, Act.put, List.setIfInBounds_toArray, List.set_cons_zero, List.set_cons_succ, d10, d12] <;> rfl, h0, h1, h2, h3, h4, h5, h6, h7, h8, h9, h10, h11, h12, fun _ => rfl, Lib.hid ((LayG.grow hM.out hb2).other 13 _ rfl)⟩
    · obtain rfl := Option.some.inj hi
      refine wpOp_step rfl (fun K hK => ?_)
      have HKK := Lib.hid hK; clear hK
      simp only [putAll, Act.put, List.setIfInBounds_toArray, List.set_cons_zero, List.set_cons_succ]
      go_simp
      exact HKK.out _ _ ⟨_, by simp only [putAll, Act.put, List.setIfInBounds_toArray, List.set_cons_zero, List.set_cons_succ] <;> rfl, h0, h1, h2, h3, h4, h5, h6, h7, h8, h9, h10, h11, h12, h13, LayG.made hM.out rfl ⟨14, 15, 26, (fourB ⟨0, 0, 0, 0⟩), (fourB m)⟩ (by simp) hun⟩
    · obtain rfl := Option.some.inj hi
      have d13 := h13 (hall ⟨13, .data⟩ (by simp) rfl)
      have dal := hall ⟨14, .data⟩ (by simp) rfl
      obtain ⟨g, eg, lg, kg⟩ := LayG.at hM.out ⟨14, 15, 26, (fourB ⟨0, 0, 0, 0⟩), (fourB m)⟩ (by simp) dal hun
      have kz : Blk w' g 26 (fourB ⟨0, 0, 0, 0⟩) := kg
      have c0 := kz.b0
      have c1 := kz.b1
      have c2 := kz.b2
      have c3 := kz.b3
      have f0 := kg.free 0
      have f1 := kg.free 1
      have f2 := kg.free 2
      have f3 := kg.free 3
      have lgw := kg.lt
      refine wpOp_step rfl (fun K hK => ?_)
      have HKK := Lib.hid hK; clear hK
      simp only [putAll, Act.put, List.setIfInBounds_toArray, List.set_cons_zero, List.set_cons_succ, d13, eg]
      go_simp
      exact HKK.out _ _ ⟨undef, by simp only [putAll, Act.put, List.setIfInBounds_toArray, List.set_cons_zero, List.set_cons_succ, d13, eg] <;> rfl, h0, h1, h2, h3, h4, h5, h6, h7, h8, h9, h10, h11, h12, h13, LayG.stored hM.out rfl ⟨14, 15, 26, (fourB ⟨0, 0, 0, 0⟩), (fourB m)⟩ (by simp) undef dal eg (below_four (LayG.below hM.out) lg _ _ _ _) (kz.setB m) (fun _ _ _ hne k => k.otherB hne _ _ _ _)⟩
    · exact absurd hil (by omega)
  · rintro b' vs w' hb ⟨h0, h1, h2, h3, h4, h5, h6, h7, h8, h9, h10, h11, h12, h13, hM⟩
    obtain ⟨gp, e14, lp, kp⟩ := LayG.done hM.out ⟨14, 15, 26, (fourB ⟨0, 0, 0, 0⟩), (fourB m)⟩ (by simp) (hb 14 (by decide)) (hb 15 (by decide))
    have hbw := LayG.below hM.out
    have v0 := h0 (hb 0 (by decide))
    have v1 := h1 (hb 1 (by decide))
    have v2 := h2 (hb 2 (by decide))
    have v3 := h3 (hb 3 (by decide))
    have v4 := h4 (hb 4 (by decide))
    have v5 := h5 (hb 5 (by decide))
    have v6 := h6 (hb 6 (by decide))
    have v7 := h7 (hb 7 (by decide))
    have v8 := h8 (hb 8 (by decide))
    have v9 := h9 (hb 9 (by decide))
    have v10 := h10 (hb 10 (by decide))
    have v11 := h11 (hb 11 (by decide))
    have v12 := h12 (hb 12 (by decide))
    have v13 := h13 (hb 13 (by decide))
    simp only [putAll, Act.put, List.setIfInBounds_toArray, List.set_cons_zero, List.set_cons_succ, e14, v0, v1, v2, v3, v4, v5, v6, v7, v8, v9, v10, v11, v12, v13]
    clear h0 h1 h2 h3 h4 h5 h6 h7 h8 h9 h10 h11 h12 h13 hM hb e14 v0 v1 v2 v3 v4 v5 v6 v7 v8 v9 v10 v11 v12 v13
    obtain ⟨wa, hwa⟩ : ∃ WW, w' = WW := ⟨_, rfl⟩
    rw [hwa] at kp hbw ⊢
    clear hwa
    have PA : Hid (Below w.heap.size w wa ∧ Blk wa w.heap.size 24 #[.int .i64 W, .int .i64 H, .slice (some ⟨gq, 0, none⟩) n cap] ∧ Blk wa (w.heap.size + 1) 24 #[.int .i64 oW, .int .i64 oH, .slice (some ⟨bo, oo, none⟩) on cv] ∧ Blk wa (w.heap.size + 2) 24 #[.int .i64 0, .int .i64 0, .slice none 0 0] ∧ OwnK .u8 wa w.heap.size 28 (.slice (some ⟨gq, 0, none⟩) n cap) l ∧ w.heap.size + 2 < gq ∧ n ≤ cap) := ⟨P6.out.1.trans (hbw.mono P6.out.1.size), P6.out.2.1.grow hbw, P6.out.2.2.1.grow hbw, P6.out.2.2.2.1.grow hbw, P6.out.2.2.2.2.1.grow hbw, P6.out.2.2.2.2.2.1, P6.out.2.2.2.2.2.2⟩
    have KPA := Lib.hid kp
    have HGP : Hid (gp ≠ gq ∧ gp < wa.heap.size ∧ w.heap.size ≤ gp) := ⟨fun e => by
      have h1 := P6.out.2.2.2.2.1.lt.2.1
      omega, kp.lt, Nat.le_trans P6.out.1.size lp⟩
    have c0 := kp.b0
    have c1 := kp.b1
    have c2 := kp.b2
    have c3 := kp.b3
    obtain ⟨e0, e1, e2, e3⟩ := HE4.out
    clear hbw lp kp P6 HMT HQ
    go_upto_region 8 with fail
    obtain ⟨w7, hw7⟩ : ∃ WW, wa.alloc (.cells #[.int .i64 ax0, .int .i64 ay0, .int .i64 ax1, .int .i64 ay1] 26) = WW := ⟨_, rfl⟩
    have hbw : Below wa.heap.size wa w7 := by rw [← hw7]; exact (Below.refl _ _).alloc (Nat.le_refl _) _
    have P7 : Hid (Below w.heap.size w w7 ∧ Blk w7 w.heap.size 24 #[.int .i64 W, .int .i64 H, .slice (some ⟨gq, 0, none⟩) n cap] ∧ Blk w7 (w.heap.size + 1) 24 #[.int .i64 oW, .int .i64 oH, .slice (some ⟨bo, oo, none⟩) on cv] ∧ Blk w7 (w.heap.size + 2) 24 #[.int .i64 0, .int .i64 0, .slice none 0 0] ∧ OwnK .u8 w7 w.heap.size 28 (.slice (some ⟨gq, 0, none⟩) n cap) l ∧ w.heap.size + 2 < gq ∧ n ≤ cap) := ⟨PA.out.1.trans (hbw.mono PA.out.1.size), PA.out.2.1.grow hbw, PA.out.2.2.1.grow hbw, PA.out.2.2.2.1.grow hbw, PA.out.2.2.2.2.1.grow hbw, PA.out.2.2.2.2.2.1, PA.out.2.2.2.2.2.2⟩
    have KP : Hid (Blk w7 gp 26 (fourB m) ∧ Blk w7 wa.heap.size 26 (fourB ⟨ax0, ay0, ax1, ay1⟩)) := ⟨KPA.out.grow hbw, by rw [← hw7]; exact Blk.new _ _ _⟩
    have HGA : Hid (wa.heap.size ≠ gq) := fun e => by have h1 := PA.out.2.2.2.2.1.lt.2.1; omega
    rw [hw7]
    clear hw7 hbw PA KPA c0 c1 c2 c3 e0 e1 e2 e3
    have a1 := KP.out.2.b1
    simp only at a1
    go_wp2_with fail
    clear a1
    go_loopw [16] (fun jv wr => ∃ yy : Int, jv = .int .i64 (ay0 + (yy - m.y0)) ∧ m.y0 ≤ yy ∧ yy ≤ m.y1 ∧ Hid (PixSt w7 wr w.heap.size gq n cap (mixL (onPx W oW x y b md l ol) (cAt l) (doneQ W m yy 0) n))) (fun jv _ => (ay1 - intOf jv).toNat)
    case atStart => exact ⟨m.y0, by simp, Int.le_refl _, HMI.out.ys.2.1, by unfold Hid; rw [HNO.out]; exact PixSt.start P7.out.2.2.2.2.1⟩
    case round =>
      obtain ⟨yy, rfl, hy0, hy1, hst⟩ := hrel
      have HY := Lib.hid (And.intro hy0 hy1)
      clear hy0 hy1
      have a3 := (hst.out.blk KP.out.2 HGA.out).b3
      simp only at a3
      obtain ⟨jj, hjj⟩ : ∃ jj, ay0 + (yy - m.y0) = jj := ⟨_, rfl⟩
      rw [hjj]
      have HJ := Lib.hid hjj
      by_cases hlt : yy < m.y1
      · have hd : decide (jj < ay1) = true := by have := HLN.out.rows; simp; omega
        have HLT := Lib.hid hlt
        clear hlt hjj
        obtain ⟨fx0, fy0, fx1, fy1, fp0, fp1, fp2, fp3, fxr, fyr⟩ := HLN.out.full (by have := HY.out; have := HLT.out; omega)
        have HFU : Hid (ax0 = m.x0 - x ∧ ay0 = m.y0 - y ∧ ax1 = m.x1 - x ∧ ay1 = m.y1 - y ∧ 0 ≤ ax0 ∧ ax1 ≤ oW ∧ 0 ≤ ay0 ∧ ay1 ≤ oH ∧ (-256 ≤ x ∧ x ≤ 256) ∧ (-256 ≤ y ∧ y ≤ 256)) := ⟨fx0, fy0, fx1, fy1, fp0, fp1, fp2, fp3, fxr, fyr⟩
        clear fx0 fy0 fx1 fy1 fp0 fp1 fp2 fp3 fxr fyr
        obtain ⟨k0, k1, k2⟩ := (hst.out.blk P7.out.2.1 (by have := P7.out.2.2.2.2.2.1; omega)).im3r
        have b0 := (hst.out.blk KP.out.1 HGP.out.1).b0
        have b1 := (hst.out.blk KP.out.1 HGP.out.1).b1
        have b2 := (hst.out.blk KP.out.1 HGP.out.1).b2
        have b3 := (hst.out.blk KP.out.1 HGP.out.1).b3
        obtain ⟨f, t, hft⟩ : ∃ f t : Nat, Hid (yy * W + m.x0 = f ∧ yy * W + m.x1 = t ∧ f < t ∧ t ≤ n ∧ n ≤ 65536 ∧ (0 ≤ yy * W ∧ yy * W ≤ 65536)) := by
          have h1 := HSD.out
          have h2 := HMI.out.xs
          have h3 := HMI.out.ys
          have h4 := HMI.out.both (by have := HY.out; have := HLT.out; omega)
          have h5 := HY.out
          have h6 := HLT.out
          have h7 : 0 ≤ yy * W := Int.mul_nonneg (by omega) (by omega)
          have h8 : (yy + 1) * W ≤ H * W := Int.mul_le_mul_of_nonneg_right (by omega) (by omega)
          rw [Int.add_mul, Int.mul_comm H W] at h8
          generalize yy * W = p at *
          generalize W * H = q at *
          exact ⟨(p + m.x0).toNat, (p + m.x1).toNat, by unfold Hid; omega⟩
        have hjy : Hid (jj = yy - y ∧ 0 ≤ jj ∧ jj < oH) := by unfold Hid; have := HJ.out; have := HFU.out; have := HY.out; have := HLT.out; omega
        obtain ⟨f2, t2, hft2⟩ : ∃ f2 t2 : Nat, Hid (jj * oW + ax0 = f2 ∧ jj * oW + ax1 = t2 ∧ f2 < t2 ∧ t2 ≤ on ∧ on ≤ 65536 ∧ (0 ≤ jj * oW ∧ jj * oW ≤ 65536) ∧ t2 - f2 = t - f) := by
          have h1 := HSO.out
          have h2 := hjy.out
          have h3 := HFU.out
          have h4 := HMI.out.both (by have := HY.out; have := HLT.out; omega)
          have h5 := hft.out
          have h7 : 0 ≤ jj * oW := Int.mul_nonneg (by omega) (by omega)
          have h8 : (jj + 1) * oW ≤ oH * oW := Int.mul_le_mul_of_nonneg_right (by omega) (by omega)
          rw [Int.add_mul, Int.mul_comm oH oW] at h8
          generalize jj * oW = p at *
          generalize oW * oH = q at *
          generalize yy * W = p2 at *
          exact ⟨(p + ax0).toNat, (p + ax1).toNat, by unfold Hid; omega⟩
        obtain ⟨d, hd2⟩ : ∃ d, t - f = d := ⟨_, rfl⟩
        have HD := Lib.hid hd2
        have HRW : Hid (∀ A, Calls Try.prog 36 #[.agg #[.int .i64 W, .int .i64 H, .slice (some ⟨gq, 0, none⟩) n cap], .agg #[.int .i64 m.x0, .int .i64 m.y0, .int .i64 m.x1, .int .i64 m.y1], .int .i64 yy] A fun e w' => e = .returned (.slice (some ⟨gq, f * 4, none⟩) d d) ∧ Below A.heap.size A w') := fun A => by
          have h := row_c W H yy (yy * W) m gq 0 n cap f t rfl (by have := hft.out; omega) hft.out.1 hft.out.2.1 hft.out.2.2.1 (by have := hft.out; have := P7.out.2.2.2.2.2.2; omega) (by have := hft.out; omega) A
          rw [Nat.zero_add, hd2] at h
          exact h
        have HRO : Hid (∀ A, Calls Try.prog 36 #[.agg #[.int .i64 oW, .int .i64 oH, .slice (some ⟨bo, oo, none⟩) on cv], .agg #[.int .i64 ax0, .int .i64 ay0, .int .i64 ax1, .int .i64 ay1], .int .i64 jj] A fun e w' => e = .returned (.slice (some ⟨bo, oo + f2 * 4, none⟩) d d) ∧ Below A.heap.size A w') := fun A => by
          have h := row_c oW oH jj (jj * oW) ⟨ax0, ay0, ax1, ay1⟩ bo oo on cv f2 t2 rfl (by have := hft2.out; omega) hft2.out.1 hft2.out.2.1 hft2.out.2.2.1 (by have := hft2.out; have := HSO.out; omega) (by have := hft2.out; omega) A
          rw [hft2.out.2.2.2.2.2.2, hd2] at h
          exact h
        have HDB : Hid (d ≤ 65536) := by unfold Hid; have := hft.out; omega
        have eyj : wrap64 (y + jj) = yy := by have := hjy.out; have := HSD.out; have := HY.out; have := HMI.out.ys; have := HLT.out; rw [show y + jj = yy by omega]; exact wrapR _ (by omega) (by omega)
        have eji : wrap64 (jj + 1) = jj + 1 := by have := hjy.out; have := HSO.out; exact wrapR _ (by omega) (by omega)
        obtain ⟨w8, hw8⟩ : ∃ x, x = wr := ⟨_, rfl⟩
        rw [← hw8] at hst k0 k1 k2 b0 b1 b2 b3 a3 ⊢
        clear hw8 hd2
        go_wp2_with fail
        refine (HRW.out w8).mono ?_
        rintro e w9 ⟨rfl, hb⟩
        have hs9 : Hid (PixSt w7 w9 w.heap.size gq n cap (mixL (onPx W oW x y b md l ol) (cAt l) (doneQ W m yy 0) n)) := hst.out.step hb
        clear hb hst k0 k1 k2 b0 b1 b2 b3 a3
        obtain ⟨k0, k1, k2⟩ := (hs9.out.blk P7.out.2.2.1 (by have := P7.out.2.2.2.2.2.1; omega)).im3r
        have b0 := (hs9.out.blk KP.out.2 HGA.out).b0
        have b1 := (hs9.out.blk KP.out.2 HGA.out).b1
        have b2 := (hs9.out.blk KP.out.2 HGA.out).b2
        have b3 := (hs9.out.blk KP.out.2 HGA.out).b3
        simp only at b0 b1 b2 b3
        go_wp2_with fail
        refine (HRO.out w9).mono ?_
        rintro e w10 ⟨rfl, hb⟩
        have hs10 : Hid (PixSt w7 w10 w.heap.size gq n cap (mixL (onPx W oW x y b md l ol) (cAt l) (doneQ W m yy 0) n)) := hs9.out.step hb
        clear hb hs9 k0 k1 k2 b0 b1 b2 b3
        go_wp2_with fail
        go_loopw [87] (fun i wr => ∃ k : Nat, i = .int .i64 k ∧ k ≤ d ∧ Hid (PixSt w7 wr w.heap.size gq n cap (mixL (onPx W oW x y b md l ol) (cAt l) (doneQ W m yy k) n))) (fun i _ => d - (intOf i).toNat)
        case atStart => exact ⟨0, rfl, by omega, hs10.out⟩
        case round =>
          obtain ⟨k, rfl, hk, hsk⟩ := hrel
          by_cases hlt : k < d
          · have hd3 : decide ((k : Int) < (d : Int)) = true := by simp; omega
            have HK := Lib.hid hlt
            have hfk : Hid (f + k < n ∧ f2 + k < on) := by unfold Hid; have := hft.out; have := hft2.out; have := HD.out; omega
            obtain ⟨c, hc⟩ : ∃ c, cAt ol (f2 + k) = c := ⟨_, rfl⟩
            obtain ⟨p, hp⟩ : ∃ p, cAt l (f + k) = p := ⟨_, rfl⟩
            obtain ⟨fc, hfc⟩ : ∃ fc, fadeC c b = fc := ⟨_, rfl⟩
            obtain ⟨rc, hrc⟩ : ∃ rc, blendC fc p md = rc := ⟨_, rfl⟩
            have HAT : Hid (layAt W oW x y (f + k) = f2 + k) := by
              unfold Hid layAt
              have h1 := hft.out
              have h2 := hft2.out
              have h3 := HFU.out
              have h4 := hjy.out
              have h5 := HMI.out.xs
              have h6 := HSD.out
              have h7 := HD.out
              obtain ⟨r1, r2⟩ := (row_col (W := W) (y := yy) (x := m.x0 + (k : Int)) (k := f + k) (by omega) (by omega) (by omega)).1 (by rw [Int.natCast_add]; omega)
              rw [r1, r2, ← h4.1, show m.x0 + (k : Int) - x = ax0 + (k : Int) by omega]
              generalize jj * oW = q at *
              omega
            have HNX : Hid (onPx W oW x y b md l ol (f + k) = rc) := by unfold Hid onPx; rw [HAT.out, hc, hp, hfc, hrc]
            have HOP := HPC.out.2.2.1 (f + k) hfk.out.1
            have HOO := HPC.out.2.2.2 (f2 + k) hfk.out.2
            rw [hp] at HOP
            rw [hc] at HOO
            have HOC : Hid (OkC c ∧ byteI b ∧ OkC p) := ⟨HOO.1, HPC.out.1, HOP.1⟩
            have HBC : Hid (∀ A, Calls Try.prog 42 #[.agg #[.int .u8 (fc 0), .int .u8 (fc 1), .int .u8 (fc 2), .int .u8 (fc 3)], .agg #[.int .u8 (p 0), .int .u8 (p 1), .int .u8 (p 2), .int .u8 (p 3)], .int .i64 md] A fun e w' => e = .returned (.tuple #[.agg #[.int .u8 (rc 0), .int .u8 (rc 1), .int .u8 (rc 2), .int .u8 (rc 3)], .int .i64 0]) ∧ Below A.heap.size A w') := fun A => by
              have h := pBlend_any fc p md A (by rw [← hfc]; exact fade_ok HOO.1 HPC.out.1) HOP.1
              have hf := fade_right (c := c) HPC.out.1.1 HOO.2
              rw [hfc] at hf
              have e1 : blendP fc p md = rc := by unfold blendP; rw [if_pos HPC.out.2.1, hf, HOP.2, ← hrc]; rfl
              have e2 : blendE fc p md = 0 := by unfold blendE; rw [if_pos HPC.out.2.1, hf, HOP.2]; rfl
              rw [e1, e2] at h
              exact h
            have HFD : Hid (∀ A, Calls Try.prog 41 #[.agg #[.int .u8 (c 0), .int .u8 (c 1), .int .u8 (c 2), .int .u8 (c 3)], .int .u8 b] A fun e w' => e = .returned (.agg #[.int .u8 (fc 0), .int .u8 (fc 1), .int .u8 (fc 2), .int .u8 (fc 3)]) ∧ Below A.heap.size A w') := fun A => by
              have h := pFade_c c b A HOO.1 HPC.out.1
              rw [hfc] at h
              exact h
            have HPX : Hid ((mixL (onPx W oW x y b md l ol) (cAt l) (doneQ W m yy k) n)[f + k]? = some p) := by
              unfold Hid
              rw [mixL_at hfk.out.1, hp, if_neg]
              have h1 := hft.out
              have h5 := HMI.out.xs
              have h6 := HSD.out
              have h7 := HD.out
              obtain ⟨r1, r2⟩ := (row_col (W := W) (y := yy) (x := m.x0 + (k : Int)) (k := f + k) (by omega) (by omega) (by omega)).1 (by rw [Int.natCast_add]; omega)
              unfold doneQ
              rw [r1, r2]
              simp
            have hcol := HBO.out.2 (f2 + k) c (by rw [← hc]; exact cAt_some (by rw [HON.out]; exact hfk.out.2))
            rw [Nat.add_mul, ← Nat.add_assoc] at hcol
            obtain ⟨c1, c2, c3, c4⟩ := hcol.on (hsk.out.bel P7.out.1) HBO.out.1
            have hkd : (k : Int) < (d : Int) := by omega
            have hkn : (0 : Int) ≤ (k : Int) := by omega
            clear hc hp hfc hrc HOP HOO hcol
            go_upto_region 15 with fail
            obtain ⟨w11, hw11⟩ : ∃ WW, wr.alloc (.cells #[.int .u8 (c 0), .int .u8 (c 1), .int .u8 (c 2), .int .u8 (c 3)] 28) = WW := ⟨_, rfl⟩
            have KC11 : Hid (Blk w11 wr.heap.size 28 (four fun i => .int .u8 (c i))) := by rw [← hw11]; exact Blk.new _ _ _
            have S11 : Hid (PixSt w7 w11 w.heap.size gq n cap (mixL (onPx W oW x y b md l ol) (cAt l) (doneQ W m yy k) n)) := by rw [← hw11]; exact hsk.out.step ((Below.refl _ _).alloc (Nat.le_refl _) _)
            have HFIN : Hid (∀ A, Hid (PixSt w7 A w.heap.size gq n cap (mixL (onPx W oW x y b md l ol) (cAt l) (doneQ W m yy k) n)) → PixSt w7 ((((A.setCell ⟨gq, f * 4 + k * 4, none⟩ (.int .u8 (rc 0))).setCell ⟨gq, f * 4 + k * 4 + 1, none⟩ (.int .u8 (rc 1))).setCell ⟨gq, f * 4 + k * 4 + 2, none⟩ (.int .u8 (rc 2))).setCell ⟨gq, f * 4 + k * 4 + 3, none⟩ (.int .u8 (rc 3))) w.heap.size gq n cap (mixL (onPx W oW x y b md l ol) (cAt l) (doneQ W m yy ((k + 1 : Nat) : Int)) n)) := fun A hA => by
              have h := hA.out.store (k := f + k) (mixL_len _ _ _ _) hfk.out.1 rc (o := f * 4 + k * 4) (by omega)
              rw [← HNX.out] at h ⊢
              refine h.cong ?_
              have h1 := HMI.out
              have h2 := hft.out
              have h3 := HD.out
              have h4 := HY.out
              have h5 := HLT.out
              have h6 := HK.out
              exact mixL_set (g := onPx W oW x y b md l ol) hfk.out.1 fun j _ => (doneQ_set (k0 := f + k) (i := (k : Int)) (y := yy) (by have := HSD.out; omega) h1.xs.1 (by omega) (by omega) h1.xs.2.2 ⟨h4.1, h5⟩ (by omega) j)
            rw [hw11]
            clear hw11 c1 c2 c3 c4 hkd hkn hlt hsk hs10
            go_wp2_with fail
            refine wp_region_put2 (by kernel_rfl) (by kernel_rfl) (by kernel_rfl) (fun b' vs w' => (b' 0 = true → vs 0 = .slice (some ⟨gq, f * 4, none⟩) d d) ∧ (b' 1 = true → vs 1 = .int .i64 (k : Int)) ∧ (b' 2 = true → vs 2 = .agg #[.int .u8 (c 0), .int .u8 (c 1), .int .u8 (c 2), .int .u8 (c 3)]) ∧ (b' 3 = true → vs 3 = .int .u8 b) ∧ (b' 4 = true → vs 4 = .agg #[.int .u8 (fc 0), .int .u8 (fc 1), .int .u8 (fc 2), .int .u8 (fc 3)]) ∧ (b' 5 = true → vs 5 = .slice (some ⟨gq, f * 4, none⟩) d d) ∧ (b' 6 = true → vs 6 = .int .i64 (k : Int)) ∧ (b' 7 = true → vs 7 = .pointer (some ⟨gq, f * 4 + k * 4, none⟩)) ∧ (b' 8 = true → vs 8 = .agg #[.int .u8 (p 0), .int .u8 (p 1), .int .u8 (p 2), .int .u8 (p 3)]) ∧ (b' 9 = true → vs 9 = .int .i64 md) ∧ (b' 10 = true → vs 10 = .tuple #[.agg #[.int .u8 (rc 0), .int .u8 (rc 1), .int .u8 (rc 2), .int .u8 (rc 3)], .int .i64 0]) ∧ (b' 11 = true → vs 11 = .tuple #[.agg #[.int .u8 (rc 0), .int .u8 (rc 1), .int .u8 (rc 2), .int .u8 (rc 3)], .int .i64 0]) ∧ (b' 12 = true → vs 12 = .agg #[.int .u8 (rc 0), .int .u8 (rc 1), .int .u8 (rc 2), .int .u8 (rc 3)]) ∧ (b' 13 = true → vs 13 = .int .i64 0) ∧ (b' 14 = true → vs 14 = .pointer (some ⟨gq, f * 4 + k * 4, none⟩)) ∧ (b' 15 = false → Hid (Below w11.heap.size w11 w')) ∧ (b' 15 = true → Hid (PixSt w7 w' w.heap.size gq n cap (mixL (onPx W oW x y b md l ol) (cAt l) (doneQ W m yy ((k + 1 : Nat) : Int)) n))) ∧ (b' 14 = true → b' 0 = true) ∧ (b' 14 = true → b' 1 = true) ∧ (b' 4 = true → b' 2 = true) ∧ (b' 4 = true → b' 3 = true) ∧ (b' 10 = true → b' 4 = true) ∧ (b' 7 = true → b' 5 = true) ∧ (b' 7 = true → b' 6 = true) ∧ (b' 8 = true → b' 7 = true) ∧ (b' 10 = true → b' 8 = true) ∧ (b' 10 = true → b' 9 = true) ∧ (b' 11 = true → b' 10 = true) ∧ (b' 12 = true → b' 11 = true) ∧ (b' 15 = true → b' 12 = true) ∧ (b' 15 = true → b' 14 = true)) ?_ ?_ ?_
            · intro vs hvs
              exact ⟨fun h => Bool.noConfusion h, fun h => Bool.noConfusion h, fun h => Bool.noConfusion h, fun h => Bool.noConfusion h, fun h => Bool.noConfusion h, fun h => Bool.noConfusion h, fun h => Bool.noConfusion h, fun h => Bool.noConfusion h, fun h => Bool.noConfusion h, fun h => Bool.noConfusion h, fun h => Bool.noConfusion h, fun h => Bool.noConfusion h, fun h => Bool.noConfusion h, fun h => Bool.noConfusion h, fun h => Bool.noConfusion h, fun _ => Lib.hid ⟨rfl, rfl, rfl, Nat.le_refl _, fun _ _ => rfl⟩, fun h => Bool.noConfusion h, fun h => Bool.noConfusion h, fun h => Bool.noConfusion h, fun h => Bool.noConfusion h, fun h => Bool.noConfusion h, fun h => Bool.noConfusion h, fun h => Bool.noConfusion h, fun h => Bool.noConfusion h, fun h => Bool.noConfusion h, fun h => Bool.noConfusion h, fun h => Bool.noConfusion h, fun h => Bool.noConfusion h, fun h => Bool.noConfusion h, fun h => Bool.noConfusion h, fun h => Bool.noConfusion h⟩
            · rintro b' vs w' i op hi hun hall ⟨h0, h1, h2, h3, h4, h5, h6, h7, h8, h9, h10, h11, h12, h13, h14, yB, yS, e0, e1, e2, e3, e4, e5, e6, e7, e8, e9, e10, e11, e12, e14⟩
              have hil : i < 16 := (List.getElem?_eq_some_iff.1 hi).1
              rcases i with _ | _ | _ | _ | _ | _ | _ | _ | _ | _ | _ | _ | _ | _ | _ | _ | i
              · obtain rfl := Option.some.inj hi
                refine wpOp_step rfl (fun K hK => ?_)
                have HKK := Lib.hid hK; clear hK
                simp only [putAll, Act.put, List.setIfInBounds_toArray, List.set_cons_zero, List.set_cons_succ]
                go_simp
                exact HKK.out _ _ ⟨_, by simp only [putAll, Act.put, List.setIfInBounds_toArray, List.set_cons_zero, List.set_cons_succ] <;> rfl, fun _ => rfl, h1, h2, h3, h4, h5, h6, h7, h8, h9, h10, h11, h12, h13, h14, yB, yS, fun _ => rfl, e1, e2, e3, e4, e5, e6, e7, e8, e9, e10, e11, e12, e14⟩
              · obtain rfl := Option.some.inj hi
                refine wpOp_step rfl (fun K hK => ?_)
                have HKK := Lib.hid hK; clear hK
                simp only [putAll, Act.put, List.setIfInBounds_toArray, List.set_cons_zero, List.set_cons_succ]
                go_simp
                exact HKK.out _ _ ⟨_, by simp only [putAll, Act.put, List.setIfInBounds_toArray, List.set_cons_zero, List.set_cons_succ] <;> rfl, h0, fun _ => rfl, h2, h3, h4, h5, h6, h7, h8, h9, h10, h11, h12, h13, h14, yB, yS, e0, fun _ => rfl, e2, e3, e4, e5, e6, e7, e8, e9, e10, e11, e12, e14⟩
              · obtain rfl := Option.some.inj hi
                have h15 : b' 15 = false := Bool.eq_false_iff.2 (fun h => absurd (((e2 (e4 (e10 (e11 (e12 h)))))).symm.trans hun) (by decide))
                have kb := KC11.out.grow (yB h15).out
                obtain ⟨c0, c1, c2, c3⟩ := kb.c0
                refine wpOp_step rfl (fun K hK => ?_)
                have HKK := Lib.hid hK; clear hK
                simp only [putAll, Act.put, List.setIfInBounds_toArray, List.set_cons_zero, List.set_cons_succ]
                go_simp
                exact HKK.out _ _ ⟨_, by simp only [putAll, Act.put, List.setIfInBounds_toArray, List.set_cons_zero, List.set_cons_succ] <;> rfl, h0, h1, fun _ => rfl, h3, h4, h5, h6, h7, h8, h9, h10, h11, h12, h13, h14, yB, yS, e0, e1, fun _ => rfl, e3, e4, e5, e6, e7, e8, e9, e10, e11, e12, e14⟩
              · obtain rfl := Option.some.inj hi
                refine wpOp_step rfl (fun K hK => ?_)
                have HKK := Lib.hid hK; clear hK
                simp only [putAll, Act.put, List.setIfInBounds_toArray, List.set_cons_zero, List.set_cons_succ]
                go_simp
                exact HKK.out _ _ ⟨_, by simp only [putAll, Act.put, List.setIfInBounds_toArray, List.set_cons_zero, List.set_cons_succ] <;> rfl, h0, h1, h2, fun _ => rfl, h4, h5, h6, h7, h8, h9, h10, h11, h12, h13, h14, yB, yS, e0, e1, e2, fun _ => rfl, e4, e5, e6, e7, e8, e9, e10, e11, e12, e14⟩
              · obtain rfl := Option.some.inj hi
                have h15 : b' 15 = false := Bool.eq_false_iff.2 (fun h => absurd (((e4 (e10 (e11 (e12 h))))).symm.trans hun) (by decide))
                have g2 := hall ⟨2, .data⟩ (by simp) rfl
                have g3 := hall ⟨3, .data⟩ (by simp) rfl
                have d2 := h2 g2
                have d3 := h3 g3
                refine wpOp_step rfl (fun K hK => ?_)
                have HKK := Lib.hid hK; clear hK
                simp only [putAll, Act.put, List.setIfInBounds_toArray, List.set_cons_zero, List.set_cons_succ, d2, d3]
                go_simp
                refine (HFD.out w').mono ?_
                rintro e w'' ⟨rfl, hb2⟩
                exact HKK.out _ _ ⟨_, by simp only [putAll, Act.put, List.setIfInBounds_toArray, List.set_cons_zero, List.set_cons_succ, d2, d3] <;> rfl, h0, h1, h2, h3, fun _ => rfl, h5, h6, h7, h8, h9, h10, h11, h12, h13, h14, fun h => Lib.hid ((yB h15).out.trans (hb2.mono (yB h15).out.size)), fun h => absurd (h15.symm.trans h) (by decide), e0, e1, fun _ => g2, fun _ => g3, fun _ => rfl, e5, e6, e7, e8, e9, e10, e11, e12, e14⟩
              · obtain rfl := Option.some.inj hi
                refine wpOp_step rfl (fun K hK => ?_)
                have HKK := Lib.hid hK; clear hK
                simp only [putAll, Act.put, List.setIfInBounds_toArray, List.set_cons_zero, List.set_cons_succ]
                go_simp
                exact HKK.out _ _ ⟨_, by simp only [putAll, Act.put, List.setIfInBounds_toArray, List.set_cons_zero, List.set_cons_succ] <;> rfl, h0, h1, h2, h3, h4, fun _ => rfl, h6, h7, h8, h9, h10, h11, h12, h13, h14, yB, yS, e0, e1, e2, e3, e4, fun _ => rfl, e6, e7, e8, e9, e10, e11, e12, e14⟩
              · obtain rfl := Option.some.inj hi
                refine wpOp_step rfl (fun K hK => ?_)
                have HKK := Lib.hid hK; clear hK
                simp only [putAll, Act.put, List.setIfInBounds_toArray, List.set_cons_zero, List.set_cons_succ]
                go_simp
                exact HKK.out _ _ ⟨_, by simp only [putAll, Act.put, List.setIfInBounds_toArray, List.set_cons_zero, List.set_cons_succ] <;> rfl, h0, h1, h2, h3, h4, h5, fun _ => rfl, h7, h8, h9, h10, h11, h12, h13, h14, yB, yS, e0, e1, e2, e3, e4, e5, fun _ => rfl, e7, e8, e9, e10, e11, e12, e14⟩
              · obtain rfl := Option.some.inj hi
                have g5 := hall ⟨5, .data⟩ (by simp) rfl
                have g6 := hall ⟨6, .data⟩ (by simp) rfl
                have d5 := h5 g5
                have d6 := h6 g6
                have k1 : (k : Int) < (d : Int) := by have := HK.out; omega
                have k2 : (0 : Int) ≤ (k : Int) := by omega
                refine wpOp_step rfl (fun K hK => ?_)
                have HKK := Lib.hid hK; clear hK
                simp only [putAll, Act.put, List.setIfInBounds_toArray, List.set_cons_zero, List.set_cons_succ, d5, d6]
                go_simp
                exact HKK.out _ _ ⟨_, by simp only [putAll, Act.put, List.setIfInBounds_toArray, List.set_cons_zero, List.set_cons_succ, d5, d6] <;> rfl, h0, h1, h2, h3, h4, h5, h6, fun _ => rfl, h8, h9, h10, h11, h12, h13, h14, yB, yS, e0, e1, e2, e3, e4, fun _ => g5, fun _ => g6, fun _ => rfl, e8, e9, e10, e11, e12, e14⟩
              · obtain rfl := Option.some.inj hi
                have h15 : b' 15 = false := Bool.eq_false_iff.2 (fun h => absurd (((e8 (e10 (e11 (e12 h))))).symm.trans hun) (by decide))
                have g7 := hall ⟨7, .data⟩ (by simp) rfl
                have d7 := h7 g7
                have d5 := h5 (e5 g7)
                have d6 := h6 (e6 g7)
                obtain ⟨⟨c0, c1, c2, c3⟩, _, lgq⟩ := (S11.out.step (yB h15).out).col HPX.out (o := f * 4 + k * 4) (by omega)
                refine wpOp_step rfl (fun K hK => ?_)
                have HKK := Lib.hid hK; clear hK
                simp only [putAll, Act.put, List.setIfInBounds_toArray, List.set_cons_zero, List.set_cons_succ, d7, d5, d6]
                go_simp
                exact HKK.out _ _ ⟨_, by simp only [putAll, Act.put, List.setIfInBounds_toArray, List.set_cons_zero, List.set_cons_succ, d7, d5, d6] <;> rfl, h0, h1, h2, h3, h4, h5, h6, h7, fun _ => rfl, h9, h10, h11, h12, h13, h14, yB, yS, e0, e1, e2, e3, e4, e5, e6, fun _ => g7, fun _ => rfl, e9, e10, e11, e12, e14⟩
              · obtain rfl := Option.some.inj hi
                refine wpOp_step rfl (fun K hK => ?_)
                have HKK := Lib.hid hK; clear hK
                simp only [putAll, Act.put, List.setIfInBounds_toArray, List.set_cons_zero, List.set_cons_succ]
                go_simp
                exact HKK.out _ _ ⟨_, by simp only [putAll, Act.put, List.setIfInBounds_toArray, List.set_cons_zero, List.set_cons_succ] <;> rfl, h0, h1, h2, h3, h4, h5, h6, h7, h8, fun _ => rfl, h10, h11, h12, h13, h14, yB, yS, e0, e1, e2, e3, e4, e5, e6, e7, e8, fun _ => rfl, e10, e11, e12, e14⟩
              · obtain rfl := Option.some.inj hi
                have h15 : b' 15 = false := Bool.eq_false_iff.2 (fun h => absurd (((e10 (e11 (e12 h)))).symm.trans hun) (by decide))
                have g4 := hall ⟨4, .data⟩ (by simp) rfl
                have g8 := hall ⟨8, .data⟩ (by simp) rfl
                have g9 := hall ⟨9, .data⟩ (by simp) rfl
                have d4 := h4 g4
                have d8 := h8 g8
                have d9 := h9 g9
                have d2 := h2 (e2 g4)
                have d3 := h3 (e3 g4)
                have d5 := h5 (e5 (e7 g8))
                have d6 := h6 (e6 (e7 g8))
                have d7 := h7 (e7 g8)
                refine wpOp_step rfl (fun K hK => ?_)
                have HKK := Lib.hid hK; clear hK
                simp only [putAll, Act.put, List.setIfInBounds_toArray, List.set_cons_zero, List.set_cons_succ, d4, d8, d9, d2, d3, d5, d6, d7]
                go_simp
                refine (HBC.out w').mono ?_
                rintro e w'' ⟨rfl, hb2⟩
                exact HKK.out _ _ ⟨_, by simp only [putAll, Act.put, List.setIfInBounds_toArray, List.set_cons_zero, List.set_cons_succ, d4, d8, d9, d2, d3, d5, d6, d7] <;> rfl, h0, h1, h2, h3, h4, h5, h6, h7, h8, h9, fun _ => rfl, h11, h12, h13, h14, fun h => Lib.hid ((yB h15).out.trans (hb2.mono (yB h15).out.size)), fun h => absurd (h15.symm.trans h) (by decide), e0, e1, e2, e3, fun _ => g4, e5, e6, e7, fun _ => g8, fun _ => g9, fun _ => rfl, e11, e12, e14⟩
              · obtain rfl := Option.some.inj hi
                have g10 := hall ⟨10, .data⟩ (by simp) rfl
                have d10 := h10 g10
                have d2 := h2 (e2 (e4 g10))
                have d3 := h3 (e3 (e4 g10))
                have d4 := h4 (e4 g10)
                have d5 := h5 (e5 (e7 (e8 g10)))
                have d6 := h6 (e6 (e7 (e8 g10)))
                have d7 := h7 (e7 (e8 g10))
                have d8 := h8 (e8 g10)
                have d9 := h9 (e9 g10)
                refine wpOp_step rfl (fun K hK => ?_)
                have HKK := Lib.hid hK; clear hK
                simp only [putAll, Act.put, List.setIfInBounds_toArray, List.set_cons_zero, List.set_cons_succ, d10, d2, d3, d4, d5, d6, d7, d8, d9]
                go_simp
                exact HKK.out _ _ ⟨_, by simp only [putAll, Act.put, List.setIfInBounds_toArray, List.set_cons_zero, List.set_cons_succ, d10, d2, d3, d4, d5, d6, d7, d8, d9] <;> rfl, h0, h1, h2, h3, h4, h5, h6, h7, h8, h9, h10, fun _ => rfl, h12, h13, h14, yB, yS, e0, e1, e2, e3, e4, e5, e6, e7, e8, e9, fun _ => g10, fun _ => rfl, e12, e14⟩
              · obtain rfl := Option.some.inj hi
                have g11 := hall ⟨11, .data⟩ (by simp) rfl
                have d11 := h11 g11
                have d2 := h2 (e2 (e4 (e10 g11)))
                have d3 := h3 (e3 (e4 (e10 g11)))
                have d4 := h4 (e4 (e10 g11))
                have d5 := h5 (e5 (e7 (e8 (e10 g11))))
                have d6 := h6 (e6 (e7 (e8 (e10 g11))))
                have d7 := h7 (e7 (e8 (e10 g11)))
                have d8 := h8 (e8 (e10 g11))
                have d9 := h9 (e9 (e10 g11))
                have d10 := h10 (e10 g11)
                refine wpOp_step rfl (fun K hK => ?_)
                have HKK := Lib.hid hK; clear hK
                simp only [putAll, Act.put, List.setIfInBounds_toArray, List.set_cons_zero, List.set_cons_succ, d11, d2, d3, d4, d5, d6, d7, d8, d9, d10]
                go_simp
                exact HKK.out _ _ ⟨_, by simp only [putAll, Act.put, List.setIfInBounds_toArray, List.set_cons_zero, List.set_cons_succ, d11, d2, d3, d4, d5, d6, d7, d8, d9, d10] <;> rfl, h0, h1, h2, h3, h4, h5, h6, h7, h8, h9, h10, h11, fun _ => rfl, h13, h14, yB, yS, e0, e1, e2, e3, e4, e5, e6, e7, e8, e9, e10, fun _ => g11, fun _ => rfl, e14⟩
              · obtain rfl := Option.some.inj hi
                have g11 := hall ⟨11, .data⟩ (by simp) rfl
                have d11 := h11 g11
                have d2 := h2 (e2 (e4 (e10 g11)))
                have d3 := h3 (e3 (e4 (e10 g11)))
                have d4 := h4 (e4 (e10 g11))
                have d5 := h5 (e5 (e7 (e8 (e10 g11))))
                have d6 := h6 (e6 (e7 (e8 (e10 g11))))
                have d7 := h7 (e7 (e8 (e10 g11)))
                have d8 := h8 (e8 (e10 g11))
                have d9 := h9 (e9 (e10 g11))
                have d10 := h10 (e10 g11)
                refine wpOp_step rfl (fun K hK => ?_)
                have HKK := Lib.hid hK; clear hK
                simp only [putAll, Act.put, List.setIfInBounds_toArray, List.set_cons_zero, List.set_cons_succ, d11, d2, d3, d4, d5, d6, d7, d8, d9, d10]
                go_simp
                exact HKK.out _ _ ⟨_, by simp only [putAll, Act.put, List.setIfInBounds_toArray, List.set_cons_zero, List.set_cons_succ, d11, d2, d3, d4, d5, d6, d7, d8, d9, d10] <;> rfl, h0, h1, h2, h3, h4, h5, h6, h7, h8, h9, h10, h11, h12, fun _ => rfl, h14, yB, yS, e0, e1, e2, e3, e4, e5, e6, e7, e8, e9, e10, e11, e12, e14⟩
              · obtain rfl := Option.some.inj hi
                have g0 := hall ⟨0, .data⟩ (by simp) rfl
                have g1 := hall ⟨1, .data⟩ (by simp) rfl
                have d0 := h0 g0
                have d1 := h1 g1
                have k1 : (k : Int) < (d : Int) := by have := HK.out; omega
                have k2 : (0 : Int) ≤ (k : Int) := by omega
                refine wpOp_step rfl (fun K hK => ?_)
                have HKK := Lib.hid hK; clear hK
                simp only [putAll, Act.put, List.setIfInBounds_toArray, List.set_cons_zero, List.set_cons_succ, d0, d1]
                go_simp
                exact HKK.out _ _ ⟨_, by simp only [putAll, Act.put, List.setIfInBounds_toArray, List.set_cons_zero, List.set_cons_succ, d0, d1] <;> rfl, h0, h1, h2, h3, h4, h5, h6, h7, h8, h9, h10, h11, h12, h13, fun _ => rfl, yB, yS, fun _ => g0, fun _ => g1, e2, e3, e4, e5, e6, e7, e8, e9, e10, e11, e12, fun _ => rfl⟩
              · obtain rfl := Option.some.inj hi
                have g12 := hall ⟨12, .data⟩ (by simp) rfl
                have g14 := hall ⟨14, .data⟩ (by simp) rfl
                have d12 := h12 g12
                have d14 := h14 g14
                have d0 := h0 (e0 g14)
                have d1 := h1 (e1 g14)
                have d2 := h2 (e2 (e4 (e10 (e11 g12))))
                have d3 := h3 (e3 (e4 (e10 (e11 g12))))
                have d4 := h4 (e4 (e10 (e11 g12)))
                have d5 := h5 (e5 (e7 (e8 (e10 (e11 g12)))))
                have d6 := h6 (e6 (e7 (e8 (e10 (e11 g12)))))
                have d7 := h7 (e7 (e8 (e10 (e11 g12))))
                have d8 := h8 (e8 (e10 (e11 g12)))
                have d9 := h9 (e9 (e10 (e11 g12)))
                have d10 := h10 (e10 (e11 g12))
                have d11 := h11 (e11 g12)
                have hbx := (yB hun).out
                have SA := Lib.hid (S11.out.step hbx)
                obtain ⟨⟨c0, c1, c2, c3⟩, hfz, lgq⟩ := SA.out.col HPX.out (o := f * 4 + k * 4) (by omega)
                have f0 := hfz (f * 4 + k * 4)
                have f1 := hfz (f * 4 + k * 4 + 1)
                have f2 := hfz (f * 4 + k * 4 + 2)
                have f3 := hfz (f * 4 + k * 4 + 3)
                have HF := Lib.hid (HFIN.out w' SA)
                clear hfz hbx
                refine wpOp_step rfl (fun K hK => ?_)
                have HKK := Lib.hid hK; clear hK
                simp only [putAll, Act.put, List.setIfInBounds_toArray, List.set_cons_zero, List.set_cons_succ, d12, d14, d0, d1, d2, d3, d4, d5, d6, d7, d8, d9, d10, d11]
                go_simp
                exact HKK.out _ _ ⟨undef, by simp only [putAll, Act.put, List.setIfInBounds_toArray, List.set_cons_zero, List.set_cons_succ, d12, d14, d0, d1, d2, d3, d4, d5, d6, d7, d8, d9, d10, d11] <;> rfl, h0, h1, h2, h3, h4, h5, h6, h7, h8, h9, h10, h11, h12, h13, h14, fun h => Bool.noConfusion h, fun _ => HF, e0, e1, e2, e3, e4, e5, e6, e7, e8, e9, e10, e11, fun _ => g12, fun _ => g14⟩
              · exact absurd hil (by omega)
            · rintro b' vs w' hb ⟨h0, h1, h2, h3, h4, h5, h6, h7, h8, h9, h10, h11, h12, h13, h14, yB, yS, e0, e1, e2, e3, e4, e5, e6, e7, e8, e9, e10, e11, e12, e14⟩
              have FS := yS (hb 15 (by decide))
              have v0 := h0 (hb 0 (by decide))
              have v1 := h1 (hb 1 (by decide))
              have v2 := h2 (hb 2 (by decide))
              have v3 := h3 (hb 3 (by decide))
              have v4 := h4 (hb 4 (by decide))
              have v5 := h5 (hb 5 (by decide))
              have v6 := h6 (hb 6 (by decide))
              have v7 := h7 (hb 7 (by decide))
              have v8 := h8 (hb 8 (by decide))
              have v9 := h9 (hb 9 (by decide))
              have v10 := h10 (hb 10 (by decide))
              have v11 := h11 (hb 11 (by decide))
              have v12 := h12 (hb 12 (by decide))
              have v13 := h13 (hb 13 (by decide))
              have v14 := h14 (hb 14 (by decide))
              simp only [putAll, Act.put, List.setIfInBounds_toArray, List.set_cons_zero, List.set_cons_succ, v0, v1, v2, v3, v4, v5, v6, v7, v8, v9, v10, v11, v12, v13, v14]
              clear h0 h1 h2 h3 h4 h5 h6 h7 h8 h9 h10 h11 h12 h13 h14 yB yS e0 e1 e2 e3 e4 e5 e6 e7 e8 e9 e10 e11 e12 e14 hb v0 v1 v2 v3 v4 v5 v6 v7 v8 v9 v10 v11 v12 v13 v14
              have hkd := HK.out
              have hdb := HDB.out
              go_wp2_with fail
              exact ⟨⟨k + 1, by go_num, hkd, FS.out⟩, by simp [intOf]; omega⟩
          · have hd3 : decide ((k : Int) < (d : Int)) = false := by simp; omega
            have hkd : Hid (k = d) := by unfold Hid; omega
            go_wp2_with fail
            refine ⟨⟨yy + 1, by rw [eji]; exact congrArg (Value.int .i64) (by have := HJ.out; omega), by have := HY.out; omega, by have := HLT.out; omega, Lib.hid (hsk.out.cong (mixL_congr fun j _ => doneQ_next W m yy k ?_ j))⟩, by have := HLN.out.rows; have := HJ.out; have := HLT.out; simp [intOf]; omega⟩
            have := hft.out
            have := HD.out
            have := hkd.out
            omega
      · have hd : decide (jj < ay1) = false := by have := HLN.out.rows; simp; omega
        have hnj : ¬ jj < ay1 := by have := HLN.out.rows; omega
        have HEND : Hid (yy = m.y1) := by unfold Hid; have := HY.out; omega
        clear hlt hjj
        obtain ⟨k0, k1, k2⟩ := (hst.out.blk P7.out.2.1 (by have := P7.out.2.2.2.2.2.1; omega)).im3r
        have kz := (hst.out.blk P7.out.2.2.2.1 (by have := P7.out.2.2.2.2.2.1; omega))
        obtain ⟨z0, z1, z2⟩ := kz.im3r
        have f0 := kz.free 0
        have f1 := kz.free 1
        have f2 := kz.free 2
        have lg := kz.lt
        have KZ := Lib.hid kz
        clear kz
        go_wp2_with fail
        refine bodyPost_ret (results_imG rfl rfl rfl (KZ.out.set3 _ _ _)) rfl ⟨_, rfl, ?_, below_three (hst.out.bel P7.out.1) (by omega) _ _ _⟩
        have h := hst.out.2
        rw [HEND.out, HFI.out] at h
        exact (h.keep (S := fun k => k ≠ w.heap.size + 2) (Keep.set3 _ _ _ _ _ (fun e => e rfl)) (fun k hk => by cases hk; have := P7.out.2.2.2.2.2.1; simp only; omega)).row
theorem layOkR : LayOkR := by
  intro W H oW oH x y b md s so l ol w row rov hcs hxy hok hoko hb hl hol
  unfold layAns
  cases hr : rightIm W H l with
  | false => exact lay_m W H oW oH x y b md s so l ol w row rov hok hoko hl hol hr
  | true =>
    cases hq : rightIm oW oH ol with
    | false => exact lay_o W H oW oH x y b md s so l ol w row rov hok hoko hl hol hr hq
    | true =>
      by_cases hm : 0 ≤ md ∧ md ≤ 4
      · rw [if_pos (by rfl), if_pos hm]
        exact lay_y W H oW oH x y b md s so l ol w row rov hok hoko hl hol hcs hxy hb hr hq (by simpa using hm)
      · rw [if_pos (by rfl), if_neg hm]
        exact lay_k W H oW oH x y b md s so l ol w row rov hok hoko hl hol hr hq (by simpa using hm)
end Go.Proofs.Ytoppmlfibllhlaa
