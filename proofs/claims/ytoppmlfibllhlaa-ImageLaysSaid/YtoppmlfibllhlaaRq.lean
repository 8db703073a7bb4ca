/- Layer 11: package image's Lay: what is refused; colours faded; the pixels of an image over another one. -/
import Derived.Test.YtoppmlfibllhlaaRf
import Derived.Test.YtoppmlfibllhlaaJm
import Derived.Test.YtoppmlfibllhlaaQf
import Derived.BigQuiet
namespace Go.Proofs.Ytoppmlfibllhlaa
open Go.RowKit
theorem blend_in0 {md : Int} (hm : 0 ≤ md ∧ md ≤ 4) : ∀ i, i < 4 → blendC zeroC zeroC md i = 0 := by
  rcases (show md = 0 ∨ md = 1 ∨ md = 2 ∨ md = 3 ∨ md = 4 by omega) with rfl | rfl | rfl | rfl | rfl <;> decide
set_option maxHeartbeats 1000000 in
theorem isMode_c (md : Int) (w : World) : Calls Try.prog 40 #[.int .i64 md] w fun e w' => e = .returned (.bool (decide (0 ≤ md ∧ md ≤ 4))) ∧ Below w.heap.size w w' := by
  have HBL : Hid (Calls Try.prog 42 #[.agg #[.int .u8 0, .int .u8 0, .int .u8 0, .int .u8 0], .agg #[.int .u8 0, .int .u8 0, .int .u8 0, .int .u8 0], .int .i64 md] w fun e w' => e = .returned (.tuple #[.agg #[.int .u8 0, .int .u8 0, .int .u8 0, .int .u8 0], .int .i64 (if 0 ≤ md ∧ md ≤ 4 then 0 else 33)]) ∧ Below w.heap.size w w') := by
    have h := pBlend_any zeroC zeroC md w (fun i _ => by unfold zeroC; omega) (fun i _ => by unfold zeroC; omega)
    have e1 : blendE zeroC zeroC md = if 0 ≤ md ∧ md ≤ 4 then 0 else 33 := by
      unfold blendE; rw [show (rightC zeroC && rightC zeroC) = true from by decide]; rfl
    have e2 : ∀ i, i < 4 → blendP zeroC zeroC md i = 0 := fun i hi => by
      unfold blendP
      split
      · rw [show (rightC zeroC && rightC zeroC) = true from by decide, if_pos rfl]
        rename_i hm
        have hz : ∀ k, OkC zeroC := fun _ i _ => by unfold zeroC; omega
        have hb := blend_in0 hm i hi
        exact hb
      · rfl
    rw [e1, e2 0 (by decide), e2 1 (by decide), e2 2 (by decide), e2 3 (by decide)] at h
    exact h
  by_cases hm : 0 ≤ md ∧ md ≤ 4
  · rw [if_pos hm] at HBL
    have d1 : decide (0 ≤ md ∧ md ≤ 4) = true := by simpa using hm
    rw [d1]
    clear hm d1
    go_enter Try.func40, Try.ntmps40
    go_wp2_with fail
    refine HBL.out.mono ?_
    rintro e w' ⟨rfl, hb⟩
    have B1 : Hid (Below w.heap.size w (w'.alloc (.cells #[.int .u8 0, .int .u8 0, .int .u8 0, .int .u8 0] 28))) := hb.alloc hb.size _
    clear hb
    go_wp2_with fail
    go_ret
    exact ⟨rfl, B1.out⟩
  · rw [if_neg hm] at HBL
    have d1 : decide (0 ≤ md ∧ md ≤ 4) = false := by simpa using hm
    rw [d1]
    clear hm d1
    go_enter Try.func40, Try.ntmps40
    go_wp2_with fail
    refine HBL.out.mono ?_
    rintro e w' ⟨rfl, hb⟩
    have B1 : Hid (Below w.heap.size w (w'.alloc (.cells #[.int .u8 0, .int .u8 0, .int .u8 0, .int .u8 0] 28))) := hb.alloc hb.size _
    clear hb
    go_wp2_with fail
    go_ret
    exact ⟨rfl, B1.out⟩
theorem fade_right {c : Col} {b : Int} (hb : 0 ≤ b) (h : rightC c = true) : rightC (fadeC c b) = true := by
  have := rightC_iff.1 h
  refine rightC_iff.2 ⟨?_, ?_, ?_⟩
  · unfold fadeC; rw [ofI_comm (c 0), ofI_comm (c 3)]; exact ofI_mono this.1 hb
  · unfold fadeC; rw [ofI_comm (c 1), ofI_comm (c 3)]; exact ofI_mono this.2.1 hb
  · unfold fadeC; rw [ofI_comm (c 2), ofI_comm (c 3)]; exact ofI_mono this.2.2 hb
set_option maxHeartbeats 4000000 in
set_option maxRecDepth 100000 in
theorem lay_m (W H oW oH x y b md : Int) (s so : Value) (l ol : List Col) (w : World) (row : RowK .u8 w s l) (rov : RowK .u8 w so ol) (hok : ∀ c ∈ l, OkC c) (_hoko : ∀ c ∈ ol, OkC c) (hl : l.length ≤ 70000) (_hol : ol.length ≤ 70000) (hr : rightIm W H l = false) : Calls Try.prog 20 #[.agg #[.int .i64 W, .int .i64 H, s], .agg #[.int .i64 oW, .int .i64 oH, so], .int .i64 x, .int .i64 y, .int .u8 b, .int .i64 md] w fun e w' => ToldIm w 0 0 [] 30 e w' := by
  have HCK : Hid (∀ A, Below w.heap.size w A → Calls Try.prog 15 #[.agg #[.int .i64 W, .int .i64 H, s]] A fun e w' => e = .returned (.int .i64 30) ∧ Below A.heap.size A w') := fun A hA => by
    have h := checkOk W H s _ A (row.on hA) hok (by omega)
    rw [hr] at h
    exact h
  obtain ⟨ao, cp, rfl⟩ := row.shape
  obtain ⟨av, cv, rfl⟩ := rov.shape
  clear row rov hok hl hr
  go_enter Try.func20, Try.ntmps20
  go_wp2_with fail
  obtain ⟨w1, hw1⟩ : ∃ WW, ((w.alloc (.cells #[.int .i64 W, .int .i64 H, .slice ao l.length cp] 24)).alloc (.cells #[.int .i64 oW, .int .i64 oH, .slice av ol.length cv] 24)).alloc (.cells #[.int .i64 0, .int .i64 0, .slice none 0 0] 24) = WW := ⟨_, rfl⟩
  have P1 : Hid (Below w.heap.size w w1 ∧ Blk w1 w.heap.size 24 #[.int .i64 W, .int .i64 H, .slice ao l.length cp] ∧ Blk w1 (w.heap.size + 1) 24 #[.int .i64 oW, .int .i64 oH, .slice av ol.length cv] ∧ Blk w1 (w.heap.size + 2) 24 #[.int .i64 0, .int .i64 0, .slice none 0 0]) := by
    rw [← hw1]
    exact ⟨((((Below.refl _ _).alloc (Nat.le_refl _) _).alloc (by simp) _).alloc (by simp; omega) _), ((Blk.new _ _ _).alloc _).alloc _, (Blk.newAt _ _ _ (by simp)).alloc _, Blk.newAt _ _ _ (by simp)⟩
  rw [hw1]
  clear hw1
  refine (HCK.out w1 P1.out.1).mono ?_
  rintro e w2 ⟨rfl, hb⟩
  have P2 : Hid (Below w.heap.size w w2 ∧ Blk w2 w.heap.size 24 #[.int .i64 W, .int .i64 H, .slice ao l.length cp] ∧ Blk w2 (w.heap.size + 1) 24 #[.int .i64 oW, .int .i64 oH, .slice av ol.length cv] ∧ Blk w2 (w.heap.size + 2) 24 #[.int .i64 0, .int .i64 0, .slice none 0 0]) := ⟨P1.out.1.trans (hb.mono P1.out.1.size), P1.out.2.1.grow hb, P1.out.2.2.1.grow hb, P1.out.2.2.2.grow hb⟩
  clear hb P1
  have z0 : w2.cell? ⟨w.heap.size + 2, 0, none⟩ = some (.int .i64 0) := P2.out.2.2.2.cell 0
  have z1 : w2.cell? ⟨w.heap.size + 2, 1, none⟩ = some (.int .i64 0) := P2.out.2.2.2.cell 1
  have z2 : w2.cell? ⟨w.heap.size + 2, 2, none⟩ = some (.slice none 0 0) := P2.out.2.2.2.cell 2
  have f0 := P2.out.2.2.2.free 0
  have f1 := P2.out.2.2.2.free 1
  have f2 := P2.out.2.2.2.free 2
  have lg := P2.out.2.2.2.lt
  go_wp2_with fail
  exact bodyPost_ret (results_imG rfl rfl rfl (P2.out.2.2.2.set3 _ _ _)) rfl ⟨_, rfl, .inl ⟨rfl, rfl⟩, below_three P2.out.1 (by omega) _ _ _⟩
set_option maxHeartbeats 4000000 in
set_option maxRecDepth 100000 in
theorem lay_o (W H oW oH x y b md : Int) (s so : Value) (l ol : List Col) (w : World) (row : RowK .u8 w s l) (rov : RowK .u8 w so ol) (hok : ∀ c ∈ l, OkC c) (hoko : ∀ c ∈ ol, OkC c) (hl : l.length ≤ 70000) (hol : ol.length ≤ 70000) (hr : rightIm W H l = true) (hq : rightIm oW oH ol = false) : Calls Try.prog 20 #[.agg #[.int .i64 W, .int .i64 H, s], .agg #[.int .i64 oW, .int .i64 oH, so], .int .i64 x, .int .i64 y, .int .u8 b, .int .i64 md] w fun e w' => ToldIm w 0 0 [] 30 e w' := by
  have HCK : Hid (∀ A, Below w.heap.size w A → Calls Try.prog 15 #[.agg #[.int .i64 W, .int .i64 H, s]] A fun e w' => e = .returned (.int .i64 0) ∧ Below A.heap.size A w') := fun A hA => by
    have h := checkOk W H s _ A (row.on hA) hok (by omega)
    rw [hr] at h
    exact h
  have HCO : Hid (∀ A, Below w.heap.size w A → Calls Try.prog 15 #[.agg #[.int .i64 oW, .int .i64 oH, so]] A fun e w' => e = .returned (.int .i64 30) ∧ Below A.heap.size A w') := fun A hA => by
    have h := checkOk oW oH so _ A (rov.on hA) hoko (by omega)
    rw [hq] at h
    exact h
  obtain ⟨ao, cp, rfl⟩ := row.shape
  obtain ⟨av, cv, rfl⟩ := rov.shape
  clear row rov hok hoko hl hol hr hq
  go_enter Try.func20, Try.ntmps20
  go_wp2_with fail
  obtain ⟨w1, hw1⟩ : ∃ WW, ((w.alloc (.cells #[.int .i64 W, .int .i64 H, .slice ao l.length cp] 24)).alloc (.cells #[.int .i64 oW, .int .i64 oH, .slice av ol.length cv] 24)).alloc (.cells #[.int .i64 0, .int .i64 0, .slice none 0 0] 24) = WW := ⟨_, rfl⟩
  have P1 : Hid (Below w.heap.size w w1 ∧ Blk w1 w.heap.size 24 #[.int .i64 W, .int .i64 H, .slice ao l.length cp] ∧ Blk w1 (w.heap.size + 1) 24 #[.int .i64 oW, .int .i64 oH, .slice av ol.length cv] ∧ Blk w1 (w.heap.size + 2) 24 #[.int .i64 0, .int .i64 0, .slice none 0 0]) := by
    rw [← hw1]
    exact ⟨((((Below.refl _ _).alloc (Nat.le_refl _) _).alloc (by simp) _).alloc (by simp; omega) _), ((Blk.new _ _ _).alloc _).alloc _, (Blk.newAt _ _ _ (by simp)).alloc _, Blk.newAt _ _ _ (by simp)⟩
  rw [hw1]
  clear hw1
  refine (HCK.out w1 P1.out.1).mono ?_
  rintro e w2 ⟨rfl, hb⟩
  have P2 : Hid (Below w.heap.size w w2 ∧ Blk w2 w.heap.size 24 #[.int .i64 W, .int .i64 H, .slice ao l.length cp] ∧ Blk w2 (w.heap.size + 1) 24 #[.int .i64 oW, .int .i64 oH, .slice av ol.length cv] ∧ Blk w2 (w.heap.size + 2) 24 #[.int .i64 0, .int .i64 0, .slice none 0 0]) := ⟨P1.out.1.trans (hb.mono P1.out.1.size), P1.out.2.1.grow hb, P1.out.2.2.1.grow hb, P1.out.2.2.2.grow hb⟩
  clear hb P1
  have k0 : w2.cell? ⟨w.heap.size + 1, 0, none⟩ = some (.int .i64 oW) := P2.out.2.2.1.cell 0
  have k1 : w2.cell? ⟨w.heap.size + 1, 1, none⟩ = some (.int .i64 oH) := P2.out.2.2.1.cell 1
  have k2 : w2.cell? ⟨w.heap.size + 1, 2, none⟩ = some (.slice av ol.length cv) := P2.out.2.2.1.cell 2
  go_wp2_with fail
  refine (HCO.out w2 P2.out.1).mono ?_
  rintro e w3 ⟨rfl, hb⟩
  clear k0 k1 k2
  have P3 : Hid (Below w.heap.size w w3 ∧ Blk w3 w.heap.size 24 #[.int .i64 W, .int .i64 H, .slice ao l.length cp] ∧ Blk w3 (w.heap.size + 1) 24 #[.int .i64 oW, .int .i64 oH, .slice av ol.length cv] ∧ Blk w3 (w.heap.size + 2) 24 #[.int .i64 0, .int .i64 0, .slice none 0 0]) := ⟨P2.out.1.trans (hb.mono P2.out.1.size), P2.out.2.1.grow hb, P2.out.2.2.1.grow hb, P2.out.2.2.2.grow hb⟩
  clear hb P2
  have z0 : w3.cell? ⟨w.heap.size + 2, 0, none⟩ = some (.int .i64 0) := P3.out.2.2.2.cell 0
  have z1 : w3.cell? ⟨w.heap.size + 2, 1, none⟩ = some (.int .i64 0) := P3.out.2.2.2.cell 1
  have z2 : w3.cell? ⟨w.heap.size + 2, 2, none⟩ = some (.slice none 0 0) := P3.out.2.2.2.cell 2
  have f0 := P3.out.2.2.2.free 0
  have f1 := P3.out.2.2.2.free 1
  have f2 := P3.out.2.2.2.free 2
  have lg := P3.out.2.2.2.lt
  go_wp2_with fail
  exact bodyPost_ret (results_imG rfl rfl rfl (P3.out.2.2.2.set3 _ _ _)) rfl ⟨_, rfl, .inl ⟨rfl, rfl⟩, below_three P3.out.1 (by omega) _ _ _⟩
set_option maxHeartbeats 4000000 in
set_option maxRecDepth 100000 in
theorem lay_k (W H oW oH x y b md : Int) (s so : Value) (l ol : List Col) (w : World) (row : RowK .u8 w s l) (rov : RowK .u8 w so ol) (hok : ∀ c ∈ l, OkC c) (hoko : ∀ c ∈ ol, OkC c) (hl : l.length ≤ 70000) (hol : ol.length ≤ 70000) (hr : rightIm W H l = true) (hq : rightIm oW oH ol = true) (hm4 : decide (0 ≤ md ∧ md ≤ 4) = false) : Calls Try.prog 20 #[.agg #[.int .i64 W, .int .i64 H, s], .agg #[.int .i64 oW, .int .i64 oH, so], .int .i64 x, .int .i64 y, .int .u8 b, .int .i64 md] w fun e w' => ToldIm w 0 0 [] 33 e w' := by
  have HCK : Hid (∀ A, Below w.heap.size w A → Calls Try.prog 15 #[.agg #[.int .i64 W, .int .i64 H, s]] A fun e w' => e = .returned (.int .i64 0) ∧ Below A.heap.size A w') := fun A hA => by
    have h := checkOk W H s _ A (row.on hA) hok (by omega)
    rw [hr] at h
    exact h
  have HCO : Hid (∀ A, Below w.heap.size w A → Calls Try.prog 15 #[.agg #[.int .i64 oW, .int .i64 oH, so]] A fun e w' => e = .returned (.int .i64 0) ∧ Below A.heap.size A w') := fun A hA => by
    have h := checkOk oW oH so _ A (rov.on hA) hoko (by omega)
    rw [hq] at h
    exact h
  have HMD : Hid (∀ A, Calls Try.prog 40 #[.int .i64 md] A fun e w' => e = .returned (.bool false) ∧ Below A.heap.size A w') := fun A => by
    have h := isMode_c md A
    rw [hm4] at h
    exact h
  obtain ⟨ao, cp, rfl⟩ := row.shape
  obtain ⟨av, cv, rfl⟩ := rov.shape
  clear row rov hok hoko hl hol hr hq hm4
  go_enter Try.func20, Try.ntmps20
  go_wp2_with fail
  obtain ⟨w1, hw1⟩ : ∃ WW, ((w.alloc (.cells #[.int .i64 W, .int .i64 H, .slice ao l.length cp] 24)).alloc (.cells #[.int .i64 oW, .int .i64 oH, .slice av ol.length cv] 24)).alloc (.cells #[.int .i64 0, .int .i64 0, .slice none 0 0] 24) = WW := ⟨_, rfl⟩
  have P1 : Hid (Below w.heap.size w w1 ∧ Blk w1 w.heap.size 24 #[.int .i64 W, .int .i64 H, .slice ao l.length cp] ∧ Blk w1 (w.heap.size + 1) 24 #[.int .i64 oW, .int .i64 oH, .slice av ol.length cv] ∧ Blk w1 (w.heap.size + 2) 24 #[.int .i64 0, .int .i64 0, .slice none 0 0]) := by
    rw [← hw1]
    exact ⟨((((Below.refl _ _).alloc (Nat.le_refl _) _).alloc (by simp) _).alloc (by simp; omega) _), ((Blk.new _ _ _).alloc _).alloc _, (Blk.newAt _ _ _ (by simp)).alloc _, Blk.newAt _ _ _ (by simp)⟩
  rw [hw1]
  clear hw1
  refine (HCK.out w1 P1.out.1).mono ?_
  rintro e w2 ⟨rfl, hb⟩
  have P2 : Hid (Below w.heap.size w w2 ∧ Blk w2 w.heap.size 24 #[.int .i64 W, .int .i64 H, .slice ao l.length cp] ∧ Blk w2 (w.heap.size + 1) 24 #[.int .i64 oW, .int .i64 oH, .slice av ol.length cv] ∧ Blk w2 (w.heap.size + 2) 24 #[.int .i64 0, .int .i64 0, .slice none 0 0]) := ⟨P1.out.1.trans (hb.mono P1.out.1.size), P1.out.2.1.grow hb, P1.out.2.2.1.grow hb, P1.out.2.2.2.grow hb⟩
  clear hb P1
  have k0 : w2.cell? ⟨w.heap.size + 1, 0, none⟩ = some (.int .i64 oW) := P2.out.2.2.1.cell 0
  have k1 : w2.cell? ⟨w.heap.size + 1, 1, none⟩ = some (.int .i64 oH) := P2.out.2.2.1.cell 1
  have k2 : w2.cell? ⟨w.heap.size + 1, 2, none⟩ = some (.slice av ol.length cv) := P2.out.2.2.1.cell 2
  go_wp2_with fail
  refine (HCO.out w2 P2.out.1).mono ?_
  rintro e w3 ⟨rfl, hb⟩
  clear k0 k1 k2
  have P3 : Hid (Below w.heap.size w w3 ∧ Blk w3 w.heap.size 24 #[.int .i64 W, .int .i64 H, .slice ao l.length cp] ∧ Blk w3 (w.heap.size + 1) 24 #[.int .i64 oW, .int .i64 oH, .slice av ol.length cv] ∧ Blk w3 (w.heap.size + 2) 24 #[.int .i64 0, .int .i64 0, .slice none 0 0]) := ⟨P2.out.1.trans (hb.mono P2.out.1.size), P2.out.2.1.grow hb, P2.out.2.2.1.grow hb, P2.out.2.2.2.grow hb⟩
  clear hb P2
  go_wp2_with fail
  refine (HMD.out w3).mono ?_
  rintro e w4 ⟨rfl, hb⟩
  have P4 : Hid (Below w.heap.size w w4 ∧ Blk w4 w.heap.size 24 #[.int .i64 W, .int .i64 H, .slice ao l.length cp] ∧ Blk w4 (w.heap.size + 1) 24 #[.int .i64 oW, .int .i64 oH, .slice av ol.length cv] ∧ Blk w4 (w.heap.size + 2) 24 #[.int .i64 0, .int .i64 0, .slice none 0 0]) := ⟨P3.out.1.trans (hb.mono P3.out.1.size), P3.out.2.1.grow hb, P3.out.2.2.1.grow hb, P3.out.2.2.2.grow hb⟩
  clear hb P3
  have z0 : w4.cell? ⟨w.heap.size + 2, 0, none⟩ = some (.int .i64 0) := P4.out.2.2.2.cell 0
  have z1 : w4.cell? ⟨w.heap.size + 2, 1, none⟩ = some (.int .i64 0) := P4.out.2.2.2.cell 1
  have z2 : w4.cell? ⟨w.heap.size + 2, 2, none⟩ = some (.slice none 0 0) := P4.out.2.2.2.cell 2
  have f0 := P4.out.2.2.2.free 0
  have f1 := P4.out.2.2.2.free 1
  have f2 := P4.out.2.2.2.free 2
  have lg := P4.out.2.2.2.lt
  go_wp2_with fail
  exact bodyPost_ret (results_imG rfl rfl rfl (P4.out.2.2.2.set3 _ _ _)) rfl ⟨_, rfl, .inl ⟨rfl, rfl⟩, below_three P4.out.1 (by omega) _ _ _⟩
end Go.Proofs.Ytoppmlfibllhlaa
