/- Layer 11: the law ImageLays. -/
import Derived.Test.YtoppmlfibllhlaaJg
import Derived.Test.YtoppmlfibllhlaaPh
import Derived.BigQuiet
namespace Go.Proofs.Ytoppmlfibllhlaa
open Go.RowKit
def layAns (W H oW oH x y b m : Int) (l ol : List Col) : (Int × Int × List Col) × Int :=
  if rightIm W H l && rightIm oW oH ol then (if 0 ≤ m ∧ m ≤ 4 then ((W, H, layL W oW oH x y b m l ol l.length), 0) else ((0, 0, []), 33)) else ((0, 0, []), 30)
def LayOk : Prop := ∀ (W H oW oH x y b m : Int) (s so : Value) (l ol : List Col) (w : World), RowK .u8 w s l → RowK .u8 w so ol → Hid (CapS so) → (∀ c ∈ l, OkC c) → (∀ c ∈ ol, OkC c) → byteI b → l.length ≤ 70000 → ol.length ≤ 70000 →
  Calls Try.prog 20 #[.agg #[.int .i64 W, .int .i64 H, s], .agg #[.int .i64 oW, .int .i64 oH, so], .int .i64 x, .int .i64 y, .int .u8 b, .int .i64 m] w fun e w' => ToldIm w (layAns W H oW oH x y b m l ol).1.1 (layAns W H oW oH x y b m l ol).1.2.1 (layAns W H oW oH x y b m l ol).1.2.2 (layAns W H oW oH x y b m l ol).2 e w'
theorem layL_ok {W oW oH x y b m : Int} {l ol : List Col} {n : Nat} (hb : byteI b) (hl : ∀ c ∈ l, OkC c) (ho : ∀ c ∈ ol, OkC c) (hn : n ≤ l.length) (hin : ∀ k, layIn W oW oH x y k = true → layAt W oW x y k < ol.length) : ∀ d ∈ layL W oW oH x y b m l ol n, OkC d := fun d hd => by
  obtain ⟨k, hk, rfl⟩ := List.mem_map.1 hd
  have h1 := hl _ (List.mem_of_getElem? (cAt_some (show k < l.length by have := List.mem_range.1 hk; omega)))
  unfold layPx
  split
  · rename_i hi
    exact blend_ok (fade_ok (ho _ (List.mem_of_getElem? (cAt_some (hin k hi)))) hb) h1
  · exact h1
set_option maxHeartbeats 2000000 in
set_option maxRecDepth 100000 in
theorem imageLays_b1 (AW : AwakeOk) (W H oW oH x y b m : Int) (s so : Value) (l ol : List Col) (w : World) (row : RowK .u8 w s l) (rov : RowK .u8 w so ol) (h : 400 < l.length) : Calls Try.prog 4 #[.agg #[.int .i64 W, .int .i64 H, s, .int .i64 oW, .int .i64 oH, so, .int .i64 x, .int .i64 y, .int .u8 b, .int .i64 m]] w fun e w' => e = .returned (.bool true) ∧ Below w.heap.size w w' := by
  have HAW := Lib.hid AW
  obtain ⟨ao, cp, rfl⟩ := row.shape
  obtain ⟨av, cv, rfl⟩ := rov.shape
  obtain ⟨n, hn⟩ : ∃ n, l.length = n := ⟨_, rfl⟩
  obtain ⟨on, hon⟩ : ∃ n, ol.length = n := ⟨_, rfl⟩
  rw [hn, hon]
  rw [hn] at h
  have HSM := Lib.hid (small_c W H ao n cp)
  rw [decide_eq_false (by omega)] at HSM
  clear row rov hn hon h
  go_enter Try.func4, Try.ntmps4
  go_wp2_with fail
  obtain ⟨w1, hw1⟩ : ∃ WW, w.alloc (.cells #[.int .i64 W, .int .i64 H, .slice ao n cp, .int .i64 oW, .int .i64 oH, .slice av on cv, .int .i64 x, .int .i64 y, .int .u8 b, .int .i64 m] 47) = WW := ⟨_, rfl⟩
  have BW1 : Hid (Below w.heap.size w w1) := by
    rw [← hw1]
    exact (Below.refl _ _).alloc (Nat.le_refl _) _
  have HB1 : Hid (∀ A, Below w1.heap.size w1 A → Blk A w.heap.size 47 (#[.int .i64 W, .int .i64 H, .slice ao n cp, .int .i64 oW, .int .i64 oH, .slice av on cv, .int .i64 x, .int .i64 y, .int .u8 b, .int .i64 m])) := fun A hA => by
      rw [← hw1] at hA
      exact (Blk.new _ _ _).grow hA
  rw [hw1]
  clear hw1
  have z0 := (HB1.out w1 (Below.refl _ _)).cell 0
  have z1 := (HB1.out w1 (Below.refl _ _)).cell 1
  have z2 := (HB1.out w1 (Below.refl _ _)).cell 2
  simp only [List.getElem?_toArray, List.getElem?_cons_zero, List.getElem?_cons_succ] at z0 z1 z2
  go_wp2_with fail
  refine (HSM.out _).mono ?_
  rintro e w2 ⟨rfl, hb⟩
  have HB2 : Hid (∀ A, Below w2.heap.size w2 A → Blk A w.heap.size 47 (#[.int .i64 W, .int .i64 H, .slice ao n cp, .int .i64 oW, .int .i64 oH, .slice av on cv, .int .i64 x, .int .i64 y, .int .u8 b, .int .i64 m])) := fun A hA => HB1.out A (hb.trans (hA.mono hb.size))
  have BW2 : Hid (Below w.heap.size w w2) := BW1.out.trans (hb.mono BW1.out.size)
  clear hb
  clear z0 z1 z2
  go_wp2_with fail
  refine (HAW.out _).mono ?_
  rintro e w3 ⟨rfl, hb⟩
  have HB3 : Hid (∀ A, Below w3.heap.size w3 A → Blk A w.heap.size 47 (#[.int .i64 W, .int .i64 H, .slice ao n cp, .int .i64 oW, .int .i64 oH, .slice av on cv, .int .i64 x, .int .i64 y, .int .u8 b, .int .i64 m])) := fun A hA => HB2.out A (hb.trans (hA.mono hb.size))
  have BW3 : Hid (Below w.heap.size w w3) := BW2.out.trans (hb.mono BW2.out.size)
  clear hb
  go_wp2_with fail
  go_ret
  exact ⟨rfl, BW3.out⟩
set_option maxHeartbeats 2000000 in
set_option maxRecDepth 100000 in
theorem imageLays_b2 (AW : AwakeOk) (W H oW oH x y b m : Int) (s so : Value) (l ol : List Col) (w : World) (row : RowK .u8 w s l) (rov : RowK .u8 w so ol) (h1 : l.length ≤ 400) (h : 400 < ol.length) : Calls Try.prog 4 #[.agg #[.int .i64 W, .int .i64 H, s, .int .i64 oW, .int .i64 oH, so, .int .i64 x, .int .i64 y, .int .u8 b, .int .i64 m]] w fun e w' => e = .returned (.bool true) ∧ Below w.heap.size w w' := by
  have HAW := Lib.hid AW
  obtain ⟨ao, cp, rfl⟩ := row.shape
  obtain ⟨av, cv, rfl⟩ := rov.shape
  obtain ⟨n, hn⟩ : ∃ n, l.length = n := ⟨_, rfl⟩
  obtain ⟨on, hon⟩ : ∃ n, ol.length = n := ⟨_, rfl⟩
  rw [hn, hon]
  rw [hon] at h
  rw [hn] at h1
  have HSM := Lib.hid (small_c W H ao n cp)
  rw [decide_eq_true h1] at HSM
  have HSO := Lib.hid (small_c oW oH av on cv)
  rw [decide_eq_false (by omega)] at HSO
  clear row rov hn hon h h1
  go_enter Try.func4, Try.ntmps4
  go_wp2_with fail
  obtain ⟨w1, hw1⟩ : ∃ WW, w.alloc (.cells #[.int .i64 W, .int .i64 H, .slice ao n cp, .int .i64 oW, .int .i64 oH, .slice av on cv, .int .i64 x, .int .i64 y, .int .u8 b, .int .i64 m] 47) = WW := ⟨_, rfl⟩
  have BW1 : Hid (Below w.heap.size w w1) := by
    rw [← hw1]
    exact (Below.refl _ _).alloc (Nat.le_refl _) _
  have HB1 : Hid (∀ A, Below w1.heap.size w1 A → Blk A w.heap.size 47 (#[.int .i64 W, .int .i64 H, .slice ao n cp, .int .i64 oW, .int .i64 oH, .slice av on cv, .int .i64 x, .int .i64 y, .int .u8 b, .int .i64 m])) := fun A hA => by
      rw [← hw1] at hA
      exact (Blk.new _ _ _).grow hA
  rw [hw1]
  clear hw1
  have z0 := (HB1.out w1 (Below.refl _ _)).cell 0
  have z1 := (HB1.out w1 (Below.refl _ _)).cell 1
  have z2 := (HB1.out w1 (Below.refl _ _)).cell 2
  simp only [List.getElem?_toArray, List.getElem?_cons_zero, List.getElem?_cons_succ] at z0 z1 z2
  go_wp2_with fail
  refine (HSM.out _).mono ?_
  rintro e w2 ⟨rfl, hb⟩
  have HB2 : Hid (∀ A, Below w2.heap.size w2 A → Blk A w.heap.size 47 (#[.int .i64 W, .int .i64 H, .slice ao n cp, .int .i64 oW, .int .i64 oH, .slice av on cv, .int .i64 x, .int .i64 y, .int .u8 b, .int .i64 m])) := fun A hA => HB1.out A (hb.trans (hA.mono hb.size))
  have BW2 : Hid (Below w.heap.size w w2) := BW1.out.trans (hb.mono BW1.out.size)
  clear hb
  clear z0 z1 z2
  have z3 := (HB2.out w2 (Below.refl _ _)).cell 3
  have z4 := (HB2.out w2 (Below.refl _ _)).cell 4
  have z5 := (HB2.out w2 (Below.refl _ _)).cell 5
  simp only [List.getElem?_toArray, List.getElem?_cons_zero, List.getElem?_cons_succ] at z3 z4 z5
  go_wp2_with fail
  refine (HSO.out _).mono ?_
  rintro e w3 ⟨rfl, hb⟩
  have HB3 : Hid (∀ A, Below w3.heap.size w3 A → Blk A w.heap.size 47 (#[.int .i64 W, .int .i64 H, .slice ao n cp, .int .i64 oW, .int .i64 oH, .slice av on cv, .int .i64 x, .int .i64 y, .int .u8 b, .int .i64 m])) := fun A hA => HB2.out A (hb.trans (hA.mono hb.size))
  have BW3 : Hid (Below w.heap.size w w3) := BW2.out.trans (hb.mono BW2.out.size)
  clear hb
  clear z3 z4 z5
  go_wp2_with fail
  refine (HAW.out _).mono ?_
  rintro e w4 ⟨rfl, hb⟩
  have HB4 : Hid (∀ A, Below w4.heap.size w4 A → Blk A w.heap.size 47 (#[.int .i64 W, .int .i64 H, .slice ao n cp, .int .i64 oW, .int .i64 oH, .slice av on cv, .int .i64 x, .int .i64 y, .int .u8 b, .int .i64 m])) := fun A hA => HB3.out A (hb.trans (hA.mono hb.size))
  have BW4 : Hid (Below w.heap.size w w4) := BW3.out.trans (hb.mono BW3.out.size)
  clear hb
  go_wp2_with fail
  go_ret
  exact ⟨rfl, BW4.out⟩
set_option maxHeartbeats 8000000 in
set_option maxRecDepth 100000 in
theorem imageLays_small (AW : AwakeOk) (LY : LayOk) (W H oW oH x y b m : Int) (s so : Value) (l ol : List Col) (w : World) (row : RowK .u8 w s l) (rov : RowK .u8 w so ol) (hcs : Hid (CapS so)) (hok : ∀ c ∈ l, OkC c) (hoko : ∀ c ∈ ol, OkC c) (hb : byteI b) (h1 : l.length ≤ 400) (h2 : ol.length ≤ 400) : Calls Try.prog 4 #[.agg #[.int .i64 W, .int .i64 H, s, .int .i64 oW, .int .i64 oH, so, .int .i64 x, .int .i64 y, .int .u8 b, .int .i64 m]] w fun e w' => e = .returned (.bool true) ∧ Below w.heap.size w w' := by
  have HAW := Lib.hid AW
  obtain ⟨ao, cp, rfl⟩ := row.shape
  obtain ⟨av, cv, rfl⟩ := rov.shape
  have HSM := Lib.hid (small_c W H ao l.length cp)
  rw [decide_eq_true h1] at HSM
  have HSO := Lib.hid (small_c oW oH av ol.length cv)
  rw [decide_eq_true h2] at HSO
  have HRF : Hid (∀ A, Below w.heap.size w A → Calls Try.prog 11 #[.agg #[.int .i64 W, .int .i64 H, .slice ao l.length cp]] A fun e w' => ∃ u, e = .returned (.agg #[.int .i64 W, .int .i64 H, u]) ∧ OwnK .i64 w' A.heap.size 43 u l ∧ Below A.heap.size A w') := fun A hA => lawRef_c W H _ l A (row.on hA) hok (by omega)
  have HRG : Hid (∀ A, Below w.heap.size w A → Calls Try.prog 11 #[.agg #[.int .i64 oW, .int .i64 oH, .slice av ol.length cv]] A fun e w' => ∃ u, e = .returned (.agg #[.int .i64 oW, .int .i64 oH, u]) ∧ OwnK .i64 w' A.heap.size 43 u ol ∧ Below A.heap.size A w') := fun A hA => lawRef_c oW oH _ ol A (rov.on hA) hoko (by omega)
  obtain ⟨W2, hW2⟩ : ∃ X, (layAns W H oW oH x y b m l ol).1.1 = X := ⟨_, rfl⟩
  obtain ⟨H2, hH2⟩ : ∃ X, (layAns W H oW oH x y b m l ol).1.2.1 = X := ⟨_, rfl⟩
  obtain ⟨FL, hFL⟩ : ∃ X, (layAns W H oW oH x y b m l ol).1.2.2 = X := ⟨_, rfl⟩
  obtain ⟨z, hz⟩ : ∃ X, (layAns W H oW oH x y b m l ol).2 = X := ⟨_, rfl⟩
  have HLY : Hid (∀ A, Below w.heap.size w A → Calls Try.prog 20 #[.agg #[.int .i64 W, .int .i64 H, .slice ao l.length cp], .agg #[.int .i64 oW, .int .i64 oH, .slice av ol.length cv], .int .i64 x, .int .i64 y, .int .u8 b, .int .i64 m] A fun e w' => ToldIm A W2 H2 FL z e w') := fun A hA => by
    have h := LY W H oW oH x y b m _ _ l ol A (row.on hA) (rov.on hA) hcs hok hoko hb (by omega) (by omega)
    rw [hW2, hH2, hFL, hz] at h
    exact h
  have HR1 : Hid (∀ A u, RowK .i64 A u l → Calls Try.prog 13 #[.agg #[.int .i64 W, .int .i64 H, u]] A fun e w' => e = .returned (.bool (rightIm W H l)) ∧ Below A.heap.size A w') := fun A u hu => ref11Right_c W H u l A hu
  have HR2 : Hid (∀ A u, RowK .i64 A u ol → Calls Try.prog 13 #[.agg #[.int .i64 oW, .int .i64 oH, u]] A fun e w' => e = .returned (.bool (rightIm oW oH ol)) ∧ Below A.heap.size A w') := fun A u hu => ref11Right_c oW oH u ol A hu
  have HIS : Hid (∀ A s u, RowK .u8 A s l → RowK .i64 A u l → Calls Try.prog 14 #[.agg #[.int .i64 W, .int .i64 H, s], .agg #[.int .i64 W, .int .i64 H, u]] A fun e w' => e = .returned (.bool true) ∧ Below A.heap.size A w') := fun A s u hs hu => lawIs_c W H s u l A hs hu hok (by omega)
  have HIO : Hid (∀ A s u, RowK .u8 A s ol → RowK .i64 A u ol → Calls Try.prog 14 #[.agg #[.int .i64 oW, .int .i64 oH, s], .agg #[.int .i64 oW, .int .i64 oH, u]] A fun e w' => e = .returned (.bool true) ∧ Below A.heap.size A w') := fun A s u hs hu => lawIs_c oW oH s u ol A hs hu hoko (by omega)
  have HEM := Lib.hid empty_c
  have EB := Lib.hid (u8_i64 hb.1 hb.2)
  have HNO : Hid ((rightIm W H l && rightIm oW oH ol) = false → W2 = 0 ∧ H2 = 0 ∧ FL = [] ∧ z = 30) := fun h => by
    rw [← hW2, ← hH2, ← hFL, ← hz]; unfold layAns; rw [h]; exact ⟨rfl, rfl, rfl, rfl⟩
  have HNM : Hid ((rightIm W H l && rightIm oW oH ol) = true → ¬ (0 ≤ m ∧ m ≤ 4) → W2 = 0 ∧ H2 = 0 ∧ FL = [] ∧ z = 33) := fun h k => by
    rw [← hW2, ← hH2, ← hFL, ← hz]; unfold layAns; rw [h, if_pos rfl, if_neg k]; exact ⟨rfl, rfl, rfl, rfl⟩
  have HYE : Hid ((rightIm W H l && rightIm oW oH ol) = true → (0 ≤ m ∧ m ≤ 4) → W = W2 ∧ H = H2 ∧ layL W oW oH x y b m l ol l.length = FL ∧ z = 0) := fun h k => by
    rw [← hW2, ← hH2, ← hFL, ← hz]; unfold layAns; rw [h, if_pos rfl, if_pos k]; exact ⟨rfl, rfl, rfl, rfl⟩
  have HRLY : Hid (rightIm W H l = true → rightIm oW oH ol = true → (0 ≤ m ∧ m ≤ 4) → (-1000 ≤ x ∧ x ≤ 1000) → (-1000 ≤ y ∧ y ≤ 1000) → ∀ A u v, RowK .i64 A u l → RowK .i64 A v ol → Calls Try.prog 21 #[.agg #[.int .i64 W, .int .i64 H, u], .agg #[.int .i64 oW, .int .i64 oH, v], .int .i64 x, .int .i64 y, .int .i64 b, .int .i64 m] A fun e w' => ∃ v, e = .returned (.agg #[.int .i64 W, .int .i64 H, v]) ∧ OwnK .i64 w' A.heap.size 43 v (layL W oW oH x y b m l ol l.length) ∧ Below A.heap.size A w') := fun h k hm hx hy A u v hu hv => by
    obtain ⟨a1, a2, _, _, _, _⟩ := rightIm_iff.1 h
    obtain ⟨c1, c2, c3, c4, c5, _⟩ := rightIm_iff.1 k
    exact ref11Lay_c W H oW oH x y b m u v l ol A hu hv ⟨a1, a2⟩ (by omega) ⟨c1, c2, c4, c5⟩ hx hy hb hm hok hoko
  have HISF : Hid (rightIm W H l = true → rightIm oW oH ol = true → ∀ A s u, RowK .u8 A s (layL W oW oH x y b m l ol l.length) → RowK .i64 A u (layL W oW oH x y b m l ol l.length) → Calls Try.prog 14 #[.agg #[.int .i64 W, .int .i64 H, s], .agg #[.int .i64 W, .int .i64 H, u]] A fun e w' => e = .returned (.bool true) ∧ Below A.heap.size A w') := fun h k A s u hs hu => by
    obtain ⟨c1, c2, c3, c4, c5, _⟩ := rightIm_iff.1 k
    refine lawIs_c W H s u _ A hs hu (layL_ok hb hok hoko (Nat.le_refl _) fun q hq => ?_) (by rw [layL_len]; omega)
    unfold layIn at hq
    simp only [Bool.and_eq_true, decide_eq_true_eq] at hq
    obtain ⟨p0, _, p2, p3⟩ := at_prod hq.1.1.1 hq.1.1.2 hq.1.2 hq.2 c2 c4
    unfold layAt
    omega
  have HFAR : Hid (rightIm W H l = true → rightIm oW oH ol = true → (x < -1000 ∨ x > 1000 ∨ y < -1000 ∨ y > 1000) → layL W oW oH x y b m l ol l.length = l) := fun h k hx => by
    obtain ⟨a1, a2, a3, a4, a5, _⟩ := rightIm_iff.1 h
    obtain ⟨c1, c2, c3, c4, c5, _⟩ := rightIm_iff.1 k
    refine layL_far ⟨a1, a2⟩ (fun q hq => ?_) ⟨c2, c4⟩ hx
    have hlt : (q : Int) < W * H := by omega
    have := Int.ediv_lt_of_lt_mul (show (0 : Int) < W by omega) (show (q : Int) < H * W by rw [Int.mul_comm]; exact hlt)
    omega
  have HROWS : Hid (∀ A, Below w.heap.size w A → RowK .u8 A (.slice ao l.length cp) l ∧ RowK .u8 A (.slice av ol.length cv) ol) := fun A hA => ⟨row.on hA, rov.on hA⟩
  obtain ⟨r1, hr1⟩ : ∃ r, rightIm W H l = r := ⟨_, rfl⟩
  obtain ⟨r2, hr2⟩ : ∃ r, rightIm oW oH ol = r := ⟨_, rfl⟩
  have HNLL : Hid ((layL W oW oH x y b m l ol l.length).length = l.length) := layL_len _ _ _ _ _ _ _ _ _ _
  rw [hr1] at HR1 HNO HNM HYE HRLY HISF HFAR
  rw [hr2] at HR2 HNO HNM HYE HRLY HISF HFAR
  generalize layL W oW oH x y b m l ol l.length = LL at *
  obtain ⟨n, hn⟩ : ∃ n, l.length = n := ⟨_, rfl⟩
  obtain ⟨on, hon⟩ : ∃ n, ol.length = n := ⟨_, rfl⟩
  have HN := Lib.hid hn
  have HON := Lib.hid hon
  rw [hn] at HSM HRF HLY HROWS HNLL ⊢
  rw [hon] at HSO HRG HLY HROWS ⊢
  clear row rov hok hoko h1 h2 hr1 hr2 hn hon hb hW2 hH2 hFL hz
  go_enter Try.func4, Try.ntmps4
  go_wp2_with fail
  obtain ⟨w1, hw1⟩ : ∃ WW, w.alloc (.cells #[.int .i64 W, .int .i64 H, .slice ao n cp, .int .i64 oW, .int .i64 oH, .slice av on cv, .int .i64 x, .int .i64 y, .int .u8 b, .int .i64 m] 47) = WW := ⟨_, rfl⟩
  have BW1 : Hid (Below w.heap.size w w1) := by
    rw [← hw1]
    exact (Below.refl _ _).alloc (Nat.le_refl _) _
  have HB1 : Hid (∀ A, Below w1.heap.size w1 A → Blk A w.heap.size 47 (#[.int .i64 W, .int .i64 H, .slice ao n cp, .int .i64 oW, .int .i64 oH, .slice av on cv, .int .i64 x, .int .i64 y, .int .u8 b, .int .i64 m])) := fun A hA => by
      rw [← hw1] at hA
      exact (Blk.new _ _ _).grow hA
  rw [hw1]
  clear hw1
  have z0 := (HB1.out w1 (Below.refl _ _)).cell 0
  have z1 := (HB1.out w1 (Below.refl _ _)).cell 1
  have z2 := (HB1.out w1 (Below.refl _ _)).cell 2
  simp only [List.getElem?_toArray, List.getElem?_cons_zero, List.getElem?_cons_succ] at z0 z1 z2
  go_wp2_with fail
  refine (HSM.out _).mono ?_
  rintro e w2 ⟨rfl, hb⟩
  have HB2 : Hid (∀ A, Below w2.heap.size w2 A → Blk A w.heap.size 47 (#[.int .i64 W, .int .i64 H, .slice ao n cp, .int .i64 oW, .int .i64 oH, .slice av on cv, .int .i64 x, .int .i64 y, .int .u8 b, .int .i64 m])) := fun A hA => HB1.out A (hb.trans (hA.mono hb.size))
  have BW2 : Hid (Below w.heap.size w w2) := BW1.out.trans (hb.mono BW1.out.size)
  clear hb
  clear z0 z1 z2
  have z3 := (HB2.out w2 (Below.refl _ _)).cell 3
  have z4 := (HB2.out w2 (Below.refl _ _)).cell 4
  have z5 := (HB2.out w2 (Below.refl _ _)).cell 5
  simp only [List.getElem?_toArray, List.getElem?_cons_zero, List.getElem?_cons_succ] at z3 z4 z5
  go_wp2_with fail
  refine (HSO.out _).mono ?_
  rintro e w3 ⟨rfl, hb⟩
  have HB3 : Hid (∀ A, Below w3.heap.size w3 A → Blk A w.heap.size 47 (#[.int .i64 W, .int .i64 H, .slice ao n cp, .int .i64 oW, .int .i64 oH, .slice av on cv, .int .i64 x, .int .i64 y, .int .u8 b, .int .i64 m])) := fun A hA => HB2.out A (hb.trans (hA.mono hb.size))
  have BW3 : Hid (Below w.heap.size w w3) := BW2.out.trans (hb.mono BW2.out.size)
  clear hb
  clear z3 z4 z5
  go_wp2_with fail
  refine wp_region_put (by kernel_rfl) (by kernel_rfl) (by kernel_rfl) (fun b' vs w' => (b' 0 = true → vs 0 = .pointer (some ⟨w.heap.size, 0, none⟩)) ∧ (b' 1 = true → vs 1 = .agg #[.int .i64 W, .int .i64 H, .slice ao n cp]) ∧ (b' 3 = true → vs 3 = .pointer (some ⟨w.heap.size, 3, none⟩)) ∧ (b' 4 = true → vs 4 = .agg #[.int .i64 oW, .int .i64 oH, .slice av on cv]) ∧ Hid (TwoR w3 W H oW oH l ol (b' 2) (b' 5) (b' 6) (b' 7) (b' 8) (b' 9) (vs 2) (vs 5) (vs 6) (vs 7) w')) ?_ ?_ ?_
  · intro vs
    exact ⟨fun h => Bool.noConfusion h, fun h => Bool.noConfusion h, fun h => Bool.noConfusion h, fun h => Bool.noConfusion h, TwoR.start _ _ _ _ _ _ _ _ _ _ _⟩
  · rintro b' vs w' i op hi hun hall ⟨h0, h1, h3, h4, hT⟩
    have hil : i < 10 := (List.getElem?_eq_some_iff.1 hi).1
    have HZ := HB3.out w' hT.out.below
    rcases i with _ | _ | _ | _ | _ | _ | _ | _ | _ | _ | i
    · obtain rfl := Option.some.inj hi
      clear hi hil
      refine wpOp_step rfl (fun K hK => ?_)
      have HKK := Lib.hid hK; clear hK
      simp only [putAll, Act.put, List.setIfInBounds_toArray, List.set_cons_zero, List.set_cons_succ]
      go_simp
      exact HKK.out _ _ ⟨_, by simp only [putAll, Act.put, List.setIfInBounds_toArray, List.set_cons_zero, List.set_cons_succ] <;> rfl, fun _ => rfl, h1, h3, h4, hT⟩
    · obtain rfl := Option.some.inj hi
      clear hi hil
      have d0 := h0 (hall ⟨0, .data⟩ (by simp) rfl)
      have z0 := HZ.cell 0
      have z1 := HZ.cell 1
      have z2 := HZ.cell 2
      simp only [List.getElem?_toArray, List.getElem?_cons_zero, List.getElem?_cons_succ] at z0 z1 z2
      refine wpOp_step rfl (fun K hK => ?_)
      have HKK := Lib.hid hK; clear hK
      simp only [putAll, Act.put, List.setIfInBounds_toArray, List.set_cons_zero, List.set_cons_succ]
      go_simp
      exact HKK.out _ _ ⟨_, by simp only [putAll, Act.put, List.setIfInBounds_toArray, List.set_cons_zero, List.set_cons_succ, d0] <;> rfl, h0, fun _ => rfl, h3, h4, hT⟩
    · obtain rfl := Option.some.inj hi
      clear hi hil
      have d1 := h1 (hall ⟨1, .data⟩ (by simp) rfl)
      refine wpOp_step rfl (fun K hK => ?_)
      have HKK := Lib.hid hK; clear hK
      simp only [putAll, Act.put, List.setIfInBounds_toArray, List.set_cons_zero, List.set_cons_succ]
      go_simp
      refine (HRF.out _ (BW3.out.trans (hT.out.below.mono BW3.out.size))).mono ?_
      rintro e w2 ⟨u, rfl, ho, hb2⟩
      have hT2 := hT.out
      rw [hun] at hT2
      exact HKK.out _ _ ⟨_, by simp only [putAll, Act.put, List.setIfInBounds_toArray, List.set_cons_zero, List.set_cons_succ, d1] <;> rfl, h0, h1, h3, h4, Lib.hid (hT2.call2 hb2 ho)⟩
    · obtain rfl := Option.some.inj hi
      clear hi hil
      refine wpOp_step rfl (fun K hK => ?_)
      have HKK := Lib.hid hK; clear hK
      simp only [putAll, Act.put, List.setIfInBounds_toArray, List.set_cons_zero, List.set_cons_succ]
      go_simp
      exact HKK.out _ _ ⟨_, by simp only [putAll, Act.put, List.setIfInBounds_toArray, List.set_cons_zero, List.set_cons_succ] <;> rfl, h0, h1, fun _ => rfl, h4, hT⟩
    · obtain rfl := Option.some.inj hi
      clear hi hil
      have d3 := h3 (hall ⟨3, .data⟩ (by simp) rfl)
      have z3 := HZ.cell 3
      have z4 := HZ.cell 4
      have z5 := HZ.cell 5
      simp only [List.getElem?_toArray, List.getElem?_cons_zero, List.getElem?_cons_succ] at z3 z4 z5
      refine wpOp_step rfl (fun K hK => ?_)
      have HKK := Lib.hid hK; clear hK
      simp only [putAll, Act.put, List.setIfInBounds_toArray, List.set_cons_zero, List.set_cons_succ]
      go_simp
      exact HKK.out _ _ ⟨_, by simp only [putAll, Act.put, List.setIfInBounds_toArray, List.set_cons_zero, List.set_cons_succ, d3] <;> rfl, h0, h1, h3, fun _ => rfl, hT⟩
    · obtain rfl := Option.some.inj hi
      clear hi hil
      have d4 := h4 (hall ⟨4, .data⟩ (by simp) rfl)
      refine wpOp_step rfl (fun K hK => ?_)
      have HKK := Lib.hid hK; clear hK
      simp only [putAll, Act.put, List.setIfInBounds_toArray, List.set_cons_zero, List.set_cons_succ]
      go_simp
      refine (HRG.out _ (BW3.out.trans (hT.out.below.mono BW3.out.size))).mono ?_
      rintro e w2 ⟨u, rfl, ho, hb2⟩
      have hT2 := hT.out
      rw [hun] at hT2
      exact HKK.out _ _ ⟨_, by simp only [putAll, Act.put, List.setIfInBounds_toArray, List.set_cons_zero, List.set_cons_succ, d4] <;> rfl, h0, h1, h3, h4, Lib.hid (hT2.call5 hb2 ho)⟩
    · obtain rfl := Option.some.inj hi
      clear hi hil
      refine wpOp_step rfl (fun K hK => ?_)
      have HKK := Lib.hid hK; clear hK
      simp only [putAll, Act.put, List.setIfInBounds_toArray, List.set_cons_zero, List.set_cons_succ]
      go_simp
      have hT2 := hT.out
      rw [hun] at hT2
      exact HKK.out _ _ ⟨_, by simp only [putAll, Act.put, List.setIfInBounds_toArray, List.set_cons_zero, List.set_cons_succ] <;> rfl, h0, h1, h3, h4, Lib.hid hT2.alloc6⟩
    · obtain rfl := Option.some.inj hi
      clear hi hil
      refine wpOp_step rfl (fun K hK => ?_)
      have HKK := Lib.hid hK; clear hK
      simp only [putAll, Act.put, List.setIfInBounds_toArray, List.set_cons_zero, List.set_cons_succ]
      go_simp
      have hT2 := hT.out
      rw [hun] at hT2
      exact HKK.out _ _ ⟨_, by simp only [putAll, Act.put, List.setIfInBounds_toArray, List.set_cons_zero, List.set_cons_succ] <;> rfl, h0, h1, h3, h4, Lib.hid hT2.alloc7⟩
    · obtain rfl := Option.some.inj hi
      clear hi hil
      have hT2 := hT.out
      rw [hun] at hT2
      have kv := hall ⟨2, .data⟩ (by simp) rfl
      have kg := hall ⟨6, .data⟩ (by simp) rfl
      obtain ⟨u, ev, hu⟩ := hT2.y2 kv
      obtain ⟨qa, qc, rfl⟩ := hu.shape
      rw [HN.out] at ev
      clear hu
      obtain ⟨g, eg, hg1, hgb⟩ := hT2.z6 kg
      have hT3 := hT2.store8 kv kg eg ev
      rw [show (if false = true then (vs 2).cells else #[.int .i64 0, .int .i64 0, .slice none 0 0]) = #[.int .i64 0, .int .i64 0, .slice none 0 0] from rfl] at hgb
      have c0 := hgb.cell 0
      have c1 := hgb.cell 1
      have c2 := hgb.cell 2
      have f0 := hgb.free 0
      have f1 := hgb.free 1
      have f2 := hgb.free 2
      have lg := hgb.lt
      simp only [List.getElem?_toArray, List.getElem?_cons_zero, List.getElem?_cons_succ] at c0 c1 c2
      have HT3 := Lib.hid hT3
      clear hT2 hT3 hgb
      refine wpOp_step rfl (fun K hK => ?_)
      have HKK := Lib.hid hK; clear hK
      simp only [putAll, Act.put, List.setIfInBounds_toArray, List.set_cons_zero, List.set_cons_succ]
      go_simp
      exact HKK.out _ _ ⟨undef, by simp only [putAll, Act.put, List.setIfInBounds_toArray, List.set_cons_zero, List.set_cons_succ, ev, eg] <;> rfl, h0, h1, h3, h4, HT3⟩
    · obtain rfl := Option.some.inj hi
      clear hi hil
      have hT2 := hT.out
      rw [hun] at hT2
      have kv := hall ⟨5, .data⟩ (by simp) rfl
      have kg := hall ⟨7, .data⟩ (by simp) rfl
      obtain ⟨u, ev, hu⟩ := hT2.y5 kv
      obtain ⟨qa, qc, rfl⟩ := hu.shape
      rw [HON.out] at ev
      clear hu
      obtain ⟨g, eg, hg1, hgb⟩ := hT2.z7 kg
      have hT3 := hT2.store9 kv kg eg ev
      rw [show (if false = true then (vs 5).cells else #[.int .i64 0, .int .i64 0, .slice none 0 0]) = #[.int .i64 0, .int .i64 0, .slice none 0 0] from rfl] at hgb
      have c0 := hgb.cell 0
      have c1 := hgb.cell 1
      have c2 := hgb.cell 2
      have f0 := hgb.free 0
      have f1 := hgb.free 1
      have f2 := hgb.free 2
      have lg := hgb.lt
      simp only [List.getElem?_toArray, List.getElem?_cons_zero, List.getElem?_cons_succ] at c0 c1 c2
      have HT3 := Lib.hid hT3
      clear hT2 hT3 hgb
      refine wpOp_step rfl (fun K hK => ?_)
      have HKK := Lib.hid hK; clear hK
      simp only [putAll, Act.put, List.setIfInBounds_toArray, List.set_cons_zero, List.set_cons_succ]
      go_simp
      exact HKK.out _ _ ⟨undef, by simp only [putAll, Act.put, List.setIfInBounds_toArray, List.set_cons_zero, List.set_cons_succ, ev, eg] <;> rfl, h0, h1, h3, h4, HT3⟩
    · omega
  · rintro b' vs w4 hall ⟨h0, h1, h3, h4, hT⟩
    have d0 := h0 (hall 0 (by simp))
    have d1 := h1 (hall 1 (by simp))
    have d3 := h3 (hall 3 (by simp))
    have d4 := h4 (hall 4 (by simp))
    have hT2 := hT.out
    obtain ⟨u, e2, hu⟩ := hT2.y2 (hall 2 (by simp))
    obtain ⟨v, e5, hv⟩ := hT2.y5 (hall 5 (by simp))
    obtain ⟨g3, e6, _, k3⟩ := hT2.z6 (hall 6 (by simp))
    obtain ⟨g4, e7, _, k4⟩ := hT2.z7 (hall 7 (by simp))
    rw [hall 8 (by simp), if_pos rfl, e2] at k3
    rw [hall 9 (by simp), if_pos rfl, e5] at k4
    obtain ⟨ua, uc, hus⟩ := hu.shape
    obtain ⟨va, vc, hvs⟩ := hv.shape
    rw [HN.out] at hus
    rw [HON.out] at hvs
    subst hus hvs
    have hbb := hT2.below
    have HB4 : Hid (∀ A, Below w4.heap.size w4 A → Blk A w.heap.size 47 (#[.int .i64 W, .int .i64 H, .slice ao n cp, .int .i64 oW, .int .i64 oH, .slice av on cv, .int .i64 x, .int .i64 y, .int .u8 b, .int .i64 m]) ∧ Blk A g3 33 (#[.int .i64 W, .int .i64 H, .slice ua n uc]) ∧ Blk A g4 33 (#[.int .i64 oW, .int .i64 oH, .slice va on vc]) ∧ RowK .i64 A (.slice ua n uc) l ∧ RowK .i64 A (.slice va on vc) ol) := fun A hA => ⟨HB3.out A (hbb.trans (hA.mono hbb.size)), k3.grow hA, k4.grow hA, (hu.grow hA).row, (hv.grow hA).row⟩
    have BW4 : Hid (Below w.heap.size w w4) := BW3.out.trans (hbb.mono BW3.out.size)
    simp only [putAll, Act.put, List.setIfInBounds_toArray, List.set_cons_zero, List.set_cons_succ, d0, d1, d3, d4, e2, e5, e6, e7]
    clear hT2 hT hall h0 h1 h3 h4 d0 d1 d3 d4 e2 e5 e6 e7 k3 k4 hu hv hbb
    have z0 := (HB4.out w4 (Below.refl _ _)).1.cell 0
    have z1 := (HB4.out w4 (Below.refl _ _)).1.cell 1
    have z2 := (HB4.out w4 (Below.refl _ _)).1.cell 2
    have z3 := (HB4.out w4 (Below.refl _ _)).1.cell 3
    have z4 := (HB4.out w4 (Below.refl _ _)).1.cell 4
    have z5 := (HB4.out w4 (Below.refl _ _)).1.cell 5
    have z6 := (HB4.out w4 (Below.refl _ _)).1.cell 6
    have z7 := (HB4.out w4 (Below.refl _ _)).1.cell 7
    have z8 := (HB4.out w4 (Below.refl _ _)).1.cell 8
    have z9 := (HB4.out w4 (Below.refl _ _)).1.cell 9
    simp only [List.getElem?_toArray, List.getElem?_cons_zero, List.getElem?_cons_succ] at z0 z1 z2 z3 z4 z5 z6 z7 z8 z9
    go_wp2_with fail
    clear z0 z1 z2 z3 z4 z5 z6 z7 z8 z9
    refine (HLY.out _ BW4.out).mono ?_
    rintro e w5 ⟨fv, rfl, hf, hb⟩
    have HB5 : Hid (∀ A, Below w5.heap.size w5 A → Blk A w.heap.size 47 (#[.int .i64 W, .int .i64 H, .slice ao n cp, .int .i64 oW, .int .i64 oH, .slice av on cv, .int .i64 x, .int .i64 y, .int .u8 b, .int .i64 m]) ∧ Blk A g3 33 (#[.int .i64 W, .int .i64 H, .slice ua n uc]) ∧ Blk A g4 33 (#[.int .i64 oW, .int .i64 oH, .slice va on vc]) ∧ RowK .i64 A (.slice ua n uc) l ∧ RowK .i64 A (.slice va on vc) ol ∧ RowK .u8 A fv FL) := fun A hA => ⟨(HB4.out A (hb.trans (hA.mono hb.size))).1, (HB4.out A (hb.trans (hA.mono hb.size))).2.1, (HB4.out A (hb.trans (hA.mono hb.size))).2.2.1, (HB4.out A (hb.trans (hA.mono hb.size))).2.2.2.1, (HB4.out A (hb.trans (hA.mono hb.size))).2.2.2.2, hf.on hA⟩
    have BW5 : Hid (Below w.heap.size w w5) := BW4.out.trans (hb.mono BW4.out.size)
    clear hb hf
    obtain ⟨fa, fc, hf⟩ := RowK.shape (HB5.out w5 (Below.refl _ _)).2.2.2.2.2
    obtain ⟨fn, hfn⟩ : ∃ n, FL.length = n := ⟨_, rfl⟩
    have HFN := Lib.hid hfn
    rw [hfn] at hf
    subst hf
    clear hfn
    have z0 := (HB5.out w5 (Below.refl _ _)).1.cell 0
    have z1 := (HB5.out w5 (Below.refl _ _)).1.cell 1
    have z2 := (HB5.out w5 (Below.refl _ _)).1.cell 2
    simp only [List.getElem?_toArray, List.getElem?_cons_zero, List.getElem?_cons_succ] at z0 z1 z2
    have p0 := (HB5.out w5 (Below.refl _ _)).2.1.cell 0
    have p1 := (HB5.out w5 (Below.refl _ _)).2.1.cell 1
    have p2 := (HB5.out w5 (Below.refl _ _)).2.1.cell 2
    simp only [List.getElem?_toArray, List.getElem?_cons_zero, List.getElem?_cons_succ] at p0 p1 p2
    have l0 := (HB5.out w5 (Below.refl _ _)).1.lt
    have l1 := (HB5.out w5 (Below.refl _ _)).2.1.lt
    go_wp2_with fail
    clear z0 z1 z2 p0 p1 p2 l0 l1
    obtain ⟨w6, hw⟩ : ∃ WW, w5.alloc (.cells #[.int .i64 W2, .int .i64 H2, .slice fa fn fc] 24) = WW := ⟨_, rfl⟩
    have HB6 : Hid (∀ A, Below w6.heap.size w6 A → Blk A w.heap.size 47 (#[.int .i64 W, .int .i64 H, .slice ao n cp, .int .i64 oW, .int .i64 oH, .slice av on cv, .int .i64 x, .int .i64 y, .int .u8 b, .int .i64 m]) ∧ Blk A g3 33 (#[.int .i64 W, .int .i64 H, .slice ua n uc]) ∧ Blk A g4 33 (#[.int .i64 oW, .int .i64 oH, .slice va on vc]) ∧ RowK .i64 A (.slice ua n uc) l ∧ RowK .i64 A (.slice va on vc) ol ∧ RowK .u8 A (.slice fa fn fc) FL ∧ Blk A w5.heap.size 24 (#[.int .i64 W2, .int .i64 H2, .slice fa fn fc])) := fun A hA => by
          rw [← hw] at hA
          exact ⟨(HB5.out A (((Below.refl _ _).alloc (Nat.le_refl _) _).trans (hA.mono (by simp)))).1, (HB5.out A (((Below.refl _ _).alloc (Nat.le_refl _) _).trans (hA.mono (by simp)))).2.1, (HB5.out A (((Below.refl _ _).alloc (Nat.le_refl _) _).trans (hA.mono (by simp)))).2.2.1, (HB5.out A (((Below.refl _ _).alloc (Nat.le_refl _) _).trans (hA.mono (by simp)))).2.2.2.1, (HB5.out A (((Below.refl _ _).alloc (Nat.le_refl _) _).trans (hA.mono (by simp)))).2.2.2.2.1, (HB5.out A (((Below.refl _ _).alloc (Nat.le_refl _) _).trans (hA.mono (by simp)))).2.2.2.2.2, (Blk.new _ _ _).grow hA⟩
    have BW6 : Hid (Below w.heap.size w w6) := by
      rw [← hw]
      exact BW5.out.alloc BW5.out.size _
    rw [hw]
    clear hw
    generalize w5.heap.size = g5 at *
    refine (HIS.out _ _ _ (HROWS.out w6 BW6.out).1 (HB6.out w6 (Below.refl _ _)).2.2.2.1).mono ?_
    rintro e w7 ⟨rfl, hb⟩
    have HB7 : Hid (∀ A, Below w7.heap.size w7 A → Blk A w.heap.size 47 (#[.int .i64 W, .int .i64 H, .slice ao n cp, .int .i64 oW, .int .i64 oH, .slice av on cv, .int .i64 x, .int .i64 y, .int .u8 b, .int .i64 m]) ∧ Blk A g3 33 (#[.int .i64 W, .int .i64 H, .slice ua n uc]) ∧ Blk A g4 33 (#[.int .i64 oW, .int .i64 oH, .slice va on vc]) ∧ RowK .i64 A (.slice ua n uc) l ∧ RowK .i64 A (.slice va on vc) ol ∧ RowK .u8 A (.slice fa fn fc) FL ∧ Blk A g5 24 (#[.int .i64 W2, .int .i64 H2, .slice fa fn fc])) := fun A hA => HB6.out A (hb.trans (hA.mono hb.size))
    have BW7 : Hid (Below w.heap.size w w7) := BW6.out.trans (hb.mono BW6.out.size)
    clear hb
    have z3 := (HB7.out w7 (Below.refl _ _)).1.cell 3
    have z4 := (HB7.out w7 (Below.refl _ _)).1.cell 4
    have z5 := (HB7.out w7 (Below.refl _ _)).1.cell 5
    simp only [List.getElem?_toArray, List.getElem?_cons_zero, List.getElem?_cons_succ] at z3 z4 z5
    have p0 := (HB7.out w7 (Below.refl _ _)).2.2.1.cell 0
    have p1 := (HB7.out w7 (Below.refl _ _)).2.2.1.cell 1
    have p2 := (HB7.out w7 (Below.refl _ _)).2.2.1.cell 2
    simp only [List.getElem?_toArray, List.getElem?_cons_zero, List.getElem?_cons_succ] at p0 p1 p2
    go_wp2_with fail
    refine (HIO.out _ _ _ (HROWS.out w7 BW7.out).2 (HB7.out w7 (Below.refl _ _)).2.2.2.2.1).mono ?_
    rintro e w8 ⟨rfl, hb⟩
    have HB8 : Hid (∀ A, Below w8.heap.size w8 A → Blk A w.heap.size 47 (#[.int .i64 W, .int .i64 H, .slice ao n cp, .int .i64 oW, .int .i64 oH, .slice av on cv, .int .i64 x, .int .i64 y, .int .u8 b, .int .i64 m]) ∧ Blk A g3 33 (#[.int .i64 W, .int .i64 H, .slice ua n uc]) ∧ Blk A g4 33 (#[.int .i64 oW, .int .i64 oH, .slice va on vc]) ∧ RowK .i64 A (.slice ua n uc) l ∧ RowK .i64 A (.slice va on vc) ol ∧ RowK .u8 A (.slice fa fn fc) FL ∧ Blk A g5 24 (#[.int .i64 W2, .int .i64 H2, .slice fa fn fc])) := fun A hA => HB7.out A (hb.trans (hA.mono hb.size))
    have BW8 : Hid (Below w.heap.size w w8) := BW7.out.trans (hb.mono BW7.out.size)
    clear hb
    clear z3 z4 z5 p0 p1 p2
    have p0 := (HB8.out w8 (Below.refl _ _)).2.1.cell 0
    have p1 := (HB8.out w8 (Below.refl _ _)).2.1.cell 1
    have p2 := (HB8.out w8 (Below.refl _ _)).2.1.cell 2
    simp only [List.getElem?_toArray, List.getElem?_cons_zero, List.getElem?_cons_succ] at p0 p1 p2
    go_wp2_with fail
    refine (HR1.out _ _ (HB8.out w8 (Below.refl _ _)).2.2.2.1).mono ?_
    rintro e w9 ⟨rfl, hb⟩
    have HB9 : Hid (∀ A, Below w9.heap.size w9 A → Blk A w.heap.size 47 (#[.int .i64 W, .int .i64 H, .slice ao n cp, .int .i64 oW, .int .i64 oH, .slice av on cv, .int .i64 x, .int .i64 y, .int .u8 b, .int .i64 m]) ∧ Blk A g3 33 (#[.int .i64 W, .int .i64 H, .slice ua n uc]) ∧ Blk A g4 33 (#[.int .i64 oW, .int .i64 oH, .slice va on vc]) ∧ RowK .i64 A (.slice ua n uc) l ∧ RowK .i64 A (.slice va on vc) ol ∧ RowK .u8 A (.slice fa fn fc) FL ∧ Blk A g5 24 (#[.int .i64 W2, .int .i64 H2, .slice fa fn fc])) := fun A hA => HB8.out A (hb.trans (hA.mono hb.size))
    have BW9 : Hid (Below w.heap.size w w9) := BW8.out.trans (hb.mono BW8.out.size)
    clear hb
    clear p0 p1 p2
    cases r1
    · have HANS := Lib.hid (HNO.out (by simp))
      obtain ⟨rfl, rfl, hfl, rfl⟩ := HANS.out
      have hf0 : fn = 0 := by rw [← HFN.out, hfl]; rfl
      clear hfl HNO HNM HYE HRLY HISF HFAR
      subst hf0
      have p0 := (HB9.out w9 (Below.refl _ _)).2.2.2.2.2.2.cell 0
      have p1 := (HB9.out w9 (Below.refl _ _)).2.2.2.2.2.2.cell 1
      have p2 := (HB9.out w9 (Below.refl _ _)).2.2.2.2.2.2.cell 2
      simp only [List.getElem?_toArray, List.getElem?_cons_zero, List.getElem?_cons_succ] at p0 p1 p2
      go_wp2_with fail
      refine (HEM.out _ _ _).mono ?_
      rintro e w10 ⟨rfl, hb⟩
      have HB10 : Hid (∀ A, Below w10.heap.size w10 A → Blk A w.heap.size 47 (#[.int .i64 W, .int .i64 H, .slice ao n cp, .int .i64 oW, .int .i64 oH, .slice av on cv, .int .i64 x, .int .i64 y, .int .u8 b, .int .i64 m]) ∧ Blk A g3 33 (#[.int .i64 W, .int .i64 H, .slice ua n uc]) ∧ Blk A g4 33 (#[.int .i64 oW, .int .i64 oH, .slice va on vc]) ∧ RowK .i64 A (.slice ua n uc) l ∧ RowK .i64 A (.slice va on vc) ol ∧ RowK .u8 A (.slice fa 0 fc) FL ∧ Blk A g5 24 (#[.int .i64 0, .int .i64 0, .slice fa 0 fc])) := fun A hA => HB9.out A (hb.trans (hA.mono hb.size))
      have BW10 : Hid (Below w.heap.size w w10) := BW9.out.trans (hb.mono BW9.out.size)
      clear hb
      clear p0 p1 p2
      go_wp2_with fail
      refine (HAW.out _).mono ?_
      rintro e w11 ⟨rfl, hb⟩
      have HB11 : Hid (∀ A, Below w11.heap.size w11 A → Blk A w.heap.size 47 (#[.int .i64 W, .int .i64 H, .slice ao n cp, .int .i64 oW, .int .i64 oH, .slice av on cv, .int .i64 x, .int .i64 y, .int .u8 b, .int .i64 m]) ∧ Blk A g3 33 (#[.int .i64 W, .int .i64 H, .slice ua n uc]) ∧ Blk A g4 33 (#[.int .i64 oW, .int .i64 oH, .slice va on vc]) ∧ RowK .i64 A (.slice ua n uc) l ∧ RowK .i64 A (.slice va on vc) ol ∧ RowK .u8 A (.slice fa 0 fc) FL ∧ Blk A g5 24 (#[.int .i64 0, .int .i64 0, .slice fa 0 fc])) := fun A hA => HB10.out A (hb.trans (hA.mono hb.size))
      have BW11 : Hid (Below w.heap.size w w11) := BW10.out.trans (hb.mono BW10.out.size)
      clear hb
      go_wp2_with fail
      go_ret
      exact ⟨rfl, BW11.out⟩
    · skip
      have p0 := (HB9.out w9 (Below.refl _ _)).2.2.1.cell 0
      have p1 := (HB9.out w9 (Below.refl _ _)).2.2.1.cell 1
      have p2 := (HB9.out w9 (Below.refl _ _)).2.2.1.cell 2
      simp only [List.getElem?_toArray, List.getElem?_cons_zero, List.getElem?_cons_succ] at p0 p1 p2
      go_wp2_with fail
      refine (HR2.out _ _ (HB9.out w9 (Below.refl _ _)).2.2.2.2.1).mono ?_
      rintro e w10 ⟨rfl, hb⟩
      have HB10 : Hid (∀ A, Below w10.heap.size w10 A → Blk A w.heap.size 47 (#[.int .i64 W, .int .i64 H, .slice ao n cp, .int .i64 oW, .int .i64 oH, .slice av on cv, .int .i64 x, .int .i64 y, .int .u8 b, .int .i64 m]) ∧ Blk A g3 33 (#[.int .i64 W, .int .i64 H, .slice ua n uc]) ∧ Blk A g4 33 (#[.int .i64 oW, .int .i64 oH, .slice va on vc]) ∧ RowK .i64 A (.slice ua n uc) l ∧ RowK .i64 A (.slice va on vc) ol ∧ RowK .u8 A (.slice fa fn fc) FL ∧ Blk A g5 24 (#[.int .i64 W2, .int .i64 H2, .slice fa fn fc])) := fun A hA => HB9.out A (hb.trans (hA.mono hb.size))
      have BW10 : Hid (Below w.heap.size w w10) := BW9.out.trans (hb.mono BW9.out.size)
      clear hb
      clear p0 p1 p2
      cases r2
      · have HANS := Lib.hid (HNO.out (by simp))
        obtain ⟨rfl, rfl, hfl, rfl⟩ := HANS.out
        have hf0 : fn = 0 := by rw [← HFN.out, hfl]; rfl
        clear hfl HNO HNM HYE HRLY HISF HFAR
        subst hf0
        have p0 := (HB10.out w10 (Below.refl _ _)).2.2.2.2.2.2.cell 0
        have p1 := (HB10.out w10 (Below.refl _ _)).2.2.2.2.2.2.cell 1
        have p2 := (HB10.out w10 (Below.refl _ _)).2.2.2.2.2.2.cell 2
        simp only [List.getElem?_toArray, List.getElem?_cons_zero, List.getElem?_cons_succ] at p0 p1 p2
        go_wp2_with fail
        refine (HEM.out _ _ _).mono ?_
        rintro e w11 ⟨rfl, hb⟩
        have HB11 : Hid (∀ A, Below w11.heap.size w11 A → Blk A w.heap.size 47 (#[.int .i64 W, .int .i64 H, .slice ao n cp, .int .i64 oW, .int .i64 oH, .slice av on cv, .int .i64 x, .int .i64 y, .int .u8 b, .int .i64 m]) ∧ Blk A g3 33 (#[.int .i64 W, .int .i64 H, .slice ua n uc]) ∧ Blk A g4 33 (#[.int .i64 oW, .int .i64 oH, .slice va on vc]) ∧ RowK .i64 A (.slice ua n uc) l ∧ RowK .i64 A (.slice va on vc) ol ∧ RowK .u8 A (.slice fa 0 fc) FL ∧ Blk A g5 24 (#[.int .i64 0, .int .i64 0, .slice fa 0 fc])) := fun A hA => HB10.out A (hb.trans (hA.mono hb.size))
        have BW11 : Hid (Below w.heap.size w w11) := BW10.out.trans (hb.mono BW10.out.size)
        clear hb
        clear p0 p1 p2
        go_wp2_with fail
        refine (HAW.out _).mono ?_
        rintro e w12 ⟨rfl, hb⟩
        have HB12 : Hid (∀ A, Below w12.heap.size w12 A → Blk A w.heap.size 47 (#[.int .i64 W, .int .i64 H, .slice ao n cp, .int .i64 oW, .int .i64 oH, .slice av on cv, .int .i64 x, .int .i64 y, .int .u8 b, .int .i64 m]) ∧ Blk A g3 33 (#[.int .i64 W, .int .i64 H, .slice ua n uc]) ∧ Blk A g4 33 (#[.int .i64 oW, .int .i64 oH, .slice va on vc]) ∧ RowK .i64 A (.slice ua n uc) l ∧ RowK .i64 A (.slice va on vc) ol ∧ RowK .u8 A (.slice fa 0 fc) FL ∧ Blk A g5 24 (#[.int .i64 0, .int .i64 0, .slice fa 0 fc])) := fun A hA => HB11.out A (hb.trans (hA.mono hb.size))
        have BW12 : Hid (Below w.heap.size w w12) := BW11.out.trans (hb.mono BW11.out.size)
        clear hb
        go_wp2_with fail
        go_ret
        exact ⟨rfl, BW12.out⟩
      · skip
        rcases Int.lt_or_le m 0 with hm | hm
        · have HANS := Lib.hid (HNM.out (by simp) (by omega))
          obtain ⟨rfl, rfl, hfl, rfl⟩ := HANS.out
          have hf0 : fn = 0 := by rw [← HFN.out, hfl]; rfl
          clear hfl HNO HNM HYE HRLY HISF HFAR
          subst hf0
          have m0 : decide (m < 0) = true := by simp; omega
          clear hm
          have z9 := (HB10.out w10 (Below.refl _ _)).1.cell 9
          simp only [List.getElem?_toArray, List.getElem?_cons_zero, List.getElem?_cons_succ] at z9
          have p0 := (HB10.out w10 (Below.refl _ _)).2.2.2.2.2.2.cell 0
          have p1 := (HB10.out w10 (Below.refl _ _)).2.2.2.2.2.2.cell 1
          have p2 := (HB10.out w10 (Below.refl _ _)).2.2.2.2.2.2.cell 2
          simp only [List.getElem?_toArray, List.getElem?_cons_zero, List.getElem?_cons_succ] at p0 p1 p2
          go_wp2_with fail
          refine (HEM.out _ _ _).mono ?_
          rintro e w11 ⟨rfl, hb⟩
          have HB11 : Hid (∀ A, Below w11.heap.size w11 A → Blk A w.heap.size 47 (#[.int .i64 W, .int .i64 H, .slice ao n cp, .int .i64 oW, .int .i64 oH, .slice av on cv, .int .i64 x, .int .i64 y, .int .u8 b, .int .i64 m]) ∧ Blk A g3 33 (#[.int .i64 W, .int .i64 H, .slice ua n uc]) ∧ Blk A g4 33 (#[.int .i64 oW, .int .i64 oH, .slice va on vc]) ∧ RowK .i64 A (.slice ua n uc) l ∧ RowK .i64 A (.slice va on vc) ol ∧ RowK .u8 A (.slice fa 0 fc) FL ∧ Blk A g5 24 (#[.int .i64 0, .int .i64 0, .slice fa 0 fc])) := fun A hA => HB10.out A (hb.trans (hA.mono hb.size))
          have BW11 : Hid (Below w.heap.size w w11) := BW10.out.trans (hb.mono BW10.out.size)
          clear hb
          clear z9 p0 p1 p2
          go_wp2_with fail
          refine (HAW.out _).mono ?_
          rintro e w12 ⟨rfl, hb⟩
          have HB12 : Hid (∀ A, Below w12.heap.size w12 A → Blk A w.heap.size 47 (#[.int .i64 W, .int .i64 H, .slice ao n cp, .int .i64 oW, .int .i64 oH, .slice av on cv, .int .i64 x, .int .i64 y, .int .u8 b, .int .i64 m]) ∧ Blk A g3 33 (#[.int .i64 W, .int .i64 H, .slice ua n uc]) ∧ Blk A g4 33 (#[.int .i64 oW, .int .i64 oH, .slice va on vc]) ∧ RowK .i64 A (.slice ua n uc) l ∧ RowK .i64 A (.slice va on vc) ol ∧ RowK .u8 A (.slice fa 0 fc) FL ∧ Blk A g5 24 (#[.int .i64 0, .int .i64 0, .slice fa 0 fc])) := fun A hA => HB11.out A (hb.trans (hA.mono hb.size))
          have BW12 : Hid (Below w.heap.size w w12) := BW11.out.trans (hb.mono BW11.out.size)
          clear hb
          go_wp2_with fail
          go_ret
          exact ⟨rfl, BW12.out⟩
        · rcases Int.lt_or_le 4 m with hm4 | hm4
          · have HANS := Lib.hid (HNM.out (by simp) (by omega))
            obtain ⟨rfl, rfl, hfl, rfl⟩ := HANS.out
            have hf0 : fn = 0 := by rw [← HFN.out, hfl]; rfl
            clear hfl HNO HNM HYE HRLY HISF HFAR
            subst hf0
            have m0 : decide (m < 0) = false := by simp; omega
            have m4 : decide (m > 4) = true := by simp; omega
            clear hm hm4
            have z9 := (HB10.out w10 (Below.refl _ _)).1.cell 9
            simp only [List.getElem?_toArray, List.getElem?_cons_zero, List.getElem?_cons_succ] at z9
            have p0 := (HB10.out w10 (Below.refl _ _)).2.2.2.2.2.2.cell 0
            have p1 := (HB10.out w10 (Below.refl _ _)).2.2.2.2.2.2.cell 1
            have p2 := (HB10.out w10 (Below.refl _ _)).2.2.2.2.2.2.cell 2
            simp only [List.getElem?_toArray, List.getElem?_cons_zero, List.getElem?_cons_succ] at p0 p1 p2
            go_wp2_with fail
            refine (HEM.out _ _ _).mono ?_
            rintro e w11 ⟨rfl, hb⟩
            have HB11 : Hid (∀ A, Below w11.heap.size w11 A → Blk A w.heap.size 47 (#[.int .i64 W, .int .i64 H, .slice ao n cp, .int .i64 oW, .int .i64 oH, .slice av on cv, .int .i64 x, .int .i64 y, .int .u8 b, .int .i64 m]) ∧ Blk A g3 33 (#[.int .i64 W, .int .i64 H, .slice ua n uc]) ∧ Blk A g4 33 (#[.int .i64 oW, .int .i64 oH, .slice va on vc]) ∧ RowK .i64 A (.slice ua n uc) l ∧ RowK .i64 A (.slice va on vc) ol ∧ RowK .u8 A (.slice fa 0 fc) FL ∧ Blk A g5 24 (#[.int .i64 0, .int .i64 0, .slice fa 0 fc])) := fun A hA => HB10.out A (hb.trans (hA.mono hb.size))
            have BW11 : Hid (Below w.heap.size w w11) := BW10.out.trans (hb.mono BW10.out.size)
            clear hb
            clear z9 p0 p1 p2
            go_wp2_with fail
            refine (HAW.out _).mono ?_
            rintro e w12 ⟨rfl, hb⟩
            have HB12 : Hid (∀ A, Below w12.heap.size w12 A → Blk A w.heap.size 47 (#[.int .i64 W, .int .i64 H, .slice ao n cp, .int .i64 oW, .int .i64 oH, .slice av on cv, .int .i64 x, .int .i64 y, .int .u8 b, .int .i64 m]) ∧ Blk A g3 33 (#[.int .i64 W, .int .i64 H, .slice ua n uc]) ∧ Blk A g4 33 (#[.int .i64 oW, .int .i64 oH, .slice va on vc]) ∧ RowK .i64 A (.slice ua n uc) l ∧ RowK .i64 A (.slice va on vc) ol ∧ RowK .u8 A (.slice fa 0 fc) FL ∧ Blk A g5 24 (#[.int .i64 0, .int .i64 0, .slice fa 0 fc])) := fun A hA => HB11.out A (hb.trans (hA.mono hb.size))
            have BW12 : Hid (Below w.heap.size w w12) := BW11.out.trans (hb.mono BW11.out.size)
            clear hb
            go_wp2_with fail
            go_ret
            exact ⟨rfl, BW12.out⟩
          · obtain ⟨rfl, rfl, hfl, rfl⟩ := HYE.out (by simp) ⟨hm, hm4⟩
            have m0 : decide (m < 0) = false := by simp; omega
            have m4 : decide (m > 4) = false := by simp; omega
            have HM := Lib.hid (And.intro hm hm4)
            clear hm hm4 HNO HNM HYE
            subst hfl
            obtain rfl : n = fn := by rw [← HFN.out]; exact HNLL.out.symm
            by_cases n0 : x < -1000
            · have t0 : decide (x < -1000) = true := by simp; omega
              obtain rfl : l = LL := (HFAR.out (by simp) (by simp) (by omega)).symm
              clear HFAR HRLY HISF n0
              have z6 := (HB10.out w10 (Below.refl _ _)).1.cell 6
              have z7 := (HB10.out w10 (Below.refl _ _)).1.cell 7
              have z9 := (HB10.out w10 (Below.refl _ _)).1.cell 9
              simp only [List.getElem?_toArray, List.getElem?_cons_zero, List.getElem?_cons_succ] at z6 z7 z9
              have p0 := (HB10.out w10 (Below.refl _ _)).2.2.2.2.2.2.cell 0
              have p1 := (HB10.out w10 (Below.refl _ _)).2.2.2.2.2.2.cell 1
              have p2 := (HB10.out w10 (Below.refl _ _)).2.2.2.2.2.2.cell 2
              simp only [List.getElem?_toArray, List.getElem?_cons_zero, List.getElem?_cons_succ] at p0 p1 p2
              have q0 := (HB10.out w10 (Below.refl _ _)).2.1.cell 0
              have q1 := (HB10.out w10 (Below.refl _ _)).2.1.cell 1
              have q2 := (HB10.out w10 (Below.refl _ _)).2.1.cell 2
              simp only [List.getElem?_toArray, List.getElem?_cons_zero, List.getElem?_cons_succ] at q0 q1 q2
              go_wp2_with fail
              refine (HIS.out _ _ _ (HB10.out w10 (Below.refl _ _)).2.2.2.2.2.1 (HB10.out w10 (Below.refl _ _)).2.2.2.1).mono ?_
              rintro e w11 ⟨rfl, hb⟩
              have HB11 : Hid (∀ A, Below w11.heap.size w11 A → Blk A w.heap.size 47 (#[.int .i64 W, .int .i64 H, .slice ao n cp, .int .i64 oW, .int .i64 oH, .slice av on cv, .int .i64 x, .int .i64 y, .int .u8 b, .int .i64 m]) ∧ Blk A g3 33 (#[.int .i64 W, .int .i64 H, .slice ua n uc]) ∧ Blk A g4 33 (#[.int .i64 oW, .int .i64 oH, .slice va on vc]) ∧ RowK .i64 A (.slice ua n uc) l ∧ RowK .i64 A (.slice va on vc) ol ∧ RowK .u8 A (.slice fa n fc) l ∧ Blk A g5 24 (#[.int .i64 W, .int .i64 H, .slice fa n fc])) := fun A hA => HB10.out A (hb.trans (hA.mono hb.size))
              have BW11 : Hid (Below w.heap.size w w11) := BW10.out.trans (hb.mono BW10.out.size)
              clear hb
              clear z6 z7 z9 p0 p1 p2 q0 q1 q2
              go_wp2_with fail
              refine (HAW.out _).mono ?_
              rintro e w12 ⟨rfl, hb⟩
              have HB12 : Hid (∀ A, Below w12.heap.size w12 A → Blk A w.heap.size 47 (#[.int .i64 W, .int .i64 H, .slice ao n cp, .int .i64 oW, .int .i64 oH, .slice av on cv, .int .i64 x, .int .i64 y, .int .u8 b, .int .i64 m]) ∧ Blk A g3 33 (#[.int .i64 W, .int .i64 H, .slice ua n uc]) ∧ Blk A g4 33 (#[.int .i64 oW, .int .i64 oH, .slice va on vc]) ∧ RowK .i64 A (.slice ua n uc) l ∧ RowK .i64 A (.slice va on vc) ol ∧ RowK .u8 A (.slice fa n fc) l ∧ Blk A g5 24 (#[.int .i64 W, .int .i64 H, .slice fa n fc])) := fun A hA => HB11.out A (hb.trans (hA.mono hb.size))
              have BW12 : Hid (Below w.heap.size w w12) := BW11.out.trans (hb.mono BW11.out.size)
              clear hb
              go_wp2_with fail
              go_ret
              exact ⟨rfl, BW12.out⟩
            · by_cases n1 : x > 1000
              · have t0 : decide (x < -1000) = false := by simp; omega
                have t1 : decide (x > 1000) = true := by simp; omega
                obtain rfl : l = LL := (HFAR.out (by simp) (by simp) (by omega)).symm
                clear HFAR HRLY HISF n0 n1
                have z6 := (HB10.out w10 (Below.refl _ _)).1.cell 6
                have z7 := (HB10.out w10 (Below.refl _ _)).1.cell 7
                have z9 := (HB10.out w10 (Below.refl _ _)).1.cell 9
                simp only [List.getElem?_toArray, List.getElem?_cons_zero, List.getElem?_cons_succ] at z6 z7 z9
                have p0 := (HB10.out w10 (Below.refl _ _)).2.2.2.2.2.2.cell 0
                have p1 := (HB10.out w10 (Below.refl _ _)).2.2.2.2.2.2.cell 1
                have p2 := (HB10.out w10 (Below.refl _ _)).2.2.2.2.2.2.cell 2
                simp only [List.getElem?_toArray, List.getElem?_cons_zero, List.getElem?_cons_succ] at p0 p1 p2
                have q0 := (HB10.out w10 (Below.refl _ _)).2.1.cell 0
                have q1 := (HB10.out w10 (Below.refl _ _)).2.1.cell 1
                have q2 := (HB10.out w10 (Below.refl _ _)).2.1.cell 2
                simp only [List.getElem?_toArray, List.getElem?_cons_zero, List.getElem?_cons_succ] at q0 q1 q2
                go_wp2_with fail
                refine (HIS.out _ _ _ (HB10.out w10 (Below.refl _ _)).2.2.2.2.2.1 (HB10.out w10 (Below.refl _ _)).2.2.2.1).mono ?_
                rintro e w11 ⟨rfl, hb⟩
                have HB11 : Hid (∀ A, Below w11.heap.size w11 A → Blk A w.heap.size 47 (#[.int .i64 W, .int .i64 H, .slice ao n cp, .int .i64 oW, .int .i64 oH, .slice av on cv, .int .i64 x, .int .i64 y, .int .u8 b, .int .i64 m]) ∧ Blk A g3 33 (#[.int .i64 W, .int .i64 H, .slice ua n uc]) ∧ Blk A g4 33 (#[.int .i64 oW, .int .i64 oH, .slice va on vc]) ∧ RowK .i64 A (.slice ua n uc) l ∧ RowK .i64 A (.slice va on vc) ol ∧ RowK .u8 A (.slice fa n fc) l ∧ Blk A g5 24 (#[.int .i64 W, .int .i64 H, .slice fa n fc])) := fun A hA => HB10.out A (hb.trans (hA.mono hb.size))
                have BW11 : Hid (Below w.heap.size w w11) := BW10.out.trans (hb.mono BW10.out.size)
                clear hb
                clear z6 z7 z9 p0 p1 p2 q0 q1 q2
                go_wp2_with fail
                refine (HAW.out _).mono ?_
                rintro e w12 ⟨rfl, hb⟩
                have HB12 : Hid (∀ A, Below w12.heap.size w12 A → Blk A w.heap.size 47 (#[.int .i64 W, .int .i64 H, .slice ao n cp, .int .i64 oW, .int .i64 oH, .slice av on cv, .int .i64 x, .int .i64 y, .int .u8 b, .int .i64 m]) ∧ Blk A g3 33 (#[.int .i64 W, .int .i64 H, .slice ua n uc]) ∧ Blk A g4 33 (#[.int .i64 oW, .int .i64 oH, .slice va on vc]) ∧ RowK .i64 A (.slice ua n uc) l ∧ RowK .i64 A (.slice va on vc) ol ∧ RowK .u8 A (.slice fa n fc) l ∧ Blk A g5 24 (#[.int .i64 W, .int .i64 H, .slice fa n fc])) := fun A hA => HB11.out A (hb.trans (hA.mono hb.size))
                have BW12 : Hid (Below w.heap.size w w12) := BW11.out.trans (hb.mono BW11.out.size)
                clear hb
                go_wp2_with fail
                go_ret
                exact ⟨rfl, BW12.out⟩
              · by_cases n2 : y < -1000
                · have t0 : decide (x < -1000) = false := by simp; omega
                  have t1 : decide (x > 1000) = false := by simp; omega
                  have t2 : decide (y < -1000) = true := by simp; omega
                  obtain rfl : l = LL := (HFAR.out (by simp) (by simp) (by omega)).symm
                  clear HFAR HRLY HISF n0 n1 n2
                  have z6 := (HB10.out w10 (Below.refl _ _)).1.cell 6
                  have z7 := (HB10.out w10 (Below.refl _ _)).1.cell 7
                  have z9 := (HB10.out w10 (Below.refl _ _)).1.cell 9
                  simp only [List.getElem?_toArray, List.getElem?_cons_zero, List.getElem?_cons_succ] at z6 z7 z9
                  have p0 := (HB10.out w10 (Below.refl _ _)).2.2.2.2.2.2.cell 0
                  have p1 := (HB10.out w10 (Below.refl _ _)).2.2.2.2.2.2.cell 1
                  have p2 := (HB10.out w10 (Below.refl _ _)).2.2.2.2.2.2.cell 2
                  simp only [List.getElem?_toArray, List.getElem?_cons_zero, List.getElem?_cons_succ] at p0 p1 p2
                  have q0 := (HB10.out w10 (Below.refl _ _)).2.1.cell 0
                  have q1 := (HB10.out w10 (Below.refl _ _)).2.1.cell 1
                  have q2 := (HB10.out w10 (Below.refl _ _)).2.1.cell 2
                  simp only [List.getElem?_toArray, List.getElem?_cons_zero, List.getElem?_cons_succ] at q0 q1 q2
                  go_wp2_with fail
                  refine (HIS.out _ _ _ (HB10.out w10 (Below.refl _ _)).2.2.2.2.2.1 (HB10.out w10 (Below.refl _ _)).2.2.2.1).mono ?_
                  rintro e w11 ⟨rfl, hb⟩
                  have HB11 : Hid (∀ A, Below w11.heap.size w11 A → Blk A w.heap.size 47 (#[.int .i64 W, .int .i64 H, .slice ao n cp, .int .i64 oW, .int .i64 oH, .slice av on cv, .int .i64 x, .int .i64 y, .int .u8 b, .int .i64 m]) ∧ Blk A g3 33 (#[.int .i64 W, .int .i64 H, .slice ua n uc]) ∧ Blk A g4 33 (#[.int .i64 oW, .int .i64 oH, .slice va on vc]) ∧ RowK .i64 A (.slice ua n uc) l ∧ RowK .i64 A (.slice va on vc) ol ∧ RowK .u8 A (.slice fa n fc) l ∧ Blk A g5 24 (#[.int .i64 W, .int .i64 H, .slice fa n fc])) := fun A hA => HB10.out A (hb.trans (hA.mono hb.size))
                  have BW11 : Hid (Below w.heap.size w w11) := BW10.out.trans (hb.mono BW10.out.size)
                  clear hb
                  clear z6 z7 z9 p0 p1 p2 q0 q1 q2
                  go_wp2_with fail
                  refine (HAW.out _).mono ?_
                  rintro e w12 ⟨rfl, hb⟩
                  have HB12 : Hid (∀ A, Below w12.heap.size w12 A → Blk A w.heap.size 47 (#[.int .i64 W, .int .i64 H, .slice ao n cp, .int .i64 oW, .int .i64 oH, .slice av on cv, .int .i64 x, .int .i64 y, .int .u8 b, .int .i64 m]) ∧ Blk A g3 33 (#[.int .i64 W, .int .i64 H, .slice ua n uc]) ∧ Blk A g4 33 (#[.int .i64 oW, .int .i64 oH, .slice va on vc]) ∧ RowK .i64 A (.slice ua n uc) l ∧ RowK .i64 A (.slice va on vc) ol ∧ RowK .u8 A (.slice fa n fc) l ∧ Blk A g5 24 (#[.int .i64 W, .int .i64 H, .slice fa n fc])) := fun A hA => HB11.out A (hb.trans (hA.mono hb.size))
                  have BW12 : Hid (Below w.heap.size w w12) := BW11.out.trans (hb.mono BW11.out.size)
                  clear hb
                  go_wp2_with fail
                  go_ret
                  exact ⟨rfl, BW12.out⟩
                · by_cases n3 : y > 1000
                  · have t0 : decide (x < -1000) = false := by simp; omega
                    have t1 : decide (x > 1000) = false := by simp; omega
                    have t2 : decide (y < -1000) = false := by simp; omega
                    have t3 : decide (y > 1000) = true := by simp; omega
                    obtain rfl : l = LL := (HFAR.out (by simp) (by simp) (by omega)).symm
                    clear HFAR HRLY HISF n0 n1 n2 n3
                    have z6 := (HB10.out w10 (Below.refl _ _)).1.cell 6
                    have z7 := (HB10.out w10 (Below.refl _ _)).1.cell 7
                    have z9 := (HB10.out w10 (Below.refl _ _)).1.cell 9
                    simp only [List.getElem?_toArray, List.getElem?_cons_zero, List.getElem?_cons_succ] at z6 z7 z9
                    have p0 := (HB10.out w10 (Below.refl _ _)).2.2.2.2.2.2.cell 0
                    have p1 := (HB10.out w10 (Below.refl _ _)).2.2.2.2.2.2.cell 1
                    have p2 := (HB10.out w10 (Below.refl _ _)).2.2.2.2.2.2.cell 2
                    simp only [List.getElem?_toArray, List.getElem?_cons_zero, List.getElem?_cons_succ] at p0 p1 p2
                    have q0 := (HB10.out w10 (Below.refl _ _)).2.1.cell 0
                    have q1 := (HB10.out w10 (Below.refl _ _)).2.1.cell 1
                    have q2 := (HB10.out w10 (Below.refl _ _)).2.1.cell 2
                    simp only [List.getElem?_toArray, List.getElem?_cons_zero, List.getElem?_cons_succ] at q0 q1 q2
                    go_wp2_with fail
                    refine (HIS.out _ _ _ (HB10.out w10 (Below.refl _ _)).2.2.2.2.2.1 (HB10.out w10 (Below.refl _ _)).2.2.2.1).mono ?_
                    rintro e w11 ⟨rfl, hb⟩
                    have HB11 : Hid (∀ A, Below w11.heap.size w11 A → Blk A w.heap.size 47 (#[.int .i64 W, .int .i64 H, .slice ao n cp, .int .i64 oW, .int .i64 oH, .slice av on cv, .int .i64 x, .int .i64 y, .int .u8 b, .int .i64 m]) ∧ Blk A g3 33 (#[.int .i64 W, .int .i64 H, .slice ua n uc]) ∧ Blk A g4 33 (#[.int .i64 oW, .int .i64 oH, .slice va on vc]) ∧ RowK .i64 A (.slice ua n uc) l ∧ RowK .i64 A (.slice va on vc) ol ∧ RowK .u8 A (.slice fa n fc) l ∧ Blk A g5 24 (#[.int .i64 W, .int .i64 H, .slice fa n fc])) := fun A hA => HB10.out A (hb.trans (hA.mono hb.size))
                    have BW11 : Hid (Below w.heap.size w w11) := BW10.out.trans (hb.mono BW10.out.size)
                    clear hb
                    clear z6 z7 z9 p0 p1 p2 q0 q1 q2
                    go_wp2_with fail
                    refine (HAW.out _).mono ?_
                    rintro e w12 ⟨rfl, hb⟩
                    have HB12 : Hid (∀ A, Below w12.heap.size w12 A → Blk A w.heap.size 47 (#[.int .i64 W, .int .i64 H, .slice ao n cp, .int .i64 oW, .int .i64 oH, .slice av on cv, .int .i64 x, .int .i64 y, .int .u8 b, .int .i64 m]) ∧ Blk A g3 33 (#[.int .i64 W, .int .i64 H, .slice ua n uc]) ∧ Blk A g4 33 (#[.int .i64 oW, .int .i64 oH, .slice va on vc]) ∧ RowK .i64 A (.slice ua n uc) l ∧ RowK .i64 A (.slice va on vc) ol ∧ RowK .u8 A (.slice fa n fc) l ∧ Blk A g5 24 (#[.int .i64 W, .int .i64 H, .slice fa n fc])) := fun A hA => HB11.out A (hb.trans (hA.mono hb.size))
                    have BW12 : Hid (Below w.heap.size w w12) := BW11.out.trans (hb.mono BW11.out.size)
                    clear hb
                    go_wp2_with fail
                    go_ret
                    exact ⟨rfl, BW12.out⟩
                  · have t0 : decide (x < -1000) = false := by simp; omega
                    have t1 : decide (x > 1000) = false := by simp; omega
                    have t2 : decide (y < -1000) = false := by simp; omega
                    have t3 : decide (y > 1000) = false := by simp; omega
                    have HRL := Lib.hid (HRLY.out (by simp) (by simp) HM.out (by omega) (by omega))
                    have HIF := Lib.hid (HISF.out (by simp) (by simp))
                    clear HFAR HRLY HISF n0 n1 n2 n3
                    have z6 := (HB10.out w10 (Below.refl _ _)).1.cell 6
                    have z7 := (HB10.out w10 (Below.refl _ _)).1.cell 7
                    have z9 := (HB10.out w10 (Below.refl _ _)).1.cell 9
                    simp only [List.getElem?_toArray, List.getElem?_cons_zero, List.getElem?_cons_succ] at z6 z7 z9
                    go_wp2_with fail
                    clear z6 z7 z9
                    refine wp_region_put3 (by kernel_rfl) (by kernel_rfl) (by kernel_rfl) (fun b' vs w' => (b' 0 = true → vs 0 = .int .i64 0) ∧ (b' 1 = true → vs 1 = .bool true) ∧ (b' 2 = true → vs 2 = .bool true) ∧ (b' 3 = true → vs 3 = .agg #[.int .i64 W, .int .i64 H, .slice fa n fc]) ∧ (b' 4 = true → vs 4 = .agg #[.int .i64 W, .int .i64 H, .slice ua n uc]) ∧ (b' 5 = true → vs 5 = .agg #[.int .i64 oW, .int .i64 oH, .slice va on vc]) ∧ (b' 6 = true → vs 6 = .pointer (some ⟨w.heap.size, 6, none⟩)) ∧ (b' 7 = true → vs 7 = .int .i64 x) ∧ (b' 8 = true → vs 8 = .pointer (some ⟨w.heap.size, 7, none⟩)) ∧ (b' 9 = true → vs 9 = .int .i64 y) ∧ (b' 10 = true → vs 10 = .pointer (some ⟨w.heap.size, 8, none⟩)) ∧ (b' 11 = true → vs 11 = .int .u8 b) ∧ (b' 12 = true → vs 12 = .int .i64 b) ∧ (b' 13 = true → vs 13 = .pointer (some ⟨w.heap.size, 9, none⟩)) ∧ (b' 14 = true → vs 14 = .int .i64 m) ∧ (b' 16 = true → vs 16 = .bool true) ∧ (b' 17 = true → vs 17 = .bool true) ∧ (b' 18 = true → vs 18 = .bool true) ∧ (b' 19 = true → vs 19 = .bool true) ∧ (b' 20 = true → vs 20 = .bool true) ∧ (b' 21 = true → vs 21 = .bool true) ∧ (b' 15 = true → Hid (∃ v', (vs 15) = .agg #[.int .i64 W, .int .i64 H, v'] ∧ RowK .i64 w' v' LL)) ∧ (Hid (Below w10.heap.size w10 w' ∧ w10.heap.size ≤ w'.heap.size))) ?_ ?_ ?_
                    · intro vs
                      exact ⟨fun h => Bool.noConfusion h, fun h => Bool.noConfusion h, fun h => Bool.noConfusion h, fun h => Bool.noConfusion h, fun h => Bool.noConfusion h, fun h => Bool.noConfusion h, fun h => Bool.noConfusion h, fun h => Bool.noConfusion h, fun h => Bool.noConfusion h, fun h => Bool.noConfusion h, fun h => Bool.noConfusion h, fun h => Bool.noConfusion h, fun h => Bool.noConfusion h, fun h => Bool.noConfusion h, fun h => Bool.noConfusion h, fun h => Bool.noConfusion h, fun h => Bool.noConfusion h, fun h => Bool.noConfusion h, fun h => Bool.noConfusion h, fun h => Bool.noConfusion h, fun h => Bool.noConfusion h, fun h => Bool.noConfusion h, Lib.hid ⟨below_drewN (Below.refl _ _) 1, Nat.le_refl _⟩⟩
                    · rintro b' vs w' i op hi hun hall ⟨h0, h1, h2, h3, h4, h5, h6, h7, h8, h9, h10, h11, h12, h13, h14, h16, h17, h18, h19, h20, h21, y15, hB⟩
                      have hil : i < 22 := (List.getElem?_eq_some_iff.1 hi).1
                      rcases i with _ | _ | _ | _ | _ | _ | _ | _ | _ | _ | _ | _ | _ | _ | _ | _ | _ | _ | _ | _ | _ | _ | i
                      · obtain rfl := Option.some.inj hi
                        clear hi hil
                        refine StepOk.plain rfl (fun K hK => ?_)
                        have HKK := Lib.hid hK; clear hK
                        simp only [putAll, Act.put, List.setIfInBounds_toArray, List.set_cons_zero, List.set_cons_succ]
                        go_simp
                        exact HKK.out _ _ ⟨_, by simp only [putAll, Act.put, List.setIfInBounds_toArray, List.set_cons_zero, List.set_cons_succ] <;> rfl, fun _ => rfl, h1, h2, h3, h4, h5, h6, h7, h8, h9, h10, h11, h12, h13, h14, h16, h17, h18, h19, h20, h21, y15, hB⟩
                      · obtain rfl := Option.some.inj hi
                        clear hi hil
                        have d0 := h0 (hall ⟨0, .data⟩ (by simp) rfl)
                        refine StepOk.plain rfl (fun K hK => ?_)
                        have HKK := Lib.hid hK; clear hK
                        simp only [putAll, Act.put, List.setIfInBounds_toArray, List.set_cons_zero, List.set_cons_succ]
                        go_simp
                        exact HKK.out _ _ ⟨_, by simp only [putAll, Act.put, List.setIfInBounds_toArray, List.set_cons_zero, List.set_cons_succ, d0] <;> rfl, h0, fun _ => rfl, h2, h3, h4, h5, h6, h7, h8, h9, h10, h11, h12, h13, h14, h16, h17, h18, h19, h20, h21, y15, hB⟩
                      · obtain rfl := Option.some.inj hi
                        clear hi hil
                        have d1 := h1 (hall ⟨1, .data⟩ (by simp) rfl)
                        refine StepOk.plain rfl (fun K hK => ?_)
                        have HKK := Lib.hid hK; clear hK
                        simp only [putAll, Act.put, List.setIfInBounds_toArray, List.set_cons_zero, List.set_cons_succ]
                        go_simp
                        exact HKK.out _ _ ⟨_, by simp only [putAll, Act.put, List.setIfInBounds_toArray, List.set_cons_zero, List.set_cons_succ, d1] <;> rfl, h0, h1, fun _ => rfl, h3, h4, h5, h6, h7, h8, h9, h10, h11, h12, h13, h14, h16, h17, h18, h19, h20, h21, y15, hB⟩
                      · obtain rfl := Option.some.inj hi
                        clear hi hil
                        have d2 := h2 (hall ⟨2, .guard⟩ (by simp) rfl)
                        have p0 := (HB10.out w' hB.out.1).2.2.2.2.2.2.cell 0
                        have p1 := (HB10.out w' hB.out.1).2.2.2.2.2.2.cell 1
                        have p2 := (HB10.out w' hB.out.1).2.2.2.2.2.2.cell 2
                        simp only [List.getElem?_toArray, List.getElem?_cons_zero, List.getElem?_cons_succ] at p0 p1 p2
                        refine StepOk.on 2 true rfl rfl d2 (fun K hK => ?_)
                        have HKK := Lib.hid hK; clear hK
                        simp only [putAll, Act.put, List.setIfInBounds_toArray, List.set_cons_zero, List.set_cons_succ]
                        go_simp
                        exact HKK.out _ _ ⟨_, by simp only [putAll, Act.put, List.setIfInBounds_toArray, List.set_cons_zero, List.set_cons_succ, d2] <;> rfl, h0, h1, h2, fun _ => rfl, h4, h5, h6, h7, h8, h9, h10, h11, h12, h13, h14, h16, h17, h18, h19, h20, h21, y15, hB⟩
                      · obtain rfl := Option.some.inj hi
                        clear hi hil
                        have d2 := h2 (hall ⟨2, .guard⟩ (by simp) rfl)
                        have p0 := (HB10.out w' hB.out.1).2.1.cell 0
                        have p1 := (HB10.out w' hB.out.1).2.1.cell 1
                        have p2 := (HB10.out w' hB.out.1).2.1.cell 2
                        simp only [List.getElem?_toArray, List.getElem?_cons_zero, List.getElem?_cons_succ] at p0 p1 p2
                        refine StepOk.on 2 true rfl rfl d2 (fun K hK => ?_)
                        have HKK := Lib.hid hK; clear hK
                        simp only [putAll, Act.put, List.setIfInBounds_toArray, List.set_cons_zero, List.set_cons_succ]
                        go_simp
                        exact HKK.out _ _ ⟨_, by simp only [putAll, Act.put, List.setIfInBounds_toArray, List.set_cons_zero, List.set_cons_succ, d2] <;> rfl, h0, h1, h2, h3, fun _ => rfl, h5, h6, h7, h8, h9, h10, h11, h12, h13, h14, h16, h17, h18, h19, h20, h21, y15, hB⟩
                      · obtain rfl := Option.some.inj hi
                        clear hi hil
                        have d2 := h2 (hall ⟨2, .guard⟩ (by simp) rfl)
                        have p0 := (HB10.out w' hB.out.1).2.2.1.cell 0
                        have p1 := (HB10.out w' hB.out.1).2.2.1.cell 1
                        have p2 := (HB10.out w' hB.out.1).2.2.1.cell 2
                        simp only [List.getElem?_toArray, List.getElem?_cons_zero, List.getElem?_cons_succ] at p0 p1 p2
                        refine StepOk.on 2 true rfl rfl d2 (fun K hK => ?_)
                        have HKK := Lib.hid hK; clear hK
                        simp only [putAll, Act.put, List.setIfInBounds_toArray, List.set_cons_zero, List.set_cons_succ]
                        go_simp
                        exact HKK.out _ _ ⟨_, by simp only [putAll, Act.put, List.setIfInBounds_toArray, List.set_cons_zero, List.set_cons_succ, d2] <;> rfl, h0, h1, h2, h3, h4, fun _ => rfl, h6, h7, h8, h9, h10, h11, h12, h13, h14, h16, h17, h18, h19, h20, h21, y15, hB⟩
                      · obtain rfl := Option.some.inj hi
                        clear hi hil
                        have d2 := h2 (hall ⟨2, .guard⟩ (by simp) rfl)
                        refine StepOk.on 2 true rfl rfl d2 (fun K hK => ?_)
                        have HKK := Lib.hid hK; clear hK
                        simp only [putAll, Act.put, List.setIfInBounds_toArray, List.set_cons_zero, List.set_cons_succ]
                        go_simp
                        exact HKK.out _ _ ⟨_, by simp only [putAll, Act.put, List.setIfInBounds_toArray, List.set_cons_zero, List.set_cons_succ, d2] <;> rfl, h0, h1, h2, h3, h4, h5, fun _ => rfl, h7, h8, h9, h10, h11, h12, h13, h14, h16, h17, h18, h19, h20, h21, y15, hB⟩
                      · obtain rfl := Option.some.inj hi
                        clear hi hil
                        have d6 := h6 (hall ⟨6, .data⟩ (by simp) rfl)
                        have d2 := h2 (hall ⟨2, .guard⟩ (by simp) rfl)
                        have p0 := (HB10.out w' hB.out.1).1.cell 6
                        simp only [List.getElem?_toArray, List.getElem?_cons_zero, List.getElem?_cons_succ] at p0
                        refine StepOk.on 2 true rfl rfl d2 (fun K hK => ?_)
                        have HKK := Lib.hid hK; clear hK
                        simp only [putAll, Act.put, List.setIfInBounds_toArray, List.set_cons_zero, List.set_cons_succ]
                        go_simp
                        exact HKK.out _ _ ⟨_, by simp only [putAll, Act.put, List.setIfInBounds_toArray, List.set_cons_zero, List.set_cons_succ, d6, d2] <;> rfl, h0, h1, h2, h3, h4, h5, h6, fun _ => rfl, h8, h9, h10, h11, h12, h13, h14, h16, h17, h18, h19, h20, h21, y15, hB⟩
                      · obtain rfl := Option.some.inj hi
                        clear hi hil
                        have d2 := h2 (hall ⟨2, .guard⟩ (by simp) rfl)
                        refine StepOk.on 2 true rfl rfl d2 (fun K hK => ?_)
                        have HKK := Lib.hid hK; clear hK
                        simp only [putAll, Act.put, List.setIfInBounds_toArray, List.set_cons_zero, List.set_cons_succ]
                        go_simp
                        exact HKK.out _ _ ⟨_, by simp only [putAll, Act.put, List.setIfInBounds_toArray, List.set_cons_zero, List.set_cons_succ, d2] <;> rfl, h0, h1, h2, h3, h4, h5, h6, h7, fun _ => rfl, h9, h10, h11, h12, h13, h14, h16, h17, h18, h19, h20, h21, y15, hB⟩
                      · obtain rfl := Option.some.inj hi
                        clear hi hil
                        have d8 := h8 (hall ⟨8, .data⟩ (by simp) rfl)
                        have d2 := h2 (hall ⟨2, .guard⟩ (by simp) rfl)
                        have p0 := (HB10.out w' hB.out.1).1.cell 7
                        simp only [List.getElem?_toArray, List.getElem?_cons_zero, List.getElem?_cons_succ] at p0
                        refine StepOk.on 2 true rfl rfl d2 (fun K hK => ?_)
                        have HKK := Lib.hid hK; clear hK
                        simp only [putAll, Act.put, List.setIfInBounds_toArray, List.set_cons_zero, List.set_cons_succ]
                        go_simp
                        exact HKK.out _ _ ⟨_, by simp only [putAll, Act.put, List.setIfInBounds_toArray, List.set_cons_zero, List.set_cons_succ, d8, d2] <;> rfl, h0, h1, h2, h3, h4, h5, h6, h7, h8, fun _ => rfl, h10, h11, h12, h13, h14, h16, h17, h18, h19, h20, h21, y15, hB⟩
                      · obtain rfl := Option.some.inj hi
                        clear hi hil
                        have d2 := h2 (hall ⟨2, .guard⟩ (by simp) rfl)
                        refine StepOk.on 2 true rfl rfl d2 (fun K hK => ?_)
                        have HKK := Lib.hid hK; clear hK
                        simp only [putAll, Act.put, List.setIfInBounds_toArray, List.set_cons_zero, List.set_cons_succ]
                        go_simp
                        exact HKK.out _ _ ⟨_, by simp only [putAll, Act.put, List.setIfInBounds_toArray, List.set_cons_zero, List.set_cons_succ, d2] <;> rfl, h0, h1, h2, h3, h4, h5, h6, h7, h8, h9, fun _ => rfl, h11, h12, h13, h14, h16, h17, h18, h19, h20, h21, y15, hB⟩
                      · obtain rfl := Option.some.inj hi
                        clear hi hil
                        have d10 := h10 (hall ⟨10, .data⟩ (by simp) rfl)
                        have d2 := h2 (hall ⟨2, .guard⟩ (by simp) rfl)
                        have p0 := (HB10.out w' hB.out.1).1.cell 8
                        simp only [List.getElem?_toArray, List.getElem?_cons_zero, List.getElem?_cons_succ] at p0
                        refine StepOk.on 2 true rfl rfl d2 (fun K hK => ?_)
                        have HKK := Lib.hid hK; clear hK
                        simp only [putAll, Act.put, List.setIfInBounds_toArray, List.set_cons_zero, List.set_cons_succ]
                        go_simp
                        exact HKK.out _ _ ⟨_, by simp only [putAll, Act.put, List.setIfInBounds_toArray, List.set_cons_zero, List.set_cons_succ, d10, d2] <;> rfl, h0, h1, h2, h3, h4, h5, h6, h7, h8, h9, h10, fun _ => rfl, h12, h13, h14, h16, h17, h18, h19, h20, h21, y15, hB⟩
                      · obtain rfl := Option.some.inj hi
                        clear hi hil
                        have d11 := h11 (hall ⟨11, .data⟩ (by simp) rfl)
                        have d2 := h2 (hall ⟨2, .guard⟩ (by simp) rfl)
                        refine StepOk.on 2 true rfl rfl d2 (fun K hK => ?_)
                        have HKK := Lib.hid hK; clear hK
                        simp only [putAll, Act.put, List.setIfInBounds_toArray, List.set_cons_zero, List.set_cons_succ]
                        go_simp
                        exact HKK.out _ _ ⟨_, by simp only [putAll, Act.put, List.setIfInBounds_toArray, List.set_cons_zero, List.set_cons_succ, d11, d2, EB.out] <;> rfl, h0, h1, h2, h3, h4, h5, h6, h7, h8, h9, h10, h11, fun _ => rfl, h13, h14, h16, h17, h18, h19, h20, h21, y15, hB⟩
                      · obtain rfl := Option.some.inj hi
                        clear hi hil
                        have d2 := h2 (hall ⟨2, .guard⟩ (by simp) rfl)
                        refine StepOk.on 2 true rfl rfl d2 (fun K hK => ?_)
                        have HKK := Lib.hid hK; clear hK
                        simp only [putAll, Act.put, List.setIfInBounds_toArray, List.set_cons_zero, List.set_cons_succ]
                        go_simp
                        exact HKK.out _ _ ⟨_, by simp only [putAll, Act.put, List.setIfInBounds_toArray, List.set_cons_zero, List.set_cons_succ, d2] <;> rfl, h0, h1, h2, h3, h4, h5, h6, h7, h8, h9, h10, h11, h12, fun _ => rfl, h14, h16, h17, h18, h19, h20, h21, y15, hB⟩
                      · obtain rfl := Option.some.inj hi
                        clear hi hil
                        have d13 := h13 (hall ⟨13, .data⟩ (by simp) rfl)
                        have d2 := h2 (hall ⟨2, .guard⟩ (by simp) rfl)
                        have p0 := (HB10.out w' hB.out.1).1.cell 9
                        simp only [List.getElem?_toArray, List.getElem?_cons_zero, List.getElem?_cons_succ] at p0
                        refine StepOk.on 2 true rfl rfl d2 (fun K hK => ?_)
                        have HKK := Lib.hid hK; clear hK
                        simp only [putAll, Act.put, List.setIfInBounds_toArray, List.set_cons_zero, List.set_cons_succ]
                        go_simp
                        exact HKK.out _ _ ⟨_, by simp only [putAll, Act.put, List.setIfInBounds_toArray, List.set_cons_zero, List.set_cons_succ, d13, d2] <;> rfl, h0, h1, h2, h3, h4, h5, h6, h7, h8, h9, h10, h11, h12, h13, fun _ => rfl, h16, h17, h18, h19, h20, h21, y15, hB⟩
                      · obtain rfl := Option.some.inj hi
                        clear hi hil
                        have d4 := h4 (hall ⟨4, .data⟩ (by simp) rfl)
                        have d5 := h5 (hall ⟨5, .data⟩ (by simp) rfl)
                        have d7 := h7 (hall ⟨7, .data⟩ (by simp) rfl)
                        have d9 := h9 (hall ⟨9, .data⟩ (by simp) rfl)
                        have d12 := h12 (hall ⟨12, .data⟩ (by simp) rfl)
                        have d14 := h14 (hall ⟨14, .data⟩ (by simp) rfl)
                        have d2 := h2 (hall ⟨2, .guard⟩ (by simp) rfl)
                        refine StepOk.on 2 true rfl rfl d2 (fun K hK => ?_)
                        have HKK := Lib.hid hK; clear hK
                        simp only [putAll, Act.put, List.setIfInBounds_toArray, List.set_cons_zero, List.set_cons_succ]
                        go_simp
                        refine (HRL.out w' _ _ (HB10.out w' hB.out.1).2.2.2.1 (HB10.out w' hB.out.1).2.2.2.2.1).mono ?_
                        rintro e w2 ⟨v2, rfl, ho2, hb2⟩
                        exact HKK.out _ _ ⟨_, by simp only [putAll, Act.put, List.setIfInBounds_toArray, List.set_cons_zero, List.set_cons_succ, d4, d5, d7, d9, d12, d14, d2] <;> rfl, h0, h1, h2, h3, h4, h5, h6, h7, h8, h9, h10, h11, h12, h13, h14, h16, h17, h18, h19, h20, h21, fun _ => Lib.hid (⟨_, rfl, ho2.row⟩), Lib.hid ⟨(hB).out.1.trans (hb2.mono (hB).out.2), Nat.le_trans (hB).out.2 hb2.size⟩⟩
                      · obtain rfl := Option.some.inj hi
                        clear hi hil
                        have d3 := h3 (hall ⟨3, .data⟩ (by simp) rfl)
                        have o15 := y15 (hall ⟨15, .data⟩ (by simp) rfl)
                        have d2 := h2 (hall ⟨2, .guard⟩ (by simp) rfl)
                        obtain ⟨v1, e15, hr15⟩ := o15.out
                        refine StepOk.on 2 true rfl rfl d2 (fun K hK => ?_)
                        have HKK := Lib.hid hK; clear hK
                        simp only [putAll, Act.put, List.setIfInBounds_toArray, List.set_cons_zero, List.set_cons_succ]
                        go_simp
                        refine (HIF.out w' _ _ (HB10.out w' hB.out.1).2.2.2.2.2.1 hr15).mono ?_
                        rintro e w2 ⟨rfl, hb2⟩
                        exact HKK.out _ _ ⟨_, by simp only [putAll, Act.put, List.setIfInBounds_toArray, List.set_cons_zero, List.set_cons_succ, d3, d2, e15] <;> rfl, h0, h1, h2, h3, h4, h5, h6, h7, h8, h9, h10, h11, h12, h13, h14, fun _ => rfl, h17, h18, h19, h20, h21, fun h => Lib.hid (let ⟨v1, h1, h2⟩ := (y15 h).out; ⟨v1, h1, h2.on hb2⟩), Lib.hid ⟨(hB).out.1.trans (hb2.mono (hB).out.2), Nat.le_trans (hB).out.2 hb2.size⟩⟩
                      · obtain rfl := Option.some.inj hi
                        clear hi hil
                        have d2 := h2 (hall ⟨2, .data⟩ (by simp) rfl)
                        have d16 := h16 (hall ⟨16, .data⟩ (by simp) rfl)
                        refine StepOk.plain rfl (fun K hK => ?_)
                        have HKK := Lib.hid hK; clear hK
                        simp only [putAll, Act.put, List.setIfInBounds_toArray, List.set_cons_zero, List.set_cons_succ]
                        go_simp
                        exact HKK.out _ _ ⟨_, by simp only [putAll, Act.put, List.setIfInBounds_toArray, List.set_cons_zero, List.set_cons_succ, d2, d16] <;> rfl, h0, h1, h2, h3, h4, h5, h6, h7, h8, h9, h10, h11, h12, h13, h14, h16, fun _ => rfl, h18, h19, h20, h21, y15, hB⟩
                      · obtain rfl := Option.some.inj hi
                        clear hi hil
                        have d17 := h17 (hall ⟨17, .data⟩ (by simp) rfl)
                        refine StepOk.plain rfl (fun K hK => ?_)
                        have HKK := Lib.hid hK; clear hK
                        simp only [putAll, Act.put, List.setIfInBounds_toArray, List.set_cons_zero, List.set_cons_succ]
                        go_simp
                        exact HKK.out _ _ ⟨_, by simp only [putAll, Act.put, List.setIfInBounds_toArray, List.set_cons_zero, List.set_cons_succ, d17] <;> rfl, h0, h1, h2, h3, h4, h5, h6, h7, h8, h9, h10, h11, h12, h13, h14, h16, h17, fun _ => rfl, h19, h20, h21, y15, hB⟩
                      · obtain rfl := Option.some.inj hi
                        clear hi hil
                        have d18 := h18 (hall ⟨18, .guard⟩ (by simp) rfl)
                        refine StepOk.on 18 true rfl rfl d18 (fun K hK => ?_)
                        have HKK := Lib.hid hK; clear hK
                        simp only [putAll, Act.put, List.setIfInBounds_toArray, List.set_cons_zero, List.set_cons_succ]
                        go_simp
                        refine (HAW.out _).mono ?_
                        rintro e w2 ⟨rfl, hb2⟩
                        exact HKK.out _ _ ⟨_, by simp only [putAll, Act.put, List.setIfInBounds_toArray, List.set_cons_zero, List.set_cons_succ, d18] <;> rfl, h0, h1, h2, h3, h4, h5, h6, h7, h8, h9, h10, h11, h12, h13, h14, h16, h17, h18, fun _ => rfl, h20, h21, fun h => Lib.hid (let ⟨v1, h1, h2⟩ := (y15 h).out; ⟨v1, h1, h2.on hb2⟩), Lib.hid ⟨(hB).out.1.trans (hb2.mono (hB).out.2), Nat.le_trans (hB).out.2 hb2.size⟩⟩
                      · obtain rfl := Option.some.inj hi
                        clear hi hil
                        have d18 := h18 (hall ⟨18, .data⟩ (by simp) rfl)
                        have d19 := h19 (hall ⟨19, .data⟩ (by simp) rfl)
                        refine StepOk.plain rfl (fun K hK => ?_)
                        have HKK := Lib.hid hK; clear hK
                        simp only [putAll, Act.put, List.setIfInBounds_toArray, List.set_cons_zero, List.set_cons_succ]
                        go_simp
                        exact HKK.out _ _ ⟨_, by simp only [putAll, Act.put, List.setIfInBounds_toArray, List.set_cons_zero, List.set_cons_succ, d18, d19] <;> rfl, h0, h1, h2, h3, h4, h5, h6, h7, h8, h9, h10, h11, h12, h13, h14, h16, h17, h18, h19, fun _ => rfl, h21, y15, hB⟩
                      · obtain rfl := Option.some.inj hi
                        clear hi hil
                        have d20 := h20 (hall ⟨20, .data⟩ (by simp) rfl)
                        refine StepOk.plain rfl (fun K hK => ?_)
                        have HKK := Lib.hid hK; clear hK
                        simp only [putAll, Act.put, List.setIfInBounds_toArray, List.set_cons_zero, List.set_cons_succ]
                        go_simp
                        exact HKK.out _ _ ⟨_, by simp only [putAll, Act.put, List.setIfInBounds_toArray, List.set_cons_zero, List.set_cons_succ, d20] <;> rfl, h0, h1, h2, h3, h4, h5, h6, h7, h8, h9, h10, h11, h12, h13, h14, h16, h17, h18, h19, h20, fun _ => rfl, y15, hB⟩
                      · omega
                    · rintro b' vs w2 hall ⟨h0, h1, h2, h3, h4, h5, h6, h7, h8, h9, h10, h11, h12, h13, h14, h16, h17, h18, h19, h20, h21, y15, hB⟩
                      have d0 := h0 (hall 0 (by simp))
                      have d1 := h1 (hall 1 (by simp))
                      have d2 := h2 (hall 2 (by simp))
                      have d3 := h3 (hall 3 (by simp))
                      have d4 := h4 (hall 4 (by simp))
                      have d5 := h5 (hall 5 (by simp))
                      have d6 := h6 (hall 6 (by simp))
                      have d7 := h7 (hall 7 (by simp))
                      have d8 := h8 (hall 8 (by simp))
                      have d9 := h9 (hall 9 (by simp))
                      have d10 := h10 (hall 10 (by simp))
                      have d11 := h11 (hall 11 (by simp))
                      have d12 := h12 (hall 12 (by simp))
                      have d13 := h13 (hall 13 (by simp))
                      have d14 := h14 (hall 14 (by simp))
                      have d16 := h16 (hall 16 (by simp))
                      have d17 := h17 (hall 17 (by simp))
                      have d18 := h18 (hall 18 (by simp))
                      have d19 := h19 (hall 19 (by simp))
                      have d20 := h20 (hall 20 (by simp))
                      have d21 := h21 (hall 21 (by simp))
                      have o15 := y15 (hall 15 (by simp))
                      have BB := hB
                      simp only [putAll, Act.put, List.setIfInBounds_toArray, List.set_cons_zero, List.set_cons_succ, d0, d1, d2, d3, d4, d5, d6, d7, d8, d9, d10, d11, d12, d13, d14, d16, d17, d18, d19, d20, d21]
                      clear hall h0 d0 h1 d1 h2 d2 h3 d3 h4 d4 h5 d5 h6 d6 h7 d7 h8 d8 h9 d9 h10 d10 h11 d11 h12 d12 h13 d13 h14 d14 h16 d16 h17 d17 h18 d18 h19 d19 h20 d20 h21 d21 y15 hB
                      have BWZ : Hid (Below w.heap.size w w2) := BW10.out.trans (BB.out.1.mono BW10.out.size)
                      clear BB
                      go_wp2_with fail
                      go_ret
                      exact ⟨rfl, BWZ.out⟩
theorem imageLays_law (AW : AwakeOk) (LY : LayOk) (W H oW oH x y b m : Int) (s so : Value) (l ol : List Col) (w : World) (row : RowK .u8 w s l) (rov : RowK .u8 w so ol) (hcs : Hid (CapS so)) (hok : ∀ c ∈ l, OkC c) (hoko : ∀ c ∈ ol, OkC c) (hb : byteI b) : Calls Try.prog 4 #[.agg #[.int .i64 W, .int .i64 H, s, .int .i64 oW, .int .i64 oH, so, .int .i64 x, .int .i64 y, .int .u8 b, .int .i64 m]] w fun e w' => e = .returned (.bool true) ∧ Below w.heap.size w w' := by
  by_cases h1 : 400 < l.length
  · exact imageLays_b1 AW W H oW oH x y b m s so l ol w row rov h1
  by_cases h2 : 400 < ol.length
  · exact imageLays_b2 AW W H oW oH x y b m s so l ol w row rov (by omega) h2
  exact imageLays_small AW LY W H oW oH x y b m s so l ol w row rov hcs hok hoko hb (by omega) (by omega)
end Go.Proofs.Ytoppmlfibllhlaa

