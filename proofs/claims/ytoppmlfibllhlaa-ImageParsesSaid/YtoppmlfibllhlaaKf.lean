/- Layer 11: the law ImageDiffs, its refused cases. -/
import Derived.Test.YtoppmlfibllhlaaKd
import Derived.Test.YtoppmlfibllhlaaBox
import Derived.BigQuiet
namespace Go.Proofs.Ytoppmlfibllhlaa
open Go.RowKit
def ptAt (W : Int) (k : Nat) : Pt := ((k : Int) % W, (k : Int) / W)
/-- The pixels among the first k at which two images differ. -/
def diffP (W : Int) (l ol : List Col) : Nat → List Pt
  | 0 => []
  | k + 1 => diffP W l ol k ++ (if eqC (cAt l k) (cAt ol k) then [] else [ptAt W k])
theorem diffP_len (W : Int) (l ol : List Col) : ∀ k, (diffP W l ol k).length ≤ k
  | 0 => Nat.le_refl _
  | k + 1 => by
    unfold diffP
    have := diffP_len W l ol k
    rw [List.length_append]
    split
    · simp; omega
    · simp; omega
theorem diffP_room {W : Int} (hW : 1 ≤ W ∧ W ≤ 256) (l ol : List Col) : ∀ k, k ≤ 1000 → (diffP W l ol k).all roomP = true
  | 0, _ => rfl
  | k + 1, hk => by
    unfold diffP
    rw [List.all_append, diffP_room hW l ol k (by omega), Bool.true_and]
    obtain ⟨_, _, h1, h2, h3, h4⟩ := rem_quo (k := k) hW.1
    split
    · rfl
    · simp only [List.all_cons, List.all_nil, Bool.and_true]
      exact roomP_iff.2 ⟨⟨by simp only [ptAt]; omega, by simp only [ptAt]; omega⟩, by simp only [ptAt]; omega, by simp only [ptAt]; omega⟩
theorem diffP_nil {W : Int} {l ol : List Col} : ∀ {n : Nat}, (diffP W l ol n).length = 0 ↔ ∀ k, k < n → eqC (cAt l k) (cAt ol k) = true
  | 0 => ⟨fun _ k hk => absurd hk (Nat.not_lt_zero k), fun _ => rfl⟩
  | n + 1 => by
    unfold diffP
    rw [List.length_append, Nat.add_eq_zero_iff, diffP_nil (n := n)]
    constructor
    · rintro ⟨h1, h2⟩ k hk
      rcases Nat.lt_or_ge k n with h | h
      · exact h1 k h
      · rw [show k = n by omega]
        cases he : eqC (cAt l n) (cAt ol n) with
        | true => rfl
        | false => rw [he] at h2; simp at h2
    · intro h
      exact ⟨fun k hk => h k (by omega), by rw [h n (by omega)]; rfl⟩
theorem map_q4 {l ol : List Col} (hl : l.length = ol.length) : l.map q4 = ol.map q4 ↔ ∀ k, k < l.length → eqC (cAt l k) (cAt ol k) = true := by
  constructor
  · intro h k hk
    have h1 : (l.map q4)[k]? = (ol.map q4)[k]? := by rw [h]
    rw [List.getElem?_map, List.getElem?_map, cAt_some hk, cAt_some (by omega)] at h1
    exact q4_iff.1 (by simpa using h1)
  · intro h
    refine List.ext_getElem? fun k => ?_
    rw [List.getElem?_map, List.getElem?_map]
    by_cases hk : k < l.length
    · rw [cAt_some hk, cAt_some (show k < ol.length by omega)]
      simp only [Option.map_some]
      rw [q4_iff.2 (h k hk)]
    · rw [List.getElem?_eq_none (by omega), List.getElem?_eq_none (by omega)]
theorem same_diff {W H : Int} {l ol : List Col} (hl : l.length = ol.length) : sameIm W H l W H ol = decide ((diffP W l ol l.length).length = 0) := by
  unfold sameIm
  rw [Bool.eq_iff_iff]
  simp only [decide_true, Bool.true_and, decide_eq_true_eq]
  rw [diffP_nil, map_q4 hl]
/-- How many of the first k pixels have a colour. -/
def cntTo (l : List Col) (c : Col) : Nat → Nat
  | 0 => 0
  | k + 1 => cntTo l c k + (if eqC (cAt l k) c then 1 else 0)
theorem cntTo_succ (l : List Col) (c : Col) (k : Nat) : cntTo l c (k + 1) = cntTo l c k + (if eqC (cAt l k) c then 1 else 0) := rfl
theorem cntTo_le (l : List Col) (c : Col) : ∀ k, cntTo l c k ≤ k
  | 0 => Nat.le_refl _
  | k + 1 => by
    unfold cntTo
    have := cntTo_le l c k
    split <;> omega
theorem cnt_take (l : List Col) (c : Col) : ∀ k, k ≤ l.length → ((l.take k).filter fun d => eqC d c).length = cntTo l c k
  | 0, _ => rfl
  | k + 1, hk => by
    rw [take_succ_at (cAt_some (show k < l.length by omega)), List.filter_append, List.length_append, cnt_take l c k (by omega), cntTo_succ]
    cases h : eqC (cAt l k) c <;> simp [h]
theorem count_is (l : List Col) (c : Col) : countC l c = cntTo l c l.length := by
  rw [← cnt_take l c l.length (Nat.le_refl _), List.take_length]; rfl
def zB : Bx := ⟨0, 0, 0, 0⟩
def sizeB (W H oW oH : Int) (l ol : List Col) : Bool := rightIm W H l && rightIm oW oH ol && decide (W = oW) && decide (H = oH)
def DiffOk : Prop := ∀ (W H oW oH : Int) (s so : Value) (l ol : List Col) (w : World), RowK .u8 w s l → RowK .u8 w so ol → (∀ c ∈ l, OkC c) → (∀ c ∈ ol, OkC c) → l.length ≤ 400 → ol.length ≤ 400 → Calls Try.prog 29 #[.agg #[.int .i64 W, .int .i64 H, s], .agg #[.int .i64 oW, .int .i64 oH, so]] w fun e w' =>
  (sizeB W H oW oH l ol = true → e = .returned (.tuple #[.agg (fourB (boundI (diffP W l ol l.length))), .int .i64 0])) ∧ (sizeB W H oW oH l ol = false → e = .returned (.tuple #[.agg (fourB zB), .int .i64 30])) ∧ Below w.heap.size w w'
def DifM (w : World) (W H oW oH : Int) (s so : Value) (A : World) : Prop := Below w.heap.size w A ∧ Blk A w.heap.size 24 #[.int .i64 W, .int .i64 H, s] ∧ Blk A (w.heap.size + 1) 24 #[.int .i64 oW, .int .i64 oH, so]
theorem DifM.grow {w A B : World} {W H oW oH : Int} {s so : Value} (h : DifM w W H oW oH s so A) (hb : Below A.heap.size A B) : DifM w W H oW oH s so B := ⟨h.1.trans (hb.mono h.1.size), h.2.1.grow hb, h.2.2.grow hb⟩
theorem DifM.start (w : World) (W H oW oH : Int) (s so : Value) : DifM w W H oW oH s so ((w.alloc (.cells #[.int .i64 W, .int .i64 H, s] 24)).alloc (.cells #[.int .i64 oW, .int .i64 oH, so] 24)) :=
  ⟨((Below.refl _ _).alloc (Nat.le_refl _) _).alloc (by simp) _, (Blk.new _ _ _).alloc _, Blk.newAt _ _ _ (by simp)⟩
theorem Row.shapeP {w : World} {v : Value} {l : List Pt} (h : Row w v l) : ∃ a c, v = .slice a l.length c := by
  rcases h with ⟨rfl, rfl⟩ | ⟨a, c, rfl, rfl⟩ | ⟨b, o, c, rfl, _⟩ <;> exact ⟨_, _, rfl⟩
set_option maxHeartbeats 8000000 in
set_option maxRecDepth 100000 in
theorem imageDiffs_b1 (AW : AwakeOk) (W H oW oH : Int) (s so : Value) (l ol : List Col) (w : World) (row : RowK .u8 w s l) (rov : RowK .u8 w so ol) (h : 400 < l.length) : Calls Try.prog 8 #[.agg #[.int .i64 W, .int .i64 H, s], .agg #[.int .i64 oW, .int .i64 oH, so]] w fun e w' => e = .returned (.bool true) ∧ Below w.heap.size w w' := by
  have HAW := Lib.hid AW
  obtain ⟨ao, cp, rfl⟩ := row.shape
  obtain ⟨bo, bc, rfl⟩ := rov.shape
  obtain ⟨n, hn⟩ : ∃ n, l.length = n := ⟨_, rfl⟩
  obtain ⟨on, hon⟩ : ∃ n, ol.length = n := ⟨_, rfl⟩
  rw [hn] at h ⊢
  rw [hon]
  have HSM := Lib.hid (small_c W H ao n cp)
  rw [decide_eq_false (by omega)] at HSM
  clear row rov hn hon h
  go_enter Try.func8, Try.ntmps8
  go_wp2_with fail
  refine (HSM.out _).mono ?_
  rintro e w1 ⟨rfl, hb⟩
  have M1 : Hid (DifM w W H oW oH (.slice ao n cp) (.slice bo on bc) w1) := (DifM.start w W H oW oH (.slice ao n cp) (.slice bo on bc)).grow hb
  clear hb
  go_wp2_with fail
  refine (HAW.out _).mono ?_
  rintro e wa ⟨rfl, hb⟩
  have BA : Hid (Below w.heap.size w wa) := M1.out.1.trans (hb.mono M1.out.1.size)
  clear hb
  go_wp2_with fail
  go_ret
  exact ⟨rfl, BA.out⟩
set_option maxHeartbeats 8000000 in
set_option maxRecDepth 100000 in
theorem imageDiffs_b2 (AW : AwakeOk) (W H oW oH : Int) (s so : Value) (l ol : List Col) (w : World) (row : RowK .u8 w s l) (rov : RowK .u8 w so ol) (h1 : l.length ≤ 400) (h : 400 < ol.length) : Calls Try.prog 8 #[.agg #[.int .i64 W, .int .i64 H, s], .agg #[.int .i64 oW, .int .i64 oH, so]] w fun e w' => e = .returned (.bool true) ∧ Below w.heap.size w w' := by
  have HAW := Lib.hid AW
  obtain ⟨ao, cp, rfl⟩ := row.shape
  obtain ⟨bo, bc, rfl⟩ := rov.shape
  obtain ⟨n, hn⟩ : ∃ n, l.length = n := ⟨_, rfl⟩
  obtain ⟨on, hon⟩ : ∃ n, ol.length = n := ⟨_, rfl⟩
  rw [hn] at h1 ⊢
  rw [hon] at h ⊢
  have HSM := Lib.hid (small_c W H ao n cp)
  have HSO := Lib.hid (small_c oW oH bo on bc)
  rw [decide_eq_true (by omega)] at HSM
  rw [decide_eq_false (by omega)] at HSO
  clear row rov hn hon h h1
  go_enter Try.func8, Try.ntmps8
  go_wp2_with fail
  refine (HSM.out _).mono ?_
  rintro e w1 ⟨rfl, hb⟩
  have M1 : Hid (DifM w W H oW oH (.slice ao n cp) (.slice bo on bc) w1) := (DifM.start w W H oW oH (.slice ao n cp) (.slice bo on bc)).grow hb
  clear hb
  obtain ⟨o0, o1, o2⟩ := Blk.im3 (M1.out).2.2
  go_wp2_with fail
  refine (HSO.out _).mono ?_
  rintro e w2 ⟨rfl, hb⟩
  have M2 := Lib.hid (M1.out.grow hb)
  clear hb o0 o1 o2 M1
  go_wp2_with fail
  refine (HAW.out _).mono ?_
  rintro e wa ⟨rfl, hb⟩
  have BA : Hid (Below w.heap.size w wa) := M2.out.1.trans (hb.mono M2.out.1.size)
  clear hb
  go_wp2_with fail
  go_ret
  exact ⟨rfl, BA.out⟩
set_option maxHeartbeats 8000000 in
set_option maxRecDepth 100000 in
theorem imageDiffs_n1 (AW : AwakeOk) (DI : DiffOk) (W H oW oH : Int) (s so : Value) (l ol : List Col) (w : World) (row : RowK .u8 w s l) (rov : RowK .u8 w so ol) (hok : ∀ c ∈ l, OkC c) (hoko : ∀ c ∈ ol, OkC c) (h1 : l.length ≤ 400) (h2 : ol.length ≤ 400) (hr : rightIm W H l = false) : Calls Try.prog 8 #[.agg #[.int .i64 W, .int .i64 H, s], .agg #[.int .i64 oW, .int .i64 oH, so]] w fun e w' => e = .returned (.bool true) ∧ Below w.heap.size w w' := by
  have HAW := Lib.hid AW
  have HDI : Hid (∀ A, Below w.heap.size w A → Calls Try.prog 29 #[.agg #[.int .i64 W, .int .i64 H, s], .agg #[.int .i64 oW, .int .i64 oH, so]] A fun e w' => e = .returned (.tuple #[.agg (fourB zB), .int .i64 30]) ∧ Below A.heap.size A w') := fun A hA => (DI W H oW oH s so l ol A (row.on hA) (rov.on hA) hok hoko h1 h2).mono fun e w' h' => ⟨h'.2.1 (by unfold sizeB; rw [hr]; rfl), h'.2.2⟩
  have HRF : Hid (∀ A, Below w.heap.size w A → Calls Try.prog 11 #[.agg #[.int .i64 W, .int .i64 H, s]] A fun e w' => ∃ u, e = .returned (.agg #[.int .i64 W, .int .i64 H, u]) ∧ OwnK .i64 w' A.heap.size 43 u l ∧ Below A.heap.size A w') := fun A hA => lawRef_c W H _ l A (row.on hA) hok (by omega)
  have HRO : Hid (∀ A, Below w.heap.size w A → Calls Try.prog 11 #[.agg #[.int .i64 oW, .int .i64 oH, so]] A fun e w' => ∃ u, e = .returned (.agg #[.int .i64 oW, .int .i64 oH, u]) ∧ OwnK .i64 w' A.heap.size 43 u ol ∧ Below A.heap.size A w') := fun A hA => lawRef_c oW oH _ ol A (rov.on hA) hoko (by omega)
  have HRT : Hid (∀ A u, RowK .i64 A u l → Calls Try.prog 13 #[.agg #[.int .i64 W, .int .i64 H, u]] A fun e w' => e = .returned (.bool (rightIm W H l)) ∧ Below A.heap.size A w') := fun A u hu => ref11Right_c W H u l A hu
  have HRU : Hid (∀ A u, RowK .i64 A u ol → Calls Try.prog 13 #[.agg #[.int .i64 oW, .int .i64 oH, u]] A fun e w' => e = .returned (.bool (rightIm oW oH ol)) ∧ Below A.heap.size A w') := fun A u hu => ref11Right_c oW oH u ol A hu
  rw [hr] at HRT
  obtain ⟨ao, cp, rfl⟩ := row.shape
  obtain ⟨bo, bc, rfl⟩ := rov.shape
  obtain ⟨n, hn⟩ : ∃ n, l.length = n := ⟨_, rfl⟩
  obtain ⟨on, hon⟩ : ∃ n, ol.length = n := ⟨_, rfl⟩
  have HSM := Lib.hid (small_c W H ao n cp)
  have HSO := Lib.hid (small_c oW oH bo on bc)
  rw [decide_eq_true (by omega)] at HSM
  rw [decide_eq_true (by omega)] at HSO
  have HN := Lib.hid hn
  have HON := Lib.hid hon
  rw [hn] at HDI HRF ⊢
  rw [hon] at HDI HRO ⊢
  clear row rov hok hoko h1 h2 hn hon hr
  go_enter Try.func8, Try.ntmps8
  go_wp2_with fail
  refine (HSM.out _).mono ?_
  rintro e w1 ⟨rfl, hb⟩
  have M1 : Hid (DifM w W H oW oH (.slice ao n cp) (.slice bo on bc) w1) := (DifM.start w W H oW oH (.slice ao n cp) (.slice bo on bc)).grow hb
  clear hb
  obtain ⟨o0, o1, o2⟩ := Blk.im3 (M1.out).2.2
  go_wp2_with fail
  refine (HSO.out _).mono ?_
  rintro e w2 ⟨rfl, hb⟩
  have M2 := Lib.hid (M1.out.grow hb)
  clear hb o0 o1 o2 M1
  obtain ⟨m0, m1, m2⟩ := Blk.im3 (M2.out).2.1
  obtain ⟨o0, o1, o2⟩ := Blk.im3 (M2.out).2.2
  go_wp2_with fail
  refine (HDI.out _ M2.out.1).mono ?_
  rintro e w3 ⟨rfl, hb⟩
  have M3 := Lib.hid (M2.out.grow hb)
  clear hb m0 m1 m2 o0 o1 o2 M2
  go_upto_region 4 with fail
  obtain ⟨w4, hw⟩ : ∃ WW, w3.alloc (.cells (fourB zB) 26) = WW := ⟨_, rfl⟩
  have M4 : Hid (DifM w W H oW oH (.slice ao n cp) (.slice bo on bc) w4 ∧ Blk w4 w3.heap.size 26 (fourB zB) ∧ w.heap.size + 1 < w3.heap.size) := by
    rw [← hw]
    exact ⟨M3.out.grow ((Below.refl _ _).alloc (Nat.le_refl _) _), Blk.new _ _ _, M3.out.2.2.lt⟩
  rw [hw]
  clear hw M3
  generalize w3.heap.size = g5 at *
  obtain ⟨m0, m1, m2⟩ := Blk.im3 (M4.out.1).2.1
  go_wp2_with fail
  refine (HRF.out _ M4.out.1.1).mono ?_
  rintro e w5 ⟨u, rfl, hu, hb⟩
  have M5 : Hid (DifM w W H oW oH (.slice ao n cp) (.slice bo on bc) w5 ∧ Blk w5 g5 26 (fourB zB) ∧ w.heap.size + 1 < g5) := ⟨M4.out.1.grow hb, M4.out.2.1.grow hb, M4.out.2.2⟩
  have HU := Lib.hid hu.row
  clear hb hu m0 m1 m2 M4
  go_wp2_with fail
  refine (HRT.out _ _ HU.out).mono ?_
  rintro e w6 ⟨rfl, hb⟩
  have M6 : Hid (DifM w W H oW oH (.slice ao n cp) (.slice bo on bc) w6 ∧ Blk w6 g5 26 (fourB zB) ∧ w.heap.size + 1 < g5) := ⟨M5.out.1.grow hb, M5.out.2.1.grow hb, M5.out.2.2⟩
  clear hb HU M5
  have z0 := M6.out.2.1.cell 0
  have z1 := M6.out.2.1.cell 1
  have z2 := M6.out.2.1.cell 2
  have z3 := M6.out.2.1.cell 3
  simp only [List.getElem?_toArray, List.getElem?_cons_zero, List.getElem?_cons_succ, zB] at z0 z1 z2 z3
  go_wp2_with fail
  refine (HAW.out _).mono ?_
  rintro e wa ⟨rfl, hb⟩
  have BA : Hid (Below w.heap.size w wa) := M6.out.1.1.trans (hb.mono M6.out.1.1.size)
  clear hb
  go_wp2_with fail
  go_ret
  exact ⟨rfl, BA.out⟩
set_option maxHeartbeats 8000000 in
set_option maxRecDepth 100000 in
theorem imageDiffs_n2 (AW : AwakeOk) (DI : DiffOk) (W H oW oH : Int) (s so : Value) (l ol : List Col) (w : World) (row : RowK .u8 w s l) (rov : RowK .u8 w so ol) (hok : ∀ c ∈ l, OkC c) (hoko : ∀ c ∈ ol, OkC c) (h1 : l.length ≤ 400) (h2 : ol.length ≤ 400) (hr : rightIm W H l = true) (hq : rightIm oW oH ol = false) : Calls Try.prog 8 #[.agg #[.int .i64 W, .int .i64 H, s], .agg #[.int .i64 oW, .int .i64 oH, so]] w fun e w' => e = .returned (.bool true) ∧ Below w.heap.size w w' := by
  have HAW := Lib.hid AW
  have HDI : Hid (∀ A, Below w.heap.size w A → Calls Try.prog 29 #[.agg #[.int .i64 W, .int .i64 H, s], .agg #[.int .i64 oW, .int .i64 oH, so]] A fun e w' => e = .returned (.tuple #[.agg (fourB zB), .int .i64 30]) ∧ Below A.heap.size A w') := fun A hA => (DI W H oW oH s so l ol A (row.on hA) (rov.on hA) hok hoko h1 h2).mono fun e w' h' => ⟨h'.2.1 (by unfold sizeB; rw [hr, hq]; rfl), h'.2.2⟩
  have HRF : Hid (∀ A, Below w.heap.size w A → Calls Try.prog 11 #[.agg #[.int .i64 W, .int .i64 H, s]] A fun e w' => ∃ u, e = .returned (.agg #[.int .i64 W, .int .i64 H, u]) ∧ OwnK .i64 w' A.heap.size 43 u l ∧ Below A.heap.size A w') := fun A hA => lawRef_c W H _ l A (row.on hA) hok (by omega)
  have HRO : Hid (∀ A, Below w.heap.size w A → Calls Try.prog 11 #[.agg #[.int .i64 oW, .int .i64 oH, so]] A fun e w' => ∃ u, e = .returned (.agg #[.int .i64 oW, .int .i64 oH, u]) ∧ OwnK .i64 w' A.heap.size 43 u ol ∧ Below A.heap.size A w') := fun A hA => lawRef_c oW oH _ ol A (rov.on hA) hoko (by omega)
  have HRT : Hid (∀ A u, RowK .i64 A u l → Calls Try.prog 13 #[.agg #[.int .i64 W, .int .i64 H, u]] A fun e w' => e = .returned (.bool (rightIm W H l)) ∧ Below A.heap.size A w') := fun A u hu => ref11Right_c W H u l A hu
  have HRU : Hid (∀ A u, RowK .i64 A u ol → Calls Try.prog 13 #[.agg #[.int .i64 oW, .int .i64 oH, u]] A fun e w' => e = .returned (.bool (rightIm oW oH ol)) ∧ Below A.heap.size A w') := fun A u hu => ref11Right_c oW oH u ol A hu
  rw [hr] at HRT
  rw [hq] at HRU
  obtain ⟨ao, cp, rfl⟩ := row.shape
  obtain ⟨bo, bc, rfl⟩ := rov.shape
  obtain ⟨n, hn⟩ : ∃ n, l.length = n := ⟨_, rfl⟩
  obtain ⟨on, hon⟩ : ∃ n, ol.length = n := ⟨_, rfl⟩
  have HSM := Lib.hid (small_c W H ao n cp)
  have HSO := Lib.hid (small_c oW oH bo on bc)
  rw [decide_eq_true (by omega)] at HSM
  rw [decide_eq_true (by omega)] at HSO
  have HN := Lib.hid hn
  have HON := Lib.hid hon
  rw [hn] at HDI HRF ⊢
  rw [hon] at HDI HRO ⊢
  clear row rov hok hoko h1 h2 hn hon hr hq
  go_enter Try.func8, Try.ntmps8
  go_wp2_with fail
  refine (HSM.out _).mono ?_
  rintro e w1 ⟨rfl, hb⟩
  have M1 : Hid (DifM w W H oW oH (.slice ao n cp) (.slice bo on bc) w1) := (DifM.start w W H oW oH (.slice ao n cp) (.slice bo on bc)).grow hb
  clear hb
  obtain ⟨o0, o1, o2⟩ := Blk.im3 (M1.out).2.2
  go_wp2_with fail
  refine (HSO.out _).mono ?_
  rintro e w2 ⟨rfl, hb⟩
  have M2 := Lib.hid (M1.out.grow hb)
  clear hb o0 o1 o2 M1
  obtain ⟨m0, m1, m2⟩ := Blk.im3 (M2.out).2.1
  obtain ⟨o0, o1, o2⟩ := Blk.im3 (M2.out).2.2
  go_wp2_with fail
  refine (HDI.out _ M2.out.1).mono ?_
  rintro e w3 ⟨rfl, hb⟩
  have M3 := Lib.hid (M2.out.grow hb)
  clear hb m0 m1 m2 o0 o1 o2 M2
  go_upto_region 4 with fail
  obtain ⟨w4, hw⟩ : ∃ WW, w3.alloc (.cells (fourB zB) 26) = WW := ⟨_, rfl⟩
  have M4 : Hid (DifM w W H oW oH (.slice ao n cp) (.slice bo on bc) w4 ∧ Blk w4 w3.heap.size 26 (fourB zB) ∧ w.heap.size + 1 < w3.heap.size) := by
    rw [← hw]
    exact ⟨M3.out.grow ((Below.refl _ _).alloc (Nat.le_refl _) _), Blk.new _ _ _, M3.out.2.2.lt⟩
  rw [hw]
  clear hw M3
  generalize w3.heap.size = g5 at *
  obtain ⟨m0, m1, m2⟩ := Blk.im3 (M4.out.1).2.1
  go_wp2_with fail
  refine (HRF.out _ M4.out.1.1).mono ?_
  rintro e w5 ⟨u, rfl, hu, hb⟩
  have M5 : Hid (DifM w W H oW oH (.slice ao n cp) (.slice bo on bc) w5 ∧ Blk w5 g5 26 (fourB zB) ∧ w.heap.size + 1 < g5) := ⟨M4.out.1.grow hb, M4.out.2.1.grow hb, M4.out.2.2⟩
  have HU := Lib.hid hu.row
  clear hb hu m0 m1 m2 M4
  go_wp2_with fail
  refine (HRT.out _ _ HU.out).mono ?_
  rintro e w6 ⟨rfl, hb⟩
  have M6 : Hid (DifM w W H oW oH (.slice ao n cp) (.slice bo on bc) w6 ∧ Blk w6 g5 26 (fourB zB) ∧ w.heap.size + 1 < g5) := ⟨M5.out.1.grow hb, M5.out.2.1.grow hb, M5.out.2.2⟩
  clear hb HU M5
  obtain ⟨o0, o1, o2⟩ := Blk.im3 (M6.out.1).2.2
  go_wp2_with fail
  refine (HRO.out _ M6.out.1.1).mono ?_
  rintro e w7 ⟨u, rfl, hu, hb⟩
  have M7 : Hid (DifM w W H oW oH (.slice ao n cp) (.slice bo on bc) w7 ∧ Blk w7 g5 26 (fourB zB) ∧ w.heap.size + 1 < g5) := ⟨M6.out.1.grow hb, M6.out.2.1.grow hb, M6.out.2.2⟩
  have HU := Lib.hid hu.row
  clear hb hu o0 o1 o2 M6
  go_wp2_with fail
  refine (HRU.out _ _ HU.out).mono ?_
  rintro e w8 ⟨rfl, hb⟩
  have M8 : Hid (DifM w W H oW oH (.slice ao n cp) (.slice bo on bc) w8 ∧ Blk w8 g5 26 (fourB zB) ∧ w.heap.size + 1 < g5) := ⟨M7.out.1.grow hb, M7.out.2.1.grow hb, M7.out.2.2⟩
  clear hb HU M7
  have z0 := M8.out.2.1.cell 0
  have z1 := M8.out.2.1.cell 1
  have z2 := M8.out.2.1.cell 2
  have z3 := M8.out.2.1.cell 3
  simp only [List.getElem?_toArray, List.getElem?_cons_zero, List.getElem?_cons_succ, zB] at z0 z1 z2 z3
  go_wp2_with fail
  refine (HAW.out _).mono ?_
  rintro e wa ⟨rfl, hb⟩
  have BA : Hid (Below w.heap.size w wa) := M8.out.1.1.trans (hb.mono M8.out.1.1.size)
  clear hb
  go_wp2_with fail
  go_ret
  exact ⟨rfl, BA.out⟩
set_option maxHeartbeats 8000000 in
set_option maxRecDepth 100000 in
theorem imageDiffs_n3 (AW : AwakeOk) (DI : DiffOk) (W H oW oH : Int) (s so : Value) (l ol : List Col) (w : World) (row : RowK .u8 w s l) (rov : RowK .u8 w so ol) (hok : ∀ c ∈ l, OkC c) (hoko : ∀ c ∈ ol, OkC c) (h1 : l.length ≤ 400) (h2 : ol.length ≤ 400) (hr : rightIm W H l = true) (hq : rightIm oW oH ol = true) (hne : ¬ W = oW) : Calls Try.prog 8 #[.agg #[.int .i64 W, .int .i64 H, s], .agg #[.int .i64 oW, .int .i64 oH, so]] w fun e w' => e = .returned (.bool true) ∧ Below w.heap.size w w' := by
  have HAW := Lib.hid AW
  have HDI : Hid (∀ A, Below w.heap.size w A → Calls Try.prog 29 #[.agg #[.int .i64 W, .int .i64 H, s], .agg #[.int .i64 oW, .int .i64 oH, so]] A fun e w' => e = .returned (.tuple #[.agg (fourB zB), .int .i64 30]) ∧ Below A.heap.size A w') := fun A hA => (DI W H oW oH s so l ol A (row.on hA) (rov.on hA) hok hoko h1 h2).mono fun e w' h' => ⟨h'.2.1 (by unfold sizeB; rw [hr, hq, decide_eq_false hne]; rfl), h'.2.2⟩
  have HRF : Hid (∀ A, Below w.heap.size w A → Calls Try.prog 11 #[.agg #[.int .i64 W, .int .i64 H, s]] A fun e w' => ∃ u, e = .returned (.agg #[.int .i64 W, .int .i64 H, u]) ∧ OwnK .i64 w' A.heap.size 43 u l ∧ Below A.heap.size A w') := fun A hA => lawRef_c W H _ l A (row.on hA) hok (by omega)
  have HRO : Hid (∀ A, Below w.heap.size w A → Calls Try.prog 11 #[.agg #[.int .i64 oW, .int .i64 oH, so]] A fun e w' => ∃ u, e = .returned (.agg #[.int .i64 oW, .int .i64 oH, u]) ∧ OwnK .i64 w' A.heap.size 43 u ol ∧ Below A.heap.size A w') := fun A hA => lawRef_c oW oH _ ol A (rov.on hA) hoko (by omega)
  have HRT : Hid (∀ A u, RowK .i64 A u l → Calls Try.prog 13 #[.agg #[.int .i64 W, .int .i64 H, u]] A fun e w' => e = .returned (.bool (rightIm W H l)) ∧ Below A.heap.size A w') := fun A u hu => ref11Right_c W H u l A hu
  have HRU : Hid (∀ A u, RowK .i64 A u ol → Calls Try.prog 13 #[.agg #[.int .i64 oW, .int .i64 oH, u]] A fun e w' => e = .returned (.bool (rightIm oW oH ol)) ∧ Below A.heap.size A w') := fun A u hu => ref11Right_c oW oH u ol A hu
  rw [hr] at HRT
  rw [hq] at HRU
  have hb1 : (W == oW) = false := by simpa using hne
  obtain ⟨ao, cp, rfl⟩ := row.shape
  obtain ⟨bo, bc, rfl⟩ := rov.shape
  obtain ⟨n, hn⟩ : ∃ n, l.length = n := ⟨_, rfl⟩
  obtain ⟨on, hon⟩ : ∃ n, ol.length = n := ⟨_, rfl⟩
  have HSM := Lib.hid (small_c W H ao n cp)
  have HSO := Lib.hid (small_c oW oH bo on bc)
  rw [decide_eq_true (by omega)] at HSM
  rw [decide_eq_true (by omega)] at HSO
  have HN := Lib.hid hn
  have HON := Lib.hid hon
  rw [hn] at HDI HRF ⊢
  rw [hon] at HDI HRO ⊢
  clear row rov hok hoko h1 h2 hn hon hr hq
  go_enter Try.func8, Try.ntmps8
  go_wp2_with fail
  refine (HSM.out _).mono ?_
  rintro e w1 ⟨rfl, hb⟩
  have M1 : Hid (DifM w W H oW oH (.slice ao n cp) (.slice bo on bc) w1) := (DifM.start w W H oW oH (.slice ao n cp) (.slice bo on bc)).grow hb
  clear hb
  obtain ⟨o0, o1, o2⟩ := Blk.im3 (M1.out).2.2
  go_wp2_with fail
  refine (HSO.out _).mono ?_
  rintro e w2 ⟨rfl, hb⟩
  have M2 := Lib.hid (M1.out.grow hb)
  clear hb o0 o1 o2 M1
  obtain ⟨m0, m1, m2⟩ := Blk.im3 (M2.out).2.1
  obtain ⟨o0, o1, o2⟩ := Blk.im3 (M2.out).2.2
  go_wp2_with fail
  refine (HDI.out _ M2.out.1).mono ?_
  rintro e w3 ⟨rfl, hb⟩
  have M3 := Lib.hid (M2.out.grow hb)
  clear hb m0 m1 m2 o0 o1 o2 M2
  go_upto_region 4 with fail
  obtain ⟨w4, hw⟩ : ∃ WW, w3.alloc (.cells (fourB zB) 26) = WW := ⟨_, rfl⟩
  have M4 : Hid (DifM w W H oW oH (.slice ao n cp) (.slice bo on bc) w4 ∧ Blk w4 w3.heap.size 26 (fourB zB) ∧ w.heap.size + 1 < w3.heap.size) := by
    rw [← hw]
    exact ⟨M3.out.grow ((Below.refl _ _).alloc (Nat.le_refl _) _), Blk.new _ _ _, M3.out.2.2.lt⟩
  rw [hw]
  clear hw M3
  generalize w3.heap.size = g5 at *
  obtain ⟨m0, m1, m2⟩ := Blk.im3 (M4.out.1).2.1
  go_wp2_with fail
  refine (HRF.out _ M4.out.1.1).mono ?_
  rintro e w5 ⟨u, rfl, hu, hb⟩
  have M5 : Hid (DifM w W H oW oH (.slice ao n cp) (.slice bo on bc) w5 ∧ Blk w5 g5 26 (fourB zB) ∧ w.heap.size + 1 < g5) := ⟨M4.out.1.grow hb, M4.out.2.1.grow hb, M4.out.2.2⟩
  have HU := Lib.hid hu.row
  clear hb hu m0 m1 m2 M4
  go_wp2_with fail
  refine (HRT.out _ _ HU.out).mono ?_
  rintro e w6 ⟨rfl, hb⟩
  have M6 : Hid (DifM w W H oW oH (.slice ao n cp) (.slice bo on bc) w6 ∧ Blk w6 g5 26 (fourB zB) ∧ w.heap.size + 1 < g5) := ⟨M5.out.1.grow hb, M5.out.2.1.grow hb, M5.out.2.2⟩
  clear hb HU M5
  obtain ⟨o0, o1, o2⟩ := Blk.im3 (M6.out.1).2.2
  go_wp2_with fail
  refine (HRO.out _ M6.out.1.1).mono ?_
  rintro e w7 ⟨u, rfl, hu, hb⟩
  have M7 : Hid (DifM w W H oW oH (.slice ao n cp) (.slice bo on bc) w7 ∧ Blk w7 g5 26 (fourB zB) ∧ w.heap.size + 1 < g5) := ⟨M6.out.1.grow hb, M6.out.2.1.grow hb, M6.out.2.2⟩
  have HU := Lib.hid hu.row
  clear hb hu o0 o1 o2 M6
  go_wp2_with fail
  refine (HRU.out _ _ HU.out).mono ?_
  rintro e w8 ⟨rfl, hb⟩
  have M8 : Hid (DifM w W H oW oH (.slice ao n cp) (.slice bo on bc) w8 ∧ Blk w8 g5 26 (fourB zB) ∧ w.heap.size + 1 < g5) := ⟨M7.out.1.grow hb, M7.out.2.1.grow hb, M7.out.2.2⟩
  clear hb HU M7
  obtain ⟨m0, m1, m2⟩ := Blk.im3 (M8.out.1).2.1
  obtain ⟨o0, o1, o2⟩ := Blk.im3 (M8.out.1).2.2
  have z0 := M8.out.2.1.cell 0
  have z1 := M8.out.2.1.cell 1
  have z2 := M8.out.2.1.cell 2
  have z3 := M8.out.2.1.cell 3
  simp only [List.getElem?_toArray, List.getElem?_cons_zero, List.getElem?_cons_succ, zB] at z0 z1 z2 z3
  go_wp2_with fail
  refine (HAW.out _).mono ?_
  rintro e wa ⟨rfl, hb⟩
  have BA : Hid (Below w.heap.size w wa) := M8.out.1.1.trans (hb.mono M8.out.1.1.size)
  clear hb
  go_wp2_with fail
  go_ret
  exact ⟨rfl, BA.out⟩
set_option maxHeartbeats 8000000 in
set_option maxRecDepth 100000 in
theorem imageDiffs_n4 (AW : AwakeOk) (DI : DiffOk) (W H oH : Int) (s so : Value) (l ol : List Col) (w : World) (row : RowK .u8 w s l) (rov : RowK .u8 w so ol) (hok : ∀ c ∈ l, OkC c) (hoko : ∀ c ∈ ol, OkC c) (h1 : l.length ≤ 400) (h2 : ol.length ≤ 400) (hr : rightIm W H l = true) (hq : rightIm W oH ol = true) (hne : ¬ H = oH) : Calls Try.prog 8 #[.agg #[.int .i64 W, .int .i64 H, s], .agg #[.int .i64 W, .int .i64 oH, so]] w fun e w' => e = .returned (.bool true) ∧ Below w.heap.size w w' := by
  have HAW := Lib.hid AW
  have HDI : Hid (∀ A, Below w.heap.size w A → Calls Try.prog 29 #[.agg #[.int .i64 W, .int .i64 H, s], .agg #[.int .i64 W, .int .i64 oH, so]] A fun e w' => e = .returned (.tuple #[.agg (fourB zB), .int .i64 30]) ∧ Below A.heap.size A w') := fun A hA => (DI W H W oH s so l ol A (row.on hA) (rov.on hA) hok hoko h1 h2).mono fun e w' h' => ⟨h'.2.1 (by unfold sizeB; rw [hr, hq, decide_eq_false hne, Bool.and_false]), h'.2.2⟩
  have HRF : Hid (∀ A, Below w.heap.size w A → Calls Try.prog 11 #[.agg #[.int .i64 W, .int .i64 H, s]] A fun e w' => ∃ u, e = .returned (.agg #[.int .i64 W, .int .i64 H, u]) ∧ OwnK .i64 w' A.heap.size 43 u l ∧ Below A.heap.size A w') := fun A hA => lawRef_c W H _ l A (row.on hA) hok (by omega)
  have HRO : Hid (∀ A, Below w.heap.size w A → Calls Try.prog 11 #[.agg #[.int .i64 W, .int .i64 oH, so]] A fun e w' => ∃ u, e = .returned (.agg #[.int .i64 W, .int .i64 oH, u]) ∧ OwnK .i64 w' A.heap.size 43 u ol ∧ Below A.heap.size A w') := fun A hA => lawRef_c W oH _ ol A (rov.on hA) hoko (by omega)
  have HRT : Hid (∀ A u, RowK .i64 A u l → Calls Try.prog 13 #[.agg #[.int .i64 W, .int .i64 H, u]] A fun e w' => e = .returned (.bool (rightIm W H l)) ∧ Below A.heap.size A w') := fun A u hu => ref11Right_c W H u l A hu
  have HRU : Hid (∀ A u, RowK .i64 A u ol → Calls Try.prog 13 #[.agg #[.int .i64 W, .int .i64 oH, u]] A fun e w' => e = .returned (.bool (rightIm W oH ol)) ∧ Below A.heap.size A w') := fun A u hu => ref11Right_c W oH u ol A hu
  rw [hr] at HRT
  rw [hq] at HRU
  have hb1 : (H == oH) = false := by simpa using hne
  obtain ⟨ao, cp, rfl⟩ := row.shape
  obtain ⟨bo, bc, rfl⟩ := rov.shape
  obtain ⟨n, hn⟩ : ∃ n, l.length = n := ⟨_, rfl⟩
  obtain ⟨on, hon⟩ : ∃ n, ol.length = n := ⟨_, rfl⟩
  have HSM := Lib.hid (small_c W H ao n cp)
  have HSO := Lib.hid (small_c W oH bo on bc)
  rw [decide_eq_true (by omega)] at HSM
  rw [decide_eq_true (by omega)] at HSO
  have HN := Lib.hid hn
  have HON := Lib.hid hon
  rw [hn] at HDI HRF ⊢
  rw [hon] at HDI HRO ⊢
  clear row rov hok hoko h1 h2 hn hon hr hq
  go_enter Try.func8, Try.ntmps8
  go_wp2_with fail
  refine (HSM.out _).mono ?_
  rintro e w1 ⟨rfl, hb⟩
  have M1 : Hid (DifM w W H W oH (.slice ao n cp) (.slice bo on bc) w1) := (DifM.start w W H W oH (.slice ao n cp) (.slice bo on bc)).grow hb
  clear hb
  obtain ⟨o0, o1, o2⟩ := Blk.im3 (M1.out).2.2
  go_wp2_with fail
  refine (HSO.out _).mono ?_
  rintro e w2 ⟨rfl, hb⟩
  have M2 := Lib.hid (M1.out.grow hb)
  clear hb o0 o1 o2 M1
  obtain ⟨m0, m1, m2⟩ := Blk.im3 (M2.out).2.1
  obtain ⟨o0, o1, o2⟩ := Blk.im3 (M2.out).2.2
  go_wp2_with fail
  refine (HDI.out _ M2.out.1).mono ?_
  rintro e w3 ⟨rfl, hb⟩
  have M3 := Lib.hid (M2.out.grow hb)
  clear hb m0 m1 m2 o0 o1 o2 M2
  go_upto_region 4 with fail
  obtain ⟨w4, hw⟩ : ∃ WW, w3.alloc (.cells (fourB zB) 26) = WW := ⟨_, rfl⟩
  have M4 : Hid (DifM w W H W oH (.slice ao n cp) (.slice bo on bc) w4 ∧ Blk w4 w3.heap.size 26 (fourB zB) ∧ w.heap.size + 1 < w3.heap.size) := by
    rw [← hw]
    exact ⟨M3.out.grow ((Below.refl _ _).alloc (Nat.le_refl _) _), Blk.new _ _ _, M3.out.2.2.lt⟩
  rw [hw]
  clear hw M3
  generalize w3.heap.size = g5 at *
  obtain ⟨m0, m1, m2⟩ := Blk.im3 (M4.out.1).2.1
  go_wp2_with fail
  refine (HRF.out _ M4.out.1.1).mono ?_
  rintro e w5 ⟨u, rfl, hu, hb⟩
  have M5 : Hid (DifM w W H W oH (.slice ao n cp) (.slice bo on bc) w5 ∧ Blk w5 g5 26 (fourB zB) ∧ w.heap.size + 1 < g5) := ⟨M4.out.1.grow hb, M4.out.2.1.grow hb, M4.out.2.2⟩
  have HU := Lib.hid hu.row
  clear hb hu m0 m1 m2 M4
  go_wp2_with fail
  refine (HRT.out _ _ HU.out).mono ?_
  rintro e w6 ⟨rfl, hb⟩
  have M6 : Hid (DifM w W H W oH (.slice ao n cp) (.slice bo on bc) w6 ∧ Blk w6 g5 26 (fourB zB) ∧ w.heap.size + 1 < g5) := ⟨M5.out.1.grow hb, M5.out.2.1.grow hb, M5.out.2.2⟩
  clear hb HU M5
  obtain ⟨o0, o1, o2⟩ := Blk.im3 (M6.out.1).2.2
  go_wp2_with fail
  refine (HRO.out _ M6.out.1.1).mono ?_
  rintro e w7 ⟨u, rfl, hu, hb⟩
  have M7 : Hid (DifM w W H W oH (.slice ao n cp) (.slice bo on bc) w7 ∧ Blk w7 g5 26 (fourB zB) ∧ w.heap.size + 1 < g5) := ⟨M6.out.1.grow hb, M6.out.2.1.grow hb, M6.out.2.2⟩
  have HU := Lib.hid hu.row
  clear hb hu o0 o1 o2 M6
  go_wp2_with fail
  refine (HRU.out _ _ HU.out).mono ?_
  rintro e w8 ⟨rfl, hb⟩
  have M8 : Hid (DifM w W H W oH (.slice ao n cp) (.slice bo on bc) w8 ∧ Blk w8 g5 26 (fourB zB) ∧ w.heap.size + 1 < g5) := ⟨M7.out.1.grow hb, M7.out.2.1.grow hb, M7.out.2.2⟩
  clear hb HU M7
  obtain ⟨m0, m1, m2⟩ := Blk.im3 (M8.out.1).2.1
  obtain ⟨o0, o1, o2⟩ := Blk.im3 (M8.out.1).2.2
  have z0 := M8.out.2.1.cell 0
  have z1 := M8.out.2.1.cell 1
  have z2 := M8.out.2.1.cell 2
  have z3 := M8.out.2.1.cell 3
  simp only [List.getElem?_toArray, List.getElem?_cons_zero, List.getElem?_cons_succ, zB] at z0 z1 z2 z3
  go_wp2_with fail
  refine (HAW.out _).mono ?_
  rintro e wa ⟨rfl, hb⟩
  have BA : Hid (Below w.heap.size w wa) := M8.out.1.1.trans (hb.mono M8.out.1.1.size)
  clear hb
  go_wp2_with fail
  go_ret
  exact ⟨rfl, BA.out⟩
end Go.Proofs.Ytoppmlfibllhlaa

