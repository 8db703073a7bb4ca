/- Layer 11: the law ImageFills. -/
import Derived.Test.YtoppmlfibllhlaaIe
import Derived.Test.YtoppmlfibllhlaaJd
import Derived.BigQuiet
namespace Go.Proofs.Ytoppmlfibllhlaa
open Go.RowKit
/-- What package image answers: an image with an error. -/
theorem fillL_ok {W x0 y0 x1 y1 : Int} {c : Col} {l : List Col} {n : Nat} (hc : OkC c) (hl : ∀ c ∈ l, OkC c) (hn : n ≤ l.length) : ∀ d ∈ fillL W x0 y0 x1 y1 c l n, OkC d := fun d hd => by
  obtain ⟨k, hk, rfl⟩ := List.mem_map.1 hd
  unfold fillPx
  split
  · exact hc
  · exact hl _ (List.mem_of_getElem? (cAt_some (by have := List.mem_range.1 hk; omega)))
set_option maxHeartbeats 2000000 in
set_option maxRecDepth 100000 in
theorem imageFills_big (AW : AwakeOk) (W H x0 y0 x1 y1 : Int) (s : Value) (l : List Col) (c : Col) (w : World) (row : RowK .u8 w s l) (h : 400 < l.length) : Calls Try.prog 3 #[.agg #[.int .i64 W, .int .i64 H, s], .agg #[.int .i64 x0, .int .i64 y0, .int .i64 x1, .int .i64 y1], .agg #[.int .u8 (c 0), .int .u8 (c 1), .int .u8 (c 2), .int .u8 (c 3)]] w fun e w' => e = .returned (.bool true) ∧ Below w.heap.size w w' := by
  have HAW := Lib.hid AW
  obtain ⟨ao, cp, rfl⟩ := row.shape
  obtain ⟨n, hn⟩ : ∃ n, l.length = n := ⟨_, rfl⟩
  rw [hn] at h ⊢
  have HSM := Lib.hid (small_c W H ao n cp)
  rw [decide_eq_false (by omega)] at HSM
  clear row hn h
  go_enter Try.func3, Try.ntmps3
  go_wp2_with fail
  obtain ⟨w1, hw1⟩ : ∃ WW, ((w.alloc (.cells #[.int .i64 W, .int .i64 H, .slice ao n cp] 24)).alloc (.cells #[.int .i64 x0, .int .i64 y0, .int .i64 x1, .int .i64 y1] 26)).alloc (.cells #[.int .u8 (c 0), .int .u8 (c 1), .int .u8 (c 2), .int .u8 (c 3)] 28) = WW := ⟨_, rfl⟩
  have BW1 : Hid (Below w.heap.size w w1) := by
    rw [← hw1]
    exact (((Below.refl _ _).alloc (Nat.le_refl _) _).alloc (by simp) _).alloc (by simp; omega) _
  have HB1 : Hid (∀ A, Below w1.heap.size w1 A → Blk A w.heap.size 24 (#[.int .i64 W, .int .i64 H, .slice ao n cp]) ∧ Blk A (w.heap.size + 1) 26 (#[.int .i64 x0, .int .i64 y0, .int .i64 x1, .int .i64 y1]) ∧ Blk A (w.heap.size + 1 + 1) 28 (c8 c)) := fun A hA => by
      rw [← hw1] at hA
      exact ⟨(((Blk.new _ _ _).alloc _).alloc _).grow hA, ((Blk.newAt _ _ _ (by simp)).alloc _).grow hA, (Blk.newAt _ _ _ (by simp)).grow hA⟩
  rw [hw1]
  clear hw1
  have m0 := (HB1.out w1 (Below.refl _ _)).1.cell 0
  have m1 := (HB1.out w1 (Below.refl _ _)).1.cell 1
  have m2 := (HB1.out w1 (Below.refl _ _)).1.cell 2
  simp only [List.getElem?_toArray, List.getElem?_cons_zero, List.getElem?_cons_succ] at m0 m1 m2
  go_wp2_with fail
  refine (HSM.out _).mono ?_
  rintro e w2 ⟨rfl, hb⟩
  have HB2 : Hid (∀ A, Below w2.heap.size w2 A → Blk A w.heap.size 24 (#[.int .i64 W, .int .i64 H, .slice ao n cp]) ∧ Blk A (w.heap.size + 1) 26 (#[.int .i64 x0, .int .i64 y0, .int .i64 x1, .int .i64 y1]) ∧ Blk A (w.heap.size + 1 + 1) 28 (c8 c)) := fun A hA => HB1.out A (hb.trans (hA.mono hb.size))
  have BW2 : Hid (Below w.heap.size w w2) := BW1.out.trans (hb.mono BW1.out.size)
  clear hb
  clear m0 m1 m2
  go_wp2_with fail
  refine (HAW.out _).mono ?_
  rintro e w3 ⟨rfl, hb⟩
  have HB3 : Hid (∀ A, Below w3.heap.size w3 A → Blk A w.heap.size 24 (#[.int .i64 W, .int .i64 H, .slice ao n cp]) ∧ Blk A (w.heap.size + 1) 26 (#[.int .i64 x0, .int .i64 y0, .int .i64 x1, .int .i64 y1]) ∧ Blk A (w.heap.size + 1 + 1) 28 (c8 c)) := fun A hA => HB2.out A (hb.trans (hA.mono hb.size))
  have BW3 : Hid (Below w.heap.size w w3) := BW2.out.trans (hb.mono BW2.out.size)
  clear hb
  go_wp2_with fail
  go_ret
  exact ⟨rfl, BW3.out⟩
set_option maxHeartbeats 4000000 in
set_option maxRecDepth 100000 in
theorem imageFills_n (AW : AwakeOk) (CK : CheckOk) (FL : FillOk) (W H x0 y0 x1 y1 : Int) (s : Value) (l : List Col) (c : Col) (w : World) (row : RowK .u8 w s l) (hok : ∀ c ∈ l, OkC c) (hc : OkC c) (h : l.length ≤ 400) (hr : rightIm W H l = false) : Calls Try.prog 3 #[.agg #[.int .i64 W, .int .i64 H, s], .agg #[.int .i64 x0, .int .i64 y0, .int .i64 x1, .int .i64 y1], .agg #[.int .u8 (c 0), .int .u8 (c 1), .int .u8 (c 2), .int .u8 (c 3)]] w fun e w' => e = .returned (.bool true) ∧ Below w.heap.size w w' := by
  have HAW := Lib.hid AW
  obtain ⟨ao, cp, rfl⟩ := row.shape
  have HSM := Lib.hid (small_c W H ao l.length cp)
  rw [decide_eq_true h] at HSM
  have HRF : Hid (∀ A, Below w.heap.size w A → Calls Try.prog 11 #[.agg #[.int .i64 W, .int .i64 H, .slice ao l.length cp]] A fun e w' => ∃ u, e = .returned (.agg #[.int .i64 W, .int .i64 H, u]) ∧ OwnK .i64 w' A.heap.size 43 u l ∧ Below A.heap.size A w') := fun A hA => lawRef_c W H _ l A (row.on hA) hok (by omega)
  have HFL : Hid (∀ A, Below w.heap.size w A → Calls Try.prog 12 #[.agg #[.int .i64 W, .int .i64 H, .slice ao l.length cp], .agg #[.int .i64 x0, .int .i64 y0, .int .i64 x1, .int .i64 y1], .agg #[.int .u8 (c 0), .int .u8 (c 1), .int .u8 (c 2), .int .u8 (c 3)]] A fun e w' => ToldIm A 0 0 [] 30 e w') := fun A hA => (FL W H x0 y0 x1 y1 _ l c A (row.on hA) hok hc (by omega)).mono fun e w' h => h.2 (by unfold fillW; rw [hr]; rfl)
  have HCK : Hid (∀ A, Below w.heap.size w A → Calls Try.prog 15 #[.agg #[.int .i64 W, .int .i64 H, .slice ao l.length cp]] A fun e w' => e = .returned (.int .i64 30) ∧ Below A.heap.size A w') := fun A hA => by
    have h2 := CK W H _ l A (row.on hA) hok (by omega)
    rw [hr] at h2
    exact h2
  have HRT : Hid (∀ A u, RowK .i64 A u l → Calls Try.prog 13 #[.agg #[.int .i64 W, .int .i64 H, u]] A fun e w' => e = .returned (.bool false) ∧ Below A.heap.size A w') := fun A u hu => by
    have h2 := ref11Right_c W H u l A hu
    rw [hr] at h2
    exact h2
  have HIS : Hid (∀ A u, Below w.heap.size w A → RowK .i64 A u l → Calls Try.prog 14 #[.agg #[.int .i64 W, .int .i64 H, .slice ao l.length cp], .agg #[.int .i64 W, .int .i64 H, u]] A fun e w' => e = .returned (.bool true) ∧ Below A.heap.size A w') := fun A u hA hu => lawIs_c W H _ u l A (row.on hA) hu hok (by omega)
  have HEM := Lib.hid empty_c
  obtain ⟨n, hn⟩ : ∃ n, l.length = n := ⟨_, rfl⟩
  have HN := Lib.hid hn
  rw [hn] at HSM HRF HFL HCK HIS ⊢
  clear row hok hc h hr hn
  go_enter Try.func3, Try.ntmps3
  go_wp2_with fail
  obtain ⟨w1, hw1⟩ : ∃ WW, ((w.alloc (.cells #[.int .i64 W, .int .i64 H, .slice ao n cp] 24)).alloc (.cells #[.int .i64 x0, .int .i64 y0, .int .i64 x1, .int .i64 y1] 26)).alloc (.cells #[.int .u8 (c 0), .int .u8 (c 1), .int .u8 (c 2), .int .u8 (c 3)] 28) = WW := ⟨_, rfl⟩
  have BW1 : Hid (Below w.heap.size w w1) := by
    rw [← hw1]
    exact (((Below.refl _ _).alloc (Nat.le_refl _) _).alloc (by simp) _).alloc (by simp; omega) _
  have HB1 : Hid (∀ A, Below w1.heap.size w1 A → Blk A w.heap.size 24 (#[.int .i64 W, .int .i64 H, .slice ao n cp]) ∧ Blk A (w.heap.size + 1) 26 (#[.int .i64 x0, .int .i64 y0, .int .i64 x1, .int .i64 y1]) ∧ Blk A (w.heap.size + 1 + 1) 28 (c8 c)) := fun A hA => by
      rw [← hw1] at hA
      exact ⟨(((Blk.new _ _ _).alloc _).alloc _).grow hA, ((Blk.newAt _ _ _ (by simp)).alloc _).grow hA, (Blk.newAt _ _ _ (by simp)).grow hA⟩
  rw [hw1]
  clear hw1
  have m0 := (HB1.out w1 (Below.refl _ _)).1.cell 0
  have m1 := (HB1.out w1 (Below.refl _ _)).1.cell 1
  have m2 := (HB1.out w1 (Below.refl _ _)).1.cell 2
  simp only [List.getElem?_toArray, List.getElem?_cons_zero, List.getElem?_cons_succ] at m0 m1 m2
  go_wp2_with fail
  refine (HSM.out _).mono ?_
  rintro e w2 ⟨rfl, hb⟩
  have HB2 : Hid (∀ A, Below w2.heap.size w2 A → Blk A w.heap.size 24 (#[.int .i64 W, .int .i64 H, .slice ao n cp]) ∧ Blk A (w.heap.size + 1) 26 (#[.int .i64 x0, .int .i64 y0, .int .i64 x1, .int .i64 y1]) ∧ Blk A (w.heap.size + 1 + 1) 28 (c8 c)) := fun A hA => HB1.out A (hb.trans (hA.mono hb.size))
  have BW2 : Hid (Below w.heap.size w w2) := BW1.out.trans (hb.mono BW1.out.size)
  clear hb
  clear m0 m1 m2
  have m0 := (HB2.out w2 (Below.refl _ _)).1.cell 0
  have m1 := (HB2.out w2 (Below.refl _ _)).1.cell 1
  have m2 := (HB2.out w2 (Below.refl _ _)).1.cell 2
  simp only [List.getElem?_toArray, List.getElem?_cons_zero, List.getElem?_cons_succ] at m0 m1 m2
  go_wp2_with fail
  refine (HRF.out _ BW2.out).mono ?_
  rintro e w3 ⟨u, rfl, ho, hb⟩
  have BW3 : Hid (Below w.heap.size w w3) := BW2.out.trans (hb.mono BW2.out.size)
  clear m0 m1 m2
  have HB3 : Hid (∀ A, Below w3.heap.size w3 A → Blk A w.heap.size 24 (#[.int .i64 W, .int .i64 H, .slice ao n cp]) ∧ Blk A (w.heap.size + 1) 26 (#[.int .i64 x0, .int .i64 y0, .int .i64 x1, .int .i64 y1]) ∧ Blk A (w.heap.size + 1 + 1) 28 (c8 c) ∧ RowK .i64 A u l) := fun A hA => ⟨(HB2.out A (hb.trans (hA.mono hb.size))).1, (HB2.out A (hb.trans (hA.mono hb.size))).2.1, (HB2.out A (hb.trans (hA.mono hb.size))).2.2, (ho.grow hA).row⟩
  clear hb ho
  obtain ⟨ua, uc, hu⟩ := RowK.shape (HB3.out w3 (Below.refl _ _)).2.2.2
  rw [HN.out] at hu
  subst hu
  have m0 := (HB3.out w3 (Below.refl _ _)).1.cell 0
  have m1 := (HB3.out w3 (Below.refl _ _)).1.cell 1
  have m2 := (HB3.out w3 (Below.refl _ _)).1.cell 2
  simp only [List.getElem?_toArray, List.getElem?_cons_zero, List.getElem?_cons_succ] at m0 m1 m2
  have b0 := (HB3.out w3 (Below.refl _ _)).2.1.cell 0
  have b1 := (HB3.out w3 (Below.refl _ _)).2.1.cell 1
  have b2 := (HB3.out w3 (Below.refl _ _)).2.1.cell 2
  have b3 := (HB3.out w3 (Below.refl _ _)).2.1.cell 3
  simp only [List.getElem?_toArray, List.getElem?_cons_zero, List.getElem?_cons_succ] at b0 b1 b2 b3
  obtain ⟨k0, k1, k2, k3⟩ := (HB3.out w3 (Below.refl _ _)).2.2.1.c0
  have l0 := (HB3.out w3 (Below.refl _ _)).1.lt
  have l1 := (HB3.out w3 (Below.refl _ _)).2.1.lt
  have l2 := (HB3.out w3 (Below.refl _ _)).2.2.1.lt
  go_wp2_with fail
  clear m0 m1 m2 b0 b1 b2 b3 k0 k1 k2 k3 l0 l1 l2
  obtain ⟨w4, hw⟩ : ∃ WW, w3.alloc (.cells #[.int .i64 W, .int .i64 H, .slice ua n uc] 33) = WW := ⟨_, rfl⟩
  have HB4 : Hid (∀ A, Below w4.heap.size w4 A → Blk A w.heap.size 24 (#[.int .i64 W, .int .i64 H, .slice ao n cp]) ∧ Blk A (w.heap.size + 1) 26 (#[.int .i64 x0, .int .i64 y0, .int .i64 x1, .int .i64 y1]) ∧ Blk A (w.heap.size + 1 + 1) 28 (c8 c) ∧ RowK .i64 A (.slice ua n uc) l ∧ Blk A w3.heap.size 33 (#[.int .i64 W, .int .i64 H, .slice ua n uc])) := fun A hA => by
      rw [← hw] at hA
      exact ⟨(HB3.out A (((Below.refl _ _).alloc (Nat.le_refl _) _).trans (hA.mono (by simp)))).1, (HB3.out A (((Below.refl _ _).alloc (Nat.le_refl _) _).trans (hA.mono (by simp)))).2.1, (HB3.out A (((Below.refl _ _).alloc (Nat.le_refl _) _).trans (hA.mono (by simp)))).2.2.1, (HB3.out A (((Below.refl _ _).alloc (Nat.le_refl _) _).trans (hA.mono (by simp)))).2.2.2, (Blk.new _ _ _).grow hA⟩
  have BW4 : Hid (Below w.heap.size w w4) := by
    rw [← hw]
    exact BW3.out.alloc BW3.out.size _
  rw [hw]
  clear hw
  generalize w3.heap.size = g7 at *
  refine (HFL.out _ BW4.out).mono ?_
  rintro e w5 ⟨fv, rfl, hf, hb⟩
  have BW5 : Hid (Below w.heap.size w w5) := BW4.out.trans (hb.mono BW4.out.size)
  have HB5 : Hid (∀ A, Below w5.heap.size w5 A → Blk A w.heap.size 24 (#[.int .i64 W, .int .i64 H, .slice ao n cp]) ∧ Blk A (w.heap.size + 1) 26 (#[.int .i64 x0, .int .i64 y0, .int .i64 x1, .int .i64 y1]) ∧ Blk A (w.heap.size + 1 + 1) 28 (c8 c) ∧ RowK .i64 A (.slice ua n uc) l ∧ Blk A g7 33 (#[.int .i64 W, .int .i64 H, .slice ua n uc]) ∧ RowK .u8 A fv []) := fun A hA => ⟨(HB4.out A (hb.trans (hA.mono hb.size))).1, (HB4.out A (hb.trans (hA.mono hb.size))).2.1, (HB4.out A (hb.trans (hA.mono hb.size))).2.2.1, (HB4.out A (hb.trans (hA.mono hb.size))).2.2.2.1, (HB4.out A (hb.trans (hA.mono hb.size))).2.2.2.2, hf.on hA⟩
  clear hb hf
  obtain ⟨fa, fc, hf⟩ := RowK.shape (HB5.out w5 (Below.refl _ _)).2.2.2.2.2
  simp only [List.length_nil] at hf
  subst hf
  have p0 := (HB5.out w5 (Below.refl _ _)).2.2.2.2.1.cell 0
  have p1 := (HB5.out w5 (Below.refl _ _)).2.2.2.2.1.cell 1
  have p2 := (HB5.out w5 (Below.refl _ _)).2.2.2.2.1.cell 2
  simp only [List.getElem?_toArray, List.getElem?_cons_zero, List.getElem?_cons_succ] at p0 p1 p2
  have l0 := (HB5.out w5 (Below.refl _ _)).2.2.2.2.1.lt
  go_wp2_with fail
  clear p0 p1 p2 l0
  obtain ⟨w6, hw⟩ : ∃ WW, w5.alloc (.cells #[.int .i64 0, .int .i64 0, .slice fa 0 fc] 24) = WW := ⟨_, rfl⟩
  have HB6 : Hid (∀ A, Below w6.heap.size w6 A → Blk A w.heap.size 24 (#[.int .i64 W, .int .i64 H, .slice ao n cp]) ∧ Blk A (w.heap.size + 1) 26 (#[.int .i64 x0, .int .i64 y0, .int .i64 x1, .int .i64 y1]) ∧ Blk A (w.heap.size + 1 + 1) 28 (c8 c) ∧ RowK .i64 A (.slice ua n uc) l ∧ Blk A g7 33 (#[.int .i64 W, .int .i64 H, .slice ua n uc]) ∧ RowK .u8 A (.slice fa 0 fc) [] ∧ Blk A w5.heap.size 24 (#[.int .i64 0, .int .i64 0, .slice fa 0 fc])) := fun A hA => by
      rw [← hw] at hA
      exact ⟨(HB5.out A (((Below.refl _ _).alloc (Nat.le_refl _) _).trans (hA.mono (by simp)))).1, (HB5.out A (((Below.refl _ _).alloc (Nat.le_refl _) _).trans (hA.mono (by simp)))).2.1, (HB5.out A (((Below.refl _ _).alloc (Nat.le_refl _) _).trans (hA.mono (by simp)))).2.2.1, (HB5.out A (((Below.refl _ _).alloc (Nat.le_refl _) _).trans (hA.mono (by simp)))).2.2.2.1, (HB5.out A (((Below.refl _ _).alloc (Nat.le_refl _) _).trans (hA.mono (by simp)))).2.2.2.2.1, (HB5.out A (((Below.refl _ _).alloc (Nat.le_refl _) _).trans (hA.mono (by simp)))).2.2.2.2.2, (Blk.new _ _ _).grow hA⟩
  have BW6 : Hid (Below w.heap.size w w6) := by
    rw [← hw]
    exact BW5.out.alloc BW5.out.size _
  rw [hw]
  clear hw
  generalize w5.heap.size = g8 at *
  refine (HRT.out _ _ (HB6.out w6 (Below.refl _ _)).2.2.2.1).mono ?_
  rintro e w7 ⟨rfl, hb⟩
  have HB7 : Hid (∀ A, Below w7.heap.size w7 A → Blk A w.heap.size 24 (#[.int .i64 W, .int .i64 H, .slice ao n cp]) ∧ Blk A (w.heap.size + 1) 26 (#[.int .i64 x0, .int .i64 y0, .int .i64 x1, .int .i64 y1]) ∧ Blk A (w.heap.size + 1 + 1) 28 (c8 c) ∧ RowK .i64 A (.slice ua n uc) l ∧ Blk A g7 33 (#[.int .i64 W, .int .i64 H, .slice ua n uc]) ∧ RowK .u8 A (.slice fa 0 fc) [] ∧ Blk A g8 24 (#[.int .i64 0, .int .i64 0, .slice fa 0 fc])) := fun A hA => HB6.out A (hb.trans (hA.mono hb.size))
  have BW7 : Hid (Below w.heap.size w w7) := BW6.out.trans (hb.mono BW6.out.size)
  clear hb
  have m0 := (HB7.out w7 (Below.refl _ _)).1.cell 0
  have m1 := (HB7.out w7 (Below.refl _ _)).1.cell 1
  have m2 := (HB7.out w7 (Below.refl _ _)).1.cell 2
  simp only [List.getElem?_toArray, List.getElem?_cons_zero, List.getElem?_cons_succ] at m0 m1 m2
  have p0 := (HB7.out w7 (Below.refl _ _)).2.2.2.2.1.cell 0
  have p1 := (HB7.out w7 (Below.refl _ _)).2.2.2.2.1.cell 1
  have p2 := (HB7.out w7 (Below.refl _ _)).2.2.2.2.1.cell 2
  simp only [List.getElem?_toArray, List.getElem?_cons_zero, List.getElem?_cons_succ] at p0 p1 p2
  go_wp2_with fail
  refine (HIS.out _ _ BW7.out (HB7.out w7 (Below.refl _ _)).2.2.2.1).mono ?_
  rintro e w8 ⟨rfl, hb⟩
  have HB8 : Hid (∀ A, Below w8.heap.size w8 A → Blk A w.heap.size 24 (#[.int .i64 W, .int .i64 H, .slice ao n cp]) ∧ Blk A (w.heap.size + 1) 26 (#[.int .i64 x0, .int .i64 y0, .int .i64 x1, .int .i64 y1]) ∧ Blk A (w.heap.size + 1 + 1) 28 (c8 c) ∧ RowK .i64 A (.slice ua n uc) l ∧ Blk A g7 33 (#[.int .i64 W, .int .i64 H, .slice ua n uc]) ∧ RowK .u8 A (.slice fa 0 fc) [] ∧ Blk A g8 24 (#[.int .i64 0, .int .i64 0, .slice fa 0 fc])) := fun A hA => HB7.out A (hb.trans (hA.mono hb.size))
  have BW8 : Hid (Below w.heap.size w w8) := BW7.out.trans (hb.mono BW7.out.size)
  clear hb
  clear m0 m1 m2 p0 p1 p2
  have m0 := (HB8.out w8 (Below.refl _ _)).1.cell 0
  have m1 := (HB8.out w8 (Below.refl _ _)).1.cell 1
  have m2 := (HB8.out w8 (Below.refl _ _)).1.cell 2
  simp only [List.getElem?_toArray, List.getElem?_cons_zero, List.getElem?_cons_succ] at m0 m1 m2
  go_wp2_with fail
  refine (HCK.out _ BW8.out).mono ?_
  rintro e w9 ⟨rfl, hb⟩
  have HB9 : Hid (∀ A, Below w9.heap.size w9 A → Blk A w.heap.size 24 (#[.int .i64 W, .int .i64 H, .slice ao n cp]) ∧ Blk A (w.heap.size + 1) 26 (#[.int .i64 x0, .int .i64 y0, .int .i64 x1, .int .i64 y1]) ∧ Blk A (w.heap.size + 1 + 1) 28 (c8 c) ∧ RowK .i64 A (.slice ua n uc) l ∧ Blk A g7 33 (#[.int .i64 W, .int .i64 H, .slice ua n uc]) ∧ RowK .u8 A (.slice fa 0 fc) [] ∧ Blk A g8 24 (#[.int .i64 0, .int .i64 0, .slice fa 0 fc])) := fun A hA => HB8.out A (hb.trans (hA.mono hb.size))
  have BW9 : Hid (Below w.heap.size w w9) := BW8.out.trans (hb.mono BW8.out.size)
  clear hb
  clear m0 m1 m2
  have p0 := (HB9.out w9 (Below.refl _ _)).2.2.2.2.2.2.cell 0
  have p1 := (HB9.out w9 (Below.refl _ _)).2.2.2.2.2.2.cell 1
  have p2 := (HB9.out w9 (Below.refl _ _)).2.2.2.2.2.2.cell 2
  simp only [List.getElem?_toArray, List.getElem?_cons_zero, List.getElem?_cons_succ] at p0 p1 p2
  go_wp2_with fail
  refine (HEM.out _ _ _).mono ?_
  rintro e w10 ⟨rfl, hb⟩
  have HB10 : Hid (∀ A, Below w10.heap.size w10 A → Blk A w.heap.size 24 (#[.int .i64 W, .int .i64 H, .slice ao n cp]) ∧ Blk A (w.heap.size + 1) 26 (#[.int .i64 x0, .int .i64 y0, .int .i64 x1, .int .i64 y1]) ∧ Blk A (w.heap.size + 1 + 1) 28 (c8 c) ∧ RowK .i64 A (.slice ua n uc) l ∧ Blk A g7 33 (#[.int .i64 W, .int .i64 H, .slice ua n uc]) ∧ RowK .u8 A (.slice fa 0 fc) [] ∧ Blk A g8 24 (#[.int .i64 0, .int .i64 0, .slice fa 0 fc])) := fun A hA => HB9.out A (hb.trans (hA.mono hb.size))
  have BW10 : Hid (Below w.heap.size w w10) := BW9.out.trans (hb.mono BW9.out.size)
  clear hb
  clear p0 p1 p2
  go_wp2_with fail
  refine (HAW.out _).mono ?_
  rintro e w11 ⟨rfl, hb⟩
  have HB11 : Hid (∀ A, Below w11.heap.size w11 A → Blk A w.heap.size 24 (#[.int .i64 W, .int .i64 H, .slice ao n cp]) ∧ Blk A (w.heap.size + 1) 26 (#[.int .i64 x0, .int .i64 y0, .int .i64 x1, .int .i64 y1]) ∧ Blk A (w.heap.size + 1 + 1) 28 (c8 c) ∧ RowK .i64 A (.slice ua n uc) l ∧ Blk A g7 33 (#[.int .i64 W, .int .i64 H, .slice ua n uc]) ∧ RowK .u8 A (.slice fa 0 fc) [] ∧ Blk A g8 24 (#[.int .i64 0, .int .i64 0, .slice fa 0 fc])) := fun A hA => HB10.out A (hb.trans (hA.mono hb.size))
  have BW11 : Hid (Below w.heap.size w w11) := BW10.out.trans (hb.mono BW10.out.size)
  clear hb
  go_wp2_with fail
  go_ret
  exact ⟨rfl, BW11.out⟩
set_option maxHeartbeats 4000000 in
set_option maxRecDepth 100000 in
theorem imageFills_c (AW : AwakeOk) (CK : CheckOk) (FL : FillOk) (RT : RightOk) (W H x0 y0 x1 y1 : Int) (s : Value) (l : List Col) (c : Col) (w : World) (row : RowK .u8 w s l) (hok : ∀ c ∈ l, OkC c) (hc : OkC c) (h : l.length ≤ 400) (hr : rightIm W H l = true) (hrc : rightC c = false) : Calls Try.prog 3 #[.agg #[.int .i64 W, .int .i64 H, s], .agg #[.int .i64 x0, .int .i64 y0, .int .i64 x1, .int .i64 y1], .agg #[.int .u8 (c 0), .int .u8 (c 1), .int .u8 (c 2), .int .u8 (c 3)]] w fun e w' => e = .returned (.bool true) ∧ Below w.heap.size w w' := by
  have HAW := Lib.hid AW
  obtain ⟨ao, cp, rfl⟩ := row.shape
  have HSM := Lib.hid (small_c W H ao l.length cp)
  rw [decide_eq_true h] at HSM
  have HRF : Hid (∀ A, Below w.heap.size w A → Calls Try.prog 11 #[.agg #[.int .i64 W, .int .i64 H, .slice ao l.length cp]] A fun e w' => ∃ u, e = .returned (.agg #[.int .i64 W, .int .i64 H, u]) ∧ OwnK .i64 w' A.heap.size 43 u l ∧ Below A.heap.size A w') := fun A hA => lawRef_c W H _ l A (row.on hA) hok (by omega)
  have HFL : Hid (∀ A, Below w.heap.size w A → Calls Try.prog 12 #[.agg #[.int .i64 W, .int .i64 H, .slice ao l.length cp], .agg #[.int .i64 x0, .int .i64 y0, .int .i64 x1, .int .i64 y1], .agg #[.int .u8 (c 0), .int .u8 (c 1), .int .u8 (c 2), .int .u8 (c 3)]] A fun e w' => ToldIm A 0 0 [] 30 e w') := fun A hA => (FL W H x0 y0 x1 y1 _ l c A (row.on hA) hok hc (by omega)).mono fun e w' h => h.2 (by unfold fillW; rw [hr, hrc]; rfl)
  have HCK : Hid (∀ A, Below w.heap.size w A → Calls Try.prog 15 #[.agg #[.int .i64 W, .int .i64 H, .slice ao l.length cp]] A fun e w' => e = .returned (.int .i64 0) ∧ Below A.heap.size A w') := fun A hA => by
    have h2 := CK W H _ l A (row.on hA) hok (by omega)
    rw [hr] at h2
    exact h2
  have HRT : Hid (∀ A u, RowK .i64 A u l → Calls Try.prog 13 #[.agg #[.int .i64 W, .int .i64 H, u]] A fun e w' => e = .returned (.bool true) ∧ Below A.heap.size A w') := fun A u hu => by
    have h2 := ref11Right_c W H u l A hu
    rw [hr] at h2
    exact h2
  have HIS : Hid (∀ A u, Below w.heap.size w A → RowK .i64 A u l → Calls Try.prog 14 #[.agg #[.int .i64 W, .int .i64 H, .slice ao l.length cp], .agg #[.int .i64 W, .int .i64 H, u]] A fun e w' => e = .returned (.bool true) ∧ Below A.heap.size A w') := fun A u hA hu => lawIs_c W H _ u l A (row.on hA) hu hok (by omega)
  have HEM := Lib.hid empty_c
  have HRCC := Lib.hid (fun w => RT c w hc)
  rw [hrc] at HRCC
  obtain ⟨n, hn⟩ : ∃ n, l.length = n := ⟨_, rfl⟩
  have HN := Lib.hid hn
  rw [hn] at HSM HRF HFL HCK HIS ⊢
  clear row hok hc h hr hn hrc
  go_enter Try.func3, Try.ntmps3
  go_wp2_with fail
  obtain ⟨w1, hw1⟩ : ∃ WW, ((w.alloc (.cells #[.int .i64 W, .int .i64 H, .slice ao n cp] 24)).alloc (.cells #[.int .i64 x0, .int .i64 y0, .int .i64 x1, .int .i64 y1] 26)).alloc (.cells #[.int .u8 (c 0), .int .u8 (c 1), .int .u8 (c 2), .int .u8 (c 3)] 28) = WW := ⟨_, rfl⟩
  have BW1 : Hid (Below w.heap.size w w1) := by
    rw [← hw1]
    exact (((Below.refl _ _).alloc (Nat.le_refl _) _).alloc (by simp) _).alloc (by simp; omega) _
  have HB1 : Hid (∀ A, Below w1.heap.size w1 A → Blk A w.heap.size 24 (#[.int .i64 W, .int .i64 H, .slice ao n cp]) ∧ Blk A (w.heap.size + 1) 26 (#[.int .i64 x0, .int .i64 y0, .int .i64 x1, .int .i64 y1]) ∧ Blk A (w.heap.size + 1 + 1) 28 (c8 c)) := fun A hA => by
      rw [← hw1] at hA
      exact ⟨(((Blk.new _ _ _).alloc _).alloc _).grow hA, ((Blk.newAt _ _ _ (by simp)).alloc _).grow hA, (Blk.newAt _ _ _ (by simp)).grow hA⟩
  rw [hw1]
  clear hw1
  have m0 := (HB1.out w1 (Below.refl _ _)).1.cell 0
  have m1 := (HB1.out w1 (Below.refl _ _)).1.cell 1
  have m2 := (HB1.out w1 (Below.refl _ _)).1.cell 2
  simp only [List.getElem?_toArray, List.getElem?_cons_zero, List.getElem?_cons_succ] at m0 m1 m2
  go_wp2_with fail
  refine (HSM.out _).mono ?_
  rintro e w2 ⟨rfl, hb⟩
  have HB2 : Hid (∀ A, Below w2.heap.size w2 A → Blk A w.heap.size 24 (#[.int .i64 W, .int .i64 H, .slice ao n cp]) ∧ Blk A (w.heap.size + 1) 26 (#[.int .i64 x0, .int .i64 y0, .int .i64 x1, .int .i64 y1]) ∧ Blk A (w.heap.size + 1 + 1) 28 (c8 c)) := fun A hA => HB1.out A (hb.trans (hA.mono hb.size))
  have BW2 : Hid (Below w.heap.size w w2) := BW1.out.trans (hb.mono BW1.out.size)
  clear hb
  clear m0 m1 m2
  have m0 := (HB2.out w2 (Below.refl _ _)).1.cell 0
  have m1 := (HB2.out w2 (Below.refl _ _)).1.cell 1
  have m2 := (HB2.out w2 (Below.refl _ _)).1.cell 2
  simp only [List.getElem?_toArray, List.getElem?_cons_zero, List.getElem?_cons_succ] at m0 m1 m2
  go_wp2_with fail
  refine (HRF.out _ BW2.out).mono ?_
  rintro e w3 ⟨u, rfl, ho, hb⟩
  have BW3 : Hid (Below w.heap.size w w3) := BW2.out.trans (hb.mono BW2.out.size)
  clear m0 m1 m2
  have HB3 : Hid (∀ A, Below w3.heap.size w3 A → Blk A w.heap.size 24 (#[.int .i64 W, .int .i64 H, .slice ao n cp]) ∧ Blk A (w.heap.size + 1) 26 (#[.int .i64 x0, .int .i64 y0, .int .i64 x1, .int .i64 y1]) ∧ Blk A (w.heap.size + 1 + 1) 28 (c8 c) ∧ RowK .i64 A u l) := fun A hA => ⟨(HB2.out A (hb.trans (hA.mono hb.size))).1, (HB2.out A (hb.trans (hA.mono hb.size))).2.1, (HB2.out A (hb.trans (hA.mono hb.size))).2.2, (ho.grow hA).row⟩
  clear hb ho
  obtain ⟨ua, uc, hu⟩ := RowK.shape (HB3.out w3 (Below.refl _ _)).2.2.2
  rw [HN.out] at hu
  subst hu
  have m0 := (HB3.out w3 (Below.refl _ _)).1.cell 0
  have m1 := (HB3.out w3 (Below.refl _ _)).1.cell 1
  have m2 := (HB3.out w3 (Below.refl _ _)).1.cell 2
  simp only [List.getElem?_toArray, List.getElem?_cons_zero, List.getElem?_cons_succ] at m0 m1 m2
  have b0 := (HB3.out w3 (Below.refl _ _)).2.1.cell 0
  have b1 := (HB3.out w3 (Below.refl _ _)).2.1.cell 1
  have b2 := (HB3.out w3 (Below.refl _ _)).2.1.cell 2
  have b3 := (HB3.out w3 (Below.refl _ _)).2.1.cell 3
  simp only [List.getElem?_toArray, List.getElem?_cons_zero, List.getElem?_cons_succ] at b0 b1 b2 b3
  obtain ⟨k0, k1, k2, k3⟩ := (HB3.out w3 (Below.refl _ _)).2.2.1.c0
  have l0 := (HB3.out w3 (Below.refl _ _)).1.lt
  have l1 := (HB3.out w3 (Below.refl _ _)).2.1.lt
  have l2 := (HB3.out w3 (Below.refl _ _)).2.2.1.lt
  go_wp2_with fail
  clear m0 m1 m2 b0 b1 b2 b3 k0 k1 k2 k3 l0 l1 l2
  obtain ⟨w4, hw⟩ : ∃ WW, w3.alloc (.cells #[.int .i64 W, .int .i64 H, .slice ua n uc] 33) = WW := ⟨_, rfl⟩
  have HB4 : Hid (∀ A, Below w4.heap.size w4 A → Blk A w.heap.size 24 (#[.int .i64 W, .int .i64 H, .slice ao n cp]) ∧ Blk A (w.heap.size + 1) 26 (#[.int .i64 x0, .int .i64 y0, .int .i64 x1, .int .i64 y1]) ∧ Blk A (w.heap.size + 1 + 1) 28 (c8 c) ∧ RowK .i64 A (.slice ua n uc) l ∧ Blk A w3.heap.size 33 (#[.int .i64 W, .int .i64 H, .slice ua n uc])) := fun A hA => by
      rw [← hw] at hA
      exact ⟨(HB3.out A (((Below.refl _ _).alloc (Nat.le_refl _) _).trans (hA.mono (by simp)))).1, (HB3.out A (((Below.refl _ _).alloc (Nat.le_refl _) _).trans (hA.mono (by simp)))).2.1, (HB3.out A (((Below.refl _ _).alloc (Nat.le_refl _) _).trans (hA.mono (by simp)))).2.2.1, (HB3.out A (((Below.refl _ _).alloc (Nat.le_refl _) _).trans (hA.mono (by simp)))).2.2.2, (Blk.new _ _ _).grow hA⟩
  have BW4 : Hid (Below w.heap.size w w4) := by
    rw [← hw]
    exact BW3.out.alloc BW3.out.size _
  rw [hw]
  clear hw
  generalize w3.heap.size = g7 at *
  refine (HFL.out _ BW4.out).mono ?_
  rintro e w5 ⟨fv, rfl, hf, hb⟩
  have BW5 : Hid (Below w.heap.size w w5) := BW4.out.trans (hb.mono BW4.out.size)
  have HB5 : Hid (∀ A, Below w5.heap.size w5 A → Blk A w.heap.size 24 (#[.int .i64 W, .int .i64 H, .slice ao n cp]) ∧ Blk A (w.heap.size + 1) 26 (#[.int .i64 x0, .int .i64 y0, .int .i64 x1, .int .i64 y1]) ∧ Blk A (w.heap.size + 1 + 1) 28 (c8 c) ∧ RowK .i64 A (.slice ua n uc) l ∧ Blk A g7 33 (#[.int .i64 W, .int .i64 H, .slice ua n uc]) ∧ RowK .u8 A fv []) := fun A hA => ⟨(HB4.out A (hb.trans (hA.mono hb.size))).1, (HB4.out A (hb.trans (hA.mono hb.size))).2.1, (HB4.out A (hb.trans (hA.mono hb.size))).2.2.1, (HB4.out A (hb.trans (hA.mono hb.size))).2.2.2.1, (HB4.out A (hb.trans (hA.mono hb.size))).2.2.2.2, hf.on hA⟩
  clear hb hf
  obtain ⟨fa, fc, hf⟩ := RowK.shape (HB5.out w5 (Below.refl _ _)).2.2.2.2.2
  simp only [List.length_nil] at hf
  subst hf
  have p0 := (HB5.out w5 (Below.refl _ _)).2.2.2.2.1.cell 0
  have p1 := (HB5.out w5 (Below.refl _ _)).2.2.2.2.1.cell 1
  have p2 := (HB5.out w5 (Below.refl _ _)).2.2.2.2.1.cell 2
  simp only [List.getElem?_toArray, List.getElem?_cons_zero, List.getElem?_cons_succ] at p0 p1 p2
  have l0 := (HB5.out w5 (Below.refl _ _)).2.2.2.2.1.lt
  go_wp2_with fail
  clear p0 p1 p2 l0
  obtain ⟨w6, hw⟩ : ∃ WW, w5.alloc (.cells #[.int .i64 0, .int .i64 0, .slice fa 0 fc] 24) = WW := ⟨_, rfl⟩
  have HB6 : Hid (∀ A, Below w6.heap.size w6 A → Blk A w.heap.size 24 (#[.int .i64 W, .int .i64 H, .slice ao n cp]) ∧ Blk A (w.heap.size + 1) 26 (#[.int .i64 x0, .int .i64 y0, .int .i64 x1, .int .i64 y1]) ∧ Blk A (w.heap.size + 1 + 1) 28 (c8 c) ∧ RowK .i64 A (.slice ua n uc) l ∧ Blk A g7 33 (#[.int .i64 W, .int .i64 H, .slice ua n uc]) ∧ RowK .u8 A (.slice fa 0 fc) [] ∧ Blk A w5.heap.size 24 (#[.int .i64 0, .int .i64 0, .slice fa 0 fc])) := fun A hA => by
      rw [← hw] at hA
      exact ⟨(HB5.out A (((Below.refl _ _).alloc (Nat.le_refl _) _).trans (hA.mono (by simp)))).1, (HB5.out A (((Below.refl _ _).alloc (Nat.le_refl _) _).trans (hA.mono (by simp)))).2.1, (HB5.out A (((Below.refl _ _).alloc (Nat.le_refl _) _).trans (hA.mono (by simp)))).2.2.1, (HB5.out A (((Below.refl _ _).alloc (Nat.le_refl _) _).trans (hA.mono (by simp)))).2.2.2.1, (HB5.out A (((Below.refl _ _).alloc (Nat.le_refl _) _).trans (hA.mono (by simp)))).2.2.2.2.1, (HB5.out A (((Below.refl _ _).alloc (Nat.le_refl _) _).trans (hA.mono (by simp)))).2.2.2.2.2, (Blk.new _ _ _).grow hA⟩
  have BW6 : Hid (Below w.heap.size w w6) := by
    rw [← hw]
    exact BW5.out.alloc BW5.out.size _
  rw [hw]
  clear hw
  generalize w5.heap.size = g8 at *
  refine (HRT.out _ _ (HB6.out w6 (Below.refl _ _)).2.2.2.1).mono ?_
  rintro e w7 ⟨rfl, hb⟩
  have HB7 : Hid (∀ A, Below w7.heap.size w7 A → Blk A w.heap.size 24 (#[.int .i64 W, .int .i64 H, .slice ao n cp]) ∧ Blk A (w.heap.size + 1) 26 (#[.int .i64 x0, .int .i64 y0, .int .i64 x1, .int .i64 y1]) ∧ Blk A (w.heap.size + 1 + 1) 28 (c8 c) ∧ RowK .i64 A (.slice ua n uc) l ∧ Blk A g7 33 (#[.int .i64 W, .int .i64 H, .slice ua n uc]) ∧ RowK .u8 A (.slice fa 0 fc) [] ∧ Blk A g8 24 (#[.int .i64 0, .int .i64 0, .slice fa 0 fc])) := fun A hA => HB6.out A (hb.trans (hA.mono hb.size))
  have BW7 : Hid (Below w.heap.size w w7) := BW6.out.trans (hb.mono BW6.out.size)
  clear hb
  have m0 := (HB7.out w7 (Below.refl _ _)).1.cell 0
  have m1 := (HB7.out w7 (Below.refl _ _)).1.cell 1
  have m2 := (HB7.out w7 (Below.refl _ _)).1.cell 2
  simp only [List.getElem?_toArray, List.getElem?_cons_zero, List.getElem?_cons_succ] at m0 m1 m2
  have p0 := (HB7.out w7 (Below.refl _ _)).2.2.2.2.1.cell 0
  have p1 := (HB7.out w7 (Below.refl _ _)).2.2.2.2.1.cell 1
  have p2 := (HB7.out w7 (Below.refl _ _)).2.2.2.2.1.cell 2
  simp only [List.getElem?_toArray, List.getElem?_cons_zero, List.getElem?_cons_succ] at p0 p1 p2
  go_wp2_with fail
  refine (HIS.out _ _ BW7.out (HB7.out w7 (Below.refl _ _)).2.2.2.1).mono ?_
  rintro e w8 ⟨rfl, hb⟩
  have HB8 : Hid (∀ A, Below w8.heap.size w8 A → Blk A w.heap.size 24 (#[.int .i64 W, .int .i64 H, .slice ao n cp]) ∧ Blk A (w.heap.size + 1) 26 (#[.int .i64 x0, .int .i64 y0, .int .i64 x1, .int .i64 y1]) ∧ Blk A (w.heap.size + 1 + 1) 28 (c8 c) ∧ RowK .i64 A (.slice ua n uc) l ∧ Blk A g7 33 (#[.int .i64 W, .int .i64 H, .slice ua n uc]) ∧ RowK .u8 A (.slice fa 0 fc) [] ∧ Blk A g8 24 (#[.int .i64 0, .int .i64 0, .slice fa 0 fc])) := fun A hA => HB7.out A (hb.trans (hA.mono hb.size))
  have BW8 : Hid (Below w.heap.size w w8) := BW7.out.trans (hb.mono BW7.out.size)
  clear hb
  clear m0 m1 m2 p0 p1 p2
  have m0 := (HB8.out w8 (Below.refl _ _)).1.cell 0
  have m1 := (HB8.out w8 (Below.refl _ _)).1.cell 1
  have m2 := (HB8.out w8 (Below.refl _ _)).1.cell 2
  simp only [List.getElem?_toArray, List.getElem?_cons_zero, List.getElem?_cons_succ] at m0 m1 m2
  go_wp2_with fail
  refine (HCK.out _ BW8.out).mono ?_
  rintro e w9 ⟨rfl, hb⟩
  have HB9 : Hid (∀ A, Below w9.heap.size w9 A → Blk A w.heap.size 24 (#[.int .i64 W, .int .i64 H, .slice ao n cp]) ∧ Blk A (w.heap.size + 1) 26 (#[.int .i64 x0, .int .i64 y0, .int .i64 x1, .int .i64 y1]) ∧ Blk A (w.heap.size + 1 + 1) 28 (c8 c) ∧ RowK .i64 A (.slice ua n uc) l ∧ Blk A g7 33 (#[.int .i64 W, .int .i64 H, .slice ua n uc]) ∧ RowK .u8 A (.slice fa 0 fc) [] ∧ Blk A g8 24 (#[.int .i64 0, .int .i64 0, .slice fa 0 fc])) := fun A hA => HB8.out A (hb.trans (hA.mono hb.size))
  have BW9 : Hid (Below w.heap.size w w9) := BW8.out.trans (hb.mono BW8.out.size)
  clear hb
  clear m0 m1 m2
  obtain ⟨k0, k1, k2, k3⟩ := Blk.c0 (show Blk w9 (w.heap.size + 1 + 1) 28 (c8 c) from (HB9.out w9 (Below.refl _ _)).2.2.1)
  go_wp2_with fail
  refine (HRCC.out _).mono ?_
  rintro e w10 ⟨rfl, hb⟩
  have HB10 : Hid (∀ A, Below w10.heap.size w10 A → Blk A w.heap.size 24 (#[.int .i64 W, .int .i64 H, .slice ao n cp]) ∧ Blk A (w.heap.size + 1) 26 (#[.int .i64 x0, .int .i64 y0, .int .i64 x1, .int .i64 y1]) ∧ Blk A (w.heap.size + 1 + 1) 28 (c8 c) ∧ RowK .i64 A (.slice ua n uc) l ∧ Blk A g7 33 (#[.int .i64 W, .int .i64 H, .slice ua n uc]) ∧ RowK .u8 A (.slice fa 0 fc) [] ∧ Blk A g8 24 (#[.int .i64 0, .int .i64 0, .slice fa 0 fc])) := fun A hA => HB9.out A (hb.trans (hA.mono hb.size))
  have BW10 : Hid (Below w.heap.size w w10) := BW9.out.trans (hb.mono BW9.out.size)
  clear hb
  clear k0 k1 k2 k3
  have p0 := (HB10.out w10 (Below.refl _ _)).2.2.2.2.2.2.cell 0
  have p1 := (HB10.out w10 (Below.refl _ _)).2.2.2.2.2.2.cell 1
  have p2 := (HB10.out w10 (Below.refl _ _)).2.2.2.2.2.2.cell 2
  simp only [List.getElem?_toArray, List.getElem?_cons_zero, List.getElem?_cons_succ] at p0 p1 p2
  go_wp2_with fail
  refine (HEM.out _ _ _).mono ?_
  rintro e w11 ⟨rfl, hb⟩
  have HB11 : Hid (∀ A, Below w11.heap.size w11 A → Blk A w.heap.size 24 (#[.int .i64 W, .int .i64 H, .slice ao n cp]) ∧ Blk A (w.heap.size + 1) 26 (#[.int .i64 x0, .int .i64 y0, .int .i64 x1, .int .i64 y1]) ∧ Blk A (w.heap.size + 1 + 1) 28 (c8 c) ∧ RowK .i64 A (.slice ua n uc) l ∧ Blk A g7 33 (#[.int .i64 W, .int .i64 H, .slice ua n uc]) ∧ RowK .u8 A (.slice fa 0 fc) [] ∧ Blk A g8 24 (#[.int .i64 0, .int .i64 0, .slice fa 0 fc])) := fun A hA => HB10.out A (hb.trans (hA.mono hb.size))
  have BW11 : Hid (Below w.heap.size w w11) := BW10.out.trans (hb.mono BW10.out.size)
  clear hb
  clear p0 p1 p2
  go_wp2_with fail
  refine (HAW.out _).mono ?_
  rintro e w12 ⟨rfl, hb⟩
  have HB12 : Hid (∀ A, Below w12.heap.size w12 A → Blk A w.heap.size 24 (#[.int .i64 W, .int .i64 H, .slice ao n cp]) ∧ Blk A (w.heap.size + 1) 26 (#[.int .i64 x0, .int .i64 y0, .int .i64 x1, .int .i64 y1]) ∧ Blk A (w.heap.size + 1 + 1) 28 (c8 c) ∧ RowK .i64 A (.slice ua n uc) l ∧ Blk A g7 33 (#[.int .i64 W, .int .i64 H, .slice ua n uc]) ∧ RowK .u8 A (.slice fa 0 fc) [] ∧ Blk A g8 24 (#[.int .i64 0, .int .i64 0, .slice fa 0 fc])) := fun A hA => HB11.out A (hb.trans (hA.mono hb.size))
  have BW12 : Hid (Below w.heap.size w w12) := BW11.out.trans (hb.mono BW11.out.size)
  clear hb
  go_wp2_with fail
  go_ret
  exact ⟨rfl, BW12.out⟩
set_option maxHeartbeats 4000000 in
set_option maxRecDepth 100000 in
theorem imageFills_y (AW : AwakeOk) (CK : CheckOk) (FL : FillOk) (RT : RightOk) (W H x0 y0 x1 y1 : Int) (s : Value) (l : List Col) (c : Col) (w : World) (row : RowK .u8 w s l) (hok : ∀ c ∈ l, OkC c) (hc : OkC c) (h : l.length ≤ 400) (hr : rightIm W H l = true) (hrc : rightC c = true) : Calls Try.prog 3 #[.agg #[.int .i64 W, .int .i64 H, s], .agg #[.int .i64 x0, .int .i64 y0, .int .i64 x1, .int .i64 y1], .agg #[.int .u8 (c 0), .int .u8 (c 1), .int .u8 (c 2), .int .u8 (c 3)]] w fun e w' => e = .returned (.bool true) ∧ Below w.heap.size w w' := by
  have HAW := Lib.hid AW
  obtain ⟨ao, cp, rfl⟩ := row.shape
  have HSM := Lib.hid (small_c W H ao l.length cp)
  rw [decide_eq_true h] at HSM
  have HRF : Hid (∀ A, Below w.heap.size w A → Calls Try.prog 11 #[.agg #[.int .i64 W, .int .i64 H, .slice ao l.length cp]] A fun e w' => ∃ u, e = .returned (.agg #[.int .i64 W, .int .i64 H, u]) ∧ OwnK .i64 w' A.heap.size 43 u l ∧ Below A.heap.size A w') := fun A hA => lawRef_c W H _ l A (row.on hA) hok (by omega)
  have HFL : Hid (∀ A, Below w.heap.size w A → Calls Try.prog 12 #[.agg #[.int .i64 W, .int .i64 H, .slice ao l.length cp], .agg #[.int .i64 x0, .int .i64 y0, .int .i64 x1, .int .i64 y1], .agg #[.int .u8 (c 0), .int .u8 (c 1), .int .u8 (c 2), .int .u8 (c 3)]] A fun e w' => ToldIm A W H (fillL W x0 y0 x1 y1 c l l.length) 0 e w') := fun A hA => (FL W H x0 y0 x1 y1 _ l c A (row.on hA) hok hc (by omega)).mono fun e w' h => h.1 (by unfold fillW; rw [hr, hrc]; rfl)
  have HCK : Hid (∀ A, Below w.heap.size w A → Calls Try.prog 15 #[.agg #[.int .i64 W, .int .i64 H, .slice ao l.length cp]] A fun e w' => e = .returned (.int .i64 0) ∧ Below A.heap.size A w') := fun A hA => by
    have h2 := CK W H _ l A (row.on hA) hok (by omega)
    rw [hr] at h2
    exact h2
  have HRT : Hid (∀ A u, RowK .i64 A u l → Calls Try.prog 13 #[.agg #[.int .i64 W, .int .i64 H, u]] A fun e w' => e = .returned (.bool true) ∧ Below A.heap.size A w') := fun A u hu => by
    have h2 := ref11Right_c W H u l A hu
    rw [hr] at h2
    exact h2
  have HIS : Hid (∀ A u, Below w.heap.size w A → RowK .i64 A u l → Calls Try.prog 14 #[.agg #[.int .i64 W, .int .i64 H, .slice ao l.length cp], .agg #[.int .i64 W, .int .i64 H, u]] A fun e w' => e = .returned (.bool true) ∧ Below A.heap.size A w') := fun A u hA hu => lawIs_c W H _ u l A (row.on hA) hu hok (by omega)
  have HRCC := Lib.hid (fun w => RT c w hc)
  rw [hrc] at HRCC
  have okF := fillL_ok (W := W) (x0 := x0) (y0 := y0) (x1 := x1) (y1 := y1) hc hok (Nat.le_refl _)
  have lenF := fillL_len W x0 y0 x1 y1 c l l.length
  have hsd := (rightIm_iff.1 hr)
  have HRCL := Lib.hid (refColor_c c hc)
  have HRFI : Hid (∀ A u, RowK .i64 A u l → Calls Try.prog 18 #[.agg #[.int .i64 W, .int .i64 H, u], .int .i64 x0, .int .i64 y0, .int .i64 x1, .int .i64 y1, .agg #[.int .i64 (c 0), .int .i64 (c 1), .int .i64 (c 2), .int .i64 (c 3)]] A fun e w' => ∃ v, e = .returned (.agg #[.int .i64 W, .int .i64 H, v]) ∧ OwnK .i64 w' A.heap.size 43 v (fillL W x0 y0 x1 y1 c l l.length) ∧ Below A.heap.size A w') := fun A u hu => ref11Fill_c W H x0 y0 x1 y1 u c l A hu ⟨hsd.1, hsd.2.1⟩ (by omega)
  generalize fillL W x0 y0 x1 y1 c l l.length = FL at *
  have HISF : Hid (∀ A s u, RowK .u8 A s FL → RowK .i64 A u FL → Calls Try.prog 14 #[.agg #[.int .i64 W, .int .i64 H, s], .agg #[.int .i64 W, .int .i64 H, u]] A fun e w' => e = .returned (.bool true) ∧ Below A.heap.size A w') := fun A s u hs hu => lawIs_c W H s u FL A hs hu okF (by omega)
  obtain ⟨n, hn⟩ : ∃ n, l.length = n := ⟨_, rfl⟩
  have HN := Lib.hid hn
  rw [hn] at HSM HRF HFL HCK HIS ⊢
  have HNF : Hid (FL.length = n) := lenF.trans hn
  clear row hok hc h hr hn hrc okF lenF hsd
  go_enter Try.func3, Try.ntmps3
  go_wp2_with fail
  obtain ⟨w1, hw1⟩ : ∃ WW, ((w.alloc (.cells #[.int .i64 W, .int .i64 H, .slice ao n cp] 24)).alloc (.cells #[.int .i64 x0, .int .i64 y0, .int .i64 x1, .int .i64 y1] 26)).alloc (.cells #[.int .u8 (c 0), .int .u8 (c 1), .int .u8 (c 2), .int .u8 (c 3)] 28) = WW := ⟨_, rfl⟩
  have BW1 : Hid (Below w.heap.size w w1) := by
    rw [← hw1]
    exact (((Below.refl _ _).alloc (Nat.le_refl _) _).alloc (by simp) _).alloc (by simp; omega) _
  have HB1 : Hid (∀ A, Below w1.heap.size w1 A → Blk A w.heap.size 24 (#[.int .i64 W, .int .i64 H, .slice ao n cp]) ∧ Blk A (w.heap.size + 1) 26 (#[.int .i64 x0, .int .i64 y0, .int .i64 x1, .int .i64 y1]) ∧ Blk A (w.heap.size + 1 + 1) 28 (c8 c)) := fun A hA => by
      rw [← hw1] at hA
      exact ⟨(((Blk.new _ _ _).alloc _).alloc _).grow hA, ((Blk.newAt _ _ _ (by simp)).alloc _).grow hA, (Blk.newAt _ _ _ (by simp)).grow hA⟩
  rw [hw1]
  clear hw1
  have m0 := (HB1.out w1 (Below.refl _ _)).1.cell 0
  have m1 := (HB1.out w1 (Below.refl _ _)).1.cell 1
  have m2 := (HB1.out w1 (Below.refl _ _)).1.cell 2
  simp only [List.getElem?_toArray, List.getElem?_cons_zero, List.getElem?_cons_succ] at m0 m1 m2
  go_wp2_with fail
  refine (HSM.out _).mono ?_
  rintro e w2 ⟨rfl, hb⟩
  have HB2 : Hid (∀ A, Below w2.heap.size w2 A → Blk A w.heap.size 24 (#[.int .i64 W, .int .i64 H, .slice ao n cp]) ∧ Blk A (w.heap.size + 1) 26 (#[.int .i64 x0, .int .i64 y0, .int .i64 x1, .int .i64 y1]) ∧ Blk A (w.heap.size + 1 + 1) 28 (c8 c)) := fun A hA => HB1.out A (hb.trans (hA.mono hb.size))
  have BW2 : Hid (Below w.heap.size w w2) := BW1.out.trans (hb.mono BW1.out.size)
  clear hb
  clear m0 m1 m2
  have m0 := (HB2.out w2 (Below.refl _ _)).1.cell 0
  have m1 := (HB2.out w2 (Below.refl _ _)).1.cell 1
  have m2 := (HB2.out w2 (Below.refl _ _)).1.cell 2
  simp only [List.getElem?_toArray, List.getElem?_cons_zero, List.getElem?_cons_succ] at m0 m1 m2
  go_wp2_with fail
  refine (HRF.out _ BW2.out).mono ?_
  rintro e w3 ⟨u, rfl, ho, hb⟩
  have BW3 : Hid (Below w.heap.size w w3) := BW2.out.trans (hb.mono BW2.out.size)
  clear m0 m1 m2
  have HB3 : Hid (∀ A, Below w3.heap.size w3 A → Blk A w.heap.size 24 (#[.int .i64 W, .int .i64 H, .slice ao n cp]) ∧ Blk A (w.heap.size + 1) 26 (#[.int .i64 x0, .int .i64 y0, .int .i64 x1, .int .i64 y1]) ∧ Blk A (w.heap.size + 1 + 1) 28 (c8 c) ∧ RowK .i64 A u l) := fun A hA => ⟨(HB2.out A (hb.trans (hA.mono hb.size))).1, (HB2.out A (hb.trans (hA.mono hb.size))).2.1, (HB2.out A (hb.trans (hA.mono hb.size))).2.2, (ho.grow hA).row⟩
  clear hb ho
  obtain ⟨ua, uc, hu⟩ := RowK.shape (HB3.out w3 (Below.refl _ _)).2.2.2
  rw [HN.out] at hu
  subst hu
  have m0 := (HB3.out w3 (Below.refl _ _)).1.cell 0
  have m1 := (HB3.out w3 (Below.refl _ _)).1.cell 1
  have m2 := (HB3.out w3 (Below.refl _ _)).1.cell 2
  simp only [List.getElem?_toArray, List.getElem?_cons_zero, List.getElem?_cons_succ] at m0 m1 m2
  have b0 := (HB3.out w3 (Below.refl _ _)).2.1.cell 0
  have b1 := (HB3.out w3 (Below.refl _ _)).2.1.cell 1
  have b2 := (HB3.out w3 (Below.refl _ _)).2.1.cell 2
  have b3 := (HB3.out w3 (Below.refl _ _)).2.1.cell 3
  simp only [List.getElem?_toArray, List.getElem?_cons_zero, List.getElem?_cons_succ] at b0 b1 b2 b3
  obtain ⟨k0, k1, k2, k3⟩ := (HB3.out w3 (Below.refl _ _)).2.2.1.c0
  have l0 := (HB3.out w3 (Below.refl _ _)).1.lt
  have l1 := (HB3.out w3 (Below.refl _ _)).2.1.lt
  have l2 := (HB3.out w3 (Below.refl _ _)).2.2.1.lt
  go_wp2_with fail
  clear m0 m1 m2 b0 b1 b2 b3 k0 k1 k2 k3 l0 l1 l2
  obtain ⟨w4, hw⟩ : ∃ WW, w3.alloc (.cells #[.int .i64 W, .int .i64 H, .slice ua n uc] 33) = WW := ⟨_, rfl⟩
  have HB4 : Hid (∀ A, Below w4.heap.size w4 A → Blk A w.heap.size 24 (#[.int .i64 W, .int .i64 H, .slice ao n cp]) ∧ Blk A (w.heap.size + 1) 26 (#[.int .i64 x0, .int .i64 y0, .int .i64 x1, .int .i64 y1]) ∧ Blk A (w.heap.size + 1 + 1) 28 (c8 c) ∧ RowK .i64 A (.slice ua n uc) l ∧ Blk A w3.heap.size 33 (#[.int .i64 W, .int .i64 H, .slice ua n uc])) := fun A hA => by
      rw [← hw] at hA
      exact ⟨(HB3.out A (((Below.refl _ _).alloc (Nat.le_refl _) _).trans (hA.mono (by simp)))).1, (HB3.out A (((Below.refl _ _).alloc (Nat.le_refl _) _).trans (hA.mono (by simp)))).2.1, (HB3.out A (((Below.refl _ _).alloc (Nat.le_refl _) _).trans (hA.mono (by simp)))).2.2.1, (HB3.out A (((Below.refl _ _).alloc (Nat.le_refl _) _).trans (hA.mono (by simp)))).2.2.2, (Blk.new _ _ _).grow hA⟩
  have BW4 : Hid (Below w.heap.size w w4) := by
    rw [← hw]
    exact BW3.out.alloc BW3.out.size _
  rw [hw]
  clear hw
  generalize w3.heap.size = g7 at *
  refine (HFL.out _ BW4.out).mono ?_
  rintro e w5 ⟨fv, rfl, hf, hb⟩
  have BW5 : Hid (Below w.heap.size w w5) := BW4.out.trans (hb.mono BW4.out.size)
  have HB5 : Hid (∀ A, Below w5.heap.size w5 A → Blk A w.heap.size 24 (#[.int .i64 W, .int .i64 H, .slice ao n cp]) ∧ Blk A (w.heap.size + 1) 26 (#[.int .i64 x0, .int .i64 y0, .int .i64 x1, .int .i64 y1]) ∧ Blk A (w.heap.size + 1 + 1) 28 (c8 c) ∧ RowK .i64 A (.slice ua n uc) l ∧ Blk A g7 33 (#[.int .i64 W, .int .i64 H, .slice ua n uc]) ∧ RowK .u8 A fv FL) := fun A hA => ⟨(HB4.out A (hb.trans (hA.mono hb.size))).1, (HB4.out A (hb.trans (hA.mono hb.size))).2.1, (HB4.out A (hb.trans (hA.mono hb.size))).2.2.1, (HB4.out A (hb.trans (hA.mono hb.size))).2.2.2.1, (HB4.out A (hb.trans (hA.mono hb.size))).2.2.2.2, hf.on hA⟩
  clear hb hf
  obtain ⟨fa, fc, hf⟩ := RowK.shape (HB5.out w5 (Below.refl _ _)).2.2.2.2.2
  rw [HNF.out] at hf
  subst hf
  have p0 := (HB5.out w5 (Below.refl _ _)).2.2.2.2.1.cell 0
  have p1 := (HB5.out w5 (Below.refl _ _)).2.2.2.2.1.cell 1
  have p2 := (HB5.out w5 (Below.refl _ _)).2.2.2.2.1.cell 2
  simp only [List.getElem?_toArray, List.getElem?_cons_zero, List.getElem?_cons_succ] at p0 p1 p2
  have l0 := (HB5.out w5 (Below.refl _ _)).2.2.2.2.1.lt
  go_wp2_with fail
  clear p0 p1 p2 l0
  obtain ⟨w6, hw⟩ : ∃ WW, w5.alloc (.cells #[.int .i64 W, .int .i64 H, .slice fa n fc] 24) = WW := ⟨_, rfl⟩
  have HB6 : Hid (∀ A, Below w6.heap.size w6 A → Blk A w.heap.size 24 (#[.int .i64 W, .int .i64 H, .slice ao n cp]) ∧ Blk A (w.heap.size + 1) 26 (#[.int .i64 x0, .int .i64 y0, .int .i64 x1, .int .i64 y1]) ∧ Blk A (w.heap.size + 1 + 1) 28 (c8 c) ∧ RowK .i64 A (.slice ua n uc) l ∧ Blk A g7 33 (#[.int .i64 W, .int .i64 H, .slice ua n uc]) ∧ RowK .u8 A (.slice fa n fc) FL ∧ Blk A w5.heap.size 24 (#[.int .i64 W, .int .i64 H, .slice fa n fc])) := fun A hA => by
      rw [← hw] at hA
      exact ⟨(HB5.out A (((Below.refl _ _).alloc (Nat.le_refl _) _).trans (hA.mono (by simp)))).1, (HB5.out A (((Below.refl _ _).alloc (Nat.le_refl _) _).trans (hA.mono (by simp)))).2.1, (HB5.out A (((Below.refl _ _).alloc (Nat.le_refl _) _).trans (hA.mono (by simp)))).2.2.1, (HB5.out A (((Below.refl _ _).alloc (Nat.le_refl _) _).trans (hA.mono (by simp)))).2.2.2.1, (HB5.out A (((Below.refl _ _).alloc (Nat.le_refl _) _).trans (hA.mono (by simp)))).2.2.2.2.1, (HB5.out A (((Below.refl _ _).alloc (Nat.le_refl _) _).trans (hA.mono (by simp)))).2.2.2.2.2, (Blk.new _ _ _).grow hA⟩
  have BW6 : Hid (Below w.heap.size w w6) := by
    rw [← hw]
    exact BW5.out.alloc BW5.out.size _
  rw [hw]
  clear hw
  generalize w5.heap.size = g8 at *
  refine (HRT.out _ _ (HB6.out w6 (Below.refl _ _)).2.2.2.1).mono ?_
  rintro e w7 ⟨rfl, hb⟩
  have HB7 : Hid (∀ A, Below w7.heap.size w7 A → Blk A w.heap.size 24 (#[.int .i64 W, .int .i64 H, .slice ao n cp]) ∧ Blk A (w.heap.size + 1) 26 (#[.int .i64 x0, .int .i64 y0, .int .i64 x1, .int .i64 y1]) ∧ Blk A (w.heap.size + 1 + 1) 28 (c8 c) ∧ RowK .i64 A (.slice ua n uc) l ∧ Blk A g7 33 (#[.int .i64 W, .int .i64 H, .slice ua n uc]) ∧ RowK .u8 A (.slice fa n fc) FL ∧ Blk A g8 24 (#[.int .i64 W, .int .i64 H, .slice fa n fc])) := fun A hA => HB6.out A (hb.trans (hA.mono hb.size))
  have BW7 : Hid (Below w.heap.size w w7) := BW6.out.trans (hb.mono BW6.out.size)
  clear hb
  have m0 := (HB7.out w7 (Below.refl _ _)).1.cell 0
  have m1 := (HB7.out w7 (Below.refl _ _)).1.cell 1
  have m2 := (HB7.out w7 (Below.refl _ _)).1.cell 2
  simp only [List.getElem?_toArray, List.getElem?_cons_zero, List.getElem?_cons_succ] at m0 m1 m2
  have p0 := (HB7.out w7 (Below.refl _ _)).2.2.2.2.1.cell 0
  have p1 := (HB7.out w7 (Below.refl _ _)).2.2.2.2.1.cell 1
  have p2 := (HB7.out w7 (Below.refl _ _)).2.2.2.2.1.cell 2
  simp only [List.getElem?_toArray, List.getElem?_cons_zero, List.getElem?_cons_succ] at p0 p1 p2
  go_wp2_with fail
  refine (HIS.out _ _ BW7.out (HB7.out w7 (Below.refl _ _)).2.2.2.1).mono ?_
  rintro e w8 ⟨rfl, hb⟩
  have HB8 : Hid (∀ A, Below w8.heap.size w8 A → Blk A w.heap.size 24 (#[.int .i64 W, .int .i64 H, .slice ao n cp]) ∧ Blk A (w.heap.size + 1) 26 (#[.int .i64 x0, .int .i64 y0, .int .i64 x1, .int .i64 y1]) ∧ Blk A (w.heap.size + 1 + 1) 28 (c8 c) ∧ RowK .i64 A (.slice ua n uc) l ∧ Blk A g7 33 (#[.int .i64 W, .int .i64 H, .slice ua n uc]) ∧ RowK .u8 A (.slice fa n fc) FL ∧ Blk A g8 24 (#[.int .i64 W, .int .i64 H, .slice fa n fc])) := fun A hA => HB7.out A (hb.trans (hA.mono hb.size))
  have BW8 : Hid (Below w.heap.size w w8) := BW7.out.trans (hb.mono BW7.out.size)
  clear hb
  clear m0 m1 m2 p0 p1 p2
  have m0 := (HB8.out w8 (Below.refl _ _)).1.cell 0
  have m1 := (HB8.out w8 (Below.refl _ _)).1.cell 1
  have m2 := (HB8.out w8 (Below.refl _ _)).1.cell 2
  simp only [List.getElem?_toArray, List.getElem?_cons_zero, List.getElem?_cons_succ] at m0 m1 m2
  go_wp2_with fail
  refine (HCK.out _ BW8.out).mono ?_
  rintro e w9 ⟨rfl, hb⟩
  have HB9 : Hid (∀ A, Below w9.heap.size w9 A → Blk A w.heap.size 24 (#[.int .i64 W, .int .i64 H, .slice ao n cp]) ∧ Blk A (w.heap.size + 1) 26 (#[.int .i64 x0, .int .i64 y0, .int .i64 x1, .int .i64 y1]) ∧ Blk A (w.heap.size + 1 + 1) 28 (c8 c) ∧ RowK .i64 A (.slice ua n uc) l ∧ Blk A g7 33 (#[.int .i64 W, .int .i64 H, .slice ua n uc]) ∧ RowK .u8 A (.slice fa n fc) FL ∧ Blk A g8 24 (#[.int .i64 W, .int .i64 H, .slice fa n fc])) := fun A hA => HB8.out A (hb.trans (hA.mono hb.size))
  have BW9 : Hid (Below w.heap.size w w9) := BW8.out.trans (hb.mono BW8.out.size)
  clear hb
  clear m0 m1 m2
  obtain ⟨k0, k1, k2, k3⟩ := Blk.c0 (show Blk w9 (w.heap.size + 1 + 1) 28 (c8 c) from (HB9.out w9 (Below.refl _ _)).2.2.1)
  go_wp2_with fail
  refine (HRCC.out _).mono ?_
  rintro e w10 ⟨rfl, hb⟩
  have HB10 : Hid (∀ A, Below w10.heap.size w10 A → Blk A w.heap.size 24 (#[.int .i64 W, .int .i64 H, .slice ao n cp]) ∧ Blk A (w.heap.size + 1) 26 (#[.int .i64 x0, .int .i64 y0, .int .i64 x1, .int .i64 y1]) ∧ Blk A (w.heap.size + 1 + 1) 28 (c8 c) ∧ RowK .i64 A (.slice ua n uc) l ∧ Blk A g7 33 (#[.int .i64 W, .int .i64 H, .slice ua n uc]) ∧ RowK .u8 A (.slice fa n fc) FL ∧ Blk A g8 24 (#[.int .i64 W, .int .i64 H, .slice fa n fc])) := fun A hA => HB9.out A (hb.trans (hA.mono hb.size))
  have BW10 : Hid (Below w.heap.size w w10) := BW9.out.trans (hb.mono BW9.out.size)
  clear hb
  clear k0 k1 k2 k3
  go_wp2_with fail
  refine wp_region_put3 (by kernel_rfl) (by kernel_rfl) (by kernel_rfl) (fun b' vs w' => (b' 0 = true → vs 0 = .int .i64 0) ∧ (b' 1 = true → vs 1 = .bool true) ∧ (b' 2 = true → vs 2 = .bool true) ∧ (b' 3 = true → vs 3 = .agg #[.int .i64 W, .int .i64 H, .slice fa n fc]) ∧ (b' 4 = true → vs 4 = .agg #[.int .i64 W, .int .i64 H, .slice ua n uc]) ∧ (b' 5 = true → vs 5 = .pointer (some ⟨w.heap.size + 1, 0, none⟩)) ∧ (b' 6 = true → vs 6 = .int .i64 x0) ∧ (b' 7 = true → vs 7 = .pointer (some ⟨w.heap.size + 1, 1, none⟩)) ∧ (b' 8 = true → vs 8 = .int .i64 y0) ∧ (b' 9 = true → vs 9 = .pointer (some ⟨w.heap.size + 1, 2, none⟩)) ∧ (b' 10 = true → vs 10 = .int .i64 x1) ∧ (b' 11 = true → vs 11 = .pointer (some ⟨w.heap.size + 1, 3, none⟩)) ∧ (b' 12 = true → vs 12 = .int .i64 y1) ∧ (b' 13 = true → vs 13 = .agg #[.int .u8 (c 0), .int .u8 (c 1), .int .u8 (c 2), .int .u8 (c 3)]) ∧ (b' 14 = true → vs 14 = .agg #[.int .i64 (c 0), .int .i64 (c 1), .int .i64 (c 2), .int .i64 (c 3)]) ∧ (b' 16 = true → vs 16 = .bool true) ∧ (b' 17 = true → vs 17 = .bool true) ∧ (b' 18 = true → vs 18 = .bool true) ∧ (b' 19 = true → vs 19 = .bool true) ∧ (b' 20 = true → vs 20 = .bool true) ∧ (b' 21 = true → vs 21 = .bool true) ∧ (b' 15 = true → Hid (∃ v', (vs 15) = .agg #[.int .i64 W, .int .i64 H, v'] ∧ RowK .i64 w' v' FL)) ∧ (Hid (Below w10.heap.size w10 w' ∧ w10.heap.size ≤ w'.heap.size))) ?_ ?_ ?_
  · intro vs
    exact ⟨fun h => Bool.noConfusion h, fun h => Bool.noConfusion h, fun h => Bool.noConfusion h, fun h => Bool.noConfusion h, fun h => Bool.noConfusion h, fun h => Bool.noConfusion h, fun h => Bool.noConfusion h, fun h => Bool.noConfusion h, fun h => Bool.noConfusion h, fun h => Bool.noConfusion h, fun h => Bool.noConfusion h, fun h => Bool.noConfusion h, fun h => Bool.noConfusion h, fun h => Bool.noConfusion h, fun h => Bool.noConfusion h, fun h => Bool.noConfusion h, fun h => Bool.noConfusion h, fun h => Bool.noConfusion h, fun h => Bool.noConfusion h, fun h => Bool.noConfusion h, fun h => Bool.noConfusion h, fun h => Bool.noConfusion h, Lib.hid ⟨below_drewN (Below.refl _ _) 1, Nat.le_refl _⟩⟩
  · rintro b' vs w' i op hi hun hall ⟨h0, h1, h2, h3, h4, h5, h6, h7, h8, h9, h10, h11, h12, h13, h14, h16, h17, h18, h19, h20, h21, y15, hB⟩
    have hil : i < 22 := (List.getElem?_eq_some_iff.1 hi).1
    rcases i with _ | _ | _ | _ | _ | _ | _ | _ | _ | _ | _ | _ | _ | _ | _ | _ | _ | _ | _ | _ | _ | _ | i
    · obtain rfl := Option.some.inj hi
      clear hi hil
      refine StepOk.plain rfl (fun K hK => ?_)
      have HKK := Lib.hid hK; clear hK
      simp only [putAll, Act.put, List.setIfInBounds_toArray, List.set_cons_zero, List.set_cons_succ]
      go_simp
      exact HKK.out _ _ ⟨_, by simp only [putAll, Act.put, List.setIfInBounds_toArray, List.set_cons_zero, List.set_cons_succ] <;> rfl, fun _ => rfl, h1, h2, h3, h4, h5, h6, h7, h8, h9, h10, h11, h12, h13, h14, h16, h17, h18, h19, h20, h21, y15, hB⟩
    · obtain rfl := Option.some.inj hi
      clear hi hil
      have d0 := h0 (hall ⟨0, .data⟩ (by simp) rfl)
      refine StepOk.plain rfl (fun K hK => ?_)
      have HKK := Lib.hid hK; clear hK
      simp only [putAll, Act.put, List.setIfInBounds_toArray, List.set_cons_zero, List.set_cons_succ]
      go_simp
      exact HKK.out _ _ ⟨_, by simp only [putAll, Act.put, List.setIfInBounds_toArray, List.set_cons_zero, List.set_cons_succ, d0] <;> rfl, h0, fun _ => rfl, h2, h3, h4, h5, h6, h7, h8, h9, h10, h11, h12, h13, h14, h16, h17, h18, h19, h20, h21, y15, hB⟩
    · obtain rfl := Option.some.inj hi
      clear hi hil
      have d1 := h1 (hall ⟨1, .data⟩ (by simp) rfl)
      refine StepOk.plain rfl (fun K hK => ?_)
      have HKK := Lib.hid hK; clear hK
      simp only [putAll, Act.put, List.setIfInBounds_toArray, List.set_cons_zero, List.set_cons_succ]
      go_simp
      exact HKK.out _ _ ⟨_, by simp only [putAll, Act.put, List.setIfInBounds_toArray, List.set_cons_zero, List.set_cons_succ, d1] <;> rfl, h0, h1, fun _ => rfl, h3, h4, h5, h6, h7, h8, h9, h10, h11, h12, h13, h14, h16, h17, h18, h19, h20, h21, y15, hB⟩
    · obtain rfl := Option.some.inj hi
      clear hi hil
      have d2 := h2 (hall ⟨2, .guard⟩ (by simp) rfl)
      have p0 := (HB10.out w' hB.out.1).2.2.2.2.2.2.cell 0
      have p1 := (HB10.out w' hB.out.1).2.2.2.2.2.2.cell 1
      have p2 := (HB10.out w' hB.out.1).2.2.2.2.2.2.cell 2
      simp only [List.getElem?_toArray, List.getElem?_cons_zero, List.getElem?_cons_succ] at p0 p1 p2
      refine StepOk.on 2 true rfl rfl d2 (fun K hK => ?_)
      have HKK := Lib.hid hK; clear hK
      simp only [putAll, Act.put, List.setIfInBounds_toArray, List.set_cons_zero, List.set_cons_succ]
      go_simp
      exact HKK.out _ _ ⟨_, by simp only [putAll, Act.put, List.setIfInBounds_toArray, List.set_cons_zero, List.set_cons_succ, d2] <;> rfl, h0, h1, h2, fun _ => rfl, h4, h5, h6, h7, h8, h9, h10, h11, h12, h13, h14, h16, h17, h18, h19, h20, h21, y15, hB⟩
    · obtain rfl := Option.some.inj hi
      clear hi hil
      have d2 := h2 (hall ⟨2, .guard⟩ (by simp) rfl)
      have p0 := (HB10.out w' hB.out.1).2.2.2.2.1.cell 0
      have p1 := (HB10.out w' hB.out.1).2.2.2.2.1.cell 1
      have p2 := (HB10.out w' hB.out.1).2.2.2.2.1.cell 2
      simp only [List.getElem?_toArray, List.getElem?_cons_zero, List.getElem?_cons_succ] at p0 p1 p2
      refine StepOk.on 2 true rfl rfl d2 (fun K hK => ?_)
      have HKK := Lib.hid hK; clear hK
      simp only [putAll, Act.put, List.setIfInBounds_toArray, List.set_cons_zero, List.set_cons_succ]
      go_simp
      exact HKK.out _ _ ⟨_, by simp only [putAll, Act.put, List.setIfInBounds_toArray, List.set_cons_zero, List.set_cons_succ, d2] <;> rfl, h0, h1, h2, h3, fun _ => rfl, h5, h6, h7, h8, h9, h10, h11, h12, h13, h14, h16, h17, h18, h19, h20, h21, y15, hB⟩
    · obtain rfl := Option.some.inj hi
      clear hi hil
      have d2 := h2 (hall ⟨2, .guard⟩ (by simp) rfl)
      refine StepOk.on 2 true rfl rfl d2 (fun K hK => ?_)
      have HKK := Lib.hid hK; clear hK
      simp only [putAll, Act.put, List.setIfInBounds_toArray, List.set_cons_zero, List.set_cons_succ]
      go_simp
      exact HKK.out _ _ ⟨_, by simp only [putAll, Act.put, List.setIfInBounds_toArray, List.set_cons_zero, List.set_cons_succ, d2] <;> rfl, h0, h1, h2, h3, h4, fun _ => rfl, h6, h7, h8, h9, h10, h11, h12, h13, h14, h16, h17, h18, h19, h20, h21, y15, hB⟩
    · obtain rfl := Option.some.inj hi
      clear hi hil
      have d5 := h5 (hall ⟨5, .data⟩ (by simp) rfl)
      have d2 := h2 (hall ⟨2, .guard⟩ (by simp) rfl)
      have p0 := (HB10.out w' hB.out.1).2.1.cell 0
      simp only [List.getElem?_toArray, List.getElem?_cons_zero] at p0
      refine StepOk.on 2 true rfl rfl d2 (fun K hK => ?_)
      have HKK := Lib.hid hK; clear hK
      simp only [putAll, Act.put, List.setIfInBounds_toArray, List.set_cons_zero, List.set_cons_succ]
      go_simp
      exact HKK.out _ _ ⟨_, by simp only [putAll, Act.put, List.setIfInBounds_toArray, List.set_cons_zero, List.set_cons_succ, d5, d2] <;> rfl, h0, h1, h2, h3, h4, h5, fun _ => rfl, h7, h8, h9, h10, h11, h12, h13, h14, h16, h17, h18, h19, h20, h21, y15, hB⟩
    · obtain rfl := Option.some.inj hi
      clear hi hil
      have d2 := h2 (hall ⟨2, .guard⟩ (by simp) rfl)
      refine StepOk.on 2 true rfl rfl d2 (fun K hK => ?_)
      have HKK := Lib.hid hK; clear hK
      simp only [putAll, Act.put, List.setIfInBounds_toArray, List.set_cons_zero, List.set_cons_succ]
      go_simp
      exact HKK.out _ _ ⟨_, by simp only [putAll, Act.put, List.setIfInBounds_toArray, List.set_cons_zero, List.set_cons_succ, d2] <;> rfl, h0, h1, h2, h3, h4, h5, h6, fun _ => rfl, h8, h9, h10, h11, h12, h13, h14, h16, h17, h18, h19, h20, h21, y15, hB⟩
    · obtain rfl := Option.some.inj hi
      clear hi hil
      have d7 := h7 (hall ⟨7, .data⟩ (by simp) rfl)
      have d2 := h2 (hall ⟨2, .guard⟩ (by simp) rfl)
      have p0 := (HB10.out w' hB.out.1).2.1.cell 1
      simp only [List.getElem?_toArray, List.getElem?_cons_zero, List.getElem?_cons_succ] at p0
      refine StepOk.on 2 true rfl rfl d2 (fun K hK => ?_)
      have HKK := Lib.hid hK; clear hK
      simp only [putAll, Act.put, List.setIfInBounds_toArray, List.set_cons_zero, List.set_cons_succ]
      go_simp
      exact HKK.out _ _ ⟨_, by simp only [putAll, Act.put, List.setIfInBounds_toArray, List.set_cons_zero, List.set_cons_succ, d7, d2] <;> rfl, h0, h1, h2, h3, h4, h5, h6, h7, fun _ => rfl, h9, h10, h11, h12, h13, h14, h16, h17, h18, h19, h20, h21, y15, hB⟩
    · obtain rfl := Option.some.inj hi
      clear hi hil
      have d2 := h2 (hall ⟨2, .guard⟩ (by simp) rfl)
      refine StepOk.on 2 true rfl rfl d2 (fun K hK => ?_)
      have HKK := Lib.hid hK; clear hK
      simp only [putAll, Act.put, List.setIfInBounds_toArray, List.set_cons_zero, List.set_cons_succ]
      go_simp
      exact HKK.out _ _ ⟨_, by simp only [putAll, Act.put, List.setIfInBounds_toArray, List.set_cons_zero, List.set_cons_succ, d2] <;> rfl, h0, h1, h2, h3, h4, h5, h6, h7, h8, fun _ => rfl, h10, h11, h12, h13, h14, h16, h17, h18, h19, h20, h21, y15, hB⟩
    · obtain rfl := Option.some.inj hi
      clear hi hil
      have d9 := h9 (hall ⟨9, .data⟩ (by simp) rfl)
      have d2 := h2 (hall ⟨2, .guard⟩ (by simp) rfl)
      have p0 := (HB10.out w' hB.out.1).2.1.cell 2
      simp only [List.getElem?_toArray, List.getElem?_cons_zero, List.getElem?_cons_succ] at p0
      refine StepOk.on 2 true rfl rfl d2 (fun K hK => ?_)
      have HKK := Lib.hid hK; clear hK
      simp only [putAll, Act.put, List.setIfInBounds_toArray, List.set_cons_zero, List.set_cons_succ]
      go_simp
      exact HKK.out _ _ ⟨_, by simp only [putAll, Act.put, List.setIfInBounds_toArray, List.set_cons_zero, List.set_cons_succ, d9, d2] <;> rfl, h0, h1, h2, h3, h4, h5, h6, h7, h8, h9, fun _ => rfl, h11, h12, h13, h14, h16, h17, h18, h19, h20, h21, y15, hB⟩
    · obtain rfl := Option.some.inj hi
      clear hi hil
      have d2 := h2 (hall ⟨2, .guard⟩ (by simp) rfl)
      refine StepOk.on 2 true rfl rfl d2 (fun K hK => ?_)
      have HKK := Lib.hid hK; clear hK
      simp only [putAll, Act.put, List.setIfInBounds_toArray, List.set_cons_zero, List.set_cons_succ]
      go_simp
      exact HKK.out _ _ ⟨_, by simp only [putAll, Act.put, List.setIfInBounds_toArray, List.set_cons_zero, List.set_cons_succ, d2] <;> rfl, h0, h1, h2, h3, h4, h5, h6, h7, h8, h9, h10, fun _ => rfl, h12, h13, h14, h16, h17, h18, h19, h20, h21, y15, hB⟩
    · obtain rfl := Option.some.inj hi
      clear hi hil
      have d11 := h11 (hall ⟨11, .data⟩ (by simp) rfl)
      have d2 := h2 (hall ⟨2, .guard⟩ (by simp) rfl)
      have p0 := (HB10.out w' hB.out.1).2.1.cell 3
      simp only [List.getElem?_toArray, List.getElem?_cons_zero, List.getElem?_cons_succ] at p0
      refine StepOk.on 2 true rfl rfl d2 (fun K hK => ?_)
      have HKK := Lib.hid hK; clear hK
      simp only [putAll, Act.put, List.setIfInBounds_toArray, List.set_cons_zero, List.set_cons_succ]
      go_simp
      exact HKK.out _ _ ⟨_, by simp only [putAll, Act.put, List.setIfInBounds_toArray, List.set_cons_zero, List.set_cons_succ, d11, d2] <;> rfl, h0, h1, h2, h3, h4, h5, h6, h7, h8, h9, h10, h11, fun _ => rfl, h13, h14, h16, h17, h18, h19, h20, h21, y15, hB⟩
    · obtain rfl := Option.some.inj hi
      clear hi hil
      have d2 := h2 (hall ⟨2, .guard⟩ (by simp) rfl)
      obtain ⟨c0, c1, c2, c3⟩ := Blk.c0 (show Blk w' (w.heap.size + 1 + 1) 28 (c8 c) from (HB10.out w' hB.out.1).2.2.1)
      refine StepOk.on 2 true rfl rfl d2 (fun K hK => ?_)
      have HKK := Lib.hid hK; clear hK
      simp only [putAll, Act.put, List.setIfInBounds_toArray, List.set_cons_zero, List.set_cons_succ]
      go_simp
      exact HKK.out _ _ ⟨_, by simp only [putAll, Act.put, List.setIfInBounds_toArray, List.set_cons_zero, List.set_cons_succ, d2] <;> rfl, h0, h1, h2, h3, h4, h5, h6, h7, h8, h9, h10, h11, h12, fun _ => rfl, h14, h16, h17, h18, h19, h20, h21, y15, hB⟩
    · obtain rfl := Option.some.inj hi
      clear hi hil
      have d13 := h13 (hall ⟨13, .data⟩ (by simp) rfl)
      have d2 := h2 (hall ⟨2, .guard⟩ (by simp) rfl)
      refine StepOk.on 2 true rfl rfl d2 (fun K hK => ?_)
      have HKK := Lib.hid hK; clear hK
      simp only [putAll, Act.put, List.setIfInBounds_toArray, List.set_cons_zero, List.set_cons_succ]
      go_simp
      refine (HRCL.out _).mono ?_
      rintro e w2 ⟨rfl, hb2⟩
      exact HKK.out _ _ ⟨_, by simp only [putAll, Act.put, List.setIfInBounds_toArray, List.set_cons_zero, List.set_cons_succ, d13, d2] <;> rfl, h0, h1, h2, h3, h4, h5, h6, h7, h8, h9, h10, h11, h12, h13, fun _ => rfl, h16, h17, h18, h19, h20, h21, fun h => Lib.hid (let ⟨v1, h1, h2⟩ := (y15 h).out; ⟨v1, h1, h2.on hb2⟩), Lib.hid ⟨(hB).out.1.trans (hb2.mono (hB).out.2), Nat.le_trans (hB).out.2 hb2.size⟩⟩
    · obtain rfl := Option.some.inj hi
      clear hi hil
      have d4 := h4 (hall ⟨4, .data⟩ (by simp) rfl)
      have d6 := h6 (hall ⟨6, .data⟩ (by simp) rfl)
      have d8 := h8 (hall ⟨8, .data⟩ (by simp) rfl)
      have d10 := h10 (hall ⟨10, .data⟩ (by simp) rfl)
      have d12 := h12 (hall ⟨12, .data⟩ (by simp) rfl)
      have d14 := h14 (hall ⟨14, .data⟩ (by simp) rfl)
      have d2 := h2 (hall ⟨2, .guard⟩ (by simp) rfl)
      refine StepOk.on 2 true rfl rfl d2 (fun K hK => ?_)
      have HKK := Lib.hid hK; clear hK
      simp only [putAll, Act.put, List.setIfInBounds_toArray, List.set_cons_zero, List.set_cons_succ]
      go_simp
      refine (HRFI.out w' _ (HB10.out w' hB.out.1).2.2.2.1).mono ?_
      rintro e w2 ⟨v2, rfl, ho2, hb2⟩
      exact HKK.out _ _ ⟨_, by simp only [putAll, Act.put, List.setIfInBounds_toArray, List.set_cons_zero, List.set_cons_succ, d4, d6, d8, d10, d12, d14, d2] <;> rfl, h0, h1, h2, h3, h4, h5, h6, h7, h8, h9, h10, h11, h12, h13, h14, h16, h17, h18, h19, h20, h21, fun _ => Lib.hid (⟨_, rfl, ho2.row⟩), Lib.hid ⟨(hB).out.1.trans (hb2.mono (hB).out.2), Nat.le_trans (hB).out.2 hb2.size⟩⟩
    · obtain rfl := Option.some.inj hi
      clear hi hil
      have d3 := h3 (hall ⟨3, .data⟩ (by simp) rfl)
      have o15 := y15 (hall ⟨15, .data⟩ (by simp) rfl)
      have d2 := h2 (hall ⟨2, .guard⟩ (by simp) rfl)
      obtain ⟨v1, e15, hr15⟩ := o15.out
      refine StepOk.on 2 true rfl rfl d2 (fun K hK => ?_)
      have HKK := Lib.hid hK; clear hK
      simp only [putAll, Act.put, List.setIfInBounds_toArray, List.set_cons_zero, List.set_cons_succ]
      go_simp
      refine (HISF.out w' _ _ (HB10.out w' hB.out.1).2.2.2.2.2.1 hr15).mono ?_
      rintro e w2 ⟨rfl, hb2⟩
      exact HKK.out _ _ ⟨_, by simp only [putAll, Act.put, List.setIfInBounds_toArray, List.set_cons_zero, List.set_cons_succ, d3, d2, e15] <;> rfl, h0, h1, h2, h3, h4, h5, h6, h7, h8, h9, h10, h11, h12, h13, h14, fun _ => rfl, h17, h18, h19, h20, h21, fun h => Lib.hid (let ⟨v1, h1, h2⟩ := (y15 h).out; ⟨v1, h1, h2.on hb2⟩), Lib.hid ⟨(hB).out.1.trans (hb2.mono (hB).out.2), Nat.le_trans (hB).out.2 hb2.size⟩⟩
    · obtain rfl := Option.some.inj hi
      clear hi hil
      have d2 := h2 (hall ⟨2, .data⟩ (by simp) rfl)
      have d16 := h16 (hall ⟨16, .data⟩ (by simp) rfl)
      refine StepOk.plain rfl (fun K hK => ?_)
      have HKK := Lib.hid hK; clear hK
      simp only [putAll, Act.put, List.setIfInBounds_toArray, List.set_cons_zero, List.set_cons_succ]
      go_simp
      exact HKK.out _ _ ⟨_, by simp only [putAll, Act.put, List.setIfInBounds_toArray, List.set_cons_zero, List.set_cons_succ, d2, d16] <;> rfl, h0, h1, h2, h3, h4, h5, h6, h7, h8, h9, h10, h11, h12, h13, h14, h16, fun _ => rfl, h18, h19, h20, h21, y15, hB⟩
    · obtain rfl := Option.some.inj hi
      clear hi hil
      have d17 := h17 (hall ⟨17, .data⟩ (by simp) rfl)
      refine StepOk.plain rfl (fun K hK => ?_)
      have HKK := Lib.hid hK; clear hK
      simp only [putAll, Act.put, List.setIfInBounds_toArray, List.set_cons_zero, List.set_cons_succ]
      go_simp
      exact HKK.out _ _ ⟨_, by simp only [putAll, Act.put, List.setIfInBounds_toArray, List.set_cons_zero, List.set_cons_succ, d17] <;> rfl, h0, h1, h2, h3, h4, h5, h6, h7, h8, h9, h10, h11, h12, h13, h14, h16, h17, fun _ => rfl, h19, h20, h21, y15, hB⟩
    · obtain rfl := Option.some.inj hi
      clear hi hil
      have d18 := h18 (hall ⟨18, .guard⟩ (by simp) rfl)
      refine StepOk.on 18 true rfl rfl d18 (fun K hK => ?_)
      have HKK := Lib.hid hK; clear hK
      simp only [putAll, Act.put, List.setIfInBounds_toArray, List.set_cons_zero, List.set_cons_succ]
      go_simp
      refine (HAW.out _).mono ?_
      rintro e w2 ⟨rfl, hb2⟩
      exact HKK.out _ _ ⟨_, by simp only [putAll, Act.put, List.setIfInBounds_toArray, List.set_cons_zero, List.set_cons_succ, d18] <;> rfl, h0, h1, h2, h3, h4, h5, h6, h7, h8, h9, h10, h11, h12, h13, h14, h16, h17, h18, fun _ => rfl, h20, h21, fun h => Lib.hid (let ⟨v1, h1, h2⟩ := (y15 h).out; ⟨v1, h1, h2.on hb2⟩), Lib.hid ⟨(hB).out.1.trans (hb2.mono (hB).out.2), Nat.le_trans (hB).out.2 hb2.size⟩⟩
    · obtain rfl := Option.some.inj hi
      clear hi hil
      have d18 := h18 (hall ⟨18, .data⟩ (by simp) rfl)
      have d19 := h19 (hall ⟨19, .data⟩ (by simp) rfl)
      refine StepOk.plain rfl (fun K hK => ?_)
      have HKK := Lib.hid hK; clear hK
      simp only [putAll, Act.put, List.setIfInBounds_toArray, List.set_cons_zero, List.set_cons_succ]
      go_simp
      exact HKK.out _ _ ⟨_, by simp only [putAll, Act.put, List.setIfInBounds_toArray, List.set_cons_zero, List.set_cons_succ, d18, d19] <;> rfl, h0, h1, h2, h3, h4, h5, h6, h7, h8, h9, h10, h11, h12, h13, h14, h16, h17, h18, h19, fun _ => rfl, h21, y15, hB⟩
    · obtain rfl := Option.some.inj hi
      clear hi hil
      have d20 := h20 (hall ⟨20, .data⟩ (by simp) rfl)
      refine StepOk.plain rfl (fun K hK => ?_)
      have HKK := Lib.hid hK; clear hK
      simp only [putAll, Act.put, List.setIfInBounds_toArray, List.set_cons_zero, List.set_cons_succ]
      go_simp
      exact HKK.out _ _ ⟨_, by simp only [putAll, Act.put, List.setIfInBounds_toArray, List.set_cons_zero, List.set_cons_succ, d20] <;> rfl, h0, h1, h2, h3, h4, h5, h6, h7, h8, h9, h10, h11, h12, h13, h14, h16, h17, h18, h19, h20, fun _ => rfl, y15, hB⟩
    · omega
  · rintro b' vs w2 hall ⟨h0, h1, h2, h3, h4, h5, h6, h7, h8, h9, h10, h11, h12, h13, h14, h16, h17, h18, h19, h20, h21, y15, hB⟩
    have d0 := h0 (hall 0 (by simp))
    have d1 := h1 (hall 1 (by simp))
    have d2 := h2 (hall 2 (by simp))
    have d3 := h3 (hall 3 (by simp))
    have d4 := h4 (hall 4 (by simp))
    have d5 := h5 (hall 5 (by simp))
    have d6 := h6 (hall 6 (by simp))
    have d7 := h7 (hall 7 (by simp))
    have d8 := h8 (hall 8 (by simp))
    have d9 := h9 (hall 9 (by simp))
    have d10 := h10 (hall 10 (by simp))
    have d11 := h11 (hall 11 (by simp))
    have d12 := h12 (hall 12 (by simp))
    have d13 := h13 (hall 13 (by simp))
    have d14 := h14 (hall 14 (by simp))
    have d16 := h16 (hall 16 (by simp))
    have d17 := h17 (hall 17 (by simp))
    have d18 := h18 (hall 18 (by simp))
    have d19 := h19 (hall 19 (by simp))
    have d20 := h20 (hall 20 (by simp))
    have d21 := h21 (hall 21 (by simp))
    have o15 := y15 (hall 15 (by simp))
    have BB := hB
    simp only [putAll, Act.put, List.setIfInBounds_toArray, List.set_cons_zero, List.set_cons_succ, d0, d1, d2, d3, d4, d5, d6, d7, d8, d9, d10, d11, d12, d13, d14, d16, d17, d18, d19, d20, d21]
    clear hall h0 d0 h1 d1 h2 d2 h3 d3 h4 d4 h5 d5 h6 d6 h7 d7 h8 d8 h9 d9 h10 d10 h11 d11 h12 d12 h13 d13 h14 d14 h16 d16 h17 d17 h18 d18 h19 d19 h20 d20 h21 d21 y15 hB
    have BWZ : Hid (Below w.heap.size w w2) := BW10.out.trans (BB.out.1.mono BW10.out.size)
    clear BB
    go_wp2_with fail
    go_ret
    exact ⟨rfl, BWZ.out⟩
theorem imageFills_law (AW : AwakeOk) (CK : CheckOk) (FL : FillOk) (RT : RightOk) (W H x0 y0 x1 y1 : Int) (s : Value) (l : List Col) (c : Col) (w : World) (row : RowK .u8 w s l) (hok : ∀ c ∈ l, OkC c) (hc : OkC c) : Calls Try.prog 3 #[.agg #[.int .i64 W, .int .i64 H, s], .agg #[.int .i64 x0, .int .i64 y0, .int .i64 x1, .int .i64 y1], .agg #[.int .u8 (c 0), .int .u8 (c 1), .int .u8 (c 2), .int .u8 (c 3)]] w fun e w' => e = .returned (.bool true) ∧ Below w.heap.size w w' := by
  by_cases h : 400 < l.length
  · exact imageFills_big AW W H x0 y0 x1 y1 s l c w row h
  have h4 : l.length ≤ 400 := by omega
  cases hr : rightIm W H l
  case false => exact imageFills_n AW CK FL W H x0 y0 x1 y1 s l c w row hok hc h4 hr
  cases hrc : rightC c
  case false => exact imageFills_c AW CK FL RT W H x0 y0 x1 y1 s l c w row hok hc h4 hr hrc
  exact imageFills_y AW CK FL RT W H x0 y0 x1 y1 s l c w row hok hc h4 hr hrc
end Go.Proofs.Ytoppmlfibllhlaa

