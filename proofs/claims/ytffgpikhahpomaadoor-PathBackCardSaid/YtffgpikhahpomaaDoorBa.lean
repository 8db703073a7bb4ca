/- Layer 6: the law PathBack. -/
import Derived.Test.YtffgpikhahpomaaDoorSv
import Derived.BigQuiet
import Derived.StillTailTactics
namespace Go.Proofs.YtffgpikhahpomaaDoor
open Go.RowKit
def Sg.pt (s : Sg) (j : Nat) : Pt := if j = 0 then s.p else if j = 1 then s.q else s.r
set_option maxHeartbeats 4000000 in
set_option maxRecDepth 100000 in
theorem back_long (ao : Option Addr) (n c : Nat) (i k : Int) (s : Sg) (x y : Int) (w : World) (hr : Rd w) (hl : 100 < n) : Calls Tryd.prog 8 #[.agg (editCells (.slice ao n c) i k s x y)] w fun e w' => e = .returned (.bool true) ∧ Below w.heap.size w w' := by
  have HR := Lib.hid hr
  have hd : decide ((n : Int) > 100) = true := decide_eq_true (by omega)
  clear hl hr
  obtain ⟨w0, hw0⟩ : ∃ w0, w.alloc (.cells (editCells (.slice ao n c) i k s x y) 50) = w0 := ⟨_, rfl⟩
  have HB0 : Hid (Below w.heap.size w w0) := by rw [← hw0]; exact (Below.refl _ _).alloc (Nat.le_refl _) _
  have HW0 := Lib.hid hw0
  clear hw0
  go_enter Tryd.func8, Tryd.ntmps8
  go_wp2_with fail
  rw [show w.alloc (.cells (editCells (.slice ao n c) i k s x y) 50) = w0 from HW0.out]
  refine (awake_c _ (HR.out.on HB0.out)).mono ?_
  rintro e w1 ⟨rfl, hb⟩
  have HB := Lib.hid (below_next HB0.out hb); clear hb
  go_wp2_with fail
  go_ret
  exact ⟨rfl, HB.out⟩
set_option maxHeartbeats 4000000 in
set_option maxRecDepth 100000 in
theorem back_A (ao : Option Addr) (n c : Nat) (l : List Sg) (i k : Int) (zi : Int) (hzi : (zi == 0) = false) (zp : Int) (hzp : (zp == 0) = false) (s : Sg) (x y : Int) (w : World) (HA : Hid (Rd w ∧ RowS w (.slice ao n c) l ∧ n ≤ c ∧ l.length = n ∧ n ≤ 100))  (HX : Hid (insI l i s = (zi, []) ∧ putI l i k (x, y) = (zp, []))) : Calls Tryd.prog 8 #[.agg (editCells (.slice ao n c) i k s x y)] w fun e w' => e = .returned (.bool true) ∧ Below w.heap.size w w' := by
  have HR := Lib.hid HA.out.1
  have HROW := Lib.hid HA.out.2.1
  have HN := Lib.hid HA.out.2.2.2.1
  have hn1 := HA.out.2.2.2.2
  have hgt : decide ((n : Int) > 100) = false := decide_eq_false (by omega)
  clear hn1
  obtain ⟨w0, hw0⟩ : ∃ w0, w.alloc (.cells (editCells (.slice ao n c) i k s x y) 50) = w0 := ⟨_, rfl⟩
  have B0 : Hid (Below w.heap.size w w0 ∧ w.heap.size ≤ w0.heap.size) := by rw [← hw0]; exact ⟨(Below.refl _ _).alloc (Nat.le_refl _) _, by simp⟩
  have K0 : Hid (Blk w0 w.heap.size 50 (editCells (.slice ao n c) i k s x y)) := by rw [← hw0]; exact Blk.new _ _ _
  have HW0 := Lib.hid hw0
  have HINS : Hid (∀ W, Below w.heap.size w W → Calls Tryd.prog 19 #[.slice ao n c, .int .i64 i, .agg (seven s.k s.p s.q s.r)] W (Edited W ((zi, [])))) := fun W h => by have := insert_c ao n c l i s W (HR.out.on h) (HROW.out.on h) HA.out.2.2.1 (by have := HA.out.2.2.2.2; omega); rw [HX.out.1] at this; exact this
  have HPUT : Hid (∀ W, Below w.heap.size w W → Calls Tryd.prog 18 #[.slice ao n c, .int .i64 i, .int .i64 k, .agg #[.int .i64 x, .int .i64 y]] W (Edited W ((zp, [])))) := fun W h => by have := put_c ao n c l i k x y W (HR.out.on h) (HROW.out.on h) HA.out.2.2.1 (by have := HA.out.2.2.2.2; omega); rw [HX.out.2] at this; exact this
  clear hw0
  go_enter Tryd.func8, Tryd.ntmps8
  go_wp2_with fail
  rw [show w.alloc (.cells (editCells (.slice ao n c) i k s x y) 50) = w0 from HW0.out]
  refine (HINS.out _ B0.out.1).mono ?_
  rintro e w1 ⟨qI, rfl, ho, hb⟩
  clear ho
  have B1 : Hid (Below w.heap.size w w1 ∧ w.heap.size ≤ w1.heap.size) := ⟨below_next B0.out.1 hb, Nat.le_trans B0.out.2 hb.size⟩
  have K1 := Lib.hid (K0.out.on hb K0.out.lt)
  clear hb
  have kb := K1.out
  have c0 := kb.e0
  have c1 := kb.e1
  have c2 := kb.e2
  have c3 := kb.e3
  have c4 := kb.e4
  have c5 := kb.e5
  have c6 := kb.e6
  have c7 := kb.e7
  have c8 := kb.e8
  have c9 := kb.e9
  have c10 := kb.e10
  have c11 := kb.e11
  clear kb
  go_wp2_with fail
  refine (HPUT.out _ B1.out.1).mono ?_
  rintro e w2 ⟨qP, rfl, ho, hb⟩
  clear ho
  have B2 : Hid (Below w.heap.size w w2 ∧ w.heap.size ≤ w2.heap.size) := ⟨below_next B1.out.1 hb, Nat.le_trans B1.out.2 hb.size⟩
  have K2 := Lib.hid (K1.out.on hb K1.out.lt)
  clear hb
  have kb := K2.out
  have c0 := kb.e0
  have c1 := kb.e1
  have c2 := kb.e2
  have c3 := kb.e3
  have c4 := kb.e4
  have c5 := kb.e5
  have c6 := kb.e6
  have c7 := kb.e7
  have c8 := kb.e8
  have c9 := kb.e9
  have c10 := kb.e10
  have c11 := kb.e11
  clear kb
  go_wp2_with fail
  refine (awake_c _ (HR.out.on B2.out.1)).mono ?_
  rintro e w' ⟨rfl, hb⟩
  have HBE := Lib.hid (below_next B2.out.1 hb); clear hb
  go_wp2_with fail
  go_ret
  exact ⟨rfl, HBE.out⟩
set_option maxHeartbeats 4000000 in
set_option maxRecDepth 100000 in
theorem back_B (ao : Option Addr) (n c : Nat) (l : List Sg) (I : Nat) (k : Int) (zp : Int) (hzp : (zp == 0) = false) (s : Sg) (x y : Int) (w : World) (HA : Hid (Rd w ∧ RowS w (.slice ao n c) l ∧ n ≤ c ∧ l.length = n ∧ n ≤ 100))  (HX : Hid (insI l (I : Int) s = (0, insL l (I : Int) s) ∧ putI l (I : Int) k (x, y) = (zp, []))) (HD : Hid (delI (insL l (I : Int) s) (I : Int) = (0, l) ∧ (insL l (I : Int) s).length = n + 1)) : Calls Tryd.prog 8 #[.agg (editCells (.slice ao n c) (I : Int) k s x y)] w fun e w' => e = .returned (.bool true) ∧ Below w.heap.size w w' := by
  have HR := Lib.hid HA.out.1
  have HROW := Lib.hid HA.out.2.1
  have HN := Lib.hid HA.out.2.2.2.1
  have hn1 := HA.out.2.2.2.2
  have hgt : decide ((n : Int) > 100) = false := decide_eq_false (by omega)
  clear hn1
  obtain ⟨w0, hw0⟩ : ∃ w0, w.alloc (.cells (editCells (.slice ao n c) (I : Int) k s x y) 50) = w0 := ⟨_, rfl⟩
  have B0 : Hid (Below w.heap.size w w0 ∧ w.heap.size ≤ w0.heap.size) := by rw [← hw0]; exact ⟨(Below.refl _ _).alloc (Nat.le_refl _) _, by simp⟩
  have K0 : Hid (Blk w0 w.heap.size 50 (editCells (.slice ao n c) (I : Int) k s x y)) := by rw [← hw0]; exact Blk.new _ _ _
  have HW0 := Lib.hid hw0
  have HINS : Hid (∀ W, Below w.heap.size w W → Calls Tryd.prog 19 #[.slice ao n c, .int .i64 (I : Int), .agg (seven s.k s.p s.q s.r)] W (Edited W ((0, insL l (I : Int) s)))) := fun W h => by have := insert_c ao n c l (I : Int) s W (HR.out.on h) (HROW.out.on h) HA.out.2.2.1 (by have := HA.out.2.2.2.2; omega); rw [HX.out.1] at this; exact this
  have HPUT : Hid (∀ W, Below w.heap.size w W → Calls Tryd.prog 18 #[.slice ao n c, .int .i64 (I : Int), .int .i64 k, .agg #[.int .i64 x, .int .i64 y]] W (Edited W ((zp, [])))) := fun W h => by have := put_c ao n c l (I : Int) k x y W (HR.out.on h) (HROW.out.on h) HA.out.2.2.1 (by have := HA.out.2.2.2.2; omega); rw [HX.out.2] at this; exact this
  clear hw0
  go_enter Tryd.func8, Tryd.ntmps8
  go_wp2_with fail
  rw [show w.alloc (.cells (editCells (.slice ao n c) (I : Int) k s x y) 50) = w0 from HW0.out]
  refine (HINS.out _ B0.out.1).mono ?_
  rintro e w1 ⟨qI, rfl, ho, hb⟩
  obtain ⟨ia, ic, rfl, hic⟩ := ho.cap
  rw [HD.out.2] at hic ⊢
  have QI1 := Lib.hid ho.row
  rw [HD.out.2] at QI1
  have HIC := Lib.hid hic
  clear ho hic
  have B1 : Hid (Below w.heap.size w w1 ∧ w.heap.size ≤ w1.heap.size) := ⟨below_next B0.out.1 hb, Nat.le_trans B0.out.2 hb.size⟩
  have K1 := Lib.hid (K0.out.on hb K0.out.lt)
  clear hb
  have kb := K1.out
  have c0 := kb.e0
  have c1 := kb.e1
  have c2 := kb.e2
  have c3 := kb.e3
  have c4 := kb.e4
  have c5 := kb.e5
  have c6 := kb.e6
  have c7 := kb.e7
  have c8 := kb.e8
  have c9 := kb.e9
  have c10 := kb.e10
  have c11 := kb.e11
  clear kb
  go_wp2_with fail
  have HDL := delete_c ia (n + 1) ic (insL l (I : Int) s) (I : Int) w1 (HR.out.on B1.out.1) QI1.out HIC.out (by have := HA.out.2.2.2.2; omega)
  rw [HD.out.1] at HDL
  refine HDL.mono ?_
  clear HDL
  rintro e w2 ⟨qD, rfl, ho, hb⟩
  have QD2 := Lib.hid ho.row
  clear ho
  have B2 : Hid (Below w.heap.size w w2 ∧ w.heap.size ≤ w2.heap.size) := ⟨below_next B1.out.1 hb, Nat.le_trans B1.out.2 hb.size⟩
  have K2 := Lib.hid (K1.out.on hb K1.out.lt)
  have QI2 := Lib.hid (QI1.out.on hb)
  clear hb
  have kb := K2.out
  have c0 := kb.e0
  have c1 := kb.e1
  have c2 := kb.e2
  have c3 := kb.e3
  have c4 := kb.e4
  have c5 := kb.e5
  have c6 := kb.e6
  have c7 := kb.e7
  have c8 := kb.e8
  have c9 := kb.e9
  have c10 := kb.e10
  have c11 := kb.e11
  clear kb
  go_wp2_with fail
  refine (equal_c _ _ l _ (by have := HA.out.2.2.2; omega) QD2.out (HROW.out.on B2.out.1)).mono ?_
  rintro e w3 ⟨rfl, hb⟩
  have B3 : Hid (Below w.heap.size w w3 ∧ w.heap.size ≤ w3.heap.size) := ⟨below_next B2.out.1 hb, Nat.le_trans B2.out.2 hb.size⟩
  have K3 := Lib.hid (K2.out.on hb K2.out.lt)
  have QI3 := Lib.hid (QI2.out.on hb)
  clear hb
  have kb := K3.out
  have c0 := kb.e0
  have c1 := kb.e1
  have c2 := kb.e2
  have c3 := kb.e3
  have c4 := kb.e4
  have c5 := kb.e5
  have c6 := kb.e6
  have c7 := kb.e7
  have c8 := kb.e8
  have c9 := kb.e9
  have c10 := kb.e10
  have c11 := kb.e11
  clear kb
  go_wp2_with fail
  refine (equal_not _ _ (insL l (I : Int) s) l _ (by rw [HD.out.2, HN.out]; omega) QI3.out (HROW.out.on B3.out.1)).mono ?_
  rintro e w4 ⟨rfl, hb⟩
  have B4 : Hid (Below w.heap.size w w4 ∧ w.heap.size ≤ w4.heap.size) := ⟨below_next B3.out.1 hb, Nat.le_trans B3.out.2 hb.size⟩
  have K4 := Lib.hid (K3.out.on hb K3.out.lt)
  clear hb
  have kb := K4.out
  have c0 := kb.e0
  have c1 := kb.e1
  have c2 := kb.e2
  have c3 := kb.e3
  have c4 := kb.e4
  have c5 := kb.e5
  have c6 := kb.e6
  have c7 := kb.e7
  have c8 := kb.e8
  have c9 := kb.e9
  have c10 := kb.e10
  have c11 := kb.e11
  clear kb
  go_wp2_with fail
  refine (HPUT.out _ B4.out.1).mono ?_
  rintro e w5 ⟨qP, rfl, ho, hb⟩
  clear ho
  have B5 : Hid (Below w.heap.size w w5 ∧ w.heap.size ≤ w5.heap.size) := ⟨below_next B4.out.1 hb, Nat.le_trans B4.out.2 hb.size⟩
  have K5 := Lib.hid (K4.out.on hb K4.out.lt)
  clear hb
  have kb := K5.out
  have c0 := kb.e0
  have c1 := kb.e1
  have c2 := kb.e2
  have c3 := kb.e3
  have c4 := kb.e4
  have c5 := kb.e5
  have c6 := kb.e6
  have c7 := kb.e7
  have c8 := kb.e8
  have c9 := kb.e9
  have c10 := kb.e10
  have c11 := kb.e11
  clear kb
  go_wp2_with fail
  refine (awake_c _ (HR.out.on B5.out.1)).mono ?_
  rintro e w' ⟨rfl, hb⟩
  have HBE := Lib.hid (below_next B5.out.1 hb); clear hb
  go_wp2_with fail
  go_ret
  exact ⟨rfl, HBE.out⟩
end Go.Proofs.YtffgpikhahpomaaDoor
