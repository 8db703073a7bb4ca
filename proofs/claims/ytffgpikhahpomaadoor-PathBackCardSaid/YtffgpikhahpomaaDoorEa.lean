/- Layer 6: the law PathEdits. -/
import Derived.Test.YtffgpikhahpomaaDoorSv
import Derived.Deep.QuietTactic
namespace Go.Proofs.YtffgpikhahpomaaDoor
open Go.RowKit
/-- What holds in a region that makes a row, its copy and the row with it. -/
def EdM (w9 : World) (M : List Sg) (s : Sg) (b : Nat → Bool) (vs : Nat → Value) (w' : World) : Prop :=
  Below w9.heap.size w9 w' ∧ (b 7 = true → RowS w' (vs 7) [s]) ∧ (b 8 = true → RowS w' (vs 8) [s]) ∧ (b 9 = true → RowS w' (vs 9) M)
theorem EdM.mv {w9 w' w'' : World} {M : List Sg} {s : Sg} {b : Nat → Bool} {vs : Nat → Value} (h : EdM w9 M s b vs w') (i : Nat) (u : Value) (hb : Below w'.heap.size w' w'') (h7 : i = 7 → RowS w'' u [s]) (h8 : i = 8 → RowS w'' u [s]) (h9 : i = 9 → RowS w'' u M) : EdM w9 M s (upd b i true) (upd vs i u) w'' := by
  refine ⟨below_next h.1 hb, fun hb7 => ?_, fun hb8 => ?_, fun hb9 => ?_⟩
  · by_cases e : i = 7
    · subst e; rw [upd_same]; exact h7 rfl
    · rw [upd_other _ _ _ _ (Ne.symm e)] at hb7 ⊢; exact (h.2.1 hb7).on hb
  · by_cases e : i = 8
    · subst e; rw [upd_same]; exact h8 rfl
    · rw [upd_other _ _ _ _ (Ne.symm e)] at hb8 ⊢; exact (h.2.2.1 hb8).on hb
  · by_cases e : i = 9
    · subst e; rw [upd_same]; exact h9 rfl
    · rw [upd_other _ _ _ _ (Ne.symm e)] at hb9 ⊢; exact (h.2.2.2 hb9).on hb
set_option maxHeartbeats 4000000 in
set_option maxRecDepth 100000 in
theorem edits_long (ao : Option Addr) (n c : Nat) (i k : Int) (s : Sg) (x y : Int) (w : World) (hr : Rd w) (hl : 100 < n) : Calls Tryd.prog 5 #[.agg (editCells (.slice ao n c) i k s x y)] w fun e w' => e = .returned (.bool true) ∧ Below w.heap.size w w' := by
  have HR := Lib.hid hr
  have hd : decide ((n : Int) > 100) = true := decide_eq_true (by omega)
  clear hl hr
  obtain ⟨w0, hw0⟩ : ∃ w0, w.alloc (.cells (editCells (.slice ao n c) i k s x y) 50) = w0 := ⟨_, rfl⟩
  have HB0 : Hid (Below w.heap.size w w0) := by rw [← hw0]; exact (Below.refl _ _).alloc (Nat.le_refl _) _
  have HW0 := Lib.hid hw0
  clear hw0
  go_enter Tryd.func5, Tryd.ntmps5
  go_wp2_with fail
  rw [show w.alloc (.cells (editCells (.slice ao n c) i k s x y) 50) = w0 from HW0.out]
  refine (awake_c _ (HR.out.on HB0.out)).mono ?_
  rintro e w1 ⟨rfl, hb⟩
  have HB := Lib.hid (below_next HB0.out hb); clear hb
  go_wp2_with fail
  go_ret
  exact ⟨rfl, HB.out⟩
set_option maxHeartbeats 4000000 in
set_option maxRecDepth 100000 in
theorem edits_B (ao : Option Addr) (n c : Nat) (l : List Sg) (i k : Int) (s : Sg) (x y : Int) (w : World) (HA : Hid (Rd w ∧ RowS w (.slice ao n c) l ∧ n ≤ c ∧ l.length = n ∧ n ≤ 100)) (z : Int) (hz : (z != 0) = true) (HX : Hid (checkI l = z ∧ putI l i k (x, y) = (z, []) ∧ insI l i s = (z, []) ∧ delI l i = (z, []))) : Calls Tryd.prog 5 #[.agg (editCells (.slice ao n c) i k s x y)] w fun e w' => e = .returned (.bool true) ∧ Below w.heap.size w w' := by
  have hzz : (z == z) = true := by simp
  have HR := Lib.hid HA.out.1
  have HROW := Lib.hid HA.out.2.1
  have HN := Lib.hid HA.out.2.2.2.1
  have hn1 := HA.out.2.2.2.2
  have hgt : decide ((n : Int) > 100) = false := decide_eq_false (by omega)
  clear hn1
  obtain ⟨w0, hw0⟩ : ∃ w0, w.alloc (.cells (editCells (.slice ao n c) i k s x y) 50) = w0 := ⟨_, rfl⟩
  have B0 : Hid (Below w.heap.size w w0 ∧ w.heap.size ≤ w0.heap.size) := by rw [← hw0]; exact ⟨(Below.refl _ _).alloc (Nat.le_refl _) _, by simp⟩
  have HK : Hid (Blk w0 w.heap.size 50 (editCells (.slice ao n c) i k s x y)) := by rw [← hw0]; exact Blk.new _ _ _
  have HW0 := Lib.hid hw0
  have HREF : Hid (∀ W v L, L.length ≤ 5000 → RowS W v L → Calls Tryd.prog 12 #[v] W fun e w' => ∃ u, e = .returned u ∧ OwnS w' W.heap.size 60 u L ∧ Below W.heap.size W w') := fun W v L h1 h2 => ref_c W v L h1 h2
  have HRC : Hid (∀ W v, RowS W v l → Calls Tryd.prog 11 #[v] W fun e w' => e = .returned (.int .i64 z) ∧ Below W.heap.size W w') := fun W v h => by have := rcheck_c v l W h; rw [HX.out.1] at this; exact this
  have HPUT : Hid (∀ W, Below w.heap.size w W → Calls Tryd.prog 18 #[.slice ao n c, .int .i64 i, .int .i64 k, .agg #[.int .i64 x, .int .i64 y]] W (Edited W ((z, [])))) := fun W h => by have := put_c ao n c l i k x y W (HR.out.on h) (HROW.out.on h) HA.out.2.2.1 (by have := HA.out.2.2.2.2; omega); rw [HX.out.2.1] at this; exact this
  have HINS : Hid (∀ W, Below w.heap.size w W → Calls Tryd.prog 19 #[.slice ao n c, .int .i64 i, .agg (seven s.k s.p s.q s.r)] W (Edited W ((z, [])))) := fun W h => by have := insert_c ao n c l i s W (HR.out.on h) (HROW.out.on h) HA.out.2.2.1 (by have := HA.out.2.2.2.2; omega); rw [HX.out.2.2.1] at this; exact this
  have HDEL : Hid (∀ W, Below w.heap.size w W → Calls Tryd.prog 20 #[.slice ao n c, .int .i64 i] W (Edited W ((z, [])))) := fun W h => by have := delete_c ao n c l i W (HR.out.on h) (HROW.out.on h) HA.out.2.2.1 (by have := HA.out.2.2.2.2; omega); rw [HX.out.2.2.2] at this; exact this
  clear hw0
  go_enter Tryd.func5, Tryd.ntmps5
  go_wp2_with fail
  rw [show w.alloc (.cells (editCells (.slice ao n c) i k s x y) 50) = w0 from HW0.out]
  refine (HREF.out _ _ l (by have := HA.out.2.2.2; omega) (HROW.out.on B0.out.1)).mono ?_
  rintro e w1 ⟨u, rfl, ho, hb⟩
  have B1 : Hid (Below w.heap.size w w1 ∧ w.heap.size ≤ w1.heap.size) := ⟨below_next B0.out.1 hb, Nat.le_trans B0.out.2 hb.size⟩
  have K1 := Lib.hid (HK.out.on hb HK.out.lt)
  have HT0 := Lib.hid ho
  obtain ⟨ta, tc, rfl, _⟩ := ho.cap
  rw [HN.out] at HT0
  have T1 := Lib.hid HT0.out.row
  clear HT0 ho hb
  simp only [HN.out]
  go_wp2_with fail
  refine (HRC.out _ _ T1.out).mono ?_
  rintro e w2 ⟨rfl, hb⟩
  have B2 : Hid (Below w.heap.size w w2 ∧ w.heap.size ≤ w2.heap.size) := ⟨below_next B1.out.1 hb, Nat.le_trans B1.out.2 hb.size⟩
  have K2 := Lib.hid (K1.out.on hb K1.out.lt)
  have T2 := Lib.hid (T1.out.on hb)
  clear hb
  have kb := K2.out
  have c0 := kb.e0
  have c1 := kb.e1
  have c2 := kb.e2
  have c3 := kb.e3
  have c4 := kb.e4
  have c5 := kb.e5
  have c6 := kb.e6
  have c7 := kb.e7
  have c8 := kb.e8
  have c9 := kb.e9
  have c10 := kb.e10
  have c11 := kb.e11
  clear kb
  go_wp2_with fail
  refine (HPUT.out _ B2.out.1).mono ?_
  rintro e w3 ⟨qP, rfl, ho, hb⟩
  obtain ⟨qaP, qcP, rfl⟩ := OwnS.empty ho
  clear ho
  have B3 : Hid (Below w.heap.size w w3 ∧ w.heap.size ≤ w3.heap.size) := ⟨below_next B2.out.1 hb, Nat.le_trans B2.out.2 hb.size⟩
  have K3 := Lib.hid (K2.out.on hb K2.out.lt)
  have T3 := Lib.hid (T2.out.on hb)
  clear hb
  have kb := K3.out
  have c0 := kb.e0
  have c1 := kb.e1
  have c2 := kb.e2
  have c3 := kb.e3
  have c4 := kb.e4
  have c5 := kb.e5
  have c6 := kb.e6
  have c7 := kb.e7
  have c8 := kb.e8
  have c9 := kb.e9
  have c10 := kb.e10
  have c11 := kb.e11
  clear kb
  go_wp2_with fail
  refine (HINS.out _ B3.out.1).mono ?_
  rintro e w4 ⟨qI, rfl, ho, hb⟩
  obtain ⟨qaI, qcI, rfl⟩ := OwnS.empty ho
  clear ho
  have B4 : Hid (Below w.heap.size w w4 ∧ w.heap.size ≤ w4.heap.size) := ⟨below_next B3.out.1 hb, Nat.le_trans B3.out.2 hb.size⟩
  have K4 := Lib.hid (K3.out.on hb K3.out.lt)
  have T4 := Lib.hid (T3.out.on hb)
  clear hb
  have kb := K4.out
  have c0 := kb.e0
  have c1 := kb.e1
  have c2 := kb.e2
  have c3 := kb.e3
  have c4 := kb.e4
  have c5 := kb.e5
  have c6 := kb.e6
  have c7 := kb.e7
  have c8 := kb.e8
  have c9 := kb.e9
  have c10 := kb.e10
  have c11 := kb.e11
  clear kb
  go_wp2_with fail
  refine (HDEL.out _ B4.out.1).mono ?_
  rintro e w5 ⟨qD, rfl, ho, hb⟩
  obtain ⟨qaD, qcD, rfl⟩ := OwnS.empty ho
  clear ho
  have B5 : Hid (Below w.heap.size w w5 ∧ w.heap.size ≤ w5.heap.size) := ⟨below_next B4.out.1 hb, Nat.le_trans B4.out.2 hb.size⟩
  have K5 := Lib.hid (K4.out.on hb K4.out.lt)
  have T5 := Lib.hid (T4.out.on hb)
  clear hb
  have kb := K5.out
  have c0 := kb.e0
  have c1 := kb.e1
  have c2 := kb.e2
  have c3 := kb.e3
  have c4 := kb.e4
  have c5 := kb.e5
  have c6 := kb.e6
  have c7 := kb.e7
  have c8 := kb.e8
  have c9 := kb.e9
  have c10 := kb.e10
  have c11 := kb.e11
  clear kb
  go_wp2_with fail
  refine (same_c _ _ l _ (by have := HA.out.2.2.2; omega) (HROW.out.on B5.out.1) T5.out).mono ?_
  rintro e w6 ⟨rfl, hb⟩
  have B6 : Hid (Below w.heap.size w w6 ∧ w.heap.size ≤ w6.heap.size) := ⟨below_next B5.out.1 hb, Nat.le_trans B5.out.2 hb.size⟩
  have K6 := Lib.hid (K5.out.on hb K5.out.lt)
  have T6 := Lib.hid (T5.out.on hb)
  clear hb
  have kb := K6.out
  have c0 := kb.e0
  have c1 := kb.e1
  have c2 := kb.e2
  have c3 := kb.e3
  have c4 := kb.e4
  have c5 := kb.e5
  have c6 := kb.e6
  have c7 := kb.e7
  have c8 := kb.e8
  have c9 := kb.e9
  have c10 := kb.e10
  have c11 := kb.e11
  clear kb
  go_wp2_with fail
  refine (awake_c _ (HR.out.on B6.out.1)).mono ?_
  rintro e w' ⟨rfl, hb⟩
  have HBE := Lib.hid (below_next B6.out.1 hb); clear hb
  go_wp2_with fail
  go_ret
  exact ⟨rfl, HBE.out⟩
set_option maxHeartbeats 4000000 in
set_option maxRecDepth 100000 in
theorem edits_C1 (ao : Option Addr) (n c : Nat) (l : List Sg) (i k : Int) (s : Sg) (x y : Int) (w : World) (HA : Hid (Rd w ∧ RowS w (.slice ao n c) l ∧ n ≤ c ∧ l.length = n ∧ n ≤ 100)) (d1 : decide (i < 0) = true) (HX : Hid (checkI l = 0 ∧ putI l i k (x, y) = (30, []) ∧ insI l i s = (30, []) ∧ delI l i = (30, []))) : Calls Tryd.prog 5 #[.agg (editCells (.slice ao n c) i k s x y)] w fun e w' => e = .returned (.bool true) ∧ Below w.heap.size w w' := by
  have HR := Lib.hid HA.out.1
  have HROW := Lib.hid HA.out.2.1
  have HN := Lib.hid HA.out.2.2.2.1
  have hn1 := HA.out.2.2.2.2
  have hgt : decide ((n : Int) > 100) = false := decide_eq_false (by omega)
  clear hn1
  obtain ⟨w0, hw0⟩ : ∃ w0, w.alloc (.cells (editCells (.slice ao n c) i k s x y) 50) = w0 := ⟨_, rfl⟩
  have B0 : Hid (Below w.heap.size w w0 ∧ w.heap.size ≤ w0.heap.size) := by rw [← hw0]; exact ⟨(Below.refl _ _).alloc (Nat.le_refl _) _, by simp⟩
  have HK : Hid (Blk w0 w.heap.size 50 (editCells (.slice ao n c) i k s x y)) := by rw [← hw0]; exact Blk.new _ _ _
  have HW0 := Lib.hid hw0
  have HREF : Hid (∀ W v L, L.length ≤ 5000 → RowS W v L → Calls Tryd.prog 12 #[v] W fun e w' => ∃ u, e = .returned u ∧ OwnS w' W.heap.size 60 u L ∧ Below W.heap.size W w') := fun W v L h1 h2 => ref_c W v L h1 h2
  have HRC : Hid (∀ W v, RowS W v l → Calls Tryd.prog 11 #[v] W fun e w' => e = .returned (.int .i64 0) ∧ Below W.heap.size W w') := fun W v h => by have := rcheck_c v l W h; rw [HX.out.1] at this; exact this
  have HPUT : Hid (∀ W, Below w.heap.size w W → Calls Tryd.prog 18 #[.slice ao n c, .int .i64 i, .int .i64 k, .agg #[.int .i64 x, .int .i64 y]] W (Edited W ((30, [])))) := fun W h => by have := put_c ao n c l i k x y W (HR.out.on h) (HROW.out.on h) HA.out.2.2.1 (by have := HA.out.2.2.2.2; omega); rw [HX.out.2.1] at this; exact this
  have HINS : Hid (∀ W, Below w.heap.size w W → Calls Tryd.prog 19 #[.slice ao n c, .int .i64 i, .agg (seven s.k s.p s.q s.r)] W (Edited W ((30, [])))) := fun W h => by have := insert_c ao n c l i s W (HR.out.on h) (HROW.out.on h) HA.out.2.2.1 (by have := HA.out.2.2.2.2; omega); rw [HX.out.2.2.1] at this; exact this
  have HDEL : Hid (∀ W, Below w.heap.size w W → Calls Tryd.prog 20 #[.slice ao n c, .int .i64 i] W (Edited W ((30, [])))) := fun W h => by have := delete_c ao n c l i W (HR.out.on h) (HROW.out.on h) HA.out.2.2.1 (by have := HA.out.2.2.2.2; omega); rw [HX.out.2.2.2] at this; exact this
  clear hw0
  go_enter Tryd.func5, Tryd.ntmps5
  go_wp2_with fail
  rw [show w.alloc (.cells (editCells (.slice ao n c) i k s x y) 50) = w0 from HW0.out]
  refine (HREF.out _ _ l (by have := HA.out.2.2.2; omega) (HROW.out.on B0.out.1)).mono ?_
  rintro e w1 ⟨u, rfl, ho, hb⟩
  have B1 : Hid (Below w.heap.size w w1 ∧ w.heap.size ≤ w1.heap.size) := ⟨below_next B0.out.1 hb, Nat.le_trans B0.out.2 hb.size⟩
  have K1 := Lib.hid (HK.out.on hb HK.out.lt)
  have HT0 := Lib.hid ho
  obtain ⟨ta, tc, rfl, _⟩ := ho.cap
  rw [HN.out] at HT0
  have T1 := Lib.hid HT0.out.row
  clear HT0 ho hb
  simp only [HN.out]
  go_wp2_with fail
  refine (HRC.out _ _ T1.out).mono ?_
  rintro e w2 ⟨rfl, hb⟩
  have B2 : Hid (Below w.heap.size w w2 ∧ w.heap.size ≤ w2.heap.size) := ⟨below_next B1.out.1 hb, Nat.le_trans B1.out.2 hb.size⟩
  have K2 := Lib.hid (K1.out.on hb K1.out.lt)
  have T2 := Lib.hid (T1.out.on hb)
  clear hb
  have kb := K2.out
  have c0 := kb.e0
  have c1 := kb.e1
  have c2 := kb.e2
  have c3 := kb.e3
  have c4 := kb.e4
  have c5 := kb.e5
  have c6 := kb.e6
  have c7 := kb.e7
  have c8 := kb.e8
  have c9 := kb.e9
  have c10 := kb.e10
  have c11 := kb.e11
  clear kb
  go_wp2_with fail
  refine (HPUT.out _ B2.out.1).mono ?_
  rintro e w3 ⟨qP, rfl, ho, hb⟩
  obtain ⟨qaP, qcP, rfl⟩ := OwnS.empty ho
  clear ho
  have B3 : Hid (Below w.heap.size w w3 ∧ w.heap.size ≤ w3.heap.size) := ⟨below_next B2.out.1 hb, Nat.le_trans B2.out.2 hb.size⟩
  have K3 := Lib.hid (K2.out.on hb K2.out.lt)
  have T3 := Lib.hid (T2.out.on hb)
  clear hb
  have kb := K3.out
  have c0 := kb.e0
  have c1 := kb.e1
  have c2 := kb.e2
  have c3 := kb.e3
  have c4 := kb.e4
  have c5 := kb.e5
  have c6 := kb.e6
  have c7 := kb.e7
  have c8 := kb.e8
  have c9 := kb.e9
  have c10 := kb.e10
  have c11 := kb.e11
  clear kb
  go_wp2_with fail
  refine (HINS.out _ B3.out.1).mono ?_
  rintro e w4 ⟨qI, rfl, ho, hb⟩
  obtain ⟨qaI, qcI, rfl⟩ := OwnS.empty ho
  clear ho
  have B4 : Hid (Below w.heap.size w w4 ∧ w.heap.size ≤ w4.heap.size) := ⟨below_next B3.out.1 hb, Nat.le_trans B3.out.2 hb.size⟩
  have K4 := Lib.hid (K3.out.on hb K3.out.lt)
  have T4 := Lib.hid (T3.out.on hb)
  clear hb
  have kb := K4.out
  have c0 := kb.e0
  have c1 := kb.e1
  have c2 := kb.e2
  have c3 := kb.e3
  have c4 := kb.e4
  have c5 := kb.e5
  have c6 := kb.e6
  have c7 := kb.e7
  have c8 := kb.e8
  have c9 := kb.e9
  have c10 := kb.e10
  have c11 := kb.e11
  clear kb
  go_wp2_with fail
  refine (HDEL.out _ B4.out.1).mono ?_
  rintro e w5 ⟨qD, rfl, ho, hb⟩
  obtain ⟨qaD, qcD, rfl⟩ := OwnS.empty ho
  clear ho
  have B5 : Hid (Below w.heap.size w w5 ∧ w.heap.size ≤ w5.heap.size) := ⟨below_next B4.out.1 hb, Nat.le_trans B4.out.2 hb.size⟩
  have K5 := Lib.hid (K4.out.on hb K4.out.lt)
  have T5 := Lib.hid (T4.out.on hb)
  clear hb
  have kb := K5.out
  have c0 := kb.e0
  have c1 := kb.e1
  have c2 := kb.e2
  have c3 := kb.e3
  have c4 := kb.e4
  have c5 := kb.e5
  have c6 := kb.e6
  have c7 := kb.e7
  have c8 := kb.e8
  have c9 := kb.e9
  have c10 := kb.e10
  have c11 := kb.e11
  clear kb
  go_wp2_with fail
  refine (same_c _ _ l _ (by have := HA.out.2.2.2; omega) (HROW.out.on B5.out.1) T5.out).mono ?_
  rintro e w6 ⟨rfl, hb⟩
  have B6 : Hid (Below w.heap.size w w6 ∧ w.heap.size ≤ w6.heap.size) := ⟨below_next B5.out.1 hb, Nat.le_trans B5.out.2 hb.size⟩
  have K6 := Lib.hid (K5.out.on hb K5.out.lt)
  have T6 := Lib.hid (T5.out.on hb)
  clear hb
  have kb := K6.out
  have c0 := kb.e0
  have c1 := kb.e1
  have c2 := kb.e2
  have c3 := kb.e3
  have c4 := kb.e4
  have c5 := kb.e5
  have c6 := kb.e6
  have c7 := kb.e7
  have c8 := kb.e8
  have c9 := kb.e9
  have c10 := kb.e10
  have c11 := kb.e11
  clear kb
  go_wp2_with fail
  refine (awake_c _ (HR.out.on B6.out.1)).mono ?_
  rintro e w' ⟨rfl, hb⟩
  have HBE := Lib.hid (below_next B6.out.1 hb); clear hb
  go_wp2_with fail
  go_ret
  exact ⟨rfl, HBE.out⟩
set_option maxHeartbeats 4000000 in
set_option maxRecDepth 100000 in
theorem edits_C2 (ao : Option Addr) (n c : Nat) (l : List Sg) (i k : Int) (s : Sg) (x y : Int) (w : World) (HA : Hid (Rd w ∧ RowS w (.slice ao n c) l ∧ n ≤ c ∧ l.length = n ∧ n ≤ 100)) (d1 : decide (i < 0) = false) (d2 : decide (i > (n : Int)) = true) (HX : Hid (checkI l = 0 ∧ putI l i k (x, y) = (30, []) ∧ insI l i s = (30, []) ∧ delI l i = (30, []))) : Calls Tryd.prog 5 #[.agg (editCells (.slice ao n c) i k s x y)] w fun e w' => e = .returned (.bool true) ∧ Below w.heap.size w w' := by
  have HR := Lib.hid HA.out.1
  have HROW := Lib.hid HA.out.2.1
  have HN := Lib.hid HA.out.2.2.2.1
  have hn1 := HA.out.2.2.2.2
  have hgt : decide ((n : Int) > 100) = false := decide_eq_false (by omega)
  clear hn1
  obtain ⟨w0, hw0⟩ : ∃ w0, w.alloc (.cells (editCells (.slice ao n c) i k s x y) 50) = w0 := ⟨_, rfl⟩
  have B0 : Hid (Below w.heap.size w w0 ∧ w.heap.size ≤ w0.heap.size) := by rw [← hw0]; exact ⟨(Below.refl _ _).alloc (Nat.le_refl _) _, by simp⟩
  have HK : Hid (Blk w0 w.heap.size 50 (editCells (.slice ao n c) i k s x y)) := by rw [← hw0]; exact Blk.new _ _ _
  have HW0 := Lib.hid hw0
  have HREF : Hid (∀ W v L, L.length ≤ 5000 → RowS W v L → Calls Tryd.prog 12 #[v] W fun e w' => ∃ u, e = .returned u ∧ OwnS w' W.heap.size 60 u L ∧ Below W.heap.size W w') := fun W v L h1 h2 => ref_c W v L h1 h2
  have HRC : Hid (∀ W v, RowS W v l → Calls Tryd.prog 11 #[v] W fun e w' => e = .returned (.int .i64 0) ∧ Below W.heap.size W w') := fun W v h => by have := rcheck_c v l W h; rw [HX.out.1] at this; exact this
  have HPUT : Hid (∀ W, Below w.heap.size w W → Calls Tryd.prog 18 #[.slice ao n c, .int .i64 i, .int .i64 k, .agg #[.int .i64 x, .int .i64 y]] W (Edited W ((30, [])))) := fun W h => by have := put_c ao n c l i k x y W (HR.out.on h) (HROW.out.on h) HA.out.2.2.1 (by have := HA.out.2.2.2.2; omega); rw [HX.out.2.1] at this; exact this
  have HINS : Hid (∀ W, Below w.heap.size w W → Calls Tryd.prog 19 #[.slice ao n c, .int .i64 i, .agg (seven s.k s.p s.q s.r)] W (Edited W ((30, [])))) := fun W h => by have := insert_c ao n c l i s W (HR.out.on h) (HROW.out.on h) HA.out.2.2.1 (by have := HA.out.2.2.2.2; omega); rw [HX.out.2.2.1] at this; exact this
  have HDEL : Hid (∀ W, Below w.heap.size w W → Calls Tryd.prog 20 #[.slice ao n c, .int .i64 i] W (Edited W ((30, [])))) := fun W h => by have := delete_c ao n c l i W (HR.out.on h) (HROW.out.on h) HA.out.2.2.1 (by have := HA.out.2.2.2.2; omega); rw [HX.out.2.2.2] at this; exact this
  clear hw0
  go_enter Tryd.func5, Tryd.ntmps5
  go_wp2_with fail
  rw [show w.alloc (.cells (editCells (.slice ao n c) i k s x y) 50) = w0 from HW0.out]
  refine (HREF.out _ _ l (by have := HA.out.2.2.2; omega) (HROW.out.on B0.out.1)).mono ?_
  rintro e w1 ⟨u, rfl, ho, hb⟩
  have B1 : Hid (Below w.heap.size w w1 ∧ w.heap.size ≤ w1.heap.size) := ⟨below_next B0.out.1 hb, Nat.le_trans B0.out.2 hb.size⟩
  have K1 := Lib.hid (HK.out.on hb HK.out.lt)
  have HT0 := Lib.hid ho
  obtain ⟨ta, tc, rfl, _⟩ := ho.cap
  rw [HN.out] at HT0
  have T1 := Lib.hid HT0.out.row
  clear HT0 ho hb
  simp only [HN.out]
  go_wp2_with fail
  refine (HRC.out _ _ T1.out).mono ?_
  rintro e w2 ⟨rfl, hb⟩
  have B2 : Hid (Below w.heap.size w w2 ∧ w.heap.size ≤ w2.heap.size) := ⟨below_next B1.out.1 hb, Nat.le_trans B1.out.2 hb.size⟩
  have K2 := Lib.hid (K1.out.on hb K1.out.lt)
  have T2 := Lib.hid (T1.out.on hb)
  clear hb
  have kb := K2.out
  have c0 := kb.e0
  have c1 := kb.e1
  have c2 := kb.e2
  have c3 := kb.e3
  have c4 := kb.e4
  have c5 := kb.e5
  have c6 := kb.e6
  have c7 := kb.e7
  have c8 := kb.e8
  have c9 := kb.e9
  have c10 := kb.e10
  have c11 := kb.e11
  clear kb
  go_wp2_with fail
  refine (HPUT.out _ B2.out.1).mono ?_
  rintro e w3 ⟨qP, rfl, ho, hb⟩
  obtain ⟨qaP, qcP, rfl⟩ := OwnS.empty ho
  clear ho
  have B3 : Hid (Below w.heap.size w w3 ∧ w.heap.size ≤ w3.heap.size) := ⟨below_next B2.out.1 hb, Nat.le_trans B2.out.2 hb.size⟩
  have K3 := Lib.hid (K2.out.on hb K2.out.lt)
  have T3 := Lib.hid (T2.out.on hb)
  clear hb
  have kb := K3.out
  have c0 := kb.e0
  have c1 := kb.e1
  have c2 := kb.e2
  have c3 := kb.e3
  have c4 := kb.e4
  have c5 := kb.e5
  have c6 := kb.e6
  have c7 := kb.e7
  have c8 := kb.e8
  have c9 := kb.e9
  have c10 := kb.e10
  have c11 := kb.e11
  clear kb
  go_wp2_with fail
  refine (HINS.out _ B3.out.1).mono ?_
  rintro e w4 ⟨qI, rfl, ho, hb⟩
  obtain ⟨qaI, qcI, rfl⟩ := OwnS.empty ho
  clear ho
  have B4 : Hid (Below w.heap.size w w4 ∧ w.heap.size ≤ w4.heap.size) := ⟨below_next B3.out.1 hb, Nat.le_trans B3.out.2 hb.size⟩
  have K4 := Lib.hid (K3.out.on hb K3.out.lt)
  have T4 := Lib.hid (T3.out.on hb)
  clear hb
  have kb := K4.out
  have c0 := kb.e0
  have c1 := kb.e1
  have c2 := kb.e2
  have c3 := kb.e3
  have c4 := kb.e4
  have c5 := kb.e5
  have c6 := kb.e6
  have c7 := kb.e7
  have c8 := kb.e8
  have c9 := kb.e9
  have c10 := kb.e10
  have c11 := kb.e11
  clear kb
  go_wp2_with fail
  refine (HDEL.out _ B4.out.1).mono ?_
  rintro e w5 ⟨qD, rfl, ho, hb⟩
  obtain ⟨qaD, qcD, rfl⟩ := OwnS.empty ho
  clear ho
  have B5 : Hid (Below w.heap.size w w5 ∧ w.heap.size ≤ w5.heap.size) := ⟨below_next B4.out.1 hb, Nat.le_trans B4.out.2 hb.size⟩
  have K5 := Lib.hid (K4.out.on hb K4.out.lt)
  have T5 := Lib.hid (T4.out.on hb)
  clear hb
  have kb := K5.out
  have c0 := kb.e0
  have c1 := kb.e1
  have c2 := kb.e2
  have c3 := kb.e3
  have c4 := kb.e4
  have c5 := kb.e5
  have c6 := kb.e6
  have c7 := kb.e7
  have c8 := kb.e8
  have c9 := kb.e9
  have c10 := kb.e10
  have c11 := kb.e11
  clear kb
  go_wp2_with fail
  refine (same_c _ _ l _ (by have := HA.out.2.2.2; omega) (HROW.out.on B5.out.1) T5.out).mono ?_
  rintro e w6 ⟨rfl, hb⟩
  have B6 : Hid (Below w.heap.size w w6 ∧ w.heap.size ≤ w6.heap.size) := ⟨below_next B5.out.1 hb, Nat.le_trans B5.out.2 hb.size⟩
  have K6 := Lib.hid (K5.out.on hb K5.out.lt)
  have T6 := Lib.hid (T5.out.on hb)
  clear hb
  have kb := K6.out
  have c0 := kb.e0
  have c1 := kb.e1
  have c2 := kb.e2
  have c3 := kb.e3
  have c4 := kb.e4
  have c5 := kb.e5
  have c6 := kb.e6
  have c7 := kb.e7
  have c8 := kb.e8
  have c9 := kb.e9
  have c10 := kb.e10
  have c11 := kb.e11
  clear kb
  go_wp2_with fail
  refine (awake_c _ (HR.out.on B6.out.1)).mono ?_
  rintro e w' ⟨rfl, hb⟩
  have HBE := Lib.hid (below_next B6.out.1 hb); clear hb
  go_wp2_with fail
  go_ret
  exact ⟨rfl, HBE.out⟩
end Go.Proofs.YtffgpikhahpomaaDoor
