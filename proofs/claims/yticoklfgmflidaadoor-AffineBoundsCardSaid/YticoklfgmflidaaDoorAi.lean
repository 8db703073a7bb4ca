/- Layer 4: the table of quarters; Quarter, One, Move, Scale. -/
import Derived.Test.YticoklfgmflidaaDoorAh
namespace Go.Proofs.YticoklfgmflidaaDoor
open Go.RowKit

abbrev q0 : Mx := ⟨65536, 0, 0, 65536, 0, 0⟩
abbrev q1 : Mx := ⟨0, 65536, -65536, 0, 0, 0⟩
abbrev q2 : Mx := ⟨-65536, 0, 0, -65536, 0, 0⟩
abbrev q3 : Mx := ⟨0, -65536, 65536, 0, 0, 0⟩
/-- n quarters (n from 0 to 3). -/
def quarterI (n : Int) : Mx := if n % 4 = 0 then q0 else if n % 4 = 1 then q1 else if n % 4 = 2 then q2 else q3
def quartersL : List Value := [.int .i64 65536, .int .i64 0, .int .i64 0, .int .i64 65536, .int .i64 0, .int .i64 0, .int .i64 0, .int .i64 65536, .int .i64 (-65536), .int .i64 0, .int .i64 0, .int .i64 0, .int .i64 (-65536), .int .i64 0, .int .i64 0, .int .i64 (-65536), .int .i64 0, .int .i64 0, .int .i64 0, .int .i64 (-65536), .int .i64 65536, .int .i64 0, .int .i64 0, .int .i64 0]
/-- What the walks read of memory: the table of quarters. -/
def Rd (w : World) : Prop := w.var? Tryd.prog "limner/affine.quarters" = some quartersL.toArray
theorem gQ : Tryd.prog.globalNamed "limner/affine.quarters" = some 0 := by kernel_rfl
theorem Rd.lt {w : World} (h : Rd w) : 0 < w.heap.size := by
  unfold Rd World.var? at h
  rw [gQ] at h
  rcases Nat.lt_or_ge 0 w.heap.size with h' | h'
  · exact h'
  · simp [Array.getElem?_eq_none h'] at h
theorem Rd.on {w w' : World} (h : Rd w) (hb : Below w.heap.size w w') : Rd w' := var?_below hb gQ h.lt h
theorem Rd.cell {w : World} (h : Rd w) (i : Nat) : w.cell? ⟨0, i, none⟩ = quartersL[i]? := by
  rw [World.var?_cell gQ h i]; simp
theorem and_3 (n : Int) : bits .and .i64 n 3 = n % 4 := and_mask n 3 2 (by decide) (by decide)
set_option maxHeartbeats 400000 in
theorem quarter_0 (n : Int) (w : World) (hk : n % 4 = 0) (hr : Rd w) : Calls Tryd.prog 21 #[.int .i64 n] w fun e w' => e = .returned (.agg (six q0)) ∧ Below w.heap.size w w' := by
  have hb : bits .and .i64 n 3 = 0 := by rw [and_3, hk]
  have c0 : w.cell? ⟨0, 0, none⟩ = some (.int .i64 65536) := hr.cell 0
  have c1 : w.cell? ⟨0, 1, none⟩ = some (.int .i64 0) := hr.cell 1
  have c2 : w.cell? ⟨0, 2, none⟩ = some (.int .i64 0) := hr.cell 2
  have c3 : w.cell? ⟨0, 3, none⟩ = some (.int .i64 65536) := hr.cell 3
  have c4 : w.cell? ⟨0, 4, none⟩ = some (.int .i64 0) := hr.cell 4
  have c5 : w.cell? ⟨0, 5, none⟩ = some (.int .i64 0) := hr.cell 5
  have l0 := hr.lt
  clear hk hr
  go_enter Tryd.func21, Tryd.ntmps21
  go_wp2_with fail
  go_returns
  exact ⟨rfl, by go_grown⟩
set_option maxHeartbeats 400000 in
theorem quarter_1 (n : Int) (w : World) (hk : n % 4 = 1) (hr : Rd w) : Calls Tryd.prog 21 #[.int .i64 n] w fun e w' => e = .returned (.agg (six q1)) ∧ Below w.heap.size w w' := by
  have hb : bits .and .i64 n 3 = 1 := by rw [and_3, hk]
  have c0 : w.cell? ⟨0, 6, none⟩ = some (.int .i64 0) := hr.cell 6
  have c1 : w.cell? ⟨0, 7, none⟩ = some (.int .i64 65536) := hr.cell 7
  have c2 : w.cell? ⟨0, 8, none⟩ = some (.int .i64 (-65536)) := hr.cell 8
  have c3 : w.cell? ⟨0, 9, none⟩ = some (.int .i64 0) := hr.cell 9
  have c4 : w.cell? ⟨0, 10, none⟩ = some (.int .i64 0) := hr.cell 10
  have c5 : w.cell? ⟨0, 11, none⟩ = some (.int .i64 0) := hr.cell 11
  have l0 := hr.lt
  clear hk hr
  go_enter Tryd.func21, Tryd.ntmps21
  go_wp2_with fail
  go_returns
  exact ⟨rfl, by go_grown⟩
set_option maxHeartbeats 400000 in
theorem quarter_2 (n : Int) (w : World) (hk : n % 4 = 2) (hr : Rd w) : Calls Tryd.prog 21 #[.int .i64 n] w fun e w' => e = .returned (.agg (six q2)) ∧ Below w.heap.size w w' := by
  have hb : bits .and .i64 n 3 = 2 := by rw [and_3, hk]
  have c0 : w.cell? ⟨0, 12, none⟩ = some (.int .i64 (-65536)) := hr.cell 12
  have c1 : w.cell? ⟨0, 13, none⟩ = some (.int .i64 0) := hr.cell 13
  have c2 : w.cell? ⟨0, 14, none⟩ = some (.int .i64 0) := hr.cell 14
  have c3 : w.cell? ⟨0, 15, none⟩ = some (.int .i64 (-65536)) := hr.cell 15
  have c4 : w.cell? ⟨0, 16, none⟩ = some (.int .i64 0) := hr.cell 16
  have c5 : w.cell? ⟨0, 17, none⟩ = some (.int .i64 0) := hr.cell 17
  have l0 := hr.lt
  clear hk hr
  go_enter Tryd.func21, Tryd.ntmps21
  go_wp2_with fail
  go_returns
  exact ⟨rfl, by go_grown⟩
set_option maxHeartbeats 400000 in
theorem quarter_3 (n : Int) (w : World) (hk : n % 4 = 3) (hr : Rd w) : Calls Tryd.prog 21 #[.int .i64 n] w fun e w' => e = .returned (.agg (six q3)) ∧ Below w.heap.size w w' := by
  have hb : bits .and .i64 n 3 = 3 := by rw [and_3, hk]
  have c0 : w.cell? ⟨0, 18, none⟩ = some (.int .i64 0) := hr.cell 18
  have c1 : w.cell? ⟨0, 19, none⟩ = some (.int .i64 (-65536)) := hr.cell 19
  have c2 : w.cell? ⟨0, 20, none⟩ = some (.int .i64 65536) := hr.cell 20
  have c3 : w.cell? ⟨0, 21, none⟩ = some (.int .i64 0) := hr.cell 21
  have c4 : w.cell? ⟨0, 22, none⟩ = some (.int .i64 0) := hr.cell 22
  have c5 : w.cell? ⟨0, 23, none⟩ = some (.int .i64 0) := hr.cell 23
  have l0 := hr.lt
  clear hk hr
  go_enter Tryd.func21, Tryd.ntmps21
  go_wp2_with fail
  go_returns
  exact ⟨rfl, by go_grown⟩
theorem quarter_c (n : Int) (w : World) (hr : Rd w) : Calls Tryd.prog 21 #[.int .i64 n] w fun e w' => e = .returned (.agg (six (quarterI n))) ∧ Below w.heap.size w w' := by
  have hk : n % 4 = 0 ∨ n % 4 = 1 ∨ n % 4 = 2 ∨ n % 4 = 3 := by omega
  rcases hk with h | h | h | h
  · rw [show quarterI n = q0 by unfold quarterI; rw [if_pos h]]; exact quarter_0 n w h hr
  · rw [show quarterI n = q1 by unfold quarterI; rw [if_neg (by omega), if_pos h]]; exact quarter_1 n w h hr
  · rw [show quarterI n = q2 by unfold quarterI; rw [if_neg (by omega), if_neg (by omega), if_pos h]]; exact quarter_2 n w h hr
  · rw [show quarterI n = q3 by unfold quarterI; rw [if_neg (by omega), if_neg (by omega), if_neg (by omega)]]; exact quarter_3 n w h hr
theorem one_c (w : World) (hr : Rd w) : Calls Tryd.prog 19 #[] w fun e w' => e = .returned (.agg (six q0)) ∧ Below w.heap.size w w' := by
  have HQ : Hid (∀ w, Rd w → Calls Tryd.prog 21 #[.int .i64 0] w fun e w' => e = .returned (.agg (six q0)) ∧ Below w.heap.size w w') := fun w h => quarter_c 0 w h
  have HR := Lib.hid hr
  clear hr
  go_enter Tryd.func19, Tryd.ntmps19
  go_wp2_with fail
  refine (HQ.out _ (HR.out.on ((Below.refl _ _).alloc (Nat.le_refl _) _))).mono ?_
  rintro e w1 ⟨rfl, hb⟩
  have hk := Blk.grow (Blk.newAt w 23 (six zeroM) rfl) hb
  have B1 : Hid (Below w.heap.size w w1) := below_next ((Below.refl _ _).alloc (Nat.le_refl _) _) hb
  clear hb
  have z0 := hk.m0
  have z1 := hk.m1
  have z2 := hk.m2
  have z3 := hk.m3
  have z4 := hk.m4
  have z5 := hk.m5
  have f0 := hk.free 0
  have f1 := hk.free 1
  have f2 := hk.free 2
  have f3 := hk.free 3
  have f4 := hk.free 4
  have f5 := hk.free 5
  simp only at z0 z1 z2 z3 z4 z5
  have HK := Lib.hid hk
  clear hk
  go_wp2_with fail
  exact bodyPost_ret (results_mat 0 rfl rfl (HK.out.setM q0)) rfl ⟨rfl, below_six B1.out (Nat.le_refl _) _ _ _ _ _ _⟩
theorem scale_c (x y : Int) (w : World) : Calls Tryd.prog 22 #[.int .i64 x, .int .i64 y] w fun e w' => e = .returned (.agg (six ⟨x, 0, 0, y, 0, 0⟩)) ∧ Below w.heap.size w w' := by
  go_enter Tryd.func22, Tryd.ntmps22
  go_wp2_with fail
  go_returns
  exact ⟨rfl, by go_grown⟩
set_option maxHeartbeats 400000 in
theorem move_c (x y : Int) (w : World) (hr : Rd w) : Calls Tryd.prog 20 #[.int .i64 x, .int .i64 y] w fun e w' => e = .returned (.agg (six ⟨65536, 0, 0, 65536, x, y⟩)) ∧ Below w.heap.size w w' := by
  have HO := Lib.hid one_c
  have HR := Lib.hid hr
  clear hr
  go_enter Tryd.func20, Tryd.ntmps20
  go_wp2_with fail
  refine (HO.out _ (HR.out.on ((Below.refl _ _).alloc (Nat.le_refl _) _))).mono ?_
  rintro e w1 ⟨rfl, hb⟩
  have hk := Blk.grow (Blk.newAt w 23 (six zeroM) rfl) hb
  have B1 : Hid (Below w.heap.size w w1) := below_next ((Below.refl _ _).alloc (Nat.le_refl _) _) hb
  clear hb
  have z0 := hk.m0
  have z1 := hk.m1
  have z2 := hk.m2
  have z3 := hk.m3
  have z4 := hk.m4
  have z5 := hk.m5
  have f0 := hk.free 0
  have f1 := hk.free 1
  have f2 := hk.free 2
  have f3 := hk.free 3
  have f4 := hk.free 4
  have f5 := hk.free 5
  simp only at z0 z1 z2 z3 z4 z5
  have hne : w.heap.size < w1.heap.size := hk.lt
  have HK := Lib.hid hk
  clear hk z0 z1 z2 z3 z4 z5 f0 f1 f2 f3 f4 f5
  go_upto_region 2 with fail
  have hS : Blk (w1.alloc (.cells (six q0) 23)) w1.heap.size 23 (six q0) ∧ Blk (w1.alloc (.cells (six q0) 23)) w.heap.size 23 (six zeroM) ∧ Below w.heap.size w (w1.alloc (.cells (six q0) 23)) := ⟨Blk.newAt _ _ _ rfl, HK.out.alloc _, B1.out.alloc B1.out.size _⟩
  generalize World.alloc w1 _ = W at hS ⊢
  generalize w1.heap.size = g at hS hne ⊢
  have HS := Lib.hid hS
  clear hS HK B1
  have g4 := HS.out.1.m4
  have g5 := HS.out.1.m5
  have f4 := HS.out.1.free 4
  have f5 := HS.out.1.free 5
  simp only at g4 g5
  go_upto_region 3 with fail
  have hT : Blk ((W.setCell ⟨g, 4, none⟩ (.int .i64 x)).setCell ⟨g, 5, none⟩ (.int .i64 y)) g 23 (six ⟨65536, 0, 0, 65536, x, y⟩) ∧ Blk ((W.setCell ⟨g, 4, none⟩ (.int .i64 x)).setCell ⟨g, 5, none⟩ (.int .i64 y)) w.heap.size 23 (six zeroM) ∧ Below w.heap.size w ((W.setCell ⟨g, 4, none⟩ (.int .i64 x)).setCell ⟨g, 5, none⟩ (.int .i64 y)) :=
    ⟨(HS.out.1.set 4 _).set 5 _, (HS.out.2.1.other _ _ (by dsimp only; omega)).other _ _ (by dsimp only; omega), (HS.out.2.2.setCell (by dsimp only; omega) _).setCell (by dsimp only; omega) _⟩
  generalize World.setCell (World.setCell W _ _) _ _ = V at hT ⊢
  have HT := Lib.hid hT
  clear g4 g5 f4 f5 hT
  have g0 := HT.out.1.m0
  have g1 := HT.out.1.m1
  have g2 := HT.out.1.m2
  have g3 := HT.out.1.m3
  have g4 := HT.out.1.m4
  have g5 := HT.out.1.m5
  have z0 := HT.out.2.1.m0
  have z1 := HT.out.2.1.m1
  have z2 := HT.out.2.1.m2
  have z3 := HT.out.2.1.m3
  have z4 := HT.out.2.1.m4
  have z5 := HT.out.2.1.m5
  have f0 := HT.out.2.1.free 0
  have f1 := HT.out.2.1.free 1
  have f2 := HT.out.2.1.free 2
  have f3 := HT.out.2.1.free 3
  have f4 := HT.out.2.1.free 4
  have f5 := HT.out.2.1.free 5
  simp only at g0 g1 g2 g3 g4 g5 z0 z1 z2 z3 z4 z5
  go_wp2_with fail
  exact bodyPost_ret (results_mat 4 rfl rfl (HT.out.2.1.setM ⟨65536, 0, 0, 65536, x, y⟩)) rfl ⟨rfl, below_six HT.out.2.2 (Nat.le_refl _) _ _ _ _ _ _⟩
end Go.Proofs.YticoklfgmflidaaDoor
