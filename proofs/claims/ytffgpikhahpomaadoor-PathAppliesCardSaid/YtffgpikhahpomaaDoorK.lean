/- Layer 5: rowOf, list. -/
import Derived.Test.YtffgpikhahpomaaDoorJ
namespace Go.Proofs.YtffgpikhahpomaaDoor
open Go.RowKit
theorem sizeP : (Tryd.prog.info? 44).map (·.size) = some 2 := by kernel_rfl
theorem cells_src {w : World} {b o : Nat} {l : List Pt} (h : PtsAt w b o l) : ∀ j v, (flatL l)[j]? = some v → w.cell? ((⟨b, o, none⟩ : Addr).add j) = some v := fun j v hj => by
  have hlt : j < l.length * 2 := by
    have := (List.getElem?_eq_some_iff.1 hj).1
    rwa [flatL_length] at this
  obtain ⟨p, hp⟩ : ∃ p, l[j / 2]? = some p := ⟨_, List.getElem?_eq_getElem (by omega)⟩
  obtain ⟨e0, e1⟩ := flatL_at l (j / 2) p hp
  obtain ⟨c0, c1⟩ := h (j / 2) p hp
  rw [Addr.add_lit]
  rcases Nat.mod_two_eq_zero_or_one j with h2 | h2
  · have hj2 : j = j / 2 * 2 := by omega
    rw [hj2, e0] at hj
    rw [hj2, c0]; exact hj
  · have hj2 : j = j / 2 * 2 + 1 := by omega
    rw [hj2, e1] at hj
    rw [hj2, ← Nat.add_assoc, c1]; exact hj
theorem made3 : madeCells #[.int .i64 0, .int .i64 0] (3 * 2) = #[.int .i64 0, .int .i64 0, .int .i64 0, .int .i64 0, .int .i64 0, .int .i64 0] := by first | rfl | (with_unfolding_all rfl) | kernel_rfl | (simp [madeCells])
theorem made4 : madeCells #[.int .i64 0, .int .i64 0] (4 * 2) = #[.int .i64 0, .int .i64 0, .int .i64 0, .int .i64 0, .int .i64 0, .int .i64 0, .int .i64 0, .int .i64 0] := by first | rfl | (with_unfolding_all rfl) | kernel_rfl | (simp [madeCells])
theorem make_pts (w : World) (n : Nat) (hn : n ≤ 64) : (Instr.makeSlice 37 (.int .i64 (n : Int)) (.int .i64 (n : Int))).run Tryd.prog w = .ok (.slice (some ⟨w.heap.size, 0, none⟩) n n) (w.alloc (.cells (madeCells #[.int .i64 0, .int .i64 0] (n * 2)) 44)) := by
  obtain ⟨i, hi, hz0, hz1, hz2⟩ := info_parts infoP
  have h := run_make (P := Tryd.prog) w 37 44 i _ Tryd.underlying37 hi hz0 .i64 .i64 n n (by omega) (by omega) (by rw [hz2]; omega) (by omega)
  rw [hz1] at h
  exact h
theorem pts_row {w : World} {g : Nat} {t : TypeId} {x : Ro} (h : Blk w g t x.cells) (l : List Pt) (hl : l = [x.p, x.q, x.r, x.s].take l.length) : PtsAt w g 0 l := fun i a ha => by
  rw [hl, List.getElem?_take] at ha
  split at ha
  · rw [Nat.zero_add, h.cell, h.cell]
    match i, ha with
    | 0, ha => simp at ha; subst ha; exact ⟨rfl, rfl⟩
    | 1, ha => simp at ha; subst ha; exact ⟨rfl, rfl⟩
    | 2, ha => simp at ha; subst ha; exact ⟨rfl, rfl⟩
    | 3, ha => simp at ha; subst ha; exact ⟨rfl, rfl⟩
    | k + 4, ha => simp at ha
  · cases ha
theorem own_full {w : World} {g n k : Nat} {t : TypeId} {l : List Pt} (h : Blk w g t (flatL l).toArray) (hg : n ≤ g) (hk : k = l.length) (hm : k ≤ maxLen) : Own w n t (.slice (some ⟨g, 0, none⟩) k k) l := by
  subst hk
  refine ⟨flatL_length l, .inr ⟨g, l.length, (flatL l).toArray, rfl, hg, h, Nat.le_refl _, hm, by simp [flatL_length], ?_⟩⟩
  rw [List.take_of_length_le]
  simp [flatL_length]
set_option maxHeartbeats 2000000 in
set_option maxRecDepth 100000 in
theorem rowOf_three (p q r : Pt) (w : World) (b o c : Nat) (hb : b < w.heap.size) (hp : PtsAt w b o [p, q, r]) :
    Calls Tryd.prog 64 #[.slice (some ⟨b, o, none⟩) 3 c] w fun e w' => e = .returned (.agg (nine p q r zP 3)) ∧ Below w.heap.size w w' := by
  have HP := Lib.hid hp
  have S0 : Hid (Mem w ((w.alloc (.cells #[.int .i64 0, .int .i64 0, .int .i64 0, .int .i64 0, .int .i64 0, .int .i64 0, .int .i64 0, .int .i64 0, .int .i64 0] 112)).alloc (.cells #[.int .i64 0, .int .i64 0, .int .i64 0, .int .i64 0, .int .i64 0, .int .i64 0, .int .i64 0, .int .i64 0, .int .i64 0] 112)) [(w.heap.size + 1, 112, (Ro.mk zP zP zP zP 0).cells), (w.heap.size, 112, (Ro.mk zP zP zP zP 0).cells)]) := Lib.hid (((Mem.refl w).add 112 (Ro.mk zP zP zP zP 0).cells).addAt 112 (Ro.mk zP zP zP zP 0).cells (w.heap.size + 1) (by simp))
  have BW : Below w.heap.size w ((w.alloc (.cells #[.int .i64 0, .int .i64 0, .int .i64 0, .int .i64 0, .int .i64 0, .int .i64 0, .int .i64 0, .int .i64 0, .int .i64 0] 112)).alloc (.cells #[.int .i64 0, .int .i64 0, .int .i64 0, .int .i64 0, .int .i64 0, .int .i64 0, .int .i64 0, .int .i64 0, .int .i64 0] 112)) := S0.out.below
  have E := run_copy_wide (P := Tryd.prog) ((w.alloc (.cells #[.int .i64 0, .int .i64 0, .int .i64 0, .int .i64 0, .int .i64 0, .int .i64 0, .int .i64 0, .int .i64 0, .int .i64 0] 112)).alloc (.cells #[.int .i64 0, .int .i64 0, .int .i64 0, .int .i64 0, .int .i64 0, .int .i64 0, .int .i64 0, .int .i64 0, .int .i64 0] 112)) 37 37 3 44 (w.heap.size + 1) 0 4 4 ⟨b, o, none⟩ 3 c 2 (Ro.mk zP zP zP zP 0).cells 112 (flatL [p, q, r]) Tryd.underlying37 sizeP S0.out.lays.1 rfl (cells_src (HP.out.on BW hb)) (Nat.le_of_ble_eq_true rfl) (flatL_one _)
  obtain ⟨W, hW⟩ : ∃ W, World.setRow ((w.alloc (.cells #[.int .i64 0, .int .i64 0, .int .i64 0, .int .i64 0, .int .i64 0, .int .i64 0, .int .i64 0, .int .i64 0, .int .i64 0] 112)).alloc (.cells #[.int .i64 0, .int .i64 0, .int .i64 0, .int .i64 0, .int .i64 0, .int .i64 0, .int .i64 0, .int .i64 0, .int .i64 0] 112)) (w.heap.size + 1) ((Ro.mk zP zP zP zP 0).cells.toList.take 0 ++ flatL [p, q, r] ++ (Ro.mk zP zP zP zP 0).cells.toList.drop (0 + (flatL [p, q, r]).length)).toArray = W := ⟨_, rfl⟩
  rw [hW] at E
  have S1 : Hid (Mem w W [(w.heap.size + 1, 112, (Ro.mk p q r zP 0).cells), (w.heap.size, 112, (Ro.mk zP zP zP zP 0).cells)]) := by
    subst hW
    exact Lib.hid ⟨below_setRow S0.out.below (by omega) _, Blk.row S0.out.lays.1 _, S0.out.lays.2.1.rowOther (by dsimp only; omega) _, trivial⟩
  obtain ⟨n, hn⟩ : ∃ n, w.heap.size = n := ⟨_, rfl⟩
  rw [hn] at S1 E ⊢
  have B1 : Hid (Below n w W) := hn ▸ S1.out.below
  have B2 : Hid (Below n w (W.setCell ⟨n + 1, 8, none⟩ (.int .i64 3))) := B1.out.setCell (by dsimp only; omega) _
  clear BW hp hW S0
  have k1 := S1.out.lays.1
  have k0 := S1.out.lays.2.1
  have c0 := k1.r0
  have c1 := k1.r1
  have c2 := k1.r2
  have c3 := k1.r3
  have c4 := k1.r4
  have c5 := k1.r5
  have c6 := k1.r6
  have c7 := k1.r7
  have c8 := k1.r8
  have d0 := k0.r0
  have d1 := k0.r1
  have d2 := k0.r2
  have d3 := k0.r3
  have d4 := k0.r4
  have d5 := k0.r5
  have d6 := k0.r6
  have d7 := k0.r7
  have d8 := k0.r8
  have f0 := k0.free 0
  have f1 := k0.free 1
  have f2 := k0.free 2
  have f3 := k0.free 3
  have f4 := k0.free 4
  have f5 := k0.free 5
  have f6 := k0.free 6
  have f7 := k0.free 7
  have f8 := k0.free 8
  have g8 := k1.free 8
  have l0 := k0.lt
  have l1 := k1.lt
  simp only at c0 c1 c2 c3 c4 c5 c6 c7 c8 d0 d1 d2 d3 d4 d5 d6 d7 d8
  clear k0 k1
  go_enter Tryd.func64, Tryd.ntmps64
  go_wp2_with fail
  exact bodyPost_ret (results_row (x := Ro.mk p q r zP 3) 2 rfl rfl ((S1.out.lays.2.1.other ⟨n + 1, 8, none⟩ (.int .i64 3) (by dsimp only; omega)).set9 (Ro.mk p q r zP 3))) rfl ⟨rfl, below_nine (g := n) B2.out (Nat.le_refl _) _ _ _ _ _ _ _ _ _⟩
set_option maxHeartbeats 2000000 in
set_option maxRecDepth 100000 in
theorem rowOf_four (p q r s : Pt) (w : World) (b o c : Nat) (hb : b < w.heap.size) (hp : PtsAt w b o [p, q, r, s]) :
    Calls Tryd.prog 64 #[.slice (some ⟨b, o, none⟩) 4 c] w fun e w' => e = .returned (.agg (nine p q r s 4)) ∧ Below w.heap.size w w' := by
  have HP := Lib.hid hp
  have S0 : Hid (Mem w ((w.alloc (.cells #[.int .i64 0, .int .i64 0, .int .i64 0, .int .i64 0, .int .i64 0, .int .i64 0, .int .i64 0, .int .i64 0, .int .i64 0] 112)).alloc (.cells #[.int .i64 0, .int .i64 0, .int .i64 0, .int .i64 0, .int .i64 0, .int .i64 0, .int .i64 0, .int .i64 0, .int .i64 0] 112)) [(w.heap.size + 1, 112, (Ro.mk zP zP zP zP 0).cells), (w.heap.size, 112, (Ro.mk zP zP zP zP 0).cells)]) := Lib.hid (((Mem.refl w).add 112 (Ro.mk zP zP zP zP 0).cells).addAt 112 (Ro.mk zP zP zP zP 0).cells (w.heap.size + 1) (by simp))
  have BW : Below w.heap.size w ((w.alloc (.cells #[.int .i64 0, .int .i64 0, .int .i64 0, .int .i64 0, .int .i64 0, .int .i64 0, .int .i64 0, .int .i64 0, .int .i64 0] 112)).alloc (.cells #[.int .i64 0, .int .i64 0, .int .i64 0, .int .i64 0, .int .i64 0, .int .i64 0, .int .i64 0, .int .i64 0, .int .i64 0] 112)) := S0.out.below
  have E := run_copy_wide (P := Tryd.prog) ((w.alloc (.cells #[.int .i64 0, .int .i64 0, .int .i64 0, .int .i64 0, .int .i64 0, .int .i64 0, .int .i64 0, .int .i64 0, .int .i64 0] 112)).alloc (.cells #[.int .i64 0, .int .i64 0, .int .i64 0, .int .i64 0, .int .i64 0, .int .i64 0, .int .i64 0, .int .i64 0, .int .i64 0] 112)) 37 37 3 44 (w.heap.size + 1) 0 4 4 ⟨b, o, none⟩ 4 c 2 (Ro.mk zP zP zP zP 0).cells 112 (flatL [p, q, r, s]) Tryd.underlying37 sizeP S0.out.lays.1 rfl (cells_src (HP.out.on BW hb)) (Nat.le_of_ble_eq_true rfl) (flatL_one _)
  obtain ⟨W, hW⟩ : ∃ W, World.setRow ((w.alloc (.cells #[.int .i64 0, .int .i64 0, .int .i64 0, .int .i64 0, .int .i64 0, .int .i64 0, .int .i64 0, .int .i64 0, .int .i64 0] 112)).alloc (.cells #[.int .i64 0, .int .i64 0, .int .i64 0, .int .i64 0, .int .i64 0, .int .i64 0, .int .i64 0, .int .i64 0, .int .i64 0] 112)) (w.heap.size + 1) ((Ro.mk zP zP zP zP 0).cells.toList.take 0 ++ flatL [p, q, r, s] ++ (Ro.mk zP zP zP zP 0).cells.toList.drop (0 + (flatL [p, q, r, s]).length)).toArray = W := ⟨_, rfl⟩
  rw [hW] at E
  have S1 : Hid (Mem w W [(w.heap.size + 1, 112, (Ro.mk p q r s 0).cells), (w.heap.size, 112, (Ro.mk zP zP zP zP 0).cells)]) := by
    subst hW
    exact Lib.hid ⟨below_setRow S0.out.below (by omega) _, Blk.row S0.out.lays.1 _, S0.out.lays.2.1.rowOther (by dsimp only; omega) _, trivial⟩
  obtain ⟨n, hn⟩ : ∃ n, w.heap.size = n := ⟨_, rfl⟩
  rw [hn] at S1 E ⊢
  have B1 : Hid (Below n w W) := hn ▸ S1.out.below
  have B2 : Hid (Below n w (W.setCell ⟨n + 1, 8, none⟩ (.int .i64 4))) := B1.out.setCell (by dsimp only; omega) _
  clear BW hp hW S0
  have k1 := S1.out.lays.1
  have k0 := S1.out.lays.2.1
  have c0 := k1.r0
  have c1 := k1.r1
  have c2 := k1.r2
  have c3 := k1.r3
  have c4 := k1.r4
  have c5 := k1.r5
  have c6 := k1.r6
  have c7 := k1.r7
  have c8 := k1.r8
  have d0 := k0.r0
  have d1 := k0.r1
  have d2 := k0.r2
  have d3 := k0.r3
  have d4 := k0.r4
  have d5 := k0.r5
  have d6 := k0.r6
  have d7 := k0.r7
  have d8 := k0.r8
  have f0 := k0.free 0
  have f1 := k0.free 1
  have f2 := k0.free 2
  have f3 := k0.free 3
  have f4 := k0.free 4
  have f5 := k0.free 5
  have f6 := k0.free 6
  have f7 := k0.free 7
  have f8 := k0.free 8
  have g8 := k1.free 8
  have l0 := k0.lt
  have l1 := k1.lt
  simp only at c0 c1 c2 c3 c4 c5 c6 c7 c8 d0 d1 d2 d3 d4 d5 d6 d7 d8
  clear k0 k1
  go_enter Tryd.func64, Tryd.ntmps64
  go_wp2_with fail
  exact bodyPost_ret (results_row (x := Ro.mk p q r s 4) 2 rfl rfl ((S1.out.lays.2.1.other ⟨n + 1, 8, none⟩ (.int .i64 4) (by dsimp only; omega)).set9 (Ro.mk p q r s 4))) rfl ⟨rfl, below_nine (g := n) B2.out (Nat.le_refl _) _ _ _ _ _ _ _ _ _⟩
set_option maxHeartbeats 2000000 in
set_option maxRecDepth 100000 in
theorem list_three (p q r s : Pt) (w : World) :
    Calls Tryd.prog 68 #[.agg (nine p q r s 3)] w fun e w' => ∃ v, e = .returned v ∧ Own w' w.heap.size 44 v [p, q, r] ∧ Below w.heap.size w w' := by
  have S0 : Hid (Mem w ((w.alloc (.cells (nine p q r s 3) 112)).alloc (.cells #[.int .i64 0, .int .i64 0, .int .i64 0, .int .i64 0, .int .i64 0, .int .i64 0] 44)) [(w.heap.size + 1, 44, #[.int .i64 0, .int .i64 0, .int .i64 0, .int .i64 0, .int .i64 0, .int .i64 0]), (w.heap.size, 112, (Ro.mk p q r s 3).cells)]) := Lib.hid (((Mem.refl w).add 112 (Ro.mk p q r s 3).cells).addAt 44 #[.int .i64 0, .int .i64 0, .int .i64 0, .int .i64 0, .int .i64 0, .int .i64 0] (w.heap.size + 1) (by simp))
  have E := run_copy_wide (P := Tryd.prog) ((w.alloc (.cells (nine p q r s 3) 112)).alloc (.cells #[.int .i64 0, .int .i64 0, .int .i64 0, .int .i64 0, .int .i64 0, .int .i64 0] 44)) 37 37 3 44 (w.heap.size + 1) 0 3 3 ⟨w.heap.size, 0, none⟩ 4 4 2 #[.int .i64 0, .int .i64 0, .int .i64 0, .int .i64 0, .int .i64 0, .int .i64 0] 44 (flatL [p, q, r]) Tryd.underlying37 sizeP S0.out.lays.1 rfl (cells_src (pts_row S0.out.lays.2.1 [p, q, r] (by rfl))) (Nat.le_of_ble_eq_true rfl) (flatL_one _)
  have E0 : (Instr.makeSlice 37 (.int .i64 3) (.int .i64 3)).run Tryd.prog (w.alloc (.cells (nine p q r s 3) 112)) = .ok (.slice (some ⟨w.heap.size + 1, 0, none⟩) 3 3) ((w.alloc (.cells (nine p q r s 3) 112)).alloc (.cells #[.int .i64 0, .int .i64 0, .int .i64 0, .int .i64 0, .int .i64 0, .int .i64 0] 44)) := by
    have h := make_pts (w.alloc (.cells (nine p q r s 3) 112)) 3 (by decide)
    rw [show (w.alloc (.cells (nine p q r s 3) 112)).heap.size = w.heap.size + 1 by simp, made3] at h
    exact h
  obtain ⟨W, hW⟩ : ∃ W, World.setRow ((w.alloc (.cells (nine p q r s 3) 112)).alloc (.cells #[.int .i64 0, .int .i64 0, .int .i64 0, .int .i64 0, .int .i64 0, .int .i64 0] 44)) (w.heap.size + 1) ((#[.int .i64 0, .int .i64 0, .int .i64 0, .int .i64 0, .int .i64 0, .int .i64 0] : Array Value).toList.take 0 ++ flatL [p, q, r] ++ (#[.int .i64 0, .int .i64 0, .int .i64 0, .int .i64 0, .int .i64 0, .int .i64 0] : Array Value).toList.drop (0 + (flatL [p, q, r]).length)).toArray = W := ⟨_, rfl⟩
  rw [hW] at E
  have S1 : Hid (Blk W (w.heap.size + 1) 44 (flatL [p, q, r]).toArray ∧ Below w.heap.size w W) := by
    subst hW
    exact ⟨Blk.row S0.out.lays.1 _, below_setRow S0.out.below (by omega) _⟩
  obtain ⟨n, hn⟩ : ∃ n, w.heap.size = n := ⟨_, rfl⟩
  rw [hn] at S1 E E0 ⊢
  clear hW S0
  go_enter Tryd.func68, Tryd.ntmps68
  go_wp2_with fail
  go_ret
  exact ⟨_, rfl, own_full (n := n) S1.out.1 (by omega) rfl (by decide), S1.out.2⟩
set_option maxHeartbeats 2000000 in
set_option maxRecDepth 100000 in
theorem list_four (p q r s : Pt) (w : World) :
    Calls Tryd.prog 68 #[.agg (nine p q r s 4)] w fun e w' => ∃ v, e = .returned v ∧ Own w' w.heap.size 44 v [p, q, r, s] ∧ Below w.heap.size w w' := by
  have S0 : Hid (Mem w ((w.alloc (.cells (nine p q r s 4) 112)).alloc (.cells #[.int .i64 0, .int .i64 0, .int .i64 0, .int .i64 0, .int .i64 0, .int .i64 0, .int .i64 0, .int .i64 0] 44)) [(w.heap.size + 1, 44, #[.int .i64 0, .int .i64 0, .int .i64 0, .int .i64 0, .int .i64 0, .int .i64 0, .int .i64 0, .int .i64 0]), (w.heap.size, 112, (Ro.mk p q r s 4).cells)]) := Lib.hid (((Mem.refl w).add 112 (Ro.mk p q r s 4).cells).addAt 44 #[.int .i64 0, .int .i64 0, .int .i64 0, .int .i64 0, .int .i64 0, .int .i64 0, .int .i64 0, .int .i64 0] (w.heap.size + 1) (by simp))
  have E := run_copy_wide (P := Tryd.prog) ((w.alloc (.cells (nine p q r s 4) 112)).alloc (.cells #[.int .i64 0, .int .i64 0, .int .i64 0, .int .i64 0, .int .i64 0, .int .i64 0, .int .i64 0, .int .i64 0] 44)) 37 37 3 44 (w.heap.size + 1) 0 4 4 ⟨w.heap.size, 0, none⟩ 4 4 2 #[.int .i64 0, .int .i64 0, .int .i64 0, .int .i64 0, .int .i64 0, .int .i64 0, .int .i64 0, .int .i64 0] 44 (flatL [p, q, r, s]) Tryd.underlying37 sizeP S0.out.lays.1 rfl (cells_src (pts_row S0.out.lays.2.1 [p, q, r, s] (by rfl))) (Nat.le_of_ble_eq_true rfl) (flatL_one _)
  have E0 : (Instr.makeSlice 37 (.int .i64 4) (.int .i64 4)).run Tryd.prog (w.alloc (.cells (nine p q r s 4) 112)) = .ok (.slice (some ⟨w.heap.size + 1, 0, none⟩) 4 4) ((w.alloc (.cells (nine p q r s 4) 112)).alloc (.cells #[.int .i64 0, .int .i64 0, .int .i64 0, .int .i64 0, .int .i64 0, .int .i64 0, .int .i64 0, .int .i64 0] 44)) := by
    have h := make_pts (w.alloc (.cells (nine p q r s 4) 112)) 4 (by decide)
    rw [show (w.alloc (.cells (nine p q r s 4) 112)).heap.size = w.heap.size + 1 by simp, made4] at h
    exact h
  obtain ⟨W, hW⟩ : ∃ W, World.setRow ((w.alloc (.cells (nine p q r s 4) 112)).alloc (.cells #[.int .i64 0, .int .i64 0, .int .i64 0, .int .i64 0, .int .i64 0, .int .i64 0, .int .i64 0, .int .i64 0] 44)) (w.heap.size + 1) ((#[.int .i64 0, .int .i64 0, .int .i64 0, .int .i64 0, .int .i64 0, .int .i64 0, .int .i64 0, .int .i64 0] : Array Value).toList.take 0 ++ flatL [p, q, r, s] ++ (#[.int .i64 0, .int .i64 0, .int .i64 0, .int .i64 0, .int .i64 0, .int .i64 0, .int .i64 0, .int .i64 0] : Array Value).toList.drop (0 + (flatL [p, q, r, s]).length)).toArray = W := ⟨_, rfl⟩
  rw [hW] at E
  have S1 : Hid (Blk W (w.heap.size + 1) 44 (flatL [p, q, r, s]).toArray ∧ Below w.heap.size w W) := by
    subst hW
    exact ⟨Blk.row S0.out.lays.1 _, below_setRow S0.out.below (by omega) _⟩
  obtain ⟨n, hn⟩ : ∃ n, w.heap.size = n := ⟨_, rfl⟩
  rw [hn] at S1 E E0 ⊢
  clear hW S0
  go_enter Tryd.func68, Tryd.ntmps68
  go_wp2_with fail
  go_ret
  exact ⟨_, rfl, own_full (n := n) S1.out.1 (by omega) rfl (by decide), S1.out.2⟩
end Go.Proofs.YtffgpikhahpomaaDoor

