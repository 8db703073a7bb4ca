/- Boxes: Has, Empty, Join; geom.Bound. -/
import Derived.Test.YtoppmlfibllhlaaA
namespace Go.Proofs.Ytoppmlfibllhlaa
open Go.RowKit

structure Bx where
  x0 : Int
  y0 : Int
  x1 : Int
  y1 : Int
abbrev fourB (b : Bx) : Array Value := #[.int .i64 b.x0, .int .i64 b.y0, .int .i64 b.x1, .int .i64 b.y1]
def emptyI (b : Bx) : Bool := decide (b.x0 ≥ b.x1) || decide (b.y0 ≥ b.y1)
def hasI (b : Bx) (x y : Int) : Bool := decide (b.x0 ≤ x) && decide (x < b.x1) && decide (b.y0 ≤ y) && decide (y < b.y1)
theorem emptyB_c (b : Bx) (w : World) : Calls Try.prog 45 #[.agg #[.int .i64 b.x0, .int .i64 b.y0, .int .i64 b.x1, .int .i64 b.y1]] w fun e w' => e = .returned (.bool (emptyI b)) ∧ Below w.heap.size w w' := by
  obtain ⟨x0, y0, x1, y1⟩ := b
  unfold emptyI
  by_cases h : x0 ≥ x1
  · go_enter Try.func45, Try.ntmps45
    go_wp2_with fail
    go_ret
    exact ⟨by simp [h], by go_grown⟩
  · go_enter Try.func45, Try.ntmps45
    go_wp2_with fail
    go_ret
    exact ⟨by simp; omega, by go_grown⟩
/-- A box in memory. -/
theorem Blk.b0 {w : World} {g : Nat} {t : TypeId} {b : Bx} (h : Blk w g t (fourB b)) : w.cell? ⟨g, 0, none⟩ = some (.int .i64 b.x0) := h.cell 0
theorem Blk.b1 {w : World} {g : Nat} {t : TypeId} {b : Bx} (h : Blk w g t (fourB b)) : w.cell? ⟨g, 1, none⟩ = some (.int .i64 b.y0) := h.cell 1
theorem Blk.b2 {w : World} {g : Nat} {t : TypeId} {b : Bx} (h : Blk w g t (fourB b)) : w.cell? ⟨g, 2, none⟩ = some (.int .i64 b.x1) := h.cell 2
theorem Blk.b3 {w : World} {g : Nat} {t : TypeId} {b : Bx} (h : Blk w g t (fourB b)) : w.cell? ⟨g, 3, none⟩ = some (.int .i64 b.y1) := h.cell 3
/-- Four cells stored. -/
def World.set4 (w : World) (g : Nat) (a b c d : Value) : World := (((w.setCell ⟨g, 0, none⟩ a).setCell ⟨g, 1, none⟩ b).setCell ⟨g, 2, none⟩ c).setCell ⟨g, 3, none⟩ d
theorem Blk.setB {w : World} {g : Nat} {t : TypeId} {b : Bx} (h : Blk w g t (fourB b)) (c : Bx) : Blk ((((w.setCell ⟨g, 0, none⟩ (.int .i64 c.x0)).setCell ⟨g, 1, none⟩ (.int .i64 c.y0)).setCell ⟨g, 2, none⟩ (.int .i64 c.x1)).setCell ⟨g, 3, none⟩ (.int .i64 c.y1)) g t (fourB c) := (((h.set 0 _).set 1 _).set 2 _).set 3 _
theorem Blk.otherB {w : World} {g g' : Nat} {t : TypeId} {cs : Array Value} (h : Blk w g t cs) (hne : g ≠ g') (a b c d : Value) : Blk ((((w.setCell ⟨g', 0, none⟩ a).setCell ⟨g', 1, none⟩ b).setCell ⟨g', 2, none⟩ c).setCell ⟨g', 3, none⟩ d) g t cs := (((h.other _ _ hne).other _ _ hne).other _ _ hne).other _ _ hne
theorem below_four {w w' : World} {B g : Nat} (h : Below B w w') (hg : B ≤ g) (a b c d : Value) : Below B w ((((w'.setCell ⟨g, 0, none⟩ a).setCell ⟨g, 1, none⟩ b).setCell ⟨g, 2, none⟩ c).setCell ⟨g, 3, none⟩ d) := (((h.setCell hg _).setCell hg _).setCell hg _).setCell hg _
theorem results_box {fn : Func} {tmps : Array Value} {w : World} {g : Nat} {b : Bx} (t : Nat) (hres : fn.results = #[.cell t 26]) (ht : tmps[t]? = some (.pointer (some ⟨g, 0, none⟩))) (h : Blk w g 26 (fourB b)) :
    (results fn tmps).run Try.prog w = .ok (.agg (fourB b)) w := by
  have h0 := h.b0
  have h1 := h.b1
  have h2 := h.b2
  have h3 := h.b3
  simp [results, hres, ht, go_sem, h0, h1, h2, h3]
def objB (b : Bx) : Obj := .cells (fourB b) 26
def meet0 (a b : Bx) : Bx := ⟨max a.x0 b.x0, max a.y0 b.y0, min a.x1 b.x1, min a.y1 b.y1⟩
def meetI (a b : Bx) : Bx := if emptyI (meet0 a b) = true then ⟨0, 0, 0, 0⟩ else meet0 a b
def join0 (a b : Bx) : Bx := ⟨min a.x0 b.x0, min a.y0 b.y0, max a.x1 b.x1, max a.y1 b.y1⟩
def joinI (a b : Bx) : Bx := if emptyI a = true then (if emptyI b = true then ⟨0, 0, 0, 0⟩ else b) else if emptyI b = true then a else join0 a b
set_option maxHeartbeats 1000000 in
set_option maxRecDepth 100000 in
theorem join_c (a b : Bx) (w : World) : Calls Try.prog 53 #[.agg #[.int .i64 a.x0, .int .i64 a.y0, .int .i64 a.x1, .int .i64 a.y1], .agg #[.int .i64 b.x0, .int .i64 b.y0, .int .i64 b.x1, .int .i64 b.y1]] w fun e w' => e = .returned (.agg (fourB (joinI a b))) ∧ Below w.heap.size w w' := by
  obtain ⟨m, hm⟩ : ∃ m, join0 a b = m := ⟨_, rfl⟩
  have HJ : Hid (joinI a b = if emptyI a = true then (if emptyI b = true then ⟨0, 0, 0, 0⟩ else b) else if emptyI b = true then a else m) := by unfold Hid joinI; rw [hm]
  have E : min a.x0 b.x0 = m.x0 ∧ min a.y0 b.y0 = m.y0 ∧ max a.x1 b.x1 = m.x1 ∧ max a.y1 b.y1 = m.y1 := by rw [← hm]; exact ⟨rfl, rfl, rfl, rfl⟩
  obtain ⟨E1, E2, E3, E4⟩ := E
  have HEA := Lib.hid (emptyB_c a)
  have HEB := Lib.hid (emptyB_c b)
  clear hm
  -- what holds in each world behind a call
  obtain ⟨W, hW⟩ : ∃ W, ((w.alloc (.cells (fourB a) 26)).alloc (.cells (fourB b) 26)).alloc (.cells (fourB ⟨0, 0, 0, 0⟩) 26) = W := ⟨_, rfl⟩
  have ka : Blk W w.heap.size 26 (fourB a) := by rw [← hW]; exact ((Blk.newAt _ _ _ rfl).alloc _).alloc _
  have kb : Blk W (w.heap.size + 1) 26 (fourB b) := by rw [← hW]; exact (Blk.newAt _ _ _ (by simp)).alloc _
  have kz : Blk W (w.heap.size + 2) 26 (fourB ⟨0, 0, 0, 0⟩) := by rw [← hW]; exact Blk.newAt _ _ _ (by simp)
  have hB : Below w.heap.size w W := by rw [← hW]; exact (((Below.refl _ _).alloc (Nat.le_refl _) _).alloc (by simp) _).alloc (by simp; omega) _
  have HK : Hid (∀ w', Below W.heap.size W w' → (Blk w' w.heap.size 26 (fourB a) ∧ Blk w' (w.heap.size + 1) 26 (fourB b) ∧ Blk w' (w.heap.size + 2) 26 (fourB ⟨0, 0, 0, 0⟩)) ∧ Below w.heap.size w w') := fun w' h => ⟨⟨ka.grow h, kb.grow h, kz.grow h⟩, below_next hB h⟩
  have HW := Lib.hid hW
  clear ka kb kz hB hW
  cases ha : emptyI a
  · cases hb : emptyI b
    · rw [ha] at HEA; rw [hb] at HEB
      have hr : Hid (joinI a b = m) := by unfold Hid; rw [HJ.out, ha, hb]; simp
      clear HJ ha hb
      go_enter Try.func53, Try.ntmps53
      go_wp2_with fail
      refine (HEA.out _).mono ?_
      rintro e w1 ⟨rfl, hb1⟩
      rw [HW.out] at hb1
      have B1 : Hid (Below W.heap.size W w1) := hb1
      obtain ⟨⟨ka, kb, kz⟩, hB1⟩ := HK.out w1 B1.out
      have a0 := ka.b0
      have a1 := ka.b1
      have a2 := ka.b2
      have a3 := ka.b3
      have b0 := kb.b0
      have b1 := kb.b1
      have b2 := kb.b2
      have b3 := kb.b3
      have z0 := kz.b0
      have z1 := kz.b1
      have z2 := kz.b2
      have z3 := kz.b3
      have f0 := kz.free 0
      have f1 := kz.free 1
      have f2 := kz.free 2
      have f3 := kz.free 3
      simp only at z0 z1 z2 z3
      have KZ1 := Lib.hid kz; have HB1 := Lib.hid hB1
      clear ka kb kz hB1 hb1
      go_wp2_with fail
      refine (HEA.out _).mono ?_
      rintro e w2 ⟨rfl, hb2⟩
      have B2 : Hid (Below W.heap.size W w2) := below_next B1.out hb2
      clear a0 a1 a2 a3 b0 b1 b2 b3 z0 z1 z2 z3 f0 f1 f2 f3
      obtain ⟨⟨ka, kb, kz⟩, hB2⟩ := HK.out w2 B2.out
      have a0 := ka.b0
      have a1 := ka.b1
      have a2 := ka.b2
      have a3 := ka.b3
      have b0 := kb.b0
      have b1 := kb.b1
      have b2 := kb.b2
      have b3 := kb.b3
      have z0 := kz.b0
      have z1 := kz.b1
      have z2 := kz.b2
      have z3 := kz.b3
      have f0 := kz.free 0
      have f1 := kz.free 1
      have f2 := kz.free 2
      have f3 := kz.free 3
      simp only at z0 z1 z2 z3
      have KZ2 := Lib.hid kz; have HB2 := Lib.hid hB2
      clear ka kb kz hB2 hb2
      go_wp2_with fail
      refine (HEB.out _).mono ?_
      rintro e w3 ⟨rfl, hb3⟩
      have B3 : Hid (Below W.heap.size W w3) := below_next B2.out hb3
      clear a0 a1 a2 a3 b0 b1 b2 b3 z0 z1 z2 z3 f0 f1 f2 f3
      obtain ⟨⟨ka, kb, kz⟩, hB3⟩ := HK.out w3 B3.out
      have a0 := ka.b0
      have a1 := ka.b1
      have a2 := ka.b2
      have a3 := ka.b3
      have b0 := kb.b0
      have b1 := kb.b1
      have b2 := kb.b2
      have b3 := kb.b3
      have z0 := kz.b0
      have z1 := kz.b1
      have z2 := kz.b2
      have z3 := kz.b3
      have f0 := kz.free 0
      have f1 := kz.free 1
      have f2 := kz.free 2
      have f3 := kz.free 3
      simp only at z0 z1 z2 z3
      have KZ3 := Lib.hid kz; have HB3 := Lib.hid hB3
      clear ka kb kz hB3 hb3
      go_wp2_with fail
      refine bodyPost_ret (v := .agg (fourB m)) (results_box 4 rfl rfl (KZ3.out.setB m)) rfl ⟨by rw [hr.out], below_four (g := w.heap.size + 2) HB3.out (by omega) _ _ _ _⟩
    · rw [ha] at HEA; rw [hb] at HEB
      have hr : Hid (joinI a b = a) := by unfold Hid; rw [HJ.out, ha, hb]; simp
      clear HJ ha hb
      go_enter Try.func53, Try.ntmps53
      go_wp2_with fail
      refine (HEA.out _).mono ?_
      rintro e w1 ⟨rfl, hb1⟩
      rw [HW.out] at hb1
      have B1 : Hid (Below W.heap.size W w1) := hb1
      obtain ⟨⟨ka, kb, kz⟩, hB1⟩ := HK.out w1 B1.out
      have a0 := ka.b0
      have a1 := ka.b1
      have a2 := ka.b2
      have a3 := ka.b3
      have b0 := kb.b0
      have b1 := kb.b1
      have b2 := kb.b2
      have b3 := kb.b3
      have z0 := kz.b0
      have z1 := kz.b1
      have z2 := kz.b2
      have z3 := kz.b3
      have f0 := kz.free 0
      have f1 := kz.free 1
      have f2 := kz.free 2
      have f3 := kz.free 3
      simp only at z0 z1 z2 z3
      have KZ1 := Lib.hid kz; have HB1 := Lib.hid hB1
      clear ka kb kz hB1 hb1
      go_wp2_with fail
      refine (HEA.out _).mono ?_
      rintro e w2 ⟨rfl, hb2⟩
      have B2 : Hid (Below W.heap.size W w2) := below_next B1.out hb2
      clear a0 a1 a2 a3 b0 b1 b2 b3 z0 z1 z2 z3 f0 f1 f2 f3
      obtain ⟨⟨ka, kb, kz⟩, hB2⟩ := HK.out w2 B2.out
      have a0 := ka.b0
      have a1 := ka.b1
      have a2 := ka.b2
      have a3 := ka.b3
      have b0 := kb.b0
      have b1 := kb.b1
      have b2 := kb.b2
      have b3 := kb.b3
      have z0 := kz.b0
      have z1 := kz.b1
      have z2 := kz.b2
      have z3 := kz.b3
      have f0 := kz.free 0
      have f1 := kz.free 1
      have f2 := kz.free 2
      have f3 := kz.free 3
      simp only at z0 z1 z2 z3
      have KZ2 := Lib.hid kz; have HB2 := Lib.hid hB2
      clear ka kb kz hB2 hb2
      go_wp2_with fail
      refine (HEB.out _).mono ?_
      rintro e w3 ⟨rfl, hb3⟩
      have B3 : Hid (Below W.heap.size W w3) := below_next B2.out hb3
      clear a0 a1 a2 a3 b0 b1 b2 b3 z0 z1 z2 z3 f0 f1 f2 f3
      obtain ⟨⟨ka, kb, kz⟩, hB3⟩ := HK.out w3 B3.out
      have a0 := ka.b0
      have a1 := ka.b1
      have a2 := ka.b2
      have a3 := ka.b3
      have b0 := kb.b0
      have b1 := kb.b1
      have b2 := kb.b2
      have b3 := kb.b3
      have z0 := kz.b0
      have z1 := kz.b1
      have z2 := kz.b2
      have z3 := kz.b3
      have f0 := kz.free 0
      have f1 := kz.free 1
      have f2 := kz.free 2
      have f3 := kz.free 3
      simp only at z0 z1 z2 z3
      have KZ3 := Lib.hid kz; have HB3 := Lib.hid hB3
      clear ka kb kz hB3 hb3
      go_wp2_with fail
      refine bodyPost_ret (v := .agg (fourB a)) (results_box 4 rfl rfl (KZ3.out.setB a)) rfl ⟨by rw [hr.out], below_four (g := w.heap.size + 2) HB3.out (by omega) _ _ _ _⟩
  · cases hb : emptyI b
    · rw [ha] at HEA; rw [hb] at HEB
      have hr : Hid (joinI a b = b) := by unfold Hid; rw [HJ.out, ha, hb]; simp
      clear HJ ha hb
      go_enter Try.func53, Try.ntmps53
      go_wp2_with fail
      refine (HEA.out _).mono ?_
      rintro e w1 ⟨rfl, hb1⟩
      rw [HW.out] at hb1
      have B1 : Hid (Below W.heap.size W w1) := hb1
      obtain ⟨⟨ka, kb, kz⟩, hB1⟩ := HK.out w1 B1.out
      have a0 := ka.b0
      have a1 := ka.b1
      have a2 := ka.b2
      have a3 := ka.b3
      have b0 := kb.b0
      have b1 := kb.b1
      have b2 := kb.b2
      have b3 := kb.b3
      have z0 := kz.b0
      have z1 := kz.b1
      have z2 := kz.b2
      have z3 := kz.b3
      have f0 := kz.free 0
      have f1 := kz.free 1
      have f2 := kz.free 2
      have f3 := kz.free 3
      simp only at z0 z1 z2 z3
      have KZ1 := Lib.hid kz; have HB1 := Lib.hid hB1
      clear ka kb kz hB1 hb1
      go_wp2_with fail
      refine (HEB.out _).mono ?_
      rintro e w2 ⟨rfl, hb2⟩
      have B2 : Hid (Below W.heap.size W w2) := below_next B1.out hb2
      clear a0 a1 a2 a3 b0 b1 b2 b3 z0 z1 z2 z3 f0 f1 f2 f3
      obtain ⟨⟨ka, kb, kz⟩, hB2⟩ := HK.out w2 B2.out
      have a0 := ka.b0
      have a1 := ka.b1
      have a2 := ka.b2
      have a3 := ka.b3
      have b0 := kb.b0
      have b1 := kb.b1
      have b2 := kb.b2
      have b3 := kb.b3
      have z0 := kz.b0
      have z1 := kz.b1
      have z2 := kz.b2
      have z3 := kz.b3
      have f0 := kz.free 0
      have f1 := kz.free 1
      have f2 := kz.free 2
      have f3 := kz.free 3
      simp only at z0 z1 z2 z3
      have KZ2 := Lib.hid kz; have HB2 := Lib.hid hB2
      clear ka kb kz hB2 hb2
      go_wp2_with fail
      refine (HEA.out _).mono ?_
      rintro e w3 ⟨rfl, hb3⟩
      have B3 : Hid (Below W.heap.size W w3) := below_next B2.out hb3
      clear a0 a1 a2 a3 b0 b1 b2 b3 z0 z1 z2 z3 f0 f1 f2 f3
      obtain ⟨⟨ka, kb, kz⟩, hB3⟩ := HK.out w3 B3.out
      have a0 := ka.b0
      have a1 := ka.b1
      have a2 := ka.b2
      have a3 := ka.b3
      have b0 := kb.b0
      have b1 := kb.b1
      have b2 := kb.b2
      have b3 := kb.b3
      have z0 := kz.b0
      have z1 := kz.b1
      have z2 := kz.b2
      have z3 := kz.b3
      have f0 := kz.free 0
      have f1 := kz.free 1
      have f2 := kz.free 2
      have f3 := kz.free 3
      simp only at z0 z1 z2 z3
      have KZ3 := Lib.hid kz; have HB3 := Lib.hid hB3
      clear ka kb kz hB3 hb3
      go_wp2_with fail
      refine bodyPost_ret (v := .agg (fourB b)) (results_box 4 rfl rfl (KZ3.out.setB b)) rfl ⟨by rw [hr.out], below_four (g := w.heap.size + 2) HB3.out (by omega) _ _ _ _⟩
    · rw [ha] at HEA; rw [hb] at HEB
      have hr : Hid (joinI a b = ⟨0, 0, 0, 0⟩) := by unfold Hid; rw [HJ.out, ha, hb]; simp
      clear HJ ha hb
      go_enter Try.func53, Try.ntmps53
      go_wp2_with fail
      refine (HEA.out _).mono ?_
      rintro e w1 ⟨rfl, hb1⟩
      rw [HW.out] at hb1
      have B1 : Hid (Below W.heap.size W w1) := hb1
      obtain ⟨⟨ka, kb, kz⟩, hB1⟩ := HK.out w1 B1.out
      have a0 := ka.b0
      have a1 := ka.b1
      have a2 := ka.b2
      have a3 := ka.b3
      have b0 := kb.b0
      have b1 := kb.b1
      have b2 := kb.b2
      have b3 := kb.b3
      have z0 := kz.b0
      have z1 := kz.b1
      have z2 := kz.b2
      have z3 := kz.b3
      have f0 := kz.free 0
      have f1 := kz.free 1
      have f2 := kz.free 2
      have f3 := kz.free 3
      simp only at z0 z1 z2 z3
      have KZ1 := Lib.hid kz; have HB1 := Lib.hid hB1
      clear ka kb kz hB1 hb1
      go_wp2_with fail
      refine (HEB.out _).mono ?_
      rintro e w2 ⟨rfl, hb2⟩
      have B2 : Hid (Below W.heap.size W w2) := below_next B1.out hb2
      clear a0 a1 a2 a3 b0 b1 b2 b3 z0 z1 z2 z3 f0 f1 f2 f3
      obtain ⟨⟨ka, kb, kz⟩, hB2⟩ := HK.out w2 B2.out
      have a0 := ka.b0
      have a1 := ka.b1
      have a2 := ka.b2
      have a3 := ka.b3
      have b0 := kb.b0
      have b1 := kb.b1
      have b2 := kb.b2
      have b3 := kb.b3
      have z0 := kz.b0
      have z1 := kz.b1
      have z2 := kz.b2
      have z3 := kz.b3
      have f0 := kz.free 0
      have f1 := kz.free 1
      have f2 := kz.free 2
      have f3 := kz.free 3
      simp only at z0 z1 z2 z3
      have KZ2 := Lib.hid kz; have HB2 := Lib.hid hB2
      clear ka kb kz hB2 hb2
      go_wp2_with fail
      refine bodyPost_ret (v := .agg (fourB ⟨0, 0, 0, 0⟩)) (results_box 4 rfl rfl (KZ2.out.setB ⟨0, 0, 0, 0⟩)) rfl ⟨by rw [hr.out], below_four (g := w.heap.size + 2) HB2.out (by omega) _ _ _ _⟩
def ptBox (p : Pt) : Bx := ⟨p.1, p.2, p.1 + 1, p.2 + 1⟩
def bstep (b : Bx) (p : Pt) : Bx := joinI b (ptBox p)
def boundI (l : List Pt) : Bx := l.foldl bstep ⟨0, 0, 0, 0⟩
set_option maxHeartbeats 1000000 in
set_option maxRecDepth 100000 in
theorem bound_some (w : World) (b o c : Nat) (l : List Pt) (hl : l.length ≤ 1000) (hb : b < w.heap.size) (hp : PtsAt w b o l) (hr : l.all roomP = true) :
    Calls Try.prog 30 #[.slice (some ⟨b, o, none⟩) l.length c] w fun e w' => e = .returned (.agg (fourB (boundI l))) ∧ Below w.heap.size w w' := by
  obtain ⟨n, hn⟩ : ∃ n, l.length = n := ⟨_, rfl⟩
  rw [hn] at hl ⊢
  have HP := Lib.hid hp
  have HB := Lib.hid hb
  have HN := Lib.hid hn
  have HR := Lib.hid hr
  obtain ⟨res, hres⟩ : ∃ r, boundI l = r := ⟨_, rfl⟩
  rw [hres]
  have HRes := Lib.hid hres
  clear hp hb hn hr hres
  go_enter Try.func30, Try.ntmps30
  go_wp2_with fail
  go_loopw [8] (fun i wr => ∃ (k : Nat) (x : Bx), k ≤ n ∧ i = .int .i64 k ∧ Hid ((l.take k).foldl bstep ⟨0, 0, 0, 0⟩ = x) ∧ Hid (Blk wr w.heap.size 26 (fourB ⟨0, 0, 0, 0⟩) ∧ Blk wr (w.heap.size + 1) 26 (fourB x) ∧ Below w.heap.size w wr)) (fun i _ => n - (intOf i).toNat)
  case atStart =>
    exact ⟨0, ⟨0, 0, 0, 0⟩, by omega, rfl, rfl, (Blk.newAt _ _ _ rfl).alloc _, Blk.newAt _ _ _ (by simp), ((Below.refl _ _).alloc (Nat.le_refl _) _).alloc (by simp) _⟩
  case round =>
    obtain ⟨k, x, hk, rfl, hf, hw⟩ := hrel
    have k1 := hw.out.2.1
    have z0 := k1.b0
    have z1 := k1.b1
    have z2 := k1.b2
    have z3 := k1.b3
    have l1 := k1.lt
    by_cases hlt : k < n
    · have hd : decide ((k : Int) < (n : Int)) = true := by simp; omega
      obtain ⟨⟨px, py⟩, hq⟩ : ∃ p, l[k]? = some p := ⟨_, List.getElem?_eq_getElem (by rw [HN.out]; exact hlt)⟩
      obtain ⟨c0, c1⟩ := (HP.out.on hw.out.2.2 HB.out) k (px, py) hq
      have hrm : roomP (px, py) = true := List.all_eq_true.1 HR.out _ (List.mem_of_getElem? hq)
      simp only [roomP, Bool.and_eq_true, room_iff] at hrm
      obtain ⟨⟨r1, r2⟩, r3, r4⟩ := hrm
      have hnext : (l.take (k + 1)).foldl bstep ⟨0, 0, 0, 0⟩ = joinI x ⟨px, py, px + 1, py + 1⟩ := by
        rw [take_fold _ _ _ _ hq, hf.out]; rfl
      have HF := Lib.hid hnext
      have HJ := Lib.hid (join_c x ⟨px, py, px + 1, py + 1⟩)
      obtain ⟨y, hy⟩ : ∃ y, joinI x ⟨px, py, px + 1, py + 1⟩ = y := ⟨_, rfl⟩
      rw [hy] at HF HJ
      have HK := Lib.hid k1
      simp only at c0 c1
      clear hq hnext hy k1
      go_wp2_with fail
      refine (HJ.out _).mono ?_
      rintro e w1 ⟨rfl, hb1⟩
      have kb : Blk w1 (w.heap.size + 1) 26 (fourB x) := (HK.out.alloc _).grow hb1
      have kz : Blk w1 w.heap.size 26 (fourB ⟨0, 0, 0, 0⟩) := (hw.out.1.alloc _).grow hb1
      have hB : Below w.heap.size w w1 := below_next (hw.out.2.2.alloc hw.out.2.2.size _) hb1
      clear z0 z1 z2 z3
      have z0 := kb.b0
      have z1 := kb.b1
      have z2 := kb.b2
      have z3 := kb.b3
      have f0 := kb.free 0
      have f1 := kb.free 1
      have f2 := kb.free 2
      have f3 := kb.free 3
      have KB := Lib.hid kb; have KZ := Lib.hid kz; have BB := Lib.hid hB
      clear kb kz hB hb1
      go_wp2_with fail
      exact ⟨⟨k + 1, y, by omega, by go_num, HF, KZ.out.otherB (by omega) _ _ _ _, KB.out.setB y, below_four (g := w.heap.size + 1) BB.out (by omega) _ _ _ _⟩, by simp [intOf]; omega⟩
    · have hd : decide ((k : Int) < (n : Int)) = false := by simp; omega
      have hkn : Hid (k = n) := by unfold Hid; omega
      have hv : Hid (x = res) := by
        have := hf.out
        rw [hkn.out, ← HN.out, List.take_length] at this
        exact this.symm.trans HRes.out
      have k0 := hw.out.1
      have y0 := k0.b0
      have y1 := k0.b1
      have y2 := k0.b2
      have y3 := k0.b3
      have f0 := k0.free 0
      have f1 := k0.free 1
      have f2 := k0.free 2
      have f3 := k0.free 3
      have l0 := k0.lt
      simp only at y0 y1 y2 y3
      have K0 := Lib.hid k0
      clear k0 k1
      go_wp2_with fail
      refine bodyPost_ret (v := .agg (fourB x)) (results_box 2 rfl rfl (K0.out.setB x)) rfl ⟨by rw [hv.out], below_four (g := w.heap.size) hw.out.2.2 (by omega) _ _ _ _⟩
set_option maxHeartbeats 1000000 in
set_option maxRecDepth 100000 in
theorem bound_nil (w : World) : Calls Try.prog 30 #[.slice none 0 0] w fun e w' => e = .returned (.agg (fourB ⟨0, 0, 0, 0⟩)) ∧ Below w.heap.size w w' := by
  go_enter Try.func30, Try.ntmps30
  go_wp2_with fail
  go_loopw [8] (fun i wr => i = .int .i64 0 ∧ Hid (Blk wr w.heap.size 26 (fourB ⟨0, 0, 0, 0⟩) ∧ Blk wr (w.heap.size + 1) 26 (fourB ⟨0, 0, 0, 0⟩) ∧ Below w.heap.size w wr)) (fun _ _ => 0)
  case atStart => exact ⟨rfl, (Blk.newAt _ _ _ rfl).alloc _, Blk.newAt _ _ _ (by simp), ((Below.refl _ _).alloc (Nat.le_refl _) _).alloc (by simp) _⟩
  case round =>
    obtain ⟨rfl, hw⟩ := hrel
    have k1 := hw.out.2.1
    have z0 := k1.b0
    have z1 := k1.b1
    have z2 := k1.b2
    have z3 := k1.b3
    have l1 := k1.lt
    have k0 := hw.out.1
    have y0 := k0.b0
    have y1 := k0.b1
    have y2 := k0.b2
    have y3 := k0.b3
    have f0 := k0.free 0
    have f1 := k0.free 1
    have f2 := k0.free 2
    have f3 := k0.free 3
    have l0 := k0.lt
    simp only at y0 y1 y2 y3 z0 z1 z2 z3
    have K0 := Lib.hid k0
    clear k0 k1
    go_wp2_with fail
    refine bodyPost_ret (v := .agg (fourB ⟨0, 0, 0, 0⟩)) (results_box 2 rfl rfl (K0.out.setB ⟨0, 0, 0, 0⟩)) rfl ⟨rfl, below_four (g := w.heap.size) hw.out.2.2 (by omega) _ _ _ _⟩
set_option maxHeartbeats 1000000 in
set_option maxRecDepth 100000 in
theorem bound_none (a : Addr) (c : Nat) (w : World) : Calls Try.prog 30 #[.slice (some a) 0 c] w fun e w' => e = .returned (.agg (fourB ⟨0, 0, 0, 0⟩)) ∧ Below w.heap.size w w' := by
  go_enter Try.func30, Try.ntmps30
  go_wp2_with fail
  go_loopw [8] (fun i wr => i = .int .i64 0 ∧ Hid (Blk wr w.heap.size 26 (fourB ⟨0, 0, 0, 0⟩) ∧ Blk wr (w.heap.size + 1) 26 (fourB ⟨0, 0, 0, 0⟩) ∧ Below w.heap.size w wr)) (fun _ _ => 0)
  case atStart => exact ⟨rfl, (Blk.newAt _ _ _ rfl).alloc _, Blk.newAt _ _ _ (by simp), ((Below.refl _ _).alloc (Nat.le_refl _) _).alloc (by simp) _⟩
  case round =>
    obtain ⟨rfl, hw⟩ := hrel
    have k1 := hw.out.2.1
    have z0 := k1.b0
    have z1 := k1.b1
    have z2 := k1.b2
    have z3 := k1.b3
    have l1 := k1.lt
    have k0 := hw.out.1
    have y0 := k0.b0
    have y1 := k0.b1
    have y2 := k0.b2
    have y3 := k0.b3
    have f0 := k0.free 0
    have f1 := k0.free 1
    have f2 := k0.free 2
    have f3 := k0.free 3
    have l0 := k0.lt
    simp only at y0 y1 y2 y3 z0 z1 z2 z3
    have K0 := Lib.hid k0
    clear k0 k1
    go_wp2_with fail
    refine bodyPost_ret (v := .agg (fourB ⟨0, 0, 0, 0⟩)) (results_box 2 rfl rfl (K0.out.setB ⟨0, 0, 0, 0⟩)) rfl ⟨rfl, below_four (g := w.heap.size) hw.out.2.2 (by omega) _ _ _ _⟩
theorem bound_c (s : Value) (l : List Pt) (w : World) (hl : l.length ≤ 1000) (h : Row w s l) (hr : l.all roomP = true) :
    Calls Try.prog 30 #[s] w fun e w' => e = .returned (.agg (fourB (boundI l))) ∧ Below w.heap.size w w' := by
  rcases h with ⟨rfl, rfl⟩ | ⟨a, c, rfl, rfl⟩ | ⟨b, o, c, rfl, hb, hp⟩
  · exact bound_nil w
  · exact bound_none a c w
  · exact bound_some w b o c l hl hb hp hr
end Go.Proofs.Ytoppmlfibllhlaa

