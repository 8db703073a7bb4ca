/- Layer 11: package image's Diff. -/
import Derived.Test.YtoppmlfibllhlaaRg
namespace Go.Proofs.Ytoppmlfibllhlaa
open Go.RowKit
theorem results_boxE {fn : Func} {tmps : Array Value} {w : World} {g : Nat} {b : Bx} {v : Value} (hres : fn.results = #[.cell 4 26, .tmp 5]) (ha : tmps[4]? = some (.pointer (some ⟨g, 0, none⟩))) (hb : tmps[5]? = some v) (h : Blk w g 26 (fourB b)) :
    (results fn tmps).run Try.prog w = .ok (.tuple #[.agg (fourB b), v]) w := by
  have h0 := h.b0
  have h1 := h.b1
  have h2 := h.b2
  have h3 := h.b3
  simp [results, hres, ha, hb, go_sem, h0, h1, h2, h3]
/-- The box of the pixels among the first k at which two images differ. -/
def boxTo (W : Int) (l ol : List Col) (k : Nat) : Bx := boundI (diffP W l ol k)
theorem boxTo_same {W : Int} {l ol : List Col} {k : Nat} (h : eqC (cAt l k) (cAt ol k) = true) : boxTo W l ol (k + 1) = boxTo W l ol k := by
  unfold boxTo; rw [diffP, if_pos h, List.append_nil]
theorem boxTo_new {W : Int} {l ol : List Col} {k : Nat} (h : eqC (cAt l k) (cAt ol k) = false) : boxTo W l ol (k + 1) = joinI (boxTo W l ol k) (ptBox (ptAt W k)) := by
  unfold boxTo boundI; rw [diffP, if_neg (by rw [h]; decide), List.foldl_append]; rfl
theorem bound_one (p : Pt) : boundI [p] = ptBox p := by
  have h : emptyI (ptBox p) = false := by unfold emptyI ptBox; simp only [Bool.or_eq_false_iff, decide_eq_false_iff_not]; omega
  show joinI ⟨0, 0, 0, 0⟩ (ptBox p) = ptBox p
  unfold joinI
  rw [if_pos (by rfl), if_neg (by rw [h]; decide)]
theorem pts_one {w : World} {g : Nat} {t : TypeId} {X Y : Int} (h : Blk w g t #[.int .i64 X, .int .i64 Y]) : PtsAt w g 0 [(X, Y)] := fun i p hp => by
  match i, hp with
  | 0, hp =>
    simp at hp; subst hp
    exact ⟨h.cell 0, h.cell 1⟩
theorem bound1_c (X Y : Int) (q : Nat) (w : World) (hq : q < w.heap.size) (hp : PtsAt w q 0 [(X, Y)]) (hr : roomP (X, Y) = true) : Calls Try.prog 30 #[.slice (some ⟨q, 0, none⟩) 1 1] w fun e w' => e = .returned (.agg #[.int .i64 X, .int .i64 Y, .int .i64 (X + 1), .int .i64 (Y + 1)]) ∧ Below w.heap.size w w' := by
  have h := bound_c (.slice (some ⟨q, 0, none⟩) 1 1) [(X, Y)] w (by simp) (.inr (.inr ⟨q, 0, 1, rfl, hq, hp⟩)) (by simp [hr])
  rw [bound_one] at h
  exact h
/-- What is kept of the differences. -/
def DifS (w5 : World) (g : Nat) (W : Int) (l ol : List Col) (k : Nat) (A : World) : Prop := Keep (fun j => j ≠ g) w5 A ∧ Blk A g 26 (fourB (boxTo W l ol k))
theorem DifS.step {w5 A B : World} {g k : Nat} {W : Int} {l ol : List Col} (h : DifS w5 g W l ol k A) (hb : Below A.heap.size A B) : DifS w5 g W l ol k B := ⟨h.1.trans (Keep.of_below hb), h.2.grow hb⟩
theorem DifS.set {w5 A : World} {g k k' : Nat} {W : Int} {l ol : List Col} {m2 : Bx} (h : DifS w5 g W l ol k A) (e : boxTo W l ol k' = m2) : DifS w5 g W l ol k' ((((A.setCell ⟨g, 0, none⟩ (.int .i64 m2.x0)).setCell ⟨g, 1, none⟩ (.int .i64 m2.y0)).setCell ⟨g, 2, none⟩ (.int .i64 m2.x1)).setCell ⟨g, 3, none⟩ (.int .i64 m2.y1)) :=
  ⟨h.1.trans (Keep.set4 _ _ _ _ _ _ _ _ _ _ (fun e => e rfl)), by rw [e]; exact h.2.setB m2⟩
set_option maxHeartbeats 4000000 in
set_option maxRecDepth 100000 in
theorem diff_m (W H oW oH : Int) (s so : Value) (l ol : List Col) (w : World) (row : RowK .u8 w s l) (rov : RowK .u8 w so ol) (hok : ∀ c ∈ l, OkC c) (_hoko : ∀ c ∈ ol, OkC c) (hl : l.length ≤ 400) (_hol : ol.length ≤ 400) (hr : rightIm W H l = false) : Calls Try.prog 29 #[.agg #[.int .i64 W, .int .i64 H, s], .agg #[.int .i64 oW, .int .i64 oH, so]] w fun e w' => e = .returned (.tuple #[.agg (fourB zB), .int .i64 30]) ∧ Below w.heap.size w w' := by
  have HCK : Hid (∀ A, Below w.heap.size w A → Calls Try.prog 15 #[.agg #[.int .i64 W, .int .i64 H, s]] A fun e w' => e = .returned (.int .i64 30) ∧ Below A.heap.size A w') := fun A hA => by
    have h := checkOk W H s _ A (row.on hA) hok (by omega)
    rw [hr] at h
    exact h
  obtain ⟨ao, cp, rfl⟩ := row.shape
  obtain ⟨av, cv, rfl⟩ := rov.shape
  clear row rov hok hl hr
  generalize l.length = n at *
  generalize ol.length = on at *
  go_enter Try.func29, Try.ntmps29
  go_wp2_with fail
  obtain ⟨w1, hw1⟩ : ∃ WW, ((w.alloc (.cells #[.int .i64 W, .int .i64 H, .slice ao n cp] 24)).alloc (.cells #[.int .i64 oW, .int .i64 oH, .slice av on cv] 24)).alloc (.cells #[.int .i64 0, .int .i64 0, .int .i64 0, .int .i64 0] 26) = WW := ⟨_, rfl⟩
  have P1 : Hid (Below w.heap.size w w1 ∧ Blk w1 w.heap.size 24 #[.int .i64 W, .int .i64 H, .slice ao n cp] ∧ Blk w1 (w.heap.size + 1) 24 #[.int .i64 oW, .int .i64 oH, .slice av on cv] ∧ Blk w1 (w.heap.size + 2) 26 (fourB ⟨0, 0, 0, 0⟩)) := by
    rw [← hw1]
    exact ⟨((((Below.refl _ _).alloc (Nat.le_refl _) _).alloc (by simp) _).alloc (by simp; omega) _), ((Blk.new _ _ _).alloc _).alloc _, (Blk.newAt _ _ _ (by simp)).alloc _, Blk.newAt _ _ _ (by simp)⟩
  rw [hw1]
  clear hw1
  refine (HCK.out w1 P1.out.1).mono ?_
  rintro e w2 ⟨rfl, hb⟩
  have P2 : Hid (Below w.heap.size w w2 ∧ Blk w2 w.heap.size 24 #[.int .i64 W, .int .i64 H, .slice ao n cp] ∧ Blk w2 (w.heap.size + 1) 24 #[.int .i64 oW, .int .i64 oH, .slice av on cv] ∧ Blk w2 (w.heap.size + 2) 26 (fourB ⟨0, 0, 0, 0⟩)) := ⟨P1.out.1.trans (hb.mono P1.out.1.size), P1.out.2.1.grow hb, P1.out.2.2.1.grow hb, P1.out.2.2.2.grow hb⟩
  clear hb P1
  have m0 : w2.cell? ⟨w.heap.size, 0, none⟩ = some (.int .i64 W) := P2.out.2.1.cell 0
  have m1 : w2.cell? ⟨w.heap.size, 1, none⟩ = some (.int .i64 H) := P2.out.2.1.cell 1
  have m2 : w2.cell? ⟨w.heap.size, 2, none⟩ = some (.slice ao n cp) := P2.out.2.1.cell 2
  have k0 : w2.cell? ⟨w.heap.size + 1, 0, none⟩ = some (.int .i64 oW) := P2.out.2.2.1.cell 0
  have k1 : w2.cell? ⟨w.heap.size + 1, 1, none⟩ = some (.int .i64 oH) := P2.out.2.2.1.cell 1
  have k2 : w2.cell? ⟨w.heap.size + 1, 2, none⟩ = some (.slice av on cv) := P2.out.2.2.1.cell 2
  have z0 := P2.out.2.2.2.b0
  have z1 := P2.out.2.2.2.b1
  have z2 := P2.out.2.2.2.b2
  have z3 := P2.out.2.2.2.b3
  have f0 := P2.out.2.2.2.free 0
  have f1 := P2.out.2.2.2.free 1
  have f2 := P2.out.2.2.2.free 2
  have f3 := P2.out.2.2.2.free 3
  have lg := P2.out.2.2.2.lt
  simp only at z0 z1 z2 z3
  go_wp2_with fail
  exact bodyPost_ret (results_boxE rfl rfl rfl (P2.out.2.2.2.setB ⟨0, 0, 0, 0⟩)) rfl ⟨rfl, below_four P2.out.1 (by omega) _ _ _ _⟩
set_option maxHeartbeats 4000000 in
set_option maxRecDepth 100000 in
theorem diff_o (W H oW oH : Int) (s so : Value) (l ol : List Col) (w : World) (row : RowK .u8 w s l) (rov : RowK .u8 w so ol) (hok : ∀ c ∈ l, OkC c) (hoko : ∀ c ∈ ol, OkC c) (hl : l.length ≤ 400) (hol : ol.length ≤ 400) (hr : rightIm W H l = true) (hq : rightIm oW oH ol = false) : Calls Try.prog 29 #[.agg #[.int .i64 W, .int .i64 H, s], .agg #[.int .i64 oW, .int .i64 oH, so]] w fun e w' => e = .returned (.tuple #[.agg (fourB zB), .int .i64 30]) ∧ Below w.heap.size w w' := by
  have HCK : Hid (∀ A, Below w.heap.size w A → Calls Try.prog 15 #[.agg #[.int .i64 W, .int .i64 H, s]] A fun e w' => e = .returned (.int .i64 0) ∧ Below A.heap.size A w') := fun A hA => by
    have h := checkOk W H s _ A (row.on hA) hok (by omega)
    rw [hr] at h
    exact h
  have HCO : Hid (∀ A, Below w.heap.size w A → Calls Try.prog 15 #[.agg #[.int .i64 oW, .int .i64 oH, so]] A fun e w' => e = .returned (.int .i64 30) ∧ Below A.heap.size A w') := fun A hA => by
    have h := checkOk oW oH so _ A (rov.on hA) hoko (by omega)
    rw [hq] at h
    exact h
  obtain ⟨ao, cp, rfl⟩ := row.shape
  obtain ⟨av, cv, rfl⟩ := rov.shape
  clear row rov hok hoko hl hol hr hq
  generalize l.length = n at *
  generalize ol.length = on at *
  go_enter Try.func29, Try.ntmps29
  go_wp2_with fail
  obtain ⟨w1, hw1⟩ : ∃ WW, ((w.alloc (.cells #[.int .i64 W, .int .i64 H, .slice ao n cp] 24)).alloc (.cells #[.int .i64 oW, .int .i64 oH, .slice av on cv] 24)).alloc (.cells #[.int .i64 0, .int .i64 0, .int .i64 0, .int .i64 0] 26) = WW := ⟨_, rfl⟩
  have P1 : Hid (Below w.heap.size w w1 ∧ Blk w1 w.heap.size 24 #[.int .i64 W, .int .i64 H, .slice ao n cp] ∧ Blk w1 (w.heap.size + 1) 24 #[.int .i64 oW, .int .i64 oH, .slice av on cv] ∧ Blk w1 (w.heap.size + 2) 26 (fourB ⟨0, 0, 0, 0⟩)) := by
    rw [← hw1]
    exact ⟨((((Below.refl _ _).alloc (Nat.le_refl _) _).alloc (by simp) _).alloc (by simp; omega) _), ((Blk.new _ _ _).alloc _).alloc _, (Blk.newAt _ _ _ (by simp)).alloc _, Blk.newAt _ _ _ (by simp)⟩
  rw [hw1]
  clear hw1
  refine (HCK.out w1 P1.out.1).mono ?_
  rintro e w2 ⟨rfl, hb⟩
  have P2 : Hid (Below w.heap.size w w2 ∧ Blk w2 w.heap.size 24 #[.int .i64 W, .int .i64 H, .slice ao n cp] ∧ Blk w2 (w.heap.size + 1) 24 #[.int .i64 oW, .int .i64 oH, .slice av on cv] ∧ Blk w2 (w.heap.size + 2) 26 (fourB ⟨0, 0, 0, 0⟩)) := ⟨P1.out.1.trans (hb.mono P1.out.1.size), P1.out.2.1.grow hb, P1.out.2.2.1.grow hb, P1.out.2.2.2.grow hb⟩
  clear hb P1
  have m0 : w2.cell? ⟨w.heap.size, 0, none⟩ = some (.int .i64 W) := P2.out.2.1.cell 0
  have m1 : w2.cell? ⟨w.heap.size, 1, none⟩ = some (.int .i64 H) := P2.out.2.1.cell 1
  have m2 : w2.cell? ⟨w.heap.size, 2, none⟩ = some (.slice ao n cp) := P2.out.2.1.cell 2
  have k0 : w2.cell? ⟨w.heap.size + 1, 0, none⟩ = some (.int .i64 oW) := P2.out.2.2.1.cell 0
  have k1 : w2.cell? ⟨w.heap.size + 1, 1, none⟩ = some (.int .i64 oH) := P2.out.2.2.1.cell 1
  have k2 : w2.cell? ⟨w.heap.size + 1, 2, none⟩ = some (.slice av on cv) := P2.out.2.2.1.cell 2
  go_wp2_with fail
  refine (HCO.out w2 P2.out.1).mono ?_
  rintro e w3 ⟨rfl, hb⟩
  clear m0 m1 m2 k0 k1 k2
  have P3 : Hid (Below w.heap.size w w3 ∧ Blk w3 w.heap.size 24 #[.int .i64 W, .int .i64 H, .slice ao n cp] ∧ Blk w3 (w.heap.size + 1) 24 #[.int .i64 oW, .int .i64 oH, .slice av on cv] ∧ Blk w3 (w.heap.size + 2) 26 (fourB ⟨0, 0, 0, 0⟩)) := ⟨P2.out.1.trans (hb.mono P2.out.1.size), P2.out.2.1.grow hb, P2.out.2.2.1.grow hb, P2.out.2.2.2.grow hb⟩
  clear hb P2
  have z0 := P3.out.2.2.2.b0
  have z1 := P3.out.2.2.2.b1
  have z2 := P3.out.2.2.2.b2
  have z3 := P3.out.2.2.2.b3
  have f0 := P3.out.2.2.2.free 0
  have f1 := P3.out.2.2.2.free 1
  have f2 := P3.out.2.2.2.free 2
  have f3 := P3.out.2.2.2.free 3
  have lg := P3.out.2.2.2.lt
  simp only at z0 z1 z2 z3
  go_wp2_with fail
  exact bodyPost_ret (results_boxE rfl rfl rfl (P3.out.2.2.2.setB ⟨0, 0, 0, 0⟩)) rfl ⟨rfl, below_four P3.out.1 (by omega) _ _ _ _⟩
set_option maxHeartbeats 4000000 in
set_option maxRecDepth 100000 in
theorem diff_s (W H oW oH : Int) (s so : Value) (l ol : List Col) (w : World) (row : RowK .u8 w s l) (rov : RowK .u8 w so ol) (hok : ∀ c ∈ l, OkC c) (hoko : ∀ c ∈ ol, OkC c) (hl : l.length ≤ 400) (hol : ol.length ≤ 400) (hr : rightIm W H l = true) (hq : rightIm oW oH ol = true) (hs : (decide (W = oW) && decide (H = oH)) = false) : Calls Try.prog 29 #[.agg #[.int .i64 W, .int .i64 H, s], .agg #[.int .i64 oW, .int .i64 oH, so]] w fun e w' => e = .returned (.tuple #[.agg (fourB zB), .int .i64 30]) ∧ Below w.heap.size w w' := by
  have HCK : Hid (∀ A, Below w.heap.size w A → Calls Try.prog 15 #[.agg #[.int .i64 W, .int .i64 H, s]] A fun e w' => e = .returned (.int .i64 0) ∧ Below A.heap.size A w') := fun A hA => by
    have h := checkOk W H s _ A (row.on hA) hok (by omega)
    rw [hr] at h
    exact h
  have HCO : Hid (∀ A, Below w.heap.size w A → Calls Try.prog 15 #[.agg #[.int .i64 oW, .int .i64 oH, so]] A fun e w' => e = .returned (.int .i64 0) ∧ Below A.heap.size A w') := fun A hA => by
    have h := checkOk oW oH so _ A (rov.on hA) hoko (by omega)
    rw [hq] at h
    exact h
  obtain ⟨ao, cp, rfl⟩ := row.shape
  obtain ⟨av, cv, rfl⟩ := rov.shape
  have HSS := Lib.hid (sameSize_c W H oW oH (.slice ao l.length cp) (.slice av ol.length cv) false hs)
  clear row rov hok hoko hl hol hr hq hs
  generalize l.length = n at *
  generalize ol.length = on at *
  go_enter Try.func29, Try.ntmps29
  go_wp2_with fail
  obtain ⟨w1, hw1⟩ : ∃ WW, ((w.alloc (.cells #[.int .i64 W, .int .i64 H, .slice ao n cp] 24)).alloc (.cells #[.int .i64 oW, .int .i64 oH, .slice av on cv] 24)).alloc (.cells #[.int .i64 0, .int .i64 0, .int .i64 0, .int .i64 0] 26) = WW := ⟨_, rfl⟩
  have P1 : Hid (Below w.heap.size w w1 ∧ Blk w1 w.heap.size 24 #[.int .i64 W, .int .i64 H, .slice ao n cp] ∧ Blk w1 (w.heap.size + 1) 24 #[.int .i64 oW, .int .i64 oH, .slice av on cv] ∧ Blk w1 (w.heap.size + 2) 26 (fourB ⟨0, 0, 0, 0⟩)) := by
    rw [← hw1]
    exact ⟨((((Below.refl _ _).alloc (Nat.le_refl _) _).alloc (by simp) _).alloc (by simp; omega) _), ((Blk.new _ _ _).alloc _).alloc _, (Blk.newAt _ _ _ (by simp)).alloc _, Blk.newAt _ _ _ (by simp)⟩
  rw [hw1]
  clear hw1
  refine (HCK.out w1 P1.out.1).mono ?_
  rintro e w2 ⟨rfl, hb⟩
  have P2 : Hid (Below w.heap.size w w2 ∧ Blk w2 w.heap.size 24 #[.int .i64 W, .int .i64 H, .slice ao n cp] ∧ Blk w2 (w.heap.size + 1) 24 #[.int .i64 oW, .int .i64 oH, .slice av on cv] ∧ Blk w2 (w.heap.size + 2) 26 (fourB ⟨0, 0, 0, 0⟩)) := ⟨P1.out.1.trans (hb.mono P1.out.1.size), P1.out.2.1.grow hb, P1.out.2.2.1.grow hb, P1.out.2.2.2.grow hb⟩
  clear hb P1
  have m0 : w2.cell? ⟨w.heap.size, 0, none⟩ = some (.int .i64 W) := P2.out.2.1.cell 0
  have m1 : w2.cell? ⟨w.heap.size, 1, none⟩ = some (.int .i64 H) := P2.out.2.1.cell 1
  have m2 : w2.cell? ⟨w.heap.size, 2, none⟩ = some (.slice ao n cp) := P2.out.2.1.cell 2
  have k0 : w2.cell? ⟨w.heap.size + 1, 0, none⟩ = some (.int .i64 oW) := P2.out.2.2.1.cell 0
  have k1 : w2.cell? ⟨w.heap.size + 1, 1, none⟩ = some (.int .i64 oH) := P2.out.2.2.1.cell 1
  have k2 : w2.cell? ⟨w.heap.size + 1, 2, none⟩ = some (.slice av on cv) := P2.out.2.2.1.cell 2
  go_wp2_with fail
  refine (HCO.out w2 P2.out.1).mono ?_
  rintro e w3 ⟨rfl, hb⟩
  clear m0 m1 m2 k0 k1 k2
  have P3 : Hid (Below w.heap.size w w3 ∧ Blk w3 w.heap.size 24 #[.int .i64 W, .int .i64 H, .slice ao n cp] ∧ Blk w3 (w.heap.size + 1) 24 #[.int .i64 oW, .int .i64 oH, .slice av on cv] ∧ Blk w3 (w.heap.size + 2) 26 (fourB ⟨0, 0, 0, 0⟩)) := ⟨P2.out.1.trans (hb.mono P2.out.1.size), P2.out.2.1.grow hb, P2.out.2.2.1.grow hb, P2.out.2.2.2.grow hb⟩
  clear hb P2
  have m0 : w3.cell? ⟨w.heap.size, 0, none⟩ = some (.int .i64 W) := P3.out.2.1.cell 0
  have m1 : w3.cell? ⟨w.heap.size, 1, none⟩ = some (.int .i64 H) := P3.out.2.1.cell 1
  have m2 : w3.cell? ⟨w.heap.size, 2, none⟩ = some (.slice ao n cp) := P3.out.2.1.cell 2
  have k0 : w3.cell? ⟨w.heap.size + 1, 0, none⟩ = some (.int .i64 oW) := P3.out.2.2.1.cell 0
  have k1 : w3.cell? ⟨w.heap.size + 1, 1, none⟩ = some (.int .i64 oH) := P3.out.2.2.1.cell 1
  have k2 : w3.cell? ⟨w.heap.size + 1, 2, none⟩ = some (.slice av on cv) := P3.out.2.2.1.cell 2
  go_wp2_with fail
  refine (HSS.out w3).mono ?_
  rintro e w4 ⟨rfl, hb⟩
  clear m0 m1 m2 k0 k1 k2
  have P4 : Hid (Below w.heap.size w w4 ∧ Blk w4 w.heap.size 24 #[.int .i64 W, .int .i64 H, .slice ao n cp] ∧ Blk w4 (w.heap.size + 1) 24 #[.int .i64 oW, .int .i64 oH, .slice av on cv] ∧ Blk w4 (w.heap.size + 2) 26 (fourB ⟨0, 0, 0, 0⟩)) := ⟨P3.out.1.trans (hb.mono P3.out.1.size), P3.out.2.1.grow hb, P3.out.2.2.1.grow hb, P3.out.2.2.2.grow hb⟩
  clear hb P3
  have z0 := P4.out.2.2.2.b0
  have z1 := P4.out.2.2.2.b1
  have z2 := P4.out.2.2.2.b2
  have z3 := P4.out.2.2.2.b3
  have f0 := P4.out.2.2.2.free 0
  have f1 := P4.out.2.2.2.free 1
  have f2 := P4.out.2.2.2.free 2
  have f3 := P4.out.2.2.2.free 3
  have lg := P4.out.2.2.2.lt
  simp only at z0 z1 z2 z3
  go_wp2_with fail
  exact bodyPost_ret (results_boxE rfl rfl rfl (P4.out.2.2.2.setB ⟨0, 0, 0, 0⟩)) rfl ⟨rfl, below_four P4.out.1 (by omega) _ _ _ _⟩
set_option maxHeartbeats 4000000 in
set_option maxRecDepth 100000 in
theorem diff_y (W H oW oH : Int) (s so : Value) (l ol : List Col) (w : World) (row : RowK .u8 w s l) (rov : RowK .u8 w so ol) (hok : ∀ c ∈ l, OkC c) (hoko : ∀ c ∈ ol, OkC c) (hl : l.length ≤ 400) (hol : ol.length ≤ 400) (hr : rightIm W H l = true) (hq : rightIm oW oH ol = true) (hs : (decide (W = oW) && decide (H = oH)) = true) : Calls Try.prog 29 #[.agg #[.int .i64 W, .int .i64 H, s], .agg #[.int .i64 oW, .int .i64 oH, so]] w fun e w' => e = .returned (.tuple #[.agg (fourB (boundI (diffP W l ol l.length))), .int .i64 0]) ∧ Below w.heap.size w w' := by
  have HCK : Hid (∀ A, Below w.heap.size w A → Calls Try.prog 15 #[.agg #[.int .i64 W, .int .i64 H, s]] A fun e w' => e = .returned (.int .i64 0) ∧ Below A.heap.size A w') := fun A hA => by
    have h := checkOk W H s _ A (row.on hA) hok (by omega)
    rw [hr] at h
    exact h
  have HCO : Hid (∀ A, Below w.heap.size w A → Calls Try.prog 15 #[.agg #[.int .i64 oW, .int .i64 oH, so]] A fun e w' => e = .returned (.int .i64 0) ∧ Below A.heap.size A w') := fun A hA => by
    have h := checkOk oW oH so _ A (rov.on hA) hoko (by omega)
    rw [hq] at h
    exact h
  have hri := rightIm_iff.1 hr
  have hqi := rightIm_iff.1 hq
  simp only [Bool.and_eq_true, decide_eq_true_eq] at hs
  have hon : ol.length = l.length := by
    have h1 := hri.2.2.2.2.1
    have h2 := hqi.2.2.2.2.1
    rw [← hs.1, ← hs.2, ← h1] at h2; omega
  have HSD : Hid ((1 ≤ W ∧ W ≤ 256) ∧ l.length ≤ 400) := ⟨⟨hri.1, hri.2.1⟩, hl⟩
  have HROW := Lib.hid row
  have HROV := Lib.hid rov
  have HLN := Lib.hid (show l.length = l.length from rfl)
  obtain ⟨ao, cp, rfl⟩ := row.shape
  obtain ⟨av, cv, rfl⟩ := rov.shape
  have hs' : (decide (W = oW) && decide (H = oH)) = true := by simp [hs.1, hs.2]
  have HSS := Lib.hid (sameSize_c W H oW oH (.slice ao l.length cp) (.slice av ol.length cv) true hs')
  have HRS : Hid (boxTo W l ol l.length = boundI (diffP W l ol l.length)) := rfl
  rw [← HRS.out]
  have HOLN : Hid (ol.length = l.length) := hon
  obtain ⟨n, hn⟩ : ∃ n, l.length = n := ⟨_, rfl⟩
  have HN := Lib.hid hn
  rw [hon] at HCO HSS HROV ⊢
  rw [hn] at HCK HCO HSS HROW HROV HSD ⊢
  clear row rov hok hoko hl hol hr hq hs hs' hri hqi hon hn HRS HLN
  go_enter Try.func29, Try.ntmps29
  go_wp2_with fail
  obtain ⟨w1, hw1⟩ : ∃ WW, ((w.alloc (.cells #[.int .i64 W, .int .i64 H, .slice ao n cp] 24)).alloc (.cells #[.int .i64 oW, .int .i64 oH, .slice av n cv] 24)).alloc (.cells #[.int .i64 0, .int .i64 0, .int .i64 0, .int .i64 0] 26) = WW := ⟨_, rfl⟩
  have P1 : Hid (Below w.heap.size w w1 ∧ Blk w1 w.heap.size 24 #[.int .i64 W, .int .i64 H, .slice ao n cp] ∧ Blk w1 (w.heap.size + 1) 24 #[.int .i64 oW, .int .i64 oH, .slice av n cv] ∧ Blk w1 (w.heap.size + 2) 26 (fourB ⟨0, 0, 0, 0⟩)) := by
    rw [← hw1]
    exact ⟨((((Below.refl _ _).alloc (Nat.le_refl _) _).alloc (by simp) _).alloc (by simp; omega) _), ((Blk.new _ _ _).alloc _).alloc _, (Blk.newAt _ _ _ (by simp)).alloc _, Blk.newAt _ _ _ (by simp)⟩
  rw [hw1]
  clear hw1
  refine (HCK.out w1 P1.out.1).mono ?_
  rintro e w2 ⟨rfl, hb⟩
  have P2 : Hid (Below w.heap.size w w2 ∧ Blk w2 w.heap.size 24 #[.int .i64 W, .int .i64 H, .slice ao n cp] ∧ Blk w2 (w.heap.size + 1) 24 #[.int .i64 oW, .int .i64 oH, .slice av n cv] ∧ Blk w2 (w.heap.size + 2) 26 (fourB ⟨0, 0, 0, 0⟩)) := ⟨P1.out.1.trans (hb.mono P1.out.1.size), P1.out.2.1.grow hb, P1.out.2.2.1.grow hb, P1.out.2.2.2.grow hb⟩
  clear hb P1
  have m0 : w2.cell? ⟨w.heap.size, 0, none⟩ = some (.int .i64 W) := P2.out.2.1.cell 0
  have m1 : w2.cell? ⟨w.heap.size, 1, none⟩ = some (.int .i64 H) := P2.out.2.1.cell 1
  have m2 : w2.cell? ⟨w.heap.size, 2, none⟩ = some (.slice ao n cp) := P2.out.2.1.cell 2
  have k0 : w2.cell? ⟨w.heap.size + 1, 0, none⟩ = some (.int .i64 oW) := P2.out.2.2.1.cell 0
  have k1 : w2.cell? ⟨w.heap.size + 1, 1, none⟩ = some (.int .i64 oH) := P2.out.2.2.1.cell 1
  have k2 : w2.cell? ⟨w.heap.size + 1, 2, none⟩ = some (.slice av n cv) := P2.out.2.2.1.cell 2
  go_wp2_with fail
  refine (HCO.out w2 P2.out.1).mono ?_
  rintro e w3 ⟨rfl, hb⟩
  clear m0 m1 m2 k0 k1 k2
  have P3 : Hid (Below w.heap.size w w3 ∧ Blk w3 w.heap.size 24 #[.int .i64 W, .int .i64 H, .slice ao n cp] ∧ Blk w3 (w.heap.size + 1) 24 #[.int .i64 oW, .int .i64 oH, .slice av n cv] ∧ Blk w3 (w.heap.size + 2) 26 (fourB ⟨0, 0, 0, 0⟩)) := ⟨P2.out.1.trans (hb.mono P2.out.1.size), P2.out.2.1.grow hb, P2.out.2.2.1.grow hb, P2.out.2.2.2.grow hb⟩
  clear hb P2
  have m0 : w3.cell? ⟨w.heap.size, 0, none⟩ = some (.int .i64 W) := P3.out.2.1.cell 0
  have m1 : w3.cell? ⟨w.heap.size, 1, none⟩ = some (.int .i64 H) := P3.out.2.1.cell 1
  have m2 : w3.cell? ⟨w.heap.size, 2, none⟩ = some (.slice ao n cp) := P3.out.2.1.cell 2
  have k0 : w3.cell? ⟨w.heap.size + 1, 0, none⟩ = some (.int .i64 oW) := P3.out.2.2.1.cell 0
  have k1 : w3.cell? ⟨w.heap.size + 1, 1, none⟩ = some (.int .i64 oH) := P3.out.2.2.1.cell 1
  have k2 : w3.cell? ⟨w.heap.size + 1, 2, none⟩ = some (.slice av n cv) := P3.out.2.2.1.cell 2
  go_wp2_with fail
  refine (HSS.out w3).mono ?_
  rintro e w4 ⟨rfl, hb⟩
  clear m0 m1 m2 k0 k1 k2
  have P4 : Hid (Below w.heap.size w w4 ∧ Blk w4 w.heap.size 24 #[.int .i64 W, .int .i64 H, .slice ao n cp] ∧ Blk w4 (w.heap.size + 1) 24 #[.int .i64 oW, .int .i64 oH, .slice av n cv] ∧ Blk w4 (w.heap.size + 2) 26 (fourB ⟨0, 0, 0, 0⟩)) := ⟨P3.out.1.trans (hb.mono P3.out.1.size), P3.out.2.1.grow hb, P3.out.2.2.1.grow hb, P3.out.2.2.2.grow hb⟩
  clear hb P3
  go_upto_region 4 with fail
  obtain ⟨w5, hw5⟩ : ∃ WW, w4.alloc (.cells #[.int .i64 0, .int .i64 0, .int .i64 0, .int .i64 0] 26) = WW := ⟨_, rfl⟩
  have P5 : Hid (Below w.heap.size w w5 ∧ Blk w5 w.heap.size 24 #[.int .i64 W, .int .i64 H, .slice ao n cp] ∧ Blk w5 (w.heap.size + 1) 24 #[.int .i64 oW, .int .i64 oH, .slice av n cv] ∧ Blk w5 (w.heap.size + 2) 26 (fourB ⟨0, 0, 0, 0⟩) ∧ Blk w5 w4.heap.size 26 (fourB ⟨0, 0, 0, 0⟩)) := by
    rw [← hw5]
    exact ⟨P4.out.1.alloc P4.out.1.size _, P4.out.2.1.alloc _, P4.out.2.2.1.alloc _, P4.out.2.2.2.alloc _, Blk.new _ _ _⟩
  have HG : Hid (w.heap.size + 2 < w4.heap.size) := P4.out.2.2.2.lt
  rw [hw5]
  clear hw5 HCK HCO HSS P4
  have m2 : w5.cell? ⟨w.heap.size, 2, none⟩ = some (.slice ao n cp) := P5.out.2.1.cell 2
  go_wp2_with fail
  clear m2
  go_loopw [27] (fun i wr => ∃ k : Nat, k ≤ n ∧ i = .int .i64 k ∧ Hid (DifS w5 w4.heap.size W l ol k wr)) (fun i _ => n - (intOf i).toNat)
  case atStart => exact ⟨0, by omega, rfl, Keep.refl _ _, P5.out.2.2.2.2⟩
  case round =>
    obtain ⟨k, hk, rfl, hst⟩ := hrel
    obtain ⟨w6, hw6⟩ : ∃ x, x = wr := ⟨_, rfl⟩
    rw [← hw6] at hst ⊢
    clear hw6
    have B6 : Hid (Below w.heap.size w w6) := P5.out.1.trans (hst.out.1.below (fun j hj => by have := HG.out; omega) P5.out.1.size)
    by_cases hlt : k < n
    · have hd : decide ((k : Int) < (n : Int)) = true := by simp; omega
      obtain ⟨x, hx⟩ : ∃ x, cAt l k = x := ⟨_, rfl⟩
      obtain ⟨y, hy⟩ : ∃ y, cAt ol k = y := ⟨_, rfl⟩
      obtain ⟨r, hr⟩ : ∃ r, eqC x y = r := ⟨_, rfl⟩
      have HR : Hid (eqC (cAt l k) (cAt ol k) = r) := by unfold Hid; rw [hx, hy, hr]
      obtain ⟨b, o, hs, hbs, hcs⟩ := RowK.addr (HROW.out.on B6.out) (by rw [HN.out]; omega)
      obtain ⟨b', o', hs', hbs', hcs'⟩ := RowK.addr (HROV.out.on B6.out) (by rw [HOLN.out, HN.out]; omega)
      have hcx := hcs k x (by rw [← hx]; exact cAt_some (by rw [HN.out]; exact hlt))
      have hcy := hcs' k y (by rw [← hy]; exact cAt_some (by rw [HOLN.out, HN.out]; exact hlt))
      obtain rfl := hs
      obtain rfl := hs'
      obtain ⟨c1, c2, c3, c4⟩ := hcx
      have hkd : (k : Int) < (n : Int) := by omega
      have hkn : (0 : Int) ≤ (k : Int) := by omega
      go_upto_region 7 with fail
      obtain ⟨w7, hw7⟩ : ∃ WW, w6.alloc (.cells #[.int .u8 (x 0), .int .u8 (x 1), .int .u8 (x 2), .int .u8 (x 3)] 28) = WW := ⟨_, rfl⟩
      have b67 : Below w6.heap.size w6 w7 := by rw [← hw7]; exact (Below.refl _ _).alloc (Nat.le_refl _) _
      have S7 := Lib.hid (hst.out.step b67)
      have bx7 : Blk w7 w6.heap.size 28 (four fun i => .int .u8 (x i)) := by rw [← hw7]; exact Blk.new _ _ _
      obtain ⟨a0, a1, a2, a3⟩ := bx7.c0
      obtain ⟨d1, d2, d3, d4⟩ := hcy.on (b67.mono (Nat.le_refl _)) hbs'
      have ko : w7.cell? ⟨w.heap.size + 1, 2, none⟩ = some (.slice (some ⟨b', o', none⟩) n cv) := (S7.out.1.blk P5.out.2.2.1 (by have := HG.out; omega)).cell 2
      have q8 := equal8 x y
      rw [hr] at q8
      rw [hw7]
      have HLT := Lib.hid hlt
      clear hw7 hst c1 c2 c3 c4 hcs hcs' hbs hbs' hcy bx7 hr b67 hx hy
      cases r
      · go_wp2_with fail
        go_quiet (fail)
        obtain ⟨w8, hw8⟩ : ∃ WW, World.drewN w7 nq = WW := ⟨_, rfl⟩
        have S8 : Hid (DifS w5 w4.heap.size W l ol k w8) := by rw [← hw8]; exact S7.out.step ⟨rfl, rfl, rfl, Nat.le_refl _, fun _ _ => rfl⟩
        rw [hw8]
        clear hw8 S7 a0 a1 a2 a3 d1 d2 d3 d4 ko q8
        obtain ⟨X, hX⟩ : ∃ X, (k : Int) % W = X := ⟨_, rfl⟩
        obtain ⟨Y, hY⟩ : ∃ Y, (k : Int) / W = Y := ⟨_, rfl⟩
        obtain ⟨r1, r2, r3, r4, r5, r6⟩ := rem_quo (k := k) HSD.out.1.1
        rw [hX] at r1 r3 r4
        rw [hY] at r2 r5 r6
        have HRQ : Hid ((k : Int).tmod W = X ∧ (k : Int).tdiv W = Y ∧ (W == 0) = false ∧ ¬ W = 0 ∧ wrap64 Y = Y ∧ IntKind.i64.wrap Y = Y) := by
          have h1 := HSD.out
          have h2 := HLT.out
          have h3 : wrap64 Y = Y := wrapR _ (by omega) (by omega)
          exact ⟨r1, r2, by simp; omega, by omega, h3, (wrap_is _).trans h3⟩
        have HRM : Hid (roomP (X, Y) = true) := by
          have h1 := HSD.out
          have h2 := HLT.out
          exact roomP_iff.2 ⟨⟨by simp only; omega, by simp only; omega⟩, by simp only; omega, by simp only; omega⟩
        obtain ⟨m, hm⟩ : ∃ m, boxTo W l ol k = m := ⟨_, rfl⟩
        obtain ⟨m2, hm2⟩ : ∃ m2, joinI m (ptBox (X, Y)) = m2 := ⟨_, rfl⟩
        have HM2 : Hid (boxTo W l ol (k + 1) = m2) := by unfold Hid; rw [boxTo_new HR.out, hm, ← hm2, ← hX, ← hY]; rfl
        have KB6 : Hid (Blk w8 w4.heap.size 26 (fourB m)) := by have h := S8.out.2; rw [hm] at h; exact h
        have KM6 : Hid (Blk w8 w.heap.size 24 #[.int .i64 W, .int .i64 H, .slice (some ⟨b, o, none⟩) n cp]) := S8.out.1.blk P5.out.2.1 (by have := HG.out; omega)
        have HJN : Hid (∀ A, Calls Try.prog 53 #[.agg #[.int .i64 m.x0, .int .i64 m.y0, .int .i64 m.x1, .int .i64 m.y1], .agg #[.int .i64 X, .int .i64 Y, .int .i64 (X + 1), .int .i64 (Y + 1)]] A fun e w' => e = .returned (.agg #[.int .i64 m2.x0, .int .i64 m2.y0, .int .i64 m2.x1, .int .i64 m2.y1]) ∧ Below A.heap.size A w') := fun A => by
          have h := join_c m (ptBox (X, Y)) A
          rw [hm2] at h
          exact h
        have HFIN : Hid (∀ A, Below w8.heap.size w8 A → DifS w5 w4.heap.size W l ol (k + 1) ((((A.setCell ⟨w4.heap.size, 0, none⟩ (.int .i64 m2.x0)).setCell ⟨w4.heap.size, 1, none⟩ (.int .i64 m2.y0)).setCell ⟨w4.heap.size, 2, none⟩ (.int .i64 m2.x1)).setCell ⟨w4.heap.size, 3, none⟩ (.int .i64 m2.y1))) := fun A hA => (S8.out.step hA).set HM2.out
        clear r1 r2 r3 r4 r5 r6 hX hY hm hm2
        go_wp2_with fail
        refine wp_region_put2 (by kernel_rfl) (by kernel_rfl) (by kernel_rfl) (fun b' vs w' => (b' 0 = true → vs 0 = .agg #[.int .i64 m.x0, .int .i64 m.y0, .int .i64 m.x1, .int .i64 m.y1]) ∧ (b' 1 = true → vs 1 = .int .i64 (k : Int)) ∧ (b' 2 = true → vs 2 = .pointer (some ⟨w.heap.size, 0, none⟩)) ∧ (b' 3 = true → vs 3 = .int .i64 W) ∧ (b' 4 = true → vs 4 = .int .i64 X) ∧ (b' 5 = true → vs 5 = .int .i64 (k : Int)) ∧ (b' 6 = true → vs 6 = .pointer (some ⟨w.heap.size, 0, none⟩)) ∧ (b' 7 = true → vs 7 = .int .i64 W) ∧ (b' 8 = true → vs 8 = .int .i64 Y) ∧ (b' 9 = true → vs 9 = .agg #[.int .i64 X, .int .i64 Y]) ∧ (b' 11 = true → vs 11 = .agg #[.int .i64 X, .int .i64 Y, .int .i64 (X + 1), .int .i64 (Y + 1)]) ∧ (b' 12 = true → vs 12 = .agg #[.int .i64 m2.x0, .int .i64 m2.y0, .int .i64 m2.x1, .int .i64 m2.y1]) ∧ (b' 10 = true → b' 13 = false → Hid (∃ q, vs 10 = .slice (some ⟨q, 0, none⟩) 1 1 ∧ q < w'.heap.size ∧ PtsAt w' q 0 [(X, Y)])) ∧ (b' 13 = false → Hid (Below w8.heap.size w8 w')) ∧ (b' 13 = true → Hid (DifS w5 w4.heap.size W l ol (k + 1) w')) ∧ (b' 13 = true → b' 12 = true) ∧ (b' 12 = true → b' 0 = true) ∧ (b' 4 = true → b' 1 = true) ∧ (b' 3 = true → b' 2 = true) ∧ (b' 4 = true → b' 3 = true) ∧ (b' 9 = true → b' 4 = true) ∧ (b' 8 = true → b' 5 = true) ∧ (b' 7 = true → b' 6 = true) ∧ (b' 8 = true → b' 7 = true) ∧ (b' 9 = true → b' 8 = true) ∧ (b' 10 = true → b' 9 = true) ∧ (b' 11 = true → b' 10 = true) ∧ (b' 12 = true → b' 11 = true)) ?_ ?_ ?_
        · intro vs hvs
          exact ⟨fun h => Bool.noConfusion h, fun h => Bool.noConfusion h, fun h => Bool.noConfusion h, fun h => Bool.noConfusion h, fun h => Bool.noConfusion h, fun h => Bool.noConfusion h, fun h => Bool.noConfusion h, fun h => Bool.noConfusion h, fun h => Bool.noConfusion h, fun h => Bool.noConfusion h, fun h => Bool.noConfusion h, fun h => Bool.noConfusion h, fun h => Bool.noConfusion h, fun _ => Lib.hid ⟨rfl, rfl, rfl, Nat.le_refl _, fun _ _ => rfl⟩, fun h => Bool.noConfusion h, fun h => Bool.noConfusion h, fun h => Bool.noConfusion h, fun h => Bool.noConfusion h, fun h => Bool.noConfusion h, fun h => Bool.noConfusion h, fun h => Bool.noConfusion h, fun h => Bool.noConfusion h, fun h => Bool.noConfusion h, fun h => Bool.noConfusion h, fun h => Bool.noConfusion h, fun h => Bool.noConfusion h, fun h => Bool.noConfusion h, fun h => Bool.noConfusion h⟩
        · rintro b' vs w' i op hi hun hall ⟨h0, h1, h2, h3, h4, h5, h6, h7, h8, h9, h11, h12, yM, yB, yS, yT, e0, e1, e2, e3, e4, e5, e6, e7, e8, e9, e10, e11⟩
          have hil : i < 14 := (List.getElem?_eq_some_iff.1 hi).1
          rcases i with _ | _ | _ | _ | _ | _ | _ | _ | _ | _ | _ | _ | _ | _ | i
          · obtain rfl := Option.some.inj hi
            have h13 : b' 13 = false := Bool.eq_false_iff.2 (fun h => absurd (((e0 (yT h))).symm.trans hun) (by decide))
            have kb := (KB6.out).grow (yB h13).out
            have c0 := kb.b0
            have c1 := kb.b1
            have c2 := kb.b2
            have c3 := kb.b3
            refine wpOp_step rfl (fun K hK => ?_)
            have HKK := Lib.hid hK; clear hK
            simp only [putAll, Act.put, List.setIfInBounds_toArray, List.set_cons_zero, List.set_cons_succ]
            go_simp
            exact HKK.out _ _ ⟨_, by simp only [putAll, Act.put, List.setIfInBounds_toArray, List.set_cons_zero, List.set_cons_succ] <;> rfl, fun _ => rfl, h1, h2, h3, h4, h5, h6, h7, h8, h9, h11, h12, yM, yB, yS, yT, fun _ => rfl, e1, e2, e3, e4, e5, e6, e7, e8, e9, e10, e11⟩
          · obtain rfl := Option.some.inj hi
            have h13 : b' 13 = false := Bool.eq_false_iff.2 (fun h => absurd (((e1 (e4 (e9 (e10 (e11 (yT h))))))).symm.trans hun) (by decide))
            refine wpOp_step rfl (fun K hK => ?_)
            have HKK := Lib.hid hK; clear hK
            simp only [putAll, Act.put, List.setIfInBounds_toArray, List.set_cons_zero, List.set_cons_succ]
            go_simp
            exact HKK.out _ _ ⟨_, by simp only [putAll, Act.put, List.setIfInBounds_toArray, List.set_cons_zero, List.set_cons_succ] <;> rfl, h0, fun _ => rfl, h2, h3, h4, h5, h6, h7, h8, h9, h11, h12, yM, yB, yS, yT, e0, fun _ => rfl, e2, e3, e4, e5, e6, e7, e8, e9, e10, e11⟩
          · obtain rfl := Option.some.inj hi
            have h13 : b' 13 = false := Bool.eq_false_iff.2 (fun h => absurd (((e2 (e3 (e4 (e9 (e10 (e11 (yT h)))))))).symm.trans hun) (by decide))
            refine wpOp_step rfl (fun K hK => ?_)
            have HKK := Lib.hid hK; clear hK
            simp only [putAll, Act.put, List.setIfInBounds_toArray, List.set_cons_zero, List.set_cons_succ]
            go_simp
            exact HKK.out _ _ ⟨_, by simp only [putAll, Act.put, List.setIfInBounds_toArray, List.set_cons_zero, List.set_cons_succ] <;> rfl, h0, h1, fun _ => rfl, h3, h4, h5, h6, h7, h8, h9, h11, h12, yM, yB, yS, yT, e0, e1, fun _ => rfl, e3, e4, e5, e6, e7, e8, e9, e10, e11⟩
          · obtain rfl := Option.some.inj hi
            have h13 : b' 13 = false := Bool.eq_false_iff.2 (fun h => absurd (((e3 (e4 (e9 (e10 (e11 (yT h))))))).symm.trans hun) (by decide))
            have d2 := h2 (hall ⟨2, .data⟩ (by simp) rfl)
            have kb := KM6.out.grow (yB h13).out
            have c0 : w'.cell? ⟨w.heap.size, 0, none⟩ = some (.int .i64 W) := kb.cell 0
            refine wpOp_step rfl (fun K hK => ?_)
            have HKK := Lib.hid hK; clear hK
            simp only [putAll, Act.put, List.setIfInBounds_toArray, List.set_cons_zero, List.set_cons_succ, d2]
            go_simp
            exact HKK.out _ _ ⟨_, by simp only [putAll, Act.put, List.setIfInBounds_toArray, List.set_cons_zero, List.set_cons_succ, d2] <;> rfl, h0, h1, h2, fun _ => rfl, h4, h5, h6, h7, h8, h9, h11, h12, yM, yB, yS, yT, e0, e1, fun _ => hall ⟨2, .data⟩ (by simp) rfl, fun _ => rfl, e4, e5, e6, e7, e8, e9, e10, e11⟩
          · obtain rfl := Option.some.inj hi
            have h13 : b' 13 = false := Bool.eq_false_iff.2 (fun h => absurd (((e4 (e9 (e10 (e11 (yT h)))))).symm.trans hun) (by decide))
            have d1 := h1 (hall ⟨1, .data⟩ (by simp) rfl)
            have d3 := h3 (hall ⟨3, .data⟩ (by simp) rfl)
            have hq1 := HRQ.out.1
            have hq3 := HRQ.out.2.2.1
            have hq4 := HRQ.out.2.2.2.1
            refine wpOp_step rfl (fun K hK => ?_)
            have HKK := Lib.hid hK; clear hK
            simp only [putAll, Act.put, List.setIfInBounds_toArray, List.set_cons_zero, List.set_cons_succ, d1, d3]
            go_simp
            exact HKK.out _ _ ⟨_, by simp only [putAll, Act.put, List.setIfInBounds_toArray, List.set_cons_zero, List.set_cons_succ, d1, d3] <;> rfl, h0, h1, h2, h3, fun _ => rfl, h5, h6, h7, h8, h9, h11, h12, yM, yB, yS, yT, e0, fun _ => hall ⟨1, .data⟩ (by simp) rfl, e2, fun _ => hall ⟨3, .data⟩ (by simp) rfl, fun _ => rfl, e5, e6, e7, e8, e9, e10, e11⟩
          · obtain rfl := Option.some.inj hi
            have h13 : b' 13 = false := Bool.eq_false_iff.2 (fun h => absurd (((e5 (e8 (e9 (e10 (e11 (yT h))))))).symm.trans hun) (by decide))
            refine wpOp_step rfl (fun K hK => ?_)
            have HKK := Lib.hid hK; clear hK
            simp only [putAll, Act.put, List.setIfInBounds_toArray, List.set_cons_zero, List.set_cons_succ]
            go_simp
            exact HKK.out _ _ ⟨_, by simp only [putAll, Act.put, List.setIfInBounds_toArray, List.set_cons_zero, List.set_cons_succ] <;> rfl, h0, h1, h2, h3, h4, fun _ => rfl, h6, h7, h8, h9, h11, h12, yM, yB, yS, yT, e0, e1, e2, e3, e4, fun _ => rfl, e6, e7, e8, e9, e10, e11⟩
          · obtain rfl := Option.some.inj hi
            have h13 : b' 13 = false := Bool.eq_false_iff.2 (fun h => absurd (((e6 (e7 (e8 (e9 (e10 (e11 (yT h)))))))).symm.trans hun) (by decide))
            refine wpOp_step rfl (fun K hK => ?_)
            have HKK := Lib.hid hK; clear hK
            simp only [putAll, Act.put, List.setIfInBounds_toArray, List.set_cons_zero, List.set_cons_succ]
            go_simp
            exact HKK.out _ _ ⟨_, by simp only [putAll, Act.put, List.setIfInBounds_toArray, List.set_cons_zero, List.set_cons_succ] <;> rfl, h0, h1, h2, h3, h4, h5, fun _ => rfl, h7, h8, h9, h11, h12, yM, yB, yS, yT, e0, e1, e2, e3, e4, e5, fun _ => rfl, e7, e8, e9, e10, e11⟩
          · obtain rfl := Option.some.inj hi
            have h13 : b' 13 = false := Bool.eq_false_iff.2 (fun h => absurd (((e7 (e8 (e9 (e10 (e11 (yT h))))))).symm.trans hun) (by decide))
            have d6 := h6 (hall ⟨6, .data⟩ (by simp) rfl)
            have kb := KM6.out.grow (yB h13).out
            have c0 : w'.cell? ⟨w.heap.size, 0, none⟩ = some (.int .i64 W) := kb.cell 0
            refine wpOp_step rfl (fun K hK => ?_)
            have HKK := Lib.hid hK; clear hK
            simp only [putAll, Act.put, List.setIfInBounds_toArray, List.set_cons_zero, List.set_cons_succ, d6]
            go_simp
            exact HKK.out _ _ ⟨_, by simp only [putAll, Act.put, List.setIfInBounds_toArray, List.set_cons_zero, List.set_cons_succ, d6] <;> rfl, h0, h1, h2, h3, h4, h5, h6, fun _ => rfl, h8, h9, h11, h12, yM, yB, yS, yT, e0, e1, e2, e3, e4, e5, fun _ => hall ⟨6, .data⟩ (by simp) rfl, fun _ => rfl, e8, e9, e10, e11⟩
          · obtain rfl := Option.some.inj hi
            have h13 : b' 13 = false := Bool.eq_false_iff.2 (fun h => absurd (((e8 (e9 (e10 (e11 (yT h)))))).symm.trans hun) (by decide))
            have d5 := h5 (hall ⟨5, .data⟩ (by simp) rfl)
            have d7 := h7 (hall ⟨7, .data⟩ (by simp) rfl)
            have hq2 := HRQ.out.2.1
            have hq3 := HRQ.out.2.2.1
            have hq4 := HRQ.out.2.2.2.1
            have hq5 := HRQ.out.2.2.2.2.1
            have hq6 := HRQ.out.2.2.2.2.2
            refine wpOp_step rfl (fun K hK => ?_)
            have HKK := Lib.hid hK; clear hK
            simp only [putAll, Act.put, List.setIfInBounds_toArray, List.set_cons_zero, List.set_cons_succ, d5, d7]
            go_simp
            exact HKK.out _ _ ⟨_, by simp only [putAll, Act.put, List.setIfInBounds_toArray, List.set_cons_zero, List.set_cons_succ, d5, d7] <;> rfl, h0, h1, h2, h3, h4, h5, h6, h7, fun _ => rfl, h9, h11, h12, yM, yB, yS, yT, e0, e1, e2, e3, e4, fun _ => hall ⟨5, .data⟩ (by simp) rfl, e6, fun _ => hall ⟨7, .data⟩ (by simp) rfl, fun _ => rfl, e9, e10, e11⟩
          · obtain rfl := Option.some.inj hi
            have h13 : b' 13 = false := Bool.eq_false_iff.2 (fun h => absurd (((e9 (e10 (e11 (yT h))))).symm.trans hun) (by decide))
            have d4 := h4 (hall ⟨4, .data⟩ (by simp) rfl)
            have d8 := h8 (hall ⟨8, .data⟩ (by simp) rfl)
            refine wpOp_step rfl (fun K hK => ?_)
            have HKK := Lib.hid hK; clear hK
            simp only [putAll, Act.put, List.setIfInBounds_toArray, List.set_cons_zero, List.set_cons_succ, d4, d8]
            go_simp
            exact HKK.out _ _ ⟨_, by simp only [putAll, Act.put, List.setIfInBounds_toArray, List.set_cons_zero, List.set_cons_succ, d4, d8] <;> rfl, h0, h1, h2, h3, h4, h5, h6, h7, h8, fun _ => rfl, h11, h12, yM, yB, yS, yT, e0, e1, e2, e3, fun _ => hall ⟨4, .data⟩ (by simp) rfl, e5, e6, e7, fun _ => hall ⟨8, .data⟩ (by simp) rfl, fun _ => rfl, e10, e11⟩
          · obtain rfl := Option.some.inj hi
            have h13 : b' 13 = false := Bool.eq_false_iff.2 (fun h => absurd (((e10 (e11 (yT h)))).symm.trans hun) (by decide))
            have d9 := h9 (hall ⟨9, .data⟩ (by simp) rfl)
            refine wpOp_step rfl (fun K hK => ?_)
            have HKK := Lib.hid hK; clear hK
            simp only [putAll, Act.put, List.setIfInBounds_toArray, List.set_cons_zero, List.set_cons_succ, d9]
            go_simp
            have hA : Hid (PtsAt (w'.alloc (.cells #[.int .i64 X, .int .i64 Y] 52)) w'.heap.size 0 [(X, Y)]) := pts_one (Blk.new _ _ _)
            exact HKK.out _ _ ⟨_, by simp only [putAll, Act.put, List.setIfInBounds_toArray, List.set_cons_zero, List.set_cons_succ, d9] <;> rfl, h0, h1, h2, h3, h4, h5, h6, h7, h8, h9, h11, h12, fun _ _ => Lib.hid ⟨_, rfl, by simp, hA.out⟩, fun h => Lib.hid ((yB h13).out.trans (((Below.refl _ _).alloc (Nat.le_refl _) _).mono (yB h13).out.size)), fun h => absurd (h13.symm.trans h) (by decide), yT, e0, e1, e2, e3, e4, e5, e6, e7, e8, fun _ => hall ⟨9, .data⟩ (by simp) rfl, fun _ => rfl, e11⟩
          · obtain rfl := Option.some.inj hi
            have h13 : b' 13 = false := Bool.eq_false_iff.2 (fun h => absurd (((e11 (yT h))).symm.trans hun) (by decide))
            have g10 := hall ⟨10, .data⟩ (by simp) rfl
            obtain ⟨q, e10, hq, hp⟩ := (yM g10 h13).out
            have HPT := Lib.hid (And.intro hq hp)
            clear hq hp
            have x1 := h1 (e1 (e4 (e9 g10)))
            have x2 := h2 (e2 (e3 (e4 (e9 g10))))
            have x3 := h3 (e3 (e4 (e9 g10)))
            have x4 := h4 (e4 (e9 g10))
            have x5 := h5 (e5 (e8 (e9 g10)))
            have x6 := h6 (e6 (e7 (e8 (e9 g10))))
            have x7 := h7 (e7 (e8 (e9 g10)))
            have x8 := h8 (e8 (e9 g10))
            have x9 := h9 (e9 g10)
            refine wpOp_step rfl (fun K hK => ?_)
            have HKK := Lib.hid hK; clear hK
            simp only [putAll, Act.put, List.setIfInBounds_toArray, List.set_cons_zero, List.set_cons_succ, e10, x1, x2, x3, x4, x5, x6, x7, x8, x9]
            go_simp
            refine (bound1_c X Y q w' HPT.out.1 HPT.out.2 HRM.out).mono ?_
            rintro e w'' ⟨rfl, hb2⟩
            exact HKK.out _ _ ⟨_, by simp only [putAll, Act.put, List.setIfInBounds_toArray, List.set_cons_zero, List.set_cons_succ, e10, x1, x2, x3, x4, x5, x6, x7, x8, x9] <;> rfl, h0, h1, h2, h3, h4, h5, h6, h7, h8, h9, fun _ => rfl, h12, fun _ _ => Lib.hid ⟨q, e10, Nat.lt_of_lt_of_le HPT.out.1 hb2.size, HPT.out.2.on hb2 HPT.out.1⟩, fun h => Lib.hid ((yB h13).out.trans (hb2.mono (yB h13).out.size)), fun h => absurd (h13.symm.trans h) (by decide), yT, e0, e1, e2, e3, e4, e5, e6, e7, e8, e9, fun _ => g10, fun _ => rfl⟩
          · obtain rfl := Option.some.inj hi
            have h13 : b' 13 = false := Bool.eq_false_iff.2 (fun h => absurd ((yT h).symm.trans hun) (by decide))
            have d0 := h0 (hall ⟨0, .data⟩ (by simp) rfl)
            have d11 := h11 (hall ⟨11, .data⟩ (by simp) rfl)
            have g0 := hall ⟨0, .data⟩ (by simp) rfl
            have g11 := hall ⟨11, .data⟩ (by simp) rfl
            refine wpOp_step rfl (fun K hK => ?_)
            have HKK := Lib.hid hK; clear hK
            simp only [putAll, Act.put, List.setIfInBounds_toArray, List.set_cons_zero, List.set_cons_succ, d0, d11]
            go_simp
            refine (HJN.out w').mono ?_
            rintro e w'' ⟨rfl, hb2⟩
            exact HKK.out _ _ ⟨_, by simp only [putAll, Act.put, List.setIfInBounds_toArray, List.set_cons_zero, List.set_cons_succ, d0, d11] <;> rfl, h0, h1, h2, h3, h4, h5, h6, h7, h8, h9, h11, fun _ => rfl, fun h _ => by obtain ⟨q, e, hq, hp⟩ := (yM h h13).out; exact Lib.hid ⟨q, e, Nat.lt_of_lt_of_le hq hb2.size, hp.on hb2 hq⟩, fun h => Lib.hid ((yB h13).out.trans (hb2.mono (yB h13).out.size)), fun h => absurd (h13.symm.trans h) (by decide), fun _ => rfl, fun _ => g0, e1, e2, e3, e4, e5, e6, e7, e8, e9, e10, fun _ => g11⟩
          · obtain rfl := Option.some.inj hi
            have g12 := hall ⟨12, .data⟩ (by simp) rfl
            have d12 := h12 (hall ⟨12, .data⟩ (by simp) rfl)
            have x0 := h0 (e0 g12)
            have x1 := h1 (e1 (e4 (e9 (e10 (e11 g12)))))
            have x2 := h2 (e2 (e3 (e4 (e9 (e10 (e11 g12))))))
            have x3 := h3 (e3 (e4 (e9 (e10 (e11 g12)))))
            have x4 := h4 (e4 (e9 (e10 (e11 g12))))
            have x5 := h5 (e5 (e8 (e9 (e10 (e11 g12)))))
            have x6 := h6 (e6 (e7 (e8 (e9 (e10 (e11 g12))))))
            have x7 := h7 (e7 (e8 (e9 (e10 (e11 g12)))))
            have x8 := h8 (e8 (e9 (e10 (e11 g12))))
            have x9 := h9 (e9 (e10 (e11 g12)))
            have x11 := h11 (e11 g12)
            have hbx := (yB hun).out
            have kb := KB6.out.grow hbx
            have c0 := kb.b0
            have c1 := kb.b1
            have c2 := kb.b2
            have c3 := kb.b3
            have f0 := kb.free 0
            have f1 := kb.free 1
            have f2 := kb.free 2
            have f3 := kb.free 3
            have lgw := kb.lt
            have HF := Lib.hid (HFIN.out w' hbx)
            clear kb hbx
            refine wpOp_step rfl (fun K hK => ?_)
            have HKK := Lib.hid hK; clear hK
            simp only [putAll, Act.put, List.setIfInBounds_toArray, List.set_cons_zero, List.set_cons_succ, d12, x0, x1, x2, x3, x4, x5, x6, x7, x8, x9, x11]
            go_simp
            exact HKK.out _ _ ⟨undef, by simp only [putAll, Act.put, List.setIfInBounds_toArray, List.set_cons_zero, List.set_cons_succ, d12, x0, x1, x2, x3, x4, x5, x6, x7, x8, x9, x11] <;> rfl, h0, h1, h2, h3, h4, h5, h6, h7, h8, h9, h11, h12, fun _ h => Bool.noConfusion h, fun h => Bool.noConfusion h, fun _ => HF, fun _ => g12, e0, e1, e2, e3, e4, e5, e6, e7, e8, e9, e10, e11⟩
          · exact absurd hil (by omega)
        · rintro b' vs w' hb ⟨h0, h1, h2, h3, h4, h5, h6, h7, h8, h9, h11, h12, yM, yB, yS, yT, e0, e1, e2, e3, e4, e5, e6, e7, e8, e9, e10, e11⟩
          have FS := yS (hb 13 (by decide))
          have v0 := h0 (hb 0 (by decide))
          have v1 := h1 (hb 1 (by decide))
          have v2 := h2 (hb 2 (by decide))
          have v3 := h3 (hb 3 (by decide))
          have v4 := h4 (hb 4 (by decide))
          have v5 := h5 (hb 5 (by decide))
          have v6 := h6 (hb 6 (by decide))
          have v7 := h7 (hb 7 (by decide))
          have v8 := h8 (hb 8 (by decide))
          have v9 := h9 (hb 9 (by decide))
          have v11 := h11 (hb 11 (by decide))
          have v12 := h12 (hb 12 (by decide))
          simp only [putAll, Act.put, List.setIfInBounds_toArray, List.set_cons_zero, List.set_cons_succ, v0, v1, v2, v3, v4, v5, v6, v7, v8, v9, v11, v12]
          clear h0 h1 h2 h3 h4 h5 h6 h7 h8 h9 h11 h12 yM yB yS yT e0 e1 e2 e3 e4 e5 e6 e7 e8 e9 e10 e11 hb v0 v1 v2 v3 v4 v5 v6 v7 v8 v9 v11 v12
          have hnl := HSD.out.2
          have hlt := HLT.out
          go_wp2_with fail
          exact ⟨⟨k + 1, hlt, by go_num, FS.out⟩, by have := HLT.out; simp [intOf]; omega⟩
      · go_wp2_with fail
        go_quiet (fail)
        obtain ⟨w8, hw8⟩ : ∃ WW, World.drewN w7 nq = WW := ⟨_, rfl⟩
        have S8 : Hid (DifS w5 w4.heap.size W l ol (k + 1) w8) := by
          rw [← hw8]
          have h := S7.out.step (B := World.drewN w7 nq) ⟨rfl, rfl, rfl, Nat.le_refl _, fun _ _ => rfl⟩
          unfold DifS at h ⊢
          rw [boxTo_same HR.out]
          exact h
        rw [hw8]
        clear hw8 S7 a0 a1 a2 a3 d1 d2 d3 d4 ko q8
        have hnl := HSD.out.2
        have hlt := HLT.out
        go_wp2_with fail
        exact ⟨⟨k + 1, hlt, by go_num, S8.out⟩, by have := HLT.out; simp [intOf]; omega⟩
    · have hd : decide ((k : Int) < (n : Int)) = false := by simp; omega
      have hkn : Hid (k = n) := by unfold Hid; omega
      have kb := hst.out.2
      have c0 := kb.b0
      have c1 := kb.b1
      have c2 := kb.b2
      have c3 := kb.b3
      have kz := hst.out.1.blk P5.out.2.2.2.1 (by have := HG.out; omega)
      have z0 := kz.b0
      have z1 := kz.b1
      have z2 := kz.b2
      have z3 := kz.b3
      have f0 := kz.free 0
      have f1 := kz.free 1
      have f2 := kz.free 2
      have f3 := kz.free 3
      have lg := kz.lt
      have KZ := Lib.hid kz
      simp only at z0 z1 z2 z3
      clear kb kz
      go_wp2_with fail
      exact bodyPost_ret (results_boxE rfl rfl rfl (KZ.out.setB (boxTo W l ol k))) rfl ⟨by rw [hkn.out]; rfl, below_four B6.out (by omega) _ _ _ _⟩
end Go.Proofs.Ytoppmlfibllhlaa
