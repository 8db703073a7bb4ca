/- Layer 11: package image's At. -/
import Derived.Test.YtoppmlfibllhlaaRg
namespace Go.Proofs.Ytoppmlfibllhlaa
open Go.RowKit
theorem results_colE {fn : Func} {tmps : Array Value} {w : World} {g : Nat} {f : Nat → Value} {v : Value} (hres : fn.results = #[.cell 6 28, .tmp 7]) (ha : tmps[6]? = some (.pointer (some ⟨g, 0, none⟩))) (hb : tmps[7]? = some v) (h : Blk w g 28 (four f)) :
    (results fn tmps).run Try.prog w = .ok (.tuple #[.agg #[f 0, f 1, f 2, f 3], v]) w := by
  obtain ⟨h0, h1, h2, h3⟩ := h.c0
  simp [results, hres, ha, hb, go_sem, h0, h1, h2, h3]
theorem below_setC {w w' : World} {B g : Nat} (h : Below B w w') (hg : B ≤ g) (a b c d : Value) : Below B w ((((w'.setCell ⟨g, 0, none⟩ a).setCell ⟨g, 1, none⟩ b).setCell ⟨g, 2, none⟩ c).setCell ⟨g, 3, none⟩ d) := below_four h hg a b c d
set_option maxHeartbeats 4000000 in
set_option maxRecDepth 100000 in
theorem at_n (W H x y : Int) (s : Value) (l : List Col) (w : World) (row : RowK .u8 w s l) (_hl : l.length ≤ 400) (hin : hasI ⟨0, 0, W, H⟩ x y = false) : Calls Try.prog 23 #[.agg #[.int .i64 W, .int .i64 H, s], .int .i64 x, .int .i64 y] w fun e w' => e = .returned (.tuple #[.agg #[.int .u8 0, .int .u8 0, .int .u8 0, .int .u8 0], .bool false]) ∧ Below w.heap.size w w' := by
  have HBX := Lib.hid (imBox_c W H s)
  have HHS : Hid (∀ A, Calls Try.prog 46 #[.agg #[.int .i64 0, .int .i64 0, .int .i64 W, .int .i64 H], .agg #[.int .i64 x, .int .i64 y]] A fun e w' => e = .returned (.bool false) ∧ Below A.heap.size A w') := fun A => by
    have h := has_c ⟨0, 0, W, H⟩ x y A
    rw [show hasI ⟨0, 0, W, H⟩ x y = false from hin] at h
    exact h
  obtain ⟨ao, cp, rfl⟩ := row.shape
  clear row hin
  generalize l.length = n at *
  go_enter Try.func23, Try.ntmps23
  go_wp2_with fail
  obtain ⟨w1, hw1⟩ : ∃ WW, (w.alloc (.cells #[.int .i64 W, .int .i64 H, .slice ao n cp] 24)).alloc (.cells #[.int .u8 0, .int .u8 0, .int .u8 0, .int .u8 0] 28) = WW := ⟨_, rfl⟩
  have P1 : Hid (Below w.heap.size w w1 ∧ Blk w1 w.heap.size 24 #[.int .i64 W, .int .i64 H, .slice ao n cp] ∧ Blk w1 (w.heap.size + 1) 28 (four fun _ => .int .u8 0)) := by
    rw [← hw1]
    exact ⟨((Below.refl _ _).alloc (Nat.le_refl _) _).alloc (by simp) _, (Blk.new _ _ _).alloc _, Blk.newAt _ _ _ (by simp)⟩
  rw [hw1]
  clear hw1
  refine (HBX.out w1).mono ?_
  rintro e w2 ⟨rfl, hb⟩
  have P2 : Hid (Below w.heap.size w w2 ∧ Blk w2 w.heap.size 24 #[.int .i64 W, .int .i64 H, .slice ao n cp] ∧ Blk w2 (w.heap.size + 1) 28 (four fun _ => .int .u8 0)) := ⟨P1.out.1.trans (hb.mono P1.out.1.size), P1.out.2.1.grow hb, P1.out.2.2.grow hb⟩
  clear hb P1
  go_wp2_with fail
  refine (HHS.out w2).mono ?_
  rintro e w3 ⟨rfl, hb⟩
  have P3 : Hid (Below w.heap.size w w3 ∧ Blk w3 w.heap.size 24 #[.int .i64 W, .int .i64 H, .slice ao n cp] ∧ Blk w3 (w.heap.size + 1) 28 (four fun _ => .int .u8 0)) := ⟨P2.out.1.trans (hb.mono P2.out.1.size), P2.out.2.1.grow hb, P2.out.2.2.grow hb⟩
  clear hb P2
  obtain ⟨z0, z1, z2, z3⟩ := P3.out.2.2.c0
  have f0 := P3.out.2.2.free 0
  have f1 := P3.out.2.2.free 1
  have f2 := P3.out.2.2.free 2
  have f3 := P3.out.2.2.free 3
  have lg := P3.out.2.2.lt
  have m0 : w3.cell? ⟨w.heap.size, 0, none⟩ = some (.int .i64 W) := P3.out.2.1.cell 0
  have m2 : w3.cell? ⟨w.heap.size, 2, none⟩ = some (.slice ao n cp) := P3.out.2.1.cell 2
  go_wp2_with fail
  exact bodyPost_ret (results_colE (f := fun _ => .int .u8 0) rfl rfl rfl (P3.out.2.2.set4 fun _ => .int .u8 0)) rfl ⟨rfl, below_setC P3.out.1 (by omega) _ _ _ _⟩
set_option maxHeartbeats 4000000 in
set_option maxRecDepth 100000 in
theorem at_y (W H x y : Int) (s : Value) (l : List Col) (w : World) (row : RowK .u8 w s l) (hl : l.length ≤ 400) (hr : rightIm W H l = true) (hin : hasI ⟨0, 0, W, H⟩ x y = true) (c : Col) (hc : cAt l (y * W + x).toNat = c) : Calls Try.prog 23 #[.agg #[.int .i64 W, .int .i64 H, s], .int .i64 x, .int .i64 y] w fun e w' => e = .returned (.tuple #[.agg #[.int .u8 (c 0), .int .u8 (c 1), .int .u8 (c 2), .int .u8 (c 3)], .bool true]) ∧ Below w.heap.size w w' := by
  have HBX := Lib.hid (imBox_c W H s)
  have HHS : Hid (∀ A, Calls Try.prog 46 #[.agg #[.int .i64 0, .int .i64 0, .int .i64 W, .int .i64 H], .agg #[.int .i64 x, .int .i64 y]] A fun e w' => e = .returned (.bool true) ∧ Below A.heap.size A w') := fun A => by
    have h := has_c ⟨0, 0, W, H⟩ x y A
    rw [show hasI ⟨0, 0, W, H⟩ x y = true from hin] at h
    exact h
  have hri := rightIm_iff.1 hr
  have hb : 0 ≤ x ∧ x < W ∧ 0 ≤ y ∧ y < H := by
    unfold hasI at hin
    simp only [Bool.and_eq_true, decide_eq_true_eq] at hin
    omega
  have hs := mul_sides hri.1 hri.2.1 hri.2.2.1 hri.2.2.2.1
  have hWH := hri.2.2.2.2.1
  have hf0 : 0 ≤ y * W := Int.mul_nonneg hb.2.2.1 (by omega)
  have hf1 : (y + 1) * W ≤ H * W := Int.mul_le_mul_of_nonneg_right (by omega) (by omega)
  have hf2 : W ≤ W * H := by
    have := Int.mul_le_mul_of_nonneg_left (show 1 ≤ H from hri.2.2.1) (show 0 ≤ W by omega)
    rw [Int.mul_one] at this; exact this
  rw [Int.add_mul, Int.one_mul, Int.mul_comm H W, ← hWH] at hf1
  rw [← hWH] at hf2
  obtain ⟨f, hf⟩ : ∃ f : Nat, y * W + x = f := ⟨(y * W + x).toNat, by omega⟩
  have hfn : f < l.length := by omega
  rw [hf, Int.toNat_natCast] at hc
  obtain ⟨ao, cp, rfl⟩ := row.shape
  obtain ⟨b, o, rfl, hbs, hcs⟩ := row.addr (by omega)
  have HCL : Hid (b < w.heap.size ∧ ColAt .u8 w b (o + f * 4) c) := ⟨hbs, hcs f c (by rw [← hc]; exact cAt_some hfn)⟩
  obtain ⟨p, hp⟩ : ∃ p, y * W = p := ⟨_, rfl⟩
  have e1 : wrap64 (y * W) = p := by rw [hp]; exact wrapR _ (by omega) (by omega)
  have e2 : wrap64 (p + x) = (f : Int) := by rw [← hp, hf]; exact wrapR _ (by omega) (by omega)
  obtain ⟨n, hn⟩ : ∃ n, l.length = n := ⟨_, rfl⟩
  rw [hn] at hWH hf1 hf2 hfn hl
  have hq : ((n : Int) - 1 - x).tdiv W = H - 1 := by
    rw [Int.tdiv_eq_ediv_of_nonneg (by omega), hWH, show W * H - 1 - x = (W - 1 - x) + (H - 1) * W by rw [Int.sub_mul, Int.one_mul, Int.mul_comm H W]; omega, Int.add_mul_ediv_right _ _ (by omega), Int.ediv_eq_zero_of_lt (by omega) (by omega), Int.zero_add]
  obtain ⟨n1, hn1⟩ : ∃ n1 : Int, (n : Int) - 1 = n1 := ⟨_, rfl⟩
  obtain ⟨n2, hn2⟩ : ∃ n2 : Int, n1 - x = n2 := ⟨_, rfl⟩
  have e3 : wrap64 ((n : Int) - 1) = n1 := by rw [hn1]; exact wrapR _ (by omega) (by omega)
  have e4 : wrap64 (n1 - x) = n2 := by rw [hn2]; exact wrapR _ (by omega) (by omega)
  rw [hn1, hn2] at hq
  obtain ⟨h1, hh1⟩ : ∃ h1 : Int, H - 1 = h1 := ⟨_, rfl⟩
  rw [hh1] at hq
  have e5 : wrap64 h1 = h1 := wrapR _ (by omega) (by omega)
  have dx : decide (x ≥ (n : Int)) = false := by simp; omega
  have dy : decide (y > h1) = false := by simp; omega
  have dw : (W == 0) = false := by simp; omega
  have dw2 : ¬ W = 0 := by omega
  have k1 : (f : Int) < (n : Int) := by omega
  have k2 : (0 : Int) ≤ (f : Int) := by omega
  have hnn : ¬ ((n : Int) ≤ x) := by omega
  rw [hn] at HBX
  rw [hn]
  clear row hin hr hri hb hs hWH hf0 hf1 hf2 hf hfn hc hbs hcs hp hn1 hn2 hh1 hl hn
  go_enter Try.func23, Try.ntmps23
  go_wp2_with fail
  obtain ⟨w1, hw1⟩ : ∃ WW, (w.alloc (.cells #[.int .i64 W, .int .i64 H, .slice (some ⟨b, o, none⟩) n cp] 24)).alloc (.cells #[.int .u8 0, .int .u8 0, .int .u8 0, .int .u8 0] 28) = WW := ⟨_, rfl⟩
  have P1 : Hid (Below w.heap.size w w1 ∧ Blk w1 w.heap.size 24 #[.int .i64 W, .int .i64 H, .slice (some ⟨b, o, none⟩) n cp] ∧ Blk w1 (w.heap.size + 1) 28 (four fun _ => .int .u8 0)) := by
    rw [← hw1]
    exact ⟨((Below.refl _ _).alloc (Nat.le_refl _) _).alloc (by simp) _, (Blk.new _ _ _).alloc _, Blk.newAt _ _ _ (by simp)⟩
  rw [hw1]
  clear hw1
  refine (HBX.out w1).mono ?_
  rintro e w2 ⟨rfl, hb⟩
  have P2 : Hid (Below w.heap.size w w2 ∧ Blk w2 w.heap.size 24 #[.int .i64 W, .int .i64 H, .slice (some ⟨b, o, none⟩) n cp] ∧ Blk w2 (w.heap.size + 1) 28 (four fun _ => .int .u8 0)) := ⟨P1.out.1.trans (hb.mono P1.out.1.size), P1.out.2.1.grow hb, P1.out.2.2.grow hb⟩
  clear hb P1
  go_wp2_with fail
  refine (HHS.out w2).mono ?_
  rintro e w3 ⟨rfl, hb⟩
  have P3 : Hid (Below w.heap.size w w3 ∧ Blk w3 w.heap.size 24 #[.int .i64 W, .int .i64 H, .slice (some ⟨b, o, none⟩) n cp] ∧ Blk w3 (w.heap.size + 1) 28 (four fun _ => .int .u8 0)) := ⟨P2.out.1.trans (hb.mono P2.out.1.size), P2.out.2.1.grow hb, P2.out.2.2.grow hb⟩
  clear hb P2
  obtain ⟨z0, z1, z2, z3⟩ := P3.out.2.2.c0
  have f0 := P3.out.2.2.free 0
  have f1 := P3.out.2.2.free 1
  have f2 := P3.out.2.2.free 2
  have f3 := P3.out.2.2.free 3
  have lg := P3.out.2.2.lt
  have m0 : w3.cell? ⟨w.heap.size, 0, none⟩ = some (.int .i64 W) := P3.out.2.1.cell 0
  have m2 : w3.cell? ⟨w.heap.size, 2, none⟩ = some (.slice (some ⟨b, o, none⟩) n cp) := P3.out.2.1.cell 2
  obtain ⟨c1, c2, c3, c4⟩ := HCL.out.2.on P3.out.1 HCL.out.1
  go_wp2_with fail
  exact bodyPost_ret (results_colE (f := fun i => .int .u8 (c i)) rfl rfl rfl (P3.out.2.2.set4 fun i => .int .u8 (c i))) rfl ⟨rfl, below_setC P3.out.1 (by omega) _ _ _ _⟩
theorem atOk : AtOk := by
  intro W H x y s l w row hok hl hr
  have e : hasI ⟨0, 0, W, H⟩ x y = inIm W H x y := by
    unfold hasI inIm
    simp only
  unfold atC
  cases hin : inIm W H x y with
  | false =>
    rw [hin] at e
    exact at_n W H x y s l w row hl e
  | true =>
    rw [hin] at e
    exact at_y W H x y s l w row hl hr e _ rfl
end Go.Proofs.Ytoppmlfibllhlaa
