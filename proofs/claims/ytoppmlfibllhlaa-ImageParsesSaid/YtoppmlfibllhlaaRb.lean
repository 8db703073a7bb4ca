/- Layer 11: boxes met, package image's Box, its rows. -/
import Derived.Test.YtoppmlfibllhlaaBox
import Derived.Test.YtoppmlfibllhlaaRa
namespace Go.Proofs.Ytoppmlfibllhlaa
open Go.RowKit
set_option maxHeartbeats 400000 in
theorem has_c (b : Bx) (x y : Int) (w : World) : Calls Try.prog 46 #[.agg #[.int .i64 b.x0, .int .i64 b.y0, .int .i64 b.x1, .int .i64 b.y1], .agg #[.int .i64 x, .int .i64 y]] w fun e w' => e = .returned (.bool (hasI b x y)) ∧ Below w.heap.size w w' := by
  obtain ⟨x0, y0, x1, y1⟩ := b
  unfold hasI
  have H : ∀ r : Bool, r = (decide (x0 ≤ x) && decide (x < x1) && decide (y0 ≤ y) && decide (y < y1)) → Calls Try.prog 46 #[.agg #[.int .i64 x0, .int .i64 y0, .int .i64 x1, .int .i64 y1], .agg #[.int .i64 x, .int .i64 y]] w fun e w' => e = .returned (.bool r) ∧ Below w.heap.size w w' := by
    intro r hr
    have HR := Lib.hid hr
    clear hr
    by_cases h1 : x0 ≤ x
    · by_cases h2 : x < x1
      · by_cases h3 : y0 ≤ y
        · go_enter Try.func46, Try.ntmps46
          go_wp2_with fail
          go_ret
          exact ⟨by rw [HR.out]; simp [h1, h2, h3], by go_grown⟩
        · go_enter Try.func46, Try.ntmps46
          go_wp2_with fail
          go_ret
          exact ⟨by rw [HR.out]; simp; omega, by go_grown⟩
      · go_enter Try.func46, Try.ntmps46
        go_wp2_with fail
        go_ret
        exact ⟨by rw [HR.out]; simp; omega, by go_grown⟩
    · go_enter Try.func46, Try.ntmps46
      go_wp2_with fail
      go_ret
      exact ⟨by rw [HR.out]; simp; omega, by go_grown⟩
  exact H _ rfl
set_option maxHeartbeats 400000 in
set_option maxRecDepth 100000 in
theorem meet_c (a b : Bx) (w : World) : Calls Try.prog 35 #[.agg #[.int .i64 a.x0, .int .i64 a.y0, .int .i64 a.x1, .int .i64 a.y1], .agg #[.int .i64 b.x0, .int .i64 b.y0, .int .i64 b.x1, .int .i64 b.y1]] w fun e w' => e = .returned (.agg (fourB (meetI a b))) ∧ Below w.heap.size w w' := by
  have HE := Lib.hid (emptyB_c (meet0 a b))
  obtain ⟨m, hm⟩ : ∃ m, meet0 a b = m := ⟨_, rfl⟩
  have hmi : meetI a b = if emptyI m = true then ⟨0, 0, 0, 0⟩ else m := by unfold meetI; rw [hm]
  have E : max a.x0 b.x0 = m.x0 ∧ max a.y0 b.y0 = m.y0 ∧ min a.x1 b.x1 = m.x1 ∧ min a.y1 b.y1 = m.y1 := by rw [← hm]; exact ⟨rfl, rfl, rfl, rfl⟩
  obtain ⟨E1, E2, E3, E4⟩ := E
  rw [hm] at HE
  have HM := Lib.hid hmi
  clear hm hmi
  go_enter Try.func35, Try.ntmps35
  go_wp2_with fail
  refine (HE.out _).mono ?_
  rintro e w1 ⟨rfl, hb⟩
  have kz : Blk w1 (w.heap.size + 2) 26 (fourB ⟨0, 0, 0, 0⟩) := ((Blk.newAt _ _ _ (by simp)).alloc _).grow hb
  have km : Blk w1 (w.heap.size + 3) 26 (fourB m) := (Blk.newAt _ _ _ (by simp)).grow hb
  have hB : Below w.heap.size w w1 := Below.trans (((((Below.refl _ _).alloc (Nat.le_refl _) _).alloc (by simp) _).alloc (by simp; omega) _).alloc (by simp; omega) _) (hb.mono (by simp; omega))
  have c0 := kz.b0
  have c1 := kz.b1
  have c2 := kz.b2
  have c3 := kz.b3
  have f0 := kz.free 0
  have f1 := kz.free 1
  have f2 := kz.free 2
  have f3 := kz.free 3
  have d0 := km.b0
  have d1 := km.b1
  have d2 := km.b2
  have d3 := km.b3
  have KZ := Lib.hid kz; have HB := Lib.hid hB
  simp only at c0 c1 c2 c3
  clear kz km hB hb
  cases he : emptyI m
  · have hr : Hid (meetI a b = m) := by unfold Hid; rw [HM.out, he]; simp
    clear HM
    go_wp2_with fail
    refine bodyPost_ret (v := .agg (fourB m)) (results_box 4 rfl rfl (KZ.out.setB m)) rfl ⟨by rw [hr.out], below_four (g := w.heap.size + 2) HB.out (by omega) _ _ _ _⟩
  · have hr : Hid (meetI a b = ⟨0, 0, 0, 0⟩) := by unfold Hid; rw [HM.out, he]; simp
    clear HM
    go_wp2_with fail
    refine bodyPost_ret (v := .agg (fourB ⟨0, 0, 0, 0⟩)) (results_box 4 rfl rfl (KZ.out.setB ⟨0, 0, 0, 0⟩)) rfl ⟨by rw [hr.out], below_four (g := w.heap.size + 2) HB.out (by omega) _ _ _ _⟩

set_option maxHeartbeats 1000000 in
theorem imBox_c (W H : Int) (s : Value) (w : World) : Calls Try.prog 24 #[.agg #[.int .i64 W, .int .i64 H, s]] w fun e w' => e = .returned (.agg #[.int .i64 0, .int .i64 0, .int .i64 W, .int .i64 H]) ∧ Below w.heap.size w w' := by
  go_enter Try.func24, Try.ntmps24
  go_wp2_with fail
  refine bodyPost_ret (v := .agg (fourB ⟨0, 0, W, H⟩)) (results_box 2 rfl rfl (Blk.newAt _ _ _ (by simp))) rfl ⟨rfl, ((Below.refl _ _).alloc (Nat.le_refl _) _).alloc (by simp) _⟩
set_option maxHeartbeats 1000000 in
set_option maxRecDepth 100000 in
theorem row_c (W H y p : Int) (b : Bx) (bl ofs n c f t : Nat) (hp : y * W = p) (hp2 : -1000000 ≤ p ∧ p ≤ 1000000) (hf : p + b.x0 = f) (ht : p + b.x1 = t) (hft : f < t) (htc : t ≤ c) (hx : t ≤ 1000000) (w : World) :
    Calls Try.prog 36 #[.agg #[.int .i64 W, .int .i64 H, .slice (some ⟨bl, ofs, none⟩) n c], .agg #[.int .i64 b.x0, .int .i64 b.y0, .int .i64 b.x1, .int .i64 b.y1], .int .i64 y] w fun e w' => e = .returned (.slice (some ⟨bl, ofs + f * 4, none⟩) (t - f) (t - f)) ∧ Below w.heap.size w w' := by
  obtain ⟨x0, y0, x1, y1⟩ := b
  simp only at *
  have e1 : wrap64 (y * W) = p := by rw [hp]; exact wrapR _ (by omega) (by omega)
  have e2 : wrap64 (p + x0) = f := by rw [hf]; exact wrapR _ (by omega) (by omega)
  have e3 : wrap64 (p + x1) = t := by rw [ht]; exact wrapR _ (by omega) (by omega)
  have e1' := (wrap_is _).trans e1
  have e2' := (wrap_is _).trans e2
  have e3' := (wrap_is _).trans e3
  have k1 : (0 : Int) ≤ (f : Int) := by omega
  have k2 : (f : Int) ≤ (t : Int) := by omega
  have k4 : ¬ t = f := by omega
  have k3 : (t : Int) ≤ (c : Int) := by omega
  clear hp hp2 hf ht hx
  go_enter Try.func36, Try.ntmps36
  go_wp2_with fail
  go_region
  go_wp2_with fail
  go_ret
  exact ⟨rfl, by go_grown⟩
end Go.Proofs.Ytoppmlfibllhlaa
