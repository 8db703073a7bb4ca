/- The document's Then of layer 4. -/
import Derived.Test.YticoklfgmflidaaDoorAg
namespace Go.Proofs.YticoklfgmflidaaDoor
open Go.RowKit

theorem Blk.drew {w : World} {g : Nat} {t : TypeId} {cs : Array Value} (h : Blk w g t cs) : Blk w.drew g t cs := h
/-- What lies in memory: the result, and the matrix that is made. -/
structure RtS (n : Nat) (w W : World) (k : Mx) : Prop where
  below : Below n w W
  kr : Blk W (n + 2) 31 (six zeroM)
  kg : Blk W (n + 3) 31 (six k)
theorem RtS.next {n : Nat} {w W W' : World} {k : Mx} (h : RtS n w W k) (b : Below W.heap.size W W') : RtS n w W' k :=
  ⟨h.below.trans (b.mono (by have := h.kr.lt; omega)), h.kr.grow b, h.kg.grow b⟩
theorem RtS.drew {n : Nat} {w W : World} {k : Mx} (h : RtS n w W k) : RtS n w W.drew k := ⟨below_drewN h.below 1, h.kr, h.kg⟩
theorem RtS.put {n : Nat} {w W : World} {k : Mx} (h : RtS n w W k) (i j : Nat) (u v : Value) (k' : Mx) (e : ((six k).setIfInBounds i u).setIfInBounds j v = six k') : RtS n w ((W.setCell ⟨n + 3, i, none⟩ u).setCell ⟨n + 3, j, none⟩ v) k' :=
  ⟨(h.below.setCell (by dsimp only; omega) _).setCell (by dsimp only; omega) _, (h.kr.other _ _ (by dsimp only; omega)).other _ _ (by dsimp only; omega), e ▸ (h.kg.set i u).set j v⟩
theorem RtS.start (w : World) (a b : Array Value) (k : Mx) : RtS w.heap.size w ((((w.alloc (.cells a 31)).alloc (.cells b 31)).alloc (.cells (six zeroM) 31)).alloc (.cells (six k) 31)) k :=
  ⟨((((Below.refl _ _).alloc (Nat.le_refl _) _).alloc (by simp) _).alloc (by simp; omega) _).alloc (by simp; omega) _, (Blk.newAt _ _ _ (by simp)).alloc _, Blk.newAt _ _ _ (by simp)⟩
set_option maxHeartbeats 4000000 in
set_option maxRecDepth 100000 in
theorem refThen_walk (m o k : Mx) (w : World) (r q : Bool)
    (p0 : wrap64 (o.a * m.a) = o.a * m.a)
    (p1 : wrap64 (o.c * m.b) = o.c * m.b)
    (p2 : wrap64 (o.b * m.a) = o.b * m.a)
    (p3 : wrap64 (o.d * m.b) = o.d * m.b)
    (p4 : wrap64 (o.a * m.c) = o.a * m.c)
    (p5 : wrap64 (o.c * m.d) = o.c * m.d)
    (p6 : wrap64 (o.b * m.c) = o.b * m.c)
    (p7 : wrap64 (o.d * m.d) = o.d * m.d)
    (s0 : wrap64 (o.a * m.a + o.c * m.b) = o.a * m.a + o.c * m.b)
    (s1 : wrap64 (o.b * m.a + o.d * m.b) = o.b * m.a + o.d * m.b)
    (s2 : wrap64 (o.a * m.c + o.c * m.d) = o.a * m.c + o.c * m.d)
    (s3 : wrap64 (o.b * m.c + o.d * m.d) = o.b * m.c + o.d * m.d)
    (HN0 : Hid (∀ w, Calls Tryd.prog 35 #[.int .i64 (o.a * m.a + o.c * m.b), .int .i64 65536] w fun e w' => e = .returned (.int .i64 k.a) ∧ w' = w))
    (HN1 : Hid (∀ w, Calls Tryd.prog 35 #[.int .i64 (o.b * m.a + o.d * m.b), .int .i64 65536] w fun e w' => e = .returned (.int .i64 k.b) ∧ w' = w))
    (HN2 : Hid (∀ w, Calls Tryd.prog 35 #[.int .i64 (o.a * m.c + o.c * m.d), .int .i64 65536] w fun e w' => e = .returned (.int .i64 k.c) ∧ w' = w))
    (HN3 : Hid (∀ w, Calls Tryd.prog 35 #[.int .i64 (o.b * m.c + o.d * m.d), .int .i64 65536] w fun e w' => e = .returned (.int .i64 k.d) ∧ w' = w))
    (HA : Hid (∀ w, Calls Tryd.prog 14 #[.agg #[.int .i64 o.a, .int .i64 o.b, .int .i64 o.c, .int .i64 o.d, .int .i64 o.e, .int .i64 o.f], .int .i64 m.e, .int .i64 m.f] w fun e w' => e = .returned (.tuple #[.int .i64 k.e, .int .i64 k.f, .bool r]) ∧ Below w.heap.size w w'))
    (HQ : Hid (∀ w, Calls Tryd.prog 10 #[.agg #[.int .i64 k.a, .int .i64 k.b, .int .i64 k.c, .int .i64 k.d, .int .i64 k.e, .int .i64 k.f]] w fun e w' => e = .returned (.bool q) ∧ Below w.heap.size w w')) :
    Calls Tryd.prog 17 #[.agg (six m), .agg (six o)] w fun e w' => e = .returned (.tuple #[.agg (six k), .bool (r && q)]) ∧ Below w.heap.size w w' := by
  have HS := Lib.hid (RtS.start w (six m) (six o) ⟨k.a, k.b, k.c, k.d, 0, 0⟩)
  obtain ⟨n, hn⟩ : ∃ n, w.heap.size = n := ⟨_, rfl⟩
  rw [hn] at HS ⊢
  go_enter Tryd.func17, Tryd.ntmps17
  go_wp2_with fail
  refine (HN0.out _).mono ?_
  rintro e w' ⟨rfl, rfl⟩
  go_wp2_with fail
  refine (HN1.out _).mono ?_
  rintro e w' ⟨rfl, rfl⟩
  go_wp2_with fail
  refine (HN2.out _).mono ?_
  rintro e w' ⟨rfl, rfl⟩
  go_wp2_with fail
  refine (HN3.out _).mono ?_
  rintro e w' ⟨rfl, rfl⟩
  go_wp2_with fail
  refine (HA.out _).mono ?_
  rintro e w1 ⟨rfl, hb⟩
  have S1 := Lib.hid (HS.out.next hb)
  clear hb p0 p1 p2 p3 p4 p5 p6 p7 s0 s1 s2 s3
  have g4 := S1.out.kg.m4
  have g5 := S1.out.kg.m5
  have f4 := S1.out.kg.free 4
  have f5 := S1.out.kg.free 5
  simp only at g4 g5
  cases r
  · go_wp2_with fail
    have S2 := Lib.hid (S1.out.put 4 5 (.int .i64 k.e) (.int .i64 k.f) k rfl)
    clear g4 g5 f4 f5
    generalize World.setCell (World.setCell _ _ _) _ _ = W at S2 ⊢
    have g0 := S2.out.kg.m0
    have g1 := S2.out.kg.m1
    have g2 := S2.out.kg.m2
    have g3 := S2.out.kg.m3
    have g4 := S2.out.kg.m4
    have g5 := S2.out.kg.m5
    have z0 := S2.out.kr.m0
    have z1 := S2.out.kr.m1
    have z2 := S2.out.kr.m2
    have z3 := S2.out.kr.m3
    have z4 := S2.out.kr.m4
    have z5 := S2.out.kr.m5
    have f0 := S2.out.kr.free 0
    have f1 := S2.out.kr.free 1
    have f2 := S2.out.kr.free 2
    have f3 := S2.out.kr.free 3
    have f4 := S2.out.kr.free 4
    have f5 := S2.out.kr.free 5
    simp only at z0 z1 z2 z3 z4 z5
    go_region
    go_wp2_with fail
    exact bodyPost_ret (results_rb 4 5 rfl rfl rfl (S2.out.kr.setM k).drew) rfl ⟨rfl, below_drewN (below_six S2.out.below (by omega) _ _ _ _ _ _) 1⟩
  · go_wp2_with fail
    have S2 := Lib.hid (S1.out.put 4 5 (.int .i64 k.e) (.int .i64 k.f) k rfl)
    clear g4 g5 f4 f5
    generalize World.setCell (World.setCell _ _ _) _ _ = W at S2 ⊢
    have g0 := S2.out.kg.m0
    have g1 := S2.out.kg.m1
    have g2 := S2.out.kg.m2
    have g3 := S2.out.kg.m3
    have g4 := S2.out.kg.m4
    have g5 := S2.out.kg.m5
    have z0 := S2.out.kr.m0
    have z1 := S2.out.kr.m1
    have z2 := S2.out.kr.m2
    have z3 := S2.out.kr.m3
    have z4 := S2.out.kr.m4
    have z5 := S2.out.kr.m5
    have f0 := S2.out.kr.free 0
    have f1 := S2.out.kr.free 1
    have f2 := S2.out.kr.free 2
    have f3 := S2.out.kr.free 3
    have f4 := S2.out.kr.free 4
    have f5 := S2.out.kr.free 5
    simp only at z0 z1 z2 z3 z4 z5
    go_region_with (go_at_call 10; refine (HQ.out _).mono ?_; rintro e w' ⟨rfl, hb⟩; have S3 := Lib.hid (S2.out.drew.next hb); clear hb g0 g1 g2 g3 g4 g5 z0 z1 z2 z3 z4 z5 f0 f1 f2 f3 f4 f5; have g0 := S3.out.kg.m0; have g1 := S3.out.kg.m1; have g2 := S3.out.kg.m2; have g3 := S3.out.kg.m3; have g4 := S3.out.kg.m4; have g5 := S3.out.kg.m5; have z0 := S3.out.kr.m0; have f0 := S3.out.kr.free 0; have z1 := S3.out.kr.m1; have f1 := S3.out.kr.free 1; have z2 := S3.out.kr.m2; have f2 := S3.out.kr.free 2; have z3 := S3.out.kr.m3; have f3 := S3.out.kr.free 3; have z4 := S3.out.kr.m4; have f4 := S3.out.kr.free 4; have z5 := S3.out.kr.m5; have f5 := S3.out.kr.free 5; simp only at z0 z1 z2 z3 z4 z5)
    all_goals go_wp2_with fail
    all_goals exact bodyPost_ret (results_rb 4 5 rfl rfl rfl (S3.out.kr.setM k)) rfl ⟨rfl, below_six S3.out.below (by omega) _ _ _ _ _ _⟩
theorem refThen_c (m o : Mx) (w : World) (hm : rightI m = true) (ho : rightI o = true) : Calls Tryd.prog 17 #[.agg (six m), .agg (six o)] w fun e w' => e = .returned (.tuple #[.agg (six (thenI m o)), .bool ((room (thenI m o).e && room (thenI m o).f) && rightI (thenI m o))]) ∧ Below w.heap.size w w' := by
  obtain ⟨ha, hb, hc, hd, he, hf⟩ := right_iff.1 hm
  obtain ⟨ka, kb, kc, kd, ke, kf⟩ := right_iff.1 ho
  have q1 := prod_in _ _ 16777216 16777216 ka ha
  have q2 := prod_in _ _ 16777216 16777216 kc hb
  have q3 := prod_in _ _ 16777216 16777216 kb ha
  have q4 := prod_in _ _ 16777216 16777216 kd hb
  have q5 := prod_in _ _ 16777216 16777216 ka hc
  have q6 := prod_in _ _ 16777216 16777216 kc hd
  have q7 := prod_in _ _ 16777216 16777216 kb hc
  have q8 := prod_in _ _ 16777216 16777216 kd hd
  refine refThen_walk m o (thenI m o) w _ _ (wrap64_in _ (by omega) (by omega)) (wrap64_in _ (by omega) (by omega)) (wrap64_in _ (by omega) (by omega)) (wrap64_in _ (by omega) (by omega)) (wrap64_in _ (by omega) (by omega)) (wrap64_in _ (by omega) (by omega)) (wrap64_in _ (by omega) (by omega)) (wrap64_in _ (by omega) (by omega)) (wrap64_in _ (by omega) (by omega)) (wrap64_in _ (by omega) (by omega)) (wrap64_in _ (by omega) (by omega)) (wrap64_in _ (by omega) (by omega)) (Lib.hid fun w => ?_) (Lib.hid fun w => ?_) (Lib.hid fun w => ?_) (Lib.hid fun w => ?_) (Lib.hid fun w => refApply_c o m.e m.f w ho he hf) (Lib.hid (refRight_c (thenI m o)))
  · exact (round_c _ (by omega) (by omega) w).mono fun _ _ ⟨a, b⟩ => ⟨a, b.symm⟩
  · exact (round_c _ (by omega) (by omega) w).mono fun _ _ ⟨a, b⟩ => ⟨a, b.symm⟩
  · exact (round_c _ (by omega) (by omega) w).mono fun _ _ ⟨a, b⟩ => ⟨a, b.symm⟩
  · exact (round_c _ (by omega) (by omega) w).mono fun _ _ ⟨a, b⟩ => ⟨a, b.symm⟩
end Go.Proofs.YticoklfgmflidaaDoor
