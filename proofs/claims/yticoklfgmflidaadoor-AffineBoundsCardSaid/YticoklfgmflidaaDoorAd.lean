/- Layer 4: Then. -/
import Derived.Test.YticoklfgmflidaaDoorAc
namespace Go.Proofs.YticoklfgmflidaaDoor
open Go.RowKit

abbrev zeroM : Mx := ⟨0, 0, 0, 0, 0, 0⟩
def thenI (m o : Mx) : Mx := ⟨turnX o m.a m.b, turnY o m.a m.b, turnX o m.c m.d, turnY o m.c m.d, turnX o m.e m.f + o.e, turnY o m.e m.f + o.f⟩
def thOk (m o : Mx) : Bool := rightI m && rightI o && rightI (thenI m o)
structure ThS (n : Nat) (w W : World) (m o : Mx) : Prop where
  below : Below n w W
  km : Blk W n 23 (six m)
  ko : Blk W (n + 1) 23 (six o)
  kr : Blk W (n + 2) 23 (six zeroM)
theorem ThS.next {n : Nat} {w W W' : World} {m o : Mx} (h : ThS n w W m o) (k : Below W.heap.size W W') : ThS n w W' m o :=
  ⟨h.below.trans (k.mono (by have := h.km.lt; omega)), h.km.grow k, h.ko.grow k, h.kr.grow k⟩
theorem ThS.start (w : World) (m o : Mx) : ThS w.heap.size w (((w.alloc (.cells (six m) 23)).alloc (.cells (six o) 23)).alloc (.cells (six zeroM) 23)) m o :=
  ⟨(((Below.refl _ _).alloc (Nat.le_refl _) _).alloc (by simp) _).alloc (by simp; omega) _, ((Blk.newAt _ _ _ rfl).alloc _).alloc _, (Blk.newAt _ _ _ (by simp)).alloc _, Blk.newAt _ _ _ (by simp)⟩
/-- And the join as far as it is made. -/
structure ThT (n g : Nat) (w W : World) (m o k : Mx) : Prop where
  s : ThS n w W m o
  kg : Blk W g 23 (six k)
  hg : n + 2 < g
theorem ThT.next {n g : Nat} {w W W' : World} {m o k : Mx} (h : ThT n g w W m o k) (b : Below W.heap.size W W') : ThT n g w W' m o k :=
  ⟨h.s.next b, h.kg.grow b, h.hg⟩
theorem ThS.grown {n : Nat} {w W : World} {m o : Mx} (h : ThS n w W m o) : ThT n W.heap.size w (W.alloc (.cells (six zeroM) 23)) m o zeroM :=
  ⟨h.next ((Below.refl _ _).alloc (Nat.le_refl _) _), Blk.newAt _ _ _ rfl, h.kr.lt⟩
theorem ThT.put {n g : Nat} {w W : World} {m o k : Mx} (h : ThT n g w W m o k) (i j : Nat) (u v : Value) (k' : Mx) (e : ((six k).setIfInBounds i u).setIfInBounds j v = six k') : ThT n g w ((W.setCell ⟨g, i, none⟩ u).setCell ⟨g, j, none⟩ v) m o k' := by
  have hn : ∀ b, b ≤ n + 2 → b ≠ g := fun b hb => by have := h.hg; omega
  have hb : n ≤ g := by have := h.hg; omega
  refine ⟨⟨(h.s.below.setCell hb _).setCell hb _, ?_, ?_, ?_⟩, e ▸ (h.kg.set i u).set j v, h.hg⟩
  · exact (h.s.km.other _ _ (hn _ (by omega))).other _ _ (hn _ (by omega))
  · exact (h.s.ko.other _ _ (hn _ (by omega))).other _ _ (hn _ (by omega))
  · exact (h.s.kr.other _ _ (hn _ (by omega))).other _ _ (hn _ (by omega))
theorem ThT.drew {n g : Nat} {w W : World} {m o k : Mx} (h : ThT n g w W m o k) : ThT n g w W.drew m o k :=
  ⟨⟨below_drewN h.s.below 1, h.s.km, h.s.ko, h.s.kr⟩, h.kg, h.hg⟩
theorem Blk.setM {w : World} {g : Nat} {t : TypeId} {b : Mx} (h : Blk w g t (six b)) (c : Mx) : Blk ((((((w.setCell ⟨g, 0, none⟩ (.int .i64 c.a)).setCell ⟨g, 1, none⟩ (.int .i64 c.b)).setCell ⟨g, 2, none⟩ (.int .i64 c.c)).setCell ⟨g, 3, none⟩ (.int .i64 c.d)).setCell ⟨g, 4, none⟩ (.int .i64 c.e)).setCell ⟨g, 5, none⟩ (.int .i64 c.f)) g t (six c) := (((((h.set 0 _).set 1 _).set 2 _).set 3 _).set 4 _).set 5 _
theorem below_six {w w' : World} {B g : Nat} (h : Below B w w') (hg : B ≤ g) (a b c d e f : Value) : Below B w ((((((w'.setCell ⟨g, 0, none⟩ a).setCell ⟨g, 1, none⟩ b).setCell ⟨g, 2, none⟩ c).setCell ⟨g, 3, none⟩ d).setCell ⟨g, 4, none⟩ e).setCell ⟨g, 5, none⟩ f) := (((((h.setCell hg _).setCell hg _).setCell hg _).setCell hg _).setCell hg _).setCell hg _
set_option maxHeartbeats 4000000 in
set_option maxRecDepth 100000 in
theorem then_walk (m o k : Mx) (X Y : Int) (w : World) (r p q : Bool)
    (HR : Hid (∀ w, Calls Tryd.prog 12 #[.agg #[.int .i64 m.a, .int .i64 m.b, .int .i64 m.c, .int .i64 m.d, .int .i64 m.e, .int .i64 m.f]] w fun e w' => e = .returned (.bool r) ∧ Below w.heap.size w w'))
    (HP : Hid (∀ w, Calls Tryd.prog 12 #[.agg #[.int .i64 o.a, .int .i64 o.b, .int .i64 o.c, .int .i64 o.d, .int .i64 o.e, .int .i64 o.f]] w fun e w' => e = .returned (.bool p) ∧ Below w.heap.size w w'))
    (HT : Hid (r = true → p = true →
      (∀ w, Calls Tryd.prog 32 #[.agg #[.int .i64 o.a, .int .i64 o.b, .int .i64 o.c, .int .i64 o.d, .int .i64 o.e, .int .i64 o.f], .int .i64 m.a, .int .i64 m.b] w fun e w' => e = .returned (.tuple #[.int .i64 k.a, .int .i64 k.b]) ∧ Below w.heap.size w w') ∧
      (∀ w, Calls Tryd.prog 32 #[.agg #[.int .i64 o.a, .int .i64 o.b, .int .i64 o.c, .int .i64 o.d, .int .i64 o.e, .int .i64 o.f], .int .i64 m.c, .int .i64 m.d] w fun e w' => e = .returned (.tuple #[.int .i64 k.c, .int .i64 k.d]) ∧ Below w.heap.size w w') ∧
      (∀ w, Calls Tryd.prog 32 #[.agg #[.int .i64 o.a, .int .i64 o.b, .int .i64 o.c, .int .i64 o.d, .int .i64 o.e, .int .i64 o.f], .int .i64 m.e, .int .i64 m.f] w fun e w' => e = .returned (.tuple #[.int .i64 X, .int .i64 Y]) ∧ Below w.heap.size w w') ∧
      wrap64 (X + o.e) = k.e ∧ wrap64 (Y + o.f) = k.f))
    (HQ : Hid (∀ w, Calls Tryd.prog 12 #[.agg #[.int .i64 k.a, .int .i64 k.b, .int .i64 k.c, .int .i64 k.d, .int .i64 k.e, .int .i64 k.f]] w fun e w' => e = .returned (.bool q) ∧ Below w.heap.size w w')) :
    Calls Tryd.prog 16 #[.agg (six m), .agg (six o)] w fun e w' => e = .returned (.tuple #[.agg (six (if r && p && q then k else zeroM)), .int .i64 (if r && p && q then 0 else 10)]) ∧ Below w.heap.size w w' := by
  have HS := Lib.hid (ThS.start w m o)
  obtain ⟨n, hn⟩ : ∃ n, w.heap.size = n := ⟨_, rfl⟩
  rw [hn] at HS ⊢
  cases r
  · go_enter Tryd.func16, Tryd.ntmps16
    go_wp2_with fail
    refine (HR.out _).mono ?_
    rintro e w1 ⟨rfl, hb⟩
    have S1 := Lib.hid (HS.out.next hb)
    clear hb
    have z0 := S1.out.kr.m0
    have z1 := S1.out.kr.m1
    have z2 := S1.out.kr.m2
    have z3 := S1.out.kr.m3
    have z4 := S1.out.kr.m4
    have z5 := S1.out.kr.m5
    have f0 := S1.out.kr.free 0
    have f1 := S1.out.kr.free 1
    have f2 := S1.out.kr.free 2
    have f3 := S1.out.kr.free 3
    have f4 := S1.out.kr.free 4
    have f5 := S1.out.kr.free 5
    simp only at z0 z1 z2 z3 z4 z5
    go_wp2_with fail
    exact bodyPost_ret (results_me 4 5 rfl rfl rfl (S1.out.kr.setM zeroM)) rfl ⟨rfl, below_six S1.out.below (by omega) _ _ _ _ _ _⟩
  · cases p
    · go_enter Tryd.func16, Tryd.ntmps16
      go_wp2_with fail
      refine (HR.out _).mono ?_
      rintro e w1 ⟨rfl, hb⟩
      have S1 := Lib.hid (HS.out.next hb)
      clear hb
      have o0 := S1.out.ko.m0
      have o1 := S1.out.ko.m1
      have o2 := S1.out.ko.m2
      have o3 := S1.out.ko.m3
      have o4 := S1.out.ko.m4
      have o5 := S1.out.ko.m5
      go_wp2_with fail
      refine (HP.out _).mono ?_
      rintro e w2 ⟨rfl, hb⟩
      have S2 := Lib.hid (S1.out.next hb)
      clear hb
      clear o0 o1 o2 o3 o4 o5
      have z0 := S2.out.kr.m0
      have z1 := S2.out.kr.m1
      have z2 := S2.out.kr.m2
      have z3 := S2.out.kr.m3
      have z4 := S2.out.kr.m4
      have z5 := S2.out.kr.m5
      have f0 := S2.out.kr.free 0
      have f1 := S2.out.kr.free 1
      have f2 := S2.out.kr.free 2
      have f3 := S2.out.kr.free 3
      have f4 := S2.out.kr.free 4
      have f5 := S2.out.kr.free 5
      simp only at z0 z1 z2 z3 z4 z5
      go_wp2_with fail
      exact bodyPost_ret (results_me 4 5 rfl rfl rfl (S2.out.kr.setM zeroM)) rfl ⟨rfl, below_six S2.out.below (by omega) _ _ _ _ _ _⟩
    · obtain ⟨ht1, ht2, ht3, we, wf⟩ := HT.out rfl rfl
      have HT1 := Lib.hid ht1
      have HT2 := Lib.hid ht2
      have HT3 := Lib.hid ht3
      clear ht1 ht2 ht3 HT
      go_enter Tryd.func16, Tryd.ntmps16
      go_wp2_with fail
      refine (HR.out _).mono ?_
      rintro e w1 ⟨rfl, hb⟩
      have S1 := Lib.hid (HS.out.next hb)
      clear hb
      have o0 := S1.out.ko.m0
      have o1 := S1.out.ko.m1
      have o2 := S1.out.ko.m2
      have o3 := S1.out.ko.m3
      have o4 := S1.out.ko.m4
      have o5 := S1.out.ko.m5
      go_wp2_with fail
      refine (HP.out _).mono ?_
      rintro e w2 ⟨rfl, hb⟩
      have S2 := Lib.hid (S1.out.next hb)
      clear hb
      clear o0 o1 o2 o3 o4 o5
      have o0 := S2.out.ko.m0
      have o1 := S2.out.ko.m1
      have o2 := S2.out.ko.m2
      have o3 := S2.out.ko.m3
      have o4 := S2.out.ko.m4
      have o5 := S2.out.ko.m5
      have m0 := S2.out.km.m0
      have m1 := S2.out.km.m1
      have l0 := S2.out.km.lt
      have l1 := S2.out.ko.lt
      have T2 := Lib.hid S2.out.grown
      go_wp2_with fail
      refine (HT1.out _).mono ?_
      rintro e w3 ⟨rfl, hb⟩
      have T3 := Lib.hid (T2.out.next hb)
      clear hb
      clear o0 o1 o2 o3 o4 o5
      clear m0 m1 l0 l1
      generalize w2.heap.size = g at *
      have g0 := T3.out.kg.m0
      have g1 := T3.out.kg.m1
      have f0 := T3.out.kg.free 0
      have f1 := T3.out.kg.free 1
      simp only at g0 g1
      have hg := T3.out.hg
      have o0 := T3.out.s.ko.m0
      have o1 := T3.out.s.ko.m1
      have o2 := T3.out.s.ko.m2
      have o3 := T3.out.s.ko.m3
      have o4 := T3.out.s.ko.m4
      have o5 := T3.out.s.ko.m5
      have m2 := T3.out.s.km.m2
      have m3 := T3.out.s.km.m3
      have T4 := Lib.hid (T3.out.put 0 1 (.int .i64 k.a) (.int .i64 k.b) ⟨k.a, k.b, 0, 0, 0, 0⟩ rfl)
      have x0 : n + 1 ≠ g := by omega
      have x1 : n ≠ g := by omega
      go_wp2_with fail
      refine (HT2.out _).mono ?_
      rintro e w4 ⟨rfl, hb⟩
      have T5 := Lib.hid (T4.out.next hb)
      clear hb
      clear o0 o1 o2 o3 o4 o5
      clear m2 m3 g0 g1 f0 f1
      have g2 := T5.out.kg.m2
      have g3 := T5.out.kg.m3
      have f2 := T5.out.kg.free 2
      have f3 := T5.out.kg.free 3
      simp only at g2 g3
      have o0 := T5.out.s.ko.m0
      have o1 := T5.out.s.ko.m1
      have o2 := T5.out.s.ko.m2
      have o3 := T5.out.s.ko.m3
      have o4 := T5.out.s.ko.m4
      have o5 := T5.out.s.ko.m5
      have m4 := T5.out.s.km.m4
      have m5 := T5.out.s.km.m5
      have T6 := Lib.hid (T5.out.put 2 3 (.int .i64 k.c) (.int .i64 k.d) ⟨k.a, k.b, k.c, k.d, 0, 0⟩ rfl)
      go_wp2_with fail
      refine (HT3.out _).mono ?_
      rintro e w5 ⟨rfl, hb⟩
      have T7 := Lib.hid (T6.out.next hb)
      clear hb
      clear o0 o1 o2 o3 o4 o5
      clear m4 m5 g2 g3 f2 f3
      have g4 := T7.out.kg.m4
      have g5 := T7.out.kg.m5
      have f4 := T7.out.kg.free 4
      have f5 := T7.out.kg.free 5
      simp only at g4 g5
      have o4 := T7.out.s.ko.m4
      have o5 := T7.out.s.ko.m5
      go_wp2_with fail
      go_region
      have T8 := Lib.hid (T7.out.put 4 5 (.int .i64 k.e) (.int .i64 k.f) k rfl).drew
      clear o4 o5 g4 g5 f4 f5
      generalize World.drew _ = W at T8 ⊢
      have g0 := T8.out.kg.m0
      have g1 := T8.out.kg.m1
      have g2 := T8.out.kg.m2
      have g3 := T8.out.kg.m3
      have g4 := T8.out.kg.m4
      have g5 := T8.out.kg.m5
      go_wp2_with fail
      refine (HQ.out _).mono ?_
      rintro e w9 ⟨rfl, hb⟩
      have T9 := Lib.hid (T8.out.next hb)
      clear g0 g1 g2 g3 g4 g5 hb
      have z0 := T9.out.s.kr.m0
      have z1 := T9.out.s.kr.m1
      have z2 := T9.out.s.kr.m2
      have z3 := T9.out.s.kr.m3
      have z4 := T9.out.s.kr.m4
      have z5 := T9.out.s.kr.m5
      have f0 := T9.out.s.kr.free 0
      have f1 := T9.out.s.kr.free 1
      have f2 := T9.out.s.kr.free 2
      have f3 := T9.out.s.kr.free 3
      have f4 := T9.out.s.kr.free 4
      have f5 := T9.out.s.kr.free 5
      simp only at z0 z1 z2 z3 z4 z5
      cases q
      · go_wp2_with fail
        exact bodyPost_ret (results_me 4 5 rfl rfl rfl (T9.out.s.kr.setM zeroM)) rfl ⟨rfl, below_six T9.out.s.below (by omega) _ _ _ _ _ _⟩
      · have g0 := T9.out.kg.m0
        have g1 := T9.out.kg.m1
        have g2 := T9.out.kg.m2
        have g3 := T9.out.kg.m3
        have g4 := T9.out.kg.m4
        have g5 := T9.out.kg.m5
        go_wp2_with fail
        exact bodyPost_ret (results_me 4 5 rfl rfl rfl (T9.out.s.kr.setM k)) rfl ⟨rfl, below_six T9.out.s.below (by omega) _ _ _ _ _ _⟩
theorem then_c (m o : Mx) (w : World) : Calls Tryd.prog 16 #[.agg (six m), .agg (six o)] w fun e w' => e = .returned (.tuple #[.agg (six (if thOk m o then thenI m o else zeroM)), .int .i64 (if thOk m o then 0 else 10)]) ∧ Below w.heap.size w w' := by
  refine then_walk m o (thenI m o) (turnX o m.e m.f) (turnY o m.e m.f) w (rightI m) (rightI o) (rightI (thenI m o)) (Lib.hid (right_c m)) (Lib.hid (right_c o)) (Lib.hid fun h k => ?_) (Lib.hid (right_c _))
  obtain ⟨ha, hb, hc, hd, he, hf⟩ := right_iff.1 h
  obtain ⟨ka, kb, kc, kd, ke, kf⟩ := right_iff.1 k
  have h1 := turnX_in o m.e m.f ka kc he hf
  have h2 := turnY_in o m.e m.f kb kd he hf
  refine ⟨fun w => turn_c o m.a m.b w ka kb kc kd (by omega) (by omega), fun w => turn_c o m.c m.d w ka kb kc kd (by omega) (by omega), fun w => turn_c o m.e m.f w ka kb kc kd he hf, ?_, ?_⟩
  · unfold thenI wrap64; dsimp only; omega
  · unfold thenI wrap64; dsimp only; omega
end Go.Proofs.YticoklfgmflidaaDoor
