/- Layer 4: Apply. -/
import Derived.Test.YticoklfgmflidaaDoorAb
namespace Go.Proofs.YticoklfgmflidaaDoor
open Go.RowKit

theorem results_pe {fn : Func} {tmps : Array Value} {w : World} {g : Nat} {x y e : Int} (t s : Nat) (hres : fn.results = #[.cell t 25, .tmp s]) (ht : tmps[t]? = some (.pointer (some ⟨g, 0, none⟩))) (hs : tmps[s]? = some (.int .i64 e)) (h : Blk w g 25 (two (x, y))) :
    (results fn tmps).run Tryd.prog w = .ok (.tuple #[.agg #[.int .i64 x, .int .i64 y], .int .i64 e]) w := by
  have h0 := h.p0
  have h1 := h.p1
  simp [results, hres, ht, hs, go_sem, h0, h1]
theorem results_me {fn : Func} {tmps : Array Value} {w : World} {g : Nat} {m : Mx} {e : Int} (t s : Nat) (hres : fn.results = #[.cell t 23, .tmp s]) (ht : tmps[t]? = some (.pointer (some ⟨g, 0, none⟩))) (hs : tmps[s]? = some (.int .i64 e)) (h : Blk w g 23 (six m)) :
    (results fn tmps).run Tryd.prog w = .ok (.tuple #[.agg (six m), .int .i64 e]) w := by
  have h0 := h.m0
  have h1 := h.m1
  have h2 := h.m2
  have h3 := h.m3
  have h4 := h.m4
  have h5 := h.m5
  simp [results, hres, ht, hs, go_sem, h0, h1, h2, h3, h4, h5]
/-- A point that a matrix makes of one, if it is OK. -/
def apX (m : Mx) (x y : Int) : Int := turnX m x y + m.e
def apY (m : Mx) (x y : Int) : Int := turnY m x y + m.f
def apOk (m : Mx) (x y : Int) : Bool := rightI m && (room x && room y) && (room (apX m x y) && room (apY m x y))
/-- What lies in memory. -/
structure ApS (n : Nat) (w W : World) (m : Mx) (x y : Int) : Prop where
  below : Below n w W
  km : Blk W n 23 (six m)
  kp : Blk W (n + 1) 25 (two (x, y))
  kr : Blk W (n + 2) 25 (two (0, 0))
theorem ApS.next {n : Nat} {w W W' : World} {m : Mx} {x y : Int} (h : ApS n w W m x y) (k : Below W.heap.size W W') : ApS n w W' m x y :=
  ⟨h.below.trans (k.mono (by have := h.km.lt; omega)), h.km.grow k, h.kp.grow k, h.kr.grow k⟩
theorem ApS.start (w : World) (m : Mx) (x y : Int) : ApS w.heap.size w (((w.alloc (.cells (six m) 23)).alloc (.cells (two (x, y)) 25)).alloc (.cells (two (0, 0)) 25)) m x y :=
  ⟨(((Below.refl _ _).alloc (Nat.le_refl _) _).alloc (by simp) _).alloc (by simp; omega) _, ((Blk.newAt _ _ _ rfl).alloc _).alloc _, (Blk.newAt _ _ _ (by simp)).alloc _, Blk.newAt _ _ _ (by simp)⟩
set_option maxHeartbeats 2000000 in
set_option maxRecDepth 100000 in
theorem apply_walk (m : Mx) (x y X Y : Int) (w : World) (r p q : Bool)
    (HR : Hid (∀ w, Calls Tryd.prog 12 #[.agg #[.int .i64 m.a, .int .i64 m.b, .int .i64 m.c, .int .i64 m.d, .int .i64 m.e, .int .i64 m.f]] w fun e w' => e = .returned (.bool r) ∧ Below w.heap.size w w'))
    (HP : Hid (∀ w, Calls Tryd.prog 31 #[.agg #[.int .i64 x, .int .i64 y]] w fun e w' => e = .returned (.bool p) ∧ Below w.heap.size w w'))
    (HT : Hid (r = true → p = true → (∀ w, Calls Tryd.prog 32 #[.agg #[.int .i64 m.a, .int .i64 m.b, .int .i64 m.c, .int .i64 m.d, .int .i64 m.e, .int .i64 m.f], .int .i64 x, .int .i64 y] w fun e w' => e = .returned (.tuple #[.int .i64 X, .int .i64 Y]) ∧ Below w.heap.size w w') ∧ wrap64 (X + m.e) = X + m.e ∧ wrap64 (Y + m.f) = Y + m.f))
    (HQ : Hid (∀ w, Calls Tryd.prog 31 #[.agg #[.int .i64 (X + m.e), .int .i64 (Y + m.f)]] w fun e w' => e = .returned (.bool q) ∧ Below w.heap.size w w')) :
    Calls Tryd.prog 9 #[.agg (six m), .agg #[.int .i64 x, .int .i64 y]] w fun e w' => e = .returned (.tuple #[.agg #[.int .i64 (if r && p && q then X + m.e else 0), .int .i64 (if r && p && q then Y + m.f else 0)], .int .i64 (if r && p && q then 0 else 10)]) ∧ Below w.heap.size w w' := by
  have HS := Lib.hid (ApS.start w m x y)
  obtain ⟨n, hn⟩ : ∃ n, w.heap.size = n := ⟨_, rfl⟩
  rw [hn] at HS ⊢
  cases r
  · go_enter Tryd.func9, Tryd.ntmps9
    go_wp2_with fail
    refine (HR.out _).mono ?_
    rintro e w1 ⟨rfl, hb⟩
    have S1 := Lib.hid (HS.out.next hb)
    clear hb
    have z0 := S1.out.kr.p0
    have z1 := S1.out.kr.p1
    have f0 := S1.out.kr.free 0
    have f1 := S1.out.kr.free 1
    go_wp2_with fail
    exact bodyPost_ret (results_pe 4 5 rfl rfl rfl (S1.out.kr.setP 0 0)) rfl ⟨rfl, below_two S1.out.below (by omega) _ _⟩
  · cases p
    · go_enter Tryd.func9, Tryd.ntmps9
      go_wp2_with fail
      refine (HR.out _).mono ?_
      rintro e w1 ⟨rfl, hb⟩
      have S1 := Lib.hid (HS.out.next hb)
      clear hb
      have p0 := S1.out.kp.p0
      have p1 := S1.out.kp.p1
      go_wp2_with fail
      refine (HP.out _).mono ?_
      rintro e w2 ⟨rfl, hb⟩
      have S2 := Lib.hid (S1.out.next hb)
      clear hb
      clear p0 p1
      have z0 := S2.out.kr.p0
      have z1 := S2.out.kr.p1
      have f0 := S2.out.kr.free 0
      have f1 := S2.out.kr.free 1
      go_wp2_with fail
      exact bodyPost_ret (results_pe 4 5 rfl rfl rfl (S2.out.kr.setP 0 0)) rfl ⟨rfl, below_two S2.out.below (by omega) _ _⟩
    · obtain ⟨ht, wx, wy⟩ := HT.out rfl rfl
      have HT1 := Lib.hid ht
      clear ht HT
      go_enter Tryd.func9, Tryd.ntmps9
      go_wp2_with fail
      refine (HR.out _).mono ?_
      rintro e w1 ⟨rfl, hb⟩
      have S1 := Lib.hid (HS.out.next hb)
      clear hb
      have p0 := S1.out.kp.p0
      have p1 := S1.out.kp.p1
      go_wp2_with fail
      refine (HP.out _).mono ?_
      rintro e w2 ⟨rfl, hb⟩
      have S2 := Lib.hid (S1.out.next hb)
      clear hb
      clear p0 p1
      have m0 := S2.out.km.m0
      have m1 := S2.out.km.m1
      have m2 := S2.out.km.m2
      have m3 := S2.out.km.m3
      have m4 := S2.out.km.m4
      have m5 := S2.out.km.m5
      have p0 := S2.out.kp.p0
      have p1 := S2.out.kp.p1
      go_wp2_with fail
      refine (HT1.out _).mono ?_
      rintro e w3 ⟨rfl, hb⟩
      have S3 := Lib.hid (S2.out.next hb)
      clear hb
      clear m0 m1 m2 m3 m4 m5 p0 p1
      have m4 := S3.out.km.m4
      have m5 := S3.out.km.m5
      go_wp2_with fail
      refine (HQ.out _).mono ?_
      rintro e w4 ⟨rfl, hb⟩
      have S4 : Hid (ApS n w w4 m x y) := ((S3.out.next ((Below.refl _ _).alloc (Nat.le_refl _) _)).next hb)
      have q0 := Blk.grow (Blk.newAt w3 25 (two (X + m.e, Y + m.f)) rfl) hb
      have q1 := q0.p0
      have q2 := q0.p1
      clear q0 hb m4 m5
      have z0 := S4.out.kr.p0
      have z1 := S4.out.kr.p1
      have f0 := S4.out.kr.free 0
      have f1 := S4.out.kr.free 1
      cases q
      · go_wp2_with fail
        exact bodyPost_ret (results_pe 4 5 rfl rfl rfl (S4.out.kr.setP 0 0)) rfl ⟨rfl, below_two S4.out.below (by omega) _ _⟩
      · go_wp2_with fail
        exact bodyPost_ret (results_pe 4 5 rfl rfl rfl (S4.out.kr.setP (X + m.e) (Y + m.f))) rfl ⟨rfl, below_two S4.out.below (by omega) _ _⟩
theorem apply_c (m : Mx) (x y : Int) (w : World) : Calls Tryd.prog 9 #[.agg (six m), .agg #[.int .i64 x, .int .i64 y]] w fun e w' => e = .returned (.tuple #[.agg #[.int .i64 (if apOk m x y then apX m x y else 0), .int .i64 (if apOk m x y then apY m x y else 0)], .int .i64 (if apOk m x y then 0 else 10)]) ∧ Below w.heap.size w w' := by
  refine apply_walk m x y (turnX m x y) (turnY m x y) w (rightI m) (room x && room y) (room (apX m x y) && room (apY m x y)) (Lib.hid (right_c m)) (Lib.hid (ptIn_c x y)) (Lib.hid fun h k => ?_) (Lib.hid (ptIn_c _ _))
  obtain ⟨ha, hb, hc, hd, he, hf⟩ := right_iff.1 h
  rw [Bool.and_eq_true, room_iff, room_iff] at k
  have h1 := turnX_in m x y ha hc k.1 k.2
  have h2 := turnY_in m x y hb hd k.1 k.2
  refine ⟨fun w => turn_c m x y w ha hb hc hd k.1 k.2, ?_, ?_⟩
  · unfold wrap64; omega
  · unfold wrap64; omega
end Go.Proofs.YticoklfgmflidaaDoor
