/- Layer 6: of layer 4: Right, turn, Apply of a matrix. -/
import Derived.Test.YtffgpikhahpomaaDoorB
import Derived.WalkSmall
import Derived.Deep.QuietTactic
namespace Go.Proofs.YtffgpikhahpomaaDoor
open Go.RowKit

structure Mx where
  a : Int
  b : Int
  c : Int
  d : Int
  e : Int
  f : Int
abbrev six (m : Mx) : Array Value := #[.int .i64 m.a, .int .i64 m.b, .int .i64 m.c, .int .i64 m.d, .int .i64 m.e, .int .i64 m.f]
def ent (x : Int) : Bool := decide (-16777216 ≤ x) && decide (x ≤ 16777216)
theorem ent_iff {x : Int} : ent x = true ↔ -16777216 ≤ x ∧ x ≤ 16777216 := by simp [ent]
def rightI (m : Mx) : Bool := ent m.a && ent m.b && ent m.c && ent m.d && room m.e && room m.f
theorem right_iff {m : Mx} : rightI m = true ↔ (-16777216 ≤ m.a ∧ m.a ≤ 16777216) ∧ (-16777216 ≤ m.b ∧ m.b ≤ 16777216) ∧ (-16777216 ≤ m.c ∧ m.c ≤ 16777216) ∧ (-16777216 ≤ m.d ∧ m.d ≤ 16777216) ∧ (-2147483648 ≤ m.e ∧ m.e ≤ 2147483648) ∧ (-2147483648 ≤ m.f ∧ m.f ≤ 2147483648) := by
  simp only [rightI, Bool.and_eq_true, ent_iff, room_iff, and_assoc]
/-- A matrix in memory. -/
theorem Blk.m0 {w : World} {g : Nat} {t : TypeId} {m : Mx} (h : Blk w g t (six m)) : w.cell? ⟨g, 0, none⟩ = some (.int .i64 m.a) := h.cell 0
theorem Blk.m1 {w : World} {g : Nat} {t : TypeId} {m : Mx} (h : Blk w g t (six m)) : w.cell? ⟨g, 1, none⟩ = some (.int .i64 m.b) := h.cell 1
theorem Blk.m2 {w : World} {g : Nat} {t : TypeId} {m : Mx} (h : Blk w g t (six m)) : w.cell? ⟨g, 2, none⟩ = some (.int .i64 m.c) := h.cell 2
theorem Blk.m3 {w : World} {g : Nat} {t : TypeId} {m : Mx} (h : Blk w g t (six m)) : w.cell? ⟨g, 3, none⟩ = some (.int .i64 m.d) := h.cell 3
theorem Blk.m4 {w : World} {g : Nat} {t : TypeId} {m : Mx} (h : Blk w g t (six m)) : w.cell? ⟨g, 4, none⟩ = some (.int .i64 m.e) := h.cell 4
theorem Blk.m5 {w : World} {g : Nat} {t : TypeId} {m : Mx} (h : Blk w g t (six m)) : w.cell? ⟨g, 5, none⟩ = some (.int .i64 m.f) := h.cell 5
theorem isEntry_c (x : Int) (w : World) : Calls Tryd.prog 48 #[.int .i64 x] w fun e w' => e = .returned (.bool (ent x)) ∧ w = w' := by
  by_cases h : -16777216 ≤ x
  · go_enter Tryd.func48, Tryd.ntmps48
    go_wp2
    go_ret
    exact ⟨by simp [ent, h], rfl⟩
  · go_enter Tryd.func48, Tryd.ntmps48
    go_wp2
    go_ret
    exact ⟨by simp [ent]; omega, rfl⟩
/-- Sixteen bits less, to the nearest. -/
def near16 (n : Int) : Int := (n + 32768) / 65536
theorem nearest_c (n : Int) (h0 : -288230376151711744 ≤ n) (h1 : n ≤ 288230376151711744) (w : World) : Calls Tryd.prog 61 #[.int .i64 n] w fun e w' => e = .returned (.int .i64 (near16 n)) ∧ w = w' := by
  go_enter Tryd.func61, Tryd.ntmps61
  go_wp2
  go_ret
  exact ⟨retI (by unfold near16; first | rfl | (unfold wrap64; omega)), rfl⟩
set_option maxHeartbeats 1000000 in
theorem right_c (m : Mx) (w : World) : Calls Tryd.prog 28 #[.agg (six m)] w fun e w' => e = .returned (.bool (rightI m)) ∧ Below w.heap.size w w' := by
  obtain ⟨a, b, c, d, e, f⟩ := m
  unfold rightI
  go_enter Tryd.func28, Tryd.ntmps28
  go_wp2_with (first | (go_at_call 48; refine (isEntry_c _ _).mono ?_; rintro e w' ⟨rfl, rfl⟩) | (go_at_call 49; refine (fixedIn_c _ _).mono ?_; rintro e w' ⟨rfl, rfl⟩))
  all_goals go_ret
  all_goals exact ⟨by simp [*], by go_grown⟩

theorem prod_in (a x A X : Int) (ha : -A ≤ a ∧ a ≤ A) (hx : -X ≤ x ∧ x ≤ X) : -(A * X) ≤ a * x ∧ a * x ≤ A * X := by
  have h1 : a.natAbs ≤ A.natAbs := by omega
  have h2 : x.natAbs ≤ X.natAbs := by omega
  have h3 := Nat.mul_le_mul h1 h2
  rw [← Int.natAbs_mul, ← Int.natAbs_mul] at h3
  have h4 : 0 ≤ A * X := Int.mul_nonneg (by omega) (by omega)
  omega
def turnX (m : Mx) (x y : Int) : Int := near16 (m.a * x + m.c * y)
def turnY (m : Mx) (x y : Int) : Int := near16 (m.b * x + m.d * y)
set_option maxHeartbeats 400000 in
theorem turn_walk (a b c d e f x y : Int) (w : World) (h1 : -36028797018963968 ≤ a * x ∧ a * x ≤ 36028797018963968) (h2 : -36028797018963968 ≤ c * y ∧ c * y ≤ 36028797018963968)
    (h3 : -36028797018963968 ≤ b * x ∧ b * x ≤ 36028797018963968) (h4 : -36028797018963968 ≤ d * y ∧ d * y ≤ 36028797018963968) :
    Calls Tryd.prog 51 #[.agg #[.int .i64 a, .int .i64 b, .int .i64 c, .int .i64 d, .int .i64 e, .int .i64 f], .int .i64 x, .int .i64 y] w fun r w' => r = .returned (.tuple #[.int .i64 (near16 (a * x + c * y)), .int .i64 (near16 (b * x + d * y))]) ∧ Below w.heap.size w w' := by
  obtain ⟨p, hp⟩ : ∃ p, a * x = p := ⟨_, rfl⟩
  obtain ⟨q, hq⟩ : ∃ q, c * y = q := ⟨_, rfl⟩
  obtain ⟨r, hr⟩ : ∃ r, b * x = r := ⟨_, rfl⟩
  obtain ⟨s, hs⟩ : ∃ s, d * y = s := ⟨_, rfl⟩
  have e1 : wrap64 (a * x) = a * x := by unfold wrap64; omega
  have e2 : wrap64 (c * y) = c * y := by unfold wrap64; omega
  have e3 : wrap64 (b * x) = b * x := by unfold wrap64; omega
  have e4 : wrap64 (d * y) = d * y := by unfold wrap64; omega
  have e5 : wrap64 (a * x + c * y) = a * x + c * y := by unfold wrap64; omega
  have e6 : wrap64 (b * x + d * y) = b * x + d * y := by unfold wrap64; omega
  have HN := Lib.hid (fun w => nearest_c (a * x + c * y) (by omega) (by omega) w)
  have HM := Lib.hid (fun w => nearest_c (b * x + d * y) (by omega) (by omega) w)
  clear hp hq hr hs h1 h2 h3 h4
  go_enter Tryd.func51, Tryd.ntmps51
  go_wp2_with fail
  go_quiet (first | exact Calls.quiet_of_same ((HN.out _).mono fun _ _ ⟨he, hw⟩ => ⟨he, hw.symm⟩) | exact Calls.quiet_of_same ((HM.out _).mono fun _ _ ⟨he, hw⟩ => ⟨he, hw.symm⟩))
  go_wp2_with fail
  go_ret2
  exact ⟨rfl, below_drewN ((Below.refl _ _).alloc (Nat.le_refl _) _) _⟩
/-- What turn tells: of entries and numbers that are not too great. -/
theorem turn_c (m : Mx) (x y : Int) (w : World) (ha : -16777216 ≤ m.a ∧ m.a ≤ 16777216) (hb : -16777216 ≤ m.b ∧ m.b ≤ 16777216) (hc : -16777216 ≤ m.c ∧ m.c ≤ 16777216) (hd : -16777216 ≤ m.d ∧ m.d ≤ 16777216) (hx : -2147483648 ≤ x ∧ x ≤ 2147483648) (hy : -2147483648 ≤ y ∧ y ≤ 2147483648) :
    Calls Tryd.prog 51 #[.agg (six m), .int .i64 x, .int .i64 y] w fun r w' => r = .returned (.tuple #[.int .i64 (turnX m x y), .int .i64 (turnY m x y)]) ∧ Below w.heap.size w w' :=
  turn_walk m.a m.b m.c m.d m.e m.f x y w (prod_in _ _ 16777216 2147483648 ha hx) (prod_in _ _ 16777216 2147483648 hc hy) (prod_in _ _ 16777216 2147483648 hb hx) (prod_in _ _ 16777216 2147483648 hd hy)
theorem near16_in (p q : Int) (hp : -36028797018963968 ≤ p ∧ p ≤ 36028797018963968) (hq : -36028797018963968 ≤ q ∧ q ≤ 36028797018963968) : -1099511627777 ≤ near16 (p + q) ∧ near16 (p + q) ≤ 1099511627777 := by
  unfold near16; omega
theorem turnX_in (m : Mx) (x y : Int) (ha : -16777216 ≤ m.a ∧ m.a ≤ 16777216) (hc : -16777216 ≤ m.c ∧ m.c ≤ 16777216) (hx : -2147483648 ≤ x ∧ x ≤ 2147483648) (hy : -2147483648 ≤ y ∧ y ≤ 2147483648) : -1099511627777 ≤ turnX m x y ∧ turnX m x y ≤ 1099511627777 :=
  near16_in _ _ (prod_in _ _ 16777216 2147483648 ha hx) (prod_in _ _ 16777216 2147483648 hc hy)
theorem turnY_in (m : Mx) (x y : Int) (hb : -16777216 ≤ m.b ∧ m.b ≤ 16777216) (hd : -16777216 ≤ m.d ∧ m.d ≤ 16777216) (hx : -2147483648 ≤ x ∧ x ≤ 2147483648) (hy : -2147483648 ≤ y ∧ y ≤ 2147483648) : -1099511627777 ≤ turnY m x y ∧ turnY m x y ≤ 1099511627777 :=
  near16_in _ _ (prod_in _ _ 16777216 2147483648 hb hx) (prod_in _ _ 16777216 2147483648 hd hy)

theorem results_pe {fn : Func} {tmps : Array Value} {w : World} {g : Nat} {x y e : Int} (t s : Nat) (hres : fn.results = #[.cell t 44, .tmp s]) (ht : tmps[t]? = some (.pointer (some ⟨g, 0, none⟩))) (hs : tmps[s]? = some (.int .i64 e)) (h : Blk w g 44 (two (x, y))) :
    (results fn tmps).run Tryd.prog w = .ok (.tuple #[.agg #[.int .i64 x, .int .i64 y], .int .i64 e]) w := by
  have h0 := h.p0
  have h1 := h.p1
  simp [results, hres, ht, hs, go_sem, h0, h1]
theorem results_me {fn : Func} {tmps : Array Value} {w : World} {g : Nat} {m : Mx} {e : Int} (t s : Nat) (hres : fn.results = #[.cell t 67, .tmp s]) (ht : tmps[t]? = some (.pointer (some ⟨g, 0, none⟩))) (hs : tmps[s]? = some (.int .i64 e)) (h : Blk w g 67 (six m)) :
    (results fn tmps).run Tryd.prog w = .ok (.tuple #[.agg (six m), .int .i64 e]) w := by
  have h0 := h.m0
  have h1 := h.m1
  have h2 := h.m2
  have h3 := h.m3
  have h4 := h.m4
  have h5 := h.m5
  simp [results, hres, ht, hs, go_sem, h0, h1, h2, h3, h4, h5]
/-- A point that a matrix makes of one, if it is OK. -/
def apX (m : Mx) (x y : Int) : Int := turnX m x y + m.e
def apY (m : Mx) (x y : Int) : Int := turnY m x y + m.f
def apOk (m : Mx) (x y : Int) : Bool := rightI m && (room x && room y) && (room (apX m x y) && room (apY m x y))
/-- What lies in memory. -/
structure ApS (n : Nat) (w W : World) (m : Mx) (x y : Int) : Prop where
  below : Below n w W
  km : Blk W n 67 (six m)
  kp : Blk W (n + 1) 44 (two (x, y))
  kr : Blk W (n + 2) 44 (two (0, 0))
theorem ApS.next {n : Nat} {w W W' : World} {m : Mx} {x y : Int} (h : ApS n w W m x y) (k : Below W.heap.size W W') : ApS n w W' m x y :=
  ⟨h.below.trans (k.mono (by have := h.km.lt; omega)), h.km.grow k, h.kp.grow k, h.kr.grow k⟩
theorem ApS.start (w : World) (m : Mx) (x y : Int) : ApS w.heap.size w (((w.alloc (.cells (six m) 67)).alloc (.cells (two (x, y)) 44)).alloc (.cells (two (0, 0)) 44)) m x y :=
  ⟨(((Below.refl _ _).alloc (Nat.le_refl _) _).alloc (by simp) _).alloc (by simp; omega) _, ((Blk.newAt _ _ _ rfl).alloc _).alloc _, (Blk.newAt _ _ _ (by simp)).alloc _, Blk.newAt _ _ _ (by simp)⟩
set_option maxHeartbeats 2000000 in
set_option maxRecDepth 100000 in
theorem apply_walk (m : Mx) (x y X Y : Int) (w : World) (r p q : Bool)
    (HR : Hid (∀ w, Calls Tryd.prog 28 #[.agg #[.int .i64 m.a, .int .i64 m.b, .int .i64 m.c, .int .i64 m.d, .int .i64 m.e, .int .i64 m.f]] w fun e w' => e = .returned (.bool r) ∧ Below w.heap.size w w'))
    (HP : Hid (∀ w, Calls Tryd.prog 50 #[.agg #[.int .i64 x, .int .i64 y]] w fun e w' => e = .returned (.bool p) ∧ Below w.heap.size w w'))
    (HT : Hid (r = true → p = true → (∀ w, Calls Tryd.prog 51 #[.agg #[.int .i64 m.a, .int .i64 m.b, .int .i64 m.c, .int .i64 m.d, .int .i64 m.e, .int .i64 m.f], .int .i64 x, .int .i64 y] w fun e w' => e = .returned (.tuple #[.int .i64 X, .int .i64 Y]) ∧ Below w.heap.size w w') ∧ wrap64 (X + m.e) = X + m.e ∧ wrap64 (Y + m.f) = Y + m.f))
    (HQ : Hid (∀ w, Calls Tryd.prog 50 #[.agg #[.int .i64 (X + m.e), .int .i64 (Y + m.f)]] w fun e w' => e = .returned (.bool q) ∧ Below w.heap.size w w')) :
    Calls Tryd.prog 29 #[.agg (six m), .agg #[.int .i64 x, .int .i64 y]] w fun e w' => e = .returned (.tuple #[.agg #[.int .i64 (if r && p && q then X + m.e else 0), .int .i64 (if r && p && q then Y + m.f else 0)], .int .i64 (if r && p && q then 0 else 10)]) ∧ Below w.heap.size w w' := by
  have HS := Lib.hid (ApS.start w m x y)
  obtain ⟨n, hn⟩ : ∃ n, w.heap.size = n := ⟨_, rfl⟩
  rw [hn] at HS ⊢
  cases r
  · go_enter Tryd.func29, Tryd.ntmps29
    go_wp2_with fail
    refine (HR.out _).mono ?_
    rintro e w1 ⟨rfl, hb⟩
    have S1 := Lib.hid (HS.out.next hb)
    clear hb
    have z0 := S1.out.kr.p0
    have z1 := S1.out.kr.p1
    have f0 := S1.out.kr.free 0
    have f1 := S1.out.kr.free 1
    go_wp2_with fail
    exact bodyPost_ret (results_pe 4 5 rfl rfl rfl (S1.out.kr.setP 0 0)) rfl ⟨rfl, below_two S1.out.below (by omega) _ _⟩
  · cases p
    · go_enter Tryd.func29, Tryd.ntmps29
      go_wp2_with fail
      refine (HR.out _).mono ?_
      rintro e w1 ⟨rfl, hb⟩
      have S1 := Lib.hid (HS.out.next hb)
      clear hb
      have p0 := S1.out.kp.p0
      have p1 := S1.out.kp.p1
      go_wp2_with fail
      refine (HP.out _).mono ?_
      rintro e w2 ⟨rfl, hb⟩
      have S2 := Lib.hid (S1.out.next hb)
      clear hb
      clear p0 p1
      have z0 := S2.out.kr.p0
      have z1 := S2.out.kr.p1
      have f0 := S2.out.kr.free 0
      have f1 := S2.out.kr.free 1
      go_wp2_with fail
      exact bodyPost_ret (results_pe 4 5 rfl rfl rfl (S2.out.kr.setP 0 0)) rfl ⟨rfl, below_two S2.out.below (by omega) _ _⟩
    · obtain ⟨ht, wx, wy⟩ := HT.out rfl rfl
      have HT1 := Lib.hid ht
      clear ht HT
      go_enter Tryd.func29, Tryd.ntmps29
      go_wp2_with fail
      refine (HR.out _).mono ?_
      rintro e w1 ⟨rfl, hb⟩
      have S1 := Lib.hid (HS.out.next hb)
      clear hb
      have p0 := S1.out.kp.p0
      have p1 := S1.out.kp.p1
      go_wp2_with fail
      refine (HP.out _).mono ?_
      rintro e w2 ⟨rfl, hb⟩
      have S2 := Lib.hid (S1.out.next hb)
      clear hb
      clear p0 p1
      have m0 := S2.out.km.m0
      have m1 := S2.out.km.m1
      have m2 := S2.out.km.m2
      have m3 := S2.out.km.m3
      have m4 := S2.out.km.m4
      have m5 := S2.out.km.m5
      have p0 := S2.out.kp.p0
      have p1 := S2.out.kp.p1
      go_wp2_with fail
      refine (HT1.out _).mono ?_
      rintro e w3 ⟨rfl, hb⟩
      have S3 := Lib.hid (S2.out.next hb)
      clear hb
      clear m0 m1 m2 m3 m4 m5 p0 p1
      have m4 := S3.out.km.m4
      have m5 := S3.out.km.m5
      go_wp2_with fail
      refine (HQ.out _).mono ?_
      rintro e w4 ⟨rfl, hb⟩
      have S4 : Hid (ApS n w w4 m x y) := ((S3.out.next ((Below.refl _ _).alloc (Nat.le_refl _) _)).next hb)
      have q0 := Blk.grow (Blk.newAt w3 44 (two (X + m.e, Y + m.f)) rfl) hb
      have q1 := q0.p0
      have q2 := q0.p1
      clear q0 hb m4 m5
      have z0 := S4.out.kr.p0
      have z1 := S4.out.kr.p1
      have f0 := S4.out.kr.free 0
      have f1 := S4.out.kr.free 1
      cases q
      · go_wp2_with fail
        exact bodyPost_ret (results_pe 4 5 rfl rfl rfl (S4.out.kr.setP 0 0)) rfl ⟨rfl, below_two S4.out.below (by omega) _ _⟩
      · go_wp2_with fail
        exact bodyPost_ret (results_pe 4 5 rfl rfl rfl (S4.out.kr.setP (X + m.e) (Y + m.f))) rfl ⟨rfl, below_two S4.out.below (by omega) _ _⟩
theorem apply_c (m : Mx) (x y : Int) (w : World) : Calls Tryd.prog 29 #[.agg (six m), .agg #[.int .i64 x, .int .i64 y]] w fun e w' => e = .returned (.tuple #[.agg #[.int .i64 (if apOk m x y then apX m x y else 0), .int .i64 (if apOk m x y then apY m x y else 0)], .int .i64 (if apOk m x y then 0 else 10)]) ∧ Below w.heap.size w w' := by
  refine apply_walk m x y (turnX m x y) (turnY m x y) w (rightI m) (room x && room y) (room (apX m x y) && room (apY m x y)) (Lib.hid (right_c m)) (Lib.hid (ptIn_c x y)) (Lib.hid fun h k => ?_) (Lib.hid (ptIn_c _ _))
  obtain ⟨ha, hb, hc, hd, he, hf⟩ := right_iff.1 h
  rw [Bool.and_eq_true, room_iff, room_iff] at k
  have h1 := turnX_in m x y ha hc k.1 k.2
  have h2 := turnY_in m x y hb hd k.1 k.2
  refine ⟨fun w => turn_c m x y w ha hb hc hd k.1 k.2, ?_, ?_⟩
  · unfold wrap64; omega
  · unfold wrap64; omega
end Go.Proofs.YtffgpikhahpomaaDoor
