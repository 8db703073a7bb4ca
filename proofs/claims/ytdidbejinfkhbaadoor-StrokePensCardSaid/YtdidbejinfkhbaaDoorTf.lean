/- Layer 7: Reach. -/
import Derived.Test.YtdidbejinfkhbaaDoorTa
import Derived.Test.YtdidbejinfkhbaaDoorWe
import Derived.Test.YtdidbejinfkhbaaDoorBox
namespace Go.Proofs.YtdidbejinfkhbaaDoor
open Go.RowKit
/-- The int that is nearest. -/
def nearI (x : Int) : Int := if fits x then x else if x < 0 then -9223372036854775808 else 9223372036854775807
set_option maxHeartbeats 1000000 in
set_option maxRecDepth 100000 in
theorem near_yes (hi lo z : Int) (w : World) (HI : Hid (∀ w, Calls Tryd.prog 74 #[.agg #[.int .i64 hi, .int .u64 lo]] w fun e w' => e = .returned (.tuple #[.int .i64 z, .bool true]) ∧ Below w.heap.size w w')) :
    Calls Tryd.prog 50 #[.agg #[.int .i64 hi, .int .u64 lo]] w fun e w' => e = .returned (.int .i64 z) ∧ Below w.heap.size w w' := by
  go_enter Tryd.func50, Tryd.ntmps50
  go_wp2_with fail
  refine (HI.out _).mono ?_
  rintro e w1 ⟨rfl, hb⟩
  have B1 : Hid (Below w.heap.size w w1) := ((Below.refl _ _).alloc (Nat.le_refl _) _).trans (hb.mono (by simp))
  clear hb
  go_wp2_with fail
  go_ret
  exact ⟨rfl, B1.out⟩
set_option maxHeartbeats 1000000 in
set_option maxRecDepth 100000 in
theorem near_low (hi lo z s : Int) (hs : s < 0) (w : World) (HI : Hid (∀ w, Calls Tryd.prog 74 #[.agg #[.int .i64 hi, .int .u64 lo]] w fun e w' => e = .returned (.tuple #[.int .i64 z, .bool false]) ∧ Below w.heap.size w w'))
    (HS : Hid (∀ w, Calls Tryd.prog 75 #[.agg #[.int .i64 hi, .int .u64 lo]] w fun e w' => e = .returned (.int .i64 s) ∧ Below w.heap.size w w')) :
    Calls Tryd.prog 50 #[.agg #[.int .i64 hi, .int .u64 lo]] w fun e w' => e = .returned (.int .i64 (-9223372036854775808)) ∧ Below w.heap.size w w' := by
  go_enter Tryd.func50, Tryd.ntmps50
  go_wp2_with fail
  have K0 : Hid (Blk (w.alloc (.cells #[.int .i64 hi, .int .u64 lo] 78)) w.heap.size 78 #[.int .i64 hi, .int .u64 lo]) := Blk.new _ _ _
  refine (HI.out _).mono ?_
  rintro e w1 ⟨rfl, hb⟩
  have B1 : Hid (Below w.heap.size w w1) := ((Below.refl _ _).alloc (Nat.le_refl _) _).trans (hb.mono (by simp))
  have K1 := Lib.hid (K0.out.grow hb)
  have c0 := K1.out.cell 0
  have c1 := K1.out.cell 1
  simp only [List.getElem?_toArray, List.getElem?_cons_zero, List.getElem?_cons_succ] at c0 c1
  clear hb
  go_wp2_with fail
  refine (HS.out _).mono ?_
  rintro e w2 ⟨rfl, hb⟩
  have B2 : Hid (Below w.heap.size w w2) := B1.out.trans (hb.mono B1.out.size)
  clear hb
  go_wp2_with fail
  go_ret
  exact ⟨rfl, B2.out⟩
set_option maxHeartbeats 1000000 in
set_option maxRecDepth 100000 in
theorem near_high (hi lo z s : Int) (hs : ¬ s < 0) (w : World) (HI : Hid (∀ w, Calls Tryd.prog 74 #[.agg #[.int .i64 hi, .int .u64 lo]] w fun e w' => e = .returned (.tuple #[.int .i64 z, .bool false]) ∧ Below w.heap.size w w'))
    (HS : Hid (∀ w, Calls Tryd.prog 75 #[.agg #[.int .i64 hi, .int .u64 lo]] w fun e w' => e = .returned (.int .i64 s) ∧ Below w.heap.size w w')) :
    Calls Tryd.prog 50 #[.agg #[.int .i64 hi, .int .u64 lo]] w fun e w' => e = .returned (.int .i64 9223372036854775807) ∧ Below w.heap.size w w' := by
  go_enter Tryd.func50, Tryd.ntmps50
  go_wp2_with fail
  have K0 : Hid (Blk (w.alloc (.cells #[.int .i64 hi, .int .u64 lo] 78)) w.heap.size 78 #[.int .i64 hi, .int .u64 lo]) := Blk.new _ _ _
  refine (HI.out _).mono ?_
  rintro e w1 ⟨rfl, hb⟩
  have B1 : Hid (Below w.heap.size w w1) := ((Below.refl _ _).alloc (Nat.le_refl _) _).trans (hb.mono (by simp))
  have K1 := Lib.hid (K0.out.grow hb)
  have c0 := K1.out.cell 0
  have c1 := K1.out.cell 1
  simp only [List.getElem?_toArray, List.getElem?_cons_zero, List.getElem?_cons_succ] at c0 c1
  clear hb
  go_wp2_with fail
  refine (HS.out _).mono ?_
  rintro e w2 ⟨rfl, hb⟩
  have B2 : Hid (Below w.heap.size w w2) := B1.out.trans (hb.mono B1.out.size)
  clear hb
  go_wp2_with fail
  go_ret
  exact ⟨rfl, B2.out⟩
theorem nearest_c (u : BitVec 128) (w : World) : Calls Tryd.prog 50 #[.agg #[.int .i64 (hiOf u), .int .u64 (loOf u)]] w fun e w' => e = .returned (.int .i64 (nearI u.toInt)) ∧ Below w.heap.size w w' := by
  have HI := Lib.hid (int_c u)
  have HS := Lib.hid (sign_c u)
  have hs : cmpOf u 0 < 0 ↔ u.toInt < 0 := by
    rw [cmpOf_eq]
    unfold cmpI
    have : (0 : BitVec 128).toInt = 0 := by decide
    rw [this]
    split
    · simp_all
    · split <;> simp_all
  unfold nearI
  cases hf : fits u.toInt
  · rw [hf] at HI
    by_cases h : u.toInt < 0
    · rw [if_neg (by decide), if_pos h]
      exact near_low _ _ _ _ (hs.2 h) w HI HS
    · rw [if_neg (by decide), if_neg h]
      exact near_high _ _ _ _ (fun k => h (hs.1 k)) w HI HS
  · rw [hf] at HI
    exact near_yes _ _ _ w HI
def reachI (b : Bx) (h : Int) : Bx := if emptyI b = true then ⟨0, 0, 0, 0⟩ else ⟨nearI (b.x0 - 2 * h), nearI (b.y0 - 2 * h), nearI (b.x1 + 2 * h), nearI (b.y1 + 2 * h)⟩
set_option maxHeartbeats 4000000 in
set_option maxRecDepth 100000 in
theorem reach_walk (b : Bx) (h nh nl h1 l1 h2 l2 h3 l3 h4 l4 p1 q1 p2 q2 p3 q3 p4 q4 z1 z2 z3 z4 : Int) (w : World)
    (HE : Hid (∀ w, Calls Tryd.prog 48 #[.agg #[.int .i64 b.x0, .int .i64 b.y0, .int .i64 b.x1, .int .i64 b.y1]] w fun e w' => e = .returned (.bool false) ∧ Below w.heap.size w w'))
    (HMU : Hid (∀ w, Calls Tryd.prog 49 #[.int .i64 2, .int .i64 h] w fun e w' => e = .returned (.agg #[.int .i64 nh, .int .u64 nl]) ∧ Below w.heap.size w w'))
    (HO1 : Hid (∀ w, Calls Tryd.prog 51 #[.int .i64 b.x0] w fun e w' => e = .returned (.agg #[.int .i64 h1, .int .u64 l1]) ∧ Below w.heap.size w w'))
    (HP1 : Hid (∀ w, Calls Tryd.prog 52 #[.agg #[.int .i64 h1, .int .u64 l1], .agg #[.int .i64 nh, .int .u64 nl]] w fun e w' => e = .returned (.agg #[.int .i64 p1, .int .u64 q1]) ∧ Below w.heap.size w w'))
    (HN1 : Hid (∀ w, Calls Tryd.prog 50 #[.agg #[.int .i64 p1, .int .u64 q1]] w fun e w' => e = .returned (.int .i64 z1) ∧ Below w.heap.size w w'))
    (HO2 : Hid (∀ w, Calls Tryd.prog 51 #[.int .i64 b.y0] w fun e w' => e = .returned (.agg #[.int .i64 h2, .int .u64 l2]) ∧ Below w.heap.size w w'))
    (HP2 : Hid (∀ w, Calls Tryd.prog 52 #[.agg #[.int .i64 h2, .int .u64 l2], .agg #[.int .i64 nh, .int .u64 nl]] w fun e w' => e = .returned (.agg #[.int .i64 p2, .int .u64 q2]) ∧ Below w.heap.size w w'))
    (HN2 : Hid (∀ w, Calls Tryd.prog 50 #[.agg #[.int .i64 p2, .int .u64 q2]] w fun e w' => e = .returned (.int .i64 z2) ∧ Below w.heap.size w w'))
    (HO3 : Hid (∀ w, Calls Tryd.prog 51 #[.int .i64 b.x1] w fun e w' => e = .returned (.agg #[.int .i64 h3, .int .u64 l3]) ∧ Below w.heap.size w w'))
    (HP3 : Hid (∀ w, Calls Tryd.prog 53 #[.agg #[.int .i64 h3, .int .u64 l3], .agg #[.int .i64 nh, .int .u64 nl]] w fun e w' => e = .returned (.agg #[.int .i64 p3, .int .u64 q3]) ∧ Below w.heap.size w w'))
    (HN3 : Hid (∀ w, Calls Tryd.prog 50 #[.agg #[.int .i64 p3, .int .u64 q3]] w fun e w' => e = .returned (.int .i64 z3) ∧ Below w.heap.size w w'))
    (HO4 : Hid (∀ w, Calls Tryd.prog 51 #[.int .i64 b.y1] w fun e w' => e = .returned (.agg #[.int .i64 h4, .int .u64 l4]) ∧ Below w.heap.size w w'))
    (HP4 : Hid (∀ w, Calls Tryd.prog 53 #[.agg #[.int .i64 h4, .int .u64 l4], .agg #[.int .i64 nh, .int .u64 nl]] w fun e w' => e = .returned (.agg #[.int .i64 p4, .int .u64 q4]) ∧ Below w.heap.size w w'))
    (HN4 : Hid (∀ w, Calls Tryd.prog 50 #[.agg #[.int .i64 p4, .int .u64 q4]] w fun e w' => e = .returned (.int .i64 z4) ∧ Below w.heap.size w w')) :
    Calls Tryd.prog 20 #[.agg #[.int .i64 b.x0, .int .i64 b.y0, .int .i64 b.x1, .int .i64 b.y1], .int .i64 h] w fun e w' => e = .returned (.agg (four ⟨z1, z2, z3, z4⟩)) ∧ Below w.heap.size w w' := by
  go_enter Tryd.func20, Tryd.ntmps20
  go_wp2_with fail
  obtain ⟨w0, hw0⟩ : ∃ W, (w.alloc (.cells #[.int .i64 b.x0, .int .i64 b.y0, .int .i64 b.x1, .int .i64 b.y1] 51)).alloc (.cells #[.int .i64 0, .int .i64 0, .int .i64 0, .int .i64 0] 51) = W := ⟨_, rfl⟩
  have S0 : Hid (Below w.heap.size w w0 ∧ w.heap.size + 2 ≤ w0.heap.size ∧ Blk w0 w.heap.size 51 (four b) ∧ Blk w0 (w.heap.size + 1) 51 (four ⟨0, 0, 0, 0⟩)) := by
    rw [← hw0]
    exact ⟨((Below.refl _ _).alloc (Nat.le_refl _) _).alloc (by simp) _, by simp, (Blk.new _ _ _).alloc _, Blk.newAt _ _ _ (by simp)⟩
  rw [hw0]
  clear hw0
  refine (HE.out _).mono ?_
  rintro e w1 ⟨rfl, hb⟩
  have S1 : Hid (Below w.heap.size w w1 ∧ w.heap.size + 2 ≤ w1.heap.size ∧ Blk w1 w.heap.size 51 (four b) ∧ Blk w1 (w.heap.size + 1) 51 (four ⟨0, 0, 0, 0⟩)) := ⟨S0.out.1.trans (hb.mono (by have := S0.out.2.1; omega)), Nat.le_trans S0.out.2.1 hb.size, S0.out.2.2.1.grow hb, S0.out.2.2.2.grow hb⟩
  clear hb S0
  go_wp2_with fail
  refine (HMU.out _).mono ?_
  rintro e w3 ⟨rfl, hb⟩
  have S3 : Hid (Below w.heap.size w w3 ∧ w.heap.size + 2 ≤ w3.heap.size ∧ Blk w3 w.heap.size 51 (four b) ∧ Blk w3 (w.heap.size + 1) 51 (four ⟨0, 0, 0, 0⟩)) := ⟨S1.out.1.trans (hb.mono (by have := S1.out.2.1; omega)), Nat.le_trans S1.out.2.1 hb.size, S1.out.2.2.1.grow hb, S1.out.2.2.2.grow hb⟩
  clear hb S1
  go_wp2_with fail
  obtain ⟨g5, hg5⟩ : ∃ g, w3.heap.size = g := ⟨_, rfl⟩
  obtain ⟨w4, hw4⟩ : ∃ W, w3.alloc (.cells #[.int .i64 nh, .int .u64 nl] 78) = W := ⟨_, rfl⟩
  have S4 : Hid (Below w.heap.size w w4 ∧ w.heap.size ≤ w4.heap.size ∧ Blk w4 w.heap.size 51 (four b) ∧ Blk w4 (w.heap.size + 1) 51 (four ⟨0, 0, 0, 0⟩) ∧ Blk w4 g5 78 #[.int .i64 nh, .int .u64 nl]) := by
    rw [← hw4]
    exact ⟨S3.out.1.alloc (by have := S3.out.2.1; omega) _, by have := S3.out.2.1; simp; omega, S3.out.2.2.1.alloc _, S3.out.2.2.2.alloc _, Blk.newAt _ _ _ hg5⟩
  rw [hw4, hg5]
  clear hw4 hg5 S3
  refine wp_region_put (by kernel_rfl) (by kernel_rfl) (by kernel_rfl) (fun b' vs w' => (b' 0 = true → vs 0 = .pointer (some ⟨w.heap.size, 0, none⟩)) ∧ (b' 1 = true → vs 1 = .int .i64 b.x0) ∧ (b' 2 = true → vs 2 = .agg #[.int .i64 h1, .int .u64 l1]) ∧ (b' 3 = true → vs 3 = .agg #[.int .i64 nh, .int .u64 nl]) ∧ (b' 4 = true → vs 4 = .agg #[.int .i64 p1, .int .u64 q1]) ∧ (b' 5 = true → vs 5 = .int .i64 z1) ∧ (b' 6 = true → vs 6 = .pointer (some ⟨w.heap.size, 1, none⟩)) ∧ (b' 7 = true → vs 7 = .int .i64 b.y0) ∧ (b' 8 = true → vs 8 = .agg #[.int .i64 h2, .int .u64 l2]) ∧ (b' 9 = true → vs 9 = .agg #[.int .i64 nh, .int .u64 nl]) ∧ (b' 10 = true → vs 10 = .agg #[.int .i64 p2, .int .u64 q2]) ∧ (b' 11 = true → vs 11 = .int .i64 z2) ∧ (b' 12 = true → vs 12 = .pointer (some ⟨w.heap.size, 2, none⟩)) ∧ (b' 13 = true → vs 13 = .int .i64 b.x1) ∧ (b' 14 = true → vs 14 = .agg #[.int .i64 h3, .int .u64 l3]) ∧ (b' 15 = true → vs 15 = .agg #[.int .i64 nh, .int .u64 nl]) ∧ (b' 16 = true → vs 16 = .agg #[.int .i64 p3, .int .u64 q3]) ∧ (b' 17 = true → vs 17 = .int .i64 z3) ∧ (b' 18 = true → vs 18 = .pointer (some ⟨w.heap.size, 3, none⟩)) ∧ (b' 19 = true → vs 19 = .int .i64 b.y1) ∧ (b' 20 = true → vs 20 = .agg #[.int .i64 h4, .int .u64 l4]) ∧ (b' 21 = true → vs 21 = .agg #[.int .i64 nh, .int .u64 nl]) ∧ (b' 22 = true → vs 22 = .agg #[.int .i64 p4, .int .u64 q4]) ∧ (b' 23 = true → vs 23 = .int .i64 z4) ∧ (b' 24 = true → vs 24 = .agg #[.int .i64 z1, .int .i64 z2, .int .i64 z3, .int .i64 z4]) ∧ (b' 25 = false → Hid (Below w.heap.size w w' ∧ w.heap.size ≤ w'.heap.size)) ∧ (b' 25 = false → Hid (Blk w' w.heap.size 51 (four b) ∧ Blk w' (w.heap.size + 1) 51 (four ⟨0, 0, 0, 0⟩) ∧ Blk w' g5 78 #[.int .i64 nh, .int .u64 nl])) ∧ (b' 25 = true → Hid (Below w.heap.size w w' ∧ Blk w' (w.heap.size + 1) 51 (four ⟨z1, z2, z3, z4⟩))) ∧ (b' 24 = true → b' 5 = true) ∧ (b' 5 = true → b' 4 = true) ∧ (b' 4 = true → b' 2 = true) ∧ (b' 2 = true → b' 1 = true) ∧ (b' 4 = true → b' 3 = true) ∧ (b' 24 = true → b' 11 = true) ∧ (b' 11 = true → b' 10 = true) ∧ (b' 10 = true → b' 8 = true) ∧ (b' 8 = true → b' 7 = true) ∧ (b' 10 = true → b' 9 = true) ∧ (b' 24 = true → b' 17 = true) ∧ (b' 17 = true → b' 16 = true) ∧ (b' 16 = true → b' 14 = true) ∧ (b' 14 = true → b' 13 = true) ∧ (b' 16 = true → b' 15 = true) ∧ (b' 24 = true → b' 23 = true) ∧ (b' 23 = true → b' 22 = true) ∧ (b' 22 = true → b' 20 = true) ∧ (b' 20 = true → b' 19 = true) ∧ (b' 22 = true → b' 21 = true) ∧ (b' 25 = true → b' 1 = true) ∧ (b' 25 = true → b' 2 = true) ∧ (b' 25 = true → b' 3 = true) ∧ (b' 25 = true → b' 4 = true) ∧ (b' 25 = true → b' 5 = true) ∧ (b' 25 = true → b' 7 = true) ∧ (b' 25 = true → b' 8 = true) ∧ (b' 25 = true → b' 9 = true) ∧ (b' 25 = true → b' 10 = true) ∧ (b' 25 = true → b' 11 = true) ∧ (b' 25 = true → b' 13 = true) ∧ (b' 25 = true → b' 14 = true) ∧ (b' 25 = true → b' 15 = true) ∧ (b' 25 = true → b' 16 = true) ∧ (b' 25 = true → b' 17 = true) ∧ (b' 25 = true → b' 19 = true) ∧ (b' 25 = true → b' 20 = true) ∧ (b' 25 = true → b' 21 = true) ∧ (b' 25 = true → b' 22 = true) ∧ (b' 25 = true → b' 23 = true)) ?_ ?_ ?_
  · intro vs
    exact ⟨fun h => Bool.noConfusion h, fun h => Bool.noConfusion h, fun h => Bool.noConfusion h, fun h => Bool.noConfusion h, fun h => Bool.noConfusion h, fun h => Bool.noConfusion h, fun h => Bool.noConfusion h, fun h => Bool.noConfusion h, fun h => Bool.noConfusion h, fun h => Bool.noConfusion h, fun h => Bool.noConfusion h, fun h => Bool.noConfusion h, fun h => Bool.noConfusion h, fun h => Bool.noConfusion h, fun h => Bool.noConfusion h, fun h => Bool.noConfusion h, fun h => Bool.noConfusion h, fun h => Bool.noConfusion h, fun h => Bool.noConfusion h, fun h => Bool.noConfusion h, fun h => Bool.noConfusion h, fun h => Bool.noConfusion h, fun h => Bool.noConfusion h, fun h => Bool.noConfusion h, fun h => Bool.noConfusion h, fun _ => Lib.hid ⟨below_drewN S4.out.1 1, S4.out.2.1⟩, fun _ => Lib.hid ⟨S4.out.2.2.1.grow ⟨rfl, rfl, rfl, Nat.le_refl _, fun _ _ => rfl⟩, S4.out.2.2.2.1.grow ⟨rfl, rfl, rfl, Nat.le_refl _, fun _ _ => rfl⟩, S4.out.2.2.2.2.grow ⟨rfl, rfl, rfl, Nat.le_refl _, fun _ _ => rfl⟩⟩, fun h => Bool.noConfusion h, fun h => Bool.noConfusion h, fun h => Bool.noConfusion h, fun h => Bool.noConfusion h, fun h => Bool.noConfusion h, fun h => Bool.noConfusion h, fun h => Bool.noConfusion h, fun h => Bool.noConfusion h, fun h => Bool.noConfusion h, fun h => Bool.noConfusion h, fun h => Bool.noConfusion h, fun h => Bool.noConfusion h, fun h => Bool.noConfusion h, fun h => Bool.noConfusion h, fun h => Bool.noConfusion h, fun h => Bool.noConfusion h, fun h => Bool.noConfusion h, fun h => Bool.noConfusion h, fun h => Bool.noConfusion h, fun h => Bool.noConfusion h, fun h => Bool.noConfusion h, fun h => Bool.noConfusion h, fun h => Bool.noConfusion h, fun h => Bool.noConfusion h, fun h => Bool.noConfusion h, fun h => Bool.noConfusion h, fun h => Bool.noConfusion h, fun h => Bool.noConfusion h, fun h => Bool.noConfusion h, fun h => Bool.noConfusion h, fun h => Bool.noConfusion h, fun h => Bool.noConfusion h, fun h => Bool.noConfusion h, fun h => Bool.noConfusion h, fun h => Bool.noConfusion h, fun h => Bool.noConfusion h, fun h => Bool.noConfusion h, fun h => Bool.noConfusion h, fun h => Bool.noConfusion h, fun h => Bool.noConfusion h, fun h => Bool.noConfusion h⟩
  · rintro b' vs w' i op hi hun hall ⟨h0, h1, h2, h3, h4, h5, h6, h7, h8, h9, h10, h11, h12, h13, h14, h15, h16, h17, h18, h19, h20, h21, h22, h23, h24, hB, hF, hG, hE24_5, hE5_4, hE4_2, hE2_1, hE4_3, hE24_11, hE11_10, hE10_8, hE8_7, hE10_9, hE24_17, hE17_16, hE16_14, hE14_13, hE16_15, hE24_23, hE23_22, hE22_20, hE20_19, hE22_21, hW1, hW2, hW3, hW4, hW5, hW7, hW8, hW9, hW10, hW11, hW13, hW14, hW15, hW16, hW17, hW19, hW20, hW21, hW22, hW23⟩
    have hil : i < 26 := (List.getElem?_eq_some_iff.1 hi).1
    rcases i with _ | _ | _ | _ | _ | _ | _ | _ | _ | _ | _ | _ | _ | _ | _ | _ | _ | _ | _ | _ | _ | _ | _ | _ | _ | _ | i
    · obtain rfl := Option.some.inj hi
      clear hi hil
      refine wpOp_step rfl (fun K hK => ?_)
      have HKK := Lib.hid hK; clear hK
      simp only [putAll, Act.put, List.setIfInBounds_toArray, List.set_cons_zero, List.set_cons_succ]
      go_simp
      exact HKK.out _ _ ⟨_, by simp only [putAll, Act.put, List.setIfInBounds_toArray, List.set_cons_zero, List.set_cons_succ] <;> rfl, fun _ => rfl, h1, h2, h3, h4, h5, h6, h7, h8, h9, h10, h11, h12, h13, h14, h15, h16, h17, h18, h19, h20, h21, h22, h23, h24, hB, hF, hG, hE24_5, hE5_4, hE4_2, hE2_1, hE4_3, hE24_11, hE11_10, hE10_8, hE8_7, hE10_9, hE24_17, hE17_16, hE16_14, hE14_13, hE16_15, hE24_23, hE23_22, hE22_20, hE20_19, hE22_21, hW1, hW2, hW3, hW4, hW5, hW7, hW8, hW9, hW10, hW11, hW13, hW14, hW15, hW16, hW17, hW19, hW20, hW21, hW22, hW23⟩
    · obtain rfl := Option.some.inj hi
      clear hi hil
      have hap : b' 25 = false := by
        cases hz : b' 25 with
        | false => rfl
        | true => exact absurd (hW1 hz) (by rw [hun]; decide)
      have d0 := h0 (hall ⟨0, .data⟩ (by simp) rfl)
      have x0 := (hF hap).out.1.b0
      refine wpOp_step rfl (fun K hK => ?_)
      have HKK := Lib.hid hK; clear hK
      simp only [putAll, Act.put, List.setIfInBounds_toArray, List.set_cons_zero, List.set_cons_succ]
      go_simp
      exact HKK.out _ _ ⟨_, by simp only [putAll, Act.put, List.setIfInBounds_toArray, List.set_cons_zero, List.set_cons_succ, d0] <;> rfl, h0, fun _ => rfl, h2, h3, h4, h5, h6, h7, h8, h9, h10, h11, h12, h13, h14, h15, h16, h17, h18, h19, h20, h21, h22, h23, h24, hB, hF, hG, hE24_5, hE5_4, hE4_2, fun _ => rfl, hE4_3, hE24_11, hE11_10, hE10_8, hE8_7, hE10_9, hE24_17, hE17_16, hE16_14, hE14_13, hE16_15, hE24_23, hE23_22, hE22_20, hE20_19, hE22_21, fun _ => rfl, hW2, hW3, hW4, hW5, hW7, hW8, hW9, hW10, hW11, hW13, hW14, hW15, hW16, hW17, hW19, hW20, hW21, hW22, hW23⟩
    · obtain rfl := Option.some.inj hi
      clear hi hil
      have hap : b' 25 = false := by
        cases hz : b' 25 with
        | false => rfl
        | true => exact absurd (hW2 hz) (by rw [hun]; decide)
      have d1 := h1 (hall ⟨1, .data⟩ (by simp) rfl)
      refine wpOp_step rfl (fun K hK => ?_)
      have HKK := Lib.hid hK; clear hK
      simp only [putAll, Act.put, List.setIfInBounds_toArray, List.set_cons_zero, List.set_cons_succ]
      go_simp
      refine (HO1.out w').mono ?_
      rintro e w2 ⟨rfl, hb2⟩
      exact HKK.out _ _ ⟨_, by simp only [putAll, Act.put, List.setIfInBounds_toArray, List.set_cons_zero, List.set_cons_succ, d1] <;> rfl, h0, h1, fun _ => rfl, h3, h4, h5, h6, h7, h8, h9, h10, h11, h12, h13, h14, h15, h16, h17, h18, h19, h20, h21, h22, h23, h24, fun ha => Lib.hid ⟨(hB ha).out.1.trans (hb2.mono (hB ha).out.2), Nat.le_trans (hB ha).out.2 hb2.size⟩, fun ha => Lib.hid (⟨(hF ha).out.1.grow hb2, (hF ha).out.2.1.grow hb2, (hF ha).out.2.2.grow hb2⟩), fun h => absurd (show b' 25 = true from h) (by rw [hap]; decide), hE24_5, hE5_4, fun _ => rfl, fun _ => hall ⟨1, .data⟩ (by simp) rfl, hE4_3, hE24_11, hE11_10, hE10_8, hE8_7, hE10_9, hE24_17, hE17_16, hE16_14, hE14_13, hE16_15, hE24_23, hE23_22, hE22_20, hE20_19, hE22_21, hW1, fun _ => rfl, hW3, hW4, hW5, hW7, hW8, hW9, hW10, hW11, hW13, hW14, hW15, hW16, hW17, hW19, hW20, hW21, hW22, hW23⟩
    · obtain rfl := Option.some.inj hi
      clear hi hil
      have hap : b' 25 = false := by
        cases hz : b' 25 with
        | false => rfl
        | true => exact absurd (hW3 hz) (by rw [hun]; decide)
      have k := (hF hap).out.2.2
      have x0 : w'.cell? ⟨g5, 0, none⟩ = some (.int .i64 nh) := k.cell 0
      have x1 : w'.cell? ⟨g5, 1, none⟩ = some (.int .u64 nl) := k.cell 1
      clear k
      refine wpOp_step rfl (fun K hK => ?_)
      have HKK := Lib.hid hK; clear hK
      simp only [putAll, Act.put, List.setIfInBounds_toArray, List.set_cons_zero, List.set_cons_succ]
      go_simp
      exact HKK.out _ _ ⟨_, by simp only [putAll, Act.put, List.setIfInBounds_toArray, List.set_cons_zero, List.set_cons_succ] <;> rfl, h0, h1, h2, fun _ => rfl, h4, h5, h6, h7, h8, h9, h10, h11, h12, h13, h14, h15, h16, h17, h18, h19, h20, h21, h22, h23, h24, hB, hF, hG, hE24_5, hE5_4, hE4_2, hE2_1, fun _ => rfl, hE24_11, hE11_10, hE10_8, hE8_7, hE10_9, hE24_17, hE17_16, hE16_14, hE14_13, hE16_15, hE24_23, hE23_22, hE22_20, hE20_19, hE22_21, hW1, hW2, fun _ => rfl, hW4, hW5, hW7, hW8, hW9, hW10, hW11, hW13, hW14, hW15, hW16, hW17, hW19, hW20, hW21, hW22, hW23⟩
    · obtain rfl := Option.some.inj hi
      clear hi hil
      have hap : b' 25 = false := by
        cases hz : b' 25 with
        | false => rfl
        | true => exact absurd (hW4 hz) (by rw [hun]; decide)
      have d2 := h2 (hall ⟨2, .data⟩ (by simp) rfl)
      have d3 := h3 (hall ⟨3, .data⟩ (by simp) rfl)
      refine wpOp_step rfl (fun K hK => ?_)
      have HKK := Lib.hid hK; clear hK
      simp only [putAll, Act.put, List.setIfInBounds_toArray, List.set_cons_zero, List.set_cons_succ]
      go_simp
      refine (HP1.out w').mono ?_
      rintro e w2 ⟨rfl, hb2⟩
      exact HKK.out _ _ ⟨_, by simp only [putAll, Act.put, List.setIfInBounds_toArray, List.set_cons_zero, List.set_cons_succ, d2, d3] <;> rfl, h0, h1, h2, h3, fun _ => rfl, h5, h6, h7, h8, h9, h10, h11, h12, h13, h14, h15, h16, h17, h18, h19, h20, h21, h22, h23, h24, fun ha => Lib.hid ⟨(hB ha).out.1.trans (hb2.mono (hB ha).out.2), Nat.le_trans (hB ha).out.2 hb2.size⟩, fun ha => Lib.hid (⟨(hF ha).out.1.grow hb2, (hF ha).out.2.1.grow hb2, (hF ha).out.2.2.grow hb2⟩), fun h => absurd (show b' 25 = true from h) (by rw [hap]; decide), hE24_5, fun _ => rfl, fun _ => hall ⟨2, .data⟩ (by simp) rfl, hE2_1, fun _ => hall ⟨3, .data⟩ (by simp) rfl, hE24_11, hE11_10, hE10_8, hE8_7, hE10_9, hE24_17, hE17_16, hE16_14, hE14_13, hE16_15, hE24_23, hE23_22, hE22_20, hE20_19, hE22_21, hW1, hW2, hW3, fun _ => rfl, hW5, hW7, hW8, hW9, hW10, hW11, hW13, hW14, hW15, hW16, hW17, hW19, hW20, hW21, hW22, hW23⟩
    · obtain rfl := Option.some.inj hi
      clear hi hil
      have hap : b' 25 = false := by
        cases hz : b' 25 with
        | false => rfl
        | true => exact absurd (hW5 hz) (by rw [hun]; decide)
      have d4 := h4 (hall ⟨4, .data⟩ (by simp) rfl)
      refine wpOp_step rfl (fun K hK => ?_)
      have HKK := Lib.hid hK; clear hK
      simp only [putAll, Act.put, List.setIfInBounds_toArray, List.set_cons_zero, List.set_cons_succ]
      go_simp
      refine (HN1.out w').mono ?_
      rintro e w2 ⟨rfl, hb2⟩
      exact HKK.out _ _ ⟨_, by simp only [putAll, Act.put, List.setIfInBounds_toArray, List.set_cons_zero, List.set_cons_succ, d4] <;> rfl, h0, h1, h2, h3, h4, fun _ => rfl, h6, h7, h8, h9, h10, h11, h12, h13, h14, h15, h16, h17, h18, h19, h20, h21, h22, h23, h24, fun ha => Lib.hid ⟨(hB ha).out.1.trans (hb2.mono (hB ha).out.2), Nat.le_trans (hB ha).out.2 hb2.size⟩, fun ha => Lib.hid (⟨(hF ha).out.1.grow hb2, (hF ha).out.2.1.grow hb2, (hF ha).out.2.2.grow hb2⟩), fun h => absurd (show b' 25 = true from h) (by rw [hap]; decide), fun _ => rfl, fun _ => hall ⟨4, .data⟩ (by simp) rfl, hE4_2, hE2_1, hE4_3, hE24_11, hE11_10, hE10_8, hE8_7, hE10_9, hE24_17, hE17_16, hE16_14, hE14_13, hE16_15, hE24_23, hE23_22, hE22_20, hE20_19, hE22_21, hW1, hW2, hW3, hW4, fun _ => rfl, hW7, hW8, hW9, hW10, hW11, hW13, hW14, hW15, hW16, hW17, hW19, hW20, hW21, hW22, hW23⟩
    · obtain rfl := Option.some.inj hi
      clear hi hil
      refine wpOp_step rfl (fun K hK => ?_)
      have HKK := Lib.hid hK; clear hK
      simp only [putAll, Act.put, List.setIfInBounds_toArray, List.set_cons_zero, List.set_cons_succ]
      go_simp
      exact HKK.out _ _ ⟨_, by simp only [putAll, Act.put, List.setIfInBounds_toArray, List.set_cons_zero, List.set_cons_succ] <;> rfl, h0, h1, h2, h3, h4, h5, fun _ => rfl, h7, h8, h9, h10, h11, h12, h13, h14, h15, h16, h17, h18, h19, h20, h21, h22, h23, h24, hB, hF, hG, hE24_5, hE5_4, hE4_2, hE2_1, hE4_3, hE24_11, hE11_10, hE10_8, hE8_7, hE10_9, hE24_17, hE17_16, hE16_14, hE14_13, hE16_15, hE24_23, hE23_22, hE22_20, hE20_19, hE22_21, hW1, hW2, hW3, hW4, hW5, hW7, hW8, hW9, hW10, hW11, hW13, hW14, hW15, hW16, hW17, hW19, hW20, hW21, hW22, hW23⟩
    · obtain rfl := Option.some.inj hi
      clear hi hil
      have hap : b' 25 = false := by
        cases hz : b' 25 with
        | false => rfl
        | true => exact absurd (hW7 hz) (by rw [hun]; decide)
      have d6 := h6 (hall ⟨6, .data⟩ (by simp) rfl)
      have x0 := (hF hap).out.1.b1
      refine wpOp_step rfl (fun K hK => ?_)
      have HKK := Lib.hid hK; clear hK
      simp only [putAll, Act.put, List.setIfInBounds_toArray, List.set_cons_zero, List.set_cons_succ]
      go_simp
      exact HKK.out _ _ ⟨_, by simp only [putAll, Act.put, List.setIfInBounds_toArray, List.set_cons_zero, List.set_cons_succ, d6] <;> rfl, h0, h1, h2, h3, h4, h5, h6, fun _ => rfl, h8, h9, h10, h11, h12, h13, h14, h15, h16, h17, h18, h19, h20, h21, h22, h23, h24, hB, hF, hG, hE24_5, hE5_4, hE4_2, hE2_1, hE4_3, hE24_11, hE11_10, hE10_8, fun _ => rfl, hE10_9, hE24_17, hE17_16, hE16_14, hE14_13, hE16_15, hE24_23, hE23_22, hE22_20, hE20_19, hE22_21, hW1, hW2, hW3, hW4, hW5, fun _ => rfl, hW8, hW9, hW10, hW11, hW13, hW14, hW15, hW16, hW17, hW19, hW20, hW21, hW22, hW23⟩
    · obtain rfl := Option.some.inj hi
      clear hi hil
      have hap : b' 25 = false := by
        cases hz : b' 25 with
        | false => rfl
        | true => exact absurd (hW8 hz) (by rw [hun]; decide)
      have d7 := h7 (hall ⟨7, .data⟩ (by simp) rfl)
      refine wpOp_step rfl (fun K hK => ?_)
      have HKK := Lib.hid hK; clear hK
      simp only [putAll, Act.put, List.setIfInBounds_toArray, List.set_cons_zero, List.set_cons_succ]
      go_simp
      refine (HO2.out w').mono ?_
      rintro e w2 ⟨rfl, hb2⟩
      exact HKK.out _ _ ⟨_, by simp only [putAll, Act.put, List.setIfInBounds_toArray, List.set_cons_zero, List.set_cons_succ, d7] <;> rfl, h0, h1, h2, h3, h4, h5, h6, h7, fun _ => rfl, h9, h10, h11, h12, h13, h14, h15, h16, h17, h18, h19, h20, h21, h22, h23, h24, fun ha => Lib.hid ⟨(hB ha).out.1.trans (hb2.mono (hB ha).out.2), Nat.le_trans (hB ha).out.2 hb2.size⟩, fun ha => Lib.hid (⟨(hF ha).out.1.grow hb2, (hF ha).out.2.1.grow hb2, (hF ha).out.2.2.grow hb2⟩), fun h => absurd (show b' 25 = true from h) (by rw [hap]; decide), hE24_5, hE5_4, hE4_2, hE2_1, hE4_3, hE24_11, hE11_10, fun _ => rfl, fun _ => hall ⟨7, .data⟩ (by simp) rfl, hE10_9, hE24_17, hE17_16, hE16_14, hE14_13, hE16_15, hE24_23, hE23_22, hE22_20, hE20_19, hE22_21, hW1, hW2, hW3, hW4, hW5, hW7, fun _ => rfl, hW9, hW10, hW11, hW13, hW14, hW15, hW16, hW17, hW19, hW20, hW21, hW22, hW23⟩
    · obtain rfl := Option.some.inj hi
      clear hi hil
      have hap : b' 25 = false := by
        cases hz : b' 25 with
        | false => rfl
        | true => exact absurd (hW9 hz) (by rw [hun]; decide)
      have k := (hF hap).out.2.2
      have x0 : w'.cell? ⟨g5, 0, none⟩ = some (.int .i64 nh) := k.cell 0
      have x1 : w'.cell? ⟨g5, 1, none⟩ = some (.int .u64 nl) := k.cell 1
      clear k
      refine wpOp_step rfl (fun K hK => ?_)
      have HKK := Lib.hid hK; clear hK
      simp only [putAll, Act.put, List.setIfInBounds_toArray, List.set_cons_zero, List.set_cons_succ]
      go_simp
      exact HKK.out _ _ ⟨_, by simp only [putAll, Act.put, List.setIfInBounds_toArray, List.set_cons_zero, List.set_cons_succ] <;> rfl, h0, h1, h2, h3, h4, h5, h6, h7, h8, fun _ => rfl, h10, h11, h12, h13, h14, h15, h16, h17, h18, h19, h20, h21, h22, h23, h24, hB, hF, hG, hE24_5, hE5_4, hE4_2, hE2_1, hE4_3, hE24_11, hE11_10, hE10_8, hE8_7, fun _ => rfl, hE24_17, hE17_16, hE16_14, hE14_13, hE16_15, hE24_23, hE23_22, hE22_20, hE20_19, hE22_21, hW1, hW2, hW3, hW4, hW5, hW7, hW8, fun _ => rfl, hW10, hW11, hW13, hW14, hW15, hW16, hW17, hW19, hW20, hW21, hW22, hW23⟩
    · obtain rfl := Option.some.inj hi
      clear hi hil
      have hap : b' 25 = false := by
        cases hz : b' 25 with
        | false => rfl
        | true => exact absurd (hW10 hz) (by rw [hun]; decide)
      have d8 := h8 (hall ⟨8, .data⟩ (by simp) rfl)
      have d9 := h9 (hall ⟨9, .data⟩ (by simp) rfl)
      refine wpOp_step rfl (fun K hK => ?_)
      have HKK := Lib.hid hK; clear hK
      simp only [putAll, Act.put, List.setIfInBounds_toArray, List.set_cons_zero, List.set_cons_succ]
      go_simp
      refine (HP2.out w').mono ?_
      rintro e w2 ⟨rfl, hb2⟩
      exact HKK.out _ _ ⟨_, by simp only [putAll, Act.put, List.setIfInBounds_toArray, List.set_cons_zero, List.set_cons_succ, d8, d9] <;> rfl, h0, h1, h2, h3, h4, h5, h6, h7, h8, h9, fun _ => rfl, h11, h12, h13, h14, h15, h16, h17, h18, h19, h20, h21, h22, h23, h24, fun ha => Lib.hid ⟨(hB ha).out.1.trans (hb2.mono (hB ha).out.2), Nat.le_trans (hB ha).out.2 hb2.size⟩, fun ha => Lib.hid (⟨(hF ha).out.1.grow hb2, (hF ha).out.2.1.grow hb2, (hF ha).out.2.2.grow hb2⟩), fun h => absurd (show b' 25 = true from h) (by rw [hap]; decide), hE24_5, hE5_4, hE4_2, hE2_1, hE4_3, hE24_11, fun _ => rfl, fun _ => hall ⟨8, .data⟩ (by simp) rfl, hE8_7, fun _ => hall ⟨9, .data⟩ (by simp) rfl, hE24_17, hE17_16, hE16_14, hE14_13, hE16_15, hE24_23, hE23_22, hE22_20, hE20_19, hE22_21, hW1, hW2, hW3, hW4, hW5, hW7, hW8, hW9, fun _ => rfl, hW11, hW13, hW14, hW15, hW16, hW17, hW19, hW20, hW21, hW22, hW23⟩
    · obtain rfl := Option.some.inj hi
      clear hi hil
      have hap : b' 25 = false := by
        cases hz : b' 25 with
        | false => rfl
        | true => exact absurd (hW11 hz) (by rw [hun]; decide)
      have d10 := h10 (hall ⟨10, .data⟩ (by simp) rfl)
      refine wpOp_step rfl (fun K hK => ?_)
      have HKK := Lib.hid hK; clear hK
      simp only [putAll, Act.put, List.setIfInBounds_toArray, List.set_cons_zero, List.set_cons_succ]
      go_simp
      refine (HN2.out w').mono ?_
      rintro e w2 ⟨rfl, hb2⟩
      exact HKK.out _ _ ⟨_, by simp only [putAll, Act.put, List.setIfInBounds_toArray, List.set_cons_zero, List.set_cons_succ, d10] <;> rfl, h0, h1, h2, h3, h4, h5, h6, h7, h8, h9, h10, fun _ => rfl, h12, h13, h14, h15, h16, h17, h18, h19, h20, h21, h22, h23, h24, fun ha => Lib.hid ⟨(hB ha).out.1.trans (hb2.mono (hB ha).out.2), Nat.le_trans (hB ha).out.2 hb2.size⟩, fun ha => Lib.hid (⟨(hF ha).out.1.grow hb2, (hF ha).out.2.1.grow hb2, (hF ha).out.2.2.grow hb2⟩), fun h => absurd (show b' 25 = true from h) (by rw [hap]; decide), hE24_5, hE5_4, hE4_2, hE2_1, hE4_3, fun _ => rfl, fun _ => hall ⟨10, .data⟩ (by simp) rfl, hE10_8, hE8_7, hE10_9, hE24_17, hE17_16, hE16_14, hE14_13, hE16_15, hE24_23, hE23_22, hE22_20, hE20_19, hE22_21, hW1, hW2, hW3, hW4, hW5, hW7, hW8, hW9, hW10, fun _ => rfl, hW13, hW14, hW15, hW16, hW17, hW19, hW20, hW21, hW22, hW23⟩
    · obtain rfl := Option.some.inj hi
      clear hi hil
      refine wpOp_step rfl (fun K hK => ?_)
      have HKK := Lib.hid hK; clear hK
      simp only [putAll, Act.put, List.setIfInBounds_toArray, List.set_cons_zero, List.set_cons_succ]
      go_simp
      exact HKK.out _ _ ⟨_, by simp only [putAll, Act.put, List.setIfInBounds_toArray, List.set_cons_zero, List.set_cons_succ] <;> rfl, h0, h1, h2, h3, h4, h5, h6, h7, h8, h9, h10, h11, fun _ => rfl, h13, h14, h15, h16, h17, h18, h19, h20, h21, h22, h23, h24, hB, hF, hG, hE24_5, hE5_4, hE4_2, hE2_1, hE4_3, hE24_11, hE11_10, hE10_8, hE8_7, hE10_9, hE24_17, hE17_16, hE16_14, hE14_13, hE16_15, hE24_23, hE23_22, hE22_20, hE20_19, hE22_21, hW1, hW2, hW3, hW4, hW5, hW7, hW8, hW9, hW10, hW11, hW13, hW14, hW15, hW16, hW17, hW19, hW20, hW21, hW22, hW23⟩
    · obtain rfl := Option.some.inj hi
      clear hi hil
      have hap : b' 25 = false := by
        cases hz : b' 25 with
        | false => rfl
        | true => exact absurd (hW13 hz) (by rw [hun]; decide)
      have d12 := h12 (hall ⟨12, .data⟩ (by simp) rfl)
      have x0 := (hF hap).out.1.b2
      refine wpOp_step rfl (fun K hK => ?_)
      have HKK := Lib.hid hK; clear hK
      simp only [putAll, Act.put, List.setIfInBounds_toArray, List.set_cons_zero, List.set_cons_succ]
      go_simp
      exact HKK.out _ _ ⟨_, by simp only [putAll, Act.put, List.setIfInBounds_toArray, List.set_cons_zero, List.set_cons_succ, d12] <;> rfl, h0, h1, h2, h3, h4, h5, h6, h7, h8, h9, h10, h11, h12, fun _ => rfl, h14, h15, h16, h17, h18, h19, h20, h21, h22, h23, h24, hB, hF, hG, hE24_5, hE5_4, hE4_2, hE2_1, hE4_3, hE24_11, hE11_10, hE10_8, hE8_7, hE10_9, hE24_17, hE17_16, hE16_14, fun _ => rfl, hE16_15, hE24_23, hE23_22, hE22_20, hE20_19, hE22_21, hW1, hW2, hW3, hW4, hW5, hW7, hW8, hW9, hW10, hW11, fun _ => rfl, hW14, hW15, hW16, hW17, hW19, hW20, hW21, hW22, hW23⟩
    · obtain rfl := Option.some.inj hi
      clear hi hil
      have hap : b' 25 = false := by
        cases hz : b' 25 with
        | false => rfl
        | true => exact absurd (hW14 hz) (by rw [hun]; decide)
      have d13 := h13 (hall ⟨13, .data⟩ (by simp) rfl)
      refine wpOp_step rfl (fun K hK => ?_)
      have HKK := Lib.hid hK; clear hK
      simp only [putAll, Act.put, List.setIfInBounds_toArray, List.set_cons_zero, List.set_cons_succ]
      go_simp
      refine (HO3.out w').mono ?_
      rintro e w2 ⟨rfl, hb2⟩
      exact HKK.out _ _ ⟨_, by simp only [putAll, Act.put, List.setIfInBounds_toArray, List.set_cons_zero, List.set_cons_succ, d13] <;> rfl, h0, h1, h2, h3, h4, h5, h6, h7, h8, h9, h10, h11, h12, h13, fun _ => rfl, h15, h16, h17, h18, h19, h20, h21, h22, h23, h24, fun ha => Lib.hid ⟨(hB ha).out.1.trans (hb2.mono (hB ha).out.2), Nat.le_trans (hB ha).out.2 hb2.size⟩, fun ha => Lib.hid (⟨(hF ha).out.1.grow hb2, (hF ha).out.2.1.grow hb2, (hF ha).out.2.2.grow hb2⟩), fun h => absurd (show b' 25 = true from h) (by rw [hap]; decide), hE24_5, hE5_4, hE4_2, hE2_1, hE4_3, hE24_11, hE11_10, hE10_8, hE8_7, hE10_9, hE24_17, hE17_16, fun _ => rfl, fun _ => hall ⟨13, .data⟩ (by simp) rfl, hE16_15, hE24_23, hE23_22, hE22_20, hE20_19, hE22_21, hW1, hW2, hW3, hW4, hW5, hW7, hW8, hW9, hW10, hW11, hW13, fun _ => rfl, hW15, hW16, hW17, hW19, hW20, hW21, hW22, hW23⟩
    · obtain rfl := Option.some.inj hi
      clear hi hil
      have hap : b' 25 = false := by
        cases hz : b' 25 with
        | false => rfl
        | true => exact absurd (hW15 hz) (by rw [hun]; decide)
      have k := (hF hap).out.2.2
      have x0 : w'.cell? ⟨g5, 0, none⟩ = some (.int .i64 nh) := k.cell 0
      have x1 : w'.cell? ⟨g5, 1, none⟩ = some (.int .u64 nl) := k.cell 1
      clear k
      refine wpOp_step rfl (fun K hK => ?_)
      have HKK := Lib.hid hK; clear hK
      simp only [putAll, Act.put, List.setIfInBounds_toArray, List.set_cons_zero, List.set_cons_succ]
      go_simp
      exact HKK.out _ _ ⟨_, by simp only [putAll, Act.put, List.setIfInBounds_toArray, List.set_cons_zero, List.set_cons_succ] <;> rfl, h0, h1, h2, h3, h4, h5, h6, h7, h8, h9, h10, h11, h12, h13, h14, fun _ => rfl, h16, h17, h18, h19, h20, h21, h22, h23, h24, hB, hF, hG, hE24_5, hE5_4, hE4_2, hE2_1, hE4_3, hE24_11, hE11_10, hE10_8, hE8_7, hE10_9, hE24_17, hE17_16, hE16_14, hE14_13, fun _ => rfl, hE24_23, hE23_22, hE22_20, hE20_19, hE22_21, hW1, hW2, hW3, hW4, hW5, hW7, hW8, hW9, hW10, hW11, hW13, hW14, fun _ => rfl, hW16, hW17, hW19, hW20, hW21, hW22, hW23⟩
    · obtain rfl := Option.some.inj hi
      clear hi hil
      have hap : b' 25 = false := by
        cases hz : b' 25 with
        | false => rfl
        | true => exact absurd (hW16 hz) (by rw [hun]; decide)
      have d14 := h14 (hall ⟨14, .data⟩ (by simp) rfl)
      have d15 := h15 (hall ⟨15, .data⟩ (by simp) rfl)
      refine wpOp_step rfl (fun K hK => ?_)
      have HKK := Lib.hid hK; clear hK
      simp only [putAll, Act.put, List.setIfInBounds_toArray, List.set_cons_zero, List.set_cons_succ]
      go_simp
      refine (HP3.out w').mono ?_
      rintro e w2 ⟨rfl, hb2⟩
      exact HKK.out _ _ ⟨_, by simp only [putAll, Act.put, List.setIfInBounds_toArray, List.set_cons_zero, List.set_cons_succ, d14, d15] <;> rfl, h0, h1, h2, h3, h4, h5, h6, h7, h8, h9, h10, h11, h12, h13, h14, h15, fun _ => rfl, h17, h18, h19, h20, h21, h22, h23, h24, fun ha => Lib.hid ⟨(hB ha).out.1.trans (hb2.mono (hB ha).out.2), Nat.le_trans (hB ha).out.2 hb2.size⟩, fun ha => Lib.hid (⟨(hF ha).out.1.grow hb2, (hF ha).out.2.1.grow hb2, (hF ha).out.2.2.grow hb2⟩), fun h => absurd (show b' 25 = true from h) (by rw [hap]; decide), hE24_5, hE5_4, hE4_2, hE2_1, hE4_3, hE24_11, hE11_10, hE10_8, hE8_7, hE10_9, hE24_17, fun _ => rfl, fun _ => hall ⟨14, .data⟩ (by simp) rfl, hE14_13, fun _ => hall ⟨15, .data⟩ (by simp) rfl, hE24_23, hE23_22, hE22_20, hE20_19, hE22_21, hW1, hW2, hW3, hW4, hW5, hW7, hW8, hW9, hW10, hW11, hW13, hW14, hW15, fun _ => rfl, hW17, hW19, hW20, hW21, hW22, hW23⟩
    · obtain rfl := Option.some.inj hi
      clear hi hil
      have hap : b' 25 = false := by
        cases hz : b' 25 with
        | false => rfl
        | true => exact absurd (hW17 hz) (by rw [hun]; decide)
      have d16 := h16 (hall ⟨16, .data⟩ (by simp) rfl)
      refine wpOp_step rfl (fun K hK => ?_)
      have HKK := Lib.hid hK; clear hK
      simp only [putAll, Act.put, List.setIfInBounds_toArray, List.set_cons_zero, List.set_cons_succ]
      go_simp
      refine (HN3.out w').mono ?_
      rintro e w2 ⟨rfl, hb2⟩
      exact HKK.out _ _ ⟨_, by simp only [putAll, Act.put, List.setIfInBounds_toArray, List.set_cons_zero, List.set_cons_succ, d16] <;> rfl, h0, h1, h2, h3, h4, h5, h6, h7, h8, h9, h10, h11, h12, h13, h14, h15, h16, fun _ => rfl, h18, h19, h20, h21, h22, h23, h24, fun ha => Lib.hid ⟨(hB ha).out.1.trans (hb2.mono (hB ha).out.2), Nat.le_trans (hB ha).out.2 hb2.size⟩, fun ha => Lib.hid (⟨(hF ha).out.1.grow hb2, (hF ha).out.2.1.grow hb2, (hF ha).out.2.2.grow hb2⟩), fun h => absurd (show b' 25 = true from h) (by rw [hap]; decide), hE24_5, hE5_4, hE4_2, hE2_1, hE4_3, hE24_11, hE11_10, hE10_8, hE8_7, hE10_9, fun _ => rfl, fun _ => hall ⟨16, .data⟩ (by simp) rfl, hE16_14, hE14_13, hE16_15, hE24_23, hE23_22, hE22_20, hE20_19, hE22_21, hW1, hW2, hW3, hW4, hW5, hW7, hW8, hW9, hW10, hW11, hW13, hW14, hW15, hW16, fun _ => rfl, hW19, hW20, hW21, hW22, hW23⟩
    · obtain rfl := Option.some.inj hi
      clear hi hil
      refine wpOp_step rfl (fun K hK => ?_)
      have HKK := Lib.hid hK; clear hK
      simp only [putAll, Act.put, List.setIfInBounds_toArray, List.set_cons_zero, List.set_cons_succ]
      go_simp
      exact HKK.out _ _ ⟨_, by simp only [putAll, Act.put, List.setIfInBounds_toArray, List.set_cons_zero, List.set_cons_succ] <;> rfl, h0, h1, h2, h3, h4, h5, h6, h7, h8, h9, h10, h11, h12, h13, h14, h15, h16, h17, fun _ => rfl, h19, h20, h21, h22, h23, h24, hB, hF, hG, hE24_5, hE5_4, hE4_2, hE2_1, hE4_3, hE24_11, hE11_10, hE10_8, hE8_7, hE10_9, hE24_17, hE17_16, hE16_14, hE14_13, hE16_15, hE24_23, hE23_22, hE22_20, hE20_19, hE22_21, hW1, hW2, hW3, hW4, hW5, hW7, hW8, hW9, hW10, hW11, hW13, hW14, hW15, hW16, hW17, hW19, hW20, hW21, hW22, hW23⟩
    · obtain rfl := Option.some.inj hi
      clear hi hil
      have hap : b' 25 = false := by
        cases hz : b' 25 with
        | false => rfl
        | true => exact absurd (hW19 hz) (by rw [hun]; decide)
      have d18 := h18 (hall ⟨18, .data⟩ (by simp) rfl)
      have x0 := (hF hap).out.1.b3
      refine wpOp_step rfl (fun K hK => ?_)
      have HKK := Lib.hid hK; clear hK
      simp only [putAll, Act.put, List.setIfInBounds_toArray, List.set_cons_zero, List.set_cons_succ]
      go_simp
      exact HKK.out _ _ ⟨_, by simp only [putAll, Act.put, List.setIfInBounds_toArray, List.set_cons_zero, List.set_cons_succ, d18] <;> rfl, h0, h1, h2, h3, h4, h5, h6, h7, h8, h9, h10, h11, h12, h13, h14, h15, h16, h17, h18, fun _ => rfl, h20, h21, h22, h23, h24, hB, hF, hG, hE24_5, hE5_4, hE4_2, hE2_1, hE4_3, hE24_11, hE11_10, hE10_8, hE8_7, hE10_9, hE24_17, hE17_16, hE16_14, hE14_13, hE16_15, hE24_23, hE23_22, hE22_20, fun _ => rfl, hE22_21, hW1, hW2, hW3, hW4, hW5, hW7, hW8, hW9, hW10, hW11, hW13, hW14, hW15, hW16, hW17, fun _ => rfl, hW20, hW21, hW22, hW23⟩
    · obtain rfl := Option.some.inj hi
      clear hi hil
      have hap : b' 25 = false := by
        cases hz : b' 25 with
        | false => rfl
        | true => exact absurd (hW20 hz) (by rw [hun]; decide)
      have d19 := h19 (hall ⟨19, .data⟩ (by simp) rfl)
      refine wpOp_step rfl (fun K hK => ?_)
      have HKK := Lib.hid hK; clear hK
      simp only [putAll, Act.put, List.setIfInBounds_toArray, List.set_cons_zero, List.set_cons_succ]
      go_simp
      refine (HO4.out w').mono ?_
      rintro e w2 ⟨rfl, hb2⟩
      exact HKK.out _ _ ⟨_, by simp only [putAll, Act.put, List.setIfInBounds_toArray, List.set_cons_zero, List.set_cons_succ, d19] <;> rfl, h0, h1, h2, h3, h4, h5, h6, h7, h8, h9, h10, h11, h12, h13, h14, h15, h16, h17, h18, h19, fun _ => rfl, h21, h22, h23, h24, fun ha => Lib.hid ⟨(hB ha).out.1.trans (hb2.mono (hB ha).out.2), Nat.le_trans (hB ha).out.2 hb2.size⟩, fun ha => Lib.hid (⟨(hF ha).out.1.grow hb2, (hF ha).out.2.1.grow hb2, (hF ha).out.2.2.grow hb2⟩), fun h => absurd (show b' 25 = true from h) (by rw [hap]; decide), hE24_5, hE5_4, hE4_2, hE2_1, hE4_3, hE24_11, hE11_10, hE10_8, hE8_7, hE10_9, hE24_17, hE17_16, hE16_14, hE14_13, hE16_15, hE24_23, hE23_22, fun _ => rfl, fun _ => hall ⟨19, .data⟩ (by simp) rfl, hE22_21, hW1, hW2, hW3, hW4, hW5, hW7, hW8, hW9, hW10, hW11, hW13, hW14, hW15, hW16, hW17, hW19, fun _ => rfl, hW21, hW22, hW23⟩
    · obtain rfl := Option.some.inj hi
      clear hi hil
      have hap : b' 25 = false := by
        cases hz : b' 25 with
        | false => rfl
        | true => exact absurd (hW21 hz) (by rw [hun]; decide)
      have k := (hF hap).out.2.2
      have x0 : w'.cell? ⟨g5, 0, none⟩ = some (.int .i64 nh) := k.cell 0
      have x1 : w'.cell? ⟨g5, 1, none⟩ = some (.int .u64 nl) := k.cell 1
      clear k
      refine wpOp_step rfl (fun K hK => ?_)
      have HKK := Lib.hid hK; clear hK
      simp only [putAll, Act.put, List.setIfInBounds_toArray, List.set_cons_zero, List.set_cons_succ]
      go_simp
      exact HKK.out _ _ ⟨_, by simp only [putAll, Act.put, List.setIfInBounds_toArray, List.set_cons_zero, List.set_cons_succ] <;> rfl, h0, h1, h2, h3, h4, h5, h6, h7, h8, h9, h10, h11, h12, h13, h14, h15, h16, h17, h18, h19, h20, fun _ => rfl, h22, h23, h24, hB, hF, hG, hE24_5, hE5_4, hE4_2, hE2_1, hE4_3, hE24_11, hE11_10, hE10_8, hE8_7, hE10_9, hE24_17, hE17_16, hE16_14, hE14_13, hE16_15, hE24_23, hE23_22, hE22_20, hE20_19, fun _ => rfl, hW1, hW2, hW3, hW4, hW5, hW7, hW8, hW9, hW10, hW11, hW13, hW14, hW15, hW16, hW17, hW19, hW20, fun _ => rfl, hW22, hW23⟩
    · obtain rfl := Option.some.inj hi
      clear hi hil
      have hap : b' 25 = false := by
        cases hz : b' 25 with
        | false => rfl
        | true => exact absurd (hW22 hz) (by rw [hun]; decide)
      have d20 := h20 (hall ⟨20, .data⟩ (by simp) rfl)
      have d21 := h21 (hall ⟨21, .data⟩ (by simp) rfl)
      refine wpOp_step rfl (fun K hK => ?_)
      have HKK := Lib.hid hK; clear hK
      simp only [putAll, Act.put, List.setIfInBounds_toArray, List.set_cons_zero, List.set_cons_succ]
      go_simp
      refine (HP4.out w').mono ?_
      rintro e w2 ⟨rfl, hb2⟩
      exact HKK.out _ _ ⟨_, by simp only [putAll, Act.put, List.setIfInBounds_toArray, List.set_cons_zero, List.set_cons_succ, d20, d21] <;> rfl, h0, h1, h2, h3, h4, h5, h6, h7, h8, h9, h10, h11, h12, h13, h14, h15, h16, h17, h18, h19, h20, h21, fun _ => rfl, h23, h24, fun ha => Lib.hid ⟨(hB ha).out.1.trans (hb2.mono (hB ha).out.2), Nat.le_trans (hB ha).out.2 hb2.size⟩, fun ha => Lib.hid (⟨(hF ha).out.1.grow hb2, (hF ha).out.2.1.grow hb2, (hF ha).out.2.2.grow hb2⟩), fun h => absurd (show b' 25 = true from h) (by rw [hap]; decide), hE24_5, hE5_4, hE4_2, hE2_1, hE4_3, hE24_11, hE11_10, hE10_8, hE8_7, hE10_9, hE24_17, hE17_16, hE16_14, hE14_13, hE16_15, hE24_23, fun _ => rfl, fun _ => hall ⟨20, .data⟩ (by simp) rfl, hE20_19, fun _ => hall ⟨21, .data⟩ (by simp) rfl, hW1, hW2, hW3, hW4, hW5, hW7, hW8, hW9, hW10, hW11, hW13, hW14, hW15, hW16, hW17, hW19, hW20, hW21, fun _ => rfl, hW23⟩
    · obtain rfl := Option.some.inj hi
      clear hi hil
      have hap : b' 25 = false := by
        cases hz : b' 25 with
        | false => rfl
        | true => exact absurd (hW23 hz) (by rw [hun]; decide)
      have d22 := h22 (hall ⟨22, .data⟩ (by simp) rfl)
      refine wpOp_step rfl (fun K hK => ?_)
      have HKK := Lib.hid hK; clear hK
      simp only [putAll, Act.put, List.setIfInBounds_toArray, List.set_cons_zero, List.set_cons_succ]
      go_simp
      refine (HN4.out w').mono ?_
      rintro e w2 ⟨rfl, hb2⟩
      exact HKK.out _ _ ⟨_, by simp only [putAll, Act.put, List.setIfInBounds_toArray, List.set_cons_zero, List.set_cons_succ, d22] <;> rfl, h0, h1, h2, h3, h4, h5, h6, h7, h8, h9, h10, h11, h12, h13, h14, h15, h16, h17, h18, h19, h20, h21, h22, fun _ => rfl, h24, fun ha => Lib.hid ⟨(hB ha).out.1.trans (hb2.mono (hB ha).out.2), Nat.le_trans (hB ha).out.2 hb2.size⟩, fun ha => Lib.hid (⟨(hF ha).out.1.grow hb2, (hF ha).out.2.1.grow hb2, (hF ha).out.2.2.grow hb2⟩), fun h => absurd (show b' 25 = true from h) (by rw [hap]; decide), hE24_5, hE5_4, hE4_2, hE2_1, hE4_3, hE24_11, hE11_10, hE10_8, hE8_7, hE10_9, hE24_17, hE17_16, hE16_14, hE14_13, hE16_15, fun _ => rfl, fun _ => hall ⟨22, .data⟩ (by simp) rfl, hE22_20, hE20_19, hE22_21, hW1, hW2, hW3, hW4, hW5, hW7, hW8, hW9, hW10, hW11, hW13, hW14, hW15, hW16, hW17, hW19, hW20, hW21, hW22, fun _ => rfl⟩
    · obtain rfl := Option.some.inj hi
      clear hi hil
      have d5 := h5 (hall ⟨5, .data⟩ (by simp) rfl)
      have d11 := h11 (hall ⟨11, .data⟩ (by simp) rfl)
      have d17 := h17 (hall ⟨17, .data⟩ (by simp) rfl)
      have d23 := h23 (hall ⟨23, .data⟩ (by simp) rfl)
      refine wpOp_step rfl (fun K hK => ?_)
      have HKK := Lib.hid hK; clear hK
      simp only [putAll, Act.put, List.setIfInBounds_toArray, List.set_cons_zero, List.set_cons_succ]
      go_simp
      exact HKK.out _ _ ⟨_, by simp only [putAll, Act.put, List.setIfInBounds_toArray, List.set_cons_zero, List.set_cons_succ, d5, d11, d17, d23] <;> rfl, h0, h1, h2, h3, h4, h5, h6, h7, h8, h9, h10, h11, h12, h13, h14, h15, h16, h17, h18, h19, h20, h21, h22, h23, fun _ => rfl, hB, hF, hG, fun _ => hall ⟨5, .data⟩ (by simp) rfl, hE5_4, hE4_2, hE2_1, hE4_3, fun _ => hall ⟨11, .data⟩ (by simp) rfl, hE11_10, hE10_8, hE8_7, hE10_9, fun _ => hall ⟨17, .data⟩ (by simp) rfl, hE17_16, hE16_14, hE14_13, hE16_15, fun _ => hall ⟨23, .data⟩ (by simp) rfl, hE23_22, hE22_20, hE20_19, hE22_21, hW1, hW2, hW3, hW4, hW5, hW7, hW8, hW9, hW10, hW11, hW13, hW14, hW15, hW16, hW17, hW19, hW20, hW21, hW22, hW23⟩
    · obtain rfl := Option.some.inj hi
      clear hi hil
      have hap : b' 25 = false := hun
      have d24 := h24 (hall ⟨24, .data⟩ (by simp) rfl)
      have kr := (hF hap).out.2.1
      have c0 := kr.b0
      have c1 := kr.b1
      have c2 := kr.b2
      have c3 := kr.b3
      have f0 := kr.free 0
      have f1 := kr.free 1
      have f2 := kr.free 2
      have f3 := kr.free 3
      have lr := kr.lt
      clear kr
      refine wpOp_step rfl (fun K hK => ?_)
      have HKK := Lib.hid hK; clear hK
      simp only [putAll, Act.put, List.setIfInBounds_toArray, List.set_cons_zero, List.set_cons_succ]
      go_simp
      exact HKK.out _ _ ⟨undef, by simp only [putAll, Act.put, List.setIfInBounds_toArray, List.set_cons_zero, List.set_cons_succ, d24] <;> rfl, h0, h1, h2, h3, h4, h5, h6, h7, h8, h9, h10, h11, h12, h13, h14, h15, h16, h17, h18, h19, h20, h21, h22, h23, h24, fun h => Bool.noConfusion h, fun h => Bool.noConfusion h, fun _ => Lib.hid (⟨below_four (hB hap).out.1 (by omega) _ _ _ _, (hF hap).out.2.1.setB ⟨z1, z2, z3, z4⟩⟩), hE24_5, hE5_4, hE4_2, hE2_1, hE4_3, hE24_11, hE11_10, hE10_8, hE8_7, hE10_9, hE24_17, hE17_16, hE16_14, hE14_13, hE16_15, hE24_23, hE23_22, hE22_20, hE20_19, hE22_21, fun _ => hE2_1 (hE4_2 (hE5_4 (hE24_5 (hall ⟨24, .data⟩ (by simp) rfl)))), fun _ => hE4_2 (hE5_4 (hE24_5 (hall ⟨24, .data⟩ (by simp) rfl))), fun _ => hE4_3 (hE5_4 (hE24_5 (hall ⟨24, .data⟩ (by simp) rfl))), fun _ => hE5_4 (hE24_5 (hall ⟨24, .data⟩ (by simp) rfl)), fun _ => hE24_5 (hall ⟨24, .data⟩ (by simp) rfl), fun _ => hE8_7 (hE10_8 (hE11_10 (hE24_11 (hall ⟨24, .data⟩ (by simp) rfl)))), fun _ => hE10_8 (hE11_10 (hE24_11 (hall ⟨24, .data⟩ (by simp) rfl))), fun _ => hE10_9 (hE11_10 (hE24_11 (hall ⟨24, .data⟩ (by simp) rfl))), fun _ => hE11_10 (hE24_11 (hall ⟨24, .data⟩ (by simp) rfl)), fun _ => hE24_11 (hall ⟨24, .data⟩ (by simp) rfl), fun _ => hE14_13 (hE16_14 (hE17_16 (hE24_17 (hall ⟨24, .data⟩ (by simp) rfl)))), fun _ => hE16_14 (hE17_16 (hE24_17 (hall ⟨24, .data⟩ (by simp) rfl))), fun _ => hE16_15 (hE17_16 (hE24_17 (hall ⟨24, .data⟩ (by simp) rfl))), fun _ => hE17_16 (hE24_17 (hall ⟨24, .data⟩ (by simp) rfl)), fun _ => hE24_17 (hall ⟨24, .data⟩ (by simp) rfl), fun _ => hE20_19 (hE22_20 (hE23_22 (hE24_23 (hall ⟨24, .data⟩ (by simp) rfl)))), fun _ => hE22_20 (hE23_22 (hE24_23 (hall ⟨24, .data⟩ (by simp) rfl))), fun _ => hE22_21 (hE23_22 (hE24_23 (hall ⟨24, .data⟩ (by simp) rfl))), fun _ => hE23_22 (hE24_23 (hall ⟨24, .data⟩ (by simp) rfl)), fun _ => hE24_23 (hall ⟨24, .data⟩ (by simp) rfl)⟩
    · omega
  · rintro b' vs w2 hall ⟨h0, h1, h2, h3, h4, h5, h6, h7, h8, h9, h10, h11, h12, h13, h14, h15, h16, h17, h18, h19, h20, h21, h22, h23, h24, hB, hF, hG, hE24_5, hE5_4, hE4_2, hE2_1, hE4_3, hE24_11, hE11_10, hE10_8, hE8_7, hE10_9, hE24_17, hE17_16, hE16_14, hE14_13, hE16_15, hE24_23, hE23_22, hE22_20, hE20_19, hE22_21, hW1, hW2, hW3, hW4, hW5, hW7, hW8, hW9, hW10, hW11, hW13, hW14, hW15, hW16, hW17, hW19, hW20, hW21, hW22, hW23⟩
    have d0 := h0 (hall 0 (by simp))
    have d1 := h1 (hall 1 (by simp))
    have d2 := h2 (hall 2 (by simp))
    have d3 := h3 (hall 3 (by simp))
    have d4 := h4 (hall 4 (by simp))
    have d5 := h5 (hall 5 (by simp))
    have d6 := h6 (hall 6 (by simp))
    have d7 := h7 (hall 7 (by simp))
    have d8 := h8 (hall 8 (by simp))
    have d9 := h9 (hall 9 (by simp))
    have d10 := h10 (hall 10 (by simp))
    have d11 := h11 (hall 11 (by simp))
    have d12 := h12 (hall 12 (by simp))
    have d13 := h13 (hall 13 (by simp))
    have d14 := h14 (hall 14 (by simp))
    have d15 := h15 (hall 15 (by simp))
    have d16 := h16 (hall 16 (by simp))
    have d17 := h17 (hall 17 (by simp))
    have d18 := h18 (hall 18 (by simp))
    have d19 := h19 (hall 19 (by simp))
    have d20 := h20 (hall 20 (by simp))
    have d21 := h21 (hall 21 (by simp))
    have d22 := h22 (hall 22 (by simp))
    have d23 := h23 (hall 23 (by simp))
    have d24 := h24 (hall 24 (by simp))
    have GG := hG (hall 25 (by simp))
    simp only [putAll, Act.put, List.setIfInBounds_toArray, List.set_cons_zero, List.set_cons_succ, d0, d1, d2, d3, d4, d5, d6, d7, d8, d9, d10, d11, d12, d13, d14, d15, d16, d17, d18, d19, d20, d21, d22, d23, d24]
    clear hall h0 d0 h1 d1 h2 d2 h3 d3 h4 d4 h5 d5 h6 d6 h7 d7 h8 d8 h9 d9 h10 d10 h11 d11 h12 d12 h13 d13 h14 d14 h15 d15 h16 d16 h17 d17 h18 d18 h19 d19 h20 d20 h21 d21 h22 d22 h23 d23 h24 d24 hB hF hG hE24_5 hE5_4 hE4_2 hE2_1 hE4_3 hE24_11 hE11_10 hE10_8 hE8_7 hE10_9 hE24_17 hE17_16 hE16_14 hE14_13 hE16_15 hE24_23 hE23_22 hE22_20 hE20_19 hE22_21 hW1 hW2 hW3 hW4 hW5 hW7 hW8 hW9 hW10 hW11 hW13 hW14 hW15 hW16 hW17 hW19 hW20 hW21 hW22 hW23
    go_wp2_with fail
    exact bodyPost_ret (results_box 4 rfl rfl GG.out.2) rfl ⟨rfl, GG.out.1⟩
set_option maxHeartbeats 1000000 in
set_option maxRecDepth 100000 in
theorem reach_none (b : Bx) (h : Int) (w : World) (HE : Hid (∀ w, Calls Tryd.prog 48 #[.agg #[.int .i64 b.x0, .int .i64 b.y0, .int .i64 b.x1, .int .i64 b.y1]] w fun e w' => e = .returned (.bool true) ∧ Below w.heap.size w w')) :
    Calls Tryd.prog 20 #[.agg #[.int .i64 b.x0, .int .i64 b.y0, .int .i64 b.x1, .int .i64 b.y1], .int .i64 h] w fun e w' => e = .returned (.agg (four ⟨0, 0, 0, 0⟩)) ∧ Below w.heap.size w w' := by
  go_enter Tryd.func20, Tryd.ntmps20
  go_wp2_with fail
  obtain ⟨w0, hw0⟩ : ∃ W, (w.alloc (.cells #[.int .i64 b.x0, .int .i64 b.y0, .int .i64 b.x1, .int .i64 b.y1] 51)).alloc (.cells #[.int .i64 0, .int .i64 0, .int .i64 0, .int .i64 0] 51) = W := ⟨_, rfl⟩
  have S0 : Hid (Below w.heap.size w w0 ∧ w.heap.size + 2 ≤ w0.heap.size ∧ Blk w0 w.heap.size 51 (four b) ∧ Blk w0 (w.heap.size + 1) 51 (four ⟨0, 0, 0, 0⟩)) := by
    rw [← hw0]
    exact ⟨((Below.refl _ _).alloc (Nat.le_refl _) _).alloc (by simp) _, by simp, (Blk.new _ _ _).alloc _, Blk.newAt _ _ _ (by simp)⟩
  rw [hw0]
  clear hw0
  refine (HE.out _).mono ?_
  rintro e w1 ⟨rfl, hb⟩
  have S1 : Hid (Below w.heap.size w w1 ∧ w.heap.size + 2 ≤ w1.heap.size ∧ Blk w1 w.heap.size 51 (four b) ∧ Blk w1 (w.heap.size + 1) 51 (four ⟨0, 0, 0, 0⟩)) := ⟨S0.out.1.trans (hb.mono (by have := S0.out.2.1; omega)), Nat.le_trans S0.out.2.1 hb.size, S0.out.2.2.1.grow hb, S0.out.2.2.2.grow hb⟩
  clear hb S0
  have kr := S1.out.2.2.2
  have c0 := kr.b0
  have c1 := kr.b1
  have c2 := kr.b2
  have c3 := kr.b3
  have f0 := kr.free 0
  have f1 := kr.free 1
  have f2 := kr.free 2
  have f3 := kr.free 3
  have lr := kr.lt
  clear kr
  go_wp2_with fail
  exact bodyPost_ret (results_box 4 rfl rfl (S1.out.2.2.2.setB ⟨0, 0, 0, 0⟩)) rfl ⟨rfl, below_four S1.out.1 (by omega) _ _ _ _⟩
theorem reach_c (b : Bx) (h : Int) (hh : 1 ≤ h ∧ h ≤ 32768) (hx0 : I64 b.x0) (hy0 : I64 b.y0) (hx1 : I64 b.x1) (hy1 : I64 b.y1) (w : World) :
    Calls Tryd.prog 20 #[.agg #[.int .i64 b.x0, .int .i64 b.y0, .int .i64 b.x1, .int .i64 b.y1], .int .i64 h] w fun e w' => e = .returned (.agg (four (reachI b h))) ∧ Below w.heap.size w w' := by
  have HE := Lib.hid (empty_c b)
  unfold reachI
  cases he : emptyI b
  · rw [he] at HE
    rw [if_neg (by decide)]
    have hI : I64 h := by unfold I64; omega
    have t1 : ∀ x, I64 x → (ofI x).toInt = x := fun x hx => ofI_toInt x hx
    have tm : (ofI 2 * ofI h).toInt = 2 * h := by
      refine toInt_of _ _ (by omega) (by omega) ?_
      exact mul_mod 2 h (by unfold I64; omega) hI
    have ts : ∀ x, I64 x → (ofI x - ofI 2 * ofI h).toInt = x - 2 * h := fun x hx => by
      rw [BitVec.toInt_sub, t1 x hx, tm]
      unfold I64 at hx
      exact Int.bmod_eq_of_le (by omega) (by omega)
    have ta : ∀ x, I64 x → (ofI x + ofI 2 * ofI h).toInt = x + 2 * h := fun x hx => by
      rw [BitVec.toInt_add, t1 x hx, tm]
      unfold I64 at hx
      exact Int.bmod_eq_of_le (by omega) (by omega)
    have n1 := nearest_c (ofI b.x0 - ofI 2 * ofI h)
    have n2 := nearest_c (ofI b.y0 - ofI 2 * ofI h)
    have n3 := nearest_c (ofI b.x1 + ofI 2 * ofI h)
    have n4 := nearest_c (ofI b.y1 + ofI 2 * ofI h)
    rw [ts _ hx0] at n1
    rw [ts _ hy0] at n2
    rw [ta _ hx1] at n3
    rw [ta _ hy1] at n4
    exact reach_walk b h _ _ _ _ _ _ _ _ _ _ _ _ _ _ _ _ _ _ _ _ _ _ w HE (Lib.hid fun w => mul_c 2 h w (by unfold I64; omega) hI)
      (Lib.hid fun w => of_c _ w hx0) (Lib.hid fun w => sub_c _ _ w) (Lib.hid n1) (Lib.hid fun w => of_c _ w hy0) (Lib.hid fun w => sub_c _ _ w) (Lib.hid n2)
      (Lib.hid fun w => of_c _ w hx1) (Lib.hid fun w => add_c _ _ w) (Lib.hid n3) (Lib.hid fun w => of_c _ w hy1) (Lib.hid fun w => add_c _ _ w) (Lib.hid n4)
  · rw [he] at HE
    rw [if_pos rfl]
    exact reach_none b h w HE
end Go.Proofs.YtdidbejinfkhbaaDoor
