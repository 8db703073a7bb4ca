/- Layer 8: the fixed answers. -/
import Derived.Test.YtopngjpgikpmaaaCj
namespace Go.Proofs.Ytopngjpgikpmaaa
open Go.RowKit
set_option maxRecDepth 100000 in
theorem wake1 : maskO [[(0, 0), (256, 0), (256, 128), (0, 128)]] 1 ⟨0, 0, 1, 1⟩ = (0, [8]) := by decide +kernel
set_option maxRecDepth 100000 in
theorem wake2 : maskO [[(0, 0), (256, 0), (256, 128), (0, 128)], [(0, 0), (256, 0), (256, 128), (0, 128)]] 2 ⟨0, 0, 1, 1⟩ = (0, [0]) := by decide +kernel
theorem at_c (x y : Int) (w : World) : Calls Try.prog 20 #[.int .i64 x, .int .i64 y] w fun e w' => e = .returned (.agg #[.int .i64 x, .int .i64 y]) ∧ Below w.heap.size w w' := by
  go_enter Try.func20, Try.ntmps20
  go_wp2
  go_returns
  exact ⟨rfl, by go_grown⟩
/-- A slice that is built of polygons. -/
theorem polys_lit (w : World) (t : TypeId) (S : List (Value × List Pt)) (cs : Array Value) (n g : Nat) (hg : w.heap.size = g) (hcs : cs = (S.map Prod.fst).toArray) (hn : n = S.length) (h : ∀ x ∈ S, Row w x.1 x.2) : PolyR (w.alloc (.cells cs t)) (.slice (some ⟨g, 0, none⟩) n n) S := by
  subst hcs hn hg
  refine ⟨.inr (.inr ⟨w.heap.size, 0, S.length, by rw [List.length_map], by simp, fun i x hx => ?_⟩), fun x hx => (h x hx).on ((Below.refl _ _).alloc (Nat.le_refl _) _)⟩
  rw [Nat.zero_add, (Blk.new w t (S.map Prod.fst).toArray).cell]
  simpa using hx
/-- A row of one byte, opened. -/
theorem VRow.byte1 {w : World} {v : Value} {m : Nat} (h : VRow w v (bytesL [m])) : ∃ b o c, v = .slice (some ⟨b, o, none⟩) 1 c ∧ b < w.heap.size ∧ w.cell? ⟨b, o, none⟩ = some (.int .u8 (m : Int)) := by
  rcases h with ⟨_, h⟩ | ⟨_, _, _, h⟩ | ⟨b, o, c, rfl, hb, hc⟩
  · cases h
  · cases h
  · exact ⟨b, o, c, rfl, hb, hc 0 _ rfl⟩
set_option maxHeartbeats 4000000 in
set_option maxRecDepth 100000 in
theorem awake_c (w : World) : Calls Try.prog 10 #[] w fun e w' => e = .returned (.bool true) ∧ Below w.heap.size w w' := by
  have HM1 : Hid (∀ (W : World) (s v : Value), PolyR W s [(v, [(0, 0), (256, 0), (256, 128), (0, 128)])] → Calls Try.prog 12 #[s, .int .i64 1, .agg #[.int .i64 0, .int .i64 0, .int .i64 1, .int .i64 1]] W fun e w' => MaskP W (0, [8]) e w') := fun W s v h => by
    have := mask_c s [(v, [(0, 0), (256, 0), (256, 128), (0, 128)])] 1 ⟨0, 0, 1, 1⟩ W h (by simp) (by simp)
    rwa [show maskO (List.map Prod.snd [(v, [(0, 0), (256, 0), (256, 128), (0, 128)])]) 1 ⟨0, 0, 1, 1⟩ = (0, [8]) from wake1] at this
  have HM2 : Hid (∀ (W : World) (s v : Value), PolyR W s [(v, [(0, 0), (256, 0), (256, 128), (0, 128)]), (v, [(0, 0), (256, 0), (256, 128), (0, 128)])] → Calls Try.prog 12 #[s, .int .i64 2, .agg #[.int .i64 0, .int .i64 0, .int .i64 1, .int .i64 1]] W fun e w' => MaskP W (0, [0]) e w') := fun W s v h => by
    have := mask_c s [(v, [(0, 0), (256, 0), (256, 128), (0, 128)]), (v, [(0, 0), (256, 0), (256, 128), (0, 128)])] 2 ⟨0, 0, 1, 1⟩ W h (by simp) (by simp)
    rwa [show maskO (List.map Prod.snd [(v, [(0, 0), (256, 0), (256, 128), (0, 128)]), (v, [(0, 0), (256, 0), (256, 128), (0, 128)])]) 2 ⟨0, 0, 1, 1⟩ = (0, [0]) from wake2] at this
  go_enter Try.func10, Try.ntmps10
  go_wp2_with fail
  refine (at_c 0 0 _).mono ?_
  rintro e w1 ⟨rfl, hb⟩
  have B1 : Hid (Below w.heap.size w w1) := hb
  clear hb
  go_wp2_with fail
  refine (at_c 256 0 _).mono ?_
  rintro e w2 ⟨rfl, hb⟩
  have B2 : Hid (Below w.heap.size w w2) := below_next B1.out hb
  clear hb
  go_wp2_with fail
  refine (at_c 256 128 _).mono ?_
  rintro e w3 ⟨rfl, hb⟩
  have B3 : Hid (Below w.heap.size w w3) := below_next B2.out hb
  clear hb
  go_wp2_with fail
  refine (at_c 0 128 _).mono ?_
  rintro e w4 ⟨rfl, hb⟩
  have B4 : Hid (Below w.heap.size w w4) := below_next B3.out hb
  clear hb
  go_wp2_with fail
  obtain ⟨w5, hw5⟩ : ∃ X, w4.alloc (.cells #[.int .i64 0, .int .i64 0, .int .i64 256, .int .i64 0, .int .i64 256, .int .i64 128, .int .i64 0, .int .i64 128] 39) = X := ⟨_, rfl⟩
  obtain ⟨g, hg⟩ : ∃ x, w4.heap.size = x := ⟨_, rfl⟩
  have R5 : Hid (Row w5 (.slice (some ⟨g, 0, none⟩) 4 4) [(0, 0), (256, 0), (256, 128), (0, 128)] ∧ Below w.heap.size w w5) := by
    rw [← hw5, ← hg]
    exact ⟨Row.new w4 [(0, 0), (256, 0), (256, 128), (0, 128)] _ _ 4 rfl rfl, B4.out.alloc B4.out.size _⟩
  have hz5 : w5.heap.size = g + 1 := by rw [← hw5, ← hg]; simp
  have HZ5 := Lib.hid hz5
  rw [hw5, hg]
  clear hw5 hg hz5 B1 B2 B3 B4
  refine (HM1.out _ _ (.slice (some ⟨g, 0, none⟩) 4 4) (polys_lit w5 _ [(.slice (some ⟨g, 0, none⟩) 4 4, [(0, 0), (256, 0), (256, 128), (0, 128)])] _ 1 _ HZ5.out rfl rfl (by simpa using R5.out.1))).mono ?_
  rintro e w6 ⟨v1, rfl, hv1, hb1⟩
  have R6 : Hid (Row w6 (.slice (some ⟨g, 0, none⟩) 4 4) [(0, 0), (256, 0), (256, 128), (0, 128)] ∧ Below w.heap.size w w6) :=
    ⟨(R5.out.1.on ((Below.refl _ _).alloc (Nat.le_refl _) _)).on hb1, (R5.out.2.alloc R5.out.2.size _).trans (hb1.mono (by have := R5.out.2.size; simp; omega))⟩
  obtain ⟨b1, o1, c1, rfl, hl1, hc1⟩ := hv1.byte1
  have HC1 : Hid (b1 < w6.heap.size ∧ w6.cell? ⟨b1, o1, none⟩ = some (.int .u8 8)) := ⟨hl1, hc1⟩
  clear hv1 hb1 hl1 hc1 R5
  go_wp2_with fail
  obtain ⟨g6, hg6⟩ : ∃ x, w6.heap.size = x := ⟨_, rfl⟩
  have HG6 := Lib.hid hg6
  rw [hg6]
  clear hg6
  refine (HM2.out _ _ (.slice (some ⟨g, 0, none⟩) 4 4) (polys_lit w6 _ [(.slice (some ⟨g, 0, none⟩) 4 4, [(0, 0), (256, 0), (256, 128), (0, 128)]), (.slice (some ⟨g, 0, none⟩) 4 4, [(0, 0), (256, 0), (256, 128), (0, 128)])] _ 2 _ HG6.out rfl rfl (by simpa using R6.out.1))).mono ?_
  rintro e w7 ⟨v2, rfl, hv2, hb2⟩
  have B7 : Hid (Below w.heap.size w w7) := (R6.out.2.alloc R6.out.2.size _).trans (hb2.mono (by have := R6.out.2.size; simp; omega))
  obtain ⟨b2, o2, c2, rfl, hl2, hc2⟩ := hv2.byte1
  have d1 : w7.cell? ⟨b1, o1, none⟩ = some (.int .u8 8) := by
    rw [cell_below (((Below.refl w6.heap.size w6).alloc (Nat.le_refl _) _).trans (hb2.mono (by simp))) HC1.out.1]
    exact HC1.out.2
  have d2 : w7.cell? ⟨b2, o2, none⟩ = some (.int .u8 0) := hc2
  clear hv2 hb2 hl2 hc2
  go_wp2_with fail
  go_ret
  exact ⟨rfl, B7.out⟩
end Go.Proofs.Ytopngjpgikpmaaa
