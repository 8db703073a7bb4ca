/- Layer 6: the law PathApplies: what is refused. -/
import Derived.Test.YtffgpikhahpomaaDoorMf
namespace Go.Proofs.YtffgpikhahpomaaDoor
open Go.RowKit
set_option maxHeartbeats 8000000 in
set_option maxRecDepth 100000 in
theorem applies_long (ao : Option Addr) (n c : Nat) (m : Mx) (w : World) (hr : Rd w) (hl : 100 < n) : Calls Tryd.prog 7 #[.slice ao n c, .agg (six m)] w fun e w' => e = .returned (.bool true) ∧ Below w.heap.size w w' := by
  have HR := Lib.hid hr
  have hd : decide ((n : Int) > 100) = true := decide_eq_true (by omega)
  have B0 : Hid (Below w.heap.size w (w.alloc (.cells (six m) 67))) := (Below.refl _ _).alloc (Nat.le_refl _) _
  clear hl hr
  go_enter Tryd.func7, Tryd.ntmps7
  go_wp2_with fail
  refine (awake_c _ (HR.out.on B0.out)).mono ?_
  rintro e w1 ⟨rfl, hb⟩
  have BZ := Lib.hid (below_next (B0.out) hb)
  clear hb
  go_wp2_with fail
  go_ret
  exact ⟨rfl, BZ.out⟩
set_option maxHeartbeats 8000000 in
set_option maxRecDepth 100000 in
theorem applies_bad (ao : Option Addr) (n c : Nat) (l : List Sg) (m : Mx) (w : World) (HA : Hid (Rd w ∧ RowS w (.slice ao n c) l ∧ l.length = n ∧ n ≤ 100)) (z : Int) (hz : (z != 0) = true) (HX : Hid (checkI l = z ∧ applyI m l = (z, []))) : Calls Tryd.prog 7 #[.slice ao n c, .agg (six m)] w fun e w' => e = .returned (.bool true) ∧ Below w.heap.size w w' := by
  have hzz : (z == z) = true := by simp
  have HR := Lib.hid HA.out.1
  have HROW := Lib.hid HA.out.2.1
  have HN := Lib.hid HA.out.2.2.1
  have hn1 := HA.out.2.2.2
  have hgt : decide ((n : Int) > 100) = false := decide_eq_false (by omega)
  clear hn1
  have HREF : Hid (∀ W v L, L.length ≤ 5000 → RowS W v L → Calls Tryd.prog 12 #[v] W fun e w' => ∃ u, e = .returned u ∧ OwnS w' W.heap.size 60 u L ∧ Below W.heap.size W w') := fun W v L h1 h2 => ref_c W v L h1 h2
  have HRC : Hid (∀ W v, RowS W v l → Calls Tryd.prog 11 #[v] W fun e w' => e = .returned (.int .i64 z) ∧ Below W.heap.size W w') := fun W v h => by have := rcheck_c v l W h; rw [HX.out.1] at this; exact this
  have HAPP : Hid (∀ W, Below w.heap.size w W → Calls Tryd.prog 27 #[.slice ao n c, .agg #[.int .i64 m.a, .int .i64 m.b, .int .i64 m.c, .int .i64 m.d, .int .i64 m.e, .int .i64 m.f]] W (ToldS W (z, []))) := fun W h => by have := papply_c ao n c m l W (HR.out.on h) (HROW.out.on h); rw [HX.out.2] at this; exact this
  obtain ⟨w0, hw0⟩ : ∃ w0, w.alloc (.cells (six m) 67) = w0 := ⟨_, rfl⟩
  have B0 : Hid (Below w.heap.size w w0 ∧ w.heap.size < w0.heap.size) := by rw [← hw0]; exact ⟨(Below.refl _ _).alloc (Nat.le_refl _) _, by simp⟩
  have K0 : Hid (Blk w0 w.heap.size 67 (six m)) := by rw [← hw0]; exact Blk.new _ _ _
  have HW0 := Lib.hid hw0
  clear hw0
  go_enter Tryd.func7, Tryd.ntmps7
  go_wp2_with fail
  rw [show w.alloc (.cells (six m) 67) = w0 from HW0.out]
  refine (HREF.out _ _ l (by have := HA.out.2.2; omega) (HROW.out.on B0.out.1)).mono ?_
  rintro e w1 ⟨u, rfl, ho, hb⟩
  have B1 : Hid (Below w.heap.size w w1 ∧ w.heap.size < w1.heap.size) := ⟨below_next B0.out.1 hb, Nat.lt_of_lt_of_le B0.out.2 hb.size⟩
  have K1 := Lib.hid (K0.out.grow hb)
  have HT0 := Lib.hid ho
  obtain ⟨ta, tc, rfl, _⟩ := ho.cap
  rw [HN.out] at HT0
  have T1 := Lib.hid HT0.out.row
  clear HT0 ho hb
  simp only [HN.out]
  have km := K1.out
  have m0 := km.m0
  have m1 := km.m1
  have m2 := km.m2
  have m3 := km.m3
  have m4 := km.m4
  have m5 := km.m5
  clear km
  go_wp2_with fail
  refine (HAPP.out _ B1.out.1).mono ?_
  rintro e w2 ⟨q, rfl, ho, hb⟩
  clear m0 m1 m2 m3 m4 m5
  obtain ⟨qa, qc, rfl⟩ : ∃ a c, q = .slice a 0 c := by
    rcases ho.row with ⟨rfl, _⟩ | ⟨a, c', rfl, _⟩ | ⟨b, o, c', rfl, _, _⟩ <;> exact ⟨_, _, rfl⟩
  clear ho
  have B2 : Hid (Below w.heap.size w w2 ∧ w.heap.size < w2.heap.size) := ⟨below_next B1.out.1 hb, Nat.lt_of_lt_of_le B1.out.2 hb.size⟩
  have K2 := Lib.hid (K1.out.grow hb)
  have T2 := Lib.hid (T1.out.on hb)
  clear hb
  go_wp2_with fail
  refine (HRC.out _ _ T2.out).mono ?_
  rintro e w3 ⟨rfl, hb⟩
  have B3 : Hid (Below w.heap.size w w3 ∧ w.heap.size < w3.heap.size) := ⟨below_next B2.out.1 hb, Nat.lt_of_lt_of_le B2.out.2 hb.size⟩
  have K3 := Lib.hid (K2.out.grow hb)
  have T3 := Lib.hid (T2.out.on hb)
  clear hb
  go_wp2_with fail
  refine (awake_c _ (HR.out.on B3.out.1)).mono ?_
  rintro e w4 ⟨rfl, hb⟩
  have BZ := Lib.hid (below_next (B3.out.1) hb)
  clear hb
  go_wp2_with fail
  go_ret
  exact ⟨rfl, BZ.out⟩
end Go.Proofs.YtffgpikhahpomaaDoor
