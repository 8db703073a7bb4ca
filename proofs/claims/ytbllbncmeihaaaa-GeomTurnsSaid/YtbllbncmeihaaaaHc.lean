/- The fixed answers of layer 3. -/
import Derived.Test.YtbllbncmeihaaaaHb
namespace Go.Proofs.Ytbllbncmeihaaaa
open Go.RowKit
/-- The cells of a row of points. -/
def flatL : List Pt → List Value
  | [] => []
  | p :: l => .int .i64 p.1 :: .int .i64 p.2 :: flatL l
def flat (l : List Pt) : Array Value := (flatL l).toArray
theorem flatL_at : ∀ (l : List Pt) (i : Nat) (p : Pt), l[i]? = some p → (flatL l)[i * 2]? = some (.int .i64 p.1) ∧ (flatL l)[i * 2 + 1]? = some (.int .i64 p.2)
  | [], _, _, h => by cases h
  | q :: l, 0, p, h => by
    obtain rfl : q = p := by simpa using h
    exact ⟨rfl, rfl⟩
  | q :: l, i + 1, p, h => by
    have h := flatL_at l i p (by simpa using h)
    rw [show (i + 1) * 2 = i * 2 + 1 + 1 by omega]
    exact h
theorem PtsAt.ofBlk {w : World} {g : Nat} {t : TypeId} {l : List Pt} (h : Blk w g t (flat l)) : PtsAt w g 0 l := fun i p hp => by
  have e := flatL_at l i p hp
  rw [Nat.zero_add, h.cell, h.cell]
  simpa [flat] using e
theorem Row.new (w : World) (l : List Pt) (t : TypeId) (cs : Array Value) (n : Nat) (hcs : cs = flat l) (hn : n = l.length) : Row (w.alloc (.cells cs t)) (.slice (some ⟨w.heap.size, 0, none⟩) n n) l := by
  subst hcs hn
  exact .inr (.inr ⟨_, _, _, rfl, by simp, PtsAt.ofBlk (Blk.new w t (flat l))⟩)
set_option maxHeartbeats 1000000 in
set_option maxRecDepth 100000 in
theorem awake_c (w : World) : Calls Try.prog 11 #[] w fun e w' => e = .returned (.bool true) ∧ Below w.heap.size w w' := by
  have HA := Lib.hid at_c
  have HS : Hid (∀ w, Calls Try.prog 12 #[.agg #[.int .i64 0, .int .i64 0], .agg #[.int .i64 2, .int .i64 0], .agg #[.int .i64 1, .int .i64 1]] w fun e w' => e = .returned (.int .i64 1) ∧ Below w.heap.size w w') := fun w => side_c 0 0 2 0 1 1 w (by decide)
  go_enter Try.func11, Try.ntmps11
  go_wp2_with fail
  refine (HA.out _ _ _).mono ?_
  rintro e w1 ⟨rfl, hb1⟩
  go_wp2_with fail
  refine (HA.out _ _ _).mono ?_
  rintro e w2 ⟨rfl, hb2⟩
  go_wp2_with fail
  refine (HA.out _ _ _).mono ?_
  rintro e w3 ⟨rfl, hb3⟩
  go_wp2_with fail
  refine (HS.out _).mono ?_
  rintro e w4 ⟨rfl, hb4⟩
  have B4 : Hid (Below w.heap.size w w4) := below_next (below_next (below_next hb1 hb2) hb3) hb4
  clear hb1 hb2 hb3 hb4
  go_wp2_with fail
  refine (HA.out _ _ _).mono ?_
  rintro e w5 ⟨rfl, hb5⟩
  go_wp2_with fail
  refine (HA.out _ _ _).mono ?_
  rintro e w6 ⟨rfl, hb6⟩
  go_wp2_with fail
  refine (HA.out _ _ _).mono ?_
  rintro e w7 ⟨rfl, hb7⟩
  go_wp2_with fail
  refine (HA.out _ _ _).mono ?_
  rintro e w8 ⟨rfl, hb8⟩
  have B8 : Hid (Below w.heap.size w w8) := below_next (below_next (below_next (below_next B4.out hb5) hb6) hb7) hb8
  clear hb5 hb6 hb7 hb8
  go_wp2_with fail
  refine (HA.out _ _ _).mono ?_
  rintro e w9 ⟨rfl, hb9⟩
  have R9 : Hid (Row w9 (.slice (some ⟨w8.heap.size, 0, none⟩) 4 4) [(0, 0), (2, 0), (2, 2), (0, 2)]) := (Row.new w8 [(0, 0), (2, 0), (2, 2), (0, 2)] _ _ 4 rfl rfl).on hb9
  have B9 : Hid (Below w.heap.size w w9) := below_next (B8.out.alloc B8.out.size _) hb9
  clear hb9
  go_wp2_with fail
  refine (winds_c _ _ 1 1 _ (by decide) R9.out (by decide) (by decide)).mono ?_
  rintro e w10 ⟨he, hb10⟩
  rw [show windsI [(0, 0), (2, 0), (2, 2), (0, 2)] (1, 1) = 1 by decide] at he
  subst he
  have B10 : Hid (Below w.heap.size w w10) := below_next B9.out hb10
  clear hb10
  go_wp2_with fail
  refine (HA.out _ _ _).mono ?_
  rintro e w11 ⟨rfl, hb11⟩
  have B11 : Hid (Below w.heap.size w w11) := below_next B10.out hb11
  clear hb11
  go_wp2_with fail
  refine (bound_c _ [(1, 1)] _ (by decide) (Row.new w11 [(1, 1)] _ _ 1 rfl rfl) (by decide)).mono ?_
  rintro e w12 ⟨he, hb12⟩
  rw [show four (boundI [(1, 1)]) = #[.int .i64 1, .int .i64 1, .int .i64 2, .int .i64 2] by rfl] at he
  subst he
  have B12 : Hid (Below w.heap.size w w12) := below_next (B11.out.alloc B11.out.size _) hb12
  clear hb12
  go_wp2_with fail
  go_ret
  exact ⟨rfl, B12.out⟩
end Go.Proofs.Ytbllbncmeihaaaa
