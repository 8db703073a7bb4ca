/- Contracts of package wide: Sub, Neg, Cmp. -/
import Derived.Test.YticoklfgmflidaaDoorWa
namespace Go.Proofs.YticoklfgmflidaaDoor
open Go.RowKit

theorem ret_num {hi lo : Int} {u : BitVec 128} (h : hi = hiOf u ∧ lo = (loOf u : Int)) : Ending.returned (.agg #[.int .i64 hi, .int .u64 lo]) = .returned (.agg #[.int .i64 (hiOf u), .int .u64 (loOf u)]) := by rw [h.1, h.2]
theorem retI {k : IntKind} {a b : Int} (h : a = b) : Ending.returned (.int k a) = .returned (.int k b) := by rw [h]
theorem hi_zero : hiOf 0 = 0 := by decide
theorem lo_zero : (loOf 0 : Int) = 0 := by decide

/-- A number at hand in memory. -/
def NumAt (w : World) (g : Nat) (hi lo : Int) : Prop := w.heap[g]? = some (.cells #[.int .i64 hi, .int .u64 lo] 65 (0, 0))
theorem NumAt.c0 {w : World} {g : Nat} {hi lo : Int} (h : NumAt w g hi lo) : w.cell? ⟨g, 0, none⟩ = some (.int .i64 hi) := Joins.cell_of_block h 0
theorem NumAt.c1 {w : World} {g : Nat} {hi lo : Int} (h : NumAt w g hi lo) : w.cell? ⟨g, 1, none⟩ = some (.int .u64 lo) := Joins.cell_of_block h 1
theorem NumAt.free {w : World} {g : Nat} {hi lo : Int} (h : NumAt w g hi lo) (i : Nat) : w.frozen? ⟨g, i, none⟩ = false := Joins.unfrozen_of_block h i
theorem NumAt.on {w w' : World} {g : Nat} {hi lo : Int} {B : Nat} (h : NumAt w g hi lo) (hb : Below B w w') (hg : g < B) : NumAt w' g hi lo := by
  unfold NumAt; rw [hb.block g hg]; exact h

/-- A result that is a number in memory. -/
theorem results_num {fn : Func} {tmps : Array Value} {w : World} {g : Nat} {hi lo : Int} (t : Nat) (hres : fn.results = #[.cell t 65]) (ht : tmps[t]? = some (.pointer (some ⟨g, 0, none⟩)))
    (h0 : w.cell? ⟨g, 0, none⟩ = some (.int .i64 hi)) (h1 : w.cell? ⟨g, 1, none⟩ = some (.int .u64 lo)) :
    (results fn tmps).run Tryd.prog w = .ok (.agg #[.int .i64 hi, .int .u64 lo]) w := by
  simp [results, hres, ht, go_sem, h0, h1]
/-- A number stored whole. -/
theorem NumAt.stored {w : World} {g : Nat} {hi lo : Int} (h : NumAt w g hi lo) (a b : Int) : NumAt ((w.setCell ⟨g, 0, none⟩ (.int .i64 a)).setCell ⟨g, 1, none⟩ (.int .u64 b)) g a b := by
  unfold NumAt at *
  exact Joins.block_setCell (Joins.block_setCell h (.int .i64 a)) (.int .u64 b)

set_option maxHeartbeats 400000 in
theorem sub_c (u v : BitVec 128) (w : World) : Calls Tryd.prog 39 #[(.agg #[.int .i64 (hiOf u), .int .u64 (loOf u)]), (.agg #[.int .i64 (hiOf v), .int .u64 (loOf v)])] w fun e w' => e = .returned (.agg #[.int .i64 (hiOf (u - v)), .int .u64 (loOf (u - v))]) ∧ Below w.heap.size w w' := by
  have hu := toInt_split u
  have hv := toInt_split v
  have hb := hiOf_bounds u
  have hc := hiOf_bounds v
  have lu := loOf_lt' u
  have lv := loOf_lt' v
  have hm := toInt_sub_mod u v
  have l0 : 0 ≤ (loOf u : Int) := Int.natCast_nonneg _
  have l1 : 0 ≤ (loOf v : Int) := Int.natCast_nonneg _
  have H := Lib.hid (halves (u - v))
  have Hm := Lib.hid hm
  have Hu := Lib.hid hu
  have Hv := Lib.hid hv
  clear hm hu hv
  generalize hiOf u = hx at *
  generalize (loOf u : Int) = lx at *
  generalize hiOf v = hy at *
  generalize (loOf v : Int) = ly at *
  obtain ⟨c, hc0, hc1, hcb⟩ : ∃ c : Int, 0 ≤ c ∧ c ≤ 1 ∧ (if lx < ly + 0 then (1 : Int) else 0) = c ∧ (c = 1 ∧ lx < ly ∨ c = 0 ∧ ly ≤ lx) := by
    by_cases h : lx < ly
    · exact ⟨1, by omega, by omega, by rw [if_pos (by omega)], by omega⟩
    · exact ⟨0, by omega, by omega, by rw [if_neg (by omega)], by omega⟩
  have E1 := run_Sub64 lx ly 0 (by omega) (by omega) (by omega) (by omega) (by omega)
  rw [hcb.1] at E1
  have Hc := Lib.hid hcb.2
  clear hcb
  have E2 := run_Sub64 (IntKind.u64.wrap hx) (IntKind.u64.wrap hy) c (by rw [IntKind.wrap_u64]; omega) (by rw [IntKind.wrap_u64]; omega) (by rw [IntKind.wrap_u64]; omega) (by omega) (by omega)
  generalize (if IntKind.u64.wrap hx < IntKind.u64.wrap hy + c then (1 : Int) else 0) = c2 at E2
  go_enter Tryd.func39, Tryd.ntmps39
  go_wp2_with (first | rw [E1] | rw [E2])
  go_returns
  clear E1 E2
  have hc3 := Hc.out
  refine ⟨ret_num (H.out _ _ ?_ ?_ (by omega) (by omega) ?_), by go_grown⟩
  · unfold wrap64; omega
  · unfold wrap64; omega
  · rw [Hm.out, ← Hu.out, ← Hv.out, IntKind.wrap_u64, IntKind.wrap_u64]; unfold wrap64; omega
set_option maxHeartbeats 400000 in
theorem neg_c (u : BitVec 128) (w : World) : Calls Tryd.prog 44 #[(.agg #[.int .i64 (hiOf u), .int .u64 (loOf u)])] w fun e w' => e = .returned (.agg #[.int .i64 (hiOf (-u)), .int .u64 (loOf (-u))]) ∧ Below w.heap.size w w' := by
  have HS := Lib.hid (sub_c 0 u)
  rw [hi_zero, lo_zero, show (0 : BitVec 128) - u = -u from BitVec.zero_sub u] at HS
  generalize hiOf u = hx at *
  generalize (loOf u : Int) = lx at *
  generalize hiOf (-u) = hn at *
  generalize (loOf (-u) : Int) = ln at *
  go_enter Tryd.func44, Tryd.ntmps44
  go_wp2_with fail
  refine (HS.out _).mono ?_
  rintro e w1 ⟨rfl, hb⟩
  have m1 : NumAt w1 (w.heap.size + 1) 0 0 := NumAt.on (B := w.heap.size + 2) (heap_alloc2_new w _ _) (by simpa using hb) (by omega)
  have B1 : Hid (Below w.heap.size w w1) := below_next (((Below.refl _ _).alloc (Nat.le_refl _) _).alloc (by simp) _) hb
  have c0 := m1.c0
  have c1 := m1.c1
  have f0 := m1.free 0
  have f1 := m1.free 1
  go_wp2_with fail
  have m2 := m1.stored hn ln
  exact bodyPost_ret (results_num 2 rfl rfl m2.c0 m2.c1) rfl ⟨rfl, (B1.out.setCell (by dsimp only; omega) _).setCell (by dsimp only; omega) _⟩
def cmpI (a b : Int) : Int := if a < b then -1 else if b < a then 1 else 0
theorem cmpOf_eq (u v : BitVec 128) : cmpOf u v = cmpI u.toInt v.toInt := by
  unfold cmpOf cmpI
  simp only [BitVec.slt, decide_eq_true_eq]
end Go.Proofs.YticoklfgmflidaaDoor

