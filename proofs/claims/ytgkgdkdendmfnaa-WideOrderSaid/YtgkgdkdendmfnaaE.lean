/- Rows of 128 bits: Int, Sub, Shr of the document's own (limnerref02). -/
import Derived.Test.YtgkgdkdendmfnaaD
import Derived.Deep.RegionHeld3
namespace Go.Proofs.Ytgkgdkdendmfnaa
open Go.RowKit

set_option maxHeartbeats 400000 in
set_option maxRecDepth 100000 in
theorem int_any (n : Int) (L : Nat) (hL : L < 2 ^ 64) (hn : IntKind.u64.wrap n = (L : Int)) (h : Int) (hh : h = if n < 0 then -1 else 0) (w : World) :
    Calls Try.prog 20 #[.int .i64 n] w fun e w' => e = .returned (.agg (row (num h L))) ∧ Below w.heap.size w w' := by
  have hz := zeroRow
  have HS : Hid ((row (num h L)).size = 128 ∧ (row (num h L)).all (·.oneCell') = true) := ⟨row_size _, row_one _⟩
  have HC : Hid (∀ w, Calls Try.prog 30 #[.int .i64 h, .int .u64 L] w fun e w' => e = .returned (.agg (row (num h L))) ∧ Below w.heap.size w w') := fun w => bits_num h L hL w
  generalize row (num h L) = res at *
  clear hL
  by_cases hneg : n < 0
  · obtain rfl : h = -1 := by rw [hh, if_pos hneg]
    clear hh
    go_enter Try.func20, Try.ntmps20
    go_wp2_with fail
    refine (HC.out _).mono ?_
    rintro e w1 ⟨rfl, hb⟩
    have M1 : Hid (At w1 w.heap.size zeros) := At.on (B := w.heap.size + 1) (heap_alloc_new w _) (by simpa using hb) (by omega)
    have Hb : Hid (Below w.heap.size w w1) := below_next ((Below.refl _ _).alloc (Nat.le_refl _) _) hb
    clear hb
    go_wp2_with (refine wpList_store_row rfl 25 _ _ rfl w.heap.size res rfl rfl 25 zeros M1.out (by rw [HS.out.1]; exact sizeRow) (by rw [HS.out.1, zeros_size]) HS.out.2 ?_)
    refine bodyPost_ret (v := .agg res) (results_cell_row rfl _ _ w.heap.size 25 res (0, 0) _ rfl (setRow_heap _ _ _ _ _ _ M1.out) Try.underlying25 rfl (by rw [HS.out.1]; exact sizeRow)) rfl ⟨rfl, below_setRow Hb.out (Nat.le_refl _) _⟩
  · obtain rfl : h = 0 := by rw [hh, if_neg hneg]
    clear hh
    have hneg' : 0 ≤ n := by omega
    go_enter Try.func20, Try.ntmps20
    go_wp2_with fail
    refine (HC.out _).mono ?_
    rintro e w1 ⟨rfl, hb⟩
    have M1 : Hid (At w1 w.heap.size zeros) := At.on (B := w.heap.size + 1) (heap_alloc_new w _) (by simpa using hb) (by omega)
    have Hb : Hid (Below w.heap.size w w1) := below_next ((Below.refl _ _).alloc (Nat.le_refl _) _) hb
    clear hb
    go_wp2_with (refine wpList_store_row rfl 25 _ _ rfl w.heap.size res rfl rfl 25 zeros M1.out (by rw [HS.out.1]; exact sizeRow) (by rw [HS.out.1, zeros_size]) HS.out.2 ?_)
    refine bodyPost_ret (v := .agg res) (results_cell_row rfl _ _ w.heap.size 25 res (0, 0) _ rfl (setRow_heap _ _ _ _ _ _ M1.out) Try.underlying25 rfl (by rw [HS.out.1]; exact sizeRow)) rfl ⟨rfl, below_setRow Hb.out (Nat.le_refl _) _⟩
end Go.Proofs.Ytgkgdkdendmfnaa
