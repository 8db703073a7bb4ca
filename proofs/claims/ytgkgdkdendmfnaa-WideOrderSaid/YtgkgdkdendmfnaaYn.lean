/- The laws of layer 2 over the landed package wide. -/
import Derived.Test.YtgkgdkdendmfnaaYm
import Derived.Test.YtgkgdkdendmfnaaO
import Derived.Test.YtgkgdkdendmfnaaP
import Derived.Test.YtgkgdkdendmfnaaQ
import Derived.Test.YtgkgdkdendmfnaaR
namespace Go.Proofs.Ytgkgdkdendmfnaa
open Go.RowKit
theorem sumsL (u v : BitVec 128) (w : World) : Calls Try.prog 3 #[.agg #[.int .i64 (hiOf u), .int .u64 (loOf u)], .agg #[.int .i64 (hiOf v), .int .u64 (loOf v)]] w fun e w' => e = .returned (.bool true) ∧ Below w.heap.size w w' := sums_law wideOk u v w
theorem productsL (a : Int) (ha : I64 a) (b : Int) (hb : I64 b) (w : World) : Calls Try.prog 4 #[.int .i64 a, .int .i64 b] w fun e w' => e = .returned (.bool true) ∧ Below w.heap.size w w' := products_law wideOk a b ha hb w
theorem shiftsL (u : BitVec 128) (n : Int) (hn : I64 n) (w : World) : Calls Try.prog 6 #[.agg #[.int .i64 (hiOf u), .int .u64 (loOf u)], .int .i64 n] w fun e w' => e = .returned (.bool true) ∧ Below w.heap.size w w' := by
  rcases Int.lt_or_le n 0 with h | h
  · exact shifts_neg wideOk u n hn h w
  · exact shifts_pos wideOk u n hn h w
theorem rootsL (n : Int) (hn : I64 n) (w : World) : Calls Try.prog 8 #[.int .i64 n] w fun e w' => e = .returned (.bool true) ∧ Below w.heap.size w w' := roots_law wideOk n hn w
end Go.Proofs.Ytgkgdkdendmfnaa
