/- The law of P2.1 on rings over the landed package wide. -/
import Derived.Test.YtgkgdkdendmfnaaS
namespace Go.Proofs.Ytgkgdkdendmfnaa
open Go.RowKit
theorem ringsL (a : Int) (ha : I64 a) (b : Int) (hb : I64 b) (c : Int) (hc : I64 c) (w : World) :
    Calls Try.prog 9 #[.int .i64 a, .int .i64 b, .int .i64 c] w fun e w' => e = .returned (.bool true) ∧ Below w.heap.size w w' := rings_law wideOk a b c ha hb hc w
end Go.Proofs.Ytgkgdkdendmfnaa
