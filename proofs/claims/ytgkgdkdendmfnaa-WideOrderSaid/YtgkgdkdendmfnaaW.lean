/- What the program's own numbers (package wide) answer, call by call: one statement for all. -/
import Derived.Test.YtgkgdkdendmfnaaV
namespace Go.Proofs.Ytgkgdkdendmfnaa
open Go.RowKit
structure WideOk : Prop where
  of_w : ∀ (n : Int) (w : World), I64 n → Calls Try.prog 21 #[.int .i64 n] w fun e w' => e = .returned (.agg #[.int .i64 (hiOf (ofI n)), .int .u64 (loOf (ofI n))]) ∧ Below w.heap.size w w'
  mul_w : ∀ (a b : Int) (w : World), I64 a → I64 b → Calls Try.prog 18 #[.int .i64 a, .int .i64 b] w fun e w' => e = .returned (.agg #[.int .i64 (hiOf (ofI a * ofI b)), .int .u64 (loOf (ofI a * ofI b))]) ∧ Below w.heap.size w w'
  add_w : ∀ (u v : BitVec 128) (w : World), Calls Try.prog 11 #[(.agg #[.int .i64 (hiOf (u)), .int .u64 (loOf (u))]), (.agg #[.int .i64 (hiOf (v)), .int .u64 (loOf (v))])] w fun e w' => e = .returned (.agg #[.int .i64 (hiOf (u + v)), .int .u64 (loOf (u + v))]) ∧ Below w.heap.size w w'
  sub_w : ∀ (u v : BitVec 128) (w : World), Calls Try.prog 13 #[(.agg #[.int .i64 (hiOf (u)), .int .u64 (loOf (u))]), (.agg #[.int .i64 (hiOf (v)), .int .u64 (loOf (v))])] w fun e w' => e = .returned (.agg #[.int .i64 (hiOf (u - v)), .int .u64 (loOf (u - v))]) ∧ Below w.heap.size w w'
  neg_w : ∀ (u : BitVec 128) (w : World), Calls Try.prog 15 #[(.agg #[.int .i64 (hiOf (u)), .int .u64 (loOf (u))])] w fun e w' => e = .returned (.agg #[.int .i64 (hiOf (-u)), .int .u64 (loOf (-u))]) ∧ Below w.heap.size w w'
  cmp_w : ∀ (u v : BitVec 128) (w : World), Calls Try.prog 24 #[(.agg #[.int .i64 (hiOf (u)), .int .u64 (loOf (u))]), (.agg #[.int .i64 (hiOf (v)), .int .u64 (loOf (v))])] w fun e w' => e = .returned (.int .i64 (cmpOf u v)) ∧ Below w.heap.size w w'
  sign_w : ∀ (u : BitVec 128) (w : World), Calls Try.prog 25 #[(.agg #[.int .i64 (hiOf (u)), .int .u64 (loOf (u))])] w fun e w' => e = .returned (.int .i64 (cmpOf u 0)) ∧ Below w.heap.size w w'
  int_w : ∀ (u : BitVec 128) (w : World), Calls Try.prog 23 #[(.agg #[.int .i64 (hiOf (u)), .int .u64 (loOf (u))])] w fun e w' => e = .returned (.tuple #[.int .i64 (if fits u.toInt then u.toInt else 0), .bool (fits u.toInt)]) ∧ Below w.heap.size w w'
  shr_w : ∀ (u : BitVec 128) (n : Int) (w : World), I64 n → Calls Try.prog 26 #[(.agg #[.int .i64 (hiOf (u)), .int .u64 (loOf (u))]), .int .i64 n] w fun e w' => e = .returned (.agg #[.int .i64 (hiOf (u.sshiftRight n.toNat)), .int .u64 (loOf (u.sshiftRight n.toNat))]) ∧ Below w.heap.size w w'
  muldiv_w : ∀ (a b d : Int) (w : World), I64 a → I64 b → I64 d → Calls Try.prog 28 #[.int .i64 a, .int .i64 b, .int .i64 d] w fun e w' => e = divOf a b d ∧ Below w.heap.size w w'
  sqrt_neg_w : ∀ (n : Int) (w : World), I64 n → n < 0 → Calls Try.prog 29 #[.int .i64 n] w fun e w' => e = .returned (.int .i64 0) ∧ Below w.heap.size w w'
  sqrt_w : ∀ (n r : Int) (w : World), I64 n → isRoot n r → Calls Try.prog 29 #[.int .i64 n] w fun e w' => e = .returned (.int .i64 r) ∧ Below w.heap.size w w'
end Go.Proofs.Ytgkgdkdendmfnaa
