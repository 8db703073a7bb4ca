/- The law of P2.1 on products, as a contract: it returns true, for every input. -/
import Derived.Test.YtgkgdkdendmfnaaU
namespace Go.Proofs.Ytgkgdkdendmfnaa
open Go.RowKit
theorem intI (n : Int) (h : I64 n) (w : World) : Calls Try.prog 20 #[.int .i64 n] w fun e w' => e = .returned (.agg (row (ofI n))) ∧ Below w.heap.size w w' := intW n h.1 h.2 w
set_option maxHeartbeats 1000000 in
theorem products_law (K : WideOk) (a b : Int) (ha : I64 a) (hb : I64 b) (w : World) :
    Calls Try.prog 4 #[.int .i64 a, .int .i64 b] w fun e w' => e = .returned (.bool true) ∧ Below w.heap.size w w' := by
  have HM1 := Lib.hid fun w => K.mul_w a b w ha hb
  have HM2 := Lib.hid fun w => K.mul_w b a w hb ha
  have HA := Lib.hid fun w => K.of_w a w ha
  have HI1 := Lib.hid fun w => intI a ha w
  have HI2 := Lib.hid fun w => intI b hb w
  have HX := Lib.hid fun w => mul_any (ofI a) (ofI b) w
  rw [BitVec.mul_comm (ofI b) (ofI a)] at HM2
  generalize ofI a * ofI b = p at *
  have B : Hid (Below w.heap.size w w) := Below.refl _ _
  generalize ofI a = x at *
  generalize ofI b = y at *
  have HB1 := Lib.hid (bitsW p)
  have HB2 := Lib.hid (bitsW x)
  have E1 := equal_row p p
  have E2 := equal_row x x
  simp only [decide_true] at E1 E2
  generalize row p = rp at *
  generalize row x = rx at *
  generalize row y = ry at *
  generalize hiOf p = ph at *
  generalize (loOf p : Int) = pl at *
  generalize hiOf x = xh at *
  generalize (loOf x : Int) = xl at *
  go_enter Try.func4, Try.ntmps4
  go_wp2_with fail
  refine (HM1.out _).mono ?_
  rintro e wn ⟨rfl, hbl⟩
  replace B := Lib.hid (below_next B.out hbl)
  clear hbl
  go_wp2_with fail
  refine (HB1.out _).mono ?_
  rintro e wn ⟨rfl, hbl⟩
  replace B := Lib.hid (below_next B.out hbl)
  clear hbl
  go_wp2_with fail
  refine (HI1.out _).mono ?_
  rintro e wn ⟨rfl, hbl⟩
  replace B := Lib.hid (below_next B.out hbl)
  clear hbl
  go_wp2_with fail
  refine (HI2.out _).mono ?_
  rintro e wn ⟨rfl, hbl⟩
  replace B := Lib.hid (below_next B.out hbl)
  clear hbl
  go_wp2_with fail
  refine (HX.out _).mono ?_
  rintro e wn ⟨rfl, hbl⟩
  replace B := Lib.hid (below_next B.out hbl)
  clear hbl
  go_wp2_with fail
  refine (HM1.out _).mono ?_
  rintro e wn ⟨rfl, hbl⟩
  replace B := Lib.hid (below_next B.out hbl)
  clear hbl
  go_wp2_with fail
  refine (HM2.out _).mono ?_
  rintro e wn ⟨rfl, hbl⟩
  replace B := Lib.hid (below_next B.out hbl)
  clear hbl
  go_wp2_with fail
  refine (HA.out _).mono ?_
  rintro e wn ⟨rfl, hbl⟩
  replace B := Lib.hid (below_next B.out hbl)
  clear hbl
  go_wp2_with fail
  refine (HB2.out _).mono ?_
  rintro e wn ⟨rfl, hbl⟩
  replace B := Lib.hid (below_next B.out hbl)
  clear hbl
  go_wp2_with fail
  refine (HI1.out _).mono ?_
  rintro e wn ⟨rfl, hbl⟩
  replace B := Lib.hid (below_next B.out hbl)
  clear hbl
  go_wp2_with fail
  refine (awake_any K _).mono ?_
  rintro e wn ⟨rfl, hbl⟩
  replace B := Lib.hid (below_next B.out hbl)
  clear hbl
  go_wp2_with fail
  go_ret
  exact ⟨rfl, B.out⟩
end Go.Proofs.Ytgkgdkdendmfnaa
