/- The law of P2.3 where the quotient is no int. -/
import Derived.Test.YtgkgdkdendmfnaaZa
namespace Go.Proofs.Ytgkgdkdendmfnaa
open Go.RowKit
set_option maxRecDepth 100000 in
set_option maxHeartbeats 1000000 in
theorem quot_over_neg (a b d : Int) (w : World) (ha : I64 a) (hb : I64 b) (hdd : I64 d) (hd : d < 0) (hf : fits ((a * b).fdiv d) = false) :
    Calls Try.prog 7 #[.int .i64 a, .int .i64 b, .int .i64 d] w fun e w' => e = .returned (.bool true) ∧ Below w.heap.size w w' := by
  have HM := Lib.hid fun w => muldiv_c a b d w ha hb hdd
  rw [show divOf a b d = .returned (.tuple #[.int .i64 0, .bool false, .int .i64 10]) by unfold divOf; rw [if_neg (by omega), hf]; rfl] at HM
  have HP := Lib.hid fun w => mul_c a b w ha hb
  have HX := Lib.hid fun w => mul_c 9223372036854775807 d w (by unfold I64; omega) hdd
  have HO := Lib.hid fun w => of_c d w hdd
  have HA := Lib.hid (add_c (ofI 9223372036854775807 * ofI d) (ofI d))
  have HL := Lib.hid fun w => mul_c (-9223372036854775808) d w (by unfold I64; omega) hdd
  obtain ⟨f1, f2, f3⟩ := over_facts a b d ha hb hdd
  have hz : (d == 0) = false := by simp; omega
  have hs : decide (d < 0) = true := by simp; omega
  have hbig := big_neg _ _ hd hf
  rw [← f1, ← f2, ← f3] at hbig
  clear ha hb hdd hf f1 f2 f3
  generalize ofI 9223372036854775807 * ofI d + ofI d = Hh at *
  generalize ofI 9223372036854775807 * ofI d = X at *
  generalize ofI (-9223372036854775808) * ofI d = Lw at *
  generalize ofI d = D at *
  generalize ofI a * ofI b = P at *
  have K1 := Lib.hid (cmp_c P Hh)
  have K2 := Lib.hid (cmp_c P Lw)
  have hc : cmpOf P Hh ≤ 0 ∨ 0 < cmpOf P Lw := by
    rw [cmpOf_eq, cmpOf_eq]
    unfold cmpI
    rcases hbig with h | h
    · left; split <;> (try split) <;> omega
    · right; split <;> (try split) <;> omega
  clear hbig
  generalize cmpOf P Hh = c1 at *
  generalize cmpOf P Lw = c2 at *
  generalize hiOf P = ph at *
  generalize (loOf P : Int) = pl at *
  generalize hiOf Hh = hh at *
  generalize (loOf Hh : Int) = hl at *
  generalize hiOf Lw = lh at *
  generalize (loOf Lw : Int) = ll at *
  generalize hiOf X = xh at *
  generalize (loOf X : Int) = xl at *
  generalize hiOf D = dh at *
  generalize (loOf D : Int) = dl at *
  by_cases h1 : c1 ≤ 0
  · have e1 : decide (c1 ≤ 0) = true := by simpa using h1
    clear hc K2
    go_enter Try.func7, Try.ntmps7
    go_wp2_with fail
    refine (HM.out _).mono ?_
    rintro e w1 ⟨rfl, hb1⟩
    have B1 := Lib.hid hb1
    clear hb1
    go_wp2_with fail
    refine (HP.out _).mono ?_
    rintro e w2 ⟨rfl, hb2⟩
    have B2 : Hid (Below w.heap.size w w2) := below_next B1.out hb2
    clear hb2 B1
    go_wp2_with fail
    refine (HX.out _).mono ?_
    rintro e w3 ⟨rfl, hb3⟩
    have mP3 := (NumAt.new w2 ph pl).keep hb3
    have B3 : Hid (Below w.heap.size w w3) := below_next (B2.out.alloc B2.out.size _) hb3
    have MP3 := Lib.hid mP3
    clear hb3 mP3 B2
    go_wp2_with fail
    refine (HO.out _).mono ?_
    rintro e w4 ⟨rfl, hb4⟩
    have MP4 := Lib.hid (MP3.out.keep hb4)
    have B4 : Hid (Below w.heap.size w w4) := below_next B3.out hb4
    clear hb4 MP3 B3
    go_wp2_with fail
    refine (HA.out _).mono ?_
    rintro e w5 ⟨rfl, hb5⟩
    have MP5 := Lib.hid (MP4.out.keep hb5)
    have B5 : Hid (Below w.heap.size w w5) := below_next B4.out hb5
    clear hb5 MP4 B4
    go_wp2_with fail
    refine (HL.out _).mono ?_
    rintro e w6 ⟨rfl, hb6⟩
    have MP6 := Lib.hid ((MP5.out.alloc _).keep hb6)
    have MH6 := Lib.hid ((NumAt.new w5 hh hl).keep hb6)
    have B6 : Hid (Below w.heap.size w w6) := below_next (B5.out.alloc B5.out.size _) hb6
    clear hb6 MP5 B5
    have cP0 := MP6.out.c0
    have cP1 := MP6.out.c1
    have lP := MP6.out.lt
    have cH0 := MH6.out.c0
    have cH1 := MH6.out.c1
    have lH := MH6.out.lt
    go_wp2_with fail
    refine (K1.out _).mono ?_
    rintro e w7 ⟨rfl, hb7⟩
    have B7 : Hid (Below w.heap.size w w7) := below_next (B6.out.alloc B6.out.size _) hb7
    have MP7 := Lib.hid ((MP6.out.alloc _).keep hb7)
    have ML7 := Lib.hid ((NumAt.new w6 lh ll).keep hb7)
    clear hb7 B6 MP6 MH6 cP0 cP1 lP cH0 cH1 lH
    clear MP7 ML7
    go_wp2_with fail
    refine (awakeL _).mono ?_
    rintro e w9 ⟨rfl, hb9⟩
    have B9 : Hid (Below w.heap.size w w9) := below_next B7.out hb9
    clear hb9
    go_wp2_with fail
    go_ret
    exact ⟨rfl, B9.out⟩
  · have e1 : decide (c1 ≤ 0) = false := by simpa using h1
    have h1' : 0 < c1 := by omega
    have h2 : 0 < c2 := hc.resolve_left h1
    have e2 : decide (0 < c2) = true := by simpa using h2
    clear hc h1
    go_enter Try.func7, Try.ntmps7
    go_wp2_with fail
    refine (HM.out _).mono ?_
    rintro e w1 ⟨rfl, hb1⟩
    have B1 := Lib.hid hb1
    clear hb1
    go_wp2_with fail
    refine (HP.out _).mono ?_
    rintro e w2 ⟨rfl, hb2⟩
    have B2 : Hid (Below w.heap.size w w2) := below_next B1.out hb2
    clear hb2 B1
    go_wp2_with fail
    refine (HX.out _).mono ?_
    rintro e w3 ⟨rfl, hb3⟩
    have mP3 := (NumAt.new w2 ph pl).keep hb3
    have B3 : Hid (Below w.heap.size w w3) := below_next (B2.out.alloc B2.out.size _) hb3
    have MP3 := Lib.hid mP3
    clear hb3 mP3 B2
    go_wp2_with fail
    refine (HO.out _).mono ?_
    rintro e w4 ⟨rfl, hb4⟩
    have MP4 := Lib.hid (MP3.out.keep hb4)
    have B4 : Hid (Below w.heap.size w w4) := below_next B3.out hb4
    clear hb4 MP3 B3
    go_wp2_with fail
    refine (HA.out _).mono ?_
    rintro e w5 ⟨rfl, hb5⟩
    have MP5 := Lib.hid (MP4.out.keep hb5)
    have B5 : Hid (Below w.heap.size w w5) := below_next B4.out hb5
    clear hb5 MP4 B4
    go_wp2_with fail
    refine (HL.out _).mono ?_
    rintro e w6 ⟨rfl, hb6⟩
    have MP6 := Lib.hid ((MP5.out.alloc _).keep hb6)
    have MH6 := Lib.hid ((NumAt.new w5 hh hl).keep hb6)
    have B6 : Hid (Below w.heap.size w w6) := below_next (B5.out.alloc B5.out.size _) hb6
    clear hb6 MP5 B5
    have cP0 := MP6.out.c0
    have cP1 := MP6.out.c1
    have lP := MP6.out.lt
    have cH0 := MH6.out.c0
    have cH1 := MH6.out.c1
    have lH := MH6.out.lt
    go_wp2_with fail
    refine (K1.out _).mono ?_
    rintro e w7 ⟨rfl, hb7⟩
    have B7 : Hid (Below w.heap.size w w7) := below_next (B6.out.alloc B6.out.size _) hb7
    have MP7 := Lib.hid ((MP6.out.alloc _).keep hb7)
    have ML7 := Lib.hid ((NumAt.new w6 lh ll).keep hb7)
    clear hb7 B6 MP6 MH6 cP0 cP1 lP cH0 cH1 lH
    have cP0 := MP7.out.c0
    have cP1 := MP7.out.c1
    have cL0 := ML7.out.c0
    have cL1 := ML7.out.c1
    go_wp2_with fail
    refine (K2.out _).mono ?_
    rintro e w8 ⟨rfl, hb8⟩
    have B8 : Hid (Below w.heap.size w w8) := below_next B7.out hb8
    clear hb8 B7 cP0 cP1 cL0 cL1
    go_wp2_with fail
    refine (awakeL _).mono ?_
    rintro e w9 ⟨rfl, hb9⟩
    have B9 : Hid (Below w.heap.size w w9) := below_next B8.out hb9
    clear hb9
    go_wp2_with fail
    go_ret
    exact ⟨rfl, B9.out⟩
set_option maxRecDepth 100000 in
set_option maxHeartbeats 1000000 in
theorem quot_over_pos (a b d : Int) (w : World) (ha : I64 a) (hb : I64 b) (hdd : I64 d) (hd : 0 < d) (hf : fits ((a * b).fdiv d) = false) :
    Calls Try.prog 7 #[.int .i64 a, .int .i64 b, .int .i64 d] w fun e w' => e = .returned (.bool true) ∧ Below w.heap.size w w' := by
  have HM := Lib.hid fun w => muldiv_c a b d w ha hb hdd
  rw [show divOf a b d = .returned (.tuple #[.int .i64 0, .bool false, .int .i64 10]) by unfold divOf; rw [if_neg (by omega), hf]; rfl] at HM
  have HP := Lib.hid fun w => mul_c a b w ha hb
  have HX := Lib.hid fun w => mul_c 9223372036854775807 d w (by unfold I64; omega) hdd
  have HO := Lib.hid fun w => of_c d w hdd
  have HA := Lib.hid (add_c (ofI 9223372036854775807 * ofI d) (ofI d))
  have HL := Lib.hid fun w => mul_c (-9223372036854775808) d w (by unfold I64; omega) hdd
  obtain ⟨f1, f2, f3⟩ := over_facts a b d ha hb hdd
  have hz : (d == 0) = false := by simp; omega
  have hs : decide (d < 0) = false := by simp; omega
  have hbig := big_pos _ _ hd hf
  rw [← f1, ← f2, ← f3] at hbig
  clear ha hb hdd hf f1 f2 f3
  generalize ofI 9223372036854775807 * ofI d + ofI d = Hh at *
  generalize ofI 9223372036854775807 * ofI d = X at *
  generalize ofI (-9223372036854775808) * ofI d = Lw at *
  generalize ofI d = D at *
  generalize ofI a * ofI b = P at *
  have K1 := Lib.hid (cmp_c P Hh)
  have K2 := Lib.hid (cmp_c P Lw)
  have hc : 0 ≤ cmpOf P Hh ∨ cmpOf P Lw < 0 := by
    rw [cmpOf_eq, cmpOf_eq]
    unfold cmpI
    rcases hbig with h | h
    · left; split <;> (try split) <;> omega
    · right; split <;> (try split) <;> omega
  clear hbig
  generalize cmpOf P Hh = c1 at *
  generalize cmpOf P Lw = c2 at *
  generalize hiOf P = ph at *
  generalize (loOf P : Int) = pl at *
  generalize hiOf Hh = hh at *
  generalize (loOf Hh : Int) = hl at *
  generalize hiOf Lw = lh at *
  generalize (loOf Lw : Int) = ll at *
  generalize hiOf X = xh at *
  generalize (loOf X : Int) = xl at *
  generalize hiOf D = dh at *
  generalize (loOf D : Int) = dl at *
  by_cases h1 : 0 ≤ c1
  · have e1 : decide (0 ≤ c1) = true := by simpa using h1
    clear hc K2
    go_enter Try.func7, Try.ntmps7
    go_wp2_with fail
    refine (HM.out _).mono ?_
    rintro e w1 ⟨rfl, hb1⟩
    have B1 := Lib.hid hb1
    clear hb1
    go_wp2_with fail
    refine (HP.out _).mono ?_
    rintro e w2 ⟨rfl, hb2⟩
    have B2 : Hid (Below w.heap.size w w2) := below_next B1.out hb2
    clear hb2 B1
    go_wp2_with fail
    refine (HX.out _).mono ?_
    rintro e w3 ⟨rfl, hb3⟩
    have mP3 := (NumAt.new w2 ph pl).keep hb3
    have B3 : Hid (Below w.heap.size w w3) := below_next (B2.out.alloc B2.out.size _) hb3
    have MP3 := Lib.hid mP3
    clear hb3 mP3 B2
    go_wp2_with fail
    refine (HO.out _).mono ?_
    rintro e w4 ⟨rfl, hb4⟩
    have MP4 := Lib.hid (MP3.out.keep hb4)
    have B4 : Hid (Below w.heap.size w w4) := below_next B3.out hb4
    clear hb4 MP3 B3
    go_wp2_with fail
    refine (HA.out _).mono ?_
    rintro e w5 ⟨rfl, hb5⟩
    have MP5 := Lib.hid (MP4.out.keep hb5)
    have B5 : Hid (Below w.heap.size w w5) := below_next B4.out hb5
    clear hb5 MP4 B4
    go_wp2_with fail
    refine (HL.out _).mono ?_
    rintro e w6 ⟨rfl, hb6⟩
    have MP6 := Lib.hid ((MP5.out.alloc _).keep hb6)
    have MH6 := Lib.hid ((NumAt.new w5 hh hl).keep hb6)
    have B6 : Hid (Below w.heap.size w w6) := below_next (B5.out.alloc B5.out.size _) hb6
    clear hb6 MP5 B5
    have cP0 := MP6.out.c0
    have cP1 := MP6.out.c1
    have lP := MP6.out.lt
    have cH0 := MH6.out.c0
    have cH1 := MH6.out.c1
    have lH := MH6.out.lt
    go_wp2_with fail
    refine (K1.out _).mono ?_
    rintro e w7 ⟨rfl, hb7⟩
    have B7 : Hid (Below w.heap.size w w7) := below_next (B6.out.alloc B6.out.size _) hb7
    have MP7 := Lib.hid ((MP6.out.alloc _).keep hb7)
    have ML7 := Lib.hid ((NumAt.new w6 lh ll).keep hb7)
    clear hb7 B6 MP6 MH6 cP0 cP1 lP cH0 cH1 lH
    clear MP7 ML7
    go_wp2_with fail
    refine (awakeL _).mono ?_
    rintro e w9 ⟨rfl, hb9⟩
    have B9 : Hid (Below w.heap.size w w9) := below_next B7.out hb9
    clear hb9
    go_wp2_with fail
    go_ret
    exact ⟨rfl, B9.out⟩
  · have e1 : decide (0 ≤ c1) = false := by simpa using h1
    have h1' : c1 < 0 := by omega
    have h2 : c2 < 0 := hc.resolve_left h1
    have e2 : decide (c2 < 0) = true := by simpa using h2
    clear hc h1
    go_enter Try.func7, Try.ntmps7
    go_wp2_with fail
    refine (HM.out _).mono ?_
    rintro e w1 ⟨rfl, hb1⟩
    have B1 := Lib.hid hb1
    clear hb1
    go_wp2_with fail
    refine (HP.out _).mono ?_
    rintro e w2 ⟨rfl, hb2⟩
    have B2 : Hid (Below w.heap.size w w2) := below_next B1.out hb2
    clear hb2 B1
    go_wp2_with fail
    refine (HX.out _).mono ?_
    rintro e w3 ⟨rfl, hb3⟩
    have mP3 := (NumAt.new w2 ph pl).keep hb3
    have B3 : Hid (Below w.heap.size w w3) := below_next (B2.out.alloc B2.out.size _) hb3
    have MP3 := Lib.hid mP3
    clear hb3 mP3 B2
    go_wp2_with fail
    refine (HO.out _).mono ?_
    rintro e w4 ⟨rfl, hb4⟩
    have MP4 := Lib.hid (MP3.out.keep hb4)
    have B4 : Hid (Below w.heap.size w w4) := below_next B3.out hb4
    clear hb4 MP3 B3
    go_wp2_with fail
    refine (HA.out _).mono ?_
    rintro e w5 ⟨rfl, hb5⟩
    have MP5 := Lib.hid (MP4.out.keep hb5)
    have B5 : Hid (Below w.heap.size w w5) := below_next B4.out hb5
    clear hb5 MP4 B4
    go_wp2_with fail
    refine (HL.out _).mono ?_
    rintro e w6 ⟨rfl, hb6⟩
    have MP6 := Lib.hid ((MP5.out.alloc _).keep hb6)
    have MH6 := Lib.hid ((NumAt.new w5 hh hl).keep hb6)
    have B6 : Hid (Below w.heap.size w w6) := below_next (B5.out.alloc B5.out.size _) hb6
    clear hb6 MP5 B5
    have cP0 := MP6.out.c0
    have cP1 := MP6.out.c1
    have lP := MP6.out.lt
    have cH0 := MH6.out.c0
    have cH1 := MH6.out.c1
    have lH := MH6.out.lt
    go_wp2_with fail
    refine (K1.out _).mono ?_
    rintro e w7 ⟨rfl, hb7⟩
    have B7 : Hid (Below w.heap.size w w7) := below_next (B6.out.alloc B6.out.size _) hb7
    have MP7 := Lib.hid ((MP6.out.alloc _).keep hb7)
    have ML7 := Lib.hid ((NumAt.new w6 lh ll).keep hb7)
    clear hb7 B6 MP6 MH6 cP0 cP1 lP cH0 cH1 lH
    have cP0 := MP7.out.c0
    have cP1 := MP7.out.c1
    have cL0 := ML7.out.c0
    have cL1 := ML7.out.c1
    go_wp2_with fail
    refine (K2.out _).mono ?_
    rintro e w8 ⟨rfl, hb8⟩
    have B8 : Hid (Below w.heap.size w w8) := below_next B7.out hb8
    clear hb8 B7 cP0 cP1 cL0 cL1
    go_wp2_with fail
    refine (awakeL _).mono ?_
    rintro e w9 ⟨rfl, hb9⟩
    have B9 : Hid (Below w.heap.size w w9) := below_next B8.out hb9
    clear hb9
    go_wp2_with fail
    go_ret
    exact ⟨rfl, B9.out⟩
end Go.Proofs.Ytgkgdkdendmfnaa
