/- Layer 13: what package frame is to answer for sums; the law FrameSums. -/
import Derived.Test.YteobffggfcmghaaDoorSb
namespace Go.Proofs.YteobffggfcmghaaDoor
open Go.RowKit
/-- A sum's own bytes, the lowest first. -/
def ownI (c : Int) : List Int := [c % 256, c / 256 % 256, c / 65536 % 256, c / 16777216 % 256]
theorem byte_of (a : BitVec 32) (i : Nat) : BitVec.ofInt 32 ((a.toNat : Int) / (2 ^ (8 * i) : Nat) % 256) = (a >>> (8 * i)) &&& 255#32 := by
  apply BitVec.eq_of_toNat_eq
  rw [BitVec.toNat_and, BitVec.toNat_ushiftRight, Nat.shiftRight_eq_div_pow]
  have e : (255#32).toNat = 2 ^ 8 - 1 := by decide
  rw [e, Nat.and_two_pow_sub_one_eq_mod]
  have h : ((a.toNat : Int) / (2 ^ (8 * i) : Nat) % 256) = ((a.toNat / 2 ^ (8 * i) % 256 : Nat) : Int) := by simp
  rw [h, BitVec.ofInt_natCast, BitVec.toNat_ofNat, Nat.mod_eq_of_lt]
  have := Nat.mod_lt (a.toNat / 2 ^ (8 * i)) (show 0 < 256 by decide)
  omega
theorem and_lt (a : BitVec 32) : (a &&& 255#32).toNat < 256 := by
  rw [BitVec.toNat_and]
  have e : (255#32).toNat = 2 ^ 8 - 1 := by decide
  rw [e, Nat.and_two_pow_sub_one_eq_mod]
  exact Nat.mod_lt _ (by decide)
/-- Gone on with its own sum, all have one and the same. -/
theorem sumI_own (E : List Int) : sumI (E ++ ownI (sumI E)) = 558161692 := by
  obtain ⟨s, hs⟩ : ∃ s, crcB E = s := ⟨_, rfl⟩
  have hc : sumI E = ((~~~ s).toNat : Int) := by unfold sumI; rw [hs]
  have hb : crcB (E ++ ownI (sumI E)) = 0xdebb20e3#32 := by
    rw [hc]
    unfold ownI
    have b0 := byte_of (~~~ s) 0
    have b1 := byte_of (~~~ s) 1
    have b2 := byte_of (~~~ s) 2
    have b3 := byte_of (~~~ s) 3
    simp only [Nat.mul_zero, Nat.pow_zero, Nat.mul_one, BitVec.ushiftRight_zero, Nat.reduceMul, Nat.reducePow, Int.cast_ofNat_Int, Int.ediv_one] at b0 b1 b2 b3
    show (E ++ [_, _, _, _]).foldl crcByte (0xffffffff#32) = _
    rw [List.foldl_append]
    show crcByte (crcByte (crcByte (crcByte (crcB E) _) _) _) _ = _
    rw [hs]
    unfold crcByte
    rw [b0, b1, b2, b3, crc_four _ _ _ _ _ (and_lt _) (and_lt _) (and_lt _), word_bytes, crc_own]
  show ((~~~ crcB (E ++ ownI (sumI E))).toNat : Int) = _
  rw [hb]
  decide +kernel
theorem ownI_ok {c : Int} : OkB (ownI c) := fun x hx => by
  unfold ownI at hx
  simp only [List.mem_cons, List.not_mem_nil, or_false] at hx
  rcases hx with rfl | rfl | rfl | rfl <;> omega
/-- What package frame is to answer for sums (Rd: what the listed variables hold, if there are any). -/
structure SumOk (Rd : World → Prop) : Prop where
  on : ∀ {w w'}, Rd w → Below w.heap.size w w' → Rd w'
  sum : ∀ (s : Value) (E : List Int) (w : World), Rd w → RowB w s E → OkB E → E.length ≤ 1100000 → Calls Tryd.prog 10 #[s] w fun e w' => e = .returned (.int .u32 (sumI E)) ∧ Below w.heap.size w w'
def AwakeOk (Rd : World → Prop) : Prop := ∀ w, Rd w → Calls Tryd.prog 9 #[] w fun e w' => e = .returned (.bool true) ∧ Below w.heap.size w w'
variable {Rd : World → Prop}
set_option maxHeartbeats 4000000 in
set_option maxRecDepth 100000 in
theorem sums_law (H : SumOk Rd) (HA : AwakeOk Rd) (s : Value) (E : List Int) (w : World) (hrd : Rd w) (row : RowB w s E) (hE : OkB E) : Calls Tryd.prog 3 #[s] w fun e w' => e = .returned (.bool true) ∧ Below w.heap.size w w' := by
  obtain ⟨ao, ac, rfl⟩ := row.shape
  obtain ⟨n, hn⟩ : ∃ n, E.length = n := ⟨_, rfl⟩
  have HN := Lib.hid hn
  have HR := Lib.hid row
  have HE := Lib.hid hE
  have HRD := Lib.hid hrd
  rw [hn] at HR ⊢
  clear row hE hn hrd
  by_cases hbig : n > 3000
  · have d1 : decide ((n : Int) > 3000) = true := by simp; omega
    have d2 : decide (3000 < n) = true := by simp; omega
    clear hbig
    go_enter Tryd.func3, Tryd.ntmps3
    go_wp2_with fail
    refine (HA w HRD.out).mono ?_
    rintro e w1 ⟨rfl, hb⟩
    have H1 := Lib.hid hb
    clear hb
    go_wp2_with fail
    go_ret
    exact ⟨rfl, H1.out⟩
  · have d1 : decide ((n : Int) > 3000) = false := by simp; omega
    have d2 : decide (3000 < n) = false := by simp; omega
    have HL : Hid (n ≤ 3000) := Lib.hid (by omega)
    have hsi := sumI_in E
    obtain ⟨c, hc⟩ : ∃ c, sumI E = c := ⟨_, rfl⟩
    have HC := Lib.hid hc
    rw [hc] at hsi
    have HOWN : Hid (sumI (E ++ ownI c) = 558161692) := by rw [← hc]; exact sumI_own E
    obtain ⟨x0, hx0⟩ : ∃ x, c % 256 = x := ⟨_, rfl⟩
    obtain ⟨x1, hx1⟩ : ∃ x, c / 256 % 256 = x := ⟨_, rfl⟩
    obtain ⟨x2, hx2⟩ : ∃ x, c / 65536 % 256 = x := ⟨_, rfl⟩
    obtain ⟨x3, hx3⟩ : ∃ x, c / 16777216 % 256 = x := ⟨_, rfl⟩
    have HX : Hid (ownI c = [x0, x1, x2, x3]) := by unfold ownI Hid; rw [hx0, hx1, hx2, hx3]
    have r0 : IntKind.u8.wrap c = x0 := by unfold IntKind.wrap; simp [IntKind.bits, IntKind.signed]; omega
    have r1 : IntKind.u8.wrap (c / 256) = x1 := by unfold IntKind.wrap; simp [IntKind.bits, IntKind.signed]; omega
    have r2 : IntKind.u8.wrap (c / 65536) = x2 := by unfold IntKind.wrap; simp [IntKind.bits, IntKind.signed]; omega
    have r3 : IntKind.u8.wrap (c / 16777216) = x3 := by unfold IntKind.wrap; simp [IntKind.bits, IntKind.signed]; omega
    have HSUM := Lib.hid (H.sum (.slice ao n ac) E w HRD.out HR.out HE.out (by rw [HN.out]; omega))
    rw [hc] at HSUM
    clear hbig hc hsi hx0 hx1 hx2 hx3
    go_enter Tryd.func3, Tryd.ntmps3
    go_wp2_with fail
    refine (HSUM.out).mono ?_
    rintro e w1 ⟨rfl, hb⟩
    have H1 := Lib.hid hb
    have HR1 := Lib.hid (HR.out.on hb)
    clear hb
    have HO : Hid (OwnB (w1.alloc (.cells #[] 5)) w.heap.size (.slice (some ⟨w1.heap.size, 0, none⟩) 0 0) [] ∧ Below w.heap.size w (w1.alloc (.cells #[] 5)) ∧ RowB (w1.alloc (.cells #[] 5)) (.slice ao n ac) E) := ⟨OwnB.made w1 H1.out.size [] 0 #[] rfl rfl (by decide), H1.out.alloc H1.out.size _, HR1.out.on ((Below.refl _ _).alloc (Nat.le_refl _) _)⟩
    have HLE : Hid (([] : List Int).length + E.length ≤ 100000) := Lib.hid (by rw [HN.out]; have := HL.out; simp; omega)
    go_wp2_with (at_builtin; refine wpList_append_row rfl _ _ 22 rfl Tryd.underlying22 w.heap.size _ [] rfl HO.out.1 (.slice ao n ac) E rfl HO.out.2.2 HLE.out HO.out.2.1.size ?_)
    intro v2 w2 ho2 hg2 _
    have H2 : Hid (OwnB w2 w.heap.size v2 E ∧ Below w.heap.size w w2) := ⟨by simpa using ho2, own_below HO.out.1 hg2 HO.out.2.1 (Nat.le_refl _) HO.out.2.1.size⟩
    clear ho2 hg2 HO HLE
    have HX3 : Hid (∀ j u, (bytV [x0, x1, x2, x3])[j]? = some u → (w2.alloc (.cells #[.int .u8 x0, .int .u8 x1, .int .u8 x2, .int .u8 x3] 5)).cell? ((⟨w2.heap.size, 0, none⟩ : Addr).add j) = some u) := news_byt w2 [x0, x1, x2, x3] 5 _ rfl
    have HA3 : Hid (OwnB (w2.alloc (.cells #[.int .u8 x0, .int .u8 x1, .int .u8 x2, .int .u8 x3] 5)) w.heap.size v2 E ∧ Below w.heap.size w (w2.alloc (.cells #[.int .u8 x0, .int .u8 x1, .int .u8 x2, .int .u8 x3] 5))) := ⟨H2.out.1.grow ((Below.refl _ _).alloc (Nat.le_refl _) _), H2.out.2.alloc H2.out.2.size _⟩
    have HL3 : Hid (E.length + 4 ≤ 100000) := Lib.hid (by rw [HN.out]; have := HL.out; omega)
    go_wp2_with (at_builtin; refine wpList_append_byts rfl _ _ 22 rfl Tryd.underlying22 w.heap.size _ E rfl HA3.out.1 ⟨w2.heap.size, 0, none⟩ 4 4 [x0, x1, x2, x3] rfl rfl HX3.out HL3.out HA3.out.2.size ?_)
    intro v3 w3 ho3 hg3 _
    have H3 : Hid (OwnB w3 w.heap.size v3 (E ++ ownI c) ∧ Below w.heap.size w w3) := ⟨by rw [HX.out]; exact ho3, own_below HA3.out.1 hg3 HA3.out.2 (Nat.le_refl _) HA3.out.2.size⟩
    clear ho3 hg3 HX3 HA3 H2
    go_wp2_with fail
    refine (refSum_c (.slice ao n ac) E w3 (HR.out.on H3.out.2) HE.out (by rw [HN.out]; have := HL.out; omega)).mono ?_
    rintro e w4 ⟨rfl, rfl⟩
    rw [HC.out]
    go_wp2_with fail
    refine (H.sum v3 (E ++ ownI c) w3 (H.on HRD.out H3.out.2) H3.out.1.row (HE.out.append ownI_ok) (by rw [List.length_append, HN.out]; have := HL.out; simp [ownI]; omega)).mono ?_
    rintro e w5 ⟨rfl, hb⟩
    have H5 : Hid (Below w.heap.size w w5) := H3.out.2.trans (hb.mono H3.out.2.size)
    clear hb
    rw [HOWN.out]
    go_wp2_with fail
    refine (HA w5 (H.on HRD.out H5.out)).mono ?_
    rintro e w6 ⟨rfl, hb⟩
    have H6 : Hid (Below w.heap.size w w6) := H5.out.trans (hb.mono H5.out.size)
    clear hb
    go_wp2_with fail
    go_ret
    exact ⟨rfl, H6.out⟩
end Go.Proofs.YteobffggfcmghaaDoor
