/- Layer 13: package frame: the sum by halves of bytes; the table that it reads. -/
import Derived.Test.YteobffggfcmghaaDoorSi
namespace Go.Proofs.YteobffggfcmghaaDoor
open Go.RowKit
def halfL : List Int := [0, 498536548, 997073096, 651767980, 1994146192, 1802195444, 1303535960, 1342533948, 3988292384, 4027552580, 3604390888, 3412177804, 2607071920, 2262029012, 2685067896, 3183342108]
abbrev halfV : List Value := halfL.map (Value.int .u32)
/-- What the walks read of memory: the table of halves. -/
def Rd (w : World) : Prop := w.var? Tryd.prog "limner/frame.halfSums" = some halfV.toArray
theorem gH : Tryd.prog.globalNamed "limner/frame.halfSums" = some 0 := by kernel_rfl
theorem Rd.lt {w : World} (h : Rd w) : 0 < w.heap.size := by
  unfold Rd World.var? at h
  rw [gH] at h
  rcases Nat.lt_or_ge 0 w.heap.size with h' | h'
  · exact h'
  · simp [Array.getElem?_eq_none h'] at h
theorem Rd.on {w w' : World} (h : Rd w) (hb : Below w.heap.size w w') : Rd w' := var?_below hb gH h.lt h
theorem Rd.cell {w : World} (h : Rd w) (i : Nat) (hi : i < 16) : w.cell? ⟨0, i, none⟩ = some (.int .u32 (bAt halfL i)) := by
  rw [World.var?_cell gH h i]
  have := bAt_some (E := halfL) (k := i) (by simpa [halfL] using hi)
  simp [List.getElem?_map, this]
/-- Half a byte at once. -/
theorem half_tab : ∀ i, i < 16 → crcN 4 (BitVec.ofNat 32 i) = BitVec.ofInt 32 (bAt halfL i) := by
  intro i hi
  have h : (List.range 16).all (fun i => decide (crcN 4 (BitVec.ofNat 32 i) = BitVec.ofInt 32 (bAt halfL i))) = true := by decide +kernel
  have := List.all_eq_true.1 h i (List.mem_range.2 hi)
  simpa using this
theorem half_split (c : BitVec 32) : c = (c >>> 4) <<< 4 ^^^ BitVec.ofNat 32 (c.toNat % 16) := by
  have e : BitVec.ofNat 32 (c.toNat % 16) = c &&& 15#32 := by
    apply BitVec.eq_of_toNat_eq
    rw [BitVec.toNat_and, show (15#32).toNat = 2 ^ 4 - 1 by decide, Nat.and_two_pow_sub_one_eq_mod, BitVec.toNat_ofNat]
    have := c.isLt
    omega
  rw [e]
  apply BitVec.eq_of_getLsbD_eq
  intro i hi
  have h15 : (15#32).getLsbD i = decide (i < 4) := by
    have : (15#32).getLsbD i = Nat.testBit (2 ^ 4 - 1) i := rfl
    rw [this, Nat.testBit_two_pow_sub_one]
  simp only [BitVec.getLsbD_xor, BitVec.getLsbD_and, BitVec.getLsbD_shiftLeft, BitVec.getLsbD_ushiftRight, h15]
  by_cases a : i < 4
  · simp [a, hi]
  · simp [a, hi, show 4 + (i - 4) = i by omega]
theorem half_step (c : BitVec 32) : crcN 4 c = (c >>> 4) ^^^ BitVec.ofInt 32 (bAt halfL (c.toNat % 16)) := by
  have h : crcN 4 c = crcN 4 ((c >>> 4) <<< 4 ^^^ BitVec.ofNat 32 (c.toNat % 16)) := congrArg (crcN 4) (half_split c)
  rw [h, crcN_xor, crcN_shl 4 (c >>> 4) (by rw [BitVec.toNat_ushiftRight, Nat.shiftRight_eq_div_pow]; have := c.isLt; omega), half_tab _ (by omega)]
theorem two_halves (c : BitVec 32) : crcN 8 c = crcN 4 (crcN 4 c) := crcN_add 4 4 c
theorem and_15 (q : BitVec 32) : bits .and .u32 (q.toNat : Int) 15 = ((q.toNat % 16 : Nat) : Int) := by
  unfold bits
  have e : BitVec.ofInt (IntKind.u32.bits) (q.toNat : Int) = q := by
    show BitVec.ofInt 32 (q.toNat : Int) = q
    rw [BitVec.ofInt_natCast, BitVec.ofNat_toNat, BitVec.setWidth_eq]
  simp only
  rw [e]
  show IntKind.u32.wrap (((q &&& BitVec.ofInt 32 15).toNat : Nat) : Int) = _
  have e2 : (BitVec.ofInt 32 15).toNat = 2 ^ 4 - 1 := by decide
  rw [BitVec.toNat_and, e2, Nat.and_two_pow_sub_one_eq_mod]
  unfold IntKind.wrap
  simp [IntKind.bits, IntKind.signed]
  omega
theorem xor_max (c : BitVec 32) : bits .xor .u32 IntKind.u32.max (c.toNat : Int) = 4294967295 - (c.toNat : Int) := by
  have h := bits_xor32 (BitVec.allOnes 32) (c.toNat : Int)
  have e : BitVec.ofInt 32 (c.toNat : Int) = c := by rw [BitVec.ofInt_natCast, BitVec.ofNat_toNat, BitVec.setWidth_eq]
  rw [e, BitVec.allOnes_xor, not_toNat] at h
  exact h
set_option maxHeartbeats 4000000 in
set_option maxRecDepth 100000 in
theorem sum_c (s : Value) (E : List Int) (w : World) (hrd : Rd w) (row : RowB w s E) (hE : OkB E) (hl : E.length ≤ 1100000) : Calls Tryd.prog 10 #[s] w fun e w' => e = .returned (.int .u32 (sumI E)) ∧ Below w.heap.size w w' := by
  obtain ⟨ao, ac, rfl⟩ := row.shape
  obtain ⟨n, hn⟩ : ∃ n, E.length = n := ⟨_, rfl⟩
  have HN := Lib.hid hn
  have HR := Lib.hid row
  have HE := Lib.hid hE
  have HRD := Lib.hid hrd
  have HL : Hid (n ≤ 1100000) := by rw [← hn]; exact hl
  rw [hn] at HR ⊢
  clear row hE hl hn hrd
  go_enter Tryd.func10, Tryd.ntmps10
  go_wp2_with fail
  go_loopw [3, 5, 8] (fun s3 _ s8 wr => ∃ k : Nat, k ≤ n ∧ s8 = .int .i64 (k : Int) ∧ s3 = .int .u32 ((crcB (E.take k)).toNat : Int) ∧ Hid (wr = w)) (fun _ _ s8 _ => n - (intOf s8).toNat)
  case atStart => exact ⟨0, by omega, rfl, rfl, rfl⟩
  case round =>
    obtain ⟨k, hk, rfl, rfl, hw⟩ := hrel
    have hw' := hw.out
    subst hw'
    clear hw
    by_cases hlt : k < n
    · have hd : decide ((k : Int) < (n : Int)) = true := by simp; omega
      have hki : (k : Int) < (n : Int) := by omega
      obtain ⟨b, of, rfl, hb, hc⟩ := RowB.addr HR.out (by rw [HN.out]; omega)
      have hx := bAt_some (E := E) (k := k) (by rw [HN.out]; exact hlt)
      have c0 := hc k _ hx
      have hxr := HE.out _ (List.mem_of_getElem? hx)
      generalize hxe : bAt E k = x at *
      have ux : IntKind.u32.wrap x = x := by unfold IntKind.wrap; simp [IntKind.bits, IntKind.signed]; omega
      have HX : Hid (E[k]? = some x) := hx
      obtain ⟨c, hcc⟩ : ∃ c, crcB (E.take k) = c := ⟨_, rfl⟩
      have HC := Lib.hid hcc
      have e1 := bits_xor32 c x
      obtain ⟨d, hdd⟩ : ∃ d, c ^^^ BitVec.ofInt 32 x = d := ⟨_, rfl⟩
      obtain ⟨d2, hd2⟩ : ∃ q, crcN 4 d = q := ⟨_, rfl⟩
      have HD2 : Hid (crcN 8 d = crcN 4 d2) := by rw [← hd2]; exact two_halves d
      have HTK : Hid (crcB (E.take (k + 1)) = crcN 4 d2) := by
        rw [← HD2.out, Hid, List.take_add_one, HX.out, Option.toList_some, crcB_snoc, hcc, ← hdd]; rfl
      have s1 := half_step d
      have s2 := half_step d2
      rw [hd2] at s1
      have x1 := bits_xor32 (d >>> 4) (bAt halfL (d.toNat % 16))
      have x2 := bits_xor32 (d2 >>> 4) (bAt halfL (d2.toNat % 16))
      rw [← s1] at x1
      rw [← s2] at x2
      rw [BitVec.toNat_ushiftRight, Nat.shiftRight_eq_div_pow] at x1 x2
      have a1 := and_15 d
      have a2 := and_15 d2
      have t1 := HRD.out.cell (d.toNat % 16) (by omega)
      have t2 := HRD.out.cell (d2.toNat % 16) (by omega)
      have l1 : d.toNat % 16 < 16 := by omega
      have l2 : d2.toNat % 16 < 16 := by omega
      have v1 := d.isLt
      have v2 := d2.isLt
      rw [hdd] at e1
      rw [hcc]
      generalize hy1 : bAt halfL (d.toNat % 16) = y1 at *
      generalize hy2 : bAt halfL (d2.toNat % 16) = y2 at *
      generalize hm1 : d.toNat % 16 = m1 at *
      generalize hm2 : d2.toNat % 16 = m2 at *
      obtain ⟨n3, hn3⟩ : ∃ q, (crcN 4 d2).toNat = q := ⟨_, rfl⟩
      have HN3 := Lib.hid hn3
      rw [hn3] at x2
      generalize hq1 : d.toNat = q1 at *
      generalize hq2 : d2.toNat = q2 at *
      clear hb hc hx hxr hcc hdd hd2 s1 s2 hy1 hy2 hn3
      have z1 : ((q1 / 2 ^ 4 : Nat) : Int) = (q1 : Int) / 16 := by omega
      have z2 : ((q2 / 2 ^ 4 : Nat) : Int) = (q2 : Int) / 16 := by omega
      rw [z1] at x1
      rw [z2] at x2
      have x3 := x1
      have x4 := x2
      clear z1 z2
      clear x1 x2
      have hk9 := HL.out
      have i1 : (m1 : Int) < 16 := by omega
      have i2 : (m2 : Int) < 16 := by omega
      clear hm1 hm2
      go_wp2_with fail
      exact ⟨⟨k + 1, by omega, by go_num, by rw [HTK.out, HN3.out], Lib.hid trivial⟩, by simp [intOf]; omega⟩
    · have hd : decide ((k : Int) < (n : Int)) = false := by simp; omega
      have hkn : k = n := by omega
      subst hkn
      have hts : E.take k = E := by rw [List.take_of_length_le (by rw [HN.out]; omega)]
      rw [hts]
      have HS : Hid (sumI E = 4294967295 - ((crcB E).toNat : Int)) := not_toNat _
      have hlt2 := (crcB E).isLt
      have hxm := xor_max (crcB E)
      generalize hqn : (crcB E).toNat = qn at *
      have r1 : IntKind.u32.wrap (4294967295 - (qn : Int)) = 4294967295 - (qn : Int) := by unfold IntKind.wrap; simp [IntKind.bits, IntKind.signed]; omega
      clear hlt hts
      go_wp2_with fail
      go_ret
      exact ⟨by rw [HS.out]; rfl, Below.refl _ _⟩
theorem sumOk : SumOk Rd := ⟨fun h hb => h.on hb, sum_c⟩
end Go.Proofs.YteobffggfcmghaaDoor
