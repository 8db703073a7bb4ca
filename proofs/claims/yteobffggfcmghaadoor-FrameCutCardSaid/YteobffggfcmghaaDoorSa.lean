/- Layer 13: the sum of bytes, bit by bit. -/
import Derived.Test.YteobffggfcmghaaDoorCb
namespace Go.Proofs.YteobffggfcmghaaDoor
open Go.RowKit
/-- One step of the sum, and n of them. -/
def crcStep (c : BitVec 32) : BitVec 32 := if c.toNat % 2 = 1 then (c >>> 1) ^^^ 0xedb88320#32 else c >>> 1
def crcN : Nat → BitVec 32 → BitVec 32
  | 0, c => c
  | n + 1, c => crcN n (crcStep c)
def crcByte (c : BitVec 32) (x : Int) : BitVec 32 := crcN 8 (c ^^^ BitVec.ofInt 32 x)
def crcB (E : List Int) : BitVec 32 := E.foldl crcByte (0xffffffff#32)
theorem crcN_add (m n : Nat) : ∀ c, crcN (m + n) c = crcN n (crcN m c) := by
  induction m with
  | zero => intro c; rw [Nat.zero_add]; rfl
  | succ m ih => intro c; rw [show m + 1 + n = (m + n) + 1 by omega]; exact ih _
theorem lsb_xor (a b : BitVec 32) : (a ^^^ b).toNat % 2 = 1 ↔ ¬ (a.toNat % 2 = 1 ↔ b.toNat % 2 = 1) := by
  have h : ∀ x : BitVec 32, x.toNat % 2 = 1 ↔ x.getLsbD 0 = true := fun x => by
    rw [BitVec.getLsbD, Nat.testBit_zero]; simp
  rw [h, h, h, BitVec.getLsbD_xor]
  cases a.getLsbD 0 <;> cases b.getLsbD 0 <;> simp
theorem crcStep_xor (a b : BitVec 32) : crcStep (a ^^^ b) = crcStep a ^^^ crcStep b := by
  have hx := lsb_xor a b
  have hs : (a ^^^ b) >>> 1 = (a >>> 1) ^^^ (b >>> 1) := BitVec.ushiftRight_xor_distrib a b 1
  unfold crcStep
  generalize 0xedb88320#32 = P
  rw [hs]
  by_cases ha : a.toNat % 2 = 1 <;> by_cases hb : b.toNat % 2 = 1
  · rw [if_neg (by rw [hx]; simp [ha, hb]), if_pos ha, if_pos hb]
    generalize a >>> 1 = x
    generalize b >>> 1 = y
    have : x ^^^ P ^^^ (y ^^^ P) = x ^^^ y ^^^ (P ^^^ P) := by ac_rfl
    rw [this, BitVec.xor_self, BitVec.xor_zero]
  · rw [if_pos (by rw [hx]; simp [ha, hb]), if_pos ha, if_neg hb]
    ac_rfl
  · rw [if_pos (by rw [hx]; simp [ha, hb]), if_neg ha, if_pos hb]
    ac_rfl
  · rw [if_neg (by rw [hx]; simp [ha, hb]), if_neg ha, if_neg hb]
theorem crcN_xor : ∀ (n : Nat) (a b : BitVec 32), crcN n (a ^^^ b) = crcN n a ^^^ crcN n b
  | 0, _, _ => rfl
  | n + 1, a, b => by rw [crcN, crcStep_xor]; exact crcN_xor n _ _
theorem crcN_even : ∀ (n : Nat) (c : BitVec 32) (y : Nat), c.toNat = y * 2 ^ n → (crcN n c).toNat = y
  | 0, c, y, h => by rw [Nat.pow_zero, Nat.mul_one] at h; exact h
  | n + 1, c, y, h => by
    refine crcN_even n (crcStep c) y ?_
    have hp : y * 2 ^ (n + 1) = 2 * (y * 2 ^ n) := by rw [Nat.pow_succ]; ac_rfl
    have he : c.toNat % 2 = 0 := by omega
    unfold crcStep
    rw [if_neg (by omega), BitVec.toNat_ushiftRight, Nat.shiftRight_eq_div_pow]
    omega
theorem crcN_shl (n : Nat) (c : BitVec 32) (h : c.toNat * 2 ^ n < 2 ^ 32) : crcN n (c <<< n) = c := by
  apply BitVec.eq_of_toNat_eq
  refine crcN_even n _ c.toNat ?_
  rw [BitVec.toNat_shiftLeft, Nat.shiftLeft_eq, Nat.mod_eq_of_lt h]
/-- Four bytes, one behind the other, are one word. -/
theorem crc_four (s c0 c1 c2 c3 : BitVec 32) (h1 : c1.toNat < 256) (h2 : c2.toNat < 256) (h3 : c3.toNat < 256) :
    crcN 8 (crcN 8 (crcN 8 (crcN 8 (s ^^^ c0) ^^^ c1) ^^^ c2) ^^^ c3) = crcN 32 (s ^^^ (c0 ^^^ c1 <<< 8 ^^^ c2 <<< 16 ^^^ c3 <<< 24)) := by
  have e1 : crcN 8 (s ^^^ c0) ^^^ c1 = crcN 8 (s ^^^ c0 ^^^ c1 <<< 8) := by rw [crcN_xor 8 (s ^^^ c0) (c1 <<< 8), crcN_shl 8 c1 (by omega)]
  have e2 : ∀ x, crcN 16 x ^^^ c2 = crcN 16 (x ^^^ c2 <<< 16) := fun x => by rw [crcN_xor 16 x (c2 <<< 16), crcN_shl 16 c2 (by omega)]
  have e3 : ∀ x, crcN 24 x ^^^ c3 = crcN 24 (x ^^^ c3 <<< 24) := fun x => by rw [crcN_xor 24 x (c3 <<< 24), crcN_shl 24 c3 (by omega)]
  rw [e1, ← crcN_add 8 8, e2, ← crcN_add 16 8, e3, ← crcN_add 24 8]
  have h : s ^^^ c0 ^^^ c1 <<< 8 ^^^ c2 <<< 16 ^^^ c3 <<< 24 = s ^^^ (c0 ^^^ c1 <<< 8 ^^^ c2 <<< 16 ^^^ c3 <<< 24) := by simp only [BitVec.xor_assoc]
  rw [h]
theorem word_bytes (c : BitVec 32) : (c &&& 255#32) ^^^ ((c >>> 8) &&& 255#32) <<< 8 ^^^ ((c >>> 16) &&& 255#32) <<< 16 ^^^ ((c >>> 24) &&& 255#32) <<< 24 = c := by
  apply BitVec.eq_of_getLsbD_eq
  intro i hi
  have h255 : ∀ k, (255#32).getLsbD k = decide (k < 8) := fun k => by
    have : (255#32).getLsbD k = Nat.testBit (2 ^ 8 - 1) k := rfl
    rw [this, Nat.testBit_two_pow_sub_one]
  simp only [BitVec.getLsbD_xor, BitVec.getLsbD_and, BitVec.getLsbD_shiftLeft, BitVec.getLsbD_ushiftRight, h255]
  by_cases a1 : i < 8
  · simp [a1, hi, show i < 16 by omega, show i < 24 by omega]
  · by_cases a2 : i < 16
    · simp [a1, a2, hi, show i < 24 by omega, show i - 8 < 8 by omega, show 8 + (i - 8) = i by omega]
    · by_cases a3 : i < 24
      · simp [a1, a2, a3, hi, show ¬ i - 8 < 8 by omega, show i - 16 < 8 by omega, show 16 + (i - 16) = i by omega]
      · simp [a1, a2, a3, hi, show ¬ i - 8 < 8 by omega, show ¬ i - 16 < 8 by omega, show i - 24 < 8 by omega, show 24 + (i - 24) = i by omega]
theorem crc_own (s : BitVec 32) : crcN 32 (s ^^^ ~~~s) = 0xdebb20e3#32 := by
  rw [show s ^^^ ~~~s = 0xffffffff#32 by
    apply BitVec.eq_of_getLsbD_eq
    intro i hi
    rw [BitVec.getLsbD_xor, BitVec.getLsbD_not, show (0xffffffff#32) = BitVec.allOnes 32 from rfl, BitVec.getLsbD_allOnes]
    simp [hi]]
  decide +kernel
theorem crcN_succ : ∀ (n : Nat) (c : BitVec 32), crcN (n + 1) c = crcStep (crcN n c)
  | 0, _ => rfl
  | n + 1, c => by rw [crcN]; exact crcN_succ n (crcStep c)
/-- The sum that the document says. -/
def sumI (E : List Int) : Int := ((~~~ crcB E).toNat : Int)
theorem crcB_snoc (E : List Int) (x : Int) : crcB (E ++ [x]) = crcByte (crcB E) x := by unfold crcB; rw [List.foldl_append]; rfl
theorem bits_xor32 (a : BitVec 32) (y : Int) : bits .xor .u32 (a.toNat : Int) y = ((a ^^^ BitVec.ofInt 32 y).toNat : Int) := by
  unfold bits
  have e : BitVec.ofInt (IntKind.u32.bits) (a.toNat : Int) = a := by
    show BitVec.ofInt 32 (a.toNat : Int) = a
    rw [BitVec.ofInt_natCast, BitVec.ofNat_toNat, BitVec.setWidth_eq]
  simp only
  rw [e]
  show IntKind.u32.wrap (((a ^^^ BitVec.ofInt 32 y).toNat : Nat) : Int) = _
  have h := (a ^^^ BitVec.ofInt 32 y).isLt
  generalize (a ^^^ BitVec.ofInt 32 y).toNat = n at h
  show (IntKind.u32.wrap (n : Int)) = (n : Int)
  unfold IntKind.wrap
  simp [IntKind.bits, IntKind.signed]
  omega
theorem not_toNat (a : BitVec 32) : ((~~~ a).toNat : Int) = 4294967295 - (a.toNat : Int) := by
  rw [BitVec.toNat_not]
  have := a.isLt
  omega
set_option maxHeartbeats 4000000 in
set_option maxRecDepth 100000 in
theorem refSum_c (s : Value) (E : List Int) (w : World) (row : RowB w s E) (hE : OkB E) (hl : E.length ≤ 2000000) : Calls Tryd.prog 11 #[s] w fun e w' => e = .returned (.int .u32 (sumI E)) ∧ w = w' := by
  obtain ⟨ao, ac, rfl⟩ := row.shape
  obtain ⟨n, hn⟩ : ∃ n, E.length = n := ⟨_, rfl⟩
  have HN := Lib.hid hn
  have HR := Lib.hid row
  have HE := Lib.hid hE
  have HL : Hid (n ≤ 2000000) := by rw [← hn]; exact hl
  rw [hn] at HR ⊢
  clear row hE hl hn
  go_enter Tryd.func11, Tryd.ntmps11
  go_wp2_with fail
  go_loopw [3, 4] (fun s3 s4 wr => ∃ k : Nat, k ≤ n ∧ s4 = .int .i64 (k : Int) ∧ s3 = .int .u32 ((crcB (E.take k)).toNat : Int) ∧ Hid (wr = w)) (fun _ s4 _ => n - (intOf s4).toNat)
  case atStart => exact ⟨0, by omega, rfl, rfl, rfl⟩
  case round =>
    obtain ⟨k, hk, rfl, rfl, hw⟩ := hrel
    have hw' := hw.out
    subst hw'
    clear hw
    obtain ⟨w2, rfl⟩ : ∃ x, x = wr := ⟨_, rfl⟩
    by_cases hlt : k < n
    · have hd : decide ((k : Int) < (n : Int)) = true := by simp; omega
      have hki : (k : Int) < (n : Int) := by omega
      obtain ⟨b, of, rfl, hb, hc⟩ := RowB.addr HR.out (by rw [HN.out]; omega)
      have hx := bAt_some (E := E) (k := k) (by rw [HN.out]; exact hlt)
      have c0 := hc k _ hx
      have hxr := HE.out _ (List.mem_of_getElem? hx)
      generalize hxe : bAt E k = x at *
      have ux : IntKind.u32.wrap x = x := by unfold IntKind.wrap; simp [IntKind.bits, IntKind.signed]; omega
      have HX : Hid (E[k]? = some x) := hx
      obtain ⟨c, hcc⟩ : ∃ c, crcB (E.take k) = c := ⟨_, rfl⟩
      have HC := Lib.hid hcc
      rw [hcc]
      have e1 := bits_xor32 c x
      clear hb hc hx hxr hcc
      go_wp2_with fail
      go_loopw [3, 5, 6] (fun s3 s5 _ wr => ∃ j : Nat, j ≤ 8 ∧ s5 = .int .i64 (j : Int) ∧ s3 = .int .u32 ((crcN j (c ^^^ BitVec.ofInt 32 x)).toNat : Int) ∧ Hid (wr = w2)) (fun _ s5 _ _ => 8 - (intOf s5).toNat)
      case atStart => exact ⟨0, by omega, rfl, rfl, rfl⟩
      case round =>
        obtain ⟨j, hj, rfl, rfl, hv⟩ := hrel
        have hv' := hv.out
        subst hv'
        clear hv e1
        by_cases hj8 : j < 8
        · have hd2 : decide ((j : Int) < 8) = true := by simp; omega
          have hji : (j : Int) < 8 := by omega
          obtain ⟨q, hq⟩ : ∃ q, crcN j (c ^^^ BitVec.ofInt 32 x) = q := ⟨_, rfl⟩
          have HQ : Hid (crcN (j + 1) (c ^^^ BitVec.ofInt 32 x) = crcStep q) := by rw [← hq]; exact crcN_succ j _
          rw [hq]
          have hql := q.isLt
          obtain ⟨qn, hqn⟩ : ∃ n, q.toNat = n := ⟨_, rfl⟩
          have e1 := bits_xor32 (q >>> 1) 3988292384
          have hsh : (q >>> 1).toNat = qn / 2 := by rw [BitVec.toNat_ushiftRight, Nat.shiftRight_eq_div_pow, hqn]
          rw [hsh] at e1
          rw [hqn]
          have HQN := Lib.hid hqn
          have r1 : ((qn : Int).tmod 2) = ((qn % 2 : Nat) : Int) := by rw [Int.tmod_eq_emod_of_nonneg (by omega)]; omega
          have r2 : ((qn : Int).tdiv 2) = ((qn / 2 : Nat) : Int) := by rw [Int.tdiv_eq_ediv_of_nonneg (by omega)]; omega
          have r3 : IntKind.u32.wrap ((qn % 2 : Nat) : Int) = ((qn % 2 : Nat) : Int) := by unfold IntKind.wrap; simp [IntKind.bits, IntKind.signed]; omega
          have r4 : IntKind.u32.wrap ((qn / 2 : Nat) : Int) = ((qn / 2 : Nat) : Int) := by unfold IntKind.wrap; simp [IntKind.bits, IntKind.signed]; omega
          have HV : Hid ((qn : Int) / 2 % 4294967296 = ((qn / 2 : Nat) : Int)) := by unfold Hid; omega
          by_cases hodd : qn % 2 = 1
          · have hb1 : (((qn % 2 : Nat) : Int) == 1) = true := by simp; omega
            have HST : Hid (((crcStep q).toNat : Int) = (((q >>> 1) ^^^ BitVec.ofInt 32 3988292384).toNat : Int)) := by
              unfold crcStep Hid
              rw [if_pos (by rw [hqn]; exact hodd)]
              rfl
            have E1 := Lib.hid e1
            clear hsh hqn hql hq e1
            go_wp2_with fail
            exact ⟨⟨j + 1, by omega, by go_num, by rw [HQ.out, HST.out, HV.out, E1.out], Lib.hid trivial⟩, by simp [intOf]; omega⟩
          · have hb1 : (((qn % 2 : Nat) : Int) == 1) = false := by simp; omega
            have HST : Hid (((crcStep q).toNat : Int) = ((qn / 2 : Nat) : Int)) := by
              unfold crcStep Hid
              rw [if_neg (by rw [hqn]; exact hodd), hsh]
            clear hsh hqn hql hq e1
            go_wp2_with fail
            exact ⟨⟨j + 1, by omega, by go_num, by rw [HQ.out, HST.out, HV.out], Lib.hid trivial⟩, by simp [intOf]; omega⟩
        · have hd2 : decide ((j : Int) < 8) = false := by simp; omega
          have hje : j = 8 := by omega
          subst hje
          have HTK : Hid (crcB (E.take (k + 1)) = crcN 8 (c ^^^ BitVec.ofInt 32 x)) := by
            rw [Hid, List.take_add_one, HX.out, Option.toList_some, crcB_snoc, HC.out]; rfl
          have hk9 := HL.out
          go_wp2_with fail
          exact ⟨⟨k + 1, by omega, by go_num, by rw [HTK.out], Lib.hid trivial⟩, by simp [intOf]; omega⟩
    · have hd : decide ((k : Int) < (n : Int)) = false := by simp; omega
      have hkn : k = n := by omega
      subst hkn
      have hts : E.take k = E := by rw [List.take_of_length_le (by rw [HN.out]; omega)]
      rw [hts]
      have HS : Hid (sumI E = 4294967295 - ((crcB E).toNat : Int)) := not_toNat _
      have hlt2 := (crcB E).isLt
      generalize hqn : (crcB E).toNat = qn at *
      have r1 : IntKind.u32.wrap (4294967295 - (qn : Int)) = 4294967295 - (qn : Int) := by unfold IntKind.wrap; simp [IntKind.bits, IntKind.signed]; omega
      clear hlt hts
      go_wp2_with fail
      go_ret
      exact ⟨by rw [HS.out]; rfl, rfl⟩
end Go.Proofs.YteobffggfcmghaaDoor
