/- Layer 13: package frame: the number that bytes begin with. -/
import Derived.Test.YteobffggfcmghaaDoorUd
namespace Go.Proofs.YteobffggfcmghaaDoor
open Go.RowKit
theorem or_high (a m s : Nat) (h : a < 2 ^ s) (hm : a + m * 2 ^ s < 2 ^ 64) : bits .or .u64 (a : Int) ((m * 2 ^ s : Nat) : Int) = ((a + m * 2 ^ s : Nat) : Int) := by
  unfold bits
  simp only
  show IntKind.u64.wrap (((BitVec.ofInt 64 (a : Int)) ||| (BitVec.ofInt 64 ((m * 2 ^ s : Nat) : Int))).toNat : Int) = _
  have e := Nat.shiftLeft_add_eq_or_of_lt h m
  rw [Nat.shiftLeft_eq] at e
  rw [BitVec.toNat_or, BitVec.ofInt_natCast, BitVec.ofInt_natCast, BitVec.toNat_ofNat, BitVec.toNat_ofNat, Nat.mod_eq_of_lt (by omega), Nat.mod_eq_of_lt (by omega), Nat.or_comm, ← e, u64_wrap]
  generalize m * 2 ^ s = q at hm
  omega
theorem or_low (a m s : Nat) (h : a < 2 ^ s) (hm : a + m * 2 ^ s < 2 ^ 64) : bits .or .u64 ((m * 2 ^ s : Nat) : Int) (a : Int) = ((a + m * 2 ^ s : Nat) : Int) := by
  unfold bits
  simp only
  show IntKind.u64.wrap (((BitVec.ofInt 64 ((m * 2 ^ s : Nat) : Int)) ||| (BitVec.ofInt 64 (a : Int))).toNat : Int) = _
  have e := Nat.shiftLeft_add_eq_or_of_lt h m
  rw [Nat.shiftLeft_eq] at e
  rw [BitVec.toNat_or, BitVec.ofInt_natCast, BitVec.ofInt_natCast, BitVec.toNat_ofNat, BitVec.toNat_ofNat, Nat.mod_eq_of_lt (by omega), Nat.mod_eq_of_lt (by omega), ← e, u64_wrap]
  generalize m * 2 ^ s = q at hm
  omega
theorem or_zero {a : Int} (h : 0 ≤ a ∧ a ≤ 18446744073709551615) : bits .or .u64 a 0 = a := by
  unfold bits
  simp only
  show IntKind.u64.wrap (((BitVec.ofInt 64 a) ||| (BitVec.ofInt 64 0)).toNat : Int) = _
  have := u64_bv h
  rw [BitVec.toNat_or, show (BitVec.ofInt 64 0).toNat = 0 by decide, Nat.or_zero, u64_wrap]
  omega
theorem not_128 : ∀ c : Nat, c < 256 → bits .andNot .u8 (c : Int) 128 = ((c % 128 : Nat) : Int) := by
  intro c hc
  have h : (List.range 256).all (fun c => decide (bits .andNot .u8 (c : Int) 128 = ((c % 128 : Nat) : Int))) = true := by decide +kernel
  have := List.all_eq_true.1 h c (List.mem_range.2 hc)
  simpa using this
theorem npow_big {k : Nat} (h : 10 ≤ k) : (2 : Nat) ^ 64 < 2 ^ (7 * k) := Nat.pow_lt_pow_right (by decide) (by omega)
theorem fit_zero {g k : Nat} (hk : 10 ≤ k) (h : g * 2 ^ (7 * k) < 2 ^ 64) : g = 0 := by
  rcases Nat.eq_zero_or_pos g with h0 | h0
  · exact h0
  · have h1 := npow_big hk
    have h2 := Nat.le_mul_of_pos_left (2 ^ (7 * k)) h0
    omega
theorem acc_fit {acc g k : Nat} (h1 : acc < 2 ^ (7 * k)) (h2 : acc < 2 ^ 64) (h3 : g * 2 ^ (7 * k) < 2 ^ 64) : acc + g * 2 ^ (7 * k) < 2 ^ 64 := by
  by_cases hk : 10 ≤ k
  · rw [fit_zero hk h3]; omega
  · have : k = 0 ∨ k = 1 ∨ k = 2 ∨ k = 3 ∨ k = 4 ∨ k = 5 ∨ k = 6 ∨ k = 7 ∨ k = 8 ∨ k = 9 := by omega
    rcases this with rfl | rfl | rfl | rfl | rfl | rfl | rfl | rfl | rfl | rfl <;> simp only [Nat.mul_zero, Nat.reduceMul, Nat.reducePow, Nat.pow_zero] at * <;> omega
theorem shift_fit {g k : Nat} (h : g * 2 ^ (7 * k) < 2 ^ 64) : Op.shift .shl .u64 (g : Int) .i64 (7 * (k : Int)) = pure (.int .u64 ((g * 2 ^ (7 * k) : Nat) : Int)) ∧ Op.shift .shr .u64 ((g * 2 ^ (7 * k) : Nat) : Int) .i64 (7 * (k : Int)) = pure (.int .u64 (g : Int)) := by
  have ht : (7 * (k : Int)).toNat = 7 * k := by omega
  have hb : IntKind.u64.bits = 64 := rfl
  rw [shift_shl_any _ _ _ _ (by omega), shift_shr_any _ _ _ _ (by omega), ht, hb]
  by_cases hk : 10 ≤ k
  · rw [fit_zero hk h]
    constructor
    · simp [u64_wrap]
    · simp
  · have e : min (7 * k) 64 = 7 * k := by omega
    rw [e]
    have hp : 0 < 2 ^ (7 * k) := Nat.pow_pos (by decide)
    constructor
    · refine congrArg (fun x => pure (Value.int .u64 x)) ?_
      rw [u64_wrap]
      have : (g : Int) * 2 ^ (7 * k) = ((g * 2 ^ (7 * k) : Nat) : Int) := by simp
      rw [this]
      generalize g * 2 ^ (7 * k) = q at h
      omega
    · refine congrArg (fun x => pure (Value.int .u64 x)) ?_
      have : ((g * 2 ^ (7 * k) : Nat) : Int) / 2 ^ (7 * k) = ((g * 2 ^ (7 * k) / 2 ^ (7 * k) : Nat) : Int) := by simp
      rw [this, Nat.mul_div_cancel _ hp]
theorem shift_wide {g k : Nat} (h : ¬ g * 2 ^ (7 * k) < 2 ^ 64) (hg : g < 128) : ∃ m q : Nat, Op.shift .shl .u64 (g : Int) .i64 (7 * (k : Int)) = pure (.int .u64 (m : Int)) ∧ Op.shift .shr .u64 (m : Int) .i64 (7 * (k : Int)) = pure (.int .u64 (q : Int)) ∧ q ≠ g := by
  have ht : (7 * (k : Int)).toNat = 7 * k := by omega
  have hb : IntKind.u64.bits = 64 := rfl
  refine ⟨g * 2 ^ min (7 * k) 64 % 2 ^ 64, g * 2 ^ min (7 * k) 64 % 2 ^ 64 / 2 ^ min (7 * k) 64, ?_, ?_, ?_⟩
  · rw [shift_shl_any _ _ _ _ (by omega), ht, hb]
    refine congrArg (fun x => pure (Value.int .u64 x)) ?_
    rw [u64_wrap]
    simp
  · rw [shift_shr_any _ _ _ _ (by omega), ht, hb]
    refine congrArg (fun x => pure (Value.int .u64 x)) ?_
    simp
  · have hg0 : 0 < g := by
      rcases Nat.eq_zero_or_pos g with h0 | h0
      · subst h0; simp at h
      · exact h0
    by_cases hk : 10 ≤ k
    · have e : min (7 * k) 64 = 64 := by omega
      rw [e, Nat.mul_mod_left, Nat.zero_div]
      omega
    · have e : min (7 * k) 64 = 7 * k := by omega
      rw [e]
      have hp : 0 < 2 ^ (7 * k) := Nat.pow_pos (by decide)
      have h1 : g * 2 ^ (7 * k) % 2 ^ 64 < g * 2 ^ (7 * k) := Nat.lt_of_lt_of_le (Nat.mod_lt _ (by decide)) (by omega)
      have := (Nat.div_lt_iff_lt_mul hp).2 h1
      omega
/-- What is told of it: the number and its bytes; nought and nought. -/
def numV : Option (Int × Nat) → Value
  | some r => .tuple #[.int .u64 r.1, .int .i64 (r.2 : Int)]
  | none => .tuple #[.int .u64 0, .int .i64 0]
set_option maxHeartbeats 4000000 in
set_option maxRecDepth 100000 in
theorem first_c (s : Value) (E : List Int) (w : World) (row : RowB w s E) (hE : OkB E) (hl : E.length ≤ 100000) : Calls Tryd.prog 34 #[s] w fun e w' => e = .returned (numV (numF E 0 0)) ∧ w = w' := by
  obtain ⟨ao, ac, rfl⟩ := row.shape
  obtain ⟨n, hn⟩ : ∃ n, E.length = n := ⟨_, rfl⟩
  have HN := Lib.hid hn
  have HR := Lib.hid row
  have HE := Lib.hid hE
  have HL : Hid (n ≤ 100000) := by rw [← hn]; exact hl
  obtain ⟨res, hres⟩ : ∃ r, numF E 0 0 = r := ⟨_, rfl⟩
  have HRES := Lib.hid hres
  rw [hn] at HR ⊢
  rw [hres]
  clear row hE hl hn hres
  go_enter Tryd.func34, Tryd.ntmps34
  go_wp2_with fail
  go_loopw [2, 4, 5, 6, 7, 10] (fun s2 _ _ _ _ s10 wr => ∃ k acc : Nat, k ≤ n ∧ s10 = .int .i64 (k : Int) ∧ s2 = .int .u64 (acc : Int) ∧ Hid (numF (E.drop k) k (acc : Int) = res ∧ (acc < 2 ^ (7 * k) ∧ acc < 2 ^ 64)) ∧ Hid (wr = w)) (fun _ _ _ _ _ s10 _ => n - (intOf s10).toNat)
  case atStart => exact ⟨0, 0, by omega, rfl, rfl, ⟨by simpa using HRES.out, by decide, by decide⟩, rfl⟩
  case round =>
    obtain ⟨k, acc, hk, rfl, rfl, hv, hw⟩ := hrel
    have hw' := hw.out
    subst hw'
    clear hw
    by_cases hlt : k < n
    · have hd : decide ((k : Int) < (n : Int)) = true := by simp; omega
      have hki : (k : Int) < (n : Int) := by omega
      obtain ⟨b, of, rfl, hb, hc⟩ := RowB.addr HR.out (by rw [HN.out]; omega)
      have hx := bAt_some (E := E) (k := k) (by rw [HN.out]; exact hlt)
      have c0 := hc k _ hx
      have hxr := HE.out _ (List.mem_of_getElem? hx)
      generalize hxe : bAt E k = x at *
      obtain ⟨c, rfl⟩ : ∃ c : Nat, x = (c : Int) := ⟨x.toNat, by omega⟩
      have hdr : E.drop k = (c : Int) :: E.drop (k + 1) := by
        have hl' : k < E.length := by rw [HN.out]; exact hlt
        rw [List.drop_eq_getElem_cons hl']
        congr 1
        rw [List.getElem?_eq_getElem hl'] at hx
        exact Option.some.inj hx
      have hv1 := hv.out.1
      rw [hdr, numF] at hv1
      have HV2 := Lib.hid hv.out.2
      have hk9 := HL.out
      by_cases hc0 : c = 0
      · subst hc0
        have z1 : bits .andNot .u8 0 128 = 0 := by decide
        have z2 : IntKind.u64.wrap 0 = 0 := by decide
        obtain ⟨s1, s2⟩ := shift_fit (g := 0) (k := k) (by simp)
        rw [Nat.zero_mul] at s1 s2
        have hz0 : ((0 : Nat) : Int) = 0 := rfl
        have hor : bits .or .u64 (acc : Int) 0 = (acc : Int) := or_zero ⟨by omega, by have := HV2.out.2; omega⟩
        rw [hz0] at s1 s2 hv1 c0
        rw [show (0 : Int) % 128 * 2 ^ (7 * k) = 0 by simp, if_pos (by decide), if_neg (by decide), Int.add_zero] at hv1
        by_cases hk0 : 0 < k
        · rw [if_pos ⟨rfl, hk0⟩] at hv1
          have HVN : Hid (numV res = .tuple #[.int .u64 0, .int .i64 0]) := by rw [Hid, ← hv1]; rfl
          have d3 : decide ((k : Int) > 0) = true := by simp; omega
          clear hv1 hv HV2 hb hc hx hxr hdr hz0
          go_wp2_with fail
          go_ret2
          exact ⟨by rw [HVN.out]; rfl, rfl⟩
        · rw [if_neg (fun q => hk0 q.2)] at hv1
          have HVN : Hid (numV res = .tuple #[.int .u64 (acc : Int), .int .i64 ((k : Int) + 1)]) := by
            rw [Hid, ← hv1]
            show Value.tuple #[.int .u64 (acc : Int), .int .i64 ((k + 1 : Nat) : Int)] = _
            rw [Int.natCast_add]
            rfl
          have d3 : decide ((k : Int) > 0) = false := by simp; omega
          clear hv1 hv HV2 hb hc hx hxr hdr hz0
          go_wp2_with fail
          go_ret2
          exact ⟨by rw [HVN.out]; rfl, rfl⟩
      have hn128 := not_128 c (by omega)
      obtain ⟨g, hg⟩ : ∃ g, c % 128 = g := ⟨_, rfl⟩
      rw [hg] at hn128
      have hm7 : wrap64 (7 * (k : Int)) = ((7 * k : Nat) : Int) := by
        have := HL.out
        rw [wrapR _ (by omega) (by omega)]; omega
      have ug : IntKind.u64.wrap (g : Int) = (g : Int) := by rw [u64_wrap]; omega
      have hgi : (c : Int) % 128 * 2 ^ (7 * k) = ((g * 2 ^ (7 * k) : Nat) : Int) := by
        rw [← hg]; simp
      rw [hgi] at hv1
      have hg128 : g < 128 := by omega
      have uc : IntKind.u8.wrap (c : Int) = (c : Int) := by unfold IntKind.wrap; simp [IntKind.bits, IntKind.signed]; omega
      by_cases hfit : g * 2 ^ (7 * k) < 2 ^ 64
      · rw [if_pos (by omega)] at hv1
        obtain ⟨s1, s2⟩ := shift_fit hfit
        have hne : ((g : Int) != (g : Int)) = false := by simp
        have hacc := acc_fit HV2.out.1 HV2.out.2 hfit
        have hor : bits .or .u64 (acc : Int) ((g * 2 ^ (7 * k) : Nat) : Int) = ((acc + g * 2 ^ (7 * k) : Nat) : Int) := or_high acc g (7 * k) HV2.out.1 hacc
        have hacc2 : acc + g * 2 ^ (7 * k) < 2 ^ (7 * (k + 1)) := by
          have e : 2 ^ (7 * (k + 1)) = 2 ^ (7 * k) * 128 := by rw [Nat.mul_add, Nat.pow_add]
          rw [e]
          have h1 := HV2.out.1
          have h2 : g * 2 ^ (7 * k) ≤ 127 * 2 ^ (7 * k) := Nat.mul_le_mul_right _ (by omega)
          omega
        generalize hm : g * 2 ^ (7 * k) = m at *
        have hsum : (acc : Int) + (m : Int) = ((acc + m : Nat) : Int) := by omega
        rw [hsum] at hv1
        generalize hac : acc + m = a2 at *
        by_cases hc128 : 128 ≤ c
        · have d1 : decide ((c : Int) ≥ 128) = true := by simp; omega
          have hci : (128 : Int) ≤ (c : Int) := by omega
          rw [if_pos hci] at hv1
          have HVN : Hid (numF (E.drop (k + 1)) (k + 1) (a2 : Int) = res ∧ (a2 < 2 ^ (7 * (k + 1)) ∧ a2 < 2 ^ 64)) := ⟨hv1, hacc2, hacc⟩
          clear hv1 hacc hacc2 hv HV2 hb hc hx hxr hg hgi hdr hm hac hsum hfit hg128
          go_wp2_with fail
          exact ⟨⟨k + 1, a2, by omega, by go_num, rfl, HVN.out, Lib.hid trivial⟩, by simp [intOf]; omega⟩
        · have d1 : decide ((c : Int) ≥ 128) = false := by simp; omega
          have hci : ¬ (128 : Int) ≤ (c : Int) := by omega
          rw [if_neg hci] at hv1
          have hzi : ¬ ((c : Int) = 0 ∧ 0 < k) := fun ⟨q1, q2⟩ => hc0 (by omega)
          rw [if_neg hzi] at hv1
          have HVN : Hid (numV res = .tuple #[.int .u64 (a2 : Int), .int .i64 ((k : Int) + 1)]) := by
            rw [Hid, ← hv1]
            show Value.tuple #[.int .u64 (a2 : Int), .int .i64 ((k + 1 : Nat) : Int)] = _
            rw [Int.natCast_add]
            rfl
          have d2 : ((c : Int) == 0) = false := by simp; omega
          clear hv1 hacc hacc2 hv HV2 hb hc hx hxr hg hgi hdr hm hac hsum hfit hg128 hzi hc0
          go_wp2_with fail
          go_ret2
          exact ⟨by rw [HVN.out]; rfl, rfl⟩
      · rw [if_neg (by omega)] at hv1
        obtain ⟨m, q, s1, s2, hq⟩ := shift_wide hfit hg128
        have hne : ((q : Int) != (g : Int)) = true := by simp; omega
        have HVN : Hid (numV res = .tuple #[.int .u64 0, .int .i64 0]) := by rw [Hid, ← hv1]; rfl
        clear hv1 hv HV2 hb hc hx hxr hg hgi hdr hfit hg128 hq
        go_wp2_with fail
        go_ret2
        exact ⟨by rw [HVN.out]; rfl, rfl⟩
    · have hd : decide ((k : Int) < (n : Int)) = false := by simp; omega
      have hkn : k = n := by omega
      have HVN : Hid (numV res = .tuple #[.int .u64 0, .int .i64 0]) := by
        have := hv.out.1
        rw [List.drop_eq_nil_of_le (by rw [HN.out]; omega)] at this
        rw [Hid, ← this]
        rfl
      clear hv hlt
      subst hkn
      go_wp2_with fail
      go_ret2
      exact ⟨by rw [HVN.out]; rfl, rfl⟩
end Go.Proofs.YteobffggfcmghaaDoor
