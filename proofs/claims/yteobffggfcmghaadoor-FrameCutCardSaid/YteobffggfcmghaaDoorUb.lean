/- Layer 13: package frame: words; the size of a frame; the frame of a record. -/
import Derived.Test.YteobffggfcmghaaDoorUa
import Derived.Laws.MakeOwn
import Derived.Lib.MinMax
namespace Go.Proofs.YteobffggfcmghaaDoor
open Go.RowKit
set_option maxHeartbeats 4000000 in
set_option maxRecDepth 100000 in
theorem size_c (n : Int) (w : World) (h : 0 ≤ n ∧ n ≤ 1000000000) : Calls Tryd.prog 15 #[.int .i64 n] w fun e w' => e = .returned (.int .i64 (17 + n)) ∧ w = w' := by
  have d1 : decide (n < 0) = false := by simp; omega
  have hm : min n 9223372036854775790 = n := by omega
  have hw : wrap64 (n + 17) = 17 + n := by rw [wrapR _ (by omega) (by omega)]; omega
  have HW := Lib.hid hw
  clear h
  go_enter Tryd.func15, Tryd.ntmps15
  go_wp2_with fail
  go_ret
  exact ⟨by rw [HW.out]; rfl, rfl⟩
theorem size_neg (w : World) : Calls Tryd.prog 15 #[.int .i64 (-1)] w fun e w' => e = .returned (.int .i64 0) ∧ w = w' := by
  go_enter Tryd.func15, Tryd.ntmps15
  go_wp2_with fail
  go_ret
  exact ⟨rfl, rfl⟩
theorem make_0 (W : World) (n : Nat) (hn : n ≤ 10000000) : (Instr.makeSlice 22 (.int .i64 0) (.int .i64 (n : Int))).run Tryd.prog W = .ok (.slice (some ⟨W.heap.size, 0, none⟩) 0 n) (W.alloc (.cells (madeCells (Value.int .u8 0).cells (n * 1)) 5)) := by
  obtain ⟨i, hi, hz0, hz1, hz2⟩ := info_parts infoB
  have hmk := run_make (P := Tryd.prog) W 22 5 i _ Tryd.underlying22 hi hz0 .i64 .i64 0 n (Int.le_refl _) (by omega) (by rw [hz2]; omega) (by omega)
  rw [hz1, Int.toNat_natCast] at hmk
  rw [hmk]
  rfl
theorem OwnB.made0 (w : World) {base : Nat} (hb : base ≤ w.heap.size) (n : Nat) (hn : n ≤ 10000000) : OwnB (w.alloc (.cells (madeCells (Value.int .u8 0).cells (n * 1)) 5)) base (.slice (some ⟨w.heap.size, 0, none⟩) 0 n) [] :=
  ⟨rfl, .inr ⟨w.heap.size, n, _, rfl, hb, Blk.new _ _ _, Nat.zero_le _, by unfold maxLen; omega, by simp [size_madeCells], by simp [bytV]⟩⟩
set_option maxHeartbeats 4000000 in
set_option maxRecDepth 100000 in
theorem putWord_c (base : Nat) (v : Value) (E : List Int) (n : Int) (sz : Nat) (w : World) (ho : OwnB w base v E) (hb : base ≤ w.heap.size) (h0 : 0 ≤ n ∧ n ≤ 9223372036854775807) (hsz : sz ≤ 8) (hl : E.length ≤ 90000) : Calls Tryd.prog 28 #[v, .int .u64 n, .int .i64 (sz : Int)] w fun e w' => ∃ v', e = .returned v' ∧ OwnB w' base v' (E ++ lowI n sz) ∧ Below base w w' := by
  have HO := Lib.hid ho
  have HB := Lib.hid hb
  have HN := Lib.hid h0
  have HSZ := Lib.hid hsz
  have HL := Lib.hid hl
  have hsw : wrap64 ((sz : Int) - 1) = (sz : Int) - 1 := wrapR _ (by omega) (by omega)
  clear ho hb h0 hsz hl
  go_enter Tryd.func28, Tryd.ntmps28
  go_wp2_with fail
  go_loopw [0, 7] (fun s0 s7 wr => ∃ i : Nat, s7 = .int .i64 ((i : Int) - 1) ∧ Hid (i ≤ sz ∧ Below base w wr ∧ ∃ A, A ++ lowI n i = lowI n sz ∧ OwnB wr base s0 (E ++ A))) (fun _ s7 _ => (intOf s7 + 1).toNat)
  case atStart => exact ⟨sz, by rw [hsw], Nat.le_refl _, Below.refl _ _, [], rfl, by rw [List.append_nil]; exact HO.out⟩
  case round =>
    obtain ⟨i, rfl, hw⟩ := hrel
    obtain ⟨hi, hbw, A, hA, hown⟩ := hw.out
    have HI : Hid (i ≤ sz ∧ i ≤ 8) := ⟨hi, by have := HSZ.out; omega⟩
    have HBW := Lib.hid hbw
    have HA := Lib.hid hA
    have HOW := Lib.hid hown
    clear hi hbw hA hown hw hsw
    cases i with
    | succ i =>
      have he : (((i + 1 : Nat) : Int) - 1) = (i : Int) := by omega
      rw [he]
      have hd : decide ((i : Int) ≥ 0) = true := by simp
      have hi8 : i ≤ 7 := by have := HI.out.2; omega
      have hm8 : wrap64 (8 * (i : Int)) = ((8 * i : Nat) : Int) := by rw [wrapR _ (by omega) (by omega)]; omega
      have hk1 : wrap64 ((i : Int) - 1) = (i : Int) - 1 := wrapR _ (by omega) (by omega)
      obtain ⟨x, hx⟩ : ∃ x, n / 2 ^ (8 * i) % 256 = x := ⟨_, rfl⟩
      have HST : Hid (lowI n (i + 1) = x :: lowI n i) := by
        rw [Hid, lowI, ← hx, Int.pow_mul]; rfl
      have HX3 : Hid (∀ j u, (bytV [x])[j]? = some u → (wr.alloc (.cells #[.int .u8 x] 5)).cell? ((⟨wr.heap.size, 0, none⟩ : Addr).add j) = some u) := news_byt wr [x] 5 #[.int .u8 x] rfl
      have HA3 : Hid (OwnB (wr.alloc (.cells #[.int .u8 x] 5)) base u0 (E ++ A) ∧ Below base w (wr.alloc (.cells #[.int .u8 x] 5)) ∧ base ≤ (wr.alloc (.cells #[.int .u8 x] 5)).heap.size) := by
        have hbz : base ≤ wr.heap.size := Nat.le_trans HB.out HBW.out.size
        exact ⟨HOW.out.grow ((Below.refl _ _).alloc (Nat.le_refl _) _), HBW.out.alloc hbz _, by simp; omega⟩
      have HL3 : Hid ((E ++ A).length + 1 ≤ 100000) := by
        have h := congrArg List.length HA.out
        rw [List.length_append, lowI_len, lowI_len] at h
        rw [Hid, List.length_append]
        have := HL.out
        have := HI.out
        have := HSZ.out
        omega
      have HAX : Hid ((A ++ [x]) ++ lowI n i = lowI n sz) := by rw [Hid, ← HA.out, HST.out, List.append_assoc]; rfl
      clear he
      go_wp2_with (at_builtin; refine wpList_append_byts rfl _ _ 22 rfl Tryd.underlying22 base _ (E ++ A) rfl HA3.out.1 ⟨wr.heap.size, 0, none⟩ 1 1 [x] rfl rfl HX3.out HL3.out HA3.out.2.2 ?_)
      intro v4 w4 ho4 hg4 _
      have H4 : Hid (Below base w w4 ∧ OwnB w4 base v4 (E ++ (A ++ [x]))) := ⟨own_below HA3.out.1 hg4 HA3.out.2.1 (Nat.le_refl _) HA3.out.2.2, ho4⟩
      clear ho4 hg4 HX3 HA3
      go_wp2_with fail
      exact ⟨⟨i, by first | rfl | rw [hk1], by have := HI.out.1; omega, H4.out.1, A ++ [x], HAX.out, H4.out.2⟩, by simp [intOf]⟩
    | zero =>
      have hd : decide ((((0 : Nat) : Int) - 1) ≥ 0) = false := by decide
      have HF : Hid (OwnB wr base u0 (E ++ lowI n sz) ∧ Below base w wr) := ⟨by rw [← HA.out]; simpa [lowI] using HOW.out, HBW.out⟩
      clear HOW HA
      go_wp2_with fail
      go_ret
      exact ⟨_, rfl, HF.out⟩
/-- What a record's frame is made of. -/
abbrev recA (seq kind : Int) (s : Value) : Value := .agg #[.int .i64 seq, .int .i64 kind, s]
set_option maxHeartbeats 4000000 in
set_option maxRecDepth 100000 in
theorem frame_c (seq kind : Int) (s : Value) (E : List Int) (w : World) (hrd : Rd w) (row : RowB w s E) (hE : OkB E) (hl : E.length ≤ 60000) (hs : 0 ≤ seq ∧ seq ≤ 9223372036854775807) (hk : 0 ≤ kind ∧ kind ≤ 255) : Calls Tryd.prog 12 #[recA seq kind s] w fun e w' => ∃ v, e = .returned (.tuple #[v, .int .i64 0]) ∧ OwnB w' w.heap.size v (frameI seq kind E) ∧ Below w.heap.size w w' := by
  obtain ⟨ao, ac, rfl⟩ := row.shape
  obtain ⟨n, hn⟩ : ∃ n, E.length = n := ⟨_, rfl⟩
  have HN := Lib.hid hn
  have HR := Lib.hid row
  have HE := Lib.hid hE
  have HRD := Lib.hid hrd
  have HL : Hid (n ≤ 60000) := by rw [← hn]; exact hl
  have HS := Lib.hid hs
  have HK := Lib.hid hk
  rw [hn] at HR ⊢
  obtain ⟨h1, hh1⟩ : ∃ l, lowI (n : Int) 4 = l := ⟨_, rfl⟩
  obtain ⟨h2, hh2⟩ : ∃ l, h1 ++ lowI seq 8 = l := ⟨_, rfl⟩
  obtain ⟨h3, hh3⟩ : ∃ l, h2 ++ [kind] = l := ⟨_, rfl⟩
  obtain ⟨h4, hh4⟩ : ∃ l, h3 ++ E = l := ⟨_, rfl⟩
  have HH : Hid (headI seq kind E = h4) := by unfold headI Hid; rw [hn, hh1, hh2, hh3, hh4]
  have HF : Hid (frameI seq kind E = h4 ++ lowI (sumI h4) 4) := by unfold frameI Hid; rw [HH.out]
  have HLN : Hid (h1.length = 4 ∧ h2.length = 12 ∧ h3.length = 13 ∧ h4.length = 13 + n) := by
    rw [← hh4, ← hh3, ← hh2, ← hh1]
    simp [lowI_len, hn]
    unfold Hid
    omega
  have HO4 : Hid (OkB h4) := by rw [Hid, ← HH.out]; exact headI_ok hk hE
  have HK1 : Hid (lowI kind 1 = [kind]) := by
    show [kind / 256 ^ 0 % 256] = [kind]
    rw [Int.pow_zero, Int.ediv_one]
    congr 1
    omega
  have HH1 := Lib.hid hh1
  have HH2 := Lib.hid hh2
  have HH3 := Lib.hid hh3
  have HH4 := Lib.hid hh4
  rw [HF.out]
  have d1 : decide (seq < 0) = false := by simp; omega
  have d2 : decide (kind < 0) = false := by simp; omega
  have d3 : decide (kind > 255) = false := by simp; omega
  have d4 : decide ((n : Int) > 1048576) = false := by simp; omega
  have u1 : IntKind.u64.wrap (n : Int) = (n : Int) := by rw [u64_wrap]; omega
  have u2 : IntKind.u64.wrap seq = seq := by rw [u64_wrap]; omega
  have u3 : IntKind.u64.wrap kind = kind := by rw [u64_wrap]; omega
  have hm0 : ∀ W : World, (Instr.makeSlice 22 (.int .i64 0) (.int .i64 (17 + (n : Int)))).run Tryd.prog W = .ok (.slice (some ⟨W.heap.size, 0, none⟩) 0 (17 + n)) (W.alloc (.cells (madeCells (Value.int .u8 0).cells ((17 + n) * 1)) 5)) := fun W => by
    have := make_0 W (17 + n) (by omega)
    rw [Int.natCast_add] at this
    exact this
  obtain ⟨mc, hmc⟩ : ∃ mc, madeCells (Value.int .u8 0).cells ((17 + n) * 1) = mc := ⟨_, rfl⟩
  have HM0 : Hid (∀ (w : World) {base : Nat} (hb : base ≤ w.heap.size), OwnB (w.alloc (.cells mc 5)) base (.slice (some ⟨w.heap.size, 0, none⟩) 0 (17 + n)) []) := fun w base hb => by
    rw [← hmc]; exact OwnB.made0 w hb (17 + n) (by omega)
  rw [hmc] at hm0
  obtain ⟨w1, hw1⟩ : ∃ x, x = w.alloc (.cells #[.int .i64 seq, .int .i64 kind, .slice ao n ac] 29) := ⟨_, rfl⟩
  have HB0 : Hid (Below w.heap.size w w1 ∧ w1.heap.size = w.heap.size + 1 ∧ Blk w1 w.heap.size 29 #[.int .i64 seq, .int .i64 kind, .slice ao n ac]) := by
    subst hw1
    exact ⟨(Below.refl _ _).alloc (Nat.le_refl _) _, by simp, Blk.new _ _ _⟩
  clear row hE hl hn hs hk hh1 hh2 hh3 hh4 hmc hrd
  go_enter Tryd.func12, Tryd.ntmps12
  go_wp2_with fail
  rw [← hw1]
  have HBK : Hid (∀ W, Below w1.heap.size w1 W → Blk W w.heap.size 29 #[.int .i64 seq, .int .i64 kind, .slice ao n ac]) := fun W hW => (Keep.of_below (S := fun _ => True) hW).blk HB0.out.2.2 trivial
  clear hw1
  refine (size_c (n : Int) w1 ⟨by omega, by have := HL.out; omega⟩).mono ?_
  rintro e w' ⟨rfl, rfl⟩
  go_upto_region 4 with fail
  obtain ⟨w2, hw2⟩ : ∃ x, x = w1.alloc (.cells mc 5) := ⟨_, rfl⟩
  have H2 : Hid (OwnB w2 w1.heap.size (.slice (some ⟨w1.heap.size, 0, none⟩) 0 (17 + n)) [] ∧ Below w1.heap.size w1 w2) := by
    subst hw2
    exact ⟨HM0.out w1 (Nat.le_refl _), (Below.refl _ _).alloc (Nat.le_refl _) _⟩
  rw [← hw2]
  clear hw2 HM0 hm0
  have c2 := (HBK.out w2 H2.out.2).cell 2
  go_wp2_with fail
  refine (putWord_c w1.heap.size (.slice (some ⟨w1.heap.size, 0, none⟩) 0 (17 + n)) [] (n : Int) 4 w2 H2.out.1 H2.out.2.size (by have := HL.out; omega) (by omega) (by simp)).mono ?_
  rintro e w3 ⟨v3, rfl, ho, hb⟩
  have H3 : Hid (OwnB w3 w1.heap.size v3 h1 ∧ Below w1.heap.size w1 w3) := ⟨by rw [HH1.out, List.nil_append] at ho; exact ho, H2.out.2.trans hb⟩
  clear ho hb
  clear c2
  have c0 := (HBK.out w3 H3.out.2).cell 0
  go_wp2_with fail
  refine (putWord_c w1.heap.size v3 h1 seq 8 w3 H3.out.1 H3.out.2.size (HS.out) (by omega) (by rw [HLN.out.1]; omega)).mono ?_
  rintro e w4 ⟨v4, rfl, ho, hb⟩
  have H4 : Hid (OwnB w4 w1.heap.size v4 h2 ∧ Below w1.heap.size w1 w4) := ⟨by rw [HH2.out] at ho; exact ho, H3.out.2.trans hb⟩
  clear ho hb
  clear c0
  have c1 := (HBK.out w4 H4.out.2).cell 1
  go_wp2_with fail
  refine (putWord_c w1.heap.size v4 h2 kind 1 w4 H4.out.1 H4.out.2.size (by have := HK.out; omega) (by omega) (by rw [HLN.out.2.1]; omega)).mono ?_
  rintro e w5 ⟨v5, rfl, ho, hb⟩
  have H5 : Hid (OwnB w5 w1.heap.size v5 h3 ∧ Below w1.heap.size w1 w5) := ⟨by rw [HK1.out, HH3.out] at ho; exact ho, H4.out.2.trans hb⟩
  clear ho hb
  clear c1
  have c2 := (HBK.out w5 H5.out.2).cell 2
  have HL4 : Hid (h3.length + E.length ≤ 100000) := Lib.hid (by rw [HLN.out.2.2.1, HN.out]; have := HL.out; omega)
  have HR5 : Hid (RowB w5 (.slice ao n ac) E) := HR.out.on (HB0.out.1.trans (H5.out.2.mono HB0.out.1.size))
  go_wp2_with (at_builtin; refine wpList_append_row rfl _ _ 22 rfl Tryd.underlying22 w1.heap.size _ h3 rfl H5.out.1 (.slice ao n ac) E rfl HR5.out HL4.out H5.out.2.size ?_)
  intro v6 w6 ho6 hg6 _
  have H6 : Hid (OwnB w6 w1.heap.size v6 h4 ∧ Below w1.heap.size w1 w6) := ⟨by rw [← HH4.out]; exact ho6, own_below H5.out.1 hg6 H5.out.2 (Nat.le_refl _) H5.out.2.size⟩
  clear ho6 hg6 HR5 c2
  go_wp2_with fail
  refine (sum_c v6 h4 w6 (HRD.out.on (HB0.out.1.trans (H6.out.2.mono HB0.out.1.size))) H6.out.1.row HO4.out (by rw [HLN.out.2.2.2]; have := HL.out; omega)).mono ?_
  rintro e w7 ⟨rfl, hb7⟩
  have H7 : Hid (OwnB w7 w1.heap.size v6 h4 ∧ Below w1.heap.size w1 w7) := ⟨H6.out.1.grow hb7, H6.out.2.trans (hb7.mono H6.out.2.size)⟩
  have hsi := sumI_in h4
  obtain ⟨q, hq⟩ : ∃ q, sumI h4 = q := ⟨_, rfl⟩
  have HQ := Lib.hid hq
  rw [hq] at hsi ⊢
  have u4 : IntKind.u64.wrap q = q := by rw [u64_wrap]; omega
  have HSI : Hid (0 ≤ q ∧ q ≤ 9223372036854775807) := ⟨by omega, by omega⟩
  clear hb7 hq hsi
  go_wp2_with fail
  refine (putWord_c w1.heap.size v6 h4 q 4 w7 H7.out.1 H7.out.2.size HSI.out (by omega) (by rw [HLN.out.2.2.2]; have := HL.out; omega)).mono ?_
  rintro e w8 ⟨v8, rfl, ho, hb⟩
  have H8 : Hid (OwnB w8 w.heap.size v8 (h4 ++ lowI q 4) ∧ Below w.heap.size w w8) := ⟨owns_base ho HB0.out.1.size, HB0.out.1.trans ((H7.out.2.trans hb).mono HB0.out.1.size)⟩
  clear ho hb
  go_wp2_with fail
  go_ret2
  refine ⟨v8, ?_, by rw [HQ.out]; exact H8.out⟩
  rfl
set_option maxHeartbeats 4000000 in
set_option maxRecDepth 100000 in
theorem frame_no (seq kind : Int) (ao : Option Addr) (n ac : Nat) (w : World) (h : seq < 0 ∨ kind < 0 ∨ kind > 255) : Calls Tryd.prog 12 #[recA seq kind (.slice ao n ac)] w fun e w' => e = .returned (.tuple #[.slice none 0 0, .int .i64 30]) ∧ Below w.heap.size w w' := by
  have HB0 : Hid (Below w.heap.size w (w.alloc (.cells #[.int .i64 seq, .int .i64 kind, .slice ao n ac] 29))) := (Below.refl _ _).alloc (Nat.le_refl _) _
  by_cases h1 : seq < 0
  · have d1 : decide (seq < 0) = true := by simp; omega
    clear h
    go_enter Tryd.func12, Tryd.ntmps12
    go_wp2_with fail
    go_ret2
    exact ⟨rfl, HB0.out⟩
  · have d1 : decide (seq < 0) = false := by simp; omega
    by_cases h2 : kind < 0
    · have d2 : decide (kind < 0) = true := by simp; omega
      clear h
      go_enter Tryd.func12, Tryd.ntmps12
      go_wp2_with fail
      go_ret2
      exact ⟨rfl, HB0.out⟩
    · have d2 : decide (kind < 0) = false := by simp; omega
      have d3 : decide (kind > 255) = true := by simp; omega
      clear h
      go_enter Tryd.func12, Tryd.ntmps12
      go_wp2_with fail
      go_ret2
      exact ⟨rfl, HB0.out⟩
end Go.Proofs.YteobffggfcmghaaDoor
