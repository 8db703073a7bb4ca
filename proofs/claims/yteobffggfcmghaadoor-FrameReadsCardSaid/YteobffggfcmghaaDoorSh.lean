/- Layer 13: the law FrameReads. -/
import Derived.Test.YteobffggfcmghaaDoorSg
namespace Go.Proofs.YteobffggfcmghaaDoor
open Go.RowKit
variable {Rd : World → Prop} {InAt : (Nat → Prop) → World → Nat → List Int → Option Nat → Prop}
theorem RowB.cutA {w : World} {b o n c : Nat} {B : List Int} (h : RowB w (.slice (some ⟨b, o, none⟩) n c) B) (hn : B.length = n) {at0 k : Nat} (hk : at0 + k ≤ n) : RowB w (.slice (some ⟨b, o + at0, none⟩) k (c - at0)) (cutL B at0 k) := by
  by_cases h0 : 0 < k
  · exact h.cut hn hk h0
  · have hk0 : k = 0 := by omega
    subst hk0
    exact .inr (.inl ⟨_, _, rfl, by unfold cutL; simp⟩)
theorem within_none {B : List Int} : WithinD B none := fun k e => by cases e
theorem within_some {B : List Int} {a : Nat} (h : a ≤ B.length) : WithinD B (some a) := fun k e => by cases e; exact h
set_option maxHeartbeats 4000000 in
set_option maxRecDepth 100000 in
theorem reads_law (H : InOk Rd InAt) (HS : SumOk Rd) (HA : AwakeOk Rd) (s t : Value) (B K : List Int) (most : Int) (w : World) (hrd : Rd w) (rowB : RowB w s B) (capB : CapS s) (okB : OkB B) (rowK : RowB w t K) (okK : OkB K) (hm : rngN most) : Calls Tryd.prog 8 #[s, t, .int .i64 most] w fun e w' => e = .returned (.bool true) ∧ Below w.heap.size w w' := by
  have HI := Lib.hid H
  have HS := Lib.hid HS
  have HA := Lib.hid HA
  have HMO := Lib.hid hm
  have HRD := Lib.hid hrd
  obtain ⟨ao, c, rfl⟩ := rowB.shape
  obtain ⟨ko, kc, rfl⟩ := rowK.shape
  obtain ⟨n, hn⟩ : ∃ n, B.length = n := ⟨_, rfl⟩
  obtain ⟨m, hmm⟩ : ∃ n, K.length = n := ⟨_, rfl⟩
  have HNB := Lib.hid hn
  have HNK := Lib.hid hmm
  have HRB := Lib.hid rowB
  have HCB := Lib.hid capB
  have HRK := Lib.hid rowK
  have HOB := Lib.hid okB
  have HOK := Lib.hid okK
  rw [hn] at HRB HCB ⊢
  rw [hmm] at HRK ⊢
  clear rowB capB okB rowK okK hm hn hmm hrd H
  by_cases hbig : n > 500
  · have d1 : decide ((n : Int) > 500) = true := by simp; omega
    have d2 : decide (500 < n) = true := by simp; omega
    clear hbig
    go_enter Tryd.func8, Tryd.ntmps8
    go_wp2_with fail
    refine (HA.out w HRD.out).mono ?_
    rintro e w1 ⟨rfl, hb⟩
    have H1 := Lib.hid hb
    clear hb
    go_wp2_with fail
    go_ret
    exact ⟨rfl, H1.out⟩
  · have d1 : decide ((n : Int) > 500) = false := by simp; omega
    have d2 : decide (500 < n) = false := by simp; omega
    by_cases hbig2 : m > 60
    · have d3 : decide ((m : Int) > 60) = true := by simp; omega
      have d4 : decide (60 < m) = true := by simp; omega
      clear hbig
      go_enter Tryd.func8, Tryd.ntmps8
      go_wp2_with fail
      refine (HA.out w HRD.out).mono ?_
      rintro e w1 ⟨rfl, hb⟩
      have H1 := Lib.hid hb
      clear hb
      go_wp2_with fail
      go_ret
      exact ⟨rfl, H1.out⟩
    · have d3 : decide ((m : Int) > 60) = false := by simp; omega
      have d4 : decide (60 < m) = false := by simp; omega
      have HL : Hid (n ≤ 500 ∧ m ≤ 60) := ⟨by omega, by omega⟩
      clear hbig hbig2
      go_enter Tryd.func8, Tryd.ntmps8
      go_wp2_with fail
      refine (HI.out.new (.slice ao n c) B w HRD.out HRB.out HCB.out HOB.out (by rw [HNB.out]; have := HL.out; omega)).mono ?_
      rintro e w1 ⟨T1, g, rfl, ha, hb, hT⟩
      have H1 : Hid (InAt T1 w1 g B (some 0) ∧ Far w w1 T1) := ⟨ha, hT, hb⟩
      clear ha hb hT
      go_wp2_with fail
      go_loopw [8, 9, 30] (fun s8 s9 s30 wr => ∃ (j at0 : Nat) (bad : Bool) (T : Nat → Prop), j ≤ m ∧ s30 = .int .i64 (j : Int) ∧ s8 = .int .i64 (at0 : Int) ∧ s9 = .bool bad ∧ Hid (at0 ≤ n ∧ InAt T wr g B (if bad then none else some at0) ∧ Far w wr T)) (fun _ _ s30 _ => m - (intOf s30).toNat)
      case atStart => exact ⟨0, 0, false, T1, by omega, rfl, rfl, rfl, ⟨by omega, H1.out⟩⟩
      case round =>
        clear H1 d1 d2 d3 d4
        obtain ⟨j, at0, bad, T, hj, rfl, rfl, rfl, hw⟩ := hrel
        by_cases hlt : j < m
        · have hd : decide ((j : Int) < (m : Int)) = true := by simp; omega
          have hki : (j : Int) < (m : Int) := by omega
          obtain ⟨kb, ko', rfl, hkb, hkc⟩ := RowB.addr (HRK.out.on hw.out.2.2.below) (by rw [HNK.out]; omega)
          have hx := bAt_some (E := K) (k := j) (by rw [HNK.out]; omega)
          have c0 := hkc j _ hx
          have hxr := HOK.out _ (List.mem_of_getElem? hx)
          generalize bAt K j = x at *
          have r2 : x.tmod 3 = x % 3 := Int.tmod_eq_emod_of_nonneg (by omega)
          have HX3 : Hid (x % 3 = 0 ∨ x % 3 = 1 ∨ x % 3 = 2) := Lib.hid (by omega)
          generalize x % 3 = y at *
          clear hx hkb hkc hxr
          have HREAD := Lib.hid (refRead_c (.slice ao n c) B at0 wr (HRB.out.on hw.out.2.2.below) HCB.out HOB.out (by rw [HNB.out]; have := HL.out; omega) (by rw [HNB.out]; exact hw.out.1))
          have hin := readI_in (B := B) (a0 := at0) (by rw [HNB.out]; exact hw.out.1)
          have HI0 : Hid (intD B (some at0) = if (readI B at0).2 < 0 then (0, none) else ((readI B at0).1, some (readI B at0).2.toNat)) := rfl
          have HT0 : Hid (textD B (some at0) = if (readI B at0).2 < 0 ∨ (readI B at0).1 < 0 ∨ (readI B at0).1 > (B.length : Int) - (readI B at0).2 then ([], none) else (cutL B (readI B at0).2.toNat (readI B at0).1.toNat, some ((readI B at0).2 + (readI B at0).1).toNat)) := rfl
          have HC0 : Hid (countD B most (some at0) = if (readI B at0).2 < 0 ∨ (readI B at0).1 < 0 ∨ (readI B at0).1 > most then (0, none) else ((readI B at0).1, some (readI B at0).2.toNat)) := rfl
          generalize hrn : (readI B at0).1 = rn at *
          generalize hre : (readI B at0).2 = re at *
          have HIN := Lib.hid hin
          have HAT := Lib.hid hw.out.1
          have HJM : Hid (j < m) := hlt
          have hj60 : j < 60 := by have := HL.out; omega
          have H0 := Lib.hid hw.out.2
          clear hrn hre hlt hin
          rcases HX3.out with rfl | rfl | rfl
          · have r3 : IntKind.u8.wrap 0 = 0 := by decide
            have hz0 : ((0 : Int) == 0) = true := rfl
            cases bad with
            | true =>
              go_wp2_with fail
              refine (HREAD.out).mono ?_
              rintro e w1 ⟨rfl, hb1⟩
              have H1 : Hid (InAt T w1 g B none ∧ Far w w1 T) := ⟨HI.out.keep H0.out.1 (Keep.of_below hb1), H0.out.2.grow hb1⟩
              obtain ⟨T1, hT1⟩ : ∃ x, x = T := ⟨_, rfl⟩
              rw [← hT1] at H1
              clear hb1 hT1 HREAD
              by_cases hr0 : rn = 0
              · subst hr0
                have he : ((0 : Int) == 0) = true := rfl
                have HC2 : Hid (Calls Tryd.prog 22 #[ptrG g] w1 fun e w' => ∃ T', e = .returned (.int .i64 0) ∧ InAt T' w' g B none ∧ To T1 w1 T' w') := by
                  have h := HI.out.int T1 w1 g B none (HS.out.on HRD.out H1.out.2.below) H1.out.1 within_none
                  rw [show intD B none = (0, none) from rfl] at h
                  exact h
                go_wp2_with fail
                refine (HC2.out).mono ?_
                rintro e w2 ⟨T2, rfl, ha, ht⟩
                have H2 : Hid (InAt T2 w2 g B none ∧ Far w w2 T2) := ⟨ha, H1.out.2.step ht⟩
                clear ha ht HC2
                have HC3 : Hid (Calls Tryd.prog 22 #[ptrG g] w2 fun e w' => ∃ T', e = .returned (.int .i64 0) ∧ InAt T' w' g B none ∧ To T2 w2 T' w') := by
                  have h := HI.out.int T2 w2 g B none (HS.out.on HRD.out H2.out.2.below) H2.out.1 within_none
                  rw [show intD B none = (0, none) from rfl] at h
                  exact h
                go_wp2_with fail
                refine (HC3.out).mono ?_
                rintro e w3 ⟨T3, rfl, ha, ht⟩
                have H3 : Hid (InAt T3 w3 g B none ∧ Far w w3 T3) := ⟨ha, H2.out.2.step ht⟩
                clear ha ht HC3
                have HC4 : Hid (Calls Tryd.prog 25 #[ptrG g] w3 fun e w' => e = .returned (.bool true) ∧ Below w3.heap.size w3 w') := HI.out.bad T3 w3 g B none (HS.out.on HRD.out H3.out.2.below) H3.out.1 within_none
                go_wp2_with fail
                refine (HC4.out).mono ?_
                rintro e w4 ⟨rfl, hb⟩
                have H4 : Hid (InAt T3 w4 g B none ∧ Far w w4 T3) := ⟨HI.out.keep H3.out.1 (Keep.of_below hb), H3.out.2.grow hb⟩
                clear hb HC4
                go_wp2_with fail
                exact ⟨⟨j + 1, at0, true, T3, by have := HJM.out; omega, by go_num, rfl, rfl, ⟨HAT.out, H4.out⟩⟩, by have := HJM.out; simp [intOf]; omega⟩
              · have he : ((0 : Int) == rn) = false := by simp; omega
                have he2 : ¬ (0 : Int) = rn := fun h => hr0 h.symm
                have HC2 : Hid (Calls Tryd.prog 22 #[ptrG g] w1 fun e w' => ∃ T', e = .returned (.int .i64 0) ∧ InAt T' w' g B none ∧ To T1 w1 T' w') := by
                  have h := HI.out.int T1 w1 g B none (HS.out.on HRD.out H1.out.2.below) H1.out.1 within_none
                  rw [show intD B none = (0, none) from rfl] at h
                  exact h
                go_wp2_with fail
                refine (HC2.out).mono ?_
                rintro e w2 ⟨T2, rfl, ha, ht⟩
                have H2 : Hid (InAt T2 w2 g B none ∧ Far w w2 T2) := ⟨ha, H1.out.2.step ht⟩
                clear ha ht HC2
                have HC3 : Hid (Calls Tryd.prog 22 #[ptrG g] w2 fun e w' => ∃ T', e = .returned (.int .i64 0) ∧ InAt T' w' g B none ∧ To T2 w2 T' w') := by
                  have h := HI.out.int T2 w2 g B none (HS.out.on HRD.out H2.out.2.below) H2.out.1 within_none
                  rw [show intD B none = (0, none) from rfl] at h
                  exact h
                go_wp2_with fail
                refine (HC3.out).mono ?_
                rintro e w3 ⟨T3, rfl, ha, ht⟩
                have H3 : Hid (InAt T3 w3 g B none ∧ Far w w3 T3) := ⟨ha, H2.out.2.step ht⟩
                clear ha ht HC3
                have HC4 : Hid (Calls Tryd.prog 25 #[ptrG g] w3 fun e w' => e = .returned (.bool true) ∧ Below w3.heap.size w3 w') := HI.out.bad T3 w3 g B none (HS.out.on HRD.out H3.out.2.below) H3.out.1 within_none
                go_wp2_with fail
                refine (HC4.out).mono ?_
                rintro e w4 ⟨rfl, hb⟩
                have H4 : Hid (InAt T3 w4 g B none ∧ Far w w4 T3) := ⟨HI.out.keep H3.out.1 (Keep.of_below hb), H3.out.2.grow hb⟩
                clear hb HC4
                go_wp2_with fail
                exact ⟨⟨j + 1, at0, true, T3, by have := HJM.out; omega, by go_num, rfl, rfl, ⟨HAT.out, H4.out⟩⟩, by have := HJM.out; simp [intOf]; omega⟩
            | false =>
              go_wp2_with fail
              refine (HREAD.out).mono ?_
              rintro e w1 ⟨rfl, hb1⟩
              have H1 : Hid (InAt T w1 g B (some at0) ∧ Far w w1 T) := ⟨HI.out.keep H0.out.1 (Keep.of_below hb1), H0.out.2.grow hb1⟩
              obtain ⟨T1, hT1⟩ : ∃ x, x = T := ⟨_, rfl⟩
              rw [← hT1] at H1
              clear hb1 hT1 HREAD
              rcases HIN.out.2 with ⟨hre, hr0⟩ | ⟨hre1, hre2⟩
              · subst hre hr0
                rw [if_pos (by omega)] at HI0
                rw [if_pos (.inl (by omega))] at HT0 HC0
                have hn1 : decide ((-1 : Int) < 0) = true := rfl
                have HC2 : Hid (Calls Tryd.prog 22 #[ptrG g] w1 fun e w' => ∃ T', e = .returned (.int .i64 0) ∧ InAt T' w' g B none ∧ To T1 w1 T' w') := by
                  have h := HI.out.int T1 w1 g B (some at0) (HS.out.on HRD.out H1.out.2.below) H1.out.1 (within_some (by rw [HNB.out]; exact HAT.out))
                  rw [HI0.out] at h
                  exact h
                go_wp2_with fail
                refine (HC2.out).mono ?_
                rintro e w2 ⟨T2, rfl, ha, ht⟩
                have H2 : Hid (InAt T2 w2 g B none ∧ Far w w2 T2) := ⟨ha, H1.out.2.step ht⟩
                clear ha ht HC2
                have HC3 : Hid (Calls Tryd.prog 22 #[ptrG g] w2 fun e w' => ∃ T', e = .returned (.int .i64 0) ∧ InAt T' w' g B none ∧ To T2 w2 T' w') := by
                  have h := HI.out.int T2 w2 g B none (HS.out.on HRD.out H2.out.2.below) H2.out.1 within_none
                  rw [show intD B none = (0, none) from rfl] at h
                  exact h
                go_wp2_with fail
                refine (HC3.out).mono ?_
                rintro e w3 ⟨T3, rfl, ha, ht⟩
                have H3 : Hid (InAt T3 w3 g B none ∧ Far w w3 T3) := ⟨ha, H2.out.2.step ht⟩
                clear ha ht HC3
                have HC4 : Hid (Calls Tryd.prog 25 #[ptrG g] w3 fun e w' => e = .returned (.bool true) ∧ Below w3.heap.size w3 w') := HI.out.bad T3 w3 g B none (HS.out.on HRD.out H3.out.2.below) H3.out.1 within_none
                go_wp2_with fail
                refine (HC4.out).mono ?_
                rintro e w4 ⟨rfl, hb⟩
                have H4 : Hid (InAt T3 w4 g B none ∧ Far w w4 T3) := ⟨HI.out.keep H3.out.1 (Keep.of_below hb), H3.out.2.grow hb⟩
                clear hb HC4
                go_wp2_with fail
                exact ⟨⟨j + 1, at0, true, T3, by have := HJM.out; omega, by go_num, rfl, rfl, ⟨HAT.out, H4.out⟩⟩, by have := HJM.out; simp [intOf]; omega⟩
              · obtain ⟨q, rfl⟩ : ∃ q : Nat, re = (q : Int) := ⟨re.toNat, by omega⟩
                have HQ : Hid (q ≤ n) := Lib.hid (by rw [← HNB.out]; omega)
                have HQ0 : Hid (0 < q) := Lib.hid (by omega)
                rw [if_neg (by omega)] at HI0
                rw [Int.toNat_natCast] at HI0 HC0 HT0
                clear hre1 hre2
                have hp1 : decide ((q : Int) < 0) = false := by simp
                have HC2 : Hid (Calls Tryd.prog 22 #[ptrG g] w1 fun e w' => ∃ T', e = .returned (.int .i64 rn) ∧ InAt T' w' g B (some q) ∧ To T1 w1 T' w') := by
                  have h := HI.out.int T1 w1 g B (some at0) (HS.out.on HRD.out H1.out.2.below) H1.out.1 (within_some (by rw [HNB.out]; exact HAT.out))
                  rw [HI0.out] at h
                  exact h
                go_wp2_with fail
                refine (HC2.out).mono ?_
                rintro e w2 ⟨T2, rfl, ha, ht⟩
                have H2 : Hid (InAt T2 w2 g B (some q) ∧ Far w w2 T2) := ⟨ha, H1.out.2.step ht⟩
                clear ha ht HC2
                have HC3 : Hid (Calls Tryd.prog 25 #[ptrG g] w2 fun e w' => e = .returned (.bool false) ∧ Below w2.heap.size w2 w') := HI.out.bad T2 w2 g B (some q) (HS.out.on HRD.out H2.out.2.below) H2.out.1 (within_some (by rw [HNB.out]; exact HQ.out))
                go_wp2_with fail
                refine (HC3.out).mono ?_
                rintro e w3 ⟨rfl, hb⟩
                have H3 : Hid (InAt T2 w3 g B (some q) ∧ Far w w3 T2) := ⟨HI.out.keep H2.out.1 (Keep.of_below hb), H2.out.2.grow hb⟩
                clear hb HC3
                go_wp2_with fail
                exact ⟨⟨j + 1, q, false, T2, by have := HJM.out; omega, by go_num, rfl, rfl, ⟨by have := HQ.out; omega, H3.out⟩⟩, by have := HJM.out; simp [intOf]; omega⟩
          · have r3 : IntKind.u8.wrap 1 = 1 := by decide
            have hz0 : ((1 : Int) == 0) = false := rfl
            have hz1 : ((1 : Int) == 1) = true := rfl
            cases bad with
            | true =>
              go_wp2_with fail
              refine (HREAD.out).mono ?_
              rintro e w1 ⟨rfl, hb1⟩
              have H1 : Hid (InAt T w1 g B none ∧ Far w w1 T) := ⟨HI.out.keep H0.out.1 (Keep.of_below hb1), H0.out.2.grow hb1⟩
              obtain ⟨T1, hT1⟩ : ∃ x, x = T := ⟨_, rfl⟩
              rw [← hT1] at H1
              clear hb1 hT1 HREAD
              have HC2 : Hid (Calls Tryd.prog 23 #[ptrG g] w1 fun e w' => ∃ T' v, e = .returned v ∧ InAt T' w' g B none ∧ To T1 w1 T' w' ∧ RowB w' v []) := by
                have h := HI.out.text T1 w1 g B none (HS.out.on HRD.out H1.out.2.below) H1.out.1 within_none
                rw [show textD B none = ([], none) from rfl] at h
                exact h
              go_wp2_with fail
              refine (HC2.out).mono ?_
              rintro e w2 ⟨T2, v, rfl, ha, ht, hv⟩
              have H2 : Hid (InAt T2 w2 g B none ∧ Far w w2 T2) := ⟨ha, H1.out.2.step ht⟩
              have HV := Lib.hid hv
              obtain ⟨va, vc, rfl⟩ := hv.shape
              clear ha ht hv HC2
              have HC3 : Hid (Calls Tryd.prog 25 #[ptrG g] w2 fun e w' => e = .returned (.bool true) ∧ Below w2.heap.size w2 w') := HI.out.bad T2 w2 g B none (HS.out.on HRD.out H2.out.2.below) H2.out.1 within_none
              go_wp2_with fail
              refine (HC3.out).mono ?_
              rintro e w3 ⟨rfl, hb⟩
              have H3 : Hid (InAt T2 w3 g B none ∧ Far w w3 T2) := ⟨HI.out.keep H2.out.1 (Keep.of_below hb), H2.out.2.grow hb⟩
              clear hb HC3
              go_wp2_with fail
              exact ⟨⟨j + 1, at0, true, T2, by have := HJM.out; omega, by go_num, rfl, rfl, ⟨HAT.out, H3.out⟩⟩, by have := HJM.out; simp [intOf]; omega⟩
            | false =>
              go_wp2_with fail
              refine (HREAD.out).mono ?_
              rintro e w1 ⟨rfl, hb1⟩
              have H1 : Hid (InAt T w1 g B (some at0) ∧ Far w w1 T) := ⟨HI.out.keep H0.out.1 (Keep.of_below hb1), H0.out.2.grow hb1⟩
              obtain ⟨T1, hT1⟩ : ∃ x, x = T := ⟨_, rfl⟩
              rw [← hT1] at H1
              clear hb1 hT1 HREAD
              rcases HIN.out.2 with ⟨hre, hr0⟩ | ⟨hre1, hre2⟩
              · subst hre hr0
                rw [if_pos (by omega)] at HI0
                rw [if_pos (.inl (by omega))] at HT0 HC0
                have hn1 : decide ((-1 : Int) < 0) = true := rfl
                have HC2 : Hid (Calls Tryd.prog 23 #[ptrG g] w1 fun e w' => ∃ T' v, e = .returned v ∧ InAt T' w' g B none ∧ To T1 w1 T' w' ∧ RowB w' v []) := by
                  have h := HI.out.text T1 w1 g B (some at0) (HS.out.on HRD.out H1.out.2.below) H1.out.1 (within_some (by rw [HNB.out]; exact HAT.out))
                  rw [HT0.out] at h
                  exact h
                go_wp2_with fail
                refine (HC2.out).mono ?_
                rintro e w2 ⟨T2, v, rfl, ha, ht, hv⟩
                have H2 : Hid (InAt T2 w2 g B none ∧ Far w w2 T2) := ⟨ha, H1.out.2.step ht⟩
                have HV := Lib.hid hv
                obtain ⟨va, vc, rfl⟩ := hv.shape
                clear ha ht hv HC2
                have HC3 : Hid (Calls Tryd.prog 25 #[ptrG g] w2 fun e w' => e = .returned (.bool true) ∧ Below w2.heap.size w2 w') := HI.out.bad T2 w2 g B none (HS.out.on HRD.out H2.out.2.below) H2.out.1 within_none
                go_wp2_with fail
                refine (HC3.out).mono ?_
                rintro e w3 ⟨rfl, hb⟩
                have H3 : Hid (InAt T2 w3 g B none ∧ Far w w3 T2) := ⟨HI.out.keep H2.out.1 (Keep.of_below hb), H2.out.2.grow hb⟩
                clear hb HC3
                go_wp2_with fail
                exact ⟨⟨j + 1, at0, true, T2, by have := HJM.out; omega, by go_num, rfl, rfl, ⟨HAT.out, H3.out⟩⟩, by have := HJM.out; simp [intOf]; omega⟩
              · obtain ⟨q, rfl⟩ : ∃ q : Nat, re = (q : Int) := ⟨re.toNat, by omega⟩
                have HQ : Hid (q ≤ n) := Lib.hid (by rw [← HNB.out]; omega)
                have HQ0 : Hid (0 < q) := Lib.hid (by omega)
                rw [if_neg (by omega)] at HI0
                rw [Int.toNat_natCast] at HI0 HC0 HT0
                clear hre1 hre2
                rw [HNB.out] at HT0
                by_cases hneg : rn < 0
                · rw [if_pos (.inr (.inl hneg))] at HT0
                  have hp1 : decide ((q : Int) < 0) = false := by simp
                  have hng : decide (rn < 0) = true := by simp; omega
                  have HC2 : Hid (Calls Tryd.prog 23 #[ptrG g] w1 fun e w' => ∃ T' v, e = .returned v ∧ InAt T' w' g B none ∧ To T1 w1 T' w' ∧ RowB w' v []) := by
                    have h := HI.out.text T1 w1 g B (some at0) (HS.out.on HRD.out H1.out.2.below) H1.out.1 (within_some (by rw [HNB.out]; exact HAT.out))
                    rw [HT0.out] at h
                    exact h
                  go_wp2_with fail
                  refine (HC2.out).mono ?_
                  rintro e w2 ⟨T2, v, rfl, ha, ht, hv⟩
                  have H2 : Hid (InAt T2 w2 g B none ∧ Far w w2 T2) := ⟨ha, H1.out.2.step ht⟩
                  have HV := Lib.hid hv
                  obtain ⟨va, vc, rfl⟩ := hv.shape
                  clear ha ht hv HC2
                  have HC3 : Hid (Calls Tryd.prog 25 #[ptrG g] w2 fun e w' => e = .returned (.bool true) ∧ Below w2.heap.size w2 w') := HI.out.bad T2 w2 g B none (HS.out.on HRD.out H2.out.2.below) H2.out.1 within_none
                  go_wp2_with fail
                  refine (HC3.out).mono ?_
                  rintro e w3 ⟨rfl, hb⟩
                  have H3 : Hid (InAt T2 w3 g B none ∧ Far w w3 T2) := ⟨HI.out.keep H2.out.1 (Keep.of_below hb), H2.out.2.grow hb⟩
                  clear hb HC3
                  go_wp2_with fail
                  exact ⟨⟨j + 1, at0, true, T2, by have := HJM.out; omega, by go_num, rfl, rfl, ⟨HAT.out, H3.out⟩⟩, by have := HJM.out; simp [intOf]; omega⟩
                · by_cases hfar : rn > (n : Int) - (q : Int)
                  · rw [if_pos (.inr (.inr hfar))] at HT0
                    have hp1 : decide ((q : Int) < 0) = false := by simp
                    have hng : decide (rn < 0) = false := by simp; omega
                    have hfw : wrap64 ((n : Int) - (q : Int)) = (n : Int) - (q : Int) := wrapR _ (by have := HL.out; have := HQ.out; omega) (by have := HL.out; have := HQ.out; omega)
                    have hfr : decide (rn > (n : Int) - (q : Int)) = true := by simp; omega
                    have hfr2 : (n : Int) - (q : Int) < rn := by omega
                    have HC2 : Hid (Calls Tryd.prog 23 #[ptrG g] w1 fun e w' => ∃ T' v, e = .returned v ∧ InAt T' w' g B none ∧ To T1 w1 T' w' ∧ RowB w' v []) := by
                      have h := HI.out.text T1 w1 g B (some at0) (HS.out.on HRD.out H1.out.2.below) H1.out.1 (within_some (by rw [HNB.out]; exact HAT.out))
                      rw [HT0.out] at h
                      exact h
                    go_wp2_with fail
                    refine (HC2.out).mono ?_
                    rintro e w2 ⟨T2, v, rfl, ha, ht, hv⟩
                    have H2 : Hid (InAt T2 w2 g B none ∧ Far w w2 T2) := ⟨ha, H1.out.2.step ht⟩
                    have HV := Lib.hid hv
                    obtain ⟨va, vc, rfl⟩ := hv.shape
                    clear ha ht hv HC2
                    have HC3 : Hid (Calls Tryd.prog 25 #[ptrG g] w2 fun e w' => e = .returned (.bool true) ∧ Below w2.heap.size w2 w') := HI.out.bad T2 w2 g B none (HS.out.on HRD.out H2.out.2.below) H2.out.1 within_none
                    go_wp2_with fail
                    refine (HC3.out).mono ?_
                    rintro e w3 ⟨rfl, hb⟩
                    have H3 : Hid (InAt T2 w3 g B none ∧ Far w w3 T2) := ⟨HI.out.keep H2.out.1 (Keep.of_below hb), H2.out.2.grow hb⟩
                    clear hb HC3
                    go_wp2_with fail
                    exact ⟨⟨j + 1, at0, true, T2, by have := HJM.out; omega, by go_num, rfl, rfl, ⟨HAT.out, H3.out⟩⟩, by have := HJM.out; simp [intOf]; omega⟩
                  · rw [if_neg (by omega)] at HT0
                    have hp1 : decide ((q : Int) < 0) = false := by simp
                    have hrn0 : 0 ≤ rn := by omega
                    obtain ⟨p, rfl⟩ : ∃ p : Nat, rn = (p : Int) := ⟨rn.toNat, by omega⟩
                    have HQP : Hid (q + p ≤ n) := Lib.hid (by omega)
                    have hng : decide ((p : Int) < 0) = false := by simp
                    have hfr : decide ((p : Int) > (n : Int) - (q : Int)) = false := by simp; omega
                    have hfr2 : ¬ (n : Int) - (q : Int) < (p : Int) := by omega
                    have hq500 : q ≤ n := HQ.out
                    have hn500 : n ≤ 500 := HL.out.1
                    have hp500 : p ≤ 500 := by omega
                    obtain ⟨SEC, hSEC⟩ : ∃ E, cutL B q p = E := ⟨_, rfl⟩
                    have HSEC := Lib.hid hSEC
                    have HT1 : Hid (textD B (some at0) = (SEC, some (q + p))) := by
                      rw [Hid, HT0.out, Int.toNat_natCast, show ((q : Int) + (p : Int)).toNat = q + p by omega, hSEC]
                    have HSLN : Hid (SEC.length = p) := by rw [Hid, ← hSEC]; exact cutL_len (by rw [HNB.out]; exact HQP.out)
                    have HOS : Hid (OkB SEC) := by rw [Hid, ← hSEC]; exact cutL_ok HOB.out _ _
                    obtain ⟨s2, hs2⟩ : ∃ s, strI SEC = s := ⟨_, rfl⟩
                    have HS2 := Lib.hid hs2
                    obtain ⟨r, hr⟩ : ∃ r, q + p = r := ⟨_, rfl⟩
                    have HEW : Hid (wrap64 ((q : Int) + (p : Int)) = (r : Int)) := by rw [Hid, wrapR _ (by omega) (by omega)]; omega
                    obtain ⟨b, o, rfl, _, _⟩ := RowB.addr HRB.out (by rw [HNB.out]; have := HQ0.out; omega)
                    have HSL : Hid ((q : Int) ≤ (r : Int) ∧ (r : Int) ≤ (c : Int) ∧ r - q = p ∧ q ≤ r) := (by have := HCB.out _ _ _ rfl; exact ⟨by omega, by omega, by omega, by omega⟩)
                    clear hs2 hSEC hr hrn0 HT0
                    have HC2 : Hid (Calls Tryd.prog 23 #[ptrG g] w1 fun e w' => ∃ T' v, e = .returned v ∧ InAt T' w' g B (some (q + p)) ∧ To T1 w1 T' w' ∧ RowB w' v SEC) := by
                      have h := HI.out.text T1 w1 g B (some at0) (HS.out.on HRD.out H1.out.2.below) H1.out.1 (within_some (by rw [HNB.out]; exact HAT.out))
                      rw [HT1.out] at h
                      exact h
                    go_wp2_with fail
                    refine (HC2.out).mono ?_
                    rintro e w2 ⟨T2, v, rfl, ha, ht, hv⟩
                    have H2 : Hid (InAt T2 w2 g B (some (q + p)) ∧ Far w w2 T2) := ⟨ha, H1.out.2.step ht⟩
                    have HV := Lib.hid hv
                    obtain ⟨va, vc, rfl⟩ := hv.shape
                    clear ha ht hv HC2
                    rw [HSLN.out] at HV ⊢
                    go_upto_region 23 with fail
                    by_cases hcq : c = q
                    · have hcq2 := hcq.symm
                      clear hcq
                      subst hcq2
                      have HP0 : Hid (p = 0) := Lib.hid (by have := HSL.out; omega)
                      have HSE : Hid (SEC = []) := List.eq_nil_of_length_eq_zero (by rw [HSLN.out, HP0.out])
                      refine wp_region_put (by kernel_rfl) (by kernel_rfl) (by kernel_rfl) (fun b' vs w' => (b' 0 = true → vs 0 = .slice va p vc) ∧ (b' 1 = true → vs 1 = .string s2) ∧ (b' 2 = true → vs 2 = .slice (some ⟨b, o, none⟩) n q) ∧ (b' 3 = true → vs 3 = .int .i64 (q : Int)) ∧ (b' 4 = true → vs 4 = .int .i64 (q : Int)) ∧ (b' 5 = true → vs 5 = .int .i64 (p : Int)) ∧ (b' 6 = true → vs 6 = .int .i64 (r : Int)) ∧ (b' 8 = true → vs 8 = .string s2) ∧ (b' 9 = true → vs 9 = .bool true) ∧ (b' 10 = true → vs 10 = .bool true) ∧ (b' 7 = true → Hid (∃ a' c', (vs 7) = Value.slice a' p c' ∧ RowB w' (.slice a' p c') SEC)) ∧ (Hid (Below w2.heap.size w2 w' ∧ w2.heap.size ≤ w'.heap.size))) ?_ ?_ ?_
                      · intro vs
                        exact ⟨fun h => Bool.noConfusion h, fun h => Bool.noConfusion h, fun h => Bool.noConfusion h, fun h => Bool.noConfusion h, fun h => Bool.noConfusion h, fun h => Bool.noConfusion h, fun h => Bool.noConfusion h, fun h => Bool.noConfusion h, fun h => Bool.noConfusion h, fun h => Bool.noConfusion h, fun h => Bool.noConfusion h, Lib.hid ⟨below_drewN (Below.refl _ _) 1, Nat.le_refl _⟩⟩
                      · rintro b' vs w' i op hi hun hall ⟨h0, h1, h2, h3, h4, h5, h6, h8, h9, h10, y7, hB⟩
                        have hil : i < 11 := (List.getElem?_eq_some_iff.1 hi).1
                        rcases i with _ | _ | _ | _ | _ | _ | _ | _ | _ | _ | _ | i
                        · obtain rfl := Option.some.inj hi
                          clear hi hil
                          refine wpOp_step rfl (fun K hK => ?_)
                          have HKK := Lib.hid hK; clear hK
                          simp only [putAll, Act.put, List.setIfInBounds_toArray, List.set_cons_zero, List.set_cons_succ]
                          go_simp
                          exact HKK.out _ _ ⟨_, by simp only [putAll, Act.put, List.setIfInBounds_toArray, List.set_cons_zero, List.set_cons_succ] <;> rfl, fun _ => rfl, h1, h2, h3, h4, h5, h6, h8, h9, h10, y7, hB⟩
                        · obtain rfl := Option.some.inj hi
                          clear hi hil
                          have d0 := h0 (hall ⟨0, .data⟩ (by simp) rfl)
                          have cv := conv_b (HV.out.on hB.out.1) HOS.out
                          rw [HS2.out] at cv
                          refine wpOp_step rfl (fun K hK => ?_)
                          have HKK := Lib.hid hK; clear hK
                          simp only [putAll, Act.put, List.setIfInBounds_toArray, List.set_cons_zero, List.set_cons_succ]
                          go_simp
                          exact HKK.out _ _ ⟨_, by simp only [putAll, Act.put, List.setIfInBounds_toArray, List.set_cons_zero, List.set_cons_succ, d0] <;> rfl, h0, fun _ => rfl, h2, h3, h4, h5, h6, h8, h9, h10, y7, hB⟩
                        · obtain rfl := Option.some.inj hi
                          clear hi hil
                          refine wpOp_step rfl (fun K hK => ?_)
                          have HKK := Lib.hid hK; clear hK
                          simp only [putAll, Act.put, List.setIfInBounds_toArray, List.set_cons_zero, List.set_cons_succ]
                          go_simp
                          exact HKK.out _ _ ⟨_, by simp only [putAll, Act.put, List.setIfInBounds_toArray, List.set_cons_zero, List.set_cons_succ] <;> rfl, h0, h1, fun _ => rfl, h3, h4, h5, h6, h8, h9, h10, y7, hB⟩
                        · obtain rfl := Option.some.inj hi
                          clear hi hil
                          refine wpOp_step rfl (fun K hK => ?_)
                          have HKK := Lib.hid hK; clear hK
                          simp only [putAll, Act.put, List.setIfInBounds_toArray, List.set_cons_zero, List.set_cons_succ]
                          go_simp
                          exact HKK.out _ _ ⟨_, by simp only [putAll, Act.put, List.setIfInBounds_toArray, List.set_cons_zero, List.set_cons_succ] <;> rfl, h0, h1, h2, fun _ => rfl, h4, h5, h6, h8, h9, h10, y7, hB⟩
                        · obtain rfl := Option.some.inj hi
                          clear hi hil
                          refine wpOp_step rfl (fun K hK => ?_)
                          have HKK := Lib.hid hK; clear hK
                          simp only [putAll, Act.put, List.setIfInBounds_toArray, List.set_cons_zero, List.set_cons_succ]
                          go_simp
                          exact HKK.out _ _ ⟨_, by simp only [putAll, Act.put, List.setIfInBounds_toArray, List.set_cons_zero, List.set_cons_succ] <;> rfl, h0, h1, h2, h3, fun _ => rfl, h5, h6, h8, h9, h10, y7, hB⟩
                        · obtain rfl := Option.some.inj hi
                          clear hi hil
                          refine wpOp_step rfl (fun K hK => ?_)
                          have HKK := Lib.hid hK; clear hK
                          simp only [putAll, Act.put, List.setIfInBounds_toArray, List.set_cons_zero, List.set_cons_succ]
                          go_simp
                          exact HKK.out _ _ ⟨_, by simp only [putAll, Act.put, List.setIfInBounds_toArray, List.set_cons_zero, List.set_cons_succ] <;> rfl, h0, h1, h2, h3, h4, fun _ => rfl, h6, h8, h9, h10, y7, hB⟩
                        · obtain rfl := Option.some.inj hi
                          clear hi hil
                          have d4 := h4 (hall ⟨4, .data⟩ (by simp) rfl)
                          have d5 := h5 (hall ⟨5, .data⟩ (by simp) rfl)
                          have ew := (wrap_is _).trans HEW.out
                          refine wpOp_step rfl (fun K hK => ?_)
                          have HKK := Lib.hid hK; clear hK
                          simp only [putAll, Act.put, List.setIfInBounds_toArray, List.set_cons_zero, List.set_cons_succ]
                          go_simp
                          exact HKK.out _ _ ⟨_, by simp only [putAll, Act.put, List.setIfInBounds_toArray, List.set_cons_zero, List.set_cons_succ, d4, d5] <;> rfl, h0, h1, h2, h3, h4, h5, fun _ => rfl, h8, h9, h10, y7, hB⟩
                        · obtain rfl := Option.some.inj hi
                          clear hi hil
                          have d2 := h2 (hall ⟨2, .data⟩ (by simp) rfl)
                          have d3 := h3 (hall ⟨3, .data⟩ (by simp) rfl)
                          have d6 := h6 (hall ⟨6, .data⟩ (by simp) rfl)
                          have s0 : (0 : Int) ≤ (q : Int) := by omega
                          have s1 : (q : Int) ≤ (r : Int) := HSL.out.1
                          have s2' : (r : Int) ≤ (q : Int) := HSL.out.2.1
                          have s3 : r - q = p := HSL.out.2.2.1
                          have s5 : q ≤ r := HSL.out.2.2.2
                          refine wpOp_step rfl (fun K hK => ?_)
                          have HKK := Lib.hid hK; clear hK
                          simp only [putAll, Act.put, List.setIfInBounds_toArray, List.set_cons_zero, List.set_cons_succ]
                          go_simp
                          exact HKK.out _ _ ⟨_, by simp only [putAll, Act.put, List.setIfInBounds_toArray, List.set_cons_zero, List.set_cons_succ, d2, d3, d6] <;> rfl, h0, h1, h2, h3, h4, h5, h6, h8, h9, h10, fun _ => Lib.hid (⟨_, _, rfl, by rw [HP0.out, HSE.out]; exact .inr (.inl ⟨_, _, rfl, rfl⟩)⟩), hB⟩
                        · obtain rfl := Option.some.inj hi
                          clear hi hil
                          have o7 := y7 (hall ⟨7, .data⟩ (by simp) rfl)
                          obtain ⟨a', c', e7, hr7⟩ := o7.out
                          have cv := conv_b hr7 HOS.out
                          rw [HS2.out] at cv
                          refine wpOp_step rfl (fun K hK => ?_)
                          have HKK := Lib.hid hK; clear hK
                          simp only [putAll, Act.put, List.setIfInBounds_toArray, List.set_cons_zero, List.set_cons_succ]
                          go_simp
                          exact HKK.out _ _ ⟨_, by simp only [putAll, Act.put, List.setIfInBounds_toArray, List.set_cons_zero, List.set_cons_succ, e7] <;> rfl, h0, h1, h2, h3, h4, h5, h6, fun _ => rfl, h9, h10, y7, hB⟩
                        · obtain rfl := Option.some.inj hi
                          clear hi hil
                          have d1 := h1 (hall ⟨1, .data⟩ (by simp) rfl)
                          have d8 := h8 (hall ⟨8, .data⟩ (by simp) rfl)
                          refine wpOp_step rfl (fun K hK => ?_)
                          have HKK := Lib.hid hK; clear hK
                          simp only [putAll, Act.put, List.setIfInBounds_toArray, List.set_cons_zero, List.set_cons_succ]
                          go_simp
                          exact HKK.out _ _ ⟨_, by simp only [putAll, Act.put, List.setIfInBounds_toArray, List.set_cons_zero, List.set_cons_succ, d1, d8] <;> rfl, h0, h1, h2, h3, h4, h5, h6, h8, fun _ => rfl, h10, y7, hB⟩
                        · obtain rfl := Option.some.inj hi
                          clear hi hil
                          have d9 := h9 (hall ⟨9, .data⟩ (by simp) rfl)
                          refine wpOp_step rfl (fun K hK => ?_)
                          have HKK := Lib.hid hK; clear hK
                          simp only [putAll, Act.put, List.setIfInBounds_toArray, List.set_cons_zero, List.set_cons_succ]
                          go_simp
                          exact HKK.out _ _ ⟨_, by simp only [putAll, Act.put, List.setIfInBounds_toArray, List.set_cons_zero, List.set_cons_succ, d9] <;> rfl, h0, h1, h2, h3, h4, h5, h6, h8, h9, fun _ => rfl, y7, hB⟩
                        · omega
                      · rintro b' vs w3 hall ⟨h0, h1, h2, h3, h4, h5, h6, h8, h9, h10, y7, hB⟩
                        have d0 := h0 (hall 0 (by simp))
                        have d1 := h1 (hall 1 (by simp))
                        have d2 := h2 (hall 2 (by simp))
                        have d3 := h3 (hall 3 (by simp))
                        have d4 := h4 (hall 4 (by simp))
                        have d5 := h5 (hall 5 (by simp))
                        have d6 := h6 (hall 6 (by simp))
                        have d8 := h8 (hall 8 (by simp))
                        have d9 := h9 (hall 9 (by simp))
                        have d10 := h10 (hall 10 (by simp))
                        have o7 := y7 (hall 7 (by simp))
                        have BB := hB
                        simp only [putAll, Act.put, List.setIfInBounds_toArray, List.set_cons_zero, List.set_cons_succ, d0, d1, d2, d3, d4, d5, d6, d8, d9, d10]
                        clear hall h0 d0 h1 d1 h2 d2 h3 d3 h4 d4 h5 d5 h6 d6 h8 d8 h9 d9 h10 d10 y7 hB
                        clear o7
                        generalize vs 7 = u93 at *
                        have H3 : Hid (InAt T2 w3 g B (some (q + p)) ∧ Far w w3 T2) := ⟨HI.out.keep H2.out.1 (Keep.of_below BB.out.1), H2.out.2.grow BB.out.1⟩
                        obtain ⟨T3, hT3⟩ : ∃ x, x = T2 := ⟨_, rfl⟩
                        rw [← hT3] at H3
                        clear hT3 BB
                        have HC4 : Hid (Calls Tryd.prog 25 #[ptrG g] w3 fun e w' => e = .returned (.bool false) ∧ Below w3.heap.size w3 w') := HI.out.bad T3 w3 g B (some (q + p)) (HS.out.on HRD.out H3.out.2.below) H3.out.1 (within_some (by rw [HNB.out]; exact HQP.out))
                        go_wp2_with fail
                        refine (HC4.out).mono ?_
                        rintro e w4 ⟨rfl, hb⟩
                        have H4 : Hid (InAt T3 w4 g B (some (q + p)) ∧ Far w w4 T3) := ⟨HI.out.keep H3.out.1 (Keep.of_below hb), H3.out.2.grow hb⟩
                        clear hb HC4
                        go_wp2_with fail
                        exact ⟨⟨j + 1, q + p, false, T3, by have := HJM.out; omega, by go_num, by first | rfl | go_num, rfl, ⟨HQP.out, H4.out⟩⟩, by have := HJM.out; simp [intOf]; omega⟩
                    · have HCQ := Lib.hid hcq
                      clear hcq
                      refine wp_region_put (by kernel_rfl) (by kernel_rfl) (by kernel_rfl) (fun b' vs w' => (b' 0 = true → vs 0 = .slice va p vc) ∧ (b' 1 = true → vs 1 = .string s2) ∧ (b' 2 = true → vs 2 = .slice (some ⟨b, o, none⟩) n c) ∧ (b' 3 = true → vs 3 = .int .i64 (q : Int)) ∧ (b' 4 = true → vs 4 = .int .i64 (q : Int)) ∧ (b' 5 = true → vs 5 = .int .i64 (p : Int)) ∧ (b' 6 = true → vs 6 = .int .i64 (r : Int)) ∧ (b' 8 = true → vs 8 = .string s2) ∧ (b' 9 = true → vs 9 = .bool true) ∧ (b' 10 = true → vs 10 = .bool true) ∧ (b' 7 = true → Hid (∃ a' c', (vs 7) = Value.slice a' p c' ∧ RowB w' (.slice a' p c') SEC)) ∧ (Hid (Below w2.heap.size w2 w' ∧ w2.heap.size ≤ w'.heap.size))) ?_ ?_ ?_
                      · intro vs
                        exact ⟨fun h => Bool.noConfusion h, fun h => Bool.noConfusion h, fun h => Bool.noConfusion h, fun h => Bool.noConfusion h, fun h => Bool.noConfusion h, fun h => Bool.noConfusion h, fun h => Bool.noConfusion h, fun h => Bool.noConfusion h, fun h => Bool.noConfusion h, fun h => Bool.noConfusion h, fun h => Bool.noConfusion h, Lib.hid ⟨below_drewN (Below.refl _ _) 1, Nat.le_refl _⟩⟩
                      · rintro b' vs w' i op hi hun hall ⟨h0, h1, h2, h3, h4, h5, h6, h8, h9, h10, y7, hB⟩
                        have hil : i < 11 := (List.getElem?_eq_some_iff.1 hi).1
                        rcases i with _ | _ | _ | _ | _ | _ | _ | _ | _ | _ | _ | i
                        · obtain rfl := Option.some.inj hi
                          clear hi hil
                          refine wpOp_step rfl (fun K hK => ?_)
                          have HKK := Lib.hid hK; clear hK
                          simp only [putAll, Act.put, List.setIfInBounds_toArray, List.set_cons_zero, List.set_cons_succ]
                          go_simp
                          exact HKK.out _ _ ⟨_, by simp only [putAll, Act.put, List.setIfInBounds_toArray, List.set_cons_zero, List.set_cons_succ] <;> rfl, fun _ => rfl, h1, h2, h3, h4, h5, h6, h8, h9, h10, y7, hB⟩
                        · obtain rfl := Option.some.inj hi
                          clear hi hil
                          have d0 := h0 (hall ⟨0, .data⟩ (by simp) rfl)
                          have cv := conv_b (HV.out.on hB.out.1) HOS.out
                          rw [HS2.out] at cv
                          refine wpOp_step rfl (fun K hK => ?_)
                          have HKK := Lib.hid hK; clear hK
                          simp only [putAll, Act.put, List.setIfInBounds_toArray, List.set_cons_zero, List.set_cons_succ]
                          go_simp
                          exact HKK.out _ _ ⟨_, by simp only [putAll, Act.put, List.setIfInBounds_toArray, List.set_cons_zero, List.set_cons_succ, d0] <;> rfl, h0, fun _ => rfl, h2, h3, h4, h5, h6, h8, h9, h10, y7, hB⟩
                        · obtain rfl := Option.some.inj hi
                          clear hi hil
                          refine wpOp_step rfl (fun K hK => ?_)
                          have HKK := Lib.hid hK; clear hK
                          simp only [putAll, Act.put, List.setIfInBounds_toArray, List.set_cons_zero, List.set_cons_succ]
                          go_simp
                          exact HKK.out _ _ ⟨_, by simp only [putAll, Act.put, List.setIfInBounds_toArray, List.set_cons_zero, List.set_cons_succ] <;> rfl, h0, h1, fun _ => rfl, h3, h4, h5, h6, h8, h9, h10, y7, hB⟩
                        · obtain rfl := Option.some.inj hi
                          clear hi hil
                          refine wpOp_step rfl (fun K hK => ?_)
                          have HKK := Lib.hid hK; clear hK
                          simp only [putAll, Act.put, List.setIfInBounds_toArray, List.set_cons_zero, List.set_cons_succ]
                          go_simp
                          exact HKK.out _ _ ⟨_, by simp only [putAll, Act.put, List.setIfInBounds_toArray, List.set_cons_zero, List.set_cons_succ] <;> rfl, h0, h1, h2, fun _ => rfl, h4, h5, h6, h8, h9, h10, y7, hB⟩
                        · obtain rfl := Option.some.inj hi
                          clear hi hil
                          refine wpOp_step rfl (fun K hK => ?_)
                          have HKK := Lib.hid hK; clear hK
                          simp only [putAll, Act.put, List.setIfInBounds_toArray, List.set_cons_zero, List.set_cons_succ]
                          go_simp
                          exact HKK.out _ _ ⟨_, by simp only [putAll, Act.put, List.setIfInBounds_toArray, List.set_cons_zero, List.set_cons_succ] <;> rfl, h0, h1, h2, h3, fun _ => rfl, h5, h6, h8, h9, h10, y7, hB⟩
                        · obtain rfl := Option.some.inj hi
                          clear hi hil
                          refine wpOp_step rfl (fun K hK => ?_)
                          have HKK := Lib.hid hK; clear hK
                          simp only [putAll, Act.put, List.setIfInBounds_toArray, List.set_cons_zero, List.set_cons_succ]
                          go_simp
                          exact HKK.out _ _ ⟨_, by simp only [putAll, Act.put, List.setIfInBounds_toArray, List.set_cons_zero, List.set_cons_succ] <;> rfl, h0, h1, h2, h3, h4, fun _ => rfl, h6, h8, h9, h10, y7, hB⟩
                        · obtain rfl := Option.some.inj hi
                          clear hi hil
                          have d4 := h4 (hall ⟨4, .data⟩ (by simp) rfl)
                          have d5 := h5 (hall ⟨5, .data⟩ (by simp) rfl)
                          have ew := (wrap_is _).trans HEW.out
                          refine wpOp_step rfl (fun K hK => ?_)
                          have HKK := Lib.hid hK; clear hK
                          simp only [putAll, Act.put, List.setIfInBounds_toArray, List.set_cons_zero, List.set_cons_succ]
                          go_simp
                          exact HKK.out _ _ ⟨_, by simp only [putAll, Act.put, List.setIfInBounds_toArray, List.set_cons_zero, List.set_cons_succ, d4, d5] <;> rfl, h0, h1, h2, h3, h4, h5, fun _ => rfl, h8, h9, h10, y7, hB⟩
                        · obtain rfl := Option.some.inj hi
                          clear hi hil
                          have d2 := h2 (hall ⟨2, .data⟩ (by simp) rfl)
                          have d3 := h3 (hall ⟨3, .data⟩ (by simp) rfl)
                          have d6 := h6 (hall ⟨6, .data⟩ (by simp) rfl)
                          have s0 : (0 : Int) ≤ (q : Int) := by omega
                          have s1 : (q : Int) ≤ (r : Int) := HSL.out.1
                          have s2' : (r : Int) ≤ (c : Int) := HSL.out.2.1
                          have s3 : r - q = p := HSL.out.2.2.1
                          have s5 : q ≤ r := HSL.out.2.2.2
                          have s4 : ¬ c = q := HCQ.out
                          refine wpOp_step rfl (fun K hK => ?_)
                          have HKK := Lib.hid hK; clear hK
                          simp only [putAll, Act.put, List.setIfInBounds_toArray, List.set_cons_zero, List.set_cons_succ]
                          go_simp
                          exact HKK.out _ _ ⟨_, by simp only [putAll, Act.put, List.setIfInBounds_toArray, List.set_cons_zero, List.set_cons_succ, d2, d3, d6] <;> rfl, h0, h1, h2, h3, h4, h5, h6, h8, h9, h10, fun _ => Lib.hid (⟨_, _, rfl, by rw [← HSEC.out]; exact (HRB.out.on (H2.out.2.below.trans (hB.out.1.mono H2.out.2.below.size))).cutA HNB.out HQP.out⟩), hB⟩
                        · obtain rfl := Option.some.inj hi
                          clear hi hil
                          have o7 := y7 (hall ⟨7, .data⟩ (by simp) rfl)
                          obtain ⟨a', c', e7, hr7⟩ := o7.out
                          have cv := conv_b hr7 HOS.out
                          rw [HS2.out] at cv
                          refine wpOp_step rfl (fun K hK => ?_)
                          have HKK := Lib.hid hK; clear hK
                          simp only [putAll, Act.put, List.setIfInBounds_toArray, List.set_cons_zero, List.set_cons_succ]
                          go_simp
                          exact HKK.out _ _ ⟨_, by simp only [putAll, Act.put, List.setIfInBounds_toArray, List.set_cons_zero, List.set_cons_succ, e7] <;> rfl, h0, h1, h2, h3, h4, h5, h6, fun _ => rfl, h9, h10, y7, hB⟩
                        · obtain rfl := Option.some.inj hi
                          clear hi hil
                          have d1 := h1 (hall ⟨1, .data⟩ (by simp) rfl)
                          have d8 := h8 (hall ⟨8, .data⟩ (by simp) rfl)
                          refine wpOp_step rfl (fun K hK => ?_)
                          have HKK := Lib.hid hK; clear hK
                          simp only [putAll, Act.put, List.setIfInBounds_toArray, List.set_cons_zero, List.set_cons_succ]
                          go_simp
                          exact HKK.out _ _ ⟨_, by simp only [putAll, Act.put, List.setIfInBounds_toArray, List.set_cons_zero, List.set_cons_succ, d1, d8] <;> rfl, h0, h1, h2, h3, h4, h5, h6, h8, fun _ => rfl, h10, y7, hB⟩
                        · obtain rfl := Option.some.inj hi
                          clear hi hil
                          have d9 := h9 (hall ⟨9, .data⟩ (by simp) rfl)
                          refine wpOp_step rfl (fun K hK => ?_)
                          have HKK := Lib.hid hK; clear hK
                          simp only [putAll, Act.put, List.setIfInBounds_toArray, List.set_cons_zero, List.set_cons_succ]
                          go_simp
                          exact HKK.out _ _ ⟨_, by simp only [putAll, Act.put, List.setIfInBounds_toArray, List.set_cons_zero, List.set_cons_succ, d9] <;> rfl, h0, h1, h2, h3, h4, h5, h6, h8, h9, fun _ => rfl, y7, hB⟩
                        · omega
                      · rintro b' vs w3 hall ⟨h0, h1, h2, h3, h4, h5, h6, h8, h9, h10, y7, hB⟩
                        have d0 := h0 (hall 0 (by simp))
                        have d1 := h1 (hall 1 (by simp))
                        have d2 := h2 (hall 2 (by simp))
                        have d3 := h3 (hall 3 (by simp))
                        have d4 := h4 (hall 4 (by simp))
                        have d5 := h5 (hall 5 (by simp))
                        have d6 := h6 (hall 6 (by simp))
                        have d8 := h8 (hall 8 (by simp))
                        have d9 := h9 (hall 9 (by simp))
                        have d10 := h10 (hall 10 (by simp))
                        have o7 := y7 (hall 7 (by simp))
                        have BB := hB
                        simp only [putAll, Act.put, List.setIfInBounds_toArray, List.set_cons_zero, List.set_cons_succ, d0, d1, d2, d3, d4, d5, d6, d8, d9, d10]
                        clear hall h0 d0 h1 d1 h2 d2 h3 d3 h4 d4 h5 d5 h6 d6 h8 d8 h9 d9 h10 d10 y7 hB
                        clear o7
                        generalize vs 7 = u93 at *
                        have H3 : Hid (InAt T2 w3 g B (some (q + p)) ∧ Far w w3 T2) := ⟨HI.out.keep H2.out.1 (Keep.of_below BB.out.1), H2.out.2.grow BB.out.1⟩
                        obtain ⟨T3, hT3⟩ : ∃ x, x = T2 := ⟨_, rfl⟩
                        rw [← hT3] at H3
                        clear hT3 BB
                        have HC4 : Hid (Calls Tryd.prog 25 #[ptrG g] w3 fun e w' => e = .returned (.bool false) ∧ Below w3.heap.size w3 w') := HI.out.bad T3 w3 g B (some (q + p)) (HS.out.on HRD.out H3.out.2.below) H3.out.1 (within_some (by rw [HNB.out]; exact HQP.out))
                        go_wp2_with fail
                        refine (HC4.out).mono ?_
                        rintro e w4 ⟨rfl, hb⟩
                        have H4 : Hid (InAt T3 w4 g B (some (q + p)) ∧ Far w w4 T3) := ⟨HI.out.keep H3.out.1 (Keep.of_below hb), H3.out.2.grow hb⟩
                        clear hb HC4
                        go_wp2_with fail
                        exact ⟨⟨j + 1, q + p, false, T3, by have := HJM.out; omega, by go_num, by first | rfl | go_num, rfl, ⟨HQP.out, H4.out⟩⟩, by have := HJM.out; simp [intOf]; omega⟩
          · have r3 : IntKind.u8.wrap 2 = 2 := by decide
            have hz0 : ((2 : Int) == 0) = false := rfl
            have hz1 : ((2 : Int) == 1) = false := rfl
            have hz2 : ((2 : Int) == 2) = true := rfl
            cases bad with
            | true =>
              go_wp2_with fail
              refine (HREAD.out).mono ?_
              rintro e w1 ⟨rfl, hb1⟩
              have H1 : Hid (InAt T w1 g B none ∧ Far w w1 T) := ⟨HI.out.keep H0.out.1 (Keep.of_below hb1), H0.out.2.grow hb1⟩
              obtain ⟨T1, hT1⟩ : ∃ x, x = T := ⟨_, rfl⟩
              rw [← hT1] at H1
              clear hb1 hT1 HREAD
              have HC2 : Hid (Calls Tryd.prog 27 #[ptrG g, .int .i64 most] w1 fun e w' => ∃ T', e = .returned (.int .i64 0) ∧ InAt T' w' g B none ∧ To T1 w1 T' w') := by
                have h := HI.out.count T1 w1 g B none most (HS.out.on HRD.out H1.out.2.below) H1.out.1 within_none HMO.out
                rw [show countD B most none = (0, none) from rfl] at h
                exact h
              go_wp2_with fail
              refine (HC2.out).mono ?_
              rintro e w2 ⟨T2, rfl, ha, ht⟩
              have H2 : Hid (InAt T2 w2 g B none ∧ Far w w2 T2) := ⟨ha, H1.out.2.step ht⟩
              clear ha ht HC2
              have HC3 : Hid (Calls Tryd.prog 25 #[ptrG g] w2 fun e w' => e = .returned (.bool true) ∧ Below w2.heap.size w2 w') := HI.out.bad T2 w2 g B none (HS.out.on HRD.out H2.out.2.below) H2.out.1 within_none
              go_wp2_with fail
              refine (HC3.out).mono ?_
              rintro e w3 ⟨rfl, hb⟩
              have H3 : Hid (InAt T2 w3 g B none ∧ Far w w3 T2) := ⟨HI.out.keep H2.out.1 (Keep.of_below hb), H2.out.2.grow hb⟩
              clear hb HC3
              go_wp2_with fail
              exact ⟨⟨j + 1, at0, true, T2, by have := HJM.out; omega, by go_num, rfl, rfl, ⟨HAT.out, H3.out⟩⟩, by have := HJM.out; simp [intOf]; omega⟩
            | false =>
              go_wp2_with fail
              refine (HREAD.out).mono ?_
              rintro e w1 ⟨rfl, hb1⟩
              have H1 : Hid (InAt T w1 g B (some at0) ∧ Far w w1 T) := ⟨HI.out.keep H0.out.1 (Keep.of_below hb1), H0.out.2.grow hb1⟩
              obtain ⟨T1, hT1⟩ : ∃ x, x = T := ⟨_, rfl⟩
              rw [← hT1] at H1
              clear hb1 hT1 HREAD
              rcases HIN.out.2 with ⟨hre, hr0⟩ | ⟨hre1, hre2⟩
              · subst hre hr0
                rw [if_pos (by omega)] at HI0
                rw [if_pos (.inl (by omega))] at HT0 HC0
                have hn1 : decide ((-1 : Int) < 0) = true := rfl
                have HC2 : Hid (Calls Tryd.prog 27 #[ptrG g, .int .i64 most] w1 fun e w' => ∃ T', e = .returned (.int .i64 0) ∧ InAt T' w' g B none ∧ To T1 w1 T' w') := by
                  have h := HI.out.count T1 w1 g B (some at0) most (HS.out.on HRD.out H1.out.2.below) H1.out.1 (within_some (by rw [HNB.out]; exact HAT.out)) HMO.out
                  rw [HC0.out] at h
                  exact h
                go_wp2_with fail
                refine (HC2.out).mono ?_
                rintro e w2 ⟨T2, rfl, ha, ht⟩
                have H2 : Hid (InAt T2 w2 g B none ∧ Far w w2 T2) := ⟨ha, H1.out.2.step ht⟩
                clear ha ht HC2
                have HC3 : Hid (Calls Tryd.prog 25 #[ptrG g] w2 fun e w' => e = .returned (.bool true) ∧ Below w2.heap.size w2 w') := HI.out.bad T2 w2 g B none (HS.out.on HRD.out H2.out.2.below) H2.out.1 within_none
                go_wp2_with fail
                refine (HC3.out).mono ?_
                rintro e w3 ⟨rfl, hb⟩
                have H3 : Hid (InAt T2 w3 g B none ∧ Far w w3 T2) := ⟨HI.out.keep H2.out.1 (Keep.of_below hb), H2.out.2.grow hb⟩
                clear hb HC3
                go_wp2_with fail
                exact ⟨⟨j + 1, at0, true, T2, by have := HJM.out; omega, by go_num, rfl, rfl, ⟨HAT.out, H3.out⟩⟩, by have := HJM.out; simp [intOf]; omega⟩
              · obtain ⟨q, rfl⟩ : ∃ q : Nat, re = (q : Int) := ⟨re.toNat, by omega⟩
                have HQ : Hid (q ≤ n) := Lib.hid (by rw [← HNB.out]; omega)
                have HQ0 : Hid (0 < q) := Lib.hid (by omega)
                rw [if_neg (by omega)] at HI0
                rw [Int.toNat_natCast] at HI0 HC0 HT0
                clear hre1 hre2
                by_cases hneg : rn < 0
                · rw [if_pos (.inr (.inl hneg))] at HC0
                  have hp1 : decide ((q : Int) < 0) = false := by simp
                  have hng : decide (rn < 0) = true := by simp; omega
                  have HC2 : Hid (Calls Tryd.prog 27 #[ptrG g, .int .i64 most] w1 fun e w' => ∃ T', e = .returned (.int .i64 0) ∧ InAt T' w' g B none ∧ To T1 w1 T' w') := by
                    have h := HI.out.count T1 w1 g B (some at0) most (HS.out.on HRD.out H1.out.2.below) H1.out.1 (within_some (by rw [HNB.out]; exact HAT.out)) HMO.out
                    rw [HC0.out] at h
                    exact h
                  go_wp2_with fail
                  refine (HC2.out).mono ?_
                  rintro e w2 ⟨T2, rfl, ha, ht⟩
                  have H2 : Hid (InAt T2 w2 g B none ∧ Far w w2 T2) := ⟨ha, H1.out.2.step ht⟩
                  clear ha ht HC2
                  have HC3 : Hid (Calls Tryd.prog 25 #[ptrG g] w2 fun e w' => e = .returned (.bool true) ∧ Below w2.heap.size w2 w') := HI.out.bad T2 w2 g B none (HS.out.on HRD.out H2.out.2.below) H2.out.1 within_none
                  go_wp2_with fail
                  refine (HC3.out).mono ?_
                  rintro e w3 ⟨rfl, hb⟩
                  have H3 : Hid (InAt T2 w3 g B none ∧ Far w w3 T2) := ⟨HI.out.keep H2.out.1 (Keep.of_below hb), H2.out.2.grow hb⟩
                  clear hb HC3
                  go_wp2_with fail
                  exact ⟨⟨j + 1, at0, true, T2, by have := HJM.out; omega, by go_num, rfl, rfl, ⟨HAT.out, H3.out⟩⟩, by have := HJM.out; simp [intOf]; omega⟩
                · by_cases hfar : rn > most
                  · rw [if_pos (.inr (.inr hfar))] at HC0
                    have hp1 : decide ((q : Int) < 0) = false := by simp
                    have hng : decide (rn < 0) = false := by simp; omega
                    have hfr : decide (rn > most) = true := by simp; omega
                    have hfr2 : most < rn := by omega
                    have HC2 : Hid (Calls Tryd.prog 27 #[ptrG g, .int .i64 most] w1 fun e w' => ∃ T', e = .returned (.int .i64 0) ∧ InAt T' w' g B none ∧ To T1 w1 T' w') := by
                      have h := HI.out.count T1 w1 g B (some at0) most (HS.out.on HRD.out H1.out.2.below) H1.out.1 (within_some (by rw [HNB.out]; exact HAT.out)) HMO.out
                      rw [HC0.out] at h
                      exact h
                    go_wp2_with fail
                    refine (HC2.out).mono ?_
                    rintro e w2 ⟨T2, rfl, ha, ht⟩
                    have H2 : Hid (InAt T2 w2 g B none ∧ Far w w2 T2) := ⟨ha, H1.out.2.step ht⟩
                    clear ha ht HC2
                    have HC3 : Hid (Calls Tryd.prog 25 #[ptrG g] w2 fun e w' => e = .returned (.bool true) ∧ Below w2.heap.size w2 w') := HI.out.bad T2 w2 g B none (HS.out.on HRD.out H2.out.2.below) H2.out.1 within_none
                    go_wp2_with fail
                    refine (HC3.out).mono ?_
                    rintro e w3 ⟨rfl, hb⟩
                    have H3 : Hid (InAt T2 w3 g B none ∧ Far w w3 T2) := ⟨HI.out.keep H2.out.1 (Keep.of_below hb), H2.out.2.grow hb⟩
                    clear hb HC3
                    go_wp2_with fail
                    exact ⟨⟨j + 1, at0, true, T2, by have := HJM.out; omega, by go_num, rfl, rfl, ⟨HAT.out, H3.out⟩⟩, by have := HJM.out; simp [intOf]; omega⟩
                  · rw [if_neg (by omega)] at HC0
                    have hp1 : decide ((q : Int) < 0) = false := by simp
                    have hng : decide (rn < 0) = false := by simp; omega
                    have hfr : decide (rn > most) = false := by simp; omega
                    have hfr2 : ¬ most < rn := by omega
                    have HC2 : Hid (Calls Tryd.prog 27 #[ptrG g, .int .i64 most] w1 fun e w' => ∃ T', e = .returned (.int .i64 rn) ∧ InAt T' w' g B (some q) ∧ To T1 w1 T' w') := by
                      have h := HI.out.count T1 w1 g B (some at0) most (HS.out.on HRD.out H1.out.2.below) H1.out.1 (within_some (by rw [HNB.out]; exact HAT.out)) HMO.out
                      rw [HC0.out] at h
                      exact h
                    go_wp2_with fail
                    refine (HC2.out).mono ?_
                    rintro e w2 ⟨T2, rfl, ha, ht⟩
                    have H2 : Hid (InAt T2 w2 g B (some q) ∧ Far w w2 T2) := ⟨ha, H1.out.2.step ht⟩
                    clear ha ht HC2
                    have HC3 : Hid (Calls Tryd.prog 25 #[ptrG g] w2 fun e w' => e = .returned (.bool false) ∧ Below w2.heap.size w2 w') := HI.out.bad T2 w2 g B (some q) (HS.out.on HRD.out H2.out.2.below) H2.out.1 (within_some (by rw [HNB.out]; exact HQ.out))
                    go_wp2_with fail
                    refine (HC3.out).mono ?_
                    rintro e w3 ⟨rfl, hb⟩
                    have H3 : Hid (InAt T2 w3 g B (some q) ∧ Far w w3 T2) := ⟨HI.out.keep H2.out.1 (Keep.of_below hb), H2.out.2.grow hb⟩
                    clear hb HC3
                    go_wp2_with fail
                    exact ⟨⟨j + 1, q, false, T2, by have := HJM.out; omega, by go_num, rfl, rfl, ⟨by have := HQ.out; omega, H3.out⟩⟩, by have := HJM.out; simp [intOf]; omega⟩
        · have hd : decide ((j : Int) < (m : Int)) = false := by simp; omega
          have H1 := Lib.hid hw.out.2
          have HAT := Lib.hid hw.out.1
          cases bad with
          | true =>
            have HC2 : Hid (Calls Tryd.prog 24 #[ptrG g] wr fun e w' => e = .returned (.bool false) ∧ Below wr.heap.size wr w') := HI.out.done T wr g B none (HS.out.on HRD.out H1.out.2.below) H1.out.1 within_none
            go_wp2_with fail
            refine (HC2.out).mono ?_
            rintro e w2 ⟨rfl, hb⟩
            have H2 : Hid (Below w.heap.size w w2) := H1.out.2.below.trans (hb.mono H1.out.2.below.size)
            clear hb HC2
            go_wp2_with fail
            refine (HA.out w2 (HS.out.on HRD.out H2.out)).mono ?_
            rintro e w3 ⟨rfl, hb⟩
            have H3 : Hid (Below w.heap.size w w3) := H2.out.trans (hb.mono H2.out.size)
            clear hb
            go_wp2_with fail
            go_ret
            exact ⟨rfl, H3.out⟩
          | false =>
            by_cases hend : at0 = n
            · have h1 : decide ((at0 : Int) = (n : Int)) = true := by simp; omega
              have h2 : ((at0 : Int) == (n : Int)) = true := by simp; omega
              have HC2 : Hid (Calls Tryd.prog 24 #[ptrG g] wr fun e w' => e = .returned (.bool true) ∧ Below wr.heap.size wr w') := by
                have h := HI.out.done T wr g B (some at0) (HS.out.on HRD.out H1.out.2.below) H1.out.1 (within_some (by rw [HNB.out]; exact HAT.out))
                rw [HNB.out, hend, decide_eq_true rfl] at h
                exact h
              go_wp2_with fail
              refine (HC2.out).mono ?_
              rintro e w2 ⟨rfl, hb⟩
              have H2 : Hid (Below w.heap.size w w2) := H1.out.2.below.trans (hb.mono H1.out.2.below.size)
              clear hb HC2
              go_wp2_with fail
              refine (HA.out w2 (HS.out.on HRD.out H2.out)).mono ?_
              rintro e w3 ⟨rfl, hb⟩
              have H3 : Hid (Below w.heap.size w w3) := H2.out.trans (hb.mono H2.out.size)
              clear hb
              go_wp2_with fail
              go_ret
              exact ⟨rfl, H3.out⟩
            · have h1 : decide ((at0 : Int) = (n : Int)) = false := by simp; omega
              have h2 : ((at0 : Int) == (n : Int)) = false := by simp; omega
              have HC2 : Hid (Calls Tryd.prog 24 #[ptrG g] wr fun e w' => e = .returned (.bool false) ∧ Below wr.heap.size wr w') := by
                have h := HI.out.done T wr g B (some at0) (HS.out.on HRD.out H1.out.2.below) H1.out.1 (within_some (by rw [HNB.out]; exact HAT.out))
                rw [HNB.out, decide_eq_false (fun e => hend (Option.some.inj e))] at h
                exact h
              go_wp2_with fail
              refine (HC2.out).mono ?_
              rintro e w2 ⟨rfl, hb⟩
              have H2 : Hid (Below w.heap.size w w2) := H1.out.2.below.trans (hb.mono H1.out.2.below.size)
              clear hb HC2
              go_wp2_with fail
              refine (HA.out w2 (HS.out.on HRD.out H2.out)).mono ?_
              rintro e w3 ⟨rfl, hb⟩
              have H3 : Hid (Below w.heap.size w w3) := H2.out.trans (hb.mono H2.out.size)
              clear hb
              go_wp2_with fail
              go_ret
              exact ⟨rfl, H3.out⟩
end Go.Proofs.YteobffggfcmghaaDoor
