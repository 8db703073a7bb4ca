/- Layer 12: the law DiskTears, over what package disk answers. -/
import Derived.Test.YtohmkmekdnfkoaaBd
namespace Go.Proofs.Ytohmkmekdnfkoaa
open Go.RowKit
variable {At : (Nat → Prop) → World → Nat → DM → Prop}
def AwakeOk : Prop := ∀ w : World, Calls Try.prog 8 #[] w fun e w' => e = .returned (.bool true) ∧ Below w.heap.size w w'
/-- Where DiskTears's disk stands. -/
def tearA (old : Int) : DM := (writeD (newD 1 32) 0 (List.replicate 32 old)).1
def tearB (old : Int) : DM := (syncD (tearA old)).1
def tearC (old young : Int) : DM := (writeD (tearB old) 0 (List.replicate 32 young)).1
def tearD (old young cut : Int) : DM := crashD (tearC old young) [] 0 cut
theorem tear_e1 (old : Int) : (writeD (newD 1 32) 0 (List.replicate 32 old)).2 = 0 := by kernel_rfl
theorem tear_e2 (old : Int) : (syncD (tearA old)).2 = 0 := by kernel_rfl
theorem tear_e3 (old young : Int) : (writeD (tearB old) 0 (List.replicate 32 young)).2 = 0 := by kernel_rfl
theorem tear_e4 (old young cut : Int) : (readD (tearD old young cut) 0).2.1 = 0 := by kernel_rfl
theorem tear_e5 (old young cut : Int) : (readD (tearD old young cut) 0).2.2 = secD (tearD old young cut) 0 := by kernel_rfl
theorem tear_safe (old : Int) : nowD (tearA old) = List.replicate 32 old := by kernel_rfl
theorem tear_sec (old young cut : Int) : secD (tearD old young cut) 0 = layB (List.replicate 32 old) ((List.replicate 32 young).take cut.toNat) 0 := by
  have h : nowD (tearD old young cut) = layB (List.replicate 32 old) ((List.replicate 32 young).take cut.toNat) 0 := by
    rw [← tear_safe]; kernel_rfl
  unfold secD
  rw [h, show ((0 : Int) * (tearD old young cut).size).toNat = 0 by rw [Int.zero_mul]; rfl, List.drop_zero, show (tearD old young cut).size.toNat = 32 from by kernel_rfl, List.take_of_length_le (by rw [layB_len, List.length_replicate]; exact Nat.le_refl _)]
theorem tear_len (old young cut : Int) : (secD (tearD old young cut) 0).length = 32 := by rw [tear_sec, layB_len]; rfl
theorem bAt_rep {n k : Nat} {c : Int} (h : k < n) : bAt (List.replicate n c) k = c := by
  unfold bAt; rw [List.getD_eq_getElem?_getD, List.getElem?_replicate, if_pos h]; rfl
theorem tear_at (old young cut : Int) {i : Nat} (hi : i < 32) : (secD (tearD old young cut) 0)[i]? = some (if (i : Int) < cut then young else old) := by
  rw [tear_sec]
  unfold layB layTo
  rw [List.getElem?_map, List.getElem?_range (by simpa using hi)]
  show some (layV _ _ 0 i) = _
  unfold layV
  rw [List.take_replicate, List.length_replicate]
  by_cases h : (i : Int) < cut
  · rw [if_pos ⟨by omega, by omega⟩, if_pos h, bAt_rep (by omega)]
  · rw [if_neg (by omega), if_neg h, bAt_rep hi]
set_option maxHeartbeats 4000000 in
set_option maxRecDepth 100000 in
theorem tears_law (H : DiskOk At) (HA : AwakeOk) (old young cut : Int) (hc : rngI cut) (h1 : 0 ≤ old ∧ old ≤ 255) (h2 : 0 ≤ young ∧ young ≤ 255) (w : World) : Calls Try.prog 6 #[.int .u8 old, .int .u8 young, .int .i64 cut] w fun e w' => e = .returned (.bool true) ∧ Below w.heap.size w w' := by
  have HN := Lib.hid (H.new 1 32 w (by unfold diskOkI; omega))
  have HC := Lib.hid hc
  have O0 : Hid (OkD (newD 1 32) 0) := OkD.new (by unfold diskOkI; omega) (by decide) (by omega)
  have O1 : Hid (OkD (tearA old) 1) := O0.out.write 0 (okB_rep h1)
  have O2 : Hid (OkD (tearB old) 2) := O1.out.sync (by omega)
  have O3 : Hid (OkD (tearC old young) 3) := O2.out.write 0 (okB_rep h2)
  have O4 : Hid (OkD (tearD old young cut) 3) := O3.out.crash (by omega) _ _ _
  have HB1 := Lib.hid (okB_rep (n := 32) h1)
  have HB2 := Lib.hid (okB_rep (n := 32) h2)
  clear hc h1 h2
  go_enter Try.func6, Try.ntmps6
  go_wp2_with fail
  refine (HN.out).mono ?_
  rintro e w1 ⟨T0, g, rfl, ha, hb, hf⟩
  have S0 : Hid (St At w w1 T0 g (newD 1 32)) := ⟨ha, hf, hb⟩
  clear ha hb hf HN
  go_wp2_with fail
  refine (fill_c 32 old (by decide) w1).mono ?_
  rintro e w2 ⟨v, rfl, ho, hb⟩
  have S1 : Hid (St At w w2 T0 g (newD 1 32) ∧ OwnB w2 w1.heap.size v (List.replicate 32 old) ∧ ∀ k, v.ownBlock = some k → ¬ T0 k) := ⟨S0.out.grow H hb, ho, S0.out.off H ho⟩
  clear ho hb S0
  go_wp2_with fail
  refine (H.write T0 w2 g _ 0 v _ S1.out.1.at' (O0.out.mono (by decide)) (by unfold rngI; omega) S1.out.2.1.row S1.out.2.1.cap (by simp) HB1.out S1.out.2.2).mono ?_
  rintro e w3 ⟨T1, rfl, ha, ht⟩
  have S2 : Hid (St At w w3 T1 g (tearA old)) := S1.out.1.step ht ha
  rw [tear_e1]
  clear ha ht S1
  go_wp2_with fail
  refine (H.sync T1 w3 g _ S2.out.at' (O1.out.mono (by decide))).mono ?_
  rintro e w4 ⟨T2, rfl, ha, ht⟩
  have S3 : Hid (St At w w4 T2 g (tearB old)) := S2.out.step ht ha
  rw [tear_e2]
  clear ha ht S2
  go_wp2_with fail
  refine (fill_c 32 young (by decide) w4).mono ?_
  rintro e w5 ⟨v, rfl, ho, hb⟩
  have S4 : Hid (St At w w5 T2 g (tearB old) ∧ OwnB w5 w4.heap.size v (List.replicate 32 young) ∧ ∀ k, v.ownBlock = some k → ¬ T2 k) := ⟨S3.out.grow H hb, ho, S3.out.off H ho⟩
  clear ho hb S3
  go_wp2_with fail
  refine (H.write T2 w5 g _ 0 v _ S4.out.1.at' (O2.out.mono (by decide)) (by unfold rngI; omega) S4.out.2.1.row S4.out.2.1.cap (by simp) HB2.out S4.out.2.2).mono ?_
  rintro e w6 ⟨T3, rfl, ha, ht⟩
  have S5 : Hid (St At w w6 T3 g (tearC old young)) := S4.out.1.step ht ha
  rw [tear_e3]
  clear ha ht S4
  go_wp2_with fail
  refine (H.crash T3 w6 g _ _ [] 0 cut S5.out.at' (O3.out.mono (by decide)) (.inl ⟨rfl, rfl⟩) (fun a n c e => by cases e; exact Nat.le_refl _) (by simp) (fun _ k e => by cases e) (by unfold rngI; omega) HC.out).mono ?_
  rintro e w7 ⟨T4, rfl, ha, ht⟩
  have S6 : Hid (St At w w7 T4 g (tearD old young cut)) := S5.out.step ht ha
  clear ha ht S5
  go_wp2_with fail
  refine (H.read T4 w7 g _ 0 S6.out.at' (O4.out.mono (by decide)) (by unfold rngI; omega)).mono ?_
  rintro e w8 ⟨T5, v, rfl, ha, ht, ho, _⟩
  rw [tear_e5] at ho
  have S7 : Hid (Below w.heap.size w w8 ∧ RowB w8 v (secD (tearD old young cut) 0)) := ⟨(S6.out.step ht ha).below, ho.row⟩
  rw [tear_e4]
  clear ha ht ho S6 O0 O1 O2 O3 O4 HB1 HB2 HC
  obtain ⟨ao, ac, rfl⟩ := S7.out.2.shape
  rw [tear_len] at S7 ⊢
  obtain ⟨sb, so, rfl, hsb, hsc⟩ := RowB.addr S7.out.2 (by rw [tear_len]; decide)
  have HS : Hid (sb < w8.heap.size ∧ ∀ i : Nat, i < 32 → w8.cell? ⟨sb, so + i, none⟩ = some (.int .u8 (if (i : Int) < cut then young else old))) := ⟨hsb, fun i hi => hsc i _ (tear_at old young cut hi)⟩
  clear hsb hsc
  go_wp2_with fail
  go_loopw [10, 11, 12, 52] (fun s10 s11 s12 s52 wr => ∃ k : Nat, k ≤ 32 ∧ s52 = .int .i64 (k : Int) ∧ Hid (Below w8.heap.size w8 wr)) (fun _ _ _ s52 _ => 32 - (intOf s52).toNat)
  case atStart => exact ⟨0, by omega, rfl, Below.refl _ _⟩
  case round =>
    obtain ⟨k, hk, rfl, hw⟩ := hrel
    by_cases hlt : k < 32
    · have hd : decide ((k : Int) < 32) = true := by simp; omega
      have hki : (k : Int) < 32 := by omega
      have ek : wrap64 ((k : Int) + 1) = ((k + 1 : Nat) : Int) := by rw [wrapR _ (by omega) (by omega)]; omega
      have c0 : wr.cell? ⟨sb, so + k, none⟩ = some (.int .u8 (if (k : Int) < cut then young else old)) := (cell_below hw.out HS.out.1).trans (HS.out.2 k hlt)
      by_cases hc : (k : Int) < cut
      · have hdc : decide ((k : Int) < cut) = true := by simpa using hc
        rw [if_pos hc] at c0
        go_wp2_with fail
        exact ⟨⟨k + 1, by omega, by rw [show ((k : Int) + 1) = ((k + 1 : Nat) : Int) by omega], hw.out⟩, by simp [intOf]; omega⟩
      · have hdc : decide ((k : Int) < cut) = false := by simpa using hc
        rw [if_neg hc] at c0
        go_wp2_with fail
        exact ⟨⟨k + 1, by omega, by rw [show ((k : Int) + 1) = ((k + 1 : Nat) : Int) by omega], hw.out⟩, by simp [intOf]; omega⟩
    · have hd : decide ((k : Int) < 32) = false := by simp; omega
      go_wp2_with fail
      refine (HA wr).mono ?_
      rintro e w9 ⟨rfl, hb⟩
      have HB9 : Hid (Below w.heap.size w w9) := (S7.out.1.trans (hw.out.mono S7.out.1.size)).trans (hb.mono (S7.out.1.trans (hw.out.mono S7.out.1.size)).size)
      clear hb
      go_wp2_with fail
      go_ret
      exact ⟨rfl, HB9.out⟩
end Go.Proofs.Ytohmkmekdnfkoaa
