/- Layer 12: the law's awake, over what package disk answers. -/
import Derived.Test.YtohmkmekdnfkoaaBc
namespace Go.Proofs.Ytohmkmekdnfkoaa
open Go.RowKit
variable {At : (Nat → Prop) → World → Nat → DM → Prop}
def awA : DM := (writeD (newD 2 16) 0 (List.replicate 16 1)).1
def awB : DM := (writeD awA 0 (List.replicate 16 2)).1
def awC : DM := crashD awB [true] 1 3
def awS : List Int := [2, 2, 2, 1, 1, 1, 1, 1, 1, 1, 1, 1, 1, 1, 1, 1]
theorem aw_e1 : (writeD (newD 2 16) 0 (List.replicate 16 1)).2 = 0 := by kernel_rfl
theorem aw_e2 : (writeD awA 0 (List.replicate 16 2)).2 = 0 := by kernel_rfl
theorem aw_e3 : (readD awC 0).2.1 = 0 := by kernel_rfl
theorem aw_e4 : (readD awC 0).2.2 = awS := by kernel_rfl
set_option maxHeartbeats 4000000 in
set_option maxRecDepth 100000 in
theorem awake_c (H : DiskOk At) : AwakeOk := by
  intro w
  have HN := Lib.hid (H.new 2 16 w (by unfold diskOkI; omega))
  have O0 : Hid (OkD (newD 2 16) 0) := OkD.new (by unfold diskOkI; omega) (by decide) (by omega)
  have O1 : Hid (OkD awA 1) := O0.out.write 0 (okB_rep (by omega))
  have O2 : Hid (OkD awB 2) := O1.out.write 0 (okB_rep (by omega))
  have O3 : Hid (OkD awC 2) := O2.out.crash (by omega) _ _ _
  go_enter Try.func8, Try.ntmps8
  go_wp2_with fail
  refine (HN.out).mono ?_
  rintro e w1 ⟨T0, g, rfl, ha, hb, hf⟩
  have S0 : Hid (St At w w1 T0 g (newD 2 16)) := ⟨ha, hf, hb⟩
  clear ha hb hf HN
  go_wp2_with fail
  refine (fill_c 16 1 (by decide) w1).mono ?_
  rintro e w2 ⟨v, rfl, ho, hb⟩
  have S1 : Hid (St At w w2 T0 g (newD 2 16) ∧ OwnB w2 w1.heap.size v (List.replicate 16 1) ∧ ∀ k, v.ownBlock = some k → ¬ T0 k) := ⟨S0.out.grow H hb, ho, S0.out.off H ho⟩
  clear ho hb S0
  go_wp2_with fail
  refine (H.write T0 w2 g _ 0 v _ S1.out.1.at' (O0.out.mono (by decide)) (by unfold rngI; omega) S1.out.2.1.row S1.out.2.1.cap (by simp) (okB_rep (by omega)) S1.out.2.2).mono ?_
  rintro e w3 ⟨T1, rfl, ha, ht⟩
  have S2 : Hid (St At w w3 T1 g awA) := S1.out.1.step ht ha
  rw [aw_e1]
  clear ha ht S1
  go_wp2_with fail
  refine (fill_c 16 2 (by decide) w3).mono ?_
  rintro e w4 ⟨v, rfl, ho, hb⟩
  have S3 : Hid (St At w w4 T1 g awA ∧ OwnB w4 w3.heap.size v (List.replicate 16 2) ∧ ∀ k, v.ownBlock = some k → ¬ T1 k) := ⟨S2.out.grow H hb, ho, S2.out.off H ho⟩
  clear ho hb S2
  go_wp2_with fail
  refine (H.write T1 w4 g _ 0 v _ S3.out.1.at' (O1.out.mono (by decide)) (by unfold rngI; omega) S3.out.2.1.row S3.out.2.1.cap (by simp) (okB_rep (by omega)) S3.out.2.2).mono ?_
  rintro e w5 ⟨T2, rfl, ha, ht⟩
  have S4 : Hid (St At w w5 T2 g awB) := S3.out.1.step ht ha
  rw [aw_e2]
  clear ha ht S3
  have SG := Lib.hid (S4.out.grow H ((Below.refl _ _).alloc (Nat.le_refl _) (.cells #[.bool true] 4)))
  have RT : Hid (RowT (w5.alloc (.cells #[.bool true] 4)) (.slice (some ⟨w5.heap.size, 0, none⟩) 1 1) [true]) := .inr (.inr ⟨w5.heap.size, 0, 1, rfl, by simp, fun i x hx => by
    match i, hx with
    | 0, hx => obtain rfl := Option.some.inj hx; exact (Blk.new _ _ _).cell 0
    | i + 1, hx => simp at hx⟩)
  have RO : Hid (∀ k, (Value.slice (some ⟨w5.heap.size, 0, none⟩) 1 1).ownBlock = some k → ¬ T2 k) := fun k e hT => by
    cases e
    exact absurd (H.lt S4.out.at' hT) (Nat.lt_irrefl _)
  go_wp2_with fail
  refine (H.crash T2 _ g _ _ [true] 1 3 SG.out.at' (O2.out.mono (by decide)) RT.out (fun a n c e => by cases e; exact Nat.le_refl _) (by simp) (fun _ => RO.out) (by unfold rngI; omega) (by unfold rngI; omega)).mono ?_
  rintro e w6 ⟨T3, rfl, ha, ht⟩
  have S5 : Hid (St At w w6 T3 g awC) := SG.out.step ht ha
  clear ha ht S4 SG RT RO
  go_wp2_with fail
  refine (H.read T3 w6 g _ 0 S5.out.at' (O3.out.mono (by decide)) (by unfold rngI; omega)).mono ?_
  rintro e w7 ⟨T4, v, rfl, ha, ht, ho, _⟩
  rw [aw_e4] at ho
  have S6 : Hid (Below w.heap.size w w7 ∧ RowB w7 v awS) := ⟨(S5.out.step ht ha).below, ho.row⟩
  rw [aw_e3]
  clear ha ht ho S5 O0 O1 O2 O3
  obtain ⟨ao, ac, rfl⟩ := S6.out.2.shape
  have hl : awS.length = 16 := rfl
  rw [hl] at S6 ⊢
  obtain ⟨sb, so, rfl, hsb, hsc⟩ := RowB.addr S6.out.2 (by decide)
  have c2 : w7.cell? ⟨sb, so + 2, none⟩ = some (.int .u8 2) := hsc 2 2 rfl
  have c3 : w7.cell? ⟨sb, so + 3, none⟩ = some (.int .u8 1) := hsc 3 1 rfl
  clear hsb hsc
  go_wp2_with fail
  go_ret
  exact ⟨rfl, S6.out.1⟩
end Go.Proofs.Ytohmkmekdnfkoaa
