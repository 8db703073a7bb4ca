/- Layer 13: the fixed answers that a program gives which is awake. -/
import Derived.Test.YteobffggfcmghaaDoorUb
import Derived.Test.YteobffggfcmghaaDoorUi
import Derived.Lib.SmallJoins
namespace Go.Proofs.YteobffggfcmghaaDoor
open Go.RowKit
theorem sum_nine : sumI [49, 50, 51, 52, 53, 54, 55, 56, 57] = 3421780262 := by decide +kernel
theorem int_neg3 : intI (-3) = [5] := by decide +kernel
theorem int_64 : intI 64 = [128, 1] := by decide +kernel
theorem row_mark (w : World) (E : List Int) (n : Nat) (C : Array Value) (hC : C = (bytV E).toArray) (hn : E.length = n) (fr : Nat × Nat) : RowB (w.alloc (.cells C 5 fr)) (.slice (some ⟨w.heap.size, 0, none⟩) n n) E := by
  subst hC hn
  refine .inr (.inr ⟨w.heap.size, 0, E.length, rfl, by simp, fun i x hx => ?_⟩)
  rw [Nat.zero_add, Joins.cell_alloc_mark_at w _ _ fr _ i rfl]
  simp [bytV, hx]
theorem conv_1 (w : World) (C : Array Value) (n c g : Nat) (hg : g = w.heap.size) : (convert 22 22 (.slice (some ⟨g, 0, none⟩) n c)).run Tryd.prog (w.alloc (.cells C 5)) = .ok (.slice (some ⟨g, 0, none⟩) n c) (w.alloc (.cells C 5 (C.size, C.size + 1))) :=
  Joins.run_convert_bytes_const_at w _ _ C n c g hg Tryd.underlying22 Tryd.underlying5
theorem okB_nine : OkB [49, 50, 51, 52, 53, 54, 55, 56, 57] := fun x hx => by
  simp only [List.mem_cons, List.not_mem_nil, or_false] at hx
  omega
theorem okB_531 : OkB [5, 128, 1] := fun x hx => by
  simp only [List.mem_cons, List.not_mem_nil, or_false] at hx
  omega
theorem str_531 : strI [5, 128, 1] = { data := #[5, 128, 1] } := by decide +kernel
set_option maxHeartbeats 4000000 in
set_option maxRecDepth 100000 in
theorem awake13_c (w : World) (hrd : Rd w) : Calls Tryd.prog 9 #[] w fun e w' => e = .returned (.bool true) ∧ Below w.heap.size w w' := by
  have HRD := Lib.hid hrd
  have hcv := conv_1 (w.alloc (.cells #[.slice none 0 0] 48)) #[.int .u8 120] 1 1 (w.heap.size + 1) (by simp)
  clear hrd
  obtain ⟨w0, hw0⟩ : ∃ x, x = w.alloc (.cells #[.slice none 0 0] 48) := ⟨_, rfl⟩
  obtain ⟨w1, hw1⟩ : ∃ x, x = w0.alloc (.cells #[.int .u8 120] 5 (1, 1 + 1)) := ⟨_, rfl⟩
  have H0 : Hid (OutAt (fun k => k = w.heap.size) w1 w.heap.size [] ∧ Below w.heap.size w w1 ∧ w1.heap.size = w.heap.size + 2 ∧ RowB w1 (.slice (some ⟨w0.heap.size, 0, none⟩) 1 1) [120] ∧ w0.heap.size = w.heap.size + 1) := by
    have hb : Below w0.heap.size w0 w1 := by rw [hw1]; exact (Below.refl _ _).alloc (Nat.le_refl _) _
    obtain ⟨v, ho⟩ := outAt_new w
    rw [← hw0] at ho
    have hb0 : Below w.heap.size w w0 := by rw [hw0]; exact (Below.refl _ _).alloc (Nat.le_refl _) _
    refine ⟨⟨v, ho.keep (Keep.of_below hb)⟩, hb0.trans (hb.mono hb0.size), by rw [hw1, hw0]; simp, ?_, by rw [hw0]; simp⟩
    rw [hw1]
    exact row_mark w0 [120] 1 _ rfl rfl _
  go_enter Tryd.func9, Tryd.ntmps9
  go_wp2_with fail
  rw [← hw0, ← hw1]
  have e0 : w.heap.size + 1 = w0.heap.size := H0.out.2.2.2.2.symm
  rw [e0]
  have HFR := Lib.hid (frame_c 1 2 (.slice (some ⟨w0.heap.size, 0, none⟩) 1 1) [120] w1 (HRD.out.on H0.out.2.1) H0.out.2.2.2.1 (by intro x hx; rw [List.mem_singleton] at hx; subst hx; decide) (by decide) (by decide) (by decide))
  clear hw0 hw1 e0
  refine (HFR.out).mono ?_
  rintro e w2 ⟨v, rfl, ho, hb⟩
  obtain ⟨va, vc, rfl⟩ := ho.shape
  rw [frameI_len]
  have H2 : Hid (OutAt (fun k => k = w.heap.size) w2 w.heap.size [] ∧ Below w.heap.size w w2) := by
    obtain ⟨⟨v, h1⟩, h2, h3, _⟩ := H0.out
    exact ⟨⟨v, h1.keep (Keep.of_below hb)⟩, h2.trans (hb.mono h2.size)⟩
  clear ho hb HFR H0
  obtain ⟨w3, hw3⟩ : ∃ x, x = w2.alloc (.cells #[.int .u8 49, .int .u8 50, .int .u8 51, .int .u8 52, .int .u8 53, .int .u8 54, .int .u8 55, .int .u8 56, .int .u8 57] 5 (9, 9 + 1)) := ⟨_, rfl⟩
  have H3 : Hid (OutAt (fun k => k = w.heap.size) w3 w.heap.size [] ∧ Below w.heap.size w w3 ∧ RowB w3 (.slice (some ⟨w2.heap.size, 0, none⟩) 9 9) [49, 50, 51, 52, 53, 54, 55, 56, 57]) := by
    have hb : Below w2.heap.size w2 w3 := by rw [hw3]; exact (Below.refl _ _).alloc (Nat.le_refl _) _
    obtain ⟨⟨v, h1⟩, h2⟩ := H2.out
    refine ⟨⟨v, h1.keep (Keep.of_below hb)⟩, h2.trans (hb.mono h2.size), ?_⟩
    rw [hw3]
    exact row_mark w2 [49, 50, 51, 52, 53, 54, 55, 56, 57] 9 _ rfl rfl _
  have HS := Lib.hid (sum_c (.slice (some ⟨w2.heap.size, 0, none⟩) 9 9) [49, 50, 51, 52, 53, 54, 55, 56, 57] w3 (HRD.out.on H3.out.2.1) H3.out.2.2 okB_nine (by decide))
  rw [sum_nine] at HS
  have hcv2 := conv_1 w2 #[.int .u8 49, .int .u8 50, .int .u8 51, .int .u8 52, .int .u8 53, .int .u8 54, .int .u8 55, .int .u8 56, .int .u8 57] 9 9 w2.heap.size rfl
  go_wp2_with fail
  rw [← hw3]
  clear hw3 H2
  refine (HS.out).mono ?_
  rintro e w4 ⟨rfl, hb⟩
  have H4 : Hid (OutAt (fun k => k = w.heap.size) w4 w.heap.size [] ∧ Below w.heap.size w w4) := by
    obtain ⟨⟨v, h1⟩, h2, _⟩ := H3.out
    exact ⟨⟨v, h1.keep (Keep.of_below hb)⟩, h2.trans (hb.mono h2.size)⟩
  clear hb HS H3
  have HI1 := Lib.hid (outInt_c _ w4 w.heap.size [] (-3) H4.out.1 (by decide) ⟨by decide, by decide⟩)
  rw [List.nil_append, int_neg3] at HI1
  go_wp2_with fail
  refine (HI1.out).mono ?_
  rintro e w5 ⟨T5, rfl, ho, hto⟩
  have H5 : Hid (OutAt T5 w5 w.heap.size [5] ∧ Far w w5 T5) := ⟨ho, Far.step ⟨fun k e => by subst e; exact Nat.le_refl _, H4.out.2⟩ hto⟩
  clear ho hto HI1 H4
  have HI2 := Lib.hid (outInt_c _ w5 w.heap.size [5] 64 H5.out.1 (by decide) ⟨by decide, by decide⟩)
  rw [int_64] at HI2
  go_wp2_with fail
  refine (HI2.out).mono ?_
  rintro e w6 ⟨T6, rfl, ho, hto⟩
  have H6 : Hid (OutAt T6 w6 w.heap.size [5, 128, 1] ∧ Far w w6 T6) := ⟨ho, H5.out.2.step hto⟩
  clear ho hto HI2 H5
  have HBY := Lib.hid (outBytes_c _ w6 w.heap.size [5, 128, 1] H6.out.1 (by decide))
  go_wp2_with fail
  refine (HBY.out).mono ?_
  rintro e w7 ⟨v, rfl, ho, hb, _⟩
  have hs := conv_b ho.row okB_531
  rw [str_531] at hs
  have H7 : Hid (Below w.heap.size w w7) := (H6.out.2.grow hb).below
  clear ho hb H6 HBY
  go_wp2_with fail
  go_ret
  exact ⟨rfl, H7.out⟩
theorem awakeOk : AwakeOk Rd := fun w h => awake13_c w h
end Go.Proofs.YteobffggfcmghaaDoor
