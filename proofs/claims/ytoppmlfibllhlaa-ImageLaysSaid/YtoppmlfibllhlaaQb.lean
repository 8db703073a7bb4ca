/- Layer 10: package paint's each and join, by what their functions answer. -/
import Derived.Test.YtoppmlfibllhlaaQa
namespace Go.Proofs.Ytoppmlfibllhlaa
open Go.RowKit
theorem index_c8 (c : Col) {k : Nat} (hk : k < 4) (w : World) : (Instr.index 28 (.agg #[.int .u8 (c 0), .int .u8 (c 1), .int .u8 (c 2), .int .u8 (c 3)]) (.int .i64 (k : Int))).run Try.prog w = .ok (.int .u8 (c k)) w := by
  match k, hk with
  | 0, _ => simp [Instr.index, run_underlying Try.underlying28, asIntOf, go_sem]
  | 1, _ => simp [Instr.index, run_underlying Try.underlying28, asIntOf, go_sem]
  | 2, _ => simp [Instr.index, run_underlying Try.underlying28, asIntOf, go_sem]
  | 3, _ => simp [Instr.index, run_underlying Try.underlying28, asIntOf, go_sem]
set_option maxHeartbeats 2000000 in
set_option maxRecDepth 100000 in
theorem each_fade (c new : Col) (p : Value) (w : World) (hc : OkC c) (hn : OkC new) (hf : ∀ (k : Nat) W, k < 4 → Below w.heap.size w W → Calls Try.prog 56 #[.int .i64 (c k), p] W fun e w' => e = .returned (.int .i64 (new k)) ∧ W = w') :
    Calls Try.prog 55 #[.agg #[.int .u8 (c 0), .int .u8 (c 1), .int .u8 (c 2), .int .u8 (c 3)], .func (.func 56) #[] #[p]] w fun e w' => e = .returned (.agg #[.int .u8 (new 0), .int .u8 (new 1), .int .u8 (new 2), .int .u8 (new 3)]) ∧ Below w.heap.size w w' := by
  have HC := Lib.hid hc
  have HN := Lib.hid hn
  have HF := Lib.hid hf
  clear hc hn hf
  go_enter Try.func55, Try.ntmps55
  go_wp2_with fail
  go_loopw [8] (fun i wr => ∃ k : Nat, k ≤ 4 ∧ i = .int .i64 (k : Int) ∧ Hid (Below w.heap.size w wr ∧ Blk wr w.heap.size 28 (c8 (upto k new c)) ∧ Blk wr (w.heap.size + 1) 28 (four fun _ => .int .u8 0))) (fun i _ => 4 - (intOf i).toNat)
  case atStart =>
    refine ⟨0, by omega, rfl, ((Below.refl _ _).alloc (Nat.le_refl _) _).alloc (by simp) _, ?_, Blk.newAt _ _ _ (by simp)⟩
    rw [upto_none8]
    exact (Blk.new _ _ _).alloc _
  case round =>
    obtain ⟨k, hk, rfl, hw⟩ := hrel
    by_cases hlt : k < 4
    · have hd : decide ((k : Int) < 4) = true := by simp; omega
      have hki : (k : Int) < 4 := by omega
      have hix := index_c8 c hlt
      obtain ⟨a0, a1⟩ := HC.out k hlt
      obtain ⟨b0, b1⟩ := HN.out k hlt
      have e0 := u8_i64 a0 a1
      have HX := Lib.hid (fun W hW => HF.out k W hlt hW)
      obtain ⟨v, hv⟩ : ∃ v, new k = v := ⟨_, rfl⟩
      have HV := Lib.hid hv
      rw [hv] at HX b0 b1
      have e1 := i64_u8 b0 b1
      clear a0 a1 b0 b1 hv
      have ck := (hw.out.2.1.ck hlt)
      have f0 := hw.out.2.1.free k
      have lg := hw.out.2.1.lt
      go_wp2_with fail
      refine (HX.out _ hw.out.1).mono ?_
      rintro e w' ⟨rfl, rfl⟩
      go_wp2_with fail
      refine ⟨⟨k + 1, by omega, by go_num, hw.out.1.setCell (by simp) _, ?_, hw.out.2.2.other _ _ (by simp)⟩, by simp [intOf]; omega⟩
      rw [← upto_set8 _ _ hlt, HV.out]
      exact hw.out.2.1.set k _
    · have hd : decide ((k : Int) < 4) = false := by simp; omega
      obtain rfl : k = 4 := by omega
      have h1 : Hid (Blk wr w.heap.size 28 (c8 new)) := by
        have := hw.out.2.1
        rw [upto_full8] at this
        exact this
      obtain ⟨c0, c1, c2, c3⟩ := h1.out.c0
      obtain ⟨d0, d1, d2, d3⟩ := hw.out.2.2.c0
      have f0 := hw.out.2.2.free 0
      have f1 := hw.out.2.2.free 1
      have f2 := hw.out.2.2.free 2
      have f3 := hw.out.2.2.free 3
      have lg := hw.out.2.2.lt
      go_wp2_with fail
      exact bodyPost_ret (results_col (f := fun i => .int .u8 (new i)) (.inr rfl) 4 rfl rfl (hw.out.2.2.set4 fun i => .int .u8 (new i))) rfl ⟨rfl, below_four4 hw.out.1 (by omega) _ _ _ _⟩
set_option maxHeartbeats 2000000 in
set_option maxRecDepth 100000 in
theorem join_over (c d new : Col) (p : Value) (w : World) (hc : OkC c) (hq : OkC d) (hn : OkC new) (hf : ∀ (k : Nat) W, k < 4 → Below w.heap.size w W → Calls Try.prog 69 #[.int .i64 (c k), .int .i64 (d k), p] W fun e w' => e = .returned (.int .i64 (new k)) ∧ W = w') :
    Calls Try.prog 60 #[.agg #[.int .u8 (c 0), .int .u8 (c 1), .int .u8 (c 2), .int .u8 (c 3)], .agg #[.int .u8 (d 0), .int .u8 (d 1), .int .u8 (d 2), .int .u8 (d 3)], .func (.func 69) #[] #[p]] w fun e w' => e = .returned (.agg #[.int .u8 (new 0), .int .u8 (new 1), .int .u8 (new 2), .int .u8 (new 3)]) ∧ Below w.heap.size w w' := by
  have HC := Lib.hid hc
  have HQ := Lib.hid hq
  have HN := Lib.hid hn
  have HF := Lib.hid hf
  clear hc hn hf hq
  go_enter Try.func60, Try.ntmps60
  go_wp2_with fail
  go_loopw [10] (fun i wr => ∃ k : Nat, k ≤ 4 ∧ i = .int .i64 (k : Int) ∧ Hid (Below w.heap.size w wr ∧ Blk wr w.heap.size 28 (c8 (upto k new c)) ∧ Blk wr (w.heap.size + 1 + 1) 28 (four fun _ => .int .u8 0))) (fun i _ => 4 - (intOf i).toNat)
  case atStart =>
    refine ⟨0, by omega, rfl, (((Below.refl _ _).alloc (Nat.le_refl _) _).alloc (by simp) _).alloc (by simp; omega) _, ?_, Blk.newAt _ _ _ (by simp)⟩
    rw [upto_none8]
    exact ((Blk.new _ _ _).alloc _).alloc _
  case round =>
    obtain ⟨k, hk, rfl, hw⟩ := hrel
    by_cases hlt : k < 4
    · have hd : decide ((k : Int) < 4) = true := by simp; omega
      have hki : (k : Int) < 4 := by omega
      have hix := index_c8 d hlt
      obtain ⟨a0, a1⟩ := HC.out k hlt
      obtain ⟨a2, a3⟩ := HQ.out k hlt
      obtain ⟨b0, b1⟩ := HN.out k hlt
      have e0 := u8_i64 a0 a1
      have e2 := u8_i64 a2 a3
      have HX := Lib.hid (fun W hW => HF.out k W hlt hW)
      obtain ⟨v, hv⟩ : ∃ v, new k = v := ⟨_, rfl⟩
      have HV := Lib.hid hv
      rw [hv] at HX b0 b1
      have e1 := i64_u8 b0 b1
      clear a0 a1 a2 a3 b0 b1 hv
      have ck := (hw.out.2.1.ck hlt).trans (by rw [upto_at])
      have f0 := hw.out.2.1.free k
      have lg := hw.out.2.1.lt
      go_wp2_with fail
      refine (HX.out _ hw.out.1).mono ?_
      rintro e w' ⟨rfl, rfl⟩
      go_wp2_with fail
      refine ⟨⟨k + 1, by omega, by go_num, hw.out.1.setCell (by simp) _, ?_, hw.out.2.2.other _ _ (by simp; omega)⟩, by simp [intOf]; omega⟩
      rw [← upto_set8 _ _ hlt, HV.out]
      exact hw.out.2.1.set k _
    · have hd : decide ((k : Int) < 4) = false := by simp; omega
      obtain rfl : k = 4 := by omega
      have h1 : Hid (Blk wr w.heap.size 28 (c8 new)) := by
        have := hw.out.2.1
        rw [upto_full8] at this
        exact this
      obtain ⟨c0, c1, c2, c3⟩ := h1.out.c0
      obtain ⟨d0, d1, d2, d3⟩ := hw.out.2.2.c0
      have f0 := hw.out.2.2.free 0
      have f1 := hw.out.2.2.free 1
      have f2 := hw.out.2.2.free 2
      have f3 := hw.out.2.2.free 3
      have lg := hw.out.2.2.lt
      go_wp2_with fail
      exact bodyPost_ret (results_col (f := fun i => .int .u8 (new i)) (.inr rfl) 6 rfl rfl (hw.out.2.2.set4 fun i => .int .u8 (new i))) rfl ⟨rfl, below_four4 hw.out.1 (by omega) _ _ _ _⟩
end Go.Proofs.Ytoppmlfibllhlaa

