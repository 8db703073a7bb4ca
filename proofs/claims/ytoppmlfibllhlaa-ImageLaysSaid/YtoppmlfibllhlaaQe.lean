/- Layer 10: package paint's Blend. -/
import Derived.Test.YtoppmlfibllhlaaQd
namespace Go.Proofs.Ytoppmlfibllhlaa
open Go.RowKit
set_option maxHeartbeats 2000000 in
set_option maxRecDepth 100000 in
theorem join_blend (c d new : Col) (p q : Value) (w : World) (hc : OkC c) (hq : OkC d) (hn : OkC new) (hf : ∀ (k : Nat) W, k < 4 → Below w.heap.size w W → Calls Try.prog 61 #[.int .i64 (c k), .int .i64 (d k), p, q] W fun e w' => e = .returned (.int .i64 (new k)) ∧ Below W.heap.size W w') :
    Calls Try.prog 60 #[.agg #[.int .u8 (c 0), .int .u8 (c 1), .int .u8 (c 2), .int .u8 (c 3)], .agg #[.int .u8 (d 0), .int .u8 (d 1), .int .u8 (d 2), .int .u8 (d 3)], .func (.func 61) #[] #[p, q]] w fun e w' => e = .returned (.agg #[.int .u8 (new 0), .int .u8 (new 1), .int .u8 (new 2), .int .u8 (new 3)]) ∧ Below w.heap.size w w' := by
  have HC := Lib.hid hc
  have HQ := Lib.hid hq
  have HN := Lib.hid hn
  have HF := Lib.hid hf
  clear hc hn hf hq
  go_enter Try.func60, Try.ntmps60
  go_wp2_with fail
  go_loopw [10] (fun i wr => ∃ k : Nat, k ≤ 4 ∧ i = .int .i64 (k : Int) ∧ Hid (Below w.heap.size w wr ∧ Blk wr w.heap.size 28 (c8 (upto k new c)) ∧ Blk wr (w.heap.size + 1 + 1) 28 (four fun _ => .int .u8 0))) (fun i _ => 4 - (intOf i).toNat)
  case atStart =>
    refine ⟨0, by omega, rfl, (((Below.refl _ _).alloc (Nat.le_refl _) _).alloc (by simp) _).alloc (by simp; omega) _, ?_, Blk.newAt _ _ _ (by simp)⟩
    rw [upto_none8]
    exact ((Blk.new _ _ _).alloc _).alloc _
  case round =>
    obtain ⟨k, hk, rfl, hw⟩ := hrel
    by_cases hlt : k < 4
    · have hd : decide ((k : Int) < 4) = true := by simp; omega
      have hki : (k : Int) < 4 := by omega
      have hix := index_c8 d hlt
      obtain ⟨a0, a1⟩ := HC.out k hlt
      obtain ⟨a2, a3⟩ := HQ.out k hlt
      obtain ⟨b0, b1⟩ := HN.out k hlt
      have e0 := u8_i64 a0 a1
      have e2 := u8_i64 a2 a3
      have HX := Lib.hid (fun W hW => HF.out k W hlt hW)
      obtain ⟨v, hv⟩ : ∃ v, new k = v := ⟨_, rfl⟩
      have HV := Lib.hid hv
      rw [hv] at HX b0 b1
      have e1 := i64_u8 b0 b1
      clear a0 a1 a2 a3 b0 b1 hv
      have ck := (hw.out.2.1.ck hlt).trans (by rw [upto_at])
      go_wp2_with fail
      refine (HX.out _ hw.out.1).mono ?_
      rintro e w2 ⟨rfl, hb⟩
      have G : Hid (Below w.heap.size w w2 ∧ Blk w2 w.heap.size 28 (c8 (upto k new c)) ∧ Blk w2 (w.heap.size + 1 + 1) 28 (four fun _ => .int .u8 0)) := ⟨hw.out.1.trans (hb.mono hw.out.1.size), hw.out.2.1.grow hb, hw.out.2.2.grow hb⟩
      clear hb ck
      have ck := (G.out.2.1.ck hlt).trans (by rw [upto_at])
      have f0 := G.out.2.1.free k
      have lg := G.out.2.1.lt
      go_wp2_with fail
      refine ⟨⟨k + 1, by omega, by go_num, G.out.1.setCell (by simp) _, ?_, G.out.2.2.other _ _ (by simp; omega)⟩, by simp [intOf]; omega⟩
      rw [← upto_set8 _ _ hlt, HV.out]
      exact G.out.2.1.set k _
    · have hd : decide ((k : Int) < 4) = false := by simp; omega
      obtain rfl : k = 4 := by omega
      have h1 : Hid (Blk wr w.heap.size 28 (c8 new)) := by
        have := hw.out.2.1
        rw [upto_full8] at this
        exact this
      obtain ⟨c0, c1, c2, c3⟩ := h1.out.c0
      obtain ⟨d0, d1, d2, d3⟩ := hw.out.2.2.c0
      have f0 := hw.out.2.2.free 0
      have f1 := hw.out.2.2.free 1
      have f2 := hw.out.2.2.free 2
      have f3 := hw.out.2.2.free 3
      have lg := hw.out.2.2.lt
      go_wp2_with fail
      exact bodyPost_ret (results_col (f := fun i => .int .u8 (new i)) (.inr rfl) 6 rfl rfl (hw.out.2.2.set4 fun i => .int .u8 (new i))) rfl ⟨rfl, below_four4 hw.out.1 (by omega) _ _ _ _⟩
/-- What lies at hand while the code's Blend runs. -/
def PB (w : World) (c d : Col) (A : World) : Prop := Below w.heap.size w A ∧ Blk A w.heap.size 28 (c8 c) ∧ Blk A (w.heap.size + 1) 28 (c8 d) ∧ Blk A (w.heap.size + 1 + 1) 28 (four fun _ => .int .u8 0)
theorem PB.grow {w A B : World} {c d : Col} (h : PB w c d A) (hb : Below A.heap.size A B) : PB w c d B := ⟨h.1.trans (hb.mono h.1.size), h.2.1.grow hb, h.2.2.1.grow hb, h.2.2.2.grow hb⟩
theorem PB.start (w : World) (c d : Col) : PB w c d (((w.alloc (.cells #[.int .u8 (c 0), .int .u8 (c 1), .int .u8 (c 2), .int .u8 (c 3)] 28)).alloc (.cells #[.int .u8 (d 0), .int .u8 (d 1), .int .u8 (d 2), .int .u8 (d 3)] 28)).alloc (.cells #[.int .u8 0, .int .u8 0, .int .u8 0, .int .u8 0] 28)) :=
  ⟨(((Below.refl _ _).alloc (Nat.le_refl _) _).alloc (by simp) _).alloc (by simp; omega) _, ((Blk.new _ _ _).alloc _).alloc _, (Blk.newAt _ _ _ (by simp)).alloc _, Blk.newAt _ _ _ (by simp)⟩
theorem PB.alloc {w A : World} {c d : Col} (h : PB w c d A) (o : Obj) : PB w c d (A.alloc o) := ⟨h.1.alloc h.1.size o, h.2.1.alloc o, h.2.2.1.alloc o, h.2.2.2.alloc o⟩
theorem results_blend {fn : Func} {tmps : Array Value} {W : World} {g : Nat} {f : Nat → Value} {v : Value} (hres : fn.results = #[.cell 6 28, .tmp 7]) (ha : tmps[6]? = some (.pointer (some ⟨g, 0, none⟩))) (hb : tmps[7]? = some v) (hg : Blk W g 28 (four f)) :
    (results fn tmps).run Try.prog W = .ok (.tuple #[.agg #[f 0, f 1, f 2, f 3], v]) W := by
  obtain ⟨h0, h1, h2, h3⟩ := hg.c0
  simp [results, hres, ha, hb, go_sem, h0, h1, h2, h3]
set_option maxHeartbeats 2000000 in
set_option maxRecDepth 100000 in
theorem pBlend_low (c d : Col) (m : Int) (hm : m < 0) (w : World) : Calls Try.prog 42 #[.agg #[.int .u8 (c 0), .int .u8 (c 1), .int .u8 (c 2), .int .u8 (c 3)], .agg #[.int .u8 (d 0), .int .u8 (d 1), .int .u8 (d 2), .int .u8 (d 3)], .int .i64 m] w fun e w' => e = .returned (.tuple #[.agg #[.int .u8 (zeroC 0), .int .u8 (zeroC 1), .int .u8 (zeroC 2), .int .u8 (zeroC 3)], .int .i64 33]) ∧ Below w.heap.size w w' := by
  have h1 : decide (m < 0) = true := by simp; omega
  clear hm
  go_enter Try.func42, Try.ntmps42
  go_upto_if 17 with fail
  obtain ⟨w1, hw1⟩ : ∃ WW, ((w.alloc (.cells #[.int .u8 (c 0), .int .u8 (c 1), .int .u8 (c 2), .int .u8 (c 3)] 28)).alloc (.cells #[.int .u8 (d 0), .int .u8 (d 1), .int .u8 (d 2), .int .u8 (d 3)] 28)).alloc (.cells #[.int .u8 0, .int .u8 0, .int .u8 0, .int .u8 0] 28) = WW := ⟨_, rfl⟩
  have P1 : Hid (PB w c d w1) := by
    rw [← hw1]
    exact PB.start w c d
  rw [hw1]
  clear hw1
  obtain ⟨z0, z1, z2, z3⟩ := P1.out.2.2.2.c0
  have f0 := P1.out.2.2.2.free 0
  have f1 := P1.out.2.2.2.free 1
  have f2 := P1.out.2.2.2.free 2
  have f3 := P1.out.2.2.2.free 3
  have lg := P1.out.2.2.2.lt
  go_wp2_with fail
  exact bodyPost_ret (results_blend rfl rfl rfl (P1.out.2.2.2.set4 fun i => .int .u8 (zeroC i))) rfl ⟨rfl, below_four4 P1.out.1 (by omega) _ _ _ _⟩
set_option maxHeartbeats 2000000 in
set_option maxRecDepth 100000 in
theorem pBlend_high (c d : Col) (m : Int) (hm : 4 < m) (w : World) : Calls Try.prog 42 #[.agg #[.int .u8 (c 0), .int .u8 (c 1), .int .u8 (c 2), .int .u8 (c 3)], .agg #[.int .u8 (d 0), .int .u8 (d 1), .int .u8 (d 2), .int .u8 (d 3)], .int .i64 m] w fun e w' => e = .returned (.tuple #[.agg #[.int .u8 (zeroC 0), .int .u8 (zeroC 1), .int .u8 (zeroC 2), .int .u8 (zeroC 3)], .int .i64 33]) ∧ Below w.heap.size w w' := by
  have h1 : decide (m < 0) = false := by simp; omega
  have h2 : decide (m > 4) = true := by simp; omega
  clear hm
  go_enter Try.func42, Try.ntmps42
  go_upto_if 17 with fail
  obtain ⟨w1, hw1⟩ : ∃ WW, ((w.alloc (.cells #[.int .u8 (c 0), .int .u8 (c 1), .int .u8 (c 2), .int .u8 (c 3)] 28)).alloc (.cells #[.int .u8 (d 0), .int .u8 (d 1), .int .u8 (d 2), .int .u8 (d 3)] 28)).alloc (.cells #[.int .u8 0, .int .u8 0, .int .u8 0, .int .u8 0] 28) = WW := ⟨_, rfl⟩
  have P1 : Hid (PB w c d w1) := by
    rw [← hw1]
    exact PB.start w c d
  rw [hw1]
  clear hw1
  obtain ⟨z0, z1, z2, z3⟩ := P1.out.2.2.2.c0
  have f0 := P1.out.2.2.2.free 0
  have f1 := P1.out.2.2.2.free 1
  have f2 := P1.out.2.2.2.free 2
  have f3 := P1.out.2.2.2.free 3
  have lg := P1.out.2.2.2.lt
  go_wp2_with fail
  exact bodyPost_ret (results_blend rfl rfl rfl (P1.out.2.2.2.set4 fun i => .int .u8 (zeroC i))) rfl ⟨rfl, below_four4 P1.out.1 (by omega) _ _ _ _⟩
set_option maxHeartbeats 2000000 in
set_option maxRecDepth 100000 in
theorem pBlend_c (c d : Col) (m : Int) (hm : 0 ≤ m ∧ m ≤ 4) (hrc : rightC c = false) (w : World) : Calls Try.prog 42 #[.agg #[.int .u8 (c 0), .int .u8 (c 1), .int .u8 (c 2), .int .u8 (c 3)], .agg #[.int .u8 (d 0), .int .u8 (d 1), .int .u8 (d 2), .int .u8 (d 3)], .int .i64 m] w fun e w' => e = .returned (.tuple #[.agg #[.int .u8 (zeroC 0), .int .u8 (zeroC 1), .int .u8 (zeroC 2), .int .u8 (zeroC 3)], .int .i64 30]) ∧ Below w.heap.size w w' := by
  have HRC : Hid (∀ w, Calls Try.prog 16 #[.agg #[.int .u8 (c 0), .int .u8 (c 1), .int .u8 (c 2), .int .u8 (c 3)]] w fun e w' => e = .returned (.bool false) ∧ Below w.heap.size w w') := fun w => by
    have := pRight_c c w
    rw [hrc] at this
    exact this
  have h1 : decide (m < 0) = false := by simp; omega
  have h2 : decide (m > 4) = false := by simp; omega
  clear hm
  clear hrc
  go_enter Try.func42, Try.ntmps42
  go_wp2_with fail
  obtain ⟨w1, hw1⟩ : ∃ WW, ((w.alloc (.cells #[.int .u8 (c 0), .int .u8 (c 1), .int .u8 (c 2), .int .u8 (c 3)] 28)).alloc (.cells #[.int .u8 (d 0), .int .u8 (d 1), .int .u8 (d 2), .int .u8 (d 3)] 28)).alloc (.cells #[.int .u8 0, .int .u8 0, .int .u8 0, .int .u8 0] 28) = WW := ⟨_, rfl⟩
  have P1 : Hid (PB w c d w1) := by
    rw [← hw1]
    exact PB.start w c d
  rw [hw1]
  clear hw1
  refine (HRC.out w1).mono ?_
  rintro e w2 ⟨rfl, hb⟩
  have P2 := Lib.hid (P1.out.grow hb)
  clear hb
  go_upto_if 26 with fail
  obtain ⟨z0, z1, z2, z3⟩ := P2.out.2.2.2.c0
  have f0 := P2.out.2.2.2.free 0
  have f1 := P2.out.2.2.2.free 1
  have f2 := P2.out.2.2.2.free 2
  have f3 := P2.out.2.2.2.free 3
  have lg := P2.out.2.2.2.lt
  go_wp2_with fail
  exact bodyPost_ret (results_blend rfl rfl rfl (P2.out.2.2.2.set4 fun i => .int .u8 (zeroC i))) rfl ⟨rfl, below_four4 P2.out.1 (by omega) _ _ _ _⟩
set_option maxHeartbeats 2000000 in
set_option maxRecDepth 100000 in
theorem pBlend_d (c d : Col) (m : Int) (hm : 0 ≤ m ∧ m ≤ 4) (hrc : rightC c = true) (hrd : rightC d = false) (w : World) : Calls Try.prog 42 #[.agg #[.int .u8 (c 0), .int .u8 (c 1), .int .u8 (c 2), .int .u8 (c 3)], .agg #[.int .u8 (d 0), .int .u8 (d 1), .int .u8 (d 2), .int .u8 (d 3)], .int .i64 m] w fun e w' => e = .returned (.tuple #[.agg #[.int .u8 (zeroC 0), .int .u8 (zeroC 1), .int .u8 (zeroC 2), .int .u8 (zeroC 3)], .int .i64 30]) ∧ Below w.heap.size w w' := by
  have HRC : Hid (∀ w, Calls Try.prog 16 #[.agg #[.int .u8 (c 0), .int .u8 (c 1), .int .u8 (c 2), .int .u8 (c 3)]] w fun e w' => e = .returned (.bool true) ∧ Below w.heap.size w w') := fun w => by
    have := pRight_c c w
    rw [hrc] at this
    exact this
  have HRD : Hid (∀ w, Calls Try.prog 16 #[.agg #[.int .u8 (d 0), .int .u8 (d 1), .int .u8 (d 2), .int .u8 (d 3)]] w fun e w' => e = .returned (.bool false) ∧ Below w.heap.size w w') := fun w => by
    have := pRight_c d w
    rw [hrd] at this
    exact this
  have h1 : decide (m < 0) = false := by simp; omega
  have h2 : decide (m > 4) = false := by simp; omega
  clear hm
  clear hrc hrd
  go_enter Try.func42, Try.ntmps42
  go_wp2_with fail
  obtain ⟨w1, hw1⟩ : ∃ WW, ((w.alloc (.cells #[.int .u8 (c 0), .int .u8 (c 1), .int .u8 (c 2), .int .u8 (c 3)] 28)).alloc (.cells #[.int .u8 (d 0), .int .u8 (d 1), .int .u8 (d 2), .int .u8 (d 3)] 28)).alloc (.cells #[.int .u8 0, .int .u8 0, .int .u8 0, .int .u8 0] 28) = WW := ⟨_, rfl⟩
  have P1 : Hid (PB w c d w1) := by
    rw [← hw1]
    exact PB.start w c d
  rw [hw1]
  clear hw1
  refine (HRC.out w1).mono ?_
  rintro e w2 ⟨rfl, hb⟩
  have P2 := Lib.hid (P1.out.grow hb)
  clear hb
  obtain ⟨d0, d1, d2, d3⟩ := P2.out.2.2.1.c0
  go_wp2_with fail
  refine (HRD.out w2).mono ?_
  rintro e w3 ⟨rfl, hb⟩
  have P3 := Lib.hid (P2.out.grow hb)
  clear hb d0 d1 d2 d3
  go_upto_if 26 with fail
  obtain ⟨z0, z1, z2, z3⟩ := P3.out.2.2.2.c0
  have f0 := P3.out.2.2.2.free 0
  have f1 := P3.out.2.2.2.free 1
  have f2 := P3.out.2.2.2.free 2
  have f3 := P3.out.2.2.2.free 3
  have lg := P3.out.2.2.2.lt
  go_wp2_with fail
  exact bodyPost_ret (results_blend rfl rfl rfl (P3.out.2.2.2.set4 fun i => .int .u8 (zeroC i))) rfl ⟨rfl, below_four4 P3.out.1 (by omega) _ _ _ _⟩
set_option maxHeartbeats 2000000 in
set_option maxRecDepth 100000 in
theorem pBlend_0 (c d : Col) (hc : OkC c) (hd : OkC d) (hrc : rightC c = true) (hrd : rightC d = true) (w : World) : Calls Try.prog 42 #[.agg #[.int .u8 (c 0), .int .u8 (c 1), .int .u8 (c 2), .int .u8 (c 3)], .agg #[.int .u8 (d 0), .int .u8 (d 1), .int .u8 (d 2), .int .u8 (d 3)], .int .i64 0] w fun e w' => e = .returned (.tuple #[.agg #[.int .u8 (overC c d 0), .int .u8 (overC c d 1), .int .u8 (overC c d 2), .int .u8 (overC c d 3)], .int .i64 0]) ∧ Below w.heap.size w w' := by
  have HRC : Hid (∀ w, Calls Try.prog 16 #[.agg #[.int .u8 (c 0), .int .u8 (c 1), .int .u8 (c 2), .int .u8 (c 3)]] w fun e w' => e = .returned (.bool true) ∧ Below w.heap.size w w') := fun w => by
    have := pRight_c c w
    rw [hrc] at this
    exact this
  have HRD : Hid (∀ w, Calls Try.prog 16 #[.agg #[.int .u8 (d 0), .int .u8 (d 1), .int .u8 (d 2), .int .u8 (d 3)]] w fun e w' => e = .returned (.bool true) ∧ Below w.heap.size w w') := fun w => by
    have := pRight_c d w
    rw [hrd] at this
    exact this
  have HOV := Lib.hid (fun w => pOver_c c d w hc hd)
  clear hc hd hrc hrd
  go_enter Try.func42, Try.ntmps42
  go_wp2_with fail
  obtain ⟨w1, hw1⟩ : ∃ WW, ((w.alloc (.cells #[.int .u8 (c 0), .int .u8 (c 1), .int .u8 (c 2), .int .u8 (c 3)] 28)).alloc (.cells #[.int .u8 (d 0), .int .u8 (d 1), .int .u8 (d 2), .int .u8 (d 3)] 28)).alloc (.cells #[.int .u8 0, .int .u8 0, .int .u8 0, .int .u8 0] 28) = WW := ⟨_, rfl⟩
  have P1 : Hid (PB w c d w1) := by
    rw [← hw1]
    exact PB.start w c d
  rw [hw1]
  clear hw1
  refine (HRC.out w1).mono ?_
  rintro e w2 ⟨rfl, hb⟩
  have P2 := Lib.hid (P1.out.grow hb)
  clear hb
  obtain ⟨d0, d1, d2, d3⟩ := P2.out.2.2.1.c0
  go_wp2_with fail
  refine (HRD.out w2).mono ?_
  rintro e w3 ⟨rfl, hb⟩
  have P3 := Lib.hid (P2.out.grow hb)
  clear hb d0 d1 d2 d3
  obtain ⟨a0, a1, a2, a3⟩ := P3.out.2.1.c0
  obtain ⟨d0, d1, d2, d3⟩ := P3.out.2.2.1.c0
  go_wp2_with fail
  refine (HOV.out w3).mono ?_
  rintro e w4 ⟨rfl, hb⟩
  have P4 := Lib.hid (P3.out.grow hb)
  clear hb a0 a1 a2 a3 d0 d1 d2 d3
  go_upto_if 32 with fail
  obtain ⟨w5, hw5⟩ : ∃ WW, w4.alloc (.cells #[.int .u8 (overC c d 0), .int .u8 (overC c d 1), .int .u8 (overC c d 2), .int .u8 (overC c d 3)] 28) = WW := ⟨_, rfl⟩
  have P5 : Hid (PB w c d w5) := by
    rw [← hw5]
    exact P4.out.alloc _
  have X5 : Hid (Blk w5 w4.heap.size 28 (c8 (overC c d))) := by
    rw [← hw5]
    exact Blk.new _ _ _
  rw [hw5]
  clear hw5
  obtain ⟨x0, x1, x2, x3⟩ := X5.out.c0
  obtain ⟨z0, z1, z2, z3⟩ := P5.out.2.2.2.c0
  have f0 := P5.out.2.2.2.free 0
  have f1 := P5.out.2.2.2.free 1
  have f2 := P5.out.2.2.2.free 2
  have f3 := P5.out.2.2.2.free 3
  have lg := P5.out.2.2.2.lt
  go_wp2_with fail
  exact bodyPost_ret (results_blend rfl rfl rfl (P5.out.2.2.2.set4 fun i => .int .u8 (overC c d i))) rfl ⟨rfl, below_four4 P5.out.1 (by omega) _ _ _ _⟩
set_option maxHeartbeats 2000000 in
set_option maxRecDepth 100000 in
theorem pBlend_1 (c d : Col) (hc : OkC c) (hd : OkC d) (hrc : rightC c = true) (hrd : rightC d = true) (w : World) : Calls Try.prog 42 #[.agg #[.int .u8 (c 0), .int .u8 (c 1), .int .u8 (c 2), .int .u8 (c 3)], .agg #[.int .u8 (d 0), .int .u8 (d 1), .int .u8 (d 2), .int .u8 (d 3)], .int .i64 1] w fun e w' => e = .returned (.tuple #[.agg #[.int .u8 (blendC c d 1 0), .int .u8 (blendC c d 1 1), .int .u8 (blendC c d 1 2), .int .u8 (blendC c d 1 3)], .int .i64 0]) ∧ Below w.heap.size w w' := by
  have HRC : Hid (∀ w, Calls Try.prog 16 #[.agg #[.int .u8 (c 0), .int .u8 (c 1), .int .u8 (c 2), .int .u8 (c 3)]] w fun e w' => e = .returned (.bool true) ∧ Below w.heap.size w w') := fun w => by
    have := pRight_c c w
    rw [hrc] at this
    exact this
  have HRD : Hid (∀ w, Calls Try.prog 16 #[.agg #[.int .u8 (d 0), .int .u8 (d 1), .int .u8 (d 2), .int .u8 (d 3)]] w fun e w' => e = .returned (.bool true) ∧ Below w.heap.size w w') := fun w => by
    have := pRight_c d w
    rw [hrd] at this
    exact this
  have HOV := Lib.hid (fun w => pOver_c c d w hc hd)
  have HC := Lib.hid hc
  have HQ := Lib.hid hd
  have HO := Lib.hid (over_ok hc hd)
  have SF : ∀ (a : Addr) (m : Mode) (f : Fn) (x y : Array Value) (w : World), (store a (.func f x y) m).run Try.prog w = stored Try.prog w a (.func f x y) m := fun a m f x y w => run_store _ w a _ m rfl
  have e1 := u8_i64 (hc 3 (by decide)).1 (hc 3 (by decide)).2
  have e2 := u8_i64 (hd 3 (by decide)).1 (hd 3 (by decide)).2
  have e3 := u8_i64 (HO.out 3 (by decide)).1 (HO.out 3 (by decide)).2
  clear hc hd hrc hrd
  go_enter Try.func42, Try.ntmps42
  go_wp2_with fail
  obtain ⟨w1, hw1⟩ : ∃ WW, ((w.alloc (.cells #[.int .u8 (c 0), .int .u8 (c 1), .int .u8 (c 2), .int .u8 (c 3)] 28)).alloc (.cells #[.int .u8 (d 0), .int .u8 (d 1), .int .u8 (d 2), .int .u8 (d 3)] 28)).alloc (.cells #[.int .u8 0, .int .u8 0, .int .u8 0, .int .u8 0] 28) = WW := ⟨_, rfl⟩
  have P1 : Hid (PB w c d w1) := by
    rw [← hw1]
    exact PB.start w c d
  rw [hw1]
  clear hw1
  refine (HRC.out w1).mono ?_
  rintro e w2 ⟨rfl, hb⟩
  have P2 := Lib.hid (P1.out.grow hb)
  clear hb
  obtain ⟨d0, d1, d2, d3⟩ := P2.out.2.2.1.c0
  go_wp2_with fail
  refine (HRD.out w2).mono ?_
  rintro e w3 ⟨rfl, hb⟩
  have P3 := Lib.hid (P2.out.grow hb)
  clear hb d0 d1 d2 d3
  obtain ⟨a0, a1, a2, a3⟩ := P3.out.2.1.c0
  obtain ⟨d0, d1, d2, d3⟩ := P3.out.2.2.1.c0
  go_wp2_with fail
  refine (HOV.out w3).mono ?_
  rintro e w4 ⟨rfl, hb⟩
  have P4 := Lib.hid (P3.out.grow hb)
  clear hb a0 a1 a2 a3 d0 d1 d2 d3
  go_upto_if 32 with fail
  obtain ⟨w5, hw5⟩ : ∃ WW, w4.alloc (.cells #[.int .u8 (overC c d 0), .int .u8 (overC c d 1), .int .u8 (overC c d 2), .int .u8 (overC c d 3)] 28) = WW := ⟨_, rfl⟩
  have P5 : Hid (PB w c d w5) := by
    rw [← hw5]
    exact P4.out.alloc _
  have X5 : Hid (Blk w5 w4.heap.size 28 (c8 (overC c d))) := by
    rw [← hw5]
    exact Blk.new _ _ _
  rw [hw5]
  clear hw5
  obtain ⟨a0, a1, a2, a3⟩ := P5.out.2.1.c0
  obtain ⟨d0, d1, d2, d3⟩ := P5.out.2.2.1.c0
  clear a0 a1 a2 d0 d1 d2
  go_wp2_with fail
  refine (blender1_c _ _ _).mono ?_
  rintro e w6 ⟨rfl, hb, KA, KB⟩
  have P6 := Lib.hid (P5.out.grow hb)
  have X6 := Lib.hid (X5.out.grow hb)
  have KA6 := Lib.hid KA
  have KB6 := Lib.hid KB
  clear hb KA KB a3 d3 X5 P5
  obtain ⟨a0, a1, a2, a3⟩ := P6.out.2.1.c0
  obtain ⟨d0, d1, d2, d3⟩ := P6.out.2.2.1.c0
  go_upto_region 9 with fail
  obtain ⟨wf, hwf⟩ : ∃ WW, w6.alloc (.cells #[.func (.func 70) #[] #[.pointer (some ⟨w5.heap.size + 1, 0, none⟩), .pointer (some ⟨w5.heap.size, 0, none⟩)]] 93) = WW := ⟨_, rfl⟩
  have SF6 : Hid (PB w c d wf ∧ Blk wf w4.heap.size 28 (c8 (overC c d)) ∧ Blk wf w5.heap.size 3 #[.int .i64 (c 3)] ∧ Blk wf (w5.heap.size + 1) 3 #[.int .i64 (d 3)] ∧ Blk wf w6.heap.size 93 #[.func (.func 70) #[] #[.pointer (some ⟨w5.heap.size + 1, 0, none⟩), .pointer (some ⟨w5.heap.size, 0, none⟩)]]) := by
    rw [← hwf]
    exact ⟨P6.out.alloc _, X6.out.alloc _, KA6.out.alloc _, KB6.out.alloc _, Blk.new _ _ _⟩
  rw [hwf]
  clear hwf P6 X6 KA6 KB6 a0 a1 a2 a3 d0 d1 d2 d3
  obtain ⟨x0, x1, x2, x3⟩ := SF6.out.2.1.c0
  clear x0 x1 x2
  go_upto_region 10 with fail
  obtain ⟨w7, hw7⟩ : ∃ WW, wf.alloc (.cells #[.int .i64 (overC c d 3)] 3) = WW := ⟨_, rfl⟩
  have S7 : Hid (PB w c d w7 ∧ Blk w7 w4.heap.size 28 (c8 (overC c d)) ∧ Blk w7 w5.heap.size 3 #[.int .i64 (c 3)] ∧ Blk w7 (w5.heap.size + 1) 3 #[.int .i64 (d 3)] ∧ Blk w7 w6.heap.size 93 #[.func (.func 70) #[] #[.pointer (some ⟨w5.heap.size + 1, 0, none⟩), .pointer (some ⟨w5.heap.size, 0, none⟩)]] ∧ Blk w7 wf.heap.size 3 #[.int .i64 (overC c d 3)]) := by
    rw [← hw7]
    exact ⟨SF6.out.1.alloc _, SF6.out.2.1.alloc _, SF6.out.2.2.1.alloc _, SF6.out.2.2.2.1.alloc _, SF6.out.2.2.2.2.alloc _, Blk.new _ _ _⟩
  rw [hw7]
  clear hw7 SF6 x3
  obtain ⟨a0, a1, a2, a3⟩ := S7.out.1.2.1.c0
  obtain ⟨d0, d1, d2, d3⟩ := S7.out.1.2.2.1.c0
  go_wp2_with fail
  clear a0 a1 a2 a3 d0 d1 d2 d3
  have HN : Hid (OkC fun i => min (max (blendN (c 3) (d 3) (c i) (d i) 1) 0) (overC c d 3)) := fun i hi => by
    have := HO.out 3 (by decide)
    show 0 ≤ min (max (blendN (c 3) (d 3) (c i) (d i) 1) 0) (overC c d 3) ∧ min (max (blendN (c 3) (d 3) (c i) (d i) 1) 0) (overC c d 3) ≤ 255
    omega
  refine (join_blend c d (fun i => min (max (blendN (c 3) (d 3) (c i) (d i) 1) 0) (overC c d 3)) _ _ w7 HC.out HQ.out HN.out (fun k W hk hW => blend1_1 (c 3) (d 3) (overC c d 3) (c k) (d k) _ w5.heap.size (w5.heap.size + 1) _ _ W (HC.out 3 (by decide)) (HQ.out 3 (by decide)) (HC.out k hk) (HQ.out k hk) (S7.out.2.2.1.grow hW) (S7.out.2.2.2.1.grow hW) (S7.out.2.2.2.2.1.grow hW) (S7.out.2.2.2.2.2.grow hW) rfl)).mono ?_
  rintro e w8 ⟨rfl, hb⟩
  have P8 := Lib.hid (S7.out.1.grow hb)
  have X8 := Lib.hid (S7.out.2.1.grow hb)
  clear hb S7
  go_upto_region 11 with fail
  obtain ⟨w9, hw9⟩ : ∃ WW, w8.alloc (.cells #[.int .u8 (min (max (blendN (c 3) (d 3) (c 0) (d 0) 1) 0) (overC c d 3)), .int .u8 (min (max (blendN (c 3) (d 3) (c 1) (d 1) 1) 0) (overC c d 3)), .int .u8 (min (max (blendN (c 3) (d 3) (c 2) (d 2) 1) 0) (overC c d 3)), .int .u8 (min (max (blendN (c 3) (d 3) (c 3) (d 3) 1) 0) (overC c d 3))] 28) = WW := ⟨_, rfl⟩
  have P9 : Hid (PB w c d w9 ∧ Blk w9 w4.heap.size 28 (c8 (overC c d)) ∧ Blk w9 w8.heap.size 28 (c8 fun i => min (max (blendN (c 3) (d 3) (c i) (d i) 1) 0) (overC c d 3)) ∧ w4.heap.size < w8.heap.size ∧ w.heap.size + 1 + 1 < w8.heap.size) := by
    rw [← hw9]
    exact ⟨P8.out.alloc _, X8.out.alloc _, Blk.new _ _ _, X8.out.lt, P8.out.2.2.2.lt⟩
  rw [hw9]
  clear hw9 P8 X8
  generalize w8.heap.size = g8 at *
  obtain ⟨x0, x1, x2, x3⟩ := P9.out.2.1.c0
  obtain ⟨y0, y1, y2, y3⟩ := P9.out.2.2.1.c0
  have f3 := P9.out.2.2.1.free 3
  have lg := P9.out.2.2.1.lt
  clear x0 x1 x2
  go_upto_region 12 with fail
  obtain ⟨w10, hw10⟩ : ∃ WW, w9.setCell ⟨g8, 3, none⟩ (.int .u8 (overC c d 3)) = WW := ⟨_, rfl⟩
  have P10 : Hid (PB w c d w10 ∧ Blk w10 g8 28 (c8 (blendC c d 1))) := by
    rw [← hw10]
    have h1 := P9.out.2.2.2.2
    have h2 := P9.out.1
    refine ⟨⟨h2.1.setCell (by simp; omega) _, h2.2.1.other _ _ (by simp; omega), h2.2.2.1.other _ _ (by simp; omega), h2.2.2.2.other _ _ (by simp; omega)⟩, ?_⟩
    have h3 := P9.out.2.2.1.set 3 (.int .u8 (overC c d 3))
    rw [four_set _ (by decide)] at h3
    have h4 : (four fun i => if i = 3 then Value.int .u8 (overC c d 3) else .int .u8 (min (max (blendN (c 3) (d 3) (c i) (d i) 1) 0) (overC c d 3))) = c8 (blendC c d 1) := by
      refine four_congr fun i hi => ?_
      by_cases e : i = 3
      · rw [if_pos e, e, blend_3]
      · rw [if_neg e, blend_lt (by decide) (by omega)]
    rw [← h4]
    exact h3
  rw [hw10]
  clear hw10 P9 x3 y0 y1 y2 y3 f3 lg
  have P11 := Lib.hid P10.out.1
  obtain ⟨y0, y1, y2, y3⟩ := P10.out.2.c0
  obtain ⟨z0, z1, z2, z3⟩ := P11.out.2.2.2.c0
  have f0 := P11.out.2.2.2.free 0
  have f1 := P11.out.2.2.2.free 1
  have f2 := P11.out.2.2.2.free 2
  have f3 := P11.out.2.2.2.free 3
  have lg := P11.out.2.2.2.lt
  go_wp2_with fail
  exact bodyPost_ret (results_blend rfl rfl rfl (P11.out.2.2.2.set4 fun i => .int .u8 (blendC c d 1 i))) rfl ⟨rfl, below_four4 P11.out.1 (by omega) _ _ _ _⟩
set_option maxHeartbeats 2000000 in
set_option maxRecDepth 100000 in
theorem pBlend_2 (c d : Col) (hc : OkC c) (hd : OkC d) (hrc : rightC c = true) (hrd : rightC d = true) (w : World) : Calls Try.prog 42 #[.agg #[.int .u8 (c 0), .int .u8 (c 1), .int .u8 (c 2), .int .u8 (c 3)], .agg #[.int .u8 (d 0), .int .u8 (d 1), .int .u8 (d 2), .int .u8 (d 3)], .int .i64 2] w fun e w' => e = .returned (.tuple #[.agg #[.int .u8 (blendC c d 2 0), .int .u8 (blendC c d 2 1), .int .u8 (blendC c d 2 2), .int .u8 (blendC c d 2 3)], .int .i64 0]) ∧ Below w.heap.size w w' := by
  have HRC : Hid (∀ w, Calls Try.prog 16 #[.agg #[.int .u8 (c 0), .int .u8 (c 1), .int .u8 (c 2), .int .u8 (c 3)]] w fun e w' => e = .returned (.bool true) ∧ Below w.heap.size w w') := fun w => by
    have := pRight_c c w
    rw [hrc] at this
    exact this
  have HRD : Hid (∀ w, Calls Try.prog 16 #[.agg #[.int .u8 (d 0), .int .u8 (d 1), .int .u8 (d 2), .int .u8 (d 3)]] w fun e w' => e = .returned (.bool true) ∧ Below w.heap.size w w') := fun w => by
    have := pRight_c d w
    rw [hrd] at this
    exact this
  have HOV := Lib.hid (fun w => pOver_c c d w hc hd)
  have HC := Lib.hid hc
  have HQ := Lib.hid hd
  have HO := Lib.hid (over_ok hc hd)
  have SF : ∀ (a : Addr) (m : Mode) (f : Fn) (x y : Array Value) (w : World), (store a (.func f x y) m).run Try.prog w = stored Try.prog w a (.func f x y) m := fun a m f x y w => run_store _ w a _ m rfl
  have e1 := u8_i64 (hc 3 (by decide)).1 (hc 3 (by decide)).2
  have e2 := u8_i64 (hd 3 (by decide)).1 (hd 3 (by decide)).2
  have e3 := u8_i64 (HO.out 3 (by decide)).1 (HO.out 3 (by decide)).2
  clear hc hd hrc hrd
  go_enter Try.func42, Try.ntmps42
  go_wp2_with fail
  obtain ⟨w1, hw1⟩ : ∃ WW, ((w.alloc (.cells #[.int .u8 (c 0), .int .u8 (c 1), .int .u8 (c 2), .int .u8 (c 3)] 28)).alloc (.cells #[.int .u8 (d 0), .int .u8 (d 1), .int .u8 (d 2), .int .u8 (d 3)] 28)).alloc (.cells #[.int .u8 0, .int .u8 0, .int .u8 0, .int .u8 0] 28) = WW := ⟨_, rfl⟩
  have P1 : Hid (PB w c d w1) := by
    rw [← hw1]
    exact PB.start w c d
  rw [hw1]
  clear hw1
  refine (HRC.out w1).mono ?_
  rintro e w2 ⟨rfl, hb⟩
  have P2 := Lib.hid (P1.out.grow hb)
  clear hb
  obtain ⟨d0, d1, d2, d3⟩ := P2.out.2.2.1.c0
  go_wp2_with fail
  refine (HRD.out w2).mono ?_
  rintro e w3 ⟨rfl, hb⟩
  have P3 := Lib.hid (P2.out.grow hb)
  clear hb d0 d1 d2 d3
  obtain ⟨a0, a1, a2, a3⟩ := P3.out.2.1.c0
  obtain ⟨d0, d1, d2, d3⟩ := P3.out.2.2.1.c0
  go_wp2_with fail
  refine (HOV.out w3).mono ?_
  rintro e w4 ⟨rfl, hb⟩
  have P4 := Lib.hid (P3.out.grow hb)
  clear hb a0 a1 a2 a3 d0 d1 d2 d3
  go_upto_if 32 with fail
  obtain ⟨w5, hw5⟩ : ∃ WW, w4.alloc (.cells #[.int .u8 (overC c d 0), .int .u8 (overC c d 1), .int .u8 (overC c d 2), .int .u8 (overC c d 3)] 28) = WW := ⟨_, rfl⟩
  have P5 : Hid (PB w c d w5) := by
    rw [← hw5]
    exact P4.out.alloc _
  have X5 : Hid (Blk w5 w4.heap.size 28 (c8 (overC c d))) := by
    rw [← hw5]
    exact Blk.new _ _ _
  rw [hw5]
  clear hw5
  obtain ⟨a0, a1, a2, a3⟩ := P5.out.2.1.c0
  obtain ⟨d0, d1, d2, d3⟩ := P5.out.2.2.1.c0
  clear a0 a1 a2 d0 d1 d2
  go_wp2_with fail
  refine (blender2_c _ _ _).mono ?_
  rintro e w6 ⟨rfl, hb, KA, KB⟩
  have P6 := Lib.hid (P5.out.grow hb)
  have X6 := Lib.hid (X5.out.grow hb)
  have KA6 := Lib.hid KA
  have KB6 := Lib.hid KB
  clear hb KA KB a3 d3 X5 P5
  obtain ⟨a0, a1, a2, a3⟩ := P6.out.2.1.c0
  obtain ⟨d0, d1, d2, d3⟩ := P6.out.2.2.1.c0
  go_upto_region 9 with fail
  obtain ⟨wf, hwf⟩ : ∃ WW, w6.alloc (.cells #[.func (.func 71) #[] #[]] 93) = WW := ⟨_, rfl⟩
  have SF6 : Hid (PB w c d wf ∧ Blk wf w4.heap.size 28 (c8 (overC c d)) ∧ Blk wf w5.heap.size 3 #[.int .i64 (c 3)] ∧ Blk wf (w5.heap.size + 1) 3 #[.int .i64 (d 3)] ∧ Blk wf w6.heap.size 93 #[.func (.func 71) #[] #[]]) := by
    rw [← hwf]
    exact ⟨P6.out.alloc _, X6.out.alloc _, KA6.out.alloc _, KB6.out.alloc _, Blk.new _ _ _⟩
  rw [hwf]
  clear hwf P6 X6 KA6 KB6 a0 a1 a2 a3 d0 d1 d2 d3
  obtain ⟨x0, x1, x2, x3⟩ := SF6.out.2.1.c0
  clear x0 x1 x2
  go_upto_region 10 with fail
  obtain ⟨w7, hw7⟩ : ∃ WW, wf.alloc (.cells #[.int .i64 (overC c d 3)] 3) = WW := ⟨_, rfl⟩
  have S7 : Hid (PB w c d w7 ∧ Blk w7 w4.heap.size 28 (c8 (overC c d)) ∧ Blk w7 w5.heap.size 3 #[.int .i64 (c 3)] ∧ Blk w7 (w5.heap.size + 1) 3 #[.int .i64 (d 3)] ∧ Blk w7 w6.heap.size 93 #[.func (.func 71) #[] #[]] ∧ Blk w7 wf.heap.size 3 #[.int .i64 (overC c d 3)]) := by
    rw [← hw7]
    exact ⟨SF6.out.1.alloc _, SF6.out.2.1.alloc _, SF6.out.2.2.1.alloc _, SF6.out.2.2.2.1.alloc _, SF6.out.2.2.2.2.alloc _, Blk.new _ _ _⟩
  rw [hw7]
  clear hw7 SF6 x3
  obtain ⟨a0, a1, a2, a3⟩ := S7.out.1.2.1.c0
  obtain ⟨d0, d1, d2, d3⟩ := S7.out.1.2.2.1.c0
  go_wp2_with fail
  clear a0 a1 a2 a3 d0 d1 d2 d3
  have HN : Hid (OkC fun i => min (max (blendN (c 3) (d 3) (c i) (d i) 2) 0) (overC c d 3)) := fun i hi => by
    have := HO.out 3 (by decide)
    show 0 ≤ min (max (blendN (c 3) (d 3) (c i) (d i) 2) 0) (overC c d 3) ∧ min (max (blendN (c 3) (d 3) (c i) (d i) 2) 0) (overC c d 3) ≤ 255
    omega
  refine (join_blend c d (fun i => min (max (blendN (c 3) (d 3) (c i) (d i) 2) 0) (overC c d 3)) _ _ w7 HC.out HQ.out HN.out (fun k W hk hW => blend1_2 (c 3) (d 3) (overC c d 3) (c k) (d k) _ w5.heap.size (w5.heap.size + 1) _ _ W (HC.out 3 (by decide)) (HQ.out 3 (by decide)) (HC.out k hk) (HQ.out k hk) (S7.out.2.2.1.grow hW) (S7.out.2.2.2.1.grow hW) (S7.out.2.2.2.2.1.grow hW) (S7.out.2.2.2.2.2.grow hW) rfl)).mono ?_
  rintro e w8 ⟨rfl, hb⟩
  have P8 := Lib.hid (S7.out.1.grow hb)
  have X8 := Lib.hid (S7.out.2.1.grow hb)
  clear hb S7
  go_upto_region 11 with fail
  obtain ⟨w9, hw9⟩ : ∃ WW, w8.alloc (.cells #[.int .u8 (min (max (blendN (c 3) (d 3) (c 0) (d 0) 2) 0) (overC c d 3)), .int .u8 (min (max (blendN (c 3) (d 3) (c 1) (d 1) 2) 0) (overC c d 3)), .int .u8 (min (max (blendN (c 3) (d 3) (c 2) (d 2) 2) 0) (overC c d 3)), .int .u8 (min (max (blendN (c 3) (d 3) (c 3) (d 3) 2) 0) (overC c d 3))] 28) = WW := ⟨_, rfl⟩
  have P9 : Hid (PB w c d w9 ∧ Blk w9 w4.heap.size 28 (c8 (overC c d)) ∧ Blk w9 w8.heap.size 28 (c8 fun i => min (max (blendN (c 3) (d 3) (c i) (d i) 2) 0) (overC c d 3)) ∧ w4.heap.size < w8.heap.size ∧ w.heap.size + 1 + 1 < w8.heap.size) := by
    rw [← hw9]
    exact ⟨P8.out.alloc _, X8.out.alloc _, Blk.new _ _ _, X8.out.lt, P8.out.2.2.2.lt⟩
  rw [hw9]
  clear hw9 P8 X8
  generalize w8.heap.size = g8 at *
  obtain ⟨x0, x1, x2, x3⟩ := P9.out.2.1.c0
  obtain ⟨y0, y1, y2, y3⟩ := P9.out.2.2.1.c0
  have f3 := P9.out.2.2.1.free 3
  have lg := P9.out.2.2.1.lt
  clear x0 x1 x2
  go_upto_region 12 with fail
  obtain ⟨w10, hw10⟩ : ∃ WW, w9.setCell ⟨g8, 3, none⟩ (.int .u8 (overC c d 3)) = WW := ⟨_, rfl⟩
  have P10 : Hid (PB w c d w10 ∧ Blk w10 g8 28 (c8 (blendC c d 2))) := by
    rw [← hw10]
    have h1 := P9.out.2.2.2.2
    have h2 := P9.out.1
    refine ⟨⟨h2.1.setCell (by simp; omega) _, h2.2.1.other _ _ (by simp; omega), h2.2.2.1.other _ _ (by simp; omega), h2.2.2.2.other _ _ (by simp; omega)⟩, ?_⟩
    have h3 := P9.out.2.2.1.set 3 (.int .u8 (overC c d 3))
    rw [four_set _ (by decide)] at h3
    have h4 : (four fun i => if i = 3 then Value.int .u8 (overC c d 3) else .int .u8 (min (max (blendN (c 3) (d 3) (c i) (d i) 2) 0) (overC c d 3))) = c8 (blendC c d 2) := by
      refine four_congr fun i hi => ?_
      by_cases e : i = 3
      · rw [if_pos e, e, blend_3]
      · rw [if_neg e, blend_lt (by decide) (by omega)]
    rw [← h4]
    exact h3
  rw [hw10]
  clear hw10 P9 x3 y0 y1 y2 y3 f3 lg
  have P11 := Lib.hid P10.out.1
  obtain ⟨y0, y1, y2, y3⟩ := P10.out.2.c0
  obtain ⟨z0, z1, z2, z3⟩ := P11.out.2.2.2.c0
  have f0 := P11.out.2.2.2.free 0
  have f1 := P11.out.2.2.2.free 1
  have f2 := P11.out.2.2.2.free 2
  have f3 := P11.out.2.2.2.free 3
  have lg := P11.out.2.2.2.lt
  go_wp2_with fail
  exact bodyPost_ret (results_blend rfl rfl rfl (P11.out.2.2.2.set4 fun i => .int .u8 (blendC c d 2 i))) rfl ⟨rfl, below_four4 P11.out.1 (by omega) _ _ _ _⟩
set_option maxHeartbeats 2000000 in
set_option maxRecDepth 100000 in
theorem pBlend_3 (c d : Col) (hc : OkC c) (hd : OkC d) (hrc : rightC c = true) (hrd : rightC d = true) (w : World) : Calls Try.prog 42 #[.agg #[.int .u8 (c 0), .int .u8 (c 1), .int .u8 (c 2), .int .u8 (c 3)], .agg #[.int .u8 (d 0), .int .u8 (d 1), .int .u8 (d 2), .int .u8 (d 3)], .int .i64 3] w fun e w' => e = .returned (.tuple #[.agg #[.int .u8 (blendC c d 3 0), .int .u8 (blendC c d 3 1), .int .u8 (blendC c d 3 2), .int .u8 (blendC c d 3 3)], .int .i64 0]) ∧ Below w.heap.size w w' := by
  have HRC : Hid (∀ w, Calls Try.prog 16 #[.agg #[.int .u8 (c 0), .int .u8 (c 1), .int .u8 (c 2), .int .u8 (c 3)]] w fun e w' => e = .returned (.bool true) ∧ Below w.heap.size w w') := fun w => by
    have := pRight_c c w
    rw [hrc] at this
    exact this
  have HRD : Hid (∀ w, Calls Try.prog 16 #[.agg #[.int .u8 (d 0), .int .u8 (d 1), .int .u8 (d 2), .int .u8 (d 3)]] w fun e w' => e = .returned (.bool true) ∧ Below w.heap.size w w') := fun w => by
    have := pRight_c d w
    rw [hrd] at this
    exact this
  have HOV := Lib.hid (fun w => pOver_c c d w hc hd)
  have HC := Lib.hid hc
  have HQ := Lib.hid hd
  have HO := Lib.hid (over_ok hc hd)
  have SF : ∀ (a : Addr) (m : Mode) (f : Fn) (x y : Array Value) (w : World), (store a (.func f x y) m).run Try.prog w = stored Try.prog w a (.func f x y) m := fun a m f x y w => run_store _ w a _ m rfl
  have e1 := u8_i64 (hc 3 (by decide)).1 (hc 3 (by decide)).2
  have e2 := u8_i64 (hd 3 (by decide)).1 (hd 3 (by decide)).2
  have e3 := u8_i64 (HO.out 3 (by decide)).1 (HO.out 3 (by decide)).2
  clear hc hd hrc hrd
  go_enter Try.func42, Try.ntmps42
  go_wp2_with fail
  obtain ⟨w1, hw1⟩ : ∃ WW, ((w.alloc (.cells #[.int .u8 (c 0), .int .u8 (c 1), .int .u8 (c 2), .int .u8 (c 3)] 28)).alloc (.cells #[.int .u8 (d 0), .int .u8 (d 1), .int .u8 (d 2), .int .u8 (d 3)] 28)).alloc (.cells #[.int .u8 0, .int .u8 0, .int .u8 0, .int .u8 0] 28) = WW := ⟨_, rfl⟩
  have P1 : Hid (PB w c d w1) := by
    rw [← hw1]
    exact PB.start w c d
  rw [hw1]
  clear hw1
  refine (HRC.out w1).mono ?_
  rintro e w2 ⟨rfl, hb⟩
  have P2 := Lib.hid (P1.out.grow hb)
  clear hb
  obtain ⟨d0, d1, d2, d3⟩ := P2.out.2.2.1.c0
  go_wp2_with fail
  refine (HRD.out w2).mono ?_
  rintro e w3 ⟨rfl, hb⟩
  have P3 := Lib.hid (P2.out.grow hb)
  clear hb d0 d1 d2 d3
  obtain ⟨a0, a1, a2, a3⟩ := P3.out.2.1.c0
  obtain ⟨d0, d1, d2, d3⟩ := P3.out.2.2.1.c0
  go_wp2_with fail
  refine (HOV.out w3).mono ?_
  rintro e w4 ⟨rfl, hb⟩
  have P4 := Lib.hid (P3.out.grow hb)
  clear hb a0 a1 a2 a3 d0 d1 d2 d3
  go_upto_if 32 with fail
  obtain ⟨w5, hw5⟩ : ∃ WW, w4.alloc (.cells #[.int .u8 (overC c d 0), .int .u8 (overC c d 1), .int .u8 (overC c d 2), .int .u8 (overC c d 3)] 28) = WW := ⟨_, rfl⟩
  have P5 : Hid (PB w c d w5) := by
    rw [← hw5]
    exact P4.out.alloc _
  have X5 : Hid (Blk w5 w4.heap.size 28 (c8 (overC c d))) := by
    rw [← hw5]
    exact Blk.new _ _ _
  rw [hw5]
  clear hw5
  obtain ⟨a0, a1, a2, a3⟩ := P5.out.2.1.c0
  obtain ⟨d0, d1, d2, d3⟩ := P5.out.2.2.1.c0
  clear a0 a1 a2 d0 d1 d2
  go_wp2_with fail
  refine (blender3_c _ _ _).mono ?_
  rintro e w6 ⟨rfl, hb, KA, KB⟩
  have P6 := Lib.hid (P5.out.grow hb)
  have X6 := Lib.hid (X5.out.grow hb)
  have KA6 := Lib.hid KA
  have KB6 := Lib.hid KB
  clear hb KA KB a3 d3 X5 P5
  obtain ⟨a0, a1, a2, a3⟩ := P6.out.2.1.c0
  obtain ⟨d0, d1, d2, d3⟩ := P6.out.2.2.1.c0
  go_upto_region 9 with fail
  obtain ⟨wf, hwf⟩ : ∃ WW, w6.alloc (.cells #[.func (.func 72) #[] #[.pointer (some ⟨w5.heap.size + 1, 0, none⟩), .pointer (some ⟨w5.heap.size, 0, none⟩)]] 93) = WW := ⟨_, rfl⟩
  have SF6 : Hid (PB w c d wf ∧ Blk wf w4.heap.size 28 (c8 (overC c d)) ∧ Blk wf w5.heap.size 3 #[.int .i64 (c 3)] ∧ Blk wf (w5.heap.size + 1) 3 #[.int .i64 (d 3)] ∧ Blk wf w6.heap.size 93 #[.func (.func 72) #[] #[.pointer (some ⟨w5.heap.size + 1, 0, none⟩), .pointer (some ⟨w5.heap.size, 0, none⟩)]]) := by
    rw [← hwf]
    exact ⟨P6.out.alloc _, X6.out.alloc _, KA6.out.alloc _, KB6.out.alloc _, Blk.new _ _ _⟩
  rw [hwf]
  clear hwf P6 X6 KA6 KB6 a0 a1 a2 a3 d0 d1 d2 d3
  obtain ⟨x0, x1, x2, x3⟩ := SF6.out.2.1.c0
  clear x0 x1 x2
  go_upto_region 10 with fail
  obtain ⟨w7, hw7⟩ : ∃ WW, wf.alloc (.cells #[.int .i64 (overC c d 3)] 3) = WW := ⟨_, rfl⟩
  have S7 : Hid (PB w c d w7 ∧ Blk w7 w4.heap.size 28 (c8 (overC c d)) ∧ Blk w7 w5.heap.size 3 #[.int .i64 (c 3)] ∧ Blk w7 (w5.heap.size + 1) 3 #[.int .i64 (d 3)] ∧ Blk w7 w6.heap.size 93 #[.func (.func 72) #[] #[.pointer (some ⟨w5.heap.size + 1, 0, none⟩), .pointer (some ⟨w5.heap.size, 0, none⟩)]] ∧ Blk w7 wf.heap.size 3 #[.int .i64 (overC c d 3)]) := by
    rw [← hw7]
    exact ⟨SF6.out.1.alloc _, SF6.out.2.1.alloc _, SF6.out.2.2.1.alloc _, SF6.out.2.2.2.1.alloc _, SF6.out.2.2.2.2.alloc _, Blk.new _ _ _⟩
  rw [hw7]
  clear hw7 SF6 x3
  obtain ⟨a0, a1, a2, a3⟩ := S7.out.1.2.1.c0
  obtain ⟨d0, d1, d2, d3⟩ := S7.out.1.2.2.1.c0
  go_wp2_with fail
  clear a0 a1 a2 a3 d0 d1 d2 d3
  have HN : Hid (OkC fun i => min (max (blendN (c 3) (d 3) (c i) (d i) 3) 0) (overC c d 3)) := fun i hi => by
    have := HO.out 3 (by decide)
    show 0 ≤ min (max (blendN (c 3) (d 3) (c i) (d i) 3) 0) (overC c d 3) ∧ min (max (blendN (c 3) (d 3) (c i) (d i) 3) 0) (overC c d 3) ≤ 255
    omega
  refine (join_blend c d (fun i => min (max (blendN (c 3) (d 3) (c i) (d i) 3) 0) (overC c d 3)) _ _ w7 HC.out HQ.out HN.out (fun k W hk hW => blend1_3 (c 3) (d 3) (overC c d 3) (c k) (d k) _ w5.heap.size (w5.heap.size + 1) _ _ W (HC.out 3 (by decide)) (HQ.out 3 (by decide)) (HC.out k hk) (HQ.out k hk) (S7.out.2.2.1.grow hW) (S7.out.2.2.2.1.grow hW) (S7.out.2.2.2.2.1.grow hW) (S7.out.2.2.2.2.2.grow hW) rfl)).mono ?_
  rintro e w8 ⟨rfl, hb⟩
  have P8 := Lib.hid (S7.out.1.grow hb)
  have X8 := Lib.hid (S7.out.2.1.grow hb)
  clear hb S7
  go_upto_region 11 with fail
  obtain ⟨w9, hw9⟩ : ∃ WW, w8.alloc (.cells #[.int .u8 (min (max (blendN (c 3) (d 3) (c 0) (d 0) 3) 0) (overC c d 3)), .int .u8 (min (max (blendN (c 3) (d 3) (c 1) (d 1) 3) 0) (overC c d 3)), .int .u8 (min (max (blendN (c 3) (d 3) (c 2) (d 2) 3) 0) (overC c d 3)), .int .u8 (min (max (blendN (c 3) (d 3) (c 3) (d 3) 3) 0) (overC c d 3))] 28) = WW := ⟨_, rfl⟩
  have P9 : Hid (PB w c d w9 ∧ Blk w9 w4.heap.size 28 (c8 (overC c d)) ∧ Blk w9 w8.heap.size 28 (c8 fun i => min (max (blendN (c 3) (d 3) (c i) (d i) 3) 0) (overC c d 3)) ∧ w4.heap.size < w8.heap.size ∧ w.heap.size + 1 + 1 < w8.heap.size) := by
    rw [← hw9]
    exact ⟨P8.out.alloc _, X8.out.alloc _, Blk.new _ _ _, X8.out.lt, P8.out.2.2.2.lt⟩
  rw [hw9]
  clear hw9 P8 X8
  generalize w8.heap.size = g8 at *
  obtain ⟨x0, x1, x2, x3⟩ := P9.out.2.1.c0
  obtain ⟨y0, y1, y2, y3⟩ := P9.out.2.2.1.c0
  have f3 := P9.out.2.2.1.free 3
  have lg := P9.out.2.2.1.lt
  clear x0 x1 x2
  go_upto_region 12 with fail
  obtain ⟨w10, hw10⟩ : ∃ WW, w9.setCell ⟨g8, 3, none⟩ (.int .u8 (overC c d 3)) = WW := ⟨_, rfl⟩
  have P10 : Hid (PB w c d w10 ∧ Blk w10 g8 28 (c8 (blendC c d 3))) := by
    rw [← hw10]
    have h1 := P9.out.2.2.2.2
    have h2 := P9.out.1
    refine ⟨⟨h2.1.setCell (by simp; omega) _, h2.2.1.other _ _ (by simp; omega), h2.2.2.1.other _ _ (by simp; omega), h2.2.2.2.other _ _ (by simp; omega)⟩, ?_⟩
    have h3 := P9.out.2.2.1.set 3 (.int .u8 (overC c d 3))
    rw [four_set _ (by decide)] at h3
    have h4 : (four fun i => if i = 3 then Value.int .u8 (overC c d 3) else .int .u8 (min (max (blendN (c 3) (d 3) (c i) (d i) 3) 0) (overC c d 3))) = c8 (blendC c d 3) := by
      refine four_congr fun i hi => ?_
      by_cases e : i = 3
      · rw [if_pos e, e, blend_3]
      · rw [if_neg e, blend_lt (by decide) (by omega)]
    rw [← h4]
    exact h3
  rw [hw10]
  clear hw10 P9 x3 y0 y1 y2 y3 f3 lg
  have P11 := Lib.hid P10.out.1
  obtain ⟨y0, y1, y2, y3⟩ := P10.out.2.c0
  obtain ⟨z0, z1, z2, z3⟩ := P11.out.2.2.2.c0
  have f0 := P11.out.2.2.2.free 0
  have f1 := P11.out.2.2.2.free 1
  have f2 := P11.out.2.2.2.free 2
  have f3 := P11.out.2.2.2.free 3
  have lg := P11.out.2.2.2.lt
  go_wp2_with fail
  exact bodyPost_ret (results_blend rfl rfl rfl (P11.out.2.2.2.set4 fun i => .int .u8 (blendC c d 3 i))) rfl ⟨rfl, below_four4 P11.out.1 (by omega) _ _ _ _⟩
set_option maxHeartbeats 2000000 in
set_option maxRecDepth 100000 in
theorem pBlend_4 (c d : Col) (hc : OkC c) (hd : OkC d) (hrc : rightC c = true) (hrd : rightC d = true) (w : World) : Calls Try.prog 42 #[.agg #[.int .u8 (c 0), .int .u8 (c 1), .int .u8 (c 2), .int .u8 (c 3)], .agg #[.int .u8 (d 0), .int .u8 (d 1), .int .u8 (d 2), .int .u8 (d 3)], .int .i64 4] w fun e w' => e = .returned (.tuple #[.agg #[.int .u8 (blendC c d 4 0), .int .u8 (blendC c d 4 1), .int .u8 (blendC c d 4 2), .int .u8 (blendC c d 4 3)], .int .i64 0]) ∧ Below w.heap.size w w' := by
  have HRC : Hid (∀ w, Calls Try.prog 16 #[.agg #[.int .u8 (c 0), .int .u8 (c 1), .int .u8 (c 2), .int .u8 (c 3)]] w fun e w' => e = .returned (.bool true) ∧ Below w.heap.size w w') := fun w => by
    have := pRight_c c w
    rw [hrc] at this
    exact this
  have HRD : Hid (∀ w, Calls Try.prog 16 #[.agg #[.int .u8 (d 0), .int .u8 (d 1), .int .u8 (d 2), .int .u8 (d 3)]] w fun e w' => e = .returned (.bool true) ∧ Below w.heap.size w w') := fun w => by
    have := pRight_c d w
    rw [hrd] at this
    exact this
  have HOV := Lib.hid (fun w => pOver_c c d w hc hd)
  have HC := Lib.hid hc
  have HQ := Lib.hid hd
  have HO := Lib.hid (over_ok hc hd)
  have SF : ∀ (a : Addr) (m : Mode) (f : Fn) (x y : Array Value) (w : World), (store a (.func f x y) m).run Try.prog w = stored Try.prog w a (.func f x y) m := fun a m f x y w => run_store _ w a _ m rfl
  have e1 := u8_i64 (hc 3 (by decide)).1 (hc 3 (by decide)).2
  have e2 := u8_i64 (hd 3 (by decide)).1 (hd 3 (by decide)).2
  have e3 := u8_i64 (HO.out 3 (by decide)).1 (HO.out 3 (by decide)).2
  clear hc hd hrc hrd
  go_enter Try.func42, Try.ntmps42
  go_wp2_with fail
  obtain ⟨w1, hw1⟩ : ∃ WW, ((w.alloc (.cells #[.int .u8 (c 0), .int .u8 (c 1), .int .u8 (c 2), .int .u8 (c 3)] 28)).alloc (.cells #[.int .u8 (d 0), .int .u8 (d 1), .int .u8 (d 2), .int .u8 (d 3)] 28)).alloc (.cells #[.int .u8 0, .int .u8 0, .int .u8 0, .int .u8 0] 28) = WW := ⟨_, rfl⟩
  have P1 : Hid (PB w c d w1) := by
    rw [← hw1]
    exact PB.start w c d
  rw [hw1]
  clear hw1
  refine (HRC.out w1).mono ?_
  rintro e w2 ⟨rfl, hb⟩
  have P2 := Lib.hid (P1.out.grow hb)
  clear hb
  obtain ⟨d0, d1, d2, d3⟩ := P2.out.2.2.1.c0
  go_wp2_with fail
  refine (HRD.out w2).mono ?_
  rintro e w3 ⟨rfl, hb⟩
  have P3 := Lib.hid (P2.out.grow hb)
  clear hb d0 d1 d2 d3
  obtain ⟨a0, a1, a2, a3⟩ := P3.out.2.1.c0
  obtain ⟨d0, d1, d2, d3⟩ := P3.out.2.2.1.c0
  go_wp2_with fail
  refine (HOV.out w3).mono ?_
  rintro e w4 ⟨rfl, hb⟩
  have P4 := Lib.hid (P3.out.grow hb)
  clear hb a0 a1 a2 a3 d0 d1 d2 d3
  go_upto_if 32 with fail
  obtain ⟨w5, hw5⟩ : ∃ WW, w4.alloc (.cells #[.int .u8 (overC c d 0), .int .u8 (overC c d 1), .int .u8 (overC c d 2), .int .u8 (overC c d 3)] 28) = WW := ⟨_, rfl⟩
  have P5 : Hid (PB w c d w5) := by
    rw [← hw5]
    exact P4.out.alloc _
  have X5 : Hid (Blk w5 w4.heap.size 28 (c8 (overC c d))) := by
    rw [← hw5]
    exact Blk.new _ _ _
  rw [hw5]
  clear hw5
  obtain ⟨a0, a1, a2, a3⟩ := P5.out.2.1.c0
  obtain ⟨d0, d1, d2, d3⟩ := P5.out.2.2.1.c0
  clear a0 a1 a2 d0 d1 d2
  go_wp2_with fail
  refine (blender4_c _ _ _).mono ?_
  rintro e w6 ⟨rfl, hb, KA, KB⟩
  have P6 := Lib.hid (P5.out.grow hb)
  have X6 := Lib.hid (X5.out.grow hb)
  have KA6 := Lib.hid KA
  have KB6 := Lib.hid KB
  clear hb KA KB a3 d3 X5 P5
  obtain ⟨a0, a1, a2, a3⟩ := P6.out.2.1.c0
  obtain ⟨d0, d1, d2, d3⟩ := P6.out.2.2.1.c0
  go_upto_region 9 with fail
  obtain ⟨wf, hwf⟩ : ∃ WW, w6.alloc (.cells #[.func (.func 73) #[] #[.pointer (some ⟨w5.heap.size + 1, 0, none⟩), .pointer (some ⟨w5.heap.size, 0, none⟩)]] 93) = WW := ⟨_, rfl⟩
  have SF6 : Hid (PB w c d wf ∧ Blk wf w4.heap.size 28 (c8 (overC c d)) ∧ Blk wf w5.heap.size 3 #[.int .i64 (c 3)] ∧ Blk wf (w5.heap.size + 1) 3 #[.int .i64 (d 3)] ∧ Blk wf w6.heap.size 93 #[.func (.func 73) #[] #[.pointer (some ⟨w5.heap.size + 1, 0, none⟩), .pointer (some ⟨w5.heap.size, 0, none⟩)]]) := by
    rw [← hwf]
    exact ⟨P6.out.alloc _, X6.out.alloc _, KA6.out.alloc _, KB6.out.alloc _, Blk.new _ _ _⟩
  rw [hwf]
  clear hwf P6 X6 KA6 KB6 a0 a1 a2 a3 d0 d1 d2 d3
  obtain ⟨x0, x1, x2, x3⟩ := SF6.out.2.1.c0
  clear x0 x1 x2
  go_upto_region 10 with fail
  obtain ⟨w7, hw7⟩ : ∃ WW, wf.alloc (.cells #[.int .i64 (overC c d 3)] 3) = WW := ⟨_, rfl⟩
  have S7 : Hid (PB w c d w7 ∧ Blk w7 w4.heap.size 28 (c8 (overC c d)) ∧ Blk w7 w5.heap.size 3 #[.int .i64 (c 3)] ∧ Blk w7 (w5.heap.size + 1) 3 #[.int .i64 (d 3)] ∧ Blk w7 w6.heap.size 93 #[.func (.func 73) #[] #[.pointer (some ⟨w5.heap.size + 1, 0, none⟩), .pointer (some ⟨w5.heap.size, 0, none⟩)]] ∧ Blk w7 wf.heap.size 3 #[.int .i64 (overC c d 3)]) := by
    rw [← hw7]
    exact ⟨SF6.out.1.alloc _, SF6.out.2.1.alloc _, SF6.out.2.2.1.alloc _, SF6.out.2.2.2.1.alloc _, SF6.out.2.2.2.2.alloc _, Blk.new _ _ _⟩
  rw [hw7]
  clear hw7 SF6 x3
  obtain ⟨a0, a1, a2, a3⟩ := S7.out.1.2.1.c0
  obtain ⟨d0, d1, d2, d3⟩ := S7.out.1.2.2.1.c0
  go_wp2_with fail
  clear a0 a1 a2 a3 d0 d1 d2 d3
  have HN : Hid (OkC fun i => min (max (blendN (c 3) (d 3) (c i) (d i) 4) 0) (overC c d 3)) := fun i hi => by
    have := HO.out 3 (by decide)
    show 0 ≤ min (max (blendN (c 3) (d 3) (c i) (d i) 4) 0) (overC c d 3) ∧ min (max (blendN (c 3) (d 3) (c i) (d i) 4) 0) (overC c d 3) ≤ 255
    omega
  refine (join_blend c d (fun i => min (max (blendN (c 3) (d 3) (c i) (d i) 4) 0) (overC c d 3)) _ _ w7 HC.out HQ.out HN.out (fun k W hk hW => blend1_4 (c 3) (d 3) (overC c d 3) (c k) (d k) _ w5.heap.size (w5.heap.size + 1) _ _ W (HC.out 3 (by decide)) (HQ.out 3 (by decide)) (HC.out k hk) (HQ.out k hk) (S7.out.2.2.1.grow hW) (S7.out.2.2.2.1.grow hW) (S7.out.2.2.2.2.1.grow hW) (S7.out.2.2.2.2.2.grow hW) rfl)).mono ?_
  rintro e w8 ⟨rfl, hb⟩
  have P8 := Lib.hid (S7.out.1.grow hb)
  have X8 := Lib.hid (S7.out.2.1.grow hb)
  clear hb S7
  go_upto_region 11 with fail
  obtain ⟨w9, hw9⟩ : ∃ WW, w8.alloc (.cells #[.int .u8 (min (max (blendN (c 3) (d 3) (c 0) (d 0) 4) 0) (overC c d 3)), .int .u8 (min (max (blendN (c 3) (d 3) (c 1) (d 1) 4) 0) (overC c d 3)), .int .u8 (min (max (blendN (c 3) (d 3) (c 2) (d 2) 4) 0) (overC c d 3)), .int .u8 (min (max (blendN (c 3) (d 3) (c 3) (d 3) 4) 0) (overC c d 3))] 28) = WW := ⟨_, rfl⟩
  have P9 : Hid (PB w c d w9 ∧ Blk w9 w4.heap.size 28 (c8 (overC c d)) ∧ Blk w9 w8.heap.size 28 (c8 fun i => min (max (blendN (c 3) (d 3) (c i) (d i) 4) 0) (overC c d 3)) ∧ w4.heap.size < w8.heap.size ∧ w.heap.size + 1 + 1 < w8.heap.size) := by
    rw [← hw9]
    exact ⟨P8.out.alloc _, X8.out.alloc _, Blk.new _ _ _, X8.out.lt, P8.out.2.2.2.lt⟩
  rw [hw9]
  clear hw9 P8 X8
  generalize w8.heap.size = g8 at *
  obtain ⟨x0, x1, x2, x3⟩ := P9.out.2.1.c0
  obtain ⟨y0, y1, y2, y3⟩ := P9.out.2.2.1.c0
  have f3 := P9.out.2.2.1.free 3
  have lg := P9.out.2.2.1.lt
  clear x0 x1 x2
  go_upto_region 12 with fail
  obtain ⟨w10, hw10⟩ : ∃ WW, w9.setCell ⟨g8, 3, none⟩ (.int .u8 (overC c d 3)) = WW := ⟨_, rfl⟩
  have P10 : Hid (PB w c d w10 ∧ Blk w10 g8 28 (c8 (blendC c d 4))) := by
    rw [← hw10]
    have h1 := P9.out.2.2.2.2
    have h2 := P9.out.1
    refine ⟨⟨h2.1.setCell (by simp; omega) _, h2.2.1.other _ _ (by simp; omega), h2.2.2.1.other _ _ (by simp; omega), h2.2.2.2.other _ _ (by simp; omega)⟩, ?_⟩
    have h3 := P9.out.2.2.1.set 3 (.int .u8 (overC c d 3))
    rw [four_set _ (by decide)] at h3
    have h4 : (four fun i => if i = 3 then Value.int .u8 (overC c d 3) else .int .u8 (min (max (blendN (c 3) (d 3) (c i) (d i) 4) 0) (overC c d 3))) = c8 (blendC c d 4) := by
      refine four_congr fun i hi => ?_
      by_cases e : i = 3
      · rw [if_pos e, e, blend_3]
      · rw [if_neg e, blend_lt (by decide) (by omega)]
    rw [← h4]
    exact h3
  rw [hw10]
  clear hw10 P9 x3 y0 y1 y2 y3 f3 lg
  have P11 := Lib.hid P10.out.1
  obtain ⟨y0, y1, y2, y3⟩ := P10.out.2.c0
  obtain ⟨z0, z1, z2, z3⟩ := P11.out.2.2.2.c0
  have f0 := P11.out.2.2.2.free 0
  have f1 := P11.out.2.2.2.free 1
  have f2 := P11.out.2.2.2.free 2
  have f3 := P11.out.2.2.2.free 3
  have lg := P11.out.2.2.2.lt
  go_wp2_with fail
  exact bodyPost_ret (results_blend rfl rfl rfl (P11.out.2.2.2.set4 fun i => .int .u8 (blendC c d 4 i))) rfl ⟨rfl, below_four4 P11.out.1 (by omega) _ _ _ _⟩
end Go.Proofs.Ytoppmlfibllhlaa

