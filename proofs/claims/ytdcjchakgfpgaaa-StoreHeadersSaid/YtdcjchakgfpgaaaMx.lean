/- Layer 14: the law StoreTears. -/
import Derived.Test.YtdcjchakgfpgaaaMw
import Derived.Lib.MinMax
namespace Go.Proofs.Ytdcjchakgfpgaaa
open Go.RowKit
theorem RowB.len {w : World} {ao : Option Addr} {k c : Nat} {Y : List Int} (h : RowB w (.slice ao k c) Y) (_hk : Y.length = k) : RowB w (.slice ao k c) Y := h
theorem RowB.src {w : World} {ad : Addr} {k c : Nat} {Y : List Int} (h : RowB w (.slice (some ad) k c) Y) : ∀ j u, (bytV Y)[j]? = some u → w.cell? (ad.add j) = some u := by
  rcases h.news with ⟨e, _⟩ | ⟨ad', c', e, hx⟩
  · cases e
  · cases e
    exact hx
theorem encI_len (h : Hd) : (encI h 32).length = if encOk h then 32 else 0 := by
  unfold encI
  by_cases hc : encOk h
  · rw [if_pos ⟨by decide, hc⟩, if_pos hc]
    exact hdrB_len (by decide)
  · rw [if_neg (fun x => hc x.2), if_neg hc]
    rfl
theorem encI_32 {h : Hd} (hc : encOk h) : encI h 32 = hdrB h 32 := by
  unfold encI
  rw [if_pos ⟨by decide, hc⟩]
  rfl
theorem encI_ok (h : Hd) (z : Int) : OkB (encI h z) := by
  unfold encI
  split
  · next hc => exact hdrB_ok ⟨hc.2.2.1, by have := hc.2.2.2.1; omega⟩
  · intro x hx; cases hx
set_option maxHeartbeats 8000000 in
set_option maxRecDepth 100000 in
theorem tears_law (a b : Hd) (cut : Int) (w : World) (ra : rngH a) (rb : rngH b) (_rc : rngI cut) : Calls Try.prog 6 #[hdV a, hdV b, .int .i64 cut] w fun e w' => e = .returned (.bool true) ∧ Below w.heap.size w w' := by
  have HAW : Hid (∀ W, Calls Try.prog 7 #[] W fun e w' => e = .returned (.bool true) ∧ Below W.heap.size W w') := fun W => awake14_c W
  obtain ⟨wa, hwa⟩ : ∃ x, w.alloc (.cells (hdC a) 23) = x := ⟨_, rfl⟩
  obtain ⟨w1, hw1⟩ : ∃ x, wa.alloc (.cells (hdC b) 23) = x := ⟨_, rfl⟩
  obtain ⟨G, hG⟩ : ∃ x, w.heap.size = x := ⟨_, rfl⟩
  have has : wa.heap.size = G + 1 := by rw [← hwa, ← hG]; simp
  have H1 : Hid (Below w.heap.size w w1 ∧ Blk w1 G 23 (hdC a) ∧ Blk w1 (G + 1) 23 (hdC b)) := by
    have b1 : Below w.heap.size w wa := by rw [← hwa]; exact (Below.refl _ _).alloc (Nat.le_refl _) _
    have b2 : Below wa.heap.size wa w1 := by rw [← hw1]; exact (Below.refl _ _).alloc (Nat.le_refl _) _
    have b3 : Blk wa G 23 (hdC a) := by rw [← hwa, ← hG]; exact Blk.new _ _ _
    refine ⟨b1.trans (b2.mono b1.size), b3.grow b2, ?_⟩
    rw [← hw1, ← has]
    exact Blk.new _ _ _
  have HBX : Hid (∀ W, Below w1.heap.size w1 W → Blk W G 23 (hdC a) ∧ Blk W (G + 1) 23 (hdC b)) := fun W hW => ⟨H1.out.2.1.grow hW, H1.out.2.2.grow hW⟩
  obtain ⟨A, hA⟩ : ∃ x, encI a 32 = x := ⟨_, rfl⟩
  obtain ⟨B, hB⟩ : ∃ x, encI b 32 = x := ⟨_, rfl⟩
  have HEA : Hid (∀ W, Calls Try.prog 8 #[hdV a, .int .i64 32] W fun e w' => ∃ v, e = .returned v ∧ OwnB w' W.heap.size v A ∧ Below W.heap.size W w') := fun W => by rw [← hA]; exact encode_c a 32 W ra (by decide) ⟨by decide, by decide⟩
  have HEB : Hid (∀ W, Calls Try.prog 8 #[hdV b, .int .i64 32] W fun e w' => ∃ v, e = .returned v ∧ OwnB w' W.heap.size v B ∧ Below W.heap.size W w') := fun W => by rw [← hB]; exact encode_c b 32 W rb (by decide) ⟨by decide, by decide⟩
  have HA := Lib.hid hA
  have HB := Lib.hid hB
  have HR := Lib.hid (And.intro ra rb)
  clear ra rb hA hB
  go_enter Try.func6, Try.ntmps6
  go_upto_region 1 with fail
  try rw [hwa]
  try rw [has]
  try rw [hw1]
  try rw [hG]
  clear hwa has hw1 hG
  obtain ⟨c0, c1, c2, c3⟩ := (HBX.out w1 (Below.refl _ _)).1.hd4c
  obtain ⟨d0, d1, d2, d3⟩ := (HBX.out w1 (Below.refl _ _)).2.hd4c
  by_cases k0 : a.gen < 1
  · have e0 : decide (a.gen < 1) = true := decide_eq_true k0
    go_wp2_with fail
    refine (HAW.out _).mono ?_
    rintro e wz ⟨rfl, hb⟩
    have HZ9 : Hid (Below w.heap.size w wz) := H1.out.1.trans (hb.mono H1.out.1.size)
    clear hb
    go_wp2_with fail
    go_ret
    exact ⟨rfl, HZ9.out⟩
  have e0 : decide (a.gen < 1) = false := decide_eq_false k0
  by_cases k1 : b.gen < 1
  · have e1 : decide (b.gen < 1) = true := decide_eq_true k1
    go_wp2_with fail
    refine (HAW.out _).mono ?_
    rintro e wz ⟨rfl, hb⟩
    have HZ9 : Hid (Below w.heap.size w wz) := H1.out.1.trans (hb.mono H1.out.1.size)
    clear hb
    go_wp2_with fail
    go_ret
    exact ⟨rfl, HZ9.out⟩
  have e1 : decide (b.gen < 1) = false := decide_eq_false k1
  by_cases k2 : a.gen = b.gen
  · have e2 : decide (a.gen = b.gen) = true := decide_eq_true k2
    have e2b : (a.gen == b.gen) = true := by simp; exact k2
    go_wp2_with fail
    refine (HAW.out _).mono ?_
    rintro e wz ⟨rfl, hb⟩
    have HZ9 : Hid (Below w.heap.size w wz) := H1.out.1.trans (hb.mono H1.out.1.size)
    clear hb
    go_wp2_with fail
    go_ret
    exact ⟨rfl, HZ9.out⟩
  have e2 : decide (a.gen = b.gen) = false := decide_eq_false k2
  have e2b : (a.gen == b.gen) = false := by simp; exact k2
  by_cases k3 : a.snap > 100
  · have e3 : decide (a.snap > 100) = true := decide_eq_true k3
    have e3' : decide (100 < a.snap) = true := decide_eq_true k3
    go_wp2_with fail
    refine (HAW.out _).mono ?_
    rintro e wz ⟨rfl, hb⟩
    have HZ9 : Hid (Below w.heap.size w wz) := H1.out.1.trans (hb.mono H1.out.1.size)
    clear hb
    go_wp2_with fail
    go_ret
    exact ⟨rfl, HZ9.out⟩
  have e3 : decide (a.snap > 100) = false := decide_eq_false k3
  have e3' : decide (100 < a.snap) = false := decide_eq_false k3
  by_cases k4 : a.log > 100
  · have e4 : decide (a.log > 100) = true := decide_eq_true k4
    have e4' : decide (100 < a.log) = true := decide_eq_true k4
    go_wp2_with fail
    refine (HAW.out _).mono ?_
    rintro e wz ⟨rfl, hb⟩
    have HZ9 : Hid (Below w.heap.size w wz) := H1.out.1.trans (hb.mono H1.out.1.size)
    clear hb
    go_wp2_with fail
    go_ret
    exact ⟨rfl, HZ9.out⟩
  have e4 : decide (a.log > 100) = false := decide_eq_false k4
  have e4' : decide (100 < a.log) = false := decide_eq_false k4
  by_cases k5 : b.snap > 100
  · have e5 : decide (b.snap > 100) = true := decide_eq_true k5
    have e5' : decide (100 < b.snap) = true := decide_eq_true k5
    go_wp2_with fail
    refine (HAW.out _).mono ?_
    rintro e wz ⟨rfl, hb⟩
    have HZ9 : Hid (Below w.heap.size w wz) := H1.out.1.trans (hb.mono H1.out.1.size)
    clear hb
    go_wp2_with fail
    go_ret
    exact ⟨rfl, HZ9.out⟩
  have e5 : decide (b.snap > 100) = false := decide_eq_false k5
  have e5' : decide (100 < b.snap) = false := decide_eq_false k5
  by_cases k6 : b.log > 100
  · have e6 : decide (b.log > 100) = true := decide_eq_true k6
    have e6' : decide (100 < b.log) = true := decide_eq_true k6
    go_wp2_with fail
    refine (HAW.out _).mono ?_
    rintro e wz ⟨rfl, hb⟩
    have HZ9 : Hid (Below w.heap.size w wz) := H1.out.1.trans (hb.mono H1.out.1.size)
    clear hb
    go_wp2_with fail
    go_ret
    exact ⟨rfl, HZ9.out⟩
  have e6 : decide (b.log > 100) = false := decide_eq_false k6
  have e6' : decide (100 < b.log) = false := decide_eq_false k6
  have HC : Hid (¬ a.gen < 1 ∧ ¬ b.gen < 1 ∧ ¬ a.gen = b.gen ∧ ¬ a.snap > 100 ∧ ¬ a.log > 100 ∧ ¬ b.snap > 100 ∧ ¬ b.log > 100) := ⟨k0, k1, k2, k3, k4, k5, k6⟩
  go_upto_region 3 with fail
  clear e0 e1 e2 e2b e3 e3' e4 e4' e5 e5' e6 e6' k0 k1 k2 k3 k4 k5 k6 c0 c1 c2 c3 d0 d1 d2 d3
  refine wp_region_put (by kernel_rfl) (by kernel_rfl) (by kernel_rfl) (fun b' vs w' => (b' 0 = true → vs 0 = hdV a) ∧ (b' 2 = true → vs 2 = hdV b) ∧ (b' 1 = true → Hid (OwnB w' w1.heap.size (vs 1) A)) ∧ (b' 3 = true → Hid (OwnB w' w1.heap.size (vs 3) B)) ∧ (b' 4 = true → Hid (OwnB w' w1.heap.size (vs 4) A)) ∧ (b' 5 = true → Hid (OwnB w' w1.heap.size (vs 5) B)) ∧ (Hid (Below w1.heap.size w1 w'))) ?_ ?_ ?_
  · intro vs
    exact ⟨fun h => Bool.noConfusion h, fun h => Bool.noConfusion h, fun h => Bool.noConfusion h, fun h => Bool.noConfusion h, fun h => Bool.noConfusion h, fun h => Bool.noConfusion h, below_drewN (Below.refl _ _) 1⟩
  · rintro b' vs w' i op hi hun hall ⟨h0, h2, y1, y3, y4, y5, hB⟩
    have hil : i < 6 := (List.getElem?_eq_some_iff.1 hi).1
    rcases i with _ | _ | _ | _ | _ | _ | i
    · obtain rfl := Option.some.inj hi
      clear hi hil
      obtain ⟨c0, c1, c2, c3⟩ := (HBX.out w' hB.out).1.hd4c
      refine wpOp_step rfl (fun K hK => ?_)
      have HKK := Lib.hid hK; clear hK
      simp only [putAll, Act.put, List.setIfInBounds_toArray, List.set_cons_zero, List.set_cons_succ]
      go_simp
      exact HKK.out _ _ ⟨_, by simp only [putAll, Act.put, List.setIfInBounds_toArray, List.set_cons_zero, List.set_cons_succ] <;> rfl, fun _ => rfl, h2, y1, y3, y4, y5, hB⟩
    · obtain rfl := Option.some.inj hi
      clear hi hil
      have d0 := h0 (hall ⟨0, .data⟩ (by simp) rfl)
      have q := HEA.out w'
      refine wpOp_step rfl (fun K hK => ?_)
      have HKK := Lib.hid hK; clear hK
      simp only [putAll, Act.put, List.setIfInBounds_toArray, List.set_cons_zero, List.set_cons_succ]
      go_simp
      refine q.mono ?_
      rintro e w2 ⟨v2, rfl, ho2, hb2⟩
      exact HKK.out _ _ ⟨_, by simp only [putAll, Act.put, List.setIfInBounds_toArray, List.set_cons_zero, List.set_cons_succ, d0] <;> rfl, h0, h2, fun _ => Lib.hid (owns_base ho2 hB.out.size), fun h => Lib.hid ((y3 h).out.grow hb2), fun h => Lib.hid ((y4 h).out.grow hb2), fun h => Lib.hid ((y5 h).out.grow hb2), hB.out.trans (hb2.mono hB.out.size)⟩
    · obtain rfl := Option.some.inj hi
      clear hi hil
      obtain ⟨c0, c1, c2, c3⟩ := (HBX.out w' hB.out).2.hd4c
      refine wpOp_step rfl (fun K hK => ?_)
      have HKK := Lib.hid hK; clear hK
      simp only [putAll, Act.put, List.setIfInBounds_toArray, List.set_cons_zero, List.set_cons_succ]
      go_simp
      exact HKK.out _ _ ⟨_, by simp only [putAll, Act.put, List.setIfInBounds_toArray, List.set_cons_zero, List.set_cons_succ] <;> rfl, h0, fun _ => rfl, y1, y3, y4, y5, hB⟩
    · obtain rfl := Option.some.inj hi
      clear hi hil
      have d2 := h2 (hall ⟨2, .data⟩ (by simp) rfl)
      have q := HEB.out w'
      refine wpOp_step rfl (fun K hK => ?_)
      have HKK := Lib.hid hK; clear hK
      simp only [putAll, Act.put, List.setIfInBounds_toArray, List.set_cons_zero, List.set_cons_succ]
      go_simp
      refine q.mono ?_
      rintro e w2 ⟨v2, rfl, ho2, hb2⟩
      exact HKK.out _ _ ⟨_, by simp only [putAll, Act.put, List.setIfInBounds_toArray, List.set_cons_zero, List.set_cons_succ, d2] <;> rfl, h0, h2, fun h => Lib.hid ((y1 h).out.grow hb2), fun _ => Lib.hid (owns_base ho2 hB.out.size), fun h => Lib.hid ((y4 h).out.grow hb2), fun h => Lib.hid ((y5 h).out.grow hb2), hB.out.trans (hb2.mono hB.out.size)⟩
    · obtain rfl := Option.some.inj hi
      clear hi hil
      have o4 := y1 (hall ⟨1, .data⟩ (by simp) rfl)
      refine wpOp_step rfl (fun K hK => ?_)
      have HKK := Lib.hid hK; clear hK
      simp only [putAll, Act.put, List.setIfInBounds_toArray, List.set_cons_zero, List.set_cons_succ]
      go_simp
      exact HKK.out _ _ ⟨_, by simp only [putAll, Act.put, List.setIfInBounds_toArray, List.set_cons_zero, List.set_cons_succ] <;> rfl, h0, h2, y1, y3, fun _ => o4, y5, hB⟩
    · obtain rfl := Option.some.inj hi
      clear hi hil
      have o5 := y3 (hall ⟨3, .data⟩ (by simp) rfl)
      refine wpOp_step rfl (fun K hK => ?_)
      have HKK := Lib.hid hK; clear hK
      simp only [putAll, Act.put, List.setIfInBounds_toArray, List.set_cons_zero, List.set_cons_succ]
      go_simp
      exact HKK.out _ _ ⟨_, by simp only [putAll, Act.put, List.setIfInBounds_toArray, List.set_cons_zero, List.set_cons_succ] <;> rfl, h0, h2, y1, y3, y4, fun _ => o5, hB⟩
    · omega
  rintro b' vs wq hall ⟨h0, h2, y1, y3, y4, y5, hB⟩
  have d0 := h0 (hall 0 (by simp))
  have d2 := h2 (hall 2 (by simp))
  have H3 : Hid (Below w.heap.size w wq ∧ OwnB wq w1.heap.size (vs 4) A ∧ OwnB wq w1.heap.size (vs 5) B ∧ Below w1.heap.size w1 wq) := ⟨H1.out.1.trans (hB.out.mono H1.out.1.size), (y4 (hall 4 (by simp))).out, (y5 (hall 5 (by simp))).out, hB.out⟩
  simp only [putAll, Act.put, List.setIfInBounds_toArray, List.set_cons_zero, List.set_cons_succ, d0, d2]
  clear hall h0 h2 d0 d2 y1 y3 y4 y5 hB
  generalize vs 4 = v4 at *
  generalize vs 5 = v5 at *
  generalize vs 1 = v1 at *
  generalize vs 3 = v3 at *
  obtain ⟨x4, c4, hv4⟩ := H3.out.2.1.shape
  obtain ⟨x5, c5, hv5⟩ := H3.out.2.2.1.shape
  obtain ⟨LA, hLA⟩ : ∃ x, A.length = x := ⟨_, rfl⟩
  obtain ⟨LB, hLB⟩ : ∃ x, B.length = x := ⟨_, rfl⟩
  have hla : LA = if encOk a then 32 else 0 := by rw [← hLA, ← HA.out]; exact encI_len a
  have hlb : LB = if encOk b then 32 else 0 := by rw [← hLB, ← HB.out]; exact encI_len b
  rw [hLA] at hv4
  rw [hLB] at hv5
  subst hv4 hv5
  by_cases ka : ¬ encOk a
  · rw [if_neg ka] at hla
    subst hla
    clear ka hLA hLB hlb
    go_wp2_with fail
    refine (HAW.out _).mono ?_
    rintro e wz ⟨rfl, hb⟩
    have HZ9 : Hid (Below w.heap.size w wz) := H3.out.1.trans (hb.mono H3.out.1.size)
    clear hb
    go_wp2_with fail
    go_ret
    exact ⟨rfl, HZ9.out⟩
  replace ka := Classical.not_not.1 ka
  rw [if_pos ka] at hla
  subst hla
  by_cases kb : ¬ encOk b
  · rw [if_neg kb] at hlb
    subst hlb
    clear ka kb hLA hLB
    go_wp2_with fail
    refine (HAW.out _).mono ?_
    rintro e wz ⟨rfl, hb⟩
    have HZ9 : Hid (Below w.heap.size w wz) := H3.out.1.trans (hb.mono H3.out.1.size)
    clear hb
    go_wp2_with fail
    go_ret
    exact ⟨rfl, HZ9.out⟩
  replace kb := Classical.not_not.1 kb
  rw [if_pos kb] at hlb
  subst hlb
  have HLN : Hid (A.length = 32 ∧ B.length = 32) := ⟨hLA, hLB⟩
  have HTORN : Hid (∀ n r, n ≤ 32 → decI (B.take n ++ A.drop n) 200 = some r → r = a ∨ r = b) := fun n r hn hd => by
    rw [← HA.out, ← HB.out, encI_32 ka, encI_32 kb] at hd
    obtain ⟨h0, h1, h2, h3, h4, h5, h6⟩ := HC.out
    have ra := HR.out.1.1.2
    have rb := HR.out.2.1.2
    obtain ⟨p1, p2, p3, p4, p5, p6, p7⟩ := ka
    obtain ⟨r1, r2, r3, r4, r5, r6, r7⟩ := kb
    exact torn_hdr (ca := 200) (cb := 200) (by decide) ⟨by omega, ra, p2, p3, p4, p5, p6, p7, by omega, by omega⟩ ⟨by omega, rb, r2, r3, r4, r5, r6, r7, by omega, by omega⟩ h2 hn hd
  have HOKM : Hid (∀ n, OkB (B.take n ++ A.drop n)) := fun n => by
    rw [← HA.out, ← HB.out]
    exact OkB.append (fun x hx => encI_ok b 32 x (List.mem_of_mem_take hx)) (fun x hx => encI_ok a 32 x (List.mem_of_mem_drop hx))
  clear ka kb hLA hLB
  obtain ⟨n, hn⟩ : ∃ n : Nat, min (max cut 0) 32 = (n : Int) := ⟨(min (max cut 0) 32).toNat, by omega⟩
  have hn32 : n ≤ 32 := by omega
  have HN := Lib.hid hn32
  have c4l : 32 ≤ c4 := H3.out.2.1.cap _ _ _ rfl
  have c5l : 32 ≤ c5 := H3.out.2.2.1.cap _ _ _ rfl
  obtain ⟨q4, c4', hf4, _, _⟩ := H3.out.2.1.form (by rw [HLN.out.1]; decide)
  obtain ⟨q5, c5', hf5, _, _⟩ := H3.out.2.2.1.form (by rw [HLN.out.2]; decide)
  rw [HLN.out.1] at hf4
  rw [HLN.out.2] at hf5
  cases hf4
  cases hf5
  obtain ⟨w3, hw3⟩ : ∃ x, wq = x := ⟨_, rfl⟩
  obtain ⟨ad4, had4⟩ : ∃ x, cutA (some ⟨q4, 0, none⟩) n c4 = some x := by
    unfold cutA
    split
    · exact ⟨_, rfl⟩
    · exact ⟨_, rfl⟩
  obtain ⟨ad5, had5⟩ : ∃ x, cutA (some ⟨q5, 0, none⟩) 0 c5 = some x := by
    unfold cutA
    split
    · exact ⟨_, rfl⟩
    · exact ⟨_, rfl⟩
  obtain ⟨P4, hP4⟩ : ∃ x, A.drop n = x := ⟨_, rfl⟩
  obtain ⟨P5, hP5⟩ : ∃ x, B.take n = x := ⟨_, rfl⟩
  have HPL : Hid (P5.length = n ∧ P4.length = 32 - n) := ⟨by rw [← hP5, List.length_take, HLN.out.2]; omega, by rw [← hP4, List.length_drop, HLN.out.1]⟩
  have HPP : Hid (A.drop n = P4 ∧ B.take n = P5) := ⟨hP4, hP5⟩
  have HCT5 : Hid (∀ W : World, (Instr.sliceAt 24 (.slice (some ⟨q5, 0, none⟩) 32 c5) none (some (.int .i64 (n : Int))) none).run Try.prog W = .ok (.slice (some ad5) n (c5 - 0)) W) := fun W => by
    rw [← had5]
    exact run_cut W (some ⟨q5, 0, none⟩) 32 c5 0 n c5 n none (some (.int .i64 (n : Int))) none (.inr ⟨rfl, rfl⟩) (.inr ⟨rfl, rfl, .inl rfl⟩) (Nat.zero_le _) (by omega) rfl
  have HCT4 : Hid (∀ W : World, (Instr.sliceAt 24 (.slice (some ⟨q4, 0, none⟩) 32 c4) (some (.int .i64 (n : Int))) none none).run Try.prog W = .ok (.slice (some ad4) (32 - n) (c4 - n)) W) := fun W => by
    rw [← had4]
    exact run_cut W (some ⟨q4, 0, none⟩) 32 c4 n 32 c4 (32 - n) (some (.int .i64 (n : Int))) none none (.inl rfl) (.inr ⟨rfl, rfl, .inr ⟨rfl, rfl⟩⟩) (by omega) (by omega) rfl
  have HSR5 : Hid (∀ W, Below w3.heap.size w3 W → ∀ j u, (bytV P5)[j]? = some u → W.cell? (ad5.add j) = some u) := fun W hW => by
    subst hw3
    have key := RowB.cutU ((H3.out.2.2.1.grow hW).row.len HLN.out.2) HLN.out.2 (l := 0) (k := n) (m := c5) (by omega) (by omega) (Nat.le_refl _)
    have e : cutL B 0 n = P5 := by rw [← hP5]; unfold cutL; rw [List.drop_zero]
    rw [e, had5] at key
    exact key.src
  have HSR4 : Hid (∀ W, Below w3.heap.size w3 W → ∀ j u, (bytV P4)[j]? = some u → W.cell? (ad4.add j) = some u) := fun W hW => by
    subst hw3
    have key := RowB.cutU ((H3.out.2.1.grow hW).row.len HLN.out.1) HLN.out.1 (l := n) (k := 32 - n) (m := c4) (by omega) (by omega) (Nat.le_refl _)
    have e : cutL A n (32 - n) = P4 := by rw [← hP4]; unfold cutL; exact List.take_of_length_le (by rw [List.length_drop, HLN.out.1]; exact Nat.le_refl _)
    rw [e, had4] at key
    exact key.src
  have HNN : Hid (n ≤ 32 ∧ (n : Int) ≤ 32 ∧ (0 : Int) ≤ (n : Int) ∧ n ≤ c4 ∧ n ≤ c5 ∧ (n : Int) ≤ (c5 : Int)) := ⟨hn32, by omega, by omega, by omega, by omega, by omega⟩
  clear hP4 hP5 had4 had5 c4l c5l hn32
  go_upto_region 7 with fail
  subst hw3
  clear hn
  refine wp_region_put (by kernel_rfl) (by kernel_rfl) (by kernel_rfl) (fun b' vs w' => (b' 1 = true → vs 1 = .slice (some ⟨q5, 0, none⟩) 32 c5) ∧ (b' 2 = true → vs 2 = .int .i64 (n : Int)) ∧ (b' 3 = true → vs 3 = .slice (some ad5) n (c5 - 0)) ∧ (b' 5 = true → vs 5 = .slice (some ⟨q4, 0, none⟩) 32 c4) ∧ (b' 6 = true → vs 6 = .int .i64 (n : Int)) ∧ (b' 7 = true → vs 7 = .slice (some ad4) (32 - n) (c4 - n)) ∧ (b' 0 = true → b' 4 = false → Hid (OwnB w' wq.heap.size (vs 0) [])) ∧ (b' 4 = true → b' 8 = false → Hid (OwnB w' wq.heap.size (vs 4) P5)) ∧ (b' 8 = true → Hid (OwnB w' wq.heap.size (vs 8) (P5 ++ P4))) ∧ (b' 9 = true → Hid (OwnB w' wq.heap.size (vs 9) (P5 ++ P4))) ∧ (Hid (Below wq.heap.size wq w')) ∧ (b' 4 = true → b' 0 = true) ∧ (b' 8 = true → b' 4 = true) ∧ (b' 9 = true → b' 8 = true)) ?_ ?_ ?_
  · intro vs
    exact ⟨fun h => Bool.noConfusion h, fun h => Bool.noConfusion h, fun h => Bool.noConfusion h, fun h => Bool.noConfusion h, fun h => Bool.noConfusion h, fun h => Bool.noConfusion h, fun h => Bool.noConfusion h, fun h => Bool.noConfusion h, fun h => Bool.noConfusion h, fun h => Bool.noConfusion h, below_drewN (Below.refl _ _) 1, fun h => Bool.noConfusion h, fun h => Bool.noConfusion h, fun h => Bool.noConfusion h⟩
  · rintro b' vs w' i op hi hun hall ⟨h1, h2, h3, h5, h6, h7, y0, y4, y8, y9, hB, e4, e8, e9⟩
    have hil : i < 10 := (List.getElem?_eq_some_iff.1 hi).1
    rcases i with _ | _ | _ | _ | _ | _ | _ | _ | _ | _ | i
    · obtain rfl := Option.some.inj hi
      clear hi hil
      refine wpOp_step rfl (fun K hK => ?_)
      have HKK := Lib.hid hK; clear hK
      simp only [putAll, Act.put, List.setIfInBounds_toArray, List.set_cons_zero, List.set_cons_succ]
      go_simp
      exact HKK.out _ _ ⟨_, by simp only [putAll, Act.put, List.setIfInBounds_toArray, List.set_cons_zero, List.set_cons_succ] <;> rfl, h1, h2, h3, h5, h6, h7, fun _ _ => Lib.hid (OwnB.made w' hB.out.size [] 0 #[] rfl rfl (by decide)), fun h _ => absurd (e4 h) (by rw [hun]; decide), fun h => absurd (e4 (e8 h)) (by rw [hun]; decide), fun h => absurd (e4 (e8 (e9 h))) (by rw [hun]; decide), hB.out.alloc hB.out.size _, fun _ => rfl, e8, e9⟩
    · obtain rfl := Option.some.inj hi
      clear hi hil
      refine wpOp_step rfl (fun K hK => ?_)
      have HKK := Lib.hid hK; clear hK
      simp only [putAll, Act.put, List.setIfInBounds_toArray, List.set_cons_zero, List.set_cons_succ]
      go_simp
      exact HKK.out _ _ ⟨_, by simp only [putAll, Act.put, List.setIfInBounds_toArray, List.set_cons_zero, List.set_cons_succ] <;> rfl, fun _ => rfl, h2, h3, h5, h6, h7, y0, y4, y8, y9, hB, e4, e8, e9⟩
    · obtain rfl := Option.some.inj hi
      clear hi hil
      refine wpOp_step rfl (fun K hK => ?_)
      have HKK := Lib.hid hK; clear hK
      simp only [putAll, Act.put, List.setIfInBounds_toArray, List.set_cons_zero, List.set_cons_succ]
      go_simp
      exact HKK.out _ _ ⟨_, by simp only [putAll, Act.put, List.setIfInBounds_toArray, List.set_cons_zero, List.set_cons_succ] <;> rfl, h1, fun _ => rfl, h3, h5, h6, h7, y0, y4, y8, y9, hB, e4, e8, e9⟩
    · obtain rfl := Option.some.inj hi
      clear hi hil
      have d1 := h1 (hall ⟨1, .data⟩ (by simp) rfl)
      have d2 := h2 (hall ⟨2, .data⟩ (by simp) rfl)
      have hct := HCT5.out w'
      obtain ⟨s0, s1, s2, s3, s4, s5⟩ := HNN.out
      refine wpOp_step rfl (fun K hK => ?_)
      have HKK := Lib.hid hK; clear hK
      simp only [putAll, Act.put, List.setIfInBounds_toArray, List.set_cons_zero, List.set_cons_succ]
      go_simp
      exact HKK.out _ _ ⟨_, by simp only [putAll, Act.put, List.setIfInBounds_toArray, List.set_cons_zero, List.set_cons_succ, d1, d2] <;> rfl, h1, h2, fun _ => rfl, h5, h6, h7, y0, y4, y8, y9, hB, e4, e8, e9⟩
    · obtain rfl := Option.some.inj hi
      clear hi hil
      have d3 := h3 (hall ⟨3, .data⟩ (by simp) rfl)
      have o0 := y0 (hall ⟨0, .data⟩ (by simp) rfl) hun
      refine wpOp_step rfl (fun K hK => ?_)
      have HKK := Lib.hid hK; clear hK
      simp only [putAll, Act.put, List.setIfInBounds_toArray, List.set_cons_zero, List.set_cons_succ]
      refine (if_pos rfl).mpr (wp_append_byts _ _ 24 rfl Try.underlying24 wq.heap.size _ [] rfl o0.out ad5 n (c5 - 0) P5 d3 HPL.out.1 (HSR5.out w' hB.out) (by have := HN.out; rw [List.length_nil]; omega) hB.out.size ?_)
      intro v' w2 ho2 hg2 hm2
      exact HKK.out _ _ ⟨_, by simp only [putAll, Act.put, List.setIfInBounds_toArray, List.set_cons_zero, List.set_cons_succ, d3] <;> rfl, h1, h2, h3, h5, h6, h7, fun _ h => Bool.noConfusion h, fun _ _ => Lib.hid (by have h := ho2; rw [List.nil_append] at h; exact h), fun h => absurd (e8 h) (by rw [hun]; decide), fun h => absurd (e8 (e9 h)) (by rw [hun]; decide), own_below o0.out hg2 hB.out (Nat.le_refl _) hB.out.size, fun _ => hall ⟨0, .data⟩ (by simp) rfl, fun _ => rfl, e9⟩
    · obtain rfl := Option.some.inj hi
      clear hi hil
      refine wpOp_step rfl (fun K hK => ?_)
      have HKK := Lib.hid hK; clear hK
      simp only [putAll, Act.put, List.setIfInBounds_toArray, List.set_cons_zero, List.set_cons_succ]
      go_simp
      exact HKK.out _ _ ⟨_, by simp only [putAll, Act.put, List.setIfInBounds_toArray, List.set_cons_zero, List.set_cons_succ] <;> rfl, h1, h2, h3, fun _ => rfl, h6, h7, y0, y4, y8, y9, hB, e4, e8, e9⟩
    · obtain rfl := Option.some.inj hi
      clear hi hil
      refine wpOp_step rfl (fun K hK => ?_)
      have HKK := Lib.hid hK; clear hK
      simp only [putAll, Act.put, List.setIfInBounds_toArray, List.set_cons_zero, List.set_cons_succ]
      go_simp
      exact HKK.out _ _ ⟨_, by simp only [putAll, Act.put, List.setIfInBounds_toArray, List.set_cons_zero, List.set_cons_succ] <;> rfl, h1, h2, h3, h5, fun _ => rfl, h7, y0, y4, y8, y9, hB, e4, e8, e9⟩
    · obtain rfl := Option.some.inj hi
      clear hi hil
      have d5 := h5 (hall ⟨5, .data⟩ (by simp) rfl)
      have d6 := h6 (hall ⟨6, .data⟩ (by simp) rfl)
      have hct := HCT4.out w'
      obtain ⟨s0, s1, s2, s3, s4, s5⟩ := HNN.out
      refine wpOp_step rfl (fun K hK => ?_)
      have HKK := Lib.hid hK; clear hK
      simp only [putAll, Act.put, List.setIfInBounds_toArray, List.set_cons_zero, List.set_cons_succ]
      go_simp
      exact HKK.out _ _ ⟨_, by simp only [putAll, Act.put, List.setIfInBounds_toArray, List.set_cons_zero, List.set_cons_succ, d5, d6] <;> rfl, h1, h2, h3, h5, h6, fun _ => rfl, y0, y4, y8, y9, hB, e4, e8, e9⟩
    · obtain rfl := Option.some.inj hi
      clear hi hil
      have d7 := h7 (hall ⟨7, .data⟩ (by simp) rfl)
      have o4 := y4 (hall ⟨4, .data⟩ (by simp) rfl) hun
      refine wpOp_step rfl (fun K hK => ?_)
      have HKK := Lib.hid hK; clear hK
      simp only [putAll, Act.put, List.setIfInBounds_toArray, List.set_cons_zero, List.set_cons_succ]
      refine (if_pos rfl).mpr (wp_append_byts _ _ 24 rfl Try.underlying24 wq.heap.size _ P5 rfl o4.out ad4 (32 - n) (c4 - n) P4 d7 HPL.out.2 (HSR4.out w' hB.out) (by have := HPL.out.1; have := HN.out; omega) hB.out.size ?_)
      intro v' w2 ho2 hg2 hm2
      exact HKK.out _ _ ⟨_, by simp only [putAll, Act.put, List.setIfInBounds_toArray, List.set_cons_zero, List.set_cons_succ, d7] <;> rfl, h1, h2, h3, h5, h6, h7, fun h h2 => absurd (hall ⟨4, .data⟩ (by simp) rfl) (by have h3 : b' 4 = false := h2; rw [h3]; decide), fun _ h => Bool.noConfusion h, fun _ => Lib.hid ho2, fun h => absurd (e9 h) (by rw [hun]; decide), own_below o4.out hg2 hB.out (Nat.le_refl _) hB.out.size, e4, fun _ => hall ⟨4, .data⟩ (by simp) rfl, fun _ => rfl⟩
    · obtain rfl := Option.some.inj hi
      clear hi hil
      have o9 := y8 (hall ⟨8, .data⟩ (by simp) rfl)
      refine wpOp_step rfl (fun K hK => ?_)
      have HKK := Lib.hid hK; clear hK
      simp only [putAll, Act.put, List.setIfInBounds_toArray, List.set_cons_zero, List.set_cons_succ]
      go_simp
      exact HKK.out _ _ ⟨_, by simp only [putAll, Act.put, List.setIfInBounds_toArray, List.set_cons_zero, List.set_cons_succ] <;> rfl, h1, h2, h3, h5, h6, h7, y0, y4, y8, fun _ => o9, hB, e4, e8, fun _ => hall ⟨8, .data⟩ (by simp) rfl⟩
    · omega
  rintro b' vs w7 hall ⟨h1, h2, h3, h5, h6, h7, y0, y4, y8, y9, hB, e4, e8, e9⟩
  have d1 := h1 (hall 1 (by simp))
  have d2 := h2 (hall 2 (by simp))
  have d3 := h3 (hall 3 (by simp))
  have d5 := h5 (hall 5 (by simp))
  have d6 := h6 (hall 6 (by simp))
  have d7 := h7 (hall 7 (by simp))
  have H7 : Hid (Below w.heap.size w w7 ∧ OwnB w7 wq.heap.size (vs 9) (P5 ++ P4) ∧ Below w1.heap.size w1 w7) := ⟨H3.out.1.trans (hB.out.mono H3.out.1.size), (y9 (hall 9 (by simp))).out, H3.out.2.2.2.trans (hB.out.mono H3.out.2.2.2.size)⟩
  simp only [putAll, Act.put, List.setIfInBounds_toArray, List.set_cons_zero, List.set_cons_succ, d1, d2, d3, d5, d6, d7]
  clear hall y0 y4 y8 y9 hB e4 e8 e9 h1 d1 h2 d2 h3 d3 h5 d5 h6 d6 h7 d7
  generalize vs 9 = v9 at *
  generalize vs 8 = v8 at *
  generalize vs 4 = v4 at *
  generalize vs 0 = v0 at *
  obtain ⟨x9, c9, hv9⟩ := H7.out.2.1.shape
  have HMX : Hid (P5 ++ P4 = B.take n ++ A.drop n) := by rw [Hid, HPP.out.1, HPP.out.2]
  have HDE : Hid (Calls Try.prog 10 #[v9, .int .i64 200] w7 fun e w' => e = .returned (DecV (decI (P5 ++ P4) 200)) ∧ Below w7.heap.size w7 w') := sdecode_c v9 _ 200 w7 H7.out.2.1.row (by rw [HMX.out]; exact HOKM.out n) H7.out.2.1.cap (by rw [List.length_append, HPL.out.1, HPL.out.2]; have := HN.out; omega) ⟨by decide, by decide⟩
  rw [HMX.out] at HDE
  obtain ⟨dd, hdd⟩ : ∃ x, decI (B.take n ++ A.drop n) 200 = x := ⟨_, rfl⟩
  have HDD := Lib.hid hdd
  rw [hdd] at HDE
  clear hdd hv9
  obtain ⟨r, hr⟩ : ∃ r, dd.getD zeroHd = r := ⟨_, rfl⟩
  obtain ⟨q, hq⟩ : ∃ q, dd.isSome = q := ⟨_, rfl⟩
  have HRQ : Hid (dd.getD zeroHd = r ∧ dd.isSome = q) := ⟨hr, hq⟩
  have hdv : DecV dd = .tuple #[hdV r, .bool q] := by unfold DecV; rw [hr, hq]
  rw [hdv] at HDE
  have HAB : Hid (q = true → r = a ∨ r = b) := fun hq2 => by
    cases dd with
    | none => rw [← hq] at hq2; cases hq2
    | some x =>
      have h4 : x = r := hr
      rw [← h4]
      exact HTORN.out n x HN.out HDD.out
  clear hr hq hdv
  go_wp2_with fail
  refine (HDE.out).mono ?_
  rintro e w8 ⟨rfl, hb⟩
  have H8 : Hid (Below w.heap.size w w8 ∧ Below w1.heap.size w1 w8) := ⟨H7.out.1.trans (hb.mono H7.out.1.size), H7.out.2.2.trans (hb.mono H7.out.2.2.size)⟩
  clear hb HDE
  obtain ⟨S, hS⟩ : ∃ S, w8.heap.size = S := ⟨_, rfl⟩
  have HS := Lib.hid hS
  obtain ⟨we, hwe⟩ : ∃ x, w8.alloc (.cells #[.int .i64 0, .int .i64 0, .int .i64 0, .int .i64 0] 23) = x := ⟨_, rfl⟩
  have HE : Hid (Below w8.heap.size w8 we ∧ Blk we S 23 #[.int .i64 0, .int .i64 0, .int .i64 0, .int .i64 0]) := by
    rw [← hwe, ← hS]
    exact ⟨(Below.refl _ _).alloc (Nat.le_refl _) _, Blk.new _ _ _⟩
  have z0 : we.cell? ⟨S, 0, none⟩ = some (.int .i64 0) := HE.out.2.cell 0
  have z1 : we.cell? ⟨S, 1, none⟩ = some (.int .i64 0) := HE.out.2.cell 1
  have z2 : we.cell? ⟨S, 2, none⟩ = some (.int .i64 0) := HE.out.2.cell 2
  have z3 : we.cell? ⟨S, 3, none⟩ = some (.int .i64 0) := HE.out.2.cell 3
  have y0 := HE.out.2.free 0
  have y1 := HE.out.2.free 1
  have y2 := HE.out.2.free 2
  have y3 := HE.out.2.free 3
  have ylt := HE.out.2.lt
  go_upto_region 9 with fail
  try rw [hwe]
  try rw [hS]
  clear hwe hS z0 z1 z2 z3 y0 y1 y2 y3 ylt
  obtain ⟨wf, hwf⟩ : ∃ WW, (((we.setCell ⟨S, 0, none⟩ (.int .i64 r.gen)).setCell ⟨S, 1, none⟩ (.int .i64 r.half)).setCell ⟨S, 2, none⟩ (.int .i64 r.snap)).setCell ⟨S, 3, none⟩ (.int .i64 r.log) = WW := ⟨_, rfl⟩
  have HF : Hid (Below w.heap.size w wf ∧ Blk wf S 23 (hdC r) ∧ Below w1.heap.size w1 wf) := by
    rw [← hwf]
    have hle : w8.heap.size ≤ S := by rw [HS.out]; exact Nat.le_refl _
    have hb := below_hd4 HE.out.1 hle (.int .i64 r.gen) (.int .i64 r.half) (.int .i64 r.snap) (.int .i64 r.log)
    exact ⟨H8.out.1.trans (hb.mono H8.out.1.size), set4_blk HE.out.2 _ _ _ _, H8.out.2.trans (hb.mono H8.out.2.size)⟩
  rw [hwf]
  clear hwf HE
  cases q with
  | false =>
    go_wp2_with fail
    refine (HAW.out _).mono ?_
    rintro e wz ⟨rfl, hb⟩
    have HZ9 : Hid (Below w.heap.size w wz) := HF.out.1.trans (hb.mono HF.out.1.size)
    clear hb
    go_wp2_with fail
    go_ret
    exact ⟨rfl, HZ9.out⟩
  | true =>
    obtain ⟨c0, c1, c2, c3⟩ := (HBX.out wf HF.out.2.2).1.hd4c
    obtain ⟨d0, d1, d2, d3⟩ := (HBX.out wf HF.out.2.2).2.hd4c
    obtain ⟨r0, r1, r2, r3⟩ := HF.out.2.1.hd4c
    have hab := HAB.out rfl
    clear HRQ HDD HAB HTORN
    rcases hab with hra | hrb
    · rw [hra] at r0 r1 r2 r3
      go_wp2_with fail
      refine (HAW.out _).mono ?_
      rintro e wz ⟨rfl, hb⟩
      have HZ9 : Hid (Below w.heap.size w wz) := HF.out.1.trans (hb.mono HF.out.1.size)
      clear hb
      go_wp2_with fail
      go_ret
      exact ⟨rfl, HZ9.out⟩
    · rw [hrb] at r0 r1 r2 r3
      have e2 : (b.gen == a.gen) = false := by have := HC.out.2.2.1; simp; omega
      go_wp2_with fail
      refine (HAW.out _).mono ?_
      rintro e wz ⟨rfl, hb⟩
      have HZ9 : Hid (Below w.heap.size w wz) := HF.out.1.trans (hb.mono HF.out.1.size)
      clear hb
      go_wp2_with fail
      go_ret
      exact ⟨rfl, HZ9.out⟩
end Go.Proofs.Ytdcjchakgfpgaaa
