/- Layer 14: package store: Encode. -/
import Derived.Test.YtdcjchakgfpgaaaMc
namespace Go.Proofs.Ytdcjchakgfpgaaa
open Go.RowKit
theorem bAt_take {L : List Int} {m i : Nat} (h : i < m) : bAt (L.take m) i = bAt L i := by
  unfold bAt
  rw [List.getD_eq_getElem?_getD, List.getD_eq_getElem?_getD, List.getElem?_take_of_lt h]
set_option maxHeartbeats 4000000 in
set_option maxRecDepth 100000 in
theorem hdr_laid {h : Hd} {n : Nat} (hn : 32 ≤ n) (_hh : encOk h) : layB (layB (layB (layB (layB (List.replicate n 0) (lowI h.gen 8) ((0 : Nat) : Int)) (lowI h.half 1) ((8 : Nat) : Int)) (lowI h.snap 4) ((9 : Nat) : Int)) (lowI h.log 4) ((13 : Nat) : Int)) (lowI h.gen 8) ((n - 8 : Nat) : Int) = hdrB h n := by
  have hh : lowI h.half 1 = [h.half] := by
    have h1 := _hh.2.1
    have h2 := _hh.2.2.1
    show [h.half / 256 ^ 0 % 256] = [h.half]
    rw [Int.pow_zero, Int.ediv_one]
    congr 1
    omega
  rw [hh]
  have l8 : (lowI h.gen 8).length = 8 := lowI_len _ 8
  have ls : (lowI h.snap 4).length = 4 := lowI_len _ 4
  have ll : (lowI h.log 4).length = 4 := lowI_len _ 4
  have hl := hdrB_len (h := h) hn
  apply List.ext_getElem?
  intro i
  by_cases hi : i < n
  · have k1 : i < (List.replicate n (0 : Int)).length := by rw [List.length_replicate]; exact hi
    rw [bAt_some (by simp only [layB_len]; exact k1), bAt_some (by omega)]
    congr 1
    rw [layB_at _ _ _ (by simp only [layB_len]; exact k1)]
    unfold layV
    rw [layB_at _ _ _ (by simp only [layB_len]; exact k1)]
    unfold layV
    rw [layB_at _ _ _ (by simp only [layB_len]; exact k1)]
    unfold layV
    rw [layB_at _ _ _ (by simp only [layB_len]; exact k1)]
    unfold layV
    rw [layB_at _ _ _ k1]
    unfold layV
    rw [l8, ls, ll]
    by_cases c5 : n - 8 ≤ i
    · rw [if_pos ⟨by omega, by omega⟩]
      have e := hdr_last h hn
      have e2 : bAt (hdrB h n) i = bAt ((hdrB h n).drop (n - 8)) (i - (n - 8)) := by
        rw [bAt_drop]
        congr 1
        omega
      rw [e2, e]
      congr 1
      omega
    rw [if_neg (by omega)]
    by_cases c4 : 13 ≤ i ∧ i < 17
    · rw [if_pos ⟨by omega, by omega⟩, ← hdr_log h n]
      unfold cutL
      rw [bAt_take (by omega), bAt_drop]
      congr 1
      omega
    rw [if_neg (by omega)]
    by_cases c3 : 9 ≤ i ∧ i < 13
    · rw [if_pos ⟨by omega, by omega⟩, ← hdr_snap h n]
      unfold cutL
      rw [bAt_take (by omega), bAt_drop]
      congr 1
      omega
    rw [if_neg (by omega)]
    by_cases c2 : i = 8
    · subst c2
      rw [if_pos ⟨by omega, by simp⟩, hdr_half]
      rfl
    rw [if_neg (by simp; omega)]
    by_cases c1 : i < 8
    · rw [if_pos ⟨by omega, by omega⟩, ← hdr_gen h n]
      unfold cutL
      rw [bAt_take (by omega), bAt_drop]
      congr 1
      omega
    rw [if_neg (by omega)]
    have e0 : bAt (List.replicate n (0 : Int)) i = 0 := by
      unfold bAt
      rw [List.getD_eq_getElem?_getD, List.getElem?_replicate]
      split <;> rfl
    rw [e0]
    have e : hdrB h n = (lowI h.gen 8 ++ ([h.half] ++ (lowI h.snap 4 ++ lowI h.log 4))) ++ (List.replicate (n - 25) 0 ++ lowI h.gen 8) := by unfold hdrB; simp only [List.append_assoc]
    have hp : (lowI h.gen 8 ++ ([h.half] ++ (lowI h.snap 4 ++ lowI h.log 4))).length = 17 := by simp only [List.length_append, l8, ls, ll, List.length_singleton]
    rw [e, show i = (lowI h.gen 8 ++ ([h.half] ++ (lowI h.snap 4 ++ lowI h.log 4))).length + (i - 17) by rw [hp]; omega, bAt_right, bAt_left (by rw [List.length_replicate]; omega)]
    unfold bAt
    rw [List.getD_eq_getElem?_getD, List.getElem?_replicate]
    split <;> rfl
  · rw [List.getElem?_eq_none (by simp only [layB_len, List.length_replicate]; omega), List.getElem?_eq_none (by omega)]
set_option maxHeartbeats 4000000 in
set_option maxRecDepth 100000 in
theorem encode_c (h : Hd) (size : Int) (w : World) (hr : rngH h) (hz : size ≤ 1000) (hz2 : rngI size) : Calls Try.prog 8 #[hdV h, .int .i64 size] w fun e w' => ∃ v, e = .returned v ∧ OwnB w' w.heap.size v (encI h size) ∧ Below w.heap.size w w' := by
  obtain ⟨w1, hw1⟩ : ∃ WW, w.alloc (.cells (hdC h) 23) = WW := ⟨_, rfl⟩
  have H1 : Hid (Below w.heap.size w w1 ∧ Blk w1 w.heap.size 23 (hdC h)) := hd_cells (h := h) hw1
  have hl : w.heap.size < w1.heap.size := H1.out.2.lt
  obtain ⟨gh, hgh⟩ : ∃ G, w.heap.size = G := ⟨_, rfl⟩
  have HGH := Lib.hid hgh
  have HEN := Lib.hid (encodable_c h w1)
  have c0 : w1.cell? ⟨gh, 0, none⟩ = some (.int .i64 h.gen) := by rw [← hgh]; exact H1.out.2.cell 0
  have c1 : w1.cell? ⟨gh, 1, none⟩ = some (.int .i64 h.half) := by rw [← hgh]; exact H1.out.2.cell 1
  have c2 : w1.cell? ⟨gh, 2, none⟩ = some (.int .i64 h.snap) := by rw [← hgh]; exact H1.out.2.cell 2
  have c3 : w1.cell? ⟨gh, 3, none⟩ = some (.int .i64 h.log) := by rw [← hgh]; exact H1.out.2.cell 3
  have HR := Lib.hid hr
  by_cases hs : size < 32
  · have d1 : decide (size < 32) = true := by simpa using hs
    have HI : Hid (encI h size = []) := by unfold encI Hid; rw [if_neg (by omega)]
    rw [HI.out]
    clear hs hz hz2 c0 c1 c2 c3 hl
    go_enter Try.func8, Try.ntmps8
    go_upto_region 1 with fail
    try rw [hw1]
    try rw [hgh]
    go_wp2_with fail
    go_ret
    exact ⟨_, rfl, World.ownsRow_nil _ _ _ _, H1.out.1⟩
  obtain ⟨n, rfl⟩ : ∃ n : Nat, size = (n : Int) := ⟨size.toNat, by omega⟩
  have d1 : decide ((n : Int) < 32) = false := by simpa using hs
  have d2 : decide ((n : Int) > 2147483647) = false := by simp; omega
  have HZ : Hid (32 ≤ n ∧ n ≤ 1000) := ⟨by omega, by omega⟩
  by_cases hen : ¬ encOk h
  · have d3 : decide (encOk h) = false := by simpa using hen
    have HI : Hid (encI h (n : Int) = []) := by unfold encI Hid; rw [if_neg (fun h => hen h.2)]
    rw [HI.out]
    clear hs hz hz2 hl hen
    go_enter Try.func8, Try.ntmps8
    go_upto_region 1 with fail
    try rw [hw1]
    try rw [hgh]
    go_wp2_with fail
    refine (HEN.out).mono ?_
    rintro e w2 ⟨rfl, hb⟩
    have H2 : Hid (Below w.heap.size w w2) := H1.out.1.trans (hb.mono H1.out.1.size)
    clear hb c0 c1 c2 c3
    go_wp2_with fail
    go_ret
    exact ⟨_, rfl, World.ownsRow_nil _ _ _ _, H2.out⟩
  replace hen := Classical.not_not.1 hen
  have d3 : decide (encOk h) = true := by simpa using hen
  have HI : Hid (encI h (n : Int) = hdrB h n) := by unfold encI Hid; rw [if_pos ⟨by omega, hen⟩, Int.toNat_natCast]
  rw [HI.out]
  have HNB : Hid (0 ≤ h.gen ∧ h.gen ≤ 9223372036854775807 ∧ 0 ≤ h.half ∧ h.half ≤ 1 ∧ 0 ≤ h.snap ∧ h.snap ≤ 2147483648 ∧ 0 ≤ h.log ∧ h.log ≤ 2147483648) := ⟨hen.1, hr.1.2, hen.2⟩
  have HLD := Lib.hid (hdr_laid HZ.out.1 hen)
  have QS : Hid ((0 : Int) ≤ (n : Int) - 8 ∧ (n : Int) - 8 ≤ (n : Int) ∧ 8 ≤ n ∧ 9 ≤ n ∧ 13 ≤ n ∧ 17 ≤ n ∧ ((n : Int) - 8).toNat = n - 8 ∧ n ≤ 1000 ∧ (8 : Int) ≤ (n : Int) ∧ (9 : Int) ≤ (n : Int) ∧ (13 : Int) ≤ (n : Int) ∧ (17 : Int) ≤ (n : Int) ∧ ¬ n = 8 ∧ ¬ n = 9 ∧ ¬ n = 13 ∧ ¬ n = n - 8) := ⟨by omega, by omega, by omega, by omega, by omega, by omega, by omega, by omega, by omega, by omega, by omega, by omega, by omega, by omega, by omega, by omega⟩
  have HN8 : Hid (IntKind.i64.wrap ((n : Int) - 8) = (n : Int) - 8 ∧ True) := ⟨by rw [wrap_is]; exact wrapR _ (by omega) (by omega), trivial⟩
  have hmk : ∀ W : World, _ := fun W => make_b W n (by omega)
  obtain ⟨mc, hmc⟩ : ∃ mc, Array.replicate n (Value.int .u8 0) = mc := ⟨_, rfl⟩
  have HMC : Hid (mc = (bytV (List.replicate n 0)).toArray) := by rw [Hid, ← hmc]; simp [bytV]
  simp only [hmc] at hmk
  obtain ⟨A1, hA1⟩ : ∃ A, List.replicate n (0 : Int) = A := ⟨_, rfl⟩
  obtain ⟨A2, hA2⟩ : ∃ A, layB A1 (lowI h.gen 8) (((0 : Nat) : Int)) = A := ⟨_, rfl⟩
  obtain ⟨A3, hA3⟩ : ∃ A, layB A2 (lowI h.half 1) (((8 : Nat) : Int)) = A := ⟨_, rfl⟩
  obtain ⟨A4, hA4⟩ : ∃ A, layB A3 (lowI h.snap 4) (((9 : Nat) : Int)) = A := ⟨_, rfl⟩
  obtain ⟨A5, hA5⟩ : ∃ A, layB A4 (lowI h.log 4) (((13 : Nat) : Int)) = A := ⟨_, rfl⟩
  obtain ⟨A6, hA6⟩ : ∃ A, layB A5 (lowI h.gen 8) (((n - 8 : Nat) : Int)) = A := ⟨_, rfl⟩
  have HAA : Hid (A6 = hdrB h n) := by rw [← HLD.out, Hid, ← hA6, ← hA5, ← hA4, ← hA3, ← hA2, ← hA1]
  have HLN : Hid (A1.length = n ∧ A2.length = n ∧ A3.length = n ∧ A4.length = n ∧ A5.length = n) := by
    have l1 : A1.length = n := by rw [← hA1, List.length_replicate]
    have l2 : A2.length = n := by rw [← hA2, layB_len, l1]
    have l3 : A3.length = n := by rw [← hA3, layB_len, l2]
    have l4 : A4.length = n := by rw [← hA4, layB_len, l3]
    exact ⟨l1, l2, l3, l4, by rw [← hA5, layB_len, l4]⟩
  have HA1 := Lib.hid hA1
  have HA2 := Lib.hid hA2
  have HA3 := Lib.hid hA3
  have HA4 := Lib.hid hA4
  have HA5 := Lib.hid hA5
  have HA6 := Lib.hid hA6
  clear hs hz hz2 hl hen hr hmc hA1 hA2 hA3 hA4 hA5 hA6
  go_enter Try.func8, Try.ntmps8
  go_upto_region 1 with fail
  try rw [hw1]
  try rw [hgh]
  go_wp2_with fail
  refine (HEN.out).mono ?_
  rintro e v2 ⟨rfl, hb⟩
  have H2 : Hid (Below w.heap.size w v2 ∧ Blk v2 gh 23 (hdC h)) := ⟨H1.out.1.trans (hb.mono H1.out.1.size), by rw [← HGH.out]; exact H1.out.2.grow hb⟩
  clear hb c0 c1 c2 c3 hw1
  try rw [hgh]
  clear hgh
  go_upto_region 4 with fail
  obtain ⟨W0, hW0⟩ : ∃ WW, v2.alloc (.cells mc 5) = WW := ⟨_, rfl⟩
  obtain ⟨gs, hgs⟩ : ∃ G, v2.heap.size = G := ⟨_, rfl⟩
  have HW0 : Hid (Below w.heap.size w W0 ∧ Blk W0 gh 23 (hdC h) ∧ OwnB W0 w.heap.size (.slice (some ⟨gs, 0, none⟩) n n) A1 ∧ gh ≠ gs ∧ w.heap.size ≤ gs) := by
    have hbw : Below v2.heap.size v2 W0 := by rw [← hW0]; exact (Below.refl _ _).alloc (Nat.le_refl _) _
    refine ⟨H2.out.1.trans (hbw.mono H2.out.1.size), H2.out.2.grow hbw, ?_, ?_, by rw [← hgs]; exact H2.out.1.size⟩
    · rw [← hW0, ← hgs, ← HA1.out]
      exact OwnB.madeL v2 H2.out.1.size _ n _ HMC.out (by simp) (by have := HZ.out.2; omega)
    · have := H2.out.2.lt
      rw [hgs] at this
      omega
  have H1' : Hid (OwnB W0 0 (.slice (some ⟨gs, 0, none⟩) n n) A1 ∧ Keep (fun k => k ≠ gs) W0 W0) := ⟨owns_base HW0.out.2.2.1 (Nat.zero_le _), Keep.refl _ _⟩
  rw [hW0, hgs]
  clear hW0 hgs hmk
  clear H1 H2
  have H1 := H1'
  clear H1'
  have HK1 := H1
  have HC1 : Hid (∀ W, Below W0.heap.size W0 W → Blk W gh 23 (hdC h)) := fun W hW => ((HK1.out.2).blk HW0.out.2.1 HW0.out.2.2.2.1).grow hW
  have HL1 : Hid (∀ W, Below W0.heap.size W0 W → Calls Try.prog 27 #[.slice (some ⟨gs, 0, none⟩) (8) (n), .int .i64 h.gen] W fun e w' => e = .returned (.tuple #[]) ∧ OwnB w' 0 (.slice (some ⟨gs, 0, none⟩) n n) (layB A1 (lowI h.gen 8) (((0 : Nat) : Int))) ∧ Keep (fun k => k ≠ gs) W0 w') := fun W hW => by
    have e0 : 8 = 8 := by have := HZ.out; omega
    rw [e0]
    refine (lay14_c gs n n 0 8 _ A1 h.gen W (HK1.out.1.grow hW) (by rw [HLN.out.1]) (by have := HZ.out; omega) (by have := HZ.out; omega) (by decide) ⟨HNB.out.1, HNB.out.2.1⟩).mono ?_
    rintro e w' ⟨he, ho, hk⟩
    exact ⟨he, ho, (HK1.out.2.trans (Keep.of_below hW)).trans hk⟩
  refine wp_region_put (by kernel_rfl) (by kernel_rfl) (by kernel_rfl) (fun b' vs w' => (b' 0 = true → vs 0 = .slice (some ⟨gs, 0, none⟩) n n) ∧ (b' 1 = true → vs 1 = .slice (some ⟨gs, 0, none⟩) (8) (n)) ∧ (b' 2 = true → vs 2 = .pointer (some ⟨gh, 0, none⟩)) ∧ (b' 3 = true → vs 3 = .int .i64 h.gen) ∧ (b' 4 = false → Hid (Below W0.heap.size W0 w' ∧ W0.heap.size ≤ w'.heap.size)) ∧ (b' 4 = true → Hid (OwnB w' 0 (.slice (some ⟨gs, 0, none⟩) n n) (layB A1 (lowI h.gen 8) (((0 : Nat) : Int))) ∧ Keep (fun k => k ≠ gs) W0 w')) ∧ (b' 4 = true → b' 3 = true)) ?_ ?_ ?_
  · intro vs
    exact ⟨fun h => Bool.noConfusion h, fun h => Bool.noConfusion h, fun h => Bool.noConfusion h, fun h => Bool.noConfusion h, fun _ => Lib.hid ⟨below_drewN (Below.refl _ _) 1, Nat.le_refl _⟩, fun h => Bool.noConfusion h, fun h => Bool.noConfusion h⟩
  · rintro b' vs w' i op hi hun hall ⟨h0, h1, h2, h3, hB, hG, hW3⟩
    have hil : i < 5 := (List.getElem?_eq_some_iff.1 hi).1
    rcases i with _ | _ | _ | _ | _ | i
    · obtain rfl := Option.some.inj hi
      clear hi hil
      refine wpOp_step rfl (fun K hK => ?_)
      have HKK := Lib.hid hK; clear hK
      simp only [putAll, Act.put, List.setIfInBounds_toArray, List.set_cons_zero, List.set_cons_succ]
      go_simp
      exact HKK.out _ _ ⟨_, by simp only [putAll, Act.put, List.setIfInBounds_toArray, List.set_cons_zero, List.set_cons_succ] <;> rfl, fun _ => rfl, h1, h2, h3, hB, hG, hW3⟩
    · obtain rfl := Option.some.inj hi
      clear hi hil
      have d0 := h0 (hall ⟨0, .data⟩ (by simp) rfl)
      obtain ⟨q0, q1, q2, q3, q4, q5, q6, q7, r0, r1, r2, r3, r4, r5, r6, r7⟩ := QS.out
      refine wpOp_step rfl (fun K hK => ?_)
      have HKK := Lib.hid hK; clear hK
      simp only [putAll, Act.put, List.setIfInBounds_toArray, List.set_cons_zero, List.set_cons_succ]
      go_simp
      exact HKK.out _ _ ⟨_, by simp only [putAll, Act.put, List.setIfInBounds_toArray, List.set_cons_zero, List.set_cons_succ, d0] <;> rfl, h0, fun _ => rfl, h2, h3, hB, hG, hW3⟩
    · obtain rfl := Option.some.inj hi
      clear hi hil
      refine wpOp_step rfl (fun K hK => ?_)
      have HKK := Lib.hid hK; clear hK
      simp only [putAll, Act.put, List.setIfInBounds_toArray, List.set_cons_zero, List.set_cons_succ]
      go_simp
      exact HKK.out _ _ ⟨_, by simp only [putAll, Act.put, List.setIfInBounds_toArray, List.set_cons_zero, List.set_cons_succ] <;> rfl, h0, h1, fun _ => rfl, h3, hB, hG, hW3⟩
    · obtain rfl := Option.some.inj hi
      clear hi hil
      have hap : b' 4 = false := by
        cases hz : b' 4 with
        | false => rfl
        | true => exact absurd (hW3 hz) (by rw [hun]; decide)
      have d2 := h2 (hall ⟨2, .data⟩ (by simp) rfl)
      have m0 := (HC1.out w' (hB hap).out.1).cell 0
      refine wpOp_step rfl (fun K hK => ?_)
      have HKK := Lib.hid hK; clear hK
      simp only [putAll, Act.put, List.setIfInBounds_toArray, List.set_cons_zero, List.set_cons_succ]
      go_simp
      exact HKK.out _ _ ⟨_, by simp only [putAll, Act.put, List.setIfInBounds_toArray, List.set_cons_zero, List.set_cons_succ, d2] <;> rfl, h0, h1, h2, fun _ => rfl, hB, hG, fun _ => rfl⟩
    · obtain rfl := Option.some.inj hi
      clear hi hil
      have hap : b' 4 = false := hun
      have d1 := h1 (hall ⟨1, .data⟩ (by simp) rfl)
      have d3 := h3 (hall ⟨3, .data⟩ (by simp) rfl)
      refine wpOp_step rfl (fun K hK => ?_)
      have HKK := Lib.hid hK; clear hK
      simp only [putAll, Act.put, List.setIfInBounds_toArray, List.set_cons_zero, List.set_cons_succ]
      go_simp
      refine (HL1.out w' (hB hap).out.1).mono ?_
      rintro e w2' ⟨rfl, ho2, hk2⟩
      exact HKK.out _ _ ⟨_, by simp only [putAll, Act.put, List.setIfInBounds_toArray, List.set_cons_zero, List.set_cons_succ, d1, d3] <;> rfl, h0, h1, h2, h3, fun h => Bool.noConfusion h, fun _ => Lib.hid (⟨ho2, hk2⟩), fun _ => hall ⟨3, .data⟩ (by simp) rfl⟩
    · omega
  rintro b' vs w2 hall ⟨h0, h1, h2, h3, hB, hG, hW3⟩
  have d0 := h0 (hall 0 (by simp))
  have d1 := h1 (hall 1 (by simp))
  have d2 := h2 (hall 2 (by simp))
  have d3 := h3 (hall 3 (by simp))
  have GG := hG (hall 4 (by simp))
  simp only [putAll, Act.put, List.setIfInBounds_toArray, List.set_cons_zero, List.set_cons_succ, d0, d1, d2, d3]
  clear hall h0 d0 h1 d1 h2 d2 h3 d3 hB hG hW3
  have H2 : Hid (OwnB w2 0 (.slice (some ⟨gs, 0, none⟩) n n) A2 ∧ Keep (fun k => k ≠ gs) W0 w2) := ⟨by rw [← HA2.out]; exact GG.out.1, GG.out.2⟩
  clear GG HC1 HL1 H1
  have HK2 := H2
  have HC2 : Hid (∀ W, Below w2.heap.size w2 W → Blk W gh 23 (hdC h)) := fun W hW => ((HK2.out.2).blk HW0.out.2.1 HW0.out.2.2.2.1).grow hW
  have HL2 : Hid (∀ W, Below w2.heap.size w2 W → Calls Try.prog 27 #[.slice (some ⟨gs, 8, none⟩) (1) (n - 8), .int .i64 h.half] W fun e w' => e = .returned (.tuple #[]) ∧ OwnB w' 0 (.slice (some ⟨gs, 0, none⟩) n n) (layB A2 (lowI h.half 1) (((8 : Nat) : Int))) ∧ Keep (fun k => k ≠ gs) W0 w') := fun W hW => by
    have e0 : 1 = 1 := by have := HZ.out; omega
    rw [e0]
    refine (lay14_c gs n n 8 1 _ A2 h.half W (HK2.out.1.grow hW) (by rw [HLN.out.2.1]) (by have := HZ.out; omega) (by have := HZ.out; omega) (by decide) ⟨HNB.out.2.2.1, by have := HNB.out.2.2.2.1; omega⟩).mono ?_
    rintro e w' ⟨he, ho, hk⟩
    exact ⟨he, ho, (HK2.out.2.trans (Keep.of_below hW)).trans hk⟩
  go_upto_region 5 with fail
  refine wp_region_put (by kernel_rfl) (by kernel_rfl) (by kernel_rfl) (fun b' vs w' => (b' 0 = true → vs 0 = .slice (some ⟨gs, 0, none⟩) n n) ∧ (b' 1 = true → vs 1 = .slice (some ⟨gs, 8, none⟩) (1) (n - 8)) ∧ (b' 2 = true → vs 2 = .pointer (some ⟨gh, 1, none⟩)) ∧ (b' 3 = true → vs 3 = .int .i64 h.half) ∧ (b' 4 = false → Hid (Below w2.heap.size w2 w' ∧ w2.heap.size ≤ w'.heap.size)) ∧ (b' 4 = true → Hid (OwnB w' 0 (.slice (some ⟨gs, 0, none⟩) n n) (layB A2 (lowI h.half 1) (((8 : Nat) : Int))) ∧ Keep (fun k => k ≠ gs) W0 w')) ∧ (b' 4 = true → b' 3 = true)) ?_ ?_ ?_
  · intro vs
    exact ⟨fun h => Bool.noConfusion h, fun h => Bool.noConfusion h, fun h => Bool.noConfusion h, fun h => Bool.noConfusion h, fun _ => Lib.hid ⟨below_drewN (Below.refl _ _) 1, Nat.le_refl _⟩, fun h => Bool.noConfusion h, fun h => Bool.noConfusion h⟩
  · rintro b' vs w' i op hi hun hall ⟨h0, h1, h2, h3, hB, hG, hW3⟩
    have hil : i < 5 := (List.getElem?_eq_some_iff.1 hi).1
    rcases i with _ | _ | _ | _ | _ | i
    · obtain rfl := Option.some.inj hi
      clear hi hil
      refine wpOp_step rfl (fun K hK => ?_)
      have HKK := Lib.hid hK; clear hK
      simp only [putAll, Act.put, List.setIfInBounds_toArray, List.set_cons_zero, List.set_cons_succ]
      go_simp
      exact HKK.out _ _ ⟨_, by simp only [putAll, Act.put, List.setIfInBounds_toArray, List.set_cons_zero, List.set_cons_succ] <;> rfl, fun _ => rfl, h1, h2, h3, hB, hG, hW3⟩
    · obtain rfl := Option.some.inj hi
      clear hi hil
      have d0 := h0 (hall ⟨0, .data⟩ (by simp) rfl)
      obtain ⟨q0, q1, q2, q3, q4, q5, q6, q7, r0, r1, r2, r3, r4, r5, r6, r7⟩ := QS.out
      refine wpOp_step rfl (fun K hK => ?_)
      have HKK := Lib.hid hK; clear hK
      simp only [putAll, Act.put, List.setIfInBounds_toArray, List.set_cons_zero, List.set_cons_succ]
      go_simp
      exact HKK.out _ _ ⟨_, by simp only [putAll, Act.put, List.setIfInBounds_toArray, List.set_cons_zero, List.set_cons_succ, d0] <;> rfl, h0, fun _ => rfl, h2, h3, hB, hG, hW3⟩
    · obtain rfl := Option.some.inj hi
      clear hi hil
      refine wpOp_step rfl (fun K hK => ?_)
      have HKK := Lib.hid hK; clear hK
      simp only [putAll, Act.put, List.setIfInBounds_toArray, List.set_cons_zero, List.set_cons_succ]
      go_simp
      exact HKK.out _ _ ⟨_, by simp only [putAll, Act.put, List.setIfInBounds_toArray, List.set_cons_zero, List.set_cons_succ] <;> rfl, h0, h1, fun _ => rfl, h3, hB, hG, hW3⟩
    · obtain rfl := Option.some.inj hi
      clear hi hil
      have hap : b' 4 = false := by
        cases hz : b' 4 with
        | false => rfl
        | true => exact absurd (hW3 hz) (by rw [hun]; decide)
      have d2 := h2 (hall ⟨2, .data⟩ (by simp) rfl)
      have m0 := (HC2.out w' (hB hap).out.1).cell 1
      refine wpOp_step rfl (fun K hK => ?_)
      have HKK := Lib.hid hK; clear hK
      simp only [putAll, Act.put, List.setIfInBounds_toArray, List.set_cons_zero, List.set_cons_succ]
      go_simp
      exact HKK.out _ _ ⟨_, by simp only [putAll, Act.put, List.setIfInBounds_toArray, List.set_cons_zero, List.set_cons_succ, d2] <;> rfl, h0, h1, h2, fun _ => rfl, hB, hG, fun _ => rfl⟩
    · obtain rfl := Option.some.inj hi
      clear hi hil
      have hap : b' 4 = false := hun
      have d1 := h1 (hall ⟨1, .data⟩ (by simp) rfl)
      have d3 := h3 (hall ⟨3, .data⟩ (by simp) rfl)
      refine wpOp_step rfl (fun K hK => ?_)
      have HKK := Lib.hid hK; clear hK
      simp only [putAll, Act.put, List.setIfInBounds_toArray, List.set_cons_zero, List.set_cons_succ]
      go_simp
      refine (HL2.out w' (hB hap).out.1).mono ?_
      rintro e w2' ⟨rfl, ho2, hk2⟩
      exact HKK.out _ _ ⟨_, by simp only [putAll, Act.put, List.setIfInBounds_toArray, List.set_cons_zero, List.set_cons_succ, d1, d3] <;> rfl, h0, h1, h2, h3, fun h => Bool.noConfusion h, fun _ => Lib.hid (⟨ho2, hk2⟩), fun _ => hall ⟨3, .data⟩ (by simp) rfl⟩
    · omega
  rintro b' vs w3 hall ⟨h0, h1, h2, h3, hB, hG, hW3⟩
  have d0 := h0 (hall 0 (by simp))
  have d1 := h1 (hall 1 (by simp))
  have d2 := h2 (hall 2 (by simp))
  have d3 := h3 (hall 3 (by simp))
  have GG := hG (hall 4 (by simp))
  simp only [putAll, Act.put, List.setIfInBounds_toArray, List.set_cons_zero, List.set_cons_succ, d0, d1, d2, d3]
  clear hall h0 d0 h1 d1 h2 d2 h3 d3 hB hG hW3
  have H3 : Hid (OwnB w3 0 (.slice (some ⟨gs, 0, none⟩) n n) A3 ∧ Keep (fun k => k ≠ gs) W0 w3) := ⟨by rw [← HA3.out]; exact GG.out.1, GG.out.2⟩
  clear GG HC2 HL2 H2
  have HK3 := H3
  have HC3 : Hid (∀ W, Below w3.heap.size w3 W → Blk W gh 23 (hdC h)) := fun W hW => ((HK3.out.2).blk HW0.out.2.1 HW0.out.2.2.2.1).grow hW
  have HL3 : Hid (∀ W, Below w3.heap.size w3 W → Calls Try.prog 27 #[.slice (some ⟨gs, 9, none⟩) (4) (n - 9), .int .i64 h.snap] W fun e w' => e = .returned (.tuple #[]) ∧ OwnB w' 0 (.slice (some ⟨gs, 0, none⟩) n n) (layB A3 (lowI h.snap 4) (((9 : Nat) : Int))) ∧ Keep (fun k => k ≠ gs) W0 w') := fun W hW => by
    have e0 : 4 = 4 := by have := HZ.out; omega
    rw [e0]
    refine (lay14_c gs n n 9 4 _ A3 h.snap W (HK3.out.1.grow hW) (by rw [HLN.out.2.2.1]) (by have := HZ.out; omega) (by have := HZ.out; omega) (by decide) ⟨HNB.out.2.2.2.2.1, by have := HNB.out.2.2.2.2.2.1; omega⟩).mono ?_
    rintro e w' ⟨he, ho, hk⟩
    exact ⟨he, ho, (HK3.out.2.trans (Keep.of_below hW)).trans hk⟩
  go_upto_region 6 with fail
  refine wp_region_put (by kernel_rfl) (by kernel_rfl) (by kernel_rfl) (fun b' vs w' => (b' 0 = true → vs 0 = .slice (some ⟨gs, 0, none⟩) n n) ∧ (b' 1 = true → vs 1 = .slice (some ⟨gs, 9, none⟩) (4) (n - 9)) ∧ (b' 2 = true → vs 2 = .pointer (some ⟨gh, 2, none⟩)) ∧ (b' 3 = true → vs 3 = .int .i64 h.snap) ∧ (b' 4 = false → Hid (Below w3.heap.size w3 w' ∧ w3.heap.size ≤ w'.heap.size)) ∧ (b' 4 = true → Hid (OwnB w' 0 (.slice (some ⟨gs, 0, none⟩) n n) (layB A3 (lowI h.snap 4) (((9 : Nat) : Int))) ∧ Keep (fun k => k ≠ gs) W0 w')) ∧ (b' 4 = true → b' 3 = true)) ?_ ?_ ?_
  · intro vs
    exact ⟨fun h => Bool.noConfusion h, fun h => Bool.noConfusion h, fun h => Bool.noConfusion h, fun h => Bool.noConfusion h, fun _ => Lib.hid ⟨below_drewN (Below.refl _ _) 1, Nat.le_refl _⟩, fun h => Bool.noConfusion h, fun h => Bool.noConfusion h⟩
  · rintro b' vs w' i op hi hun hall ⟨h0, h1, h2, h3, hB, hG, hW3⟩
    have hil : i < 5 := (List.getElem?_eq_some_iff.1 hi).1
    rcases i with _ | _ | _ | _ | _ | i
    · obtain rfl := Option.some.inj hi
      clear hi hil
      refine wpOp_step rfl (fun K hK => ?_)
      have HKK := Lib.hid hK; clear hK
      simp only [putAll, Act.put, List.setIfInBounds_toArray, List.set_cons_zero, List.set_cons_succ]
      go_simp
      exact HKK.out _ _ ⟨_, by simp only [putAll, Act.put, List.setIfInBounds_toArray, List.set_cons_zero, List.set_cons_succ] <;> rfl, fun _ => rfl, h1, h2, h3, hB, hG, hW3⟩
    · obtain rfl := Option.some.inj hi
      clear hi hil
      have d0 := h0 (hall ⟨0, .data⟩ (by simp) rfl)
      obtain ⟨q0, q1, q2, q3, q4, q5, q6, q7, r0, r1, r2, r3, r4, r5, r6, r7⟩ := QS.out
      refine wpOp_step rfl (fun K hK => ?_)
      have HKK := Lib.hid hK; clear hK
      simp only [putAll, Act.put, List.setIfInBounds_toArray, List.set_cons_zero, List.set_cons_succ]
      go_simp
      exact HKK.out _ _ ⟨_, by simp only [putAll, Act.put, List.setIfInBounds_toArray, List.set_cons_zero, List.set_cons_succ, d0] <;> rfl, h0, fun _ => rfl, h2, h3, hB, hG, hW3⟩
    · obtain rfl := Option.some.inj hi
      clear hi hil
      refine wpOp_step rfl (fun K hK => ?_)
      have HKK := Lib.hid hK; clear hK
      simp only [putAll, Act.put, List.setIfInBounds_toArray, List.set_cons_zero, List.set_cons_succ]
      go_simp
      exact HKK.out _ _ ⟨_, by simp only [putAll, Act.put, List.setIfInBounds_toArray, List.set_cons_zero, List.set_cons_succ] <;> rfl, h0, h1, fun _ => rfl, h3, hB, hG, hW3⟩
    · obtain rfl := Option.some.inj hi
      clear hi hil
      have hap : b' 4 = false := by
        cases hz : b' 4 with
        | false => rfl
        | true => exact absurd (hW3 hz) (by rw [hun]; decide)
      have d2 := h2 (hall ⟨2, .data⟩ (by simp) rfl)
      have m0 := (HC3.out w' (hB hap).out.1).cell 2
      refine wpOp_step rfl (fun K hK => ?_)
      have HKK := Lib.hid hK; clear hK
      simp only [putAll, Act.put, List.setIfInBounds_toArray, List.set_cons_zero, List.set_cons_succ]
      go_simp
      exact HKK.out _ _ ⟨_, by simp only [putAll, Act.put, List.setIfInBounds_toArray, List.set_cons_zero, List.set_cons_succ, d2] <;> rfl, h0, h1, h2, fun _ => rfl, hB, hG, fun _ => rfl⟩
    · obtain rfl := Option.some.inj hi
      clear hi hil
      have hap : b' 4 = false := hun
      have d1 := h1 (hall ⟨1, .data⟩ (by simp) rfl)
      have d3 := h3 (hall ⟨3, .data⟩ (by simp) rfl)
      refine wpOp_step rfl (fun K hK => ?_)
      have HKK := Lib.hid hK; clear hK
      simp only [putAll, Act.put, List.setIfInBounds_toArray, List.set_cons_zero, List.set_cons_succ]
      go_simp
      refine (HL3.out w' (hB hap).out.1).mono ?_
      rintro e w2' ⟨rfl, ho2, hk2⟩
      exact HKK.out _ _ ⟨_, by simp only [putAll, Act.put, List.setIfInBounds_toArray, List.set_cons_zero, List.set_cons_succ, d1, d3] <;> rfl, h0, h1, h2, h3, fun h => Bool.noConfusion h, fun _ => Lib.hid (⟨ho2, hk2⟩), fun _ => hall ⟨3, .data⟩ (by simp) rfl⟩
    · omega
  rintro b' vs w4 hall ⟨h0, h1, h2, h3, hB, hG, hW3⟩
  have d0 := h0 (hall 0 (by simp))
  have d1 := h1 (hall 1 (by simp))
  have d2 := h2 (hall 2 (by simp))
  have d3 := h3 (hall 3 (by simp))
  have GG := hG (hall 4 (by simp))
  simp only [putAll, Act.put, List.setIfInBounds_toArray, List.set_cons_zero, List.set_cons_succ, d0, d1, d2, d3]
  clear hall h0 d0 h1 d1 h2 d2 h3 d3 hB hG hW3
  have H4 : Hid (OwnB w4 0 (.slice (some ⟨gs, 0, none⟩) n n) A4 ∧ Keep (fun k => k ≠ gs) W0 w4) := ⟨by rw [← HA4.out]; exact GG.out.1, GG.out.2⟩
  clear GG HC3 HL3 H3
  have HK4 := H4
  have HC4 : Hid (∀ W, Below w4.heap.size w4 W → Blk W gh 23 (hdC h)) := fun W hW => ((HK4.out.2).blk HW0.out.2.1 HW0.out.2.2.2.1).grow hW
  have HL4 : Hid (∀ W, Below w4.heap.size w4 W → Calls Try.prog 27 #[.slice (some ⟨gs, 13, none⟩) (4) (n - 13), .int .i64 h.log] W fun e w' => e = .returned (.tuple #[]) ∧ OwnB w' 0 (.slice (some ⟨gs, 0, none⟩) n n) (layB A4 (lowI h.log 4) (((13 : Nat) : Int))) ∧ Keep (fun k => k ≠ gs) W0 w') := fun W hW => by
    have e0 : 4 = 4 := by have := HZ.out; omega
    rw [e0]
    refine (lay14_c gs n n 13 4 _ A4 h.log W (HK4.out.1.grow hW) (by rw [HLN.out.2.2.2.1]) (by have := HZ.out; omega) (by have := HZ.out; omega) (by decide) ⟨HNB.out.2.2.2.2.2.2.1, by have := HNB.out.2.2.2.2.2.2.2; omega⟩).mono ?_
    rintro e w' ⟨he, ho, hk⟩
    exact ⟨he, ho, (HK4.out.2.trans (Keep.of_below hW)).trans hk⟩
  go_upto_region 7 with fail
  refine wp_region_put (by kernel_rfl) (by kernel_rfl) (by kernel_rfl) (fun b' vs w' => (b' 0 = true → vs 0 = .slice (some ⟨gs, 0, none⟩) n n) ∧ (b' 1 = true → vs 1 = .slice (some ⟨gs, 13, none⟩) (4) (n - 13)) ∧ (b' 2 = true → vs 2 = .pointer (some ⟨gh, 3, none⟩)) ∧ (b' 3 = true → vs 3 = .int .i64 h.log) ∧ (b' 4 = false → Hid (Below w4.heap.size w4 w' ∧ w4.heap.size ≤ w'.heap.size)) ∧ (b' 4 = true → Hid (OwnB w' 0 (.slice (some ⟨gs, 0, none⟩) n n) (layB A4 (lowI h.log 4) (((13 : Nat) : Int))) ∧ Keep (fun k => k ≠ gs) W0 w')) ∧ (b' 4 = true → b' 3 = true)) ?_ ?_ ?_
  · intro vs
    exact ⟨fun h => Bool.noConfusion h, fun h => Bool.noConfusion h, fun h => Bool.noConfusion h, fun h => Bool.noConfusion h, fun _ => Lib.hid ⟨below_drewN (Below.refl _ _) 1, Nat.le_refl _⟩, fun h => Bool.noConfusion h, fun h => Bool.noConfusion h⟩
  · rintro b' vs w' i op hi hun hall ⟨h0, h1, h2, h3, hB, hG, hW3⟩
    have hil : i < 5 := (List.getElem?_eq_some_iff.1 hi).1
    rcases i with _ | _ | _ | _ | _ | i
    · obtain rfl := Option.some.inj hi
      clear hi hil
      refine wpOp_step rfl (fun K hK => ?_)
      have HKK := Lib.hid hK; clear hK
      simp only [putAll, Act.put, List.setIfInBounds_toArray, List.set_cons_zero, List.set_cons_succ]
      go_simp
      exact HKK.out _ _ ⟨_, by simp only [putAll, Act.put, List.setIfInBounds_toArray, List.set_cons_zero, List.set_cons_succ] <;> rfl, fun _ => rfl, h1, h2, h3, hB, hG, hW3⟩
    · obtain rfl := Option.some.inj hi
      clear hi hil
      have d0 := h0 (hall ⟨0, .data⟩ (by simp) rfl)
      obtain ⟨q0, q1, q2, q3, q4, q5, q6, q7, r0, r1, r2, r3, r4, r5, r6, r7⟩ := QS.out
      refine wpOp_step rfl (fun K hK => ?_)
      have HKK := Lib.hid hK; clear hK
      simp only [putAll, Act.put, List.setIfInBounds_toArray, List.set_cons_zero, List.set_cons_succ]
      go_simp
      exact HKK.out _ _ ⟨_, by simp only [putAll, Act.put, List.setIfInBounds_toArray, List.set_cons_zero, List.set_cons_succ, d0] <;> rfl, h0, fun _ => rfl, h2, h3, hB, hG, hW3⟩
    · obtain rfl := Option.some.inj hi
      clear hi hil
      refine wpOp_step rfl (fun K hK => ?_)
      have HKK := Lib.hid hK; clear hK
      simp only [putAll, Act.put, List.setIfInBounds_toArray, List.set_cons_zero, List.set_cons_succ]
      go_simp
      exact HKK.out _ _ ⟨_, by simp only [putAll, Act.put, List.setIfInBounds_toArray, List.set_cons_zero, List.set_cons_succ] <;> rfl, h0, h1, fun _ => rfl, h3, hB, hG, hW3⟩
    · obtain rfl := Option.some.inj hi
      clear hi hil
      have hap : b' 4 = false := by
        cases hz : b' 4 with
        | false => rfl
        | true => exact absurd (hW3 hz) (by rw [hun]; decide)
      have d2 := h2 (hall ⟨2, .data⟩ (by simp) rfl)
      have m0 := (HC4.out w' (hB hap).out.1).cell 3
      refine wpOp_step rfl (fun K hK => ?_)
      have HKK := Lib.hid hK; clear hK
      simp only [putAll, Act.put, List.setIfInBounds_toArray, List.set_cons_zero, List.set_cons_succ]
      go_simp
      exact HKK.out _ _ ⟨_, by simp only [putAll, Act.put, List.setIfInBounds_toArray, List.set_cons_zero, List.set_cons_succ, d2] <;> rfl, h0, h1, h2, fun _ => rfl, hB, hG, fun _ => rfl⟩
    · obtain rfl := Option.some.inj hi
      clear hi hil
      have hap : b' 4 = false := hun
      have d1 := h1 (hall ⟨1, .data⟩ (by simp) rfl)
      have d3 := h3 (hall ⟨3, .data⟩ (by simp) rfl)
      refine wpOp_step rfl (fun K hK => ?_)
      have HKK := Lib.hid hK; clear hK
      simp only [putAll, Act.put, List.setIfInBounds_toArray, List.set_cons_zero, List.set_cons_succ]
      go_simp
      refine (HL4.out w' (hB hap).out.1).mono ?_
      rintro e w2' ⟨rfl, ho2, hk2⟩
      exact HKK.out _ _ ⟨_, by simp only [putAll, Act.put, List.setIfInBounds_toArray, List.set_cons_zero, List.set_cons_succ, d1, d3] <;> rfl, h0, h1, h2, h3, fun h => Bool.noConfusion h, fun _ => Lib.hid (⟨ho2, hk2⟩), fun _ => hall ⟨3, .data⟩ (by simp) rfl⟩
    · omega
  rintro b' vs w5 hall ⟨h0, h1, h2, h3, hB, hG, hW3⟩
  have d0 := h0 (hall 0 (by simp))
  have d1 := h1 (hall 1 (by simp))
  have d2 := h2 (hall 2 (by simp))
  have d3 := h3 (hall 3 (by simp))
  have GG := hG (hall 4 (by simp))
  simp only [putAll, Act.put, List.setIfInBounds_toArray, List.set_cons_zero, List.set_cons_succ, d0, d1, d2, d3]
  clear hall h0 d0 h1 d1 h2 d2 h3 d3 hB hG hW3
  have H5 : Hid (OwnB w5 0 (.slice (some ⟨gs, 0, none⟩) n n) A5 ∧ Keep (fun k => k ≠ gs) W0 w5) := ⟨by rw [← HA5.out]; exact GG.out.1, GG.out.2⟩
  clear GG HC4 HL4 H4
  have HK5 := H5
  have HC5 : Hid (∀ W, Below w5.heap.size w5 W → Blk W gh 23 (hdC h)) := fun W hW => ((HK5.out.2).blk HW0.out.2.1 HW0.out.2.2.2.1).grow hW
  have HL5 : Hid (∀ W, Below w5.heap.size w5 W → Calls Try.prog 27 #[.slice (some ⟨gs, n - 8, none⟩) (n - (n - 8)) (n - (n - 8)), .int .i64 h.gen] W fun e w' => e = .returned (.tuple #[]) ∧ OwnB w' 0 (.slice (some ⟨gs, 0, none⟩) n n) (layB A5 (lowI h.gen 8) (((n - 8 : Nat) : Int))) ∧ Keep (fun k => k ≠ gs) W0 w') := fun W hW => by
    have e0 : (n - (n - 8)) = 8 := by have := HZ.out; omega
    rw [e0]
    refine (lay14_c gs n n (n - 8) 8 _ A5 h.gen W (HK5.out.1.grow hW) (by rw [HLN.out.2.2.2.2]) (by have := HZ.out; omega) (by have := HZ.out; omega) (by decide) ⟨HNB.out.1, HNB.out.2.1⟩).mono ?_
    rintro e w' ⟨he, ho, hk⟩
    exact ⟨he, ho, (HK5.out.2.trans (Keep.of_below hW)).trans hk⟩
  go_upto_region 8 with fail
  refine wp_region_put (by kernel_rfl) (by kernel_rfl) (by kernel_rfl) (fun b' vs w' => (b' 0 = true → vs 0 = .slice (some ⟨gs, 0, none⟩) n n) ∧ (b' 1 = true → vs 1 = .int .i64 (n : Int)) ∧ (b' 2 = true → vs 2 = .int .i64 ((n : Int) - 8)) ∧ (b' 3 = true → vs 3 = .slice (some ⟨gs, n - 8, none⟩) (n - (n - 8)) (n - (n - 8))) ∧ (b' 4 = true → vs 4 = .pointer (some ⟨gh, 0, none⟩)) ∧ (b' 5 = true → vs 5 = .int .i64 h.gen) ∧ (b' 6 = false → Hid (Below w5.heap.size w5 w' ∧ w5.heap.size ≤ w'.heap.size)) ∧ (b' 6 = true → Hid (OwnB w' 0 (.slice (some ⟨gs, 0, none⟩) n n) (layB A5 (lowI h.gen 8) (((n - 8 : Nat) : Int))) ∧ Keep (fun k => k ≠ gs) W0 w')) ∧ (b' 6 = true → b' 5 = true)) ?_ ?_ ?_
  · intro vs
    exact ⟨fun h => Bool.noConfusion h, fun h => Bool.noConfusion h, fun h => Bool.noConfusion h, fun h => Bool.noConfusion h, fun h => Bool.noConfusion h, fun h => Bool.noConfusion h, fun _ => Lib.hid ⟨below_drewN (Below.refl _ _) 1, Nat.le_refl _⟩, fun h => Bool.noConfusion h, fun h => Bool.noConfusion h⟩
  · rintro b' vs w' i op hi hun hall ⟨h0, h1, h2, h3, h4, h5, hB, hG, hW5⟩
    have hil : i < 7 := (List.getElem?_eq_some_iff.1 hi).1
    rcases i with _ | _ | _ | _ | _ | _ | _ | i
    · obtain rfl := Option.some.inj hi
      clear hi hil
      refine wpOp_step rfl (fun K hK => ?_)
      have HKK := Lib.hid hK; clear hK
      simp only [putAll, Act.put, List.setIfInBounds_toArray, List.set_cons_zero, List.set_cons_succ]
      go_simp
      exact HKK.out _ _ ⟨_, by simp only [putAll, Act.put, List.setIfInBounds_toArray, List.set_cons_zero, List.set_cons_succ] <;> rfl, fun _ => rfl, h1, h2, h3, h4, h5, hB, hG, hW5⟩
    · obtain rfl := Option.some.inj hi
      clear hi hil
      refine wpOp_step rfl (fun K hK => ?_)
      have HKK := Lib.hid hK; clear hK
      simp only [putAll, Act.put, List.setIfInBounds_toArray, List.set_cons_zero, List.set_cons_succ]
      go_simp
      exact HKK.out _ _ ⟨_, by simp only [putAll, Act.put, List.setIfInBounds_toArray, List.set_cons_zero, List.set_cons_succ] <;> rfl, h0, fun _ => rfl, h2, h3, h4, h5, hB, hG, hW5⟩
    · obtain rfl := Option.some.inj hi
      clear hi hil
      have d1 := h1 (hall ⟨1, .data⟩ (by simp) rfl)
      refine wpOp_step rfl (fun K hK => ?_)
      have HKK := Lib.hid hK; clear hK
      simp only [putAll, Act.put, List.setIfInBounds_toArray, List.set_cons_zero, List.set_cons_succ]
      go_simp
      exact HKK.out _ _ ⟨_, by simp only [putAll, Act.put, List.setIfInBounds_toArray, List.set_cons_zero, List.set_cons_succ, d1, HN8.out.1] <;> rfl, h0, h1, fun _ => rfl, h3, h4, h5, hB, hG, hW5⟩
    · obtain rfl := Option.some.inj hi
      clear hi hil
      have d0 := h0 (hall ⟨0, .data⟩ (by simp) rfl)
      have d2 := h2 (hall ⟨2, .data⟩ (by simp) rfl)
      obtain ⟨q0, q1, q2, q3, q4, q5, q6, q7, r0, r1, r2, r3, r4, r5, r6, r7⟩ := QS.out
      refine wpOp_step rfl (fun K hK => ?_)
      have HKK := Lib.hid hK; clear hK
      simp only [putAll, Act.put, List.setIfInBounds_toArray, List.set_cons_zero, List.set_cons_succ]
      go_simp
      exact HKK.out _ _ ⟨_, by simp only [putAll, Act.put, List.setIfInBounds_toArray, List.set_cons_zero, List.set_cons_succ, d0, d2] <;> rfl, h0, h1, h2, fun _ => rfl, h4, h5, hB, hG, hW5⟩
    · obtain rfl := Option.some.inj hi
      clear hi hil
      refine wpOp_step rfl (fun K hK => ?_)
      have HKK := Lib.hid hK; clear hK
      simp only [putAll, Act.put, List.setIfInBounds_toArray, List.set_cons_zero, List.set_cons_succ]
      go_simp
      exact HKK.out _ _ ⟨_, by simp only [putAll, Act.put, List.setIfInBounds_toArray, List.set_cons_zero, List.set_cons_succ] <;> rfl, h0, h1, h2, h3, fun _ => rfl, h5, hB, hG, hW5⟩
    · obtain rfl := Option.some.inj hi
      clear hi hil
      have hap : b' 6 = false := by
        cases hz : b' 6 with
        | false => rfl
        | true => exact absurd (hW5 hz) (by rw [hun]; decide)
      have d4 := h4 (hall ⟨4, .data⟩ (by simp) rfl)
      have m0 := (HC5.out w' (hB hap).out.1).cell 0
      refine wpOp_step rfl (fun K hK => ?_)
      have HKK := Lib.hid hK; clear hK
      simp only [putAll, Act.put, List.setIfInBounds_toArray, List.set_cons_zero, List.set_cons_succ]
      go_simp
      exact HKK.out _ _ ⟨_, by simp only [putAll, Act.put, List.setIfInBounds_toArray, List.set_cons_zero, List.set_cons_succ, d4] <;> rfl, h0, h1, h2, h3, h4, fun _ => rfl, hB, hG, fun _ => rfl⟩
    · obtain rfl := Option.some.inj hi
      clear hi hil
      have hap : b' 6 = false := hun
      have d3 := h3 (hall ⟨3, .data⟩ (by simp) rfl)
      have d5 := h5 (hall ⟨5, .data⟩ (by simp) rfl)
      refine wpOp_step rfl (fun K hK => ?_)
      have HKK := Lib.hid hK; clear hK
      simp only [putAll, Act.put, List.setIfInBounds_toArray, List.set_cons_zero, List.set_cons_succ]
      go_simp
      refine (HL5.out w' (hB hap).out.1).mono ?_
      rintro e w2' ⟨rfl, ho2, hk2⟩
      exact HKK.out _ _ ⟨_, by simp only [putAll, Act.put, List.setIfInBounds_toArray, List.set_cons_zero, List.set_cons_succ, d3, d5] <;> rfl, h0, h1, h2, h3, h4, h5, fun h => Bool.noConfusion h, fun _ => Lib.hid (⟨ho2, hk2⟩), fun _ => hall ⟨5, .data⟩ (by simp) rfl⟩
    · omega
  rintro b' vs w6 hall ⟨h0, h1, h2, h3, h4, h5, hB, hG, hW5⟩
  have d0 := h0 (hall 0 (by simp))
  have d1 := h1 (hall 1 (by simp))
  have d2 := h2 (hall 2 (by simp))
  have d3 := h3 (hall 3 (by simp))
  have d4 := h4 (hall 4 (by simp))
  have d5 := h5 (hall 5 (by simp))
  have GG := hG (hall 6 (by simp))
  simp only [putAll, Act.put, List.setIfInBounds_toArray, List.set_cons_zero, List.set_cons_succ, d0, d1, d2, d3, d4, d5]
  clear hall h0 d0 h1 d1 h2 d2 h3 d3 h4 d4 h5 d5 hB hG hW5
  have H6 : Hid (OwnB w6 0 (.slice (some ⟨gs, 0, none⟩) n n) A6 ∧ Keep (fun k => k ≠ gs) W0 w6) := ⟨by rw [← HA6.out]; exact GG.out.1, GG.out.2⟩
  clear GG HC5 HL5 H5
  have HFIN : Hid (OwnB w6 w.heap.size (.slice (some ⟨gs, 0, none⟩) n n) (hdrB h n) ∧ Below w.heap.size w w6) := by
    have hb := HW0.out.1
    refine ⟨?_, hb.trans (H6.out.2.below (fun k hk e => by have := HW0.out.2.2.2.2; omega) hb.size)⟩
    rw [← HAA.out]
    exact owns_raise H6.out.1 HW0.out.2.2.1
  go_wp2_with fail
  go_ret
  exact ⟨_, rfl, HFIN.out⟩
end Go.Proofs.Ytdcjchakgfpgaaa
