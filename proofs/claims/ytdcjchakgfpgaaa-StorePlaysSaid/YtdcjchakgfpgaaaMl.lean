/- Layer 14: package store: Append. -/
import Derived.Test.YtdcjchakgfpgaaaMk
namespace Go.Proofs.Ytdcjchakgfpgaaa
open Go.RowKit
set_option maxHeartbeats 8000000 in
set_option maxRecDepth 100000 in
theorem append_c (U : Nat → Prop) (w : World) (a g : Nat) (s : SM) (m : Int) (bv : Value) (B : List Int) (st : SS U w a g s) (ok : OkD s.d m) (sok : SOk s.d s.h s.D) (row : RowB w bv B) (hB : OkB B) (hbl : B.length ≤ 400) (hfit : capI s.d ≤ 20000) (hoff : B.length ≠ 0 → ∀ k, bv.ownBlock = some k → ¬ U k) (hg : s.h.gen ≤ 999999) (hm : m + (needN s.d.size.toNat (s.D.length + B.length) (s.D.length / s.d.size.toNat) : Int) + 3 ≤ 1000) :
    Calls Try.prog 19 #[ptrD a, bv] w fun e w' => ∃ U', e = .returned (.int .i64 (appI s B).2) ∧ SS U' w' a g (appI s B).1 ∧ To U w U' w' := by
  obtain ⟨d, h, D, f⟩ := s
  dsimp only at *
  obtain ⟨T, sv, hd, sat, hU⟩ := st
  dsimp only at hd sat
  obtain ⟨so, sc, hsv⟩ := sat.all.shape
  obtain ⟨L, hL⟩ : ∃ L, D.length = L := ⟨_, rfl⟩
  rw [hL] at hsv
  subst hsv
  obtain ⟨bo, bc, hbv⟩ := row.shape
  obtain ⟨M, hM⟩ : ∃ L, B.length = L := ⟨_, rfl⟩
  rw [hM] at hbv
  subst hbv
  have hmade := ok.made
  have ok1 : OkD d 1000 := ok.mono (by have := ok.done; omega)
  obtain ⟨z, hz⟩ : ∃ z : Nat, d.size = (z : Int) := ⟨d.size.toNat, by have := sok.siz; omega⟩
  have hzn : d.size.toNat = z := by omega
  have hz5 : 32 ≤ z ∧ z ≤ 512 := by have := hmade.2.2.2; have := sok.siz; omega
  rw [hzn, hL, hM] at hm
  have HRM := Lib.hid (sRoom_c hd ok1 sat sok)
  obtain ⟨c, hc⟩ : ∃ c, capI d = c := ⟨_, rfl⟩
  rw [hc, hL] at HRM
  have hlc : (L : Int) ≤ c := by have := sok.cap; omega
  by_cases hgt : (M : Int) > c - (L : Int)
  · have HAI : Hid (appI ⟨d, h, D, f⟩ B = (⟨d, h, D, f⟩, 42)) := by unfold appI Hid; dsimp only; rw [if_pos (by omega)]
    rw [HAI.out]
    have hd1 : decide ((M : Int) > c - (L : Int)) = true := decide_eq_true hgt
    have hd2 : decide (c - (L : Int) < (M : Int)) = true := decide_eq_true hgt
    have HX := Lib.hid (And.intro hd (And.intro sat hU))
    clear hd sat hU row hB hbl hfit hoff hg hm ok ok1 sok hmade hc hz hzn hz5 hL hM hlc
    go_enter Try.func19, Try.ntmps19
    go_wp2_with fail
    refine (HRM.out).mono ?_
    rintro e w1 ⟨rfl, hb⟩
    have H1 : Hid (SS U w1 a g ⟨d, h, D, f⟩ ∧ To U w U w1) := ⟨⟨T, _, at_grow HX.out.1 hb, HX.out.2.1.grow hb, HX.out.2.2⟩, To.below hb⟩
    clear hb
    go_wp2_with fail
    go_ret
    exact ⟨U, rfl, H1.out⟩
  have hd1 : decide ((M : Int) > c - (L : Int)) = false := decide_eq_false hgt
  have hd2 : decide (c - (L : Int) < (M : Int)) = false := decide_eq_false hgt
  obtain ⟨l1, hl1⟩ : ∃ l, h.log + (M : Int) = l := ⟨_, rfl⟩
  obtain ⟨i0, hi0⟩ : ∃ i, L / z = i := ⟨_, rfl⟩
  obtain ⟨r9, hr9⟩ : ∃ r, saveI ⟨d, h, D, f⟩ ⟨h.gen, h.half, h.snap, l1⟩ (D ++ B) i0 = r := ⟨_, rfl⟩
  have HAI : Hid (appI ⟨d, h, D, f⟩ B = r9) := by
    unfold appI Hid
    dsimp only
    rw [if_neg (by omega), hM, hL, hl1, hzn, hi0, hr9]
  rw [HAI.out]
  have hlen := sok.len
  have hsn := sok.snap
  have hlo := sok.log
  have hw1 : wrap64 (h.log + (M : Int)) = l1 := by rw [← hl1]; exact wrapR _ (by omega) (by omega)
  have HX := Lib.hid (And.intro hd (And.intro sat hU))
  have HROW0 := Lib.hid (And.intro row hoff)
  have HLE : Hid (D.length + B.length ≤ 100000) := by rw [hL, hM]; unfold Hid; omega
  have HZ : Hid (32 ≤ z ∧ ¬ ((z : Int) = 0)) := ⟨hz5.1, by omega⟩
  have hiz : i0 * z ≤ L := by rw [← hi0]; exact Nat.div_mul_le_self _ _
  have EQ : Hid (IntKind.i64.wrap ((L : Int) / (z : Int)) = (i0 : Int)) := by
    have h1 : (L : Int) / (z : Int) = (i0 : Int) := by rw [← hi0]; exact (Int.natCast_ediv L z).symm
    have h2 : i0 ≤ L := by rw [← hi0]; exact Nat.div_le_self _ _
    rw [Hid, h1, wrap_is]
    exact wrapR _ (by omega) (by omega)
  have HSAV : Hid (∀ W sv2, At12 T W g d → SAt T W a g h (.slice so L sc) D f → OwnB W 0 sv2 (D ++ B) → (∀ N, N ≤ W.heap.size → (∀ k, sv2.ownBlock = some k → U k ∨ N ≤ k) → (∀ k, sv2.ownBlock = some k → ¬ T k) → Calls Try.prog 38 #[ptrD a, hdV ⟨h.gen, h.half, h.snap, l1⟩, sv2, .int .i64 (i0 : Int)] W fun e w' => ∃ U', e = .returned (.int .i64 r9.2) ∧ SS U' w' a g r9.1 ∧ Keep (fun k => ¬ T k ∧ k ≠ a) W w' ∧ ∀ k, U' k → U k ∨ N ≤ k)) := fun W sv2 a1 a2 a3 N hN a4 a5 => by
    have key := save_ss (s := ⟨d, h, D, f⟩) (sv0 := (Value.slice so L sc)) (sv := sv2) (m := m) ⟨h.gen, h.half, h.snap, l1⟩ (D ++ B) i0 a1 ok (by dsimp only; rw [hzn, List.length_append, hL, hM, ← hi0]; exact hm) a2 a3 a5 sok.sec sok.siz (OkB.append sok.byts hB) (by rw [List.length_append, hL, hM]; omega) ⟨by have := sok.gen; dsimp only; omega, by dsimp only; omega⟩ sok.half ⟨hsn, by dsimp only; omega⟩ ⟨by dsimp only; omega, by dsimp only; omega⟩ (by dsimp only; rw [hzn, List.length_append, hL]; omega) U (fun k hk => (hU k).2 hk) N hN a4
    rw [hr9] at key
    exact key
  have HSK := Lib.hid sok
  have HOK := Lib.hid (And.intro ok1 hmade)
  obtain ⟨c0, c1, c2, c3, c4, c5, c6⟩ := sat.blk.s7
  have HZS : Hid (d.size = (z : Int)) := hz
  have HLL : Hid (D.length = L) := hL
  have HALT : Hid (a < w.heap.size) := sat.blk.lt
  clear hd sat hU row hB hbl hfit hoff hg hm ok ok1 sok hmade hc hz hzn hz5 hL hM hlc hgt hi0 hr9 hlen hsn hlo hiz hl1
  go_enter Try.func19, Try.ntmps19
  go_wp2_with fail
  refine (HRM.out).mono ?_
  rintro e w1 ⟨rfl, hb⟩
  have H1 := Lib.hid hb
  clear hb c0 c1 c2 c3 c4 c5 c6
  obtain ⟨c0, c1, c2, c3, c4, c5, c6⟩ := (HX.out.2.1.blk.grow H1.out).s7
  obtain ⟨G, hG⟩ : ∃ G, w1.heap.size = G := ⟨_, rfl⟩
  have HGG := Lib.hid hG
  obtain ⟨wa, hwa⟩ : ∃ WW, w1.alloc (.cells #[.int .i64 0, .int .i64 0, .int .i64 0, .int .i64 0] 23) = WW := ⟨_, rfl⟩
  have HA : Hid (Below w1.heap.size w1 wa ∧ Blk wa G 23 #[.int .i64 0, .int .i64 0, .int .i64 0, .int .i64 0]) := by
    rw [← hwa, ← hG]
    exact ⟨(Below.refl _ _).alloc (Nat.le_refl _) _, Blk.new _ _ _⟩
  have z0 : wa.cell? ⟨G, 0, none⟩ = some (.int .i64 0) := HA.out.2.cell 0
  have z1 : wa.cell? ⟨G, 1, none⟩ = some (.int .i64 0) := HA.out.2.cell 1
  have z2 : wa.cell? ⟨G, 2, none⟩ = some (.int .i64 0) := HA.out.2.cell 2
  have z3 : wa.cell? ⟨G, 3, none⟩ = some (.int .i64 0) := HA.out.2.cell 3
  have y0 := HA.out.2.free 0
  have y1 := HA.out.2.free 1
  have y2 := HA.out.2.free 2
  have y3 := HA.out.2.free 3
  have ylt := HA.out.2.lt
  go_upto_region 4 with fail
  try rw [hwa]
  try rw [hG]
  clear hwa hG z0 z1 z2 z3 y0 y1 y2 y3 ylt c0 c1 c2 c3 c4 c5 c6
  obtain ⟨wb, hwb⟩ : ∃ WW, (((wa.setCell ⟨G, 0, none⟩ (.int .i64 h.gen)).setCell ⟨G, 1, none⟩ (.int .i64 h.half)).setCell ⟨G, 2, none⟩ (.int .i64 h.snap)).setCell ⟨G, 3, none⟩ (.int .i64 h.log) = WW := ⟨_, rfl⟩
  have HBB : Hid (Below w1.heap.size w1 wb ∧ Blk wb G 23 (hdC h)) := by
    rw [← hwb]
    have hle : w1.heap.size ≤ G := by rw [HGG.out]; exact Nat.le_refl _
    exact ⟨((((HA.out.1).setCell hle _).setCell hle _).setCell hle _).setCell hle _, set4_blk HA.out.2 _ _ _ _⟩
  rw [hwb]
  clear hwb HA
  have z3 : wb.cell? ⟨G, 3, none⟩ = some (.int .i64 h.log) := HBB.out.2.cell 3
  have y3 := HBB.out.2.free 3
  have ylt := HBB.out.2.lt
  go_upto_region 5 with fail
  clear z3 y3 ylt hw1 hd1 hd2
  obtain ⟨w3, hw3⟩ : ∃ WW, wb.setCell ⟨G, 3, none⟩ (.int .i64 l1) = WW := ⟨_, rfl⟩
  have H3 : Hid (Below w.heap.size w w3 ∧ Blk w3 G 23 (hdC ⟨h.gen, h.half, h.snap, l1⟩) ∧ (∀ k, U k → k ≠ G)) := by
    rw [← hw3]
    have hle : w1.heap.size ≤ G := by rw [HGG.out]; exact Nat.le_refl _
    have hlw : w.heap.size ≤ G := Nat.le_trans H1.out.size hle
    refine ⟨H1.out.trans (((HBB.out.1).setCell hle _).mono H1.out.size), HBB.out.2.set 3 _, fun k hk e => ?_⟩
    rcases (HX.out.2.2 k).1 hk with h2 | h2 | h2
    · have := at_lt HX.out.1 h2; omega
    · have := HALT.out; omega
    · have := (World.ownsRow.lt HX.out.2.1.all k h2).2; omega
  rw [hw3]
  clear hw3 HBB
  have HOW3 : Hid (OwnB w3 0 (.slice so L sc) D) := HX.out.2.1.all.grow H3.out.1
  have HQA : Hid (∀ W, Keep (fun k => (Value.slice so L sc : Value).ownBlock ≠ some k) w3 W ∧ OwnB W 0 (.slice so L sc) D → At12 T W g d ∧ SAt T W a g h (.slice so L sc) D f) := fun W hq => by
    have h1 := at_grow HX.out.1 H3.out.1
    have h2 := HX.out.2.1.grow H3.out.1
    refine ⟨at_keep h1 (hq.1.mono fun k hT e => h2.offS k e hT), hq.1.blk h2.blk (fun e => owns_off h2.all h2.blk (by decide) e), hq.2, h2.offA, h2.offS⟩
  have HROW : Hid (∀ W, Keep (fun k => (Value.slice so L sc : Value).ownBlock ≠ some k) w3 W ∧ OwnB W 0 (.slice so L sc) D → RowB W (.slice bo M bc) B) := fun W hq => by
    have hr := HROW0.out.1.on H3.out.1
    refine hr.keepK hq.1 (fun h0 k e e2 => HROW0.out.2 h0 k e ((HX.out.2.2 k).2 (.inr (.inr e2))))
  have HLD : Hid (∀ W, Keep (fun k => (Value.slice so L sc : Value).ownBlock ≠ some k) w3 W ∧ OwnB W 0 (.slice so L sc) D → W.cell? ⟨a, 0, none⟩ = some (ptrD g) ∧ W.cell? ⟨a, 5, none⟩ = some (.slice so L sc) ∧ W.cell? ⟨G, 0, none⟩ = some (.int .i64 h.gen) ∧ W.cell? ⟨G, 1, none⟩ = some (.int .i64 h.half) ∧ W.cell? ⟨G, 2, none⟩ = some (.int .i64 h.snap) ∧ W.cell? ⟨G, 3, none⟩ = some (.int .i64 l1)) := fun W hq => by
    obtain ⟨k0, _, _, _, _, k5, _⟩ := (HQA.out W hq).2.blk.s7
    have hb := hq.1.blk H3.out.2.1 (fun e => H3.out.2.2 G ((HX.out.2.2 G).2 (.inr (.inr e))) rfl)
    exact ⟨k0, k5, hb.cell 0, hb.cell 1, hb.cell 2, hb.cell 3⟩
  have HUS : Hid (∀ W, Keep (fun k => (Value.slice so L sc : Value).ownBlock ≠ some k) w3 W ∧ OwnB W 0 (.slice so L sc) D → Calls Try.prog 42 #[ptrD a] W fun e w' => e = .returned (.int .i64 (L : Int)) ∧ Below W.heap.size W w') := fun W hq => by
    have key := sUsed_c (HQA.out W hq).2 HSK.out HOK.out.2
    rw [HLL.out] at key
    exact key
  have HSZ : Hid (∀ W, Keep (fun k => (Value.slice so L sc : Value).ownBlock ≠ some k) w3 W ∧ OwnB W 0 (.slice so L sc) D → Calls Try.prog 34 #[ptrD g] W fun e w' => e = .returned (.int .i64 (z : Int)) ∧ Below W.heap.size W w') := fun W hq => by
    have key := kSize_c T W g d (HQA.out W hq).1 HOK.out.1
    rw [HZS.out] at key
    exact key
  have HSV : Hid (∀ W v, Keep (fun k => (Value.slice so L sc : Value).ownBlock ≠ some k) w3 W ∧ OwnB W 0 (.slice so L sc) D → (OwnB W 0 v (D ++ B) ∧ ∀ k, v.ownBlock = some k → (Value.slice so L sc).ownBlock = some k ∨ w3.heap.size ≤ k) → Calls Try.prog 38 #[ptrD a, hdV ⟨h.gen, h.half, h.snap, l1⟩, v, .int .i64 (i0 : Int)] W fun e w' => ∃ U', e = .returned (.int .i64 r9.2) ∧ SS U' w' a g r9.1 ∧ Keep (fun k => ¬ U k) w3 w' ∧ ∀ k, U' k → U k ∨ w3.heap.size ≤ k) := fun W v hq hv => by
    have hqa := HQA.out W hq
    refine (HSAV.out W v hqa.1 hqa.2 hv.1 w3.heap.size hq.1.size (fun k e => (hv.2 k e).imp (fun h2 => (HX.out.2.2 k).2 (.inr (.inr h2))) id) (fun k e hT => ?_)).mono ?_
    · rcases hv.2 k e with h2 | h2
      · exact hqa.2.offS k h2 hT
      · have h5 := at_lt (at_grow HX.out.1 H3.out.1) hT
        omega
    · rintro e w' ⟨U', he, hs, hk, hn⟩
      refine ⟨U', he, hs, ⟨hk.os.trans hq.1.os, hk.tape.trans hq.1.tape, hk.output.trans hq.1.output, Nat.le_trans hq.1.size hk.size, fun k hu hl => ?_⟩, hn⟩
      rw [hk.block k ⟨fun hT => hu ((HX.out.2.2 k).2 (.inl hT)), fun e => hu ((HX.out.2.2 k).2 (.inr (.inl e)))⟩ (Nat.lt_of_lt_of_le hl hq.1.size)]
      exact hq.1.block k (fun e => hu ((HX.out.2.2 k).2 (.inr (.inr e)))) hl
  go_upto_region 5 with fail
  refine wp_region_put (by kernel_rfl) (by kernel_rfl) (by kernel_rfl) (fun b' vs w' => (b' 0 = true → vs 0 = .pointer (some ⟨a, 0, none⟩)) ∧ (b' 1 = true → vs 1 = hdV ⟨h.gen, h.half, h.snap, l1⟩) ∧ (b' 2 = true → vs 2 = .pointer (some ⟨a, 0, none⟩)) ∧ (b' 3 = true → vs 3 = .pointer (some ⟨a, 0, none⟩)) ∧ (b' 4 = true → vs 4 = .pointer (some ⟨a, 5, none⟩)) ∧ (b' 5 = true → vs 5 = .slice so L sc) ∧ (b' 6 = true → vs 6 = .slice bo M bc) ∧ (b' 8 = true → vs 8 = .pointer (some ⟨a, 0, none⟩)) ∧ (b' 9 = true → vs 9 = .int .i64 (L : Int)) ∧ (b' 10 = true → vs 10 = .pointer (some ⟨a, 0, none⟩)) ∧ (b' 11 = true → vs 11 = .pointer (some ⟨a, 0, none⟩)) ∧ (b' 12 = true → vs 12 = .pointer (some ⟨a, 0, none⟩)) ∧ (b' 13 = true → vs 13 = ptrD g) ∧ (b' 14 = true → vs 14 = .int .i64 (z : Int)) ∧ (b' 15 = true → vs 15 = .int .i64 (i0 : Int)) ∧ (b' 7 = true → b' 16 = false → Hid (OwnB w' 0 (vs 7) (D ++ B) ∧ ∀ k, (vs 7).ownBlock = some k → (Value.slice so L sc : Value).ownBlock = some k ∨ w3.heap.size ≤ k)) ∧ (b' 16 = false → Hid (Below 0 w3 w' ∧ 0 ≤ w'.heap.size)) ∧ (b' 16 = false → Hid (Keep (fun k => (Value.slice so L sc : Value).ownBlock ≠ some k) w3 w' ∧ OwnB w' 0 (.slice so L sc) D)) ∧ (b' 16 = true → Hid (∃ U9, (vs 16) = .int .i64 r9.2 ∧ SS U9 w' a g r9.1 ∧ Keep (fun k => ¬ U k) w3 w' ∧ ∀ k, U9 k → U k ∨ w3.heap.size ≤ k)) ∧ (b' 7 = true → b' 5 = true) ∧ (b' 15 = true → b' 9 = true) ∧ (b' 15 = true → b' 14 = true) ∧ (b' 14 = true → b' 13 = true) ∧ (b' 16 = true → b' 1 = true) ∧ (b' 16 = true → b' 5 = true) ∧ (b' 16 = true → b' 7 = true) ∧ (b' 16 = true → b' 9 = true) ∧ (b' 16 = true → b' 13 = true) ∧ (b' 16 = true → b' 14 = true) ∧ (b' 17 = true → b' 16 = true ∧ vs 17 = vs 16)) ?_ ?_ ?_
  · intro vs
    exact ⟨fun h => Bool.noConfusion h, fun h => Bool.noConfusion h, fun h => Bool.noConfusion h, fun h => Bool.noConfusion h, fun h => Bool.noConfusion h, fun h => Bool.noConfusion h, fun h => Bool.noConfusion h, fun h => Bool.noConfusion h, fun h => Bool.noConfusion h, fun h => Bool.noConfusion h, fun h => Bool.noConfusion h, fun h => Bool.noConfusion h, fun h => Bool.noConfusion h, fun h => Bool.noConfusion h, fun h => Bool.noConfusion h, fun h => Bool.noConfusion h, fun _ => Lib.hid ⟨(below_drewN (Below.refl w3.heap.size w3) 1).mono (Nat.zero_le _), Nat.zero_le _⟩, fun _ => Lib.hid ⟨Keep.of_below (below_drewN (Below.refl _ _) 1), HOW3.out.grow (below_drewN (Below.refl _ _) 1)⟩, fun h => Bool.noConfusion h, fun h => Bool.noConfusion h, fun h => Bool.noConfusion h, fun h => Bool.noConfusion h, fun h => Bool.noConfusion h, fun h => Bool.noConfusion h, fun h => Bool.noConfusion h, fun h => Bool.noConfusion h, fun h => Bool.noConfusion h, fun h => Bool.noConfusion h, fun h => Bool.noConfusion h, fun h => Bool.noConfusion h⟩
  · rintro b' vs w' i op hi hun hall ⟨h0, h1, h2, h3, h4, h5, h6, h8, h9, h10, h11, h12, h13, h14, h15, y7, hB, hF, hG, hE7_5, hE15_9, hE15_14, hE14_13, hW1, hW5, hW7, hW9, hW13, hW14, hA⟩
    have hil : i < 18 := (List.getElem?_eq_some_iff.1 hi).1
    rcases i with _ | _ | _ | _ | _ | _ | _ | _ | _ | _ | _ | _ | _ | _ | _ | _ | _ | _ | i
    · obtain rfl := Option.some.inj hi
      clear hi hil
      refine wpOp_step rfl (fun K hK => ?_)
      have HKK := Lib.hid hK; clear hK
      simp only [putAll, Act.put, List.setIfInBounds_toArray, List.set_cons_zero, List.set_cons_succ]
      go_simp
      exact HKK.out _ _ ⟨_, by simp only [putAll, Act.put, List.setIfInBounds_toArray, List.set_cons_zero, List.set_cons_succ] <;> rfl, fun _ => rfl, h1, h2, h3, h4, h5, h6, h8, h9, h10, h11, h12, h13, h14, h15, y7, hB, hF, hG, hE7_5, hE15_9, hE15_14, hE14_13, hW1, hW5, hW7, hW9, hW13, hW14, hA⟩
    · obtain rfl := Option.some.inj hi
      clear hi hil
      have hap : b' 16 = false := by
        cases hz : b' 16 with
        | false => rfl
        | true => exact absurd (hW1 hz) (by rw [hun]; decide)
      obtain ⟨b0, b1, b2, b3, b4, b5⟩ := HLD.out w' (hF hap).out
      refine wpOp_step rfl (fun K hK => ?_)
      have HKK := Lib.hid hK; clear hK
      simp only [putAll, Act.put, List.setIfInBounds_toArray, List.set_cons_zero, List.set_cons_succ]
      go_simp
      exact HKK.out _ _ ⟨_, by simp only [putAll, Act.put, List.setIfInBounds_toArray, List.set_cons_zero, List.set_cons_succ] <;> rfl, h0, fun _ => rfl, h2, h3, h4, h5, h6, h8, h9, h10, h11, h12, h13, h14, h15, y7, hB, hF, hG, hE7_5, hE15_9, hE15_14, hE14_13, fun _ => rfl, hW5, hW7, hW9, hW13, hW14, hA⟩
    · obtain rfl := Option.some.inj hi
      clear hi hil
      refine wpOp_step rfl (fun K hK => ?_)
      have HKK := Lib.hid hK; clear hK
      simp only [putAll, Act.put, List.setIfInBounds_toArray, List.set_cons_zero, List.set_cons_succ]
      go_simp
      exact HKK.out _ _ ⟨_, by simp only [putAll, Act.put, List.setIfInBounds_toArray, List.set_cons_zero, List.set_cons_succ] <;> rfl, h0, h1, fun _ => rfl, h3, h4, h5, h6, h8, h9, h10, h11, h12, h13, h14, h15, y7, hB, hF, hG, hE7_5, hE15_9, hE15_14, hE14_13, hW1, hW5, hW7, hW9, hW13, hW14, hA⟩
    · obtain rfl := Option.some.inj hi
      clear hi hil
      have d2 := h2 (hall ⟨2, .data⟩ (by simp) rfl)
      refine wpOp_step rfl (fun K hK => ?_)
      have HKK := Lib.hid hK; clear hK
      simp only [putAll, Act.put, List.setIfInBounds_toArray, List.set_cons_zero, List.set_cons_succ]
      go_simp
      exact HKK.out _ _ ⟨_, by simp only [putAll, Act.put, List.setIfInBounds_toArray, List.set_cons_zero, List.set_cons_succ, d2] <;> rfl, h0, h1, h2, fun _ => rfl, h4, h5, h6, h8, h9, h10, h11, h12, h13, h14, h15, y7, hB, hF, hG, hE7_5, hE15_9, hE15_14, hE14_13, hW1, hW5, hW7, hW9, hW13, hW14, hA⟩
    · obtain rfl := Option.some.inj hi
      clear hi hil
      have d3 := h3 (hall ⟨3, .data⟩ (by simp) rfl)
      refine wpOp_step rfl (fun K hK => ?_)
      have HKK := Lib.hid hK; clear hK
      simp only [putAll, Act.put, List.setIfInBounds_toArray, List.set_cons_zero, List.set_cons_succ]
      go_simp
      exact HKK.out _ _ ⟨_, by simp only [putAll, Act.put, List.setIfInBounds_toArray, List.set_cons_zero, List.set_cons_succ, d3] <;> rfl, h0, h1, h2, h3, fun _ => rfl, h5, h6, h8, h9, h10, h11, h12, h13, h14, h15, y7, hB, hF, hG, hE7_5, hE15_9, hE15_14, hE14_13, hW1, hW5, hW7, hW9, hW13, hW14, hA⟩
    · obtain rfl := Option.some.inj hi
      clear hi hil
      have hap : b' 16 = false := by
        cases hz : b' 16 with
        | false => rfl
        | true => exact absurd (hW5 hz) (by rw [hun]; decide)
      have d4 := h4 (hall ⟨4, .data⟩ (by simp) rfl)
      obtain ⟨b0, b1, b2, b3, b4, b5⟩ := HLD.out w' (hF hap).out
      refine wpOp_step rfl (fun K hK => ?_)
      have HKK := Lib.hid hK; clear hK
      simp only [putAll, Act.put, List.setIfInBounds_toArray, List.set_cons_zero, List.set_cons_succ]
      go_simp
      exact HKK.out _ _ ⟨_, by simp only [putAll, Act.put, List.setIfInBounds_toArray, List.set_cons_zero, List.set_cons_succ, d4] <;> rfl, h0, h1, h2, h3, h4, fun _ => rfl, h6, h8, h9, h10, h11, h12, h13, h14, h15, y7, hB, hF, hG, fun _ => rfl, hE15_9, hE15_14, hE14_13, hW1, fun _ => rfl, hW7, hW9, hW13, hW14, hA⟩
    · obtain rfl := Option.some.inj hi
      clear hi hil
      refine wpOp_step rfl (fun K hK => ?_)
      have HKK := Lib.hid hK; clear hK
      simp only [putAll, Act.put, List.setIfInBounds_toArray, List.set_cons_zero, List.set_cons_succ]
      go_simp
      exact HKK.out _ _ ⟨_, by simp only [putAll, Act.put, List.setIfInBounds_toArray, List.set_cons_zero, List.set_cons_succ] <;> rfl, h0, h1, h2, h3, h4, h5, fun _ => rfl, h8, h9, h10, h11, h12, h13, h14, h15, y7, hB, hF, hG, hE7_5, hE15_9, hE15_14, hE14_13, hW1, hW5, hW7, hW9, hW13, hW14, hA⟩
    · obtain rfl := Option.some.inj hi
      clear hi hil
      have hap : b' 16 = false := by
        cases hz : b' 16 with
        | false => rfl
        | true => exact absurd (hW7 hz) (by rw [hun]; decide)
      have d5 := h5 (hall ⟨5, .data⟩ (by simp) rfl)
      have d6 := h6 (hall ⟨6, .data⟩ (by simp) rfl)
      refine wpOp_step rfl (fun K hK => ?_)
      have HKK := Lib.hid hK; clear hK
      simp only [putAll, Act.put, List.setIfInBounds_toArray, List.set_cons_zero, List.set_cons_succ]
      refine (if_pos rfl).mpr (wp_append_keep _ _ rfl (.slice so L sc) D d5 (hF hap).out.2 (.slice bo M bc) B d6 (HROW.out w' (hF hap).out) HLE.out ?_)
      intro v2 w2' ho2 hold2 hkp2 hmv2
      have hB2 : Below 0 w3 w2' ∧ 0 ≤ w2'.heap.size := ⟨(hB hap).out.1.trans ⟨hkp2.os, hkp2.tape, hkp2.output, hkp2.size, fun k hk => absurd hk (Nat.not_lt_zero _)⟩, Nat.zero_le _⟩
      have hF2 : Keep (fun k => (Value.slice so L sc : Value).ownBlock ≠ some k) w3 w2' ∧ OwnB w2' 0 (.slice so L sc) D := ⟨(hF hap).out.1.trans hkp2, hold2⟩
      have hy2 : OwnB w2' 0 v2 (D ++ B) ∧ ∀ k, v2.ownBlock = some k → (Value.slice so L sc : Value).ownBlock = some k ∨ w3.heap.size ≤ k := ⟨ho2, fun k e => (moved_far hmv2 e).imp id (fun h => Nat.le_trans (hF hap).out.1.size h)⟩
      exact HKK.out _ _ ⟨_, by simp only [putAll, Act.put, List.setIfInBounds_toArray, List.set_cons_zero, List.set_cons_succ, d5, d6] <;> rfl, h0, h1, h2, h3, h4, h5, h6, h8, h9, h10, h11, h12, h13, h14, h15, fun _ _ => Lib.hid (hy2), fun ha => Lib.hid hB2, fun ha => Lib.hid hF2, fun h => absurd (show b' 16 = true from h) (by rw [hap]; decide), fun _ => hall ⟨5, .data⟩ (by simp) rfl, hE15_9, hE15_14, hE14_13, hW1, hW5, fun _ => rfl, hW9, hW13, hW14, hA⟩
    · obtain rfl := Option.some.inj hi
      clear hi hil
      refine wpOp_step rfl (fun K hK => ?_)
      have HKK := Lib.hid hK; clear hK
      simp only [putAll, Act.put, List.setIfInBounds_toArray, List.set_cons_zero, List.set_cons_succ]
      go_simp
      exact HKK.out _ _ ⟨_, by simp only [putAll, Act.put, List.setIfInBounds_toArray, List.set_cons_zero, List.set_cons_succ] <;> rfl, h0, h1, h2, h3, h4, h5, h6, fun _ => rfl, h9, h10, h11, h12, h13, h14, h15, y7, hB, hF, hG, hE7_5, hE15_9, hE15_14, hE14_13, hW1, hW5, hW7, hW9, hW13, hW14, hA⟩
    · obtain rfl := Option.some.inj hi
      clear hi hil
      have hap : b' 16 = false := by
        cases hz : b' 16 with
        | false => rfl
        | true => exact absurd (hW9 hz) (by rw [hun]; decide)
      have d8 := h8 (hall ⟨8, .data⟩ (by simp) rfl)
      refine wpOp_step rfl (fun K hK => ?_)
      have HKK := Lib.hid hK; clear hK
      simp only [putAll, Act.put, List.setIfInBounds_toArray, List.set_cons_zero, List.set_cons_succ]
      go_simp
      refine (HUS.out w' (hF hap).out).mono ?_
      rintro e w2 ⟨rfl, hb2⟩
      exact HKK.out _ _ ⟨_, by simp only [putAll, Act.put, List.setIfInBounds_toArray, List.set_cons_zero, List.set_cons_succ, d8] <;> rfl, h0, h1, h2, h3, h4, h5, h6, h8, fun _ => rfl, h10, h11, h12, h13, h14, h15, fun h ha => Lib.hid (⟨(y7 h ha).out.1.grow hb2, (y7 h ha).out.2⟩), fun ha => Lib.hid ⟨(hB ha).out.1.trans (hb2.mono (hB ha).out.2), Nat.le_trans (hB ha).out.2 hb2.size⟩, fun ha => Lib.hid (⟨(hF ha).out.1.trans (Keep.of_below hb2), (hF ha).out.2.grow hb2⟩), fun h => absurd (show b' 16 = true from h) (by rw [hap]; decide), hE7_5, fun _ => rfl, hE15_14, hE14_13, hW1, hW5, hW7, fun _ => rfl, hW13, hW14, hA⟩
    · obtain rfl := Option.some.inj hi
      clear hi hil
      refine wpOp_step rfl (fun K hK => ?_)
      have HKK := Lib.hid hK; clear hK
      simp only [putAll, Act.put, List.setIfInBounds_toArray, List.set_cons_zero, List.set_cons_succ]
      go_simp
      exact HKK.out _ _ ⟨_, by simp only [putAll, Act.put, List.setIfInBounds_toArray, List.set_cons_zero, List.set_cons_succ] <;> rfl, h0, h1, h2, h3, h4, h5, h6, h8, h9, fun _ => rfl, h11, h12, h13, h14, h15, y7, hB, hF, hG, hE7_5, hE15_9, hE15_14, hE14_13, hW1, hW5, hW7, hW9, hW13, hW14, hA⟩
    · obtain rfl := Option.some.inj hi
      clear hi hil
      have d10 := h10 (hall ⟨10, .data⟩ (by simp) rfl)
      refine wpOp_step rfl (fun K hK => ?_)
      have HKK := Lib.hid hK; clear hK
      simp only [putAll, Act.put, List.setIfInBounds_toArray, List.set_cons_zero, List.set_cons_succ]
      go_simp
      exact HKK.out _ _ ⟨_, by simp only [putAll, Act.put, List.setIfInBounds_toArray, List.set_cons_zero, List.set_cons_succ, d10] <;> rfl, h0, h1, h2, h3, h4, h5, h6, h8, h9, h10, fun _ => rfl, h12, h13, h14, h15, y7, hB, hF, hG, hE7_5, hE15_9, hE15_14, hE14_13, hW1, hW5, hW7, hW9, hW13, hW14, hA⟩
    · obtain rfl := Option.some.inj hi
      clear hi hil
      have d11 := h11 (hall ⟨11, .data⟩ (by simp) rfl)
      refine wpOp_step rfl (fun K hK => ?_)
      have HKK := Lib.hid hK; clear hK
      simp only [putAll, Act.put, List.setIfInBounds_toArray, List.set_cons_zero, List.set_cons_succ]
      go_simp
      exact HKK.out _ _ ⟨_, by simp only [putAll, Act.put, List.setIfInBounds_toArray, List.set_cons_zero, List.set_cons_succ, d11] <;> rfl, h0, h1, h2, h3, h4, h5, h6, h8, h9, h10, h11, fun _ => rfl, h13, h14, h15, y7, hB, hF, hG, hE7_5, hE15_9, hE15_14, hE14_13, hW1, hW5, hW7, hW9, hW13, hW14, hA⟩
    · obtain rfl := Option.some.inj hi
      clear hi hil
      have hap : b' 16 = false := by
        cases hz : b' 16 with
        | false => rfl
        | true => exact absurd (hW13 hz) (by rw [hun]; decide)
      have d12 := h12 (hall ⟨12, .data⟩ (by simp) rfl)
      obtain ⟨b0, b1, b2, b3, b4, b5⟩ := HLD.out w' (hF hap).out
      refine wpOp_step rfl (fun K hK => ?_)
      have HKK := Lib.hid hK; clear hK
      simp only [putAll, Act.put, List.setIfInBounds_toArray, List.set_cons_zero, List.set_cons_succ]
      go_simp
      exact HKK.out _ _ ⟨_, by simp only [putAll, Act.put, List.setIfInBounds_toArray, List.set_cons_zero, List.set_cons_succ, d12] <;> rfl, h0, h1, h2, h3, h4, h5, h6, h8, h9, h10, h11, h12, fun _ => rfl, h14, h15, y7, hB, hF, hG, hE7_5, hE15_9, hE15_14, fun _ => rfl, hW1, hW5, hW7, hW9, fun _ => rfl, hW14, hA⟩
    · obtain rfl := Option.some.inj hi
      clear hi hil
      have hap : b' 16 = false := by
        cases hz : b' 16 with
        | false => rfl
        | true => exact absurd (hW14 hz) (by rw [hun]; decide)
      have d13 := h13 (hall ⟨13, .data⟩ (by simp) rfl)
      refine wpOp_step rfl (fun K hK => ?_)
      have HKK := Lib.hid hK; clear hK
      simp only [putAll, Act.put, List.setIfInBounds_toArray, List.set_cons_zero, List.set_cons_succ]
      go_simp
      refine (HSZ.out w' (hF hap).out).mono ?_
      rintro e w2 ⟨rfl, hb2⟩
      exact HKK.out _ _ ⟨_, by simp only [putAll, Act.put, List.setIfInBounds_toArray, List.set_cons_zero, List.set_cons_succ, d13] <;> rfl, h0, h1, h2, h3, h4, h5, h6, h8, h9, h10, h11, h12, h13, fun _ => rfl, h15, fun h ha => Lib.hid (⟨(y7 h ha).out.1.grow hb2, (y7 h ha).out.2⟩), fun ha => Lib.hid ⟨(hB ha).out.1.trans (hb2.mono (hB ha).out.2), Nat.le_trans (hB ha).out.2 hb2.size⟩, fun ha => Lib.hid (⟨(hF ha).out.1.trans (Keep.of_below hb2), (hF ha).out.2.grow hb2⟩), fun h => absurd (show b' 16 = true from h) (by rw [hap]; decide), hE7_5, hE15_9, fun _ => rfl, fun _ => hall ⟨13, .data⟩ (by simp) rfl, hW1, hW5, hW7, hW9, hW13, fun _ => rfl, hA⟩
    · obtain rfl := Option.some.inj hi
      clear hi hil
      have d9 := h9 (hall ⟨9, .data⟩ (by simp) rfl)
      have d14 := h14 (hall ⟨14, .data⟩ (by simp) rfl)
      have hz0 : ¬ (z = 0) := by have := HZ.out.1; omega
      refine wpOp_step rfl (fun K hK => ?_)
      have HKK := Lib.hid hK; clear hK
      simp only [putAll, Act.put, List.setIfInBounds_toArray, List.set_cons_zero, List.set_cons_succ]
      go_simp
      exact HKK.out _ _ ⟨_, by simp only [putAll, Act.put, List.setIfInBounds_toArray, List.set_cons_zero, List.set_cons_succ, d9, d14, EQ.out] <;> rfl, h0, h1, h2, h3, h4, h5, h6, h8, h9, h10, h11, h12, h13, h14, fun _ => rfl, y7, hB, hF, hG, hE7_5, fun _ => hall ⟨9, .data⟩ (by simp) rfl, fun _ => hall ⟨14, .data⟩ (by simp) rfl, hE14_13, hW1, hW5, hW7, hW9, hW13, hW14, hA⟩
    · obtain rfl := Option.some.inj hi
      clear hi hil
      have hap : b' 16 = false := hun
      have d0 := h0 (hall ⟨0, .data⟩ (by simp) rfl)
      have d1 := h1 (hall ⟨1, .data⟩ (by simp) rfl)
      have o7 := y7 (hall ⟨7, .data⟩ (by simp) rfl) hap
      have d15 := h15 (hall ⟨15, .data⟩ (by simp) rfl)
      refine wpOp_step rfl (fun K hK => ?_)
      have HKK := Lib.hid hK; clear hK
      simp only [putAll, Act.put, List.setIfInBounds_toArray, List.set_cons_zero, List.set_cons_succ]
      go_simp
      have ow := o7.out
      refine (HSV.out w' (vs 7) (hF hap).out ow).mono ?_
      rintro e w2' ⟨U9, rfl, hs9, hk9, hn9⟩
      exact HKK.out _ _ ⟨_, by simp only [putAll, Act.put, List.setIfInBounds_toArray, List.set_cons_zero, List.set_cons_succ, d0, d1, d15] <;> rfl, h0, h1, h2, h3, h4, h5, h6, h8, h9, h10, h11, h12, h13, h14, h15, fun _ h => Bool.noConfusion h, fun h => Bool.noConfusion h, fun h => Bool.noConfusion h, fun _ => Lib.hid (⟨U9, rfl, hs9, hk9, hn9⟩), hE7_5, hE15_9, hE15_14, hE14_13, fun _ => hall ⟨1, .data⟩ (by simp) rfl, fun _ => hE7_5 (hall ⟨7, .data⟩ (by simp) rfl), fun _ => hall ⟨7, .data⟩ (by simp) rfl, fun _ => hE15_9 (hall ⟨15, .data⟩ (by simp) rfl), fun _ => hE14_13 (hE15_14 (hall ⟨15, .data⟩ (by simp) rfl)), fun _ => hE15_14 (hall ⟨15, .data⟩ (by simp) rfl), fun hq => absurd (hA hq).1 (by rw [hun]; decide)⟩
    · obtain rfl := Option.some.inj hi
      clear hi hil
      have gB := hG (hall ⟨16, .data⟩ (by simp) rfl)
      refine wpOp_step rfl (fun K hK => ?_)
      have HKK := Lib.hid hK; clear hK
      simp only [putAll, Act.put, List.setIfInBounds_toArray, List.set_cons_zero, List.set_cons_succ]
      go_simp
      exact HKK.out _ _ ⟨_, by simp only [putAll, Act.put, List.setIfInBounds_toArray, List.set_cons_zero, List.set_cons_succ] <;> rfl, h0, h1, h2, h3, h4, h5, h6, h8, h9, h10, h11, h12, h13, h14, h15, y7, hB, hF, hG, hE7_5, hE15_9, hE15_14, hE14_13, hW1, hW5, hW7, hW9, hW13, hW14, fun _ => ⟨hall ⟨16, .data⟩ (by simp) rfl, rfl⟩⟩
    · omega
  rintro b' vs wz hall ⟨h0, h1, h2, h3, h4, h5, h6, h8, h9, h10, h11, h12, h13, h14, h15, y7, hB, hF, hG, hE7_5, hE15_9, hE15_14, hE14_13, hW1, hW5, hW7, hW9, hW13, hW14, hA⟩
  have d0 := h0 (hall 0 (by simp))
  have d1 := h1 (hall 1 (by simp))
  have d2 := h2 (hall 2 (by simp))
  have d3 := h3 (hall 3 (by simp))
  have d4 := h4 (hall 4 (by simp))
  have d5 := h5 (hall 5 (by simp))
  have d6 := h6 (hall 6 (by simp))
  have d8 := h8 (hall 8 (by simp))
  have d9 := h9 (hall 9 (by simp))
  have d10 := h10 (hall 10 (by simp))
  have d11 := h11 (hall 11 (by simp))
  have d12 := h12 (hall 12 (by simp))
  have d13 := h13 (hall 13 (by simp))
  have d14 := h14 (hall 14 (by simp))
  have d15 := h15 (hall 15 (by simp))
  have GG := hG (hall 16 (by simp))
  have dA := (hA (hall 17 (by simp))).2
  simp only [putAll, Act.put, List.setIfInBounds_toArray, List.set_cons_zero, List.set_cons_succ, d0, d1, d2, d3, d4, d5, d6, d8, d9, d10, d11, d12, d13, d14, d15, dA]
  clear hall h0 d0 h1 d1 h2 d2 h3 d3 h4 d4 h5 d5 h6 d6 h8 d8 h9 d9 h10 d10 h11 d11 h12 d12 h13 d13 h14 d14 h15 d15 y7 hB hF hG hE7_5 hE15_9 hE15_14 hE14_13 hW1 hW5 hW7 hW9 hW13 hW14 hA dA
  generalize vs 16 = va at *
  obtain ⟨U9, e9, hs9, hk9, hn9⟩ := GG.out
  subst e9
  have H9 : Hid (SS U9 wz a g r9.1 ∧ Keep (fun k => ¬ U k) w3 wz ∧ ∀ k, U9 k → U k ∨ w3.heap.size ≤ k) := ⟨hs9, hk9, hn9⟩
  clear GG hs9 hk9 hn9 HSV HLD HUS HSZ
  go_wp2_with fail
  go_ret
  exact ⟨U9, rfl, H9.out.1, ⟨((Keep.of_below H3.out.1).trans H9.out.2.1), fun k hk => (H9.out.2.2 k hk).imp id (fun h2 => Nat.le_trans H3.out.1.size h2)⟩⟩
end Go.Proofs.Ytdcjchakgfpgaaa
