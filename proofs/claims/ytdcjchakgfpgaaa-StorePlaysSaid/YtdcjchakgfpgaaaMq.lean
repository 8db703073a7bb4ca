/- Layer 14: package store: Open. -/
import Derived.Test.YtdcjchakgfpgaaaMp
namespace Go.Proofs.Ytdcjchakgfpgaaa
open Go.RowKit
open Go.Shelf
set_option maxHeartbeats 4000000 in
set_option maxRecDepth 100000 in
theorem open_range (T : Nat → Prop) (w : World) (g : Nat) (d : DM) (hd : At12 T w g d) (ok : OkD d 1000) (hc : capI d = 0) :
    Calls Try.prog 15 #[ptrD g] w fun e w' => e = .returned (.tuple #[.pointer none, .int .i64 30]) ∧ Below w.heap.size w w' := by
  have HC := Lib.hid (capD_c T w g d hd ok)
  rw [hc] at HC
  clear hd ok hc
  go_enter Try.func15, Try.ntmps15
  go_wp2_with fail
  refine (HC.out).mono ?_
  rintro e w1 ⟨rfl, hb⟩
  have H1 := Lib.hid hb
  clear hb
  go_wp2_with fail
  exact bodyPost_ret (results_2t rfl rfl rfl) rfl ⟨rfl, H1.out⟩
set_option maxHeartbeats 4000000 in
set_option maxRecDepth 100000 in
theorem open_bad (T : Nat → Prop) (w : World) (g : Nat) (d : DM) (z : Nat) (m : Int) (hd : At12 T w g d) (ok : OkD d m) (hm0 : 0 ≤ m) (hm : m + 3 ≤ 1000) (hup : d.down = false) (hz : d.size = (z : Int)) (h4 : 4 ≤ d.sectors) (h32 : 32 ≤ z) (hl : (lastL z (capI d) (nowD d) 2).gen = 0) :
    Calls Try.prog 15 #[ptrD g] w fun e w' => ∃ T', e = .returned (.tuple #[.pointer none, .int .i64 43]) ∧ At12 T' w' g (readN d 0 2) ∧ To T w T' w' := by
  have hcp : 1 ≤ capI d := by
    have h1 := halfI_in ok.made h4
    unfold capI
    rw [if_neg (by omega), hz]
    have := Int.mul_le_mul h1.1 (show (1 : Int) ≤ (z : Int) by omega) (by decide) (by omega)
    omega
  have HC := Lib.hid (capD_c T w g d hd (ok.mono (by omega)))
  have HNW : Hid (∀ W, Below w.heap.size w W → Calls Try.prog 39 #[ptrD g] W fun e w' => ∃ T', e = .returned (.tuple #[hdV zeroHd, .int .i64 43]) ∧ At12 T' w' g (readN d 0 2) ∧ To T w T' w') := fun W hW => by
    have key := newest_c T W g d z m _ _ (at_grow hd hW) ok hm0 hm hup hz rfl rfl h4
    rw [if_pos hl, if_pos hl] at key
    refine key.mono ?_
    rintro e w' ⟨T', he, ha, ht⟩
    exact ⟨T', he, ha, (To.below hW).trans ht⟩
  obtain ⟨cap, hcap⟩ : ∃ c, capI d = c := ⟨_, rfl⟩
  rw [hcap] at HC hcp
  have hc0 : ¬ cap = 0 := by omega
  have hc1 : decide (cap = 0) = false := decide_eq_false hc0
  clear hd ok hm0 hm hup hz h4 h32 hl hcap hcp
  go_enter Try.func15, Try.ntmps15
  go_wp2_with fail
  refine (HC.out).mono ?_
  rintro e w1 ⟨rfl, hb⟩
  have H1 := Lib.hid hb
  have HN1 := Lib.hid (HNW.out w1 hb)
  clear hb HNW
  go_wp2_with fail
  refine (HN1.out).mono ?_
  rintro e w2 ⟨T', rfl, ha, ht⟩
  have H2 := Lib.hid (And.intro ha ht)
  clear ha ht HN1
  obtain ⟨G, hG⟩ : ∃ S, w2.heap.size = S := ⟨_, rfl⟩
  have HG := Lib.hid hG
  obtain ⟨we, hwe⟩ : ∃ x, w2.alloc (.cells #[.int .i64 0, .int .i64 0, .int .i64 0, .int .i64 0] 23) = x := ⟨_, rfl⟩
  have HE : Hid (Below w2.heap.size w2 we ∧ Blk we G 23 #[.int .i64 0, .int .i64 0, .int .i64 0, .int .i64 0]) := by
    rw [← hwe, ← hG]
    exact ⟨(Below.refl _ _).alloc (Nat.le_refl _) _, Blk.new _ _ _⟩
  have z0 : we.cell? ⟨G, 0, none⟩ = some (.int .i64 0) := HE.out.2.cell 0
  have z1 : we.cell? ⟨G, 1, none⟩ = some (.int .i64 0) := HE.out.2.cell 1
  have z2 : we.cell? ⟨G, 2, none⟩ = some (.int .i64 0) := HE.out.2.cell 2
  have z3 : we.cell? ⟨G, 3, none⟩ = some (.int .i64 0) := HE.out.2.cell 3
  have y0 := HE.out.2.free 0
  have y1 := HE.out.2.free 1
  have y2 := HE.out.2.free 2
  have y3 := HE.out.2.free 3
  have ylt := HE.out.2.lt
  have HF : Hid (∀ a b c e : Value, To T w T' ((((we.setCell ⟨G, 0, none⟩ a).setCell ⟨G, 1, none⟩ b).setCell ⟨G, 2, none⟩ c).setCell ⟨G, 3, none⟩ e) ∧ At12 T' ((((we.setCell ⟨G, 0, none⟩ a).setCell ⟨G, 1, none⟩ b).setCell ⟨G, 2, none⟩ c).setCell ⟨G, 3, none⟩ e) g (readN d 0 2)) := fun a b c e => by
    have hle : w2.heap.size ≤ G := by rw [HG.out]; exact Nat.le_refl _
    have hb := below_hd4 HE.out.1 hle a b c e
    exact ⟨H2.out.2.trans (To.below hb), at_grow H2.out.1 hb⟩
  go_upto_region 4 with fail
  try rw [hwe]
  try rw [hG]
  clear hwe hG
  go_wp2_with fail
  exact bodyPost_ret (results_2t rfl rfl rfl) rfl (by first | exact ⟨T', rfl, (HF.out _ _ _ _).2, (HF.out _ _ _ _).1⟩ | exact ⟨rfl, T', (HF.out _ _ _ _).2, (HF.out _ _ _ _).1⟩)
set_option maxHeartbeats 8000000 in
set_option maxRecDepth 100000 in
theorem open_c (T : Nat → Prop) (w : World) (g : Nat) (d : DM) (z b0 n : Nat) (m : Int) (h : Hd) (D : List Int) (hd : At12 T w g d) (ok : OkD d m) (hm0 : 0 ≤ m) (hm : m + n + 4 ≤ 1000) (hup : d.down = false) (hz : d.size = (z : Int)) (h4 : 4 ≤ d.sectors) (h32 : 32 ≤ z) (hl : lastL z (capI d) (nowD d) 2 = h) (hg : 1 ≤ h.gen)
    (hh : 0 ≤ h.half ∧ h.half ≤ 1) (hb0 : 2 + h.half * halfI d = (b0 : Int)) (hfit : ((b0 + n : Nat) : Int) ≤ d.sectors) (hs : 0 ≤ h.snap) (hlg : 0 ≤ h.log) (hlen : (D.length : Int) = h.snap + h.log) (hld : D.length ≤ 31000)
    (hD : ((nowD d).drop (b0 * z)).take D.length = D) (hn1 : ∀ k, k < n → k * z < D.length) (hn2 : D.length ≤ n * z) :
    Calls Try.prog 15 #[ptrD g] w fun e w' => ∃ U' a, e = .returned (.tuple #[ptrD a, .int .i64 0]) ∧ SS U' w' a g ⟨readN (readN d 0 2) b0 n, h, D, false⟩ ∧ To T w U' w' := by
  have hcp : 1 ≤ capI d := by
    have h1 := halfI_in ok.made h4
    unfold capI
    rw [if_neg (by omega), hz]
    have := Int.mul_le_mul h1.1 (show (1 : Int) ≤ (z : Int) by omega) (by decide) (by omega)
    omega
  have HC := Lib.hid (capD_c T w g d hd (ok.mono (by omega)))
  have HNW : Hid (∀ W, Below w.heap.size w W → Calls Try.prog 39 #[ptrD g] W fun e w' => ∃ T', e = .returned (.tuple #[hdV h, .int .i64 0]) ∧ At12 T' w' g (readN d 0 2) ∧ To T w T' w') := fun W hW => by
    have key := newest_c T W g d z m _ _ (at_grow hd hW) ok hm0 (by omega) hup hz rfl rfl h4
    have hne : ¬ h.gen = 0 := by omega
    rw [hl, if_neg hne, if_neg hne] at key
    refine key.mono ?_
    rintro e w' ⟨T', he, ha, ht⟩
    exact ⟨T', he, ha, (To.below hW).trans ht⟩
  have hsm := readN_same d 0 2
  obtain ⟨d2, hd2⟩ : ∃ x, readN d 0 2 = x := ⟨_, rfl⟩
  rw [hd2] at hsm HNW ⊢
  have ok2 : OkD d2 (m + 2) := by rw [← hd2]; exact readN_ok ok hm0 0 2
  have hnl : (nowD d2).length = (d2.sectors * d2.size).toNat := by
    have h1 := ok2.len
    have h2 := nowM_len d2.size d2.wait d2.safe
    unfold nowD
    rw [h2]
    omega
  have HRD : Hid (∀ W T', At12 T' W g d2 → Calls Try.prog 40 #[ptrD g, hdV h] W fun e w' => ∃ T'' v, e = .returned (.tuple #[v, .int .i64 0]) ∧ At12 T'' w' g (readN d2 b0 n) ∧ To T' W T'' w' ∧ OwnB w' W.heap.size v D ∧ ∀ q, v.ownBlock = some q → ¬ T'' q) := fun W T' ha =>
    read_c T' W g d2 z b0 n (m + 2) _ h D ha ok2 (by omega) (by omega) (hsm.down.trans hup) (hsm.size.trans hz) rfl (by rw [hsm.sectors]; exact h4) hh (by rw [hsm.half]; exact hb0) (by rw [hsm.sectors]; exact hfit) hs hlg hlen hld (by rw [hsm.now]; exact hD) hnl hn1 hn2
  obtain ⟨cap, hcap⟩ : ∃ c, capI d = c := ⟨_, rfl⟩
  rw [hcap] at HC hcp
  have hc0 : ¬ cap = 0 := by omega
  have hc1 : decide (cap = 0) = false := decide_eq_false hc0
  obtain ⟨d3, hd3⟩ : ∃ x, readN d2 b0 n = x := ⟨_, rfl⟩
  rw [hd3] at HRD ⊢
  have HTL : Hid (∀ k, T k → k < w.heap.size) := fun k hk => at_lt hd hk
  clear hd ok hm0 hm hup hz h4 h32 hl hg hh hb0 hfit hs hlg hlen hld hD hn1 hn2 hcap hcp hsm hd2 hd3 ok2 hnl
  go_enter Try.func15, Try.ntmps15
  go_wp2_with fail
  refine (HC.out).mono ?_
  rintro e w1 ⟨rfl, hb⟩
  have HN1 := Lib.hid (HNW.out w1 hb)
  clear hb HNW
  go_wp2_with fail
  refine (HN1.out).mono ?_
  rintro e w2 ⟨T', rfl, ha, ht⟩
  have H2 := Lib.hid (And.intro ha ht)
  clear ha ht HN1
  obtain ⟨G, hG⟩ : ∃ S, w2.heap.size = S := ⟨_, rfl⟩
  have HG := Lib.hid hG
  obtain ⟨we, hwe⟩ : ∃ x, w2.alloc (.cells #[.int .i64 0, .int .i64 0, .int .i64 0, .int .i64 0] 23) = x := ⟨_, rfl⟩
  have HE : Hid (Below w2.heap.size w2 we ∧ Blk we G 23 #[.int .i64 0, .int .i64 0, .int .i64 0, .int .i64 0]) := by
    rw [← hwe, ← hG]
    exact ⟨(Below.refl _ _).alloc (Nat.le_refl _) _, Blk.new _ _ _⟩
  have z0 : we.cell? ⟨G, 0, none⟩ = some (.int .i64 0) := HE.out.2.cell 0
  have z1 : we.cell? ⟨G, 1, none⟩ = some (.int .i64 0) := HE.out.2.cell 1
  have z2 : we.cell? ⟨G, 2, none⟩ = some (.int .i64 0) := HE.out.2.cell 2
  have z3 : we.cell? ⟨G, 3, none⟩ = some (.int .i64 0) := HE.out.2.cell 3
  have y0 := HE.out.2.free 0
  have y1 := HE.out.2.free 1
  have y2 := HE.out.2.free 2
  have y3 := HE.out.2.free 3
  have ylt := HE.out.2.lt
  go_upto_region 4 with fail
  try rw [hwe]
  try rw [hG]
  clear hwe hG z0 z1 z2 z3 y0 y1 y2 y3 ylt
  obtain ⟨w3, hw3⟩ : ∃ WW, (((we.setCell ⟨G, 0, none⟩ (.int .i64 h.gen)).setCell ⟨G, 1, none⟩ (.int .i64 h.half)).setCell ⟨G, 2, none⟩ (.int .i64 h.snap)).setCell ⟨G, 3, none⟩ (.int .i64 h.log) = WW := ⟨_, rfl⟩
  have H3 : Hid (Below w2.heap.size w2 w3 ∧ Blk w3 G 23 (hdC h)) := by
    rw [← hw3]
    have hle : w2.heap.size ≤ G := by rw [HG.out]; exact Nat.le_refl _
    exact ⟨below_hd4 HE.out.1 hle _ _ _ _, set4_blk HE.out.2 _ _ _ _⟩
  rw [hw3]
  clear hw3 HE
  obtain ⟨r0, r1, r2, r3⟩ := H3.out.2.hd4c
  obtain ⟨a, hae⟩ : ∃ S, w3.heap.size = S := ⟨_, rfl⟩
  obtain ⟨w4, hw4⟩ : ∃ x, w3.alloc (.cells (cellsS g h (.slice none 0 0) false) 73) = x := ⟨_, rfl⟩
  have H4 : Hid (Below w3.heap.size w3 w4 ∧ Blk w4 a 73 (cellsS g h (.slice none 0 0) false) ∧ w3.heap.size = a) := by
    rw [← hw4, ← hae]
    exact ⟨(Below.refl _ _).alloc (Nat.le_refl _) _, Blk.new _ _ _, rfl⟩
  have hw4' : w3.alloc (.cells #[ptrD g, .int .i64 h.gen, .int .i64 h.half, .int .i64 h.snap, .int .i64 h.log, .slice none 0 0, .bool false] 73) = w4 := hw4
  clear hw4
  go_upto_region 7 with fail
  try rw [hw4']
  try rw [hae]
  clear hw4' hae r0 r1 r2 r3
  obtain ⟨r0, r1, r2, r3⟩ := (H3.out.2.grow H4.out.1).hd4c
  have HR1 := Lib.hid (HRD.out w4 T' (at_grow (at_grow H2.out.1 H3.out.1) (H4.out.1.mono (Nat.le_refl _))))
  have hz0 := H4.out.2.1.free 5
  go_wp2_with fail
  refine (HR1.out).mono ?_
  rintro e w5 ⟨T5, v, rfl, ha, ht, ho, hof⟩
  have hn4 : ¬ T' a := fun hT => by have := at_lt (at_grow H2.out.1 H3.out.1) hT; have := H4.out.2.2; omega
  have H5 : Hid (At12 T5 w5 g d3 ∧ To T' w4 T5 w5 ∧ OwnB w5 w4.heap.size v D ∧ (∀ q, v.ownBlock = some q → ¬ T5 q) ∧ Blk w5 a 73 (cellsS g h (.slice none 0 0) false) ∧ ¬ T5 a) := ⟨ha, ht, ho, hof, ht.blk14 H4.out.2.1 hn4, ht.off hn4 H4.out.2.1.lt⟩
  clear ha ht ho hof hn4 hz0 r0 r1 r2 r3 HR1
  obtain ⟨so, sc, hsv⟩ := H5.out.2.2.1.shape
  obtain ⟨L, hL⟩ : ∃ L, D.length = L := ⟨_, rfl⟩
  rw [hL] at hsv
  subst hsv
  clear hL
  obtain ⟨c0, c1, c2, c3, c4, c5, c6⟩ := H5.out.2.2.2.2.1.s7
  have k5 := H5.out.2.2.2.2.1.free 5
  have klt := H5.out.2.2.2.2.1.lt
  go_wp2_with fail
  refine bodyPost_ret (results_2t rfl rfl rfl) rfl ?_
  have hkp : Keep (fun q => q ≠ a) w5 (w5.setCell ⟨a, 5, none⟩ (.slice so L sc)) := Keep.setCell _ _ _ (by simp)
  have hss : SS (fun k => T5 k ∨ k = a ∨ (Value.slice so L sc).ownBlock = some k) (w5.setCell ⟨a, 5, none⟩ (.slice so L sc)) a g ⟨d3, h, D, false⟩ := ⟨T5, _, at_keep H5.out.1 (hkp.mono fun q hT e => H5.out.2.2.2.2.2 (e ▸ hT)), ⟨H5.out.2.2.2.2.1.set 5 _, owns_keep (owns_base H5.out.2.2.1 (Nat.zero_le _)) hkp (fun q e he => owns_off H5.out.2.2.1 H5.out.2.2.2.2.1 (by decide) (he ▸ e)), H5.out.2.2.2.2.2, H5.out.2.2.2.1⟩, fun k => Iff.rfl⟩
  have h24 : To T w T' w4 := (H2.out.2.trans (To.below H3.out.1)).trans (To.below H4.out.1)
  have h25 := h24.trans H5.out.2.1
  have hal : w.heap.size ≤ a := by have h1 := H2.out.2.keep.size; have h2 := H3.out.1.size; have h3 := H4.out.2.2; omega
  have hto : To T w (fun k => T5 k ∨ k = a ∨ (Value.slice so L sc).ownBlock = some k) (w5.setCell ⟨a, 5, none⟩ (.slice so L sc)) := by
    refine ⟨⟨hkp.os.trans h25.keep.os, hkp.tape.trans h25.keep.tape, hkp.output.trans h25.keep.output, Nat.le_trans h25.keep.size hkp.size, fun q hq hl => ?_⟩, fun q hq => ?_⟩
    · rw [hkp.block q (by omega) (Nat.lt_of_lt_of_le hl h25.keep.size)]
      exact h25.keep.block q hq hl
    · rcases hq with hq | hq | hq
      · exact h25.new q hq
      · exact .inr (by omega)
      · have h1 := (H5.out.2.2.1.lt q hq).1
        have h2 := h24.keep.size
        exact .inr (by omega)
  first
  | exact ⟨_, a, rfl, hss, hto⟩
  | exact ⟨a, rfl, _, hss, hto⟩
  | exact ⟨_, rfl, _, hss, hto⟩
end Go.Proofs.Ytdcjchakgfpgaaa
