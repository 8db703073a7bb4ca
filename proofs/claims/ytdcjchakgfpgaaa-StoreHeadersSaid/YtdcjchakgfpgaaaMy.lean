/- Layer 14: the law StoreHeaders: what is too long, and what has no bytes. -/
import Derived.Test.YtdcjchakgfpgaaaMx
import Derived.Deep.DeepCutAuto
namespace Go.Proofs.Ytdcjchakgfpgaaa
open Go.RowKit
set_option maxHeartbeats 8000000 in
set_option maxRecDepth 100000 in
theorem headers_far (h : Hd) (z cap : Int) (s : Value) (L : List Int) (w : World) (_rh : rngH h) (_rz : rngI z) (_rc : rngI cap) (row : RowB w s L) (okL : OkB L) (cp : CapS s) (hz : z > 600 ∨ 600 < L.length) : Calls Try.prog 3 #[.agg #[.int .i64 h.gen, .int .i64 h.half, .int .i64 h.snap, .int .i64 h.log, .int .i64 z, .int .i64 cap, s]] w fun e w' => e = .returned (.bool true) ∧ Below w.heap.size w w' := by
  have HAW : Hid (∀ W, Calls Try.prog 7 #[] W fun e w' => e = .returned (.bool true) ∧ Below W.heap.size W w') := fun W => awake14_c W
  obtain ⟨ao, ac, rfl⟩ := row.shape
  obtain ⟨n, hn⟩ : ∃ n, L.length = n := ⟨_, rfl⟩
  have HROW0 := Lib.hid (And.intro row (And.intro okL cp))
  rw [hn] at HROW0 hz ⊢
  have HN := Lib.hid hn
  obtain ⟨wa, hwa⟩ : ∃ x, w.alloc (.cells #[.int .i64 h.gen, .int .i64 h.half, .int .i64 h.snap, .int .i64 h.log, .int .i64 z, .int .i64 cap, .slice ao n ac] 26) = x := ⟨_, rfl⟩
  obtain ⟨G, hG⟩ : ∃ x, w.heap.size = x := ⟨_, rfl⟩
  have has : wa.heap.size = G + 1 := by rw [← hwa, ← hG]; simp
  obtain ⟨wb, hwb⟩ : ∃ x, wa.alloc (.cells #[.int .i64 0, .int .i64 0, .int .i64 0, .int .i64 0] 23) = x := ⟨_, rfl⟩
  have HAA : Hid (Below w.heap.size w wa ∧ Blk wa G 26 #[.int .i64 h.gen, .int .i64 h.half, .int .i64 h.snap, .int .i64 h.log, .int .i64 z, .int .i64 cap, .slice ao n ac] ∧ wa.heap.size = G + 1) := by
    rw [← hwa, ← hG]
    exact ⟨(Below.refl _ _).alloc (Nat.le_refl _) _, Blk.new _ _ _, by simp⟩
  have HBB : Hid (Below wa.heap.size wa wb ∧ Blk wb (G + 1) 23 #[.int .i64 0, .int .i64 0, .int .i64 0, .int .i64 0]) := by
    rw [← hwb, ← has]
    exact ⟨(Below.refl _ _).alloc (Nat.le_refl _) _, Blk.new _ _ _⟩
  have g0 : wa.cell? ⟨G, 0, none⟩ = some (.int .i64 h.gen) := HAA.out.2.1.cell 0
  have g1 : wa.cell? ⟨G, 1, none⟩ = some (.int .i64 h.half) := HAA.out.2.1.cell 1
  have g2 : wa.cell? ⟨G, 2, none⟩ = some (.int .i64 h.snap) := HAA.out.2.1.cell 2
  have g3 : wa.cell? ⟨G, 3, none⟩ = some (.int .i64 h.log) := HAA.out.2.1.cell 3
  have z0 : wb.cell? ⟨G + 1, 0, none⟩ = some (.int .i64 0) := HBB.out.2.cell 0
  have z1 : wb.cell? ⟨G + 1, 1, none⟩ = some (.int .i64 0) := HBB.out.2.cell 1
  have z2 : wb.cell? ⟨G + 1, 2, none⟩ = some (.int .i64 0) := HBB.out.2.cell 2
  have z3 : wb.cell? ⟨G + 1, 3, none⟩ = some (.int .i64 0) := HBB.out.2.cell 3
  have y0 := HBB.out.2.free 0
  have y1 := HBB.out.2.free 1
  have y2 := HBB.out.2.free 2
  have y3 := HBB.out.2.free 3
  have ylt := HBB.out.2.lt
  clear row okL cp hn
  go_enter Try.func3, Try.ntmps3
  go_upto_region 1 with fail
  try rw [hwa]
  try rw [hG]
  clear hwa hG
  go_upto_region 2 with fail
  try rw [has]
  try rw [hwb]
  clear hwb has z0 z1 z2 z3 y0 y1 y2 y3 ylt g0 g1 g2 g3
  obtain ⟨w3, hw3⟩ : ∃ WW, (((wb.setCell ⟨G + 1, 0, none⟩ (.int .i64 h.gen)).setCell ⟨G + 1, 1, none⟩ (.int .i64 h.half)).setCell ⟨G + 1, 2, none⟩ (.int .i64 h.snap)).setCell ⟨G + 1, 3, none⟩ (.int .i64 h.log) = WW := ⟨_, rfl⟩
  have H3 : Hid (Below w.heap.size w w3 ∧ Blk w3 G 26 #[.int .i64 h.gen, .int .i64 h.half, .int .i64 h.snap, .int .i64 h.log, .int .i64 z, .int .i64 cap, .slice ao n ac] ∧ Blk w3 (G + 1) 23 (hdC h)) := by
    rw [← hw3]
    have hle : wa.heap.size ≤ G + 1 := by rw [HAA.out.2.2]; exact Nat.le_refl _
    have hb := below_hd4 HBB.out.1 hle (.int .i64 h.gen) (.int .i64 h.half) (.int .i64 h.snap) (.int .i64 h.log)
    exact ⟨HAA.out.1.trans (hb.mono HAA.out.1.size), HAA.out.2.1.grow hb, set4_blk HBB.out.2 _ _ _ _⟩
  rw [hw3]
  clear hw3 HAA HBB
  have x4 : w3.cell? ⟨G, 4, none⟩ = some (.int .i64 z) := H3.out.2.1.cell 4
  have x6 : w3.cell? ⟨G, 6, none⟩ = some (.slice ao n ac) := H3.out.2.1.cell 6
  by_cases k0 : z > 600
  · have e0 : decide (z > 600) = true := decide_eq_true k0
    have e0' : decide (600 < z) = true := decide_eq_true k0
    go_wp2_with fail
    refine (HAW.out _).mono ?_
    rintro e wz ⟨rfl, hb⟩
    have HZ9 : Hid (Below w.heap.size w wz) := H3.out.1.trans (hb.mono H3.out.1.size)
    clear hb
    go_wp2_with fail
    go_ret
    exact ⟨rfl, HZ9.out⟩
  · have k1 : 600 < n := hz.resolve_left k0
    have e0 : decide (z > 600) = false := decide_eq_false k0
    have e0' : decide (600 < z) = false := decide_eq_false k0
    have e1 : decide ((n : Int) > 600) = true := by simp; omega
    have e1' : decide (600 < n) = true := by simp; omega
    go_wp2_with fail
    refine (HAW.out _).mono ?_
    rintro e wz ⟨rfl, hb⟩
    have HZ9 : Hid (Below w.heap.size w wz) := H3.out.1.trans (hb.mono H3.out.1.size)
    clear hb
    go_wp2_with fail
    go_ret
    exact ⟨rfl, HZ9.out⟩
set_option maxHeartbeats 8000000 in
set_option maxRecDepth 100000 in
theorem headers_bad (h : Hd) (z cap : Int) (s : Value) (L : List Int) (w : World) (rh : rngH h) (rz : rngI z) (rc : rngI cap) (row : RowB w s L) (okL : OkB L) (cp : CapS s) (hz : z ≤ 600) (hl : L.length ≤ 600) (hb : ¬ (32 ≤ z ∧ encOk h)) : Calls Try.prog 3 #[.agg #[.int .i64 h.gen, .int .i64 h.half, .int .i64 h.snap, .int .i64 h.log, .int .i64 z, .int .i64 cap, s]] w fun e w' => e = .returned (.bool true) ∧ Below w.heap.size w w' := by
  have HAW : Hid (∀ W, Calls Try.prog 7 #[] W fun e w' => e = .returned (.bool true) ∧ Below W.heap.size W w') := fun W => awake14_c W
  obtain ⟨ao, ac, rfl⟩ := row.shape
  obtain ⟨n, hn⟩ : ∃ n, L.length = n := ⟨_, rfl⟩
  have HROW0 := Lib.hid (And.intro row (And.intro okL cp))
  rw [hn] at HROW0 hl ⊢
  have HN := Lib.hid hn
  obtain ⟨wa, hwa⟩ : ∃ x, w.alloc (.cells #[.int .i64 h.gen, .int .i64 h.half, .int .i64 h.snap, .int .i64 h.log, .int .i64 z, .int .i64 cap, .slice ao n ac] 26) = x := ⟨_, rfl⟩
  obtain ⟨G, hG⟩ : ∃ x, w.heap.size = x := ⟨_, rfl⟩
  have has : wa.heap.size = G + 1 := by rw [← hwa, ← hG]; simp
  obtain ⟨wb, hwb⟩ : ∃ x, wa.alloc (.cells #[.int .i64 0, .int .i64 0, .int .i64 0, .int .i64 0] 23) = x := ⟨_, rfl⟩
  have HAA : Hid (Below w.heap.size w wa ∧ Blk wa G 26 #[.int .i64 h.gen, .int .i64 h.half, .int .i64 h.snap, .int .i64 h.log, .int .i64 z, .int .i64 cap, .slice ao n ac] ∧ wa.heap.size = G + 1) := by
    rw [← hwa, ← hG]
    exact ⟨(Below.refl _ _).alloc (Nat.le_refl _) _, Blk.new _ _ _, by simp⟩
  have HBB : Hid (Below wa.heap.size wa wb ∧ Blk wb (G + 1) 23 #[.int .i64 0, .int .i64 0, .int .i64 0, .int .i64 0]) := by
    rw [← hwb, ← has]
    exact ⟨(Below.refl _ _).alloc (Nat.le_refl _) _, Blk.new _ _ _⟩
  have g0 : wa.cell? ⟨G, 0, none⟩ = some (.int .i64 h.gen) := HAA.out.2.1.cell 0
  have g1 : wa.cell? ⟨G, 1, none⟩ = some (.int .i64 h.half) := HAA.out.2.1.cell 1
  have g2 : wa.cell? ⟨G, 2, none⟩ = some (.int .i64 h.snap) := HAA.out.2.1.cell 2
  have g3 : wa.cell? ⟨G, 3, none⟩ = some (.int .i64 h.log) := HAA.out.2.1.cell 3
  have z0 : wb.cell? ⟨G + 1, 0, none⟩ = some (.int .i64 0) := HBB.out.2.cell 0
  have z1 : wb.cell? ⟨G + 1, 1, none⟩ = some (.int .i64 0) := HBB.out.2.cell 1
  have z2 : wb.cell? ⟨G + 1, 2, none⟩ = some (.int .i64 0) := HBB.out.2.cell 2
  have z3 : wb.cell? ⟨G + 1, 3, none⟩ = some (.int .i64 0) := HBB.out.2.cell 3
  have y0 := HBB.out.2.free 0
  have y1 := HBB.out.2.free 1
  have y2 := HBB.out.2.free 2
  have y3 := HBB.out.2.free 3
  have ylt := HBB.out.2.lt
  clear row okL cp hn
  go_enter Try.func3, Try.ntmps3
  go_upto_region 1 with fail
  try rw [hwa]
  try rw [hG]
  clear hwa hG
  go_upto_region 2 with fail
  try rw [has]
  try rw [hwb]
  clear hwb has z0 z1 z2 z3 y0 y1 y2 y3 ylt g0 g1 g2 g3
  obtain ⟨w3, hw3⟩ : ∃ WW, (((wb.setCell ⟨G + 1, 0, none⟩ (.int .i64 h.gen)).setCell ⟨G + 1, 1, none⟩ (.int .i64 h.half)).setCell ⟨G + 1, 2, none⟩ (.int .i64 h.snap)).setCell ⟨G + 1, 3, none⟩ (.int .i64 h.log) = WW := ⟨_, rfl⟩
  have H3 : Hid (Below w.heap.size w w3 ∧ Blk w3 G 26 #[.int .i64 h.gen, .int .i64 h.half, .int .i64 h.snap, .int .i64 h.log, .int .i64 z, .int .i64 cap, .slice ao n ac] ∧ Blk w3 (G + 1) 23 (hdC h)) := by
    rw [← hw3]
    have hle : wa.heap.size ≤ G + 1 := by rw [HAA.out.2.2]; exact Nat.le_refl _
    have hb := below_hd4 HBB.out.1 hle (.int .i64 h.gen) (.int .i64 h.half) (.int .i64 h.snap) (.int .i64 h.log)
    exact ⟨HAA.out.1.trans (hb.mono HAA.out.1.size), HAA.out.2.1.grow hb, set4_blk HBB.out.2 _ _ _ _⟩
  rw [hw3]
  clear hw3 HAA HBB
  have x4 : w3.cell? ⟨G, 4, none⟩ = some (.int .i64 z) := H3.out.2.1.cell 4
  have x6 : w3.cell? ⟨G, 6, none⟩ = some (.slice ao n ac) := H3.out.2.1.cell 6
  have e0 : decide (z > 600) = false := decide_eq_false (by omega)
  have e0' : decide (600 < z) = false := decide_eq_false (by omega)
  have k0 : ¬ z > 600 := by omega
  have k0' : ¬ 600 < z := by omega
  have k1 : ¬ 600 < n := by omega
  have e1 : decide ((n : Int) > 600) = false := by simp; omega
  have e1' : decide (600 < n) = false := by simp; omega
  obtain ⟨E, hE⟩ : ∃ E, encI h z = E := ⟨_, rfl⟩
  have HEN := Lib.hid (encode_c h z w3 rh (by omega) rz)
  rw [hE] at HEN
  have HEE := Lib.hid hE
  have HNZ : Hid (n ≤ 600 ∧ z ≤ 600) := ⟨by omega, by omega⟩
  have HCAP := Lib.hid rc
  have HROW : Hid (RowB w (.slice ao n ac) L ∧ OkB L ∧ CapS (.slice ao n ac) ∧ L.length ≤ 1000) := ⟨HROW0.out.1, HROW0.out.2.1, HROW0.out.2.2, by rw [HN.out]; have := HNZ.out.1; omega⟩
  have HOE : Hid (OkB E) := by
    show OkB E
    rw [← hE]
    exact encI_ok h z
  have HLE : Hid (E.length ≤ 1000) := by
    show E.length ≤ 1000
    rw [← hE]
    unfold encI
    by_cases hc : 32 ≤ z ∧ encOk h
    · rw [if_pos hc, hdrB_len (by omega)]; omega
    · rw [if_neg hc]; exact Nat.zero_le _
  obtain ⟨g0, g1, g2, g3⟩ := H3.out.2.2.hd4c
  go_upto_region 4 with fail
  go_wp2_with fail
  refine (HEN.out).mono ?_
  rintro e w4 ⟨v4, rfl, ho4, hb4⟩
  have H4 : Hid (Below w.heap.size w w4) := H3.out.1.trans (hb4.mono H3.out.1.size)
  have HRE : Hid (OwnB w4 w3.heap.size v4 E) := ho4
  have HZX : Hid (∀ W, Below w4.heap.size w4 W → (W.cell? ⟨G, 0, none⟩ = some (.int .i64 h.gen) ∧ W.cell? ⟨G, 1, none⟩ = some (.int .i64 h.half) ∧ W.cell? ⟨G, 2, none⟩ = some (.int .i64 h.snap) ∧ W.cell? ⟨G, 3, none⟩ = some (.int .i64 h.log) ∧ W.cell? ⟨G, 4, none⟩ = some (.int .i64 z) ∧ W.cell? ⟨G, 5, none⟩ = some (.int .i64 cap) ∧ W.cell? ⟨G, 6, none⟩ = some (.slice ao n ac)) ∧ (W.cell? ⟨G + 1, 0, none⟩ = some (.int .i64 h.gen) ∧ W.cell? ⟨G + 1, 1, none⟩ = some (.int .i64 h.half) ∧ W.cell? ⟨G + 1, 2, none⟩ = some (.int .i64 h.snap) ∧ W.cell? ⟨G + 1, 3, none⟩ = some (.int .i64 h.log))) := fun W hW => by
    have b := H3.out.2.1.grow (hb4.trans (hW.mono hb4.size))
    exact ⟨⟨b.cell 0, b.cell 1, b.cell 2, b.cell 3, b.cell 4, b.cell 5, b.cell 6⟩, (H3.out.2.2.grow (hb4.trans (hW.mono hb4.size))).hd4c⟩
  clear ho4 HEN
  clear g0 g1 g2 g3 x4 x6 hb4
  obtain ⟨x0, x1, x2, x3, x4, x5, x6⟩ := (HZX.out w4 (Below.refl _ _)).1
  obtain ⟨g0, g1, g2, g3⟩ := (HZX.out w4 (Below.refl _ _)).2
  obtain ⟨vo, vc, hv4⟩ := HRE.out.shape
  have hEn : E = [] := by rw [← hE]; unfold encI; rw [if_neg hb]
  subst hEn
  rw [show ([] : List Int).length = 0 from rfl] at hv4
  subst hv4
  have HBD := Lib.hid hb
  clear hE hb hz hl rh rz rc
  go_upto_region 5 with fail
  clear e0 e0' e1 e1' k0 k0' k1
  go_cut [64] (fun c wx => c = .bool true ∧ wx = w4)
  case first =>
    by_cases k0 : z < 32
    · have e0 : decide (z < 32) = true := decide_eq_true k0
      go_wp2_with fail
      go_meet
      exact ⟨rfl, rfl⟩
    have e0 : decide (z < 32) = false := decide_eq_false k0
    by_cases k1 : h.gen < 0
    · have e1 : decide (h.gen < 0) = true := decide_eq_true k1
      go_wp2_with fail
      go_meet
      exact ⟨rfl, rfl⟩
    have e1 : decide (h.gen < 0) = false := decide_eq_false k1
    by_cases k2 : h.half < 0
    · have e2 : decide (h.half < 0) = true := decide_eq_true k2
      go_wp2_with fail
      go_meet
      exact ⟨rfl, rfl⟩
    have e2 : decide (h.half < 0) = false := decide_eq_false k2
    by_cases k3 : h.half > 1
    · have e3 : decide (h.half > 1) = true := decide_eq_true k3
      have e3' : decide (1 < h.half) = true := decide_eq_true k3
      go_wp2_with fail
      go_meet
      exact ⟨rfl, rfl⟩
    have e3 : decide (h.half > 1) = false := decide_eq_false k3
    have e3' : decide (1 < h.half) = false := decide_eq_false k3
    by_cases k4 : h.snap < 0
    · have e4 : decide (h.snap < 0) = true := decide_eq_true k4
      go_wp2_with fail
      go_meet
      exact ⟨rfl, rfl⟩
    have e4 : decide (h.snap < 0) = false := decide_eq_false k4
    by_cases k5 : h.log < 0
    · have e5 : decide (h.log < 0) = true := decide_eq_true k5
      go_wp2_with fail
      go_meet
      exact ⟨rfl, rfl⟩
    have e5 : decide (h.log < 0) = false := decide_eq_false k5
    by_cases k6 : h.snap > 2147483648
    · have e6 : decide (h.snap > 2147483648) = true := decide_eq_true k6
      have e6' : decide (2147483648 < h.snap) = true := decide_eq_true k6
      go_wp2_with fail
      go_meet
      exact ⟨rfl, rfl⟩
    have e6 : decide (h.snap > 2147483648) = false := decide_eq_false k6
    have e6' : decide (2147483648 < h.snap) = false := decide_eq_false k6
    by_cases k7 : h.log > 2147483648
    · have e7 : decide (h.log > 2147483648) = true := decide_eq_true k7
      have e7' : decide (2147483648 < h.log) = true := decide_eq_true k7
      go_wp2_with fail
      go_meet
      exact ⟨rfl, rfl⟩
    have e7 : decide (h.log > 2147483648) = false := decide_eq_false k7
    have e7' : decide (2147483648 < h.log) = false := decide_eq_false k7
    exact absurd ⟨by omega, by unfold encOk; omega⟩ HBD.out
  case rest =>
  obtain ⟨rfl, rfl⟩ := hcut
  go_upto_region 10 with fail
  obtain ⟨S, hS⟩ : ∃ x, wc.heap.size = x := ⟨_, rfl⟩
  have HSS := Lib.hid hS
  obtain ⟨w6, hw6⟩ : ∃ x, wc.alloc (.cells #[.slice vo 0 vc, .slice ao n ac] 24) = x := ⟨_, rfl⟩
  have H6 : Hid (Below wc.heap.size wc w6 ∧ Blk w6 S 24 #[.slice vo 0 vc, .slice ao n ac]) := by
    rw [← hw6, ← hS]
    exact ⟨(Below.refl wc.heap.size wc).alloc ((Below.refl wc.heap.size wc).size) _, Blk.new _ _ _⟩
  obtain ⟨x0, x1, x2, x3, x4, x5, x6⟩ := (HZX.out wc (Below.refl wc.heap.size wc)).1
  go_upto_region 11 with fail
  try rw [hw6]
  try rw [hS]
  clear hw6 hS x0 x1 x2 x3 x4 x5 x6
  go_loopw [6, 7, 8, 9, 10, 88] (fun _ _ _ _ _ i wr => ∃ k : Nat, k ≤ 2 ∧ i = .int .i64 (k : Int) ∧ Hid (Below w6.heap.size w6 wr)) (fun _ _ _ _ _ i _ => 2 - (intOf i).toNat)
  case atStart => exact ⟨0, by omega, rfl, Below.refl _ _⟩
  case round =>
    obtain ⟨k, hk, rfl, hw⟩ := hrel
    by_cases hlt : k < 2
    · have hd : decide ((k : Int) < 2) = true := by simp; omega
      have HBW : Hid (Below w6.heap.size w6 wr ∧ Below wc.heap.size wc wr) := ⟨hw.out, H6.out.1.trans (hw.out.mono H6.out.1.size)⟩
      clear hw
      have HKX : Hid (∃ cv L, wr.cell? ⟨S, k, none⟩ = some cv ∧ RowB wr cv L ∧ OkB L ∧ CapS cv ∧ L.length ≤ 1000) := by
        have hb := H6.out.2.grow HBW.out.1
        rcases (by omega : k = 0 ∨ k = 1) with rfl | rfl
        · exact ⟨.slice vo 0 vc, [], hb.cell 0, (HRE.out.grow HBW.out.2).row, HOE.out, HRE.out.cap, HLE.out⟩
        · exact ⟨.slice ao n ac, L, hb.cell 1, HROW.out.1.on (H4.out.trans (HBW.out.2.mono H4.out.size)), HROW.out.2.1, HROW.out.2.2.1, HROW.out.2.2.2⟩
      obtain ⟨cv, Lk, ck, rk⟩ := HKX.out
      have HRK := Lib.hid rk
      have ckl : S < wr.heap.size := (H6.out.2.grow HBW.out.1).lt
      obtain ⟨x0, x1, x2, x3, x4, x5, x6⟩ := (HZX.out wr HBW.out.2).1
      have HDE := Lib.hid (sdecode_c cv Lk cap wr rk.1 rk.2.1 rk.2.2.1 rk.2.2.2 HCAP.out)
      obtain ⟨o, ho⟩ : ∃ o, decI Lk cap = o := ⟨_, rfl⟩
      have HO := Lib.hid ho
      rw [ho] at HDE
      obtain ⟨r, hr⟩ : ∃ r, o.getD zeroHd = r := ⟨_, rfl⟩
      obtain ⟨q, hq⟩ : ∃ q, o.isSome = q := ⟨_, rfl⟩
      have hdv : DecV o = .tuple #[hdV r, .bool q] := by unfold DecV; rw [hr, hq]
      rw [hdv] at HDE
      have HZR : Hid (q = false → r = zeroHd) := fun h => by
        cases o with
        | none => exact hr.symm
        | some x => rw [← hq] at h; cases h
      have HDF : Hid (∀ W, Below wr.heap.size wr W → Calls Try.prog 11 #[cv, .int .i64 cap] W fun e w' => e = .returned (.tuple #[hdV r, .bool q]) ∧ Below W.heap.size W w') := fun W hW => by
        have key := decode_c cv Lk cap W (HRK.out.1.on hW) HRK.out.2.1 HRK.out.2.2.1 (by have := HRK.out.2.2.2; omega) HCAP.out
        rw [HO.out, hdv] at key
        exact key
      have HKL : Hid (k < 2) := hlt
      clear rk ho hr hq hdv HKX hk
      go_wp2_with fail
      refine (HDE.out).mono ?_
      rintro e w7 ⟨rfl, hb⟩
      have H7 : Hid (Below wr.heap.size wr w7) := hb
      clear hb HDE ck ckl x0 x1 x2 x3 x4 x5 x6
      obtain ⟨GX, hGX⟩ : ∃ S, w7.heap.size = S := ⟨_, rfl⟩
      have HGX := Lib.hid hGX
      obtain ⟨we, hwe⟩ : ∃ x, w7.alloc (.cells #[.int .i64 0, .int .i64 0, .int .i64 0, .int .i64 0] 23) = x := ⟨_, rfl⟩
      have HE : Hid (Below w7.heap.size w7 we ∧ Blk we GX 23 #[.int .i64 0, .int .i64 0, .int .i64 0, .int .i64 0]) := by
        rw [← hwe, ← hGX]
        exact ⟨(Below.refl _ _).alloc (Nat.le_refl _) _, Blk.new _ _ _⟩
      have z0 : we.cell? ⟨GX, 0, none⟩ = some (.int .i64 0) := HE.out.2.cell 0
      have z1 : we.cell? ⟨GX, 1, none⟩ = some (.int .i64 0) := HE.out.2.cell 1
      have z2 : we.cell? ⟨GX, 2, none⟩ = some (.int .i64 0) := HE.out.2.cell 2
      have z3 : we.cell? ⟨GX, 3, none⟩ = some (.int .i64 0) := HE.out.2.cell 3
      have y0 := HE.out.2.free 0
      have y1 := HE.out.2.free 1
      have y2 := HE.out.2.free 2
      have y3 := HE.out.2.free 3
      have ylt := HE.out.2.lt
      go_upto_region 14 with fail
      try rw [hwe]
      try rw [hGX]
      clear hwe hGX z0 z1 z2 z3 y0 y1 y2 y3 ylt
      obtain ⟨w8, hw8⟩ : ∃ WW, (((we.setCell ⟨GX, 0, none⟩ (.int .i64 r.gen)).setCell ⟨GX, 1, none⟩ (.int .i64 r.half)).setCell ⟨GX, 2, none⟩ (.int .i64 r.snap)).setCell ⟨GX, 3, none⟩ (.int .i64 r.log) = WW := ⟨_, rfl⟩
      have H8 : Hid (Below wr.heap.size wr w8 ∧ Blk w8 GX 23 (hdC r)) := by
        rw [← hw8]
        have hle : w7.heap.size ≤ GX := by rw [HGX.out]; exact Nat.le_refl _
        have hb := below_hd4 HE.out.1 hle (.int .i64 r.gen) (.int .i64 r.half) (.int .i64 r.snap) (.int .i64 r.log)
        exact ⟨H7.out.trans (hb.mono H7.out.size), set4_blk HE.out.2 _ _ _ _⟩
      rw [hw8]
      clear hw8 HE
      obtain ⟨x0, x1, x2, x3, x4, x5, x6⟩ := (HZX.out w8 (HBW.out.2.trans (H8.out.1.mono HBW.out.2.size))).1
      have HDG := Lib.hid (HDF.out w8 H8.out.1)
      go_wp2_with fail
      refine (HDG.out).mono ?_
      rintro e w9 ⟨rfl, hb⟩
      have H9 : Hid (Below wr.heap.size wr w9 ∧ Blk w9 GX 23 (hdC r)) := ⟨H8.out.1.trans (hb.mono H8.out.1.size), H8.out.2.grow hb⟩
      clear hb HDG HDF x0 x1 x2 x3 x4 x5 x6
      obtain ⟨GY, hGY⟩ : ∃ S, w9.heap.size = S := ⟨_, rfl⟩
      have HGY := Lib.hid hGY
      obtain ⟨wf, hwf⟩ : ∃ x, w9.alloc (.cells #[.int .i64 0, .int .i64 0, .int .i64 0, .int .i64 0] 33) = x := ⟨_, rfl⟩
      have HE : Hid (Below w9.heap.size w9 wf ∧ Blk wf GY 33 #[.int .i64 0, .int .i64 0, .int .i64 0, .int .i64 0]) := by
        rw [← hwf, ← hGY]
        exact ⟨(Below.refl _ _).alloc (Nat.le_refl _) _, Blk.new _ _ _⟩
      have z0 : wf.cell? ⟨GY, 0, none⟩ = some (.int .i64 0) := HE.out.2.cell 0
      have z1 : wf.cell? ⟨GY, 1, none⟩ = some (.int .i64 0) := HE.out.2.cell 1
      have z2 : wf.cell? ⟨GY, 2, none⟩ = some (.int .i64 0) := HE.out.2.cell 2
      have z3 : wf.cell? ⟨GY, 3, none⟩ = some (.int .i64 0) := HE.out.2.cell 3
      have y0 := HE.out.2.free 0
      have y1 := HE.out.2.free 1
      have y2 := HE.out.2.free 2
      have y3 := HE.out.2.free 3
      have ylt := HE.out.2.lt
      go_upto_region 15 with fail
      try rw [hwf]
      try rw [hGY]
      clear hwf hGY z0 z1 z2 z3 y0 y1 y2 y3 ylt
      obtain ⟨w10, hw10⟩ : ∃ WW, (((wf.setCell ⟨GY, 0, none⟩ (.int .i64 r.gen)).setCell ⟨GY, 1, none⟩ (.int .i64 r.half)).setCell ⟨GY, 2, none⟩ (.int .i64 r.snap)).setCell ⟨GY, 3, none⟩ (.int .i64 r.log) = WW := ⟨_, rfl⟩
      have H10 : Hid (Below w6.heap.size w6 w10 ∧ Blk w10 GX 23 (hdC r) ∧ Blk w10 GY 33 (hdC r)) := by
        rw [← hw10]
        have hle : w9.heap.size ≤ GY := by rw [HGY.out]; exact Nat.le_refl _
        have hb := below_hd4 HE.out.1 hle (.int .i64 r.gen) (.int .i64 r.half) (.int .i64 r.snap) (.int .i64 r.log)
        exact ⟨HBW.out.1.trans ((H9.out.1.trans (hb.mono H9.out.1.size)).mono HBW.out.1.size), H9.out.2.grow hb, set4_blk HE.out.2 _ _ _ _⟩
      rw [hw10]
      clear hw10 HE
      obtain ⟨x0, x1, x2, x3⟩ := H10.out.2.1.hd4c
      obtain ⟨y0, y1, y2, y3⟩ := H10.out.2.2.hd4c
      have hk2 : k < 2 := HKL.out
      cases q with
      | true =>
        go_wp2_with fail
        exact ⟨⟨k + 1, HKL.out, by go_num, H10.out.1⟩, by simp [intOf]; omega⟩
      | false =>
        have hrz := HZR.out rfl
        rw [hrz] at x0 x1 x2 x3
        have x0 : w10.cell? ⟨GX, 0, none⟩ = some (.int .i64 0) := x0
        have x1 : w10.cell? ⟨GX, 1, none⟩ = some (.int .i64 0) := x1
        have x2 : w10.cell? ⟨GX, 2, none⟩ = some (.int .i64 0) := x2
        have x3 : w10.cell? ⟨GX, 3, none⟩ = some (.int .i64 0) := x3
        go_wp2_with fail
        exact ⟨⟨k + 1, HKL.out, by go_num, H10.out.1⟩, by simp [intOf]; omega⟩
    · have hd : decide ((k : Int) < 2) = false := by simp; omega
      have hk2 : k = 2 := by omega
      subst hk2
      have HFW : Hid (Below w.heap.size w wr) := H4.out.trans ((H6.out.1.trans (hw.out.mono H6.out.1.size)).mono H4.out.size)
      clear hw
      go_wp2_with fail
      refine (HAW.out _).mono ?_
      rintro e wz ⟨rfl, hb⟩
      have HZ9 : Hid (Below w.heap.size w wz) := HFW.out.trans (hb.mono HFW.out.size)
      clear hb
      go_wp2_with fail
      go_ret
      exact ⟨rfl, HZ9.out⟩
end Go.Proofs.Ytdcjchakgfpgaaa
