/- Layer 14: package store: Format. -/
import Derived.Test.YtdcjchakgfpgaaaMq
namespace Go.Proofs.Ytdcjchakgfpgaaa
open Go.RowKit
open Go.Shelf
theorem below_set7 {B : Nat} {w w' : World} {g : Nat} (h : Below B w w') (hg : B ≤ g) (a b c d e f i : Value) : Below B w (((((((w'.setCell ⟨g, 0, none⟩ a).setCell ⟨g, 1, none⟩ b).setCell ⟨g, 2, none⟩ c).setCell ⟨g, 3, none⟩ d).setCell ⟨g, 4, none⟩ e).setCell ⟨g, 5, none⟩ f).setCell ⟨g, 6, none⟩ i) := ((((((h.setCell hg _).setCell hg _).setCell hg _).setCell hg _).setCell hg _).setCell hg _).setCell hg _
theorem set7_blk {w : World} {g : Nat} {tt : TypeId} {x0 x1 x2 x3 x4 x5 x6 : Value} (h : Blk w g tt #[x0, x1, x2, x3, x4, x5, x6]) (a b c d e f i : Value) : Blk (((((((w.setCell ⟨g, 0, none⟩ a).setCell ⟨g, 1, none⟩ b).setCell ⟨g, 2, none⟩ c).setCell ⟨g, 3, none⟩ d).setCell ⟨g, 4, none⟩ e).setCell ⟨g, 5, none⟩ f).setCell ⟨g, 6, none⟩ i) g tt #[a, b, c, d, e, f, i] := (((((((h.put 0 a #[a, x1, x2, x3, x4, x5, x6] rfl).put 1 b #[a, b, x2, x3, x4, x5, x6] rfl).put 2 c #[a, b, c, x3, x4, x5, x6] rfl).put 3 d #[a, b, c, d, x4, x5, x6] rfl).put 4 e #[a, b, c, d, e, x5, x6] rfl).put 5 f #[a, b, c, d, e, f, x6] rfl).put 6 i #[a, b, c, d, e, f, i] rfl)
set_option maxHeartbeats 4000000 in
set_option maxRecDepth 100000 in
theorem format_nil (w : World) : Calls Try.prog 14 #[.pointer none] w fun e w' => e = .returned (.int .i64 30) ∧ w = w' := by
  have HC := Lib.hid (capNil_c w)
  go_enter Try.func14, Try.ntmps14
  go_wp2_with fail
  refine (HC.out).mono ?_
  rintro e w1 ⟨rfl, rfl⟩
  go_wp2_with fail
  go_ret
  exact ⟨rfl, rfl⟩
set_option maxHeartbeats 4000000 in
set_option maxRecDepth 100000 in
theorem format_range (T : Nat → Prop) (w : World) (g : Nat) (d : DM) (hd : At12 T w g d) (ok : OkD d 1000) (hc : capI d = 0) :
    Calls Try.prog 14 #[ptrD g] w fun e w' => e = .returned (.int .i64 30) ∧ Below w.heap.size w w' := by
  have HC := Lib.hid (capD_c T w g d hd ok)
  rw [hc] at HC
  clear hd ok hc
  go_enter Try.func14, Try.ntmps14
  go_wp2_with fail
  refine (HC.out).mono ?_
  rintro e w1 ⟨rfl, hb⟩
  have H1 := Lib.hid hb
  clear hb
  go_wp2_with fail
  go_ret
  exact ⟨rfl, H1.out⟩
set_option maxHeartbeats 8000000 in
set_option maxRecDepth 100000 in
theorem format_c (T : Nat → Prop) (w : World) (g : Nat) (d : DM) (z : Nat) (m : Int) (hd : At12 T w g d) (ok : OkD d m) (hm0 : 0 ≤ m) (hm : m + 8 ≤ 1000) (hz : d.size = (z : Int)) (h4 : 4 ≤ d.sectors) (h32 : 32 ≤ z) (d1 d2 : DM) (hw : writeD d 0 (List.replicate z 0) = (d1, 0)) (hy : syncD d1 = (d2, 0)) (r : SM × Int) (hr : saveI ⟨d2, zeroHd, [], false⟩ zeroHd [] 0 = r) :
    Calls Try.prog 14 #[ptrD g] w fun e w' => ∃ T', e = .returned (.int .i64 r.2) ∧ At12 T' w' g r.1.d ∧ To T w T' w' := by
  have hz5 : z ≤ 512 := by have := ok.made.2.2.2; omega
  have hcp : 1 ≤ capI d := by
    have h1 := halfI_in ok.made h4
    unfold capI
    rw [if_neg (by omega), hz]
    have := Int.mul_le_mul h1.1 (show (1 : Int) ≤ (z : Int) by omega) (by decide) (by omega)
    omega
  have ok0 : OkD d 1000 := ok.mono (by omega)
  have HC := Lib.hid (capD_c T w g d hd ok0)
  have HD0 := Lib.hid hd
  have HSZ : Hid (∀ W, Below w.heap.size w W → Calls Try.prog 34 #[ptrD g] W fun e w' => e = .returned (.int .i64 (z : Int)) ∧ Below W.heap.size W w') := fun W hW => by
    have key := kSize_c T W g d (at_grow hd hW) ok0
    rw [hz] at key
    exact key
  have hbz : OkB (List.replicate z (0 : Int)) := fun x hx => by rw [(List.mem_replicate.1 hx).2]; decide
  have ok1 : OkD d1 (m + 1) := by have := ok.write 0 hbz; rw [hw] at this; exact this
  have ok2 : OkD d2 (m + 2) := by have := ok1.sync (by omega); rw [hy] at this; exact this.mono (by omega)
  have e1 : d1.size = d.size ∧ d1.sectors = d.sectors := by have := write_same d 0 (List.replicate z 0); rw [hw] at this; exact this
  have e2 : d2.size = d.size ∧ d2.sectors = d.sectors := by have := sync_same d1; rw [hy] at this; exact ⟨this.1.trans e1.1, this.2.trans e1.2⟩
  have HWR : Hid (∀ W v, Below w.heap.size w W → OwnB W w.heap.size v (List.replicate z 0) → Calls Try.prog 36 #[ptrD g, .int .i64 0, v] W fun e w' => ∃ T', e = .returned (.int .i64 0) ∧ At12 T' w' g d1 ∧ To T W T' w') := fun W v hW ho => by
    have key := kWrite_c T W g d 0 v _ (at_grow hd hW) ok0 (by unfold rngI; omega) ho.row ho.cap (by simp; omega) hbz (fun q e hT => by
      have h1 := at_lt hd hT
      have h2 := (ho.lt q e).1
      omega)
    rw [hw] at key
    exact key
  have HSY : Hid (∀ W T', At12 T' W g d1 → Calls Try.prog 37 #[ptrD g] W fun e w' => ∃ T'', e = .returned (.int .i64 0) ∧ At12 T'' w' g d2 ∧ To T' W T'' w') := fun W T' ha => by
    have key := kSync_c T' W g d1 ha (ok1.mono (by omega))
    rw [hy] at key
    exact key
  have HSV : Hid (∀ W T' a, At12 T' W g d2 → SAt T' W a g zeroHd (.slice none 0 0) [] false → Calls Try.prog 38 #[ptrD a, hdV zeroHd, .slice none 0 0, .int .i64 0] W fun e w' => ∃ T'', e = .returned (.int .i64 r.2) ∧ At12 T'' w' g r.1.d ∧ Keep (fun k => ¬ T' k ∧ k ≠ a) W w' ∧ ∀ k, T'' k → T' k ∨ k = a ∨ W.heap.size ≤ k) := fun W T' a ha hs => by
    have key := save_ss (s := ⟨d2, zeroHd, [], false⟩) (sv0 := .slice none 0 0) (sv := .slice none 0 0) (m := m + 2) zeroHd [] 0 ha ok2 (by dsimp only; rw [e2.1, hz, Int.toNat_natCast]; have : needN z 0 0 = 0 := by { unfold needN; rw [Nat.zero_add, Nat.sub_zero]; exact Nat.div_eq_of_lt (by omega) }; rw [show ([] : List Int).length = 0 from rfl, this]; omega) hs (World.ownsRow_nil _ _ _ _) (fun k e => by cases e) (by rw [e2.2]; exact h4) (by rw [e2.1, hz]; exact_mod_cast h32) (fun x hx => by cases hx) (by decide) (by decide) (by decide) (by decide) (by decide) (by rw [Nat.zero_mul]; exact Nat.zero_le _) (fun k => T' k ∨ k = a) (fun k hk => by
      rcases hk with h | h | h
      · exact .inl h
      · exact .inr h
      · cases h) W.heap.size (Nat.le_refl _) (fun k e => by cases e)
    rw [hr] at key
    refine key.mono ?_
    rintro e w' ⟨U', he, ⟨T2, sv2, a2, s2, hU⟩, hk, hn⟩
    refine ⟨T2, he, a2, hk, fun k hk2 => ?_⟩
    rcases hn k ((hU k).2 (.inl hk2)) with (h | h) | h
    · exact .inl h
    · exact .inr (.inl h)
    · exact .inr (.inr h)
  obtain ⟨cap, hcap⟩ : ∃ c, capI d = c := ⟨_, rfl⟩
  rw [hcap] at HC hcp
  have hc0 : ¬ cap = 0 := by omega
  have hc1 : decide (cap = 0) = false := decide_eq_false hc0
  have hmk : ∀ W : World, _ := fun W => make_b W z (by omega)
  obtain ⟨mc, hmc⟩ : ∃ mc, Array.replicate z (Value.int .u8 0) = mc := ⟨_, rfl⟩
  have HMC : Hid (mc = (bytV (List.replicate z 0)).toArray) := by rw [Hid, ← hmc]; simp [bytV]
  simp only [hmc] at hmk
  have HZ : Hid (z ≤ 512) := hz5
  clear hd ok hm0 hm hz h4 h32 hw hy hr hz5 ok0 hbz ok1 ok2 e1 e2 hcap hcp hmc
  go_enter Try.func14, Try.ntmps14
  go_wp2_with fail
  refine (HC.out).mono ?_
  rintro e w1 ⟨rfl, hb⟩
  have H1 := Lib.hid hb
  have HS1 := Lib.hid (HSZ.out w1 hb)
  clear hb
  go_wp2_with fail
  refine (HS1.out).mono ?_
  rintro e w2 ⟨rfl, hb⟩
  have H2 : Hid (Below w.heap.size w w2) := H1.out.trans (hb.mono H1.out.size)
  clear hb HS1
  obtain ⟨w3, hw3⟩ : ∃ x, w2.alloc (.cells mc 5) = x := ⟨_, rfl⟩
  obtain ⟨gz, hgz⟩ : ∃ x, w2.heap.size = x := ⟨_, rfl⟩
  have H3 : Hid (Below w.heap.size w w3 ∧ OwnB w3 w.heap.size (.slice (some ⟨gz, 0, none⟩) z z) (List.replicate z 0)) := by
    rw [← hw3, ← hgz]
    exact ⟨H2.out.alloc H2.out.size _, OwnB.madeL w2 H2.out.size _ z _ HMC.out (by simp) (by have := HZ.out; omega)⟩
  have HW1 := Lib.hid (HWR.out w3 _ H3.out.1 H3.out.2)
  go_wp2_with fail
  try rw [hw3]
  try rw [hgz]
  clear hw3 hgz hmk
  refine (HW1.out).mono ?_
  rintro e w4 ⟨T4, rfl, ha4, ht4⟩
  have H4 : Hid (At12 T4 w4 g d1 ∧ To T w T4 w4) := ⟨ha4, (To.below H3.out.1).trans ht4⟩
  have HY1 := Lib.hid (HSY.out w4 T4 ha4)
  clear ha4 ht4 HW1
  go_wp2_with fail
  refine (HY1.out).mono ?_
  rintro e w5 ⟨T5, rfl, ha5, ht5⟩
  have H5 : Hid (At12 T5 w5 g d2 ∧ To T w T5 w5) := ⟨ha5, H4.out.2.trans ht5⟩
  clear ha5 ht5 HY1
  obtain ⟨a, hae⟩ : ∃ S, w5.heap.size = S := ⟨_, rfl⟩
  have HAE := Lib.hid hae
  obtain ⟨we, hwe⟩ : ∃ x, w5.alloc (.cells #[.pointer none, .int .i64 0, .int .i64 0, .int .i64 0, .int .i64 0, .slice none 0 0, .bool false] 73) = x := ⟨_, rfl⟩
  have HE : Hid (Below w5.heap.size w5 we ∧ Blk we a 73 #[.pointer none, .int .i64 0, .int .i64 0, .int .i64 0, .int .i64 0, .slice none 0 0, .bool false]) := by
    rw [← hwe, ← hae]
    exact ⟨(Below.refl _ _).alloc (Nat.le_refl _) _, Blk.new _ _ _⟩
  have z0 : we.cell? ⟨a, 0, none⟩ = some (.pointer none) := HE.out.2.cell 0
  have z1 : we.cell? ⟨a, 1, none⟩ = some (.int .i64 0) := HE.out.2.cell 1
  have z2 : we.cell? ⟨a, 2, none⟩ = some (.int .i64 0) := HE.out.2.cell 2
  have z3 : we.cell? ⟨a, 3, none⟩ = some (.int .i64 0) := HE.out.2.cell 3
  have z4 : we.cell? ⟨a, 4, none⟩ = some (.int .i64 0) := HE.out.2.cell 4
  have z5 : we.cell? ⟨a, 5, none⟩ = some (.slice none 0 0) := HE.out.2.cell 5
  have z6 : we.cell? ⟨a, 6, none⟩ = some (.bool false) := HE.out.2.cell 6
  have y0 := HE.out.2.free 0
  have y1 := HE.out.2.free 1
  have y2 := HE.out.2.free 2
  have y3 := HE.out.2.free 3
  have y4 := HE.out.2.free 4
  have y5 := HE.out.2.free 5
  have y6 := HE.out.2.free 6
  have ylt := HE.out.2.lt
  go_upto_region 10 with fail
  try rw [hwe]
  try rw [hae]
  clear hwe hae z0 z1 z2 z3 z4 z5 z6 y0 y1 y2 y3 y4 y5 y6 ylt
  obtain ⟨w6, hw6⟩ : ∃ WW, ((((((we.setCell ⟨a, 0, none⟩ (ptrD g)).setCell ⟨a, 1, none⟩ (.int .i64 0)).setCell ⟨a, 2, none⟩ (.int .i64 0)).setCell ⟨a, 3, none⟩ (.int .i64 0)).setCell ⟨a, 4, none⟩ (.int .i64 0)).setCell ⟨a, 5, none⟩ (.slice none 0 0)).setCell ⟨a, 6, none⟩ (.bool false) = WW := ⟨_, rfl⟩
  have H6 : Hid (Below w5.heap.size w5 w6 ∧ SAt T5 w6 a g zeroHd (.slice none 0 0) [] false) := by
    rw [← hw6]
    have hle : w5.heap.size ≤ a := by rw [HAE.out]; exact Nat.le_refl _
    refine ⟨below_set7 HE.out.1 hle _ _ _ _ _ _ _, set7_blk HE.out.2 _ _ _ _ _ _ _, World.ownsRow_nil _ _ _ _, fun hT => ?_, fun k e => by cases e⟩
    have := at_lt H5.out.1 hT
    omega
  rw [hw6]
  clear hw6 HE
  have HV1 := Lib.hid (HSV.out w6 T5 a (at_grow H5.out.1 H6.out.1) H6.out.2)
  go_wp2_with fail
  refine (HV1.out).mono ?_
  rintro e w7 ⟨T7, rfl, ha7, hk7, hn7⟩
  have H7 : Hid (At12 T7 w7 g r.1.d ∧ To T w T7 w7) := by
    have h56 := H5.out.2.trans (To.below H6.out.1)
    have h5 := H5.out.2.keep.size
    have h6 := H6.out.1.size
    have h8 := HAE.out
    refine ⟨ha7, ⟨hk7.os.trans h56.keep.os, hk7.tape.trans h56.keep.tape, hk7.output.trans h56.keep.output, Nat.le_trans h56.keep.size hk7.size, fun q hq hl => ?_⟩, fun q hq => ?_⟩
    · rw [hk7.block q ⟨fun hT => (h56.new q hT).elim hq (fun h => by omega), by omega⟩ (Nat.lt_of_lt_of_le hl h56.keep.size)]
      exact h56.keep.block q hq hl
    · rcases hn7 q hq with h | h | h
      · exact h56.new q h
      · exact .inr (by omega)
      · exact .inr (by omega)
  clear ha7 hk7 hn7 HV1
  go_wp2_with fail
  go_ret
  exact ⟨T7, rfl, H7.out⟩
end Go.Proofs.Ytdcjchakgfpgaaa
